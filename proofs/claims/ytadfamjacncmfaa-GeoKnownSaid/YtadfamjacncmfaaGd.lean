/- Geometries: contracts at numbers that are known; regions that draw their order; the document's example. -/
import Derived.Test.YtadfamjacncmfaaGc
import Derived.Test.YtadfamjacncmfaaRows
import Derived.Test.YtadfamjacncmfaaCl
namespace Go.Proofs.Ytadfamjacncmfaa
open Go.RowKit

theorem ans_of {f : FuncId} {args : Array Value} {B : Nat} {w₀ : World} {x : Cl.After B w₀} {v : Value} (hB : B ≤ w₀.heap.size) (h : Calls Try.prog f args x.w (Ans x.w v)) :
    Calls Try.prog f args x.w fun e w'' => e = .returned v ∧ ∃ y : Cl.After B w₀, w'' = y.w := Cl.after_of hB h
/-- a geometry's block, in each of the worlds behind one -/
theorem Box.aft {w : World} {g : Nat} {B P W K : Int} (h : Box w g B P W K) (x : Cl.After w.heap.size w) : Box x.w g B P W K := h.keep x.below
theorem may_lit {B P W K : Int} {b : Bool} (h : mayG B P W K = b) (w : World) : Calls Try.prog 12 #[.agg #[.int .i64 B, .int .i64 P, .int .i64 W, .int .i64 K]] w (Ans w (.bool b)) := by subst h; exact may_any B P W K w
theorem refmay_lit {B P W K : Int} {b : Bool} (h : mayG B P W K = b) (w : World) : Calls Try.prog 9 #[.agg #[.int .i64 B, .int .i64 P, .int .i64 W, .int .i64 K]] w (Ans w (.bool b)) := by subst h; exact refmay_any B P W K w
theorem cells_lit {B P W K n : Int} (h : celG B P W K = n) (w : World) : Calls Try.prog 13 #[.agg #[.int .i64 B, .int .i64 P, .int .i64 W, .int .i64 K]] w (Ans w (.int .i64 n)) := by subst h; exact cells_any B P W K w
theorem refcells_lit {B P W K n : Int} (h : celG B P W K = n) (w : World) : Calls Try.prog 14 #[.agg #[.int .i64 B, .int .i64 P, .int .i64 W, .int .i64 K]] w (Ans w (.int .i64 n)) := by subst h; exact refcells_any B P W K w
theorem size_lit {B P W K n : Int} (h : sizG B P W K = n) (w : World) : Calls Try.prog 15 #[.agg #[.int .i64 B, .int .i64 P, .int .i64 W, .int .i64 K]] w (Ans w (.int .i64 n)) := by subst h; exact size_any B P W K w
theorem refsize_lit {B P W K n : Int} (h : sizG B P W K = n) (w : World) : Calls Try.prog 16 #[.agg #[.int .i64 B, .int .i64 P, .int .i64 W, .int .i64 K]] w (Ans w (.int .i64 n)) := by subst h; exact refsize_any B P W K w
theorem count_lit {B P W K n : Int} (h : cntG B P W K = n) (w : World) : Calls Try.prog 17 #[.agg #[.int .i64 B, .int .i64 P, .int .i64 W, .int .i64 K]] w (Ans w (.int .i64 n)) := by subst h; exact count_any B P W K w
theorem lpns_lit {B P W K s n : Int} (hs : -9223372036854775808 ≤ s ∧ s ≤ 9223372036854775807) (h : lpnG B P W K s = n) (w : World) : Calls Try.prog 18 #[.agg #[.int .i64 B, .int .i64 P, .int .i64 W, .int .i64 K], .int .i64 s] w (Ans w (.int .i64 n)) := by subst h; exact lpns_any B P W K s w hs
theorem reflpns_lit {B P W K s n : Int} (hs : -9223372036854775808 ≤ s ∧ s ≤ 9223372036854775807) (h : lpnG B P W K s = n) (w : World) : Calls Try.prog 19 #[.agg #[.int .i64 B, .int .i64 P, .int .i64 W, .int .i64 K], .int .i64 s] w (Ans w (.int .i64 n)) := by subst h; exact reflpns_any B P W K s w hs
theorem number_lit {B P W K b p n : Int} {i : Bool} (hi : isN B P W K b p = i) (h : numG B P W K b p = n) (w : World) : Calls Try.prog 11 #[.agg #[.int .i64 B, .int .i64 P, .int .i64 W, .int .i64 K], .int .i64 b, .int .i64 p] w (Ans w (.tuple #[.int .i64 n, .bool i])) := by subst hi h; exact number_any B P W K b p w
theorem place_lit {B P W K n q r : Int} (h : isP B P W K n = true) (hq : n / P = q) (hr : n % P = r) (w : World) : Calls Try.prog 10 #[.agg #[.int .i64 B, .int .i64 P, .int .i64 W, .int .i64 K], .int .i64 n] w (Ans w (.tuple #[.int .i64 q, .int .i64 r, .bool true])) := by
  unfold isP at h
  rw [Bool.and_eq_true, decide_eq_true_eq, decide_eq_true_eq] at h
  obtain ⟨h1, h2⟩ := h
  obtain ⟨m, rfl⟩ : ∃ m : Nat, n = (m : Int) := ⟨n.toNat, by omega⟩
  have hM := cnt_may h2
  obtain ⟨_, _, h3, _⟩ := may_of hM
  obtain ⟨p, rfl⟩ : ∃ p : Nat, P = (p : Int) := ⟨P.toNat, by omega⟩
  have e1 : ((m / p : Nat) : Int) = q := by rw [← hq]; exact Int.natCast_ediv _ _
  have e2 : ((m % p : Nat) : Int) = r := by rw [← hr]; exact Int.natCast_emod _ _
  have := place_yes B W K p m w h2
  rw [e1, e2] at this
  exact this
set_option maxHeartbeats 1000000 in
theorem awake_any (w : World) : Calls Try.prog 8 #[] w (Ans w (.bool true)) := by
  have hb := Lib.hid (below_alloc w (.cells #[.int .i64 8, .int .i64 4, .int .i64 1, .int .i64 12] 23))
  have hx := Lib.hid (Box.new w 8 4 1 12)
  have cp := Lib.hid (place_lit (B := 8) (P := 4) (W := 1) (K := 12) (n := 9) (q := 2) (r := 1) (by decide +kernel) (by decide) (by decide))
  have cn := Lib.hid (number_lit (B := 8) (P := 4) (W := 1) (K := 12) (b := 2) (p := 1) (n := 9) (i := true) (by decide +kernel) (by decide +kernel))
  have cm := Lib.hid (may_lit (B := 8) (P := 4) (W := 1) (K := 12) (b := true) (by decide +kernel))
  have cl := Lib.hid (lpns_lit (B := 8) (P := 4) (W := 1) (K := 12) (s := 1) (n := 8) (by decide) (by decide +kernel))
  have cc := Lib.hid (cells_lit (B := 8) (P := 4) (W := 1) (K := 12) (n := 28) (by decide +kernel))
  have cs := Lib.hid (size_lit (B := 8) (P := 4) (W := 1) (K := 12) (n := 5) (by decide +kernel))
  have ct := Lib.hid (count_lit (B := 8) (P := 4) (W := 1) (K := 12) (n := 32) (by decide +kernel))
  go_enter Try.func8, Try.ntmps8
  go_wp2_with (first
    | (go_at_call 10; (with_reducible refine (cp.out _).mono ?_); rintro e w1 ⟨rfl, hb1⟩; have hb := Lib.hid (hb.out.trans (hb1.mono hb.out.size)); have hx := Lib.hid (hx.out.keep hb1); obtain ⟨_, c0, c1, c2, c3⟩ := hx.out; clear hb1)
    | (go_at_call 11; (with_reducible refine (cn.out _).mono ?_); rintro e w1 ⟨rfl, hb1⟩; have hb := Lib.hid (hb.out.trans (hb1.mono hb.out.size)); have hx := Lib.hid (hx.out.keep hb1); obtain ⟨_, c0, c1, c2, c3⟩ := hx.out; clear hb1)
    | (go_at_call 12; (with_reducible refine (cm.out _).mono ?_); rintro e w1 ⟨rfl, hb1⟩; have hb := Lib.hid (hb.out.trans (hb1.mono hb.out.size)); have hx := Lib.hid (hx.out.keep hb1); obtain ⟨_, c0, c1, c2, c3⟩ := hx.out; clear hb1)
    | (go_at_call 18; (with_reducible refine (cl.out _).mono ?_); rintro e w1 ⟨rfl, hb1⟩; have hb := Lib.hid (hb.out.trans (hb1.mono hb.out.size)); have hx := Lib.hid (hx.out.keep hb1); obtain ⟨_, c0, c1, c2, c3⟩ := hx.out; clear hb1)
    | (go_at_call 13; (with_reducible refine (cc.out _).mono ?_); rintro e w1 ⟨rfl, hb1⟩; have hb := Lib.hid (hb.out.trans (hb1.mono hb.out.size)); have hx := Lib.hid (hx.out.keep hb1); obtain ⟨_, c0, c1, c2, c3⟩ := hx.out; clear hb1)
    | (go_at_call 15; (with_reducible refine (cs.out _).mono ?_); rintro e w1 ⟨rfl, hb1⟩; have hb := Lib.hid (hb.out.trans (hb1.mono hb.out.size)); have hx := Lib.hid (hx.out.keep hb1); obtain ⟨_, c0, c1, c2, c3⟩ := hx.out; clear hb1)
    | (go_at_call 17; (with_reducible refine (ct.out _).mono ?_); rintro e w1 ⟨rfl, hb1⟩; have hb := Lib.hid (hb.out.trans (hb1.mono hb.out.size)); have hx := Lib.hid (hx.out.keep hb1); obtain ⟨_, c0, c1, c2, c3⟩ := hx.out; clear hb1))
  go_ret
  exact ⟨rfl, hb.out⟩
theorem lex3_15 : (Cl.opsAt 15 (Try.f3.body.getD .skip)).map (Region.lexB .any) = some true := by kernel_rfl
theorem lex4_8 : (Cl.opsAt 8 (Try.f4.body.getD .skip)).map (Region.lexB .any) = some true := by kernel_rfl
theorem lex6_3 : (Cl.opsAt 3 (Try.f6.body.getD .skip)).map (Region.lexB .any) = some true := by kernel_rfl
theorem lex6_7 : (Cl.opsAt 7 (Try.f6.body.getD .skip)).map (Region.lexB .any) = some true := by kernel_rfl
theorem lex7_7 : (Cl.opsAt 7 (Try.f7.body.getD .skip)).map (Region.lexB .any) = some true := by kernel_rfl
theorem lex7_8 : (Cl.opsAt 8 (Try.f7.body.getD .skip)).map (Region.lexB .any) = some true := by kernel_rfl
end Go.Proofs.Ytadfamjacncmfaa
