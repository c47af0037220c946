/- Geometries: where a page stands, and its number. -/
import Derived.Test.YtmmpcgmhcaianaaGb
namespace Go.Proofs.Ytmmpcgmhcaianaa.Ge
open Go.RowKit

theorem res3 {fn : Func} {t u v : Tmp} (h : fn.results = #[.tmp t, .tmp u, .tmp v]) (tmps : Array Value) (P : Program) (w : World) :
    (results fn tmps).run P w = .ok (.tuple #[tmps.getD t undef, tmps.getD u undef, tmps.getD v undef]) w := by
  simp [results, h]
/-- is that a page's number? -/
def isP (B P W K n : Int) : Bool := decide (0 ≤ n) && decide (n < cntG B P W K)
theorem cnt_may {B P W K : Int} {n : Nat} (h : (n : Int) < cntG B P W K) : mayG B P W K = true := by
  cases hM : mayG B P W K
  · unfold cntG at h
    rw [hM, if_neg (by simp)] at h
    omega
  · rfl
set_option maxHeartbeats 1000000 in
theorem place_no (B P W K n : Int) (w : World) (h : isP B P W K n = false) : Calls Try.prog 15 #[.agg #[.int .i64 B, .int .i64 P, .int .i64 W, .int .i64 K], .int .i64 n] w (Ans w (.tuple #[.int .i64 0, .int .i64 0, .bool false])) := by
  have hb := below_alloc w (.cells #[.int .i64 B, .int .i64 P, .int .i64 W, .int .i64 K] 23)
  have hx := Lib.hid (Box.new w B P W K)
  have hc := Lib.hid (count_any B P W K (w.alloc (.cells #[.int .i64 B, .int .i64 P, .int .i64 W, .int .i64 K] 23)))
  replace hb := Lib.hid hb
  obtain ⟨c, hcc⟩ : ∃ c, cntG B P W K = c := ⟨_, rfl⟩
  unfold isP at h
  rw [hcc] at hc h
  clear hcc
  rcases Int.lt_or_le n 0 with h0 | h0
  · go_enter Try.func15, Try.ntmps15
    go_wp2_with fail
    ((try simp only [Exit.inBlock, Exit.then]); refine bodyPost_ret (res3 rfl _ _ _) rfl ?_)
    exact ⟨rfl, hb.out⟩
  · have h1 : c ≤ n := by
      rw [decide_eq_true h0, Bool.true_and, decide_eq_false_iff_not] at h
      omega
    clear h
    go_enter Try.func15, Try.ntmps15
    go_wp2_with (go_at_call 14; (with_reducible refine hc.out.mono ?_); rintro e w1 ⟨rfl, hb1⟩; have hb2 := Lib.hid (hb.out.trans (hb1.mono hb.out.size)); obtain ⟨hlt, c0, c1, c2, c3⟩ := hx.out.keep hb1; clear hb1)
    ((try simp only [Exit.inBlock, Exit.then]); refine bodyPost_ret (res3 rfl _ _ _) rfl ?_)
    exact ⟨rfl, hb2.out⟩
set_option maxHeartbeats 1000000 in
theorem place_yes (B W K : Int) (p n : Nat) (w : World) (h : (n : Int) < cntG B p W K) : Calls Try.prog 15 #[.agg #[.int .i64 B, .int .i64 (p : Int), .int .i64 W, .int .i64 K], .int .i64 (n : Int)] w (Ans w (.tuple #[.int .i64 ((n / p : Nat) : Int), .int .i64 ((n % p : Nat) : Int), .bool true])) := by
  have hM := cnt_may h
  obtain ⟨h1, h2, h3, h4, _⟩ := may_of hM
  have hle : (n : Int) < 2048 := by
    unfold cntG at h
    rw [if_pos hM] at h
    have := bp_le (by omega : 0 ≤ B) h2 (by omega : (0 : Int) ≤ p) h4
    omega
  have h5 : (p : Int) ≠ 0 := by omega
  have hq : wrap64 ((n : Int) / (p : Int)) = ((n / p : Nat) : Int) := by
    rw [← Int.natCast_ediv]
    have : n / p ≤ n := Nat.div_le_self _ _
    generalize n / p = q at this
    exact IntWalk.wrap64_in _ (by omega)
  clear hM
  have hb := below_alloc w (.cells #[.int .i64 B, .int .i64 (p : Int), .int .i64 W, .int .i64 K] 23)
  have hx := Lib.hid (Box.new w B (p : Int) W K)
  have hc := Lib.hid (count_any B (p : Int) W K (w.alloc (.cells #[.int .i64 B, .int .i64 (p : Int), .int .i64 W, .int .i64 K] 23)))
  replace hb := Lib.hid hb
  obtain ⟨c, hcc⟩ : ∃ c, cntG B (p : Int) W K = c := ⟨_, rfl⟩
  rw [hcc] at hc h
  clear hcc h1 h2 h3 h4 hle
  go_enter Try.func15, Try.ntmps15
  go_wp2_with (go_at_call 14; (with_reducible refine hc.out.mono ?_); rintro e w1 ⟨rfl, hb1⟩; have hb2 := Lib.hid (hb.out.trans (hb1.mono hb.out.size)); obtain ⟨hlt, c0, c1, c2, c3⟩ := hx.out.keep hb1; clear hb1)
  go_quiet (fail)
  go_wp2
  ((try simp only [Exit.inBlock, Exit.then]); refine bodyPost_ret (res3 rfl _ _ _) rfl ?_)
  refine ⟨?_, hb2.out.trans (Below.mono (below_drewN _ _) hb2.out.size)⟩
  show Ending.returned (.tuple #[.int .i64 (wrap64 ((n : Int) / (p : Int))), .int .i64 ((n : Int) % (p : Int)), .bool true]) = _
  rw [hq]
  rfl
/-- is there that page of that block? -/
def isN (B P W K b p : Int) : Bool := mayG B P W K && (decide (0 ≤ b) && decide (b ≤ B - 1)) && (decide (0 ≤ p) && decide (p ≤ P - 1))
def numG (B P W K b p : Int) : Int := if isN B P W K b p = true then b * P + p else 0

end Go.Proofs.Ytmmpcgmhcaianaa.Ge
