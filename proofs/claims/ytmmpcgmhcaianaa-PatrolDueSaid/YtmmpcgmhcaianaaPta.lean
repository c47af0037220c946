/- PATROLS, BY THEIR CONTRACTS ALONE: what a patrol's functions answer, as a structure; the laws of chapter 19 are proved for whatever has it. -/
import Derived.Test.YtmmpcgmhcaianaaGb
import Derived.Test.YtmmpcgmhcaianaaWra
import Derived.Test.YtmmpcgmhcaianaaTr
namespace Go.Proofs.Ytmmpcgmhcaianaa.Pt
open Go.RowKit Go.Proofs.Ytmmpcgmhcaianaa.Ge
set_option linter.unusedVariables false
set_option linter.unusedSimpArgs false
attribute [local go_sem ↓] Cl.quiet_since
/-- which page the k-th call tells -/
def visI (B P W K k : Int) : Int × Int := if mayG B P W K = true ∧ 0 ≤ k then ((k % (B * P)) / P, (k % (B * P)) % P) else (0, 0)
/-- how many rounds k calls are -/
def rdI (B P W K : Int) (k : Nat) : Int := if mayG B P W K = true then (k : Int) / (B * P) else 0
/-- is one of the first n rows due? -/
def dueF (f : Nat → Int × Bool) : Nat → Bool
  | 0 => false
  | n + 1 => dueF f n || (decide (4 ≤ (f n).1) && (f n).2)
/-- the slice with address A holds n rows, below block L -/
def DB (w : World) (L : Nat) (A : Option Addr) (n : Nat) (f : Nat → Int × Bool) : Prop := n = 0 ∨ ∃ a, A = some a ∧ a.block < L ∧ ∀ i, i < n → w.cell? (a.add (i * 2)) = some (.int .i64 (f i).1) ∧ w.cell? (a.add (i * 2 + 1)) = some (.bool (f i).2)
section
variable {w w' : World} {L : Nat} {A : Option Addr} {n : Nat} {f : Nat → Int × Bool}
theorem DB.nil (w : World) (L : Nat) (A : Option Addr) (f : Nat → Int × Bool) : DB w L A 0 f := Or.inl rfl
theorem DB.below (h : DB w L A n f) (hb : Below L w w') : DB w' L A n f := by
  rcases h with e | ⟨a, e, h1, h2⟩
  · exact Or.inl e
  · exact Or.inr ⟨a, e, h1, fun i hi => ⟨(hb.cell (by rw [We.add_block]; exact h1)).trans (h2 i hi).1, (hb.cell (by rw [We.add_block]; exact h1)).trans (h2 i hi).2⟩⟩
theorem DB.more {L' : Nat} (h : DB w L A n f) (hb : L ≤ L') : DB w L' A n f := by
  rcases h with e | ⟨a, e, h1, h2⟩
  · exact Or.inl e
  · exact Or.inr ⟨a, e, Nat.lt_of_lt_of_le h1 hb, h2⟩
theorem DB.congr (h : DB w L A n f) {f' : Nat → Int × Bool} (e : ∀ i, i < n → f i = f' i) : DB w L A n f' := by
  rcases h with e0 | ⟨a, e0, h1, h2⟩
  · exact Or.inl e0
  · exact Or.inr ⟨a, e0, h1, fun i hi => by rw [← e i hi]; exact h2 i hi⟩
theorem DB.at_ (h : DB w L A n f) {i : Nat} (hi : i < n) : ∃ a, A = some a ∧ a.block < L ∧ w.cell? (a.add (i * 2)) = some (.int .i64 (f i).1) ∧ w.cell? (a.add (i * 2 + 1)) = some (.bool (f i).2) ∧ w.cell? ⟨(a.add (i * 2)).block, (a.add (i * 2)).off + 1, none⟩ = some (.bool (f i).2) := by
  rcases h with e | ⟨a, e, h1, h2⟩
  · rw [e] at hi; exact absurd hi (by simp)
  · refine ⟨a, e, h1, (h2 i hi).1, (h2 i hi).2, ?_⟩
    have g := (h2 i hi).2
    rw [We.add_pos _ _ (by omega)] at g
    have e1 : (a.add (i * 2)).off + 1 = a.off + (i * 2 + 1) := by unfold Addr.add; split <;> simp <;> omega
    rw [We.add_block, e1]
    exact g
theorem dueF_congr {f f' : Nat → Int × Bool} : ∀ n, (∀ i, i < n → f i = f' i) → dueF f n = dueF f' n
  | 0, _ => rfl
  | n + 1, h => by unfold dueF; rw [dueF_congr n fun i hi => h i (by omega), h n (by omega)]
end
/-- within the patrol's own blocks alone -/
abbrev Out (lo hi : Nat) (q : Nat) : Prop := ¬ (lo ≤ q ∧ q < hi)
/-- WHAT A PATROL's FUNCTIONS ANSWER: Q w lo hi G B P W K k says that in w the box in G is a patrol of that geometry of which k calls were made, within blocks lo .. hi -/
structure PC (Q : World → Nat → Nat → Nat → Int → Int → Int → Int → Nat → Prop) : Prop where
  keep : ∀ {w w' : World} {lo hi G : Nat} {B P W K : Int} {k : Nat}, Q w lo hi G B P W K k → (∀ b, lo ≤ b → b < hi → b < w.heap.size → w'.heap[b]? = w.heap[b]?) → Q w' lo hi G B P W K k
  new : ∀ (w : World) (B P W K : Int), Calls Try.prog 8 #[.agg #[.int .i64 B, .int .i64 P, .int .i64 W, .int .i64 K]] w fun e w' => ∃ G, e = .returned (.pointer (some ⟨G, 0, none⟩)) ∧ Below w.heap.size w w' ∧ Q w' w.heap.size w'.heap.size G B P W K 0
  next : ∀ {w : World} {lo hi G : Nat} {B P W K : Int} {k : Nat}, Q w lo hi G B P W K k → k ≤ 1000000 → Calls Try.prog 10 #[.pointer (some ⟨G, 0, none⟩)] w fun e w' => e = .returned (.tuple #[.int .i64 (visI B P W K (k : Int)).1, .int .i64 (visI B P W K (k : Int)).2]) ∧ Cl.Keeps (Out lo hi) w w' ∧ Q w' lo hi G B P W K (k + 1)
  rounds : ∀ {w : World} {lo hi G : Nat} {B P W K : Int} {k : Nat}, Q w lo hi G B P W K k → k ≤ 1000000 → Calls Try.prog 12 #[.pointer (some ⟨G, 0, none⟩)] w (We.Ans w (.int .i64 (rdI B P W K k)))
  visit : ∀ (w : World) (B P W K k : Int), (Lit.int .i64 k).wf = true → Calls Try.prog 11 #[.agg #[.int .i64 B, .int .i64 P, .int .i64 W, .int .i64 K], .int .i64 k] w (We.Ans w (.tuple #[.int .i64 (visI B P W K k).1, .int .i64 (visI B P W K k).2]))
  due : ∀ {w : World} {A : Option Addr} {n c : Nat} {f : Nat → Int × Bool}, DB w w.heap.size A n f → n ≤ 1000000 → Calls Try.prog 13 #[.slice A n c] w (We.Ans w (.bool (dueF f n)))
theorem below_out {w0 w w' : World} {lo hi : Nat} (hB : Below w0.heap.size w0 w) (hlo : w0.heap.size ≤ lo) (k : Cl.Keeps (Out lo hi) w w') : Below w0.heap.size w0 w' :=
  ⟨k.os.trans hB.os, k.tape.trans hB.tape, k.output.trans hB.output, Nat.le_trans hB.size k.size, fun q hq => (k.block q (Nat.lt_of_lt_of_le hq hB.size) (by unfold Out; omega)).trans (hB.block q hq)⟩
section
variable {Q : World → Nat → Nat → Nat → Int → Int → Int → Int → Nat → Prop} (C : PC Q) {w0 w w' : World} {lo hi G : Nat} {B P W K : Int} {k : Nat}
include C
theorem PC.below (h : Q w lo hi G B P W K k) (hb : Below w.heap.size w w') : Q w' lo hi G B P W K k := C.keep h fun b _ _ hl => hb.block b hl
theorem PC.keeps (h : Q w lo hi G B P W K k) {S : Nat → Prop} (hk : Cl.Keeps S w w') (hS : ∀ b, lo ≤ b → b < hi → S b) : Q w' lo hi G B P W K k := C.keep h fun b h1 h2 h3 => hk.block b h3 (hS b h1 h2)
theorem next_lit (hB : Below w0.heap.size w0 w) (hlo : w0.heap.size ≤ lo) (h : Q w lo hi G B P W K k) (hk : k ≤ 1000000) (x y : Int) (hx : visI B P W K (k : Int) = (x, y)) :
    Calls Try.prog 10 #[.pointer (some ⟨G, 0, none⟩)] w fun e w' => e = .returned (.tuple #[.int .i64 x, .int .i64 y]) ∧ Below w0.heap.size w0 w' ∧ Q w' lo hi G B P W K (k + 1) ∧ Cl.Keeps (Out lo hi) w w' := by
  have h1 := C.next h hk
  rw [hx] at h1
  exact h1.mono fun e w' ⟨h1, h2, h3⟩ => ⟨h1, below_out hB hlo h2, h3, h2⟩
theorem rounds_lit (hB : Below w0.heap.size w0 w) (h : Q w lo hi G B P W K k) (hk : k ≤ 1000000) (x : Int) (hx : rdI B P W K k = x) :
    Calls Try.prog 12 #[.pointer (some ⟨G, 0, none⟩)] w fun e w' => e = .returned (.int .i64 x) ∧ Below w0.heap.size w0 w' ∧ Q w' lo hi G B P W K k ∧ Below w.heap.size w w' := by
  subst hx
  exact (C.rounds h hk).mono fun e w' ⟨h1, h2⟩ => ⟨h1, We.below_trans hB h2, C.below h h2, h2⟩
theorem visit_lit (w : World) (B P W K k : Int) (hk : (Lit.int .i64 k).wf = true) (x y : Int) (hx : visI B P W K k = (x, y)) :
    Calls Try.prog 11 #[.agg #[.int .i64 B, .int .i64 P, .int .i64 W, .int .i64 K], .int .i64 k] w (We.Ans w (.tuple #[.int .i64 x, .int .i64 y])) := by
  have h1 := C.visit w B P W K k hk
  rw [hx] at h1
  exact h1
theorem due_lit {A : Option Addr} {n c : Nat} {f : Nat → Int × Bool} (h : DB w w.heap.size A n f) (hn : n ≤ 1000000) (r : Bool) (hr : dueF f n = r) : Calls Try.prog 13 #[.slice A n c] w (We.Ans w (.bool r)) := by
  subst hr
  exact C.due h hn
end
theorem db_one (w : World) (x : Int) (b : Bool) : DB (w.alloc (.cells #[.int .i64 x, .bool b] 36)) (w.alloc (.cells #[.int .i64 x, .bool b] 36)).heap.size (some ⟨w.heap.size, 0, none⟩) 1 (fun _ => (x, b)) := by
  refine Or.inr ⟨_, rfl, by rw [World.size_alloc]; exact Nat.lt_succ_self _, fun i hi => ?_⟩
  obtain rfl : i = 0 := by omega
  exact ⟨We.cell_new w _ _ 0, We.cell_new w _ _ 1⟩
theorem db_two (w : World) (x y : Int) (b c : Bool) : DB (w.alloc (.cells #[.int .i64 x, .bool b, .int .i64 y, .bool c] 36)) (w.alloc (.cells #[.int .i64 x, .bool b, .int .i64 y, .bool c] 36)).heap.size (some ⟨w.heap.size, 0, none⟩) 2 (fun i => if i = 0 then (x, b) else (y, c)) := by
  refine Or.inr ⟨_, rfl, by rw [World.size_alloc]; exact Nat.lt_succ_self _, fun i hi => ?_⟩
  rcases (show i = 0 ∨ i = 1 by omega) with rfl | rfl
  · exact ⟨We.cell_new w _ _ 0, We.cell_new w _ _ 1⟩
  · exact ⟨We.cell_new w _ _ 2, We.cell_new w _ _ 3⟩
theorem vis4 (n : Nat) : visI 4 2 1 9 (n : Int) = (((n % 8 / 2 : Nat) : Int), ((n % 2 : Nat) : Int)) := by
  unfold visI
  rw [if_pos ⟨by decide +kernel, by omega⟩]
  refine Prod.ext ?_ ?_
  · show (n : Int) % (4 * 2) / 2 = _
    omega
  · show (n : Int) % (4 * 2) % 2 = _
    omega
section
variable {Q : World → Nat → Nat → Nat → Int → Int → Int → Int → Nat → Prop}
set_option maxRecDepth 20000 in
set_option maxHeartbeats 8000000 in
theorem awake_any (C : PC Q) (w : World) : Calls Try.prog 7 #[] w (We.Ans w (.bool true)) := by
  have h1 := Lib.hid (C.new w 4 2 1 9)
  have C' := Lib.hid C
  clear C
  go_enter Try.func7, Try.ntmps7
  go_wp2_with (go_at_call 8; (with_reducible refine h1.out.mono ?_); clear h1; rintro e w1 ⟨G, rfl, hB, m⟩; replace hB := Lib.hid hB; replace m := Lib.hid m)
  generalize w1.heap.size = hi at *
  go_loopw [2] (fun q wr => ∃ n : Nat, q = .int .i64 (n : Int) ∧ n ≤ 9 ∧ Hid (Q wr w.heap.size hi G 4 2 1 9 n) ∧ Hid (Below w.heap.size w wr)) (fun q _ => 9 - (intOf q).toNat)
  case atStart => exact ⟨0, rfl, by omega, m, hB⟩
  case round =>
    obtain ⟨n, rfl, hn, fr, br⟩ := hrel
    clear m hB
    by_cases hk : n < 9
    · have d1 : decide ((n : Int) < 9) = true := decide_eq_true (by omega)
      have hc := Lib.hid (next_lit C'.out br.out (Nat.le_refl _) fr.out (by omega) _ _ (vis4 n))
      have f1 : (n : Int).tmod 8 = ((n % 8 : Nat) : Int) := rfl
      have f2 : (n : Int) % 8 = ((n % 8 : Nat) : Int) := (Int.natCast_emod _ _).symm
      have f3 : (n : Int).tmod 2 = ((n % 2 : Nat) : Int) := rfl
      have f4 : (n : Int) % 2 = ((n % 2 : Nat) : Int) := (Int.natCast_emod _ _).symm
      have f5 : ((n % 8 : Nat) : Int).tdiv 2 = ((n % 8 / 2 : Nat) : Int) := rfl
      have f6 : ((n % 8 : Nat) : Int) / 2 = ((n % 8 / 2 : Nat) : Int) := (Int.natCast_ediv _ _).symm
      have f7 : wrap64 ((n % 8 / 2 : Nat) : Int) = ((n % 8 / 2 : Nat) : Int) := IntWalk.wrap64_in _ (by omega)
      have hk1 : wrap64 ((n : Int) + 1) = ((n + 1 : Nat) : Int) := by rw [IntWalk.wrap64_in _ (by omega)]; omega
      generalize n % 8 / 2 = x at *
      generalize n % 8 = y at *
      generalize n % 2 = z at *
      go_wp2_with (go_at_call 10; (with_reducible refine hc.out.mono ?_); clear hc; rintro e w7 ⟨rfl, B7, F7, k7⟩; replace B7 := Lib.hid B7; replace F7 := Lib.hid F7; clear fr br k7)
      go_roundw
      case rel => exact ⟨n + 1, rfl, by omega, F7, B7⟩
      case measure => simp only [intOf]; omega
    · obtain rfl : n = 9 := by omega
      have hc := Lib.hid (rounds_lit C'.out br.out fr.out (by decide) 1 (by decide +kernel))
      go_wp2_with (go_at_call 12; (with_reducible refine hc.out.mono ?_); clear hc; rintro e w7 ⟨rfl, B7, F7, k7⟩; replace B7 := Lib.hid B7; have hd := Lib.hid (due_lit C'.out (c := 1) (db_one w7 4 true) (by decide) true (by decide +kernel)); have ba := Lib.hid (We.below_trans B7.out (We.below_alloc w7 (.cells #[.int .i64 4, .bool true] 36))); clear fr br k7 F7)
      go_wp2_with (go_at_call 13; (with_reducible refine hd.out.mono ?_); clear hd; rintro e w8 ⟨rfl, hb8⟩; have B8 := Lib.hid (We.below_trans ba.out hb8); have hd2 := Lib.hid (due_lit C'.out (c := 2) (db_two w8 3 9 true false) (by decide) false (by decide +kernel)); have bb := Lib.hid (We.below_trans B8.out (We.below_alloc w8 (.cells #[.int .i64 3, .bool true, .int .i64 9, .bool false] 36))); clear hb8 ba B7 B8)
      go_wp2_with (go_at_call 13; (with_reducible refine hd2.out.mono ?_); clear hd2; rintro e w9 ⟨rfl, hb9⟩; have B9 := Lib.hid (We.below_trans bb.out hb9); clear hb9 bb)
      go_ret
      exact ⟨rfl, B9.out⟩
end
end Go.Proofs.Ytmmpcgmhcaianaa.Pt
