/- A copy of a row of fates; to sort nothing. -/
import Derived.Test.YtfohnffhcfiliaaZf
import Derived.Test.YtfohnffhcfiliaaZj
import Derived.Deep.Slices
import Derived.Lib.SliceRun
namespace Go.Proofs.Ytfohnffhcfiliaa
open Go.RowKit Go.Deep
set_option linter.unusedVariables false
set_option linter.unusedSimpArgs false

set_option maxHeartbeats 1000000 in
theorem insert_none (w : World) (g : Nat) : Calls Try.prog 24 #[.slice none 0 0, .int .i64 0, .int .i64 0, .func (.func g) #[] #[]] w fun e w' => e = .returned (.tuple #[]) ∧ w = w' := by
  go_enter Try.func24, Try.ntmps24
  go_wp2_with fail
  refine wp_loop_rounds 1 ?_
  rw [rounds_succ]
  go_wp2_with fail
  go_end0
  exact ⟨rfl, rfl⟩
set_option maxHeartbeats 1000000 in
theorem pdq_none (l : Int) (w : World) (g : Nat) : Calls Try.prog 19 #[.slice none 0 0, .int .i64 0, .int .i64 0, .int .i64 l, .func (.func g) #[] #[]] w fun e w' => e = .returned (.tuple #[]) ∧ w = w' := by
  have hi := Lib.hid (insert_none w g)
  go_enter Try.func19, Try.ntmps19
  go_wp2_with fail
  refine wp_loop_rounds 1 ?_
  rw [rounds_succ]
  go_wp2_with (go_at_call 24; (with_reducible refine hi.out.mono ?_); rintro e w1 ⟨rfl, rfl⟩)
  (try simp only [Exit.inBlock, Exit.then]); refine bodyPost_ret (results_none rfl _ _ _) rfl ?_
  exact ⟨rfl, rfl⟩
set_option maxRecDepth 20000 in
theorem len64_none (w : World) : Calls Try.prog 33 #[.int .u64 0] w fun e w' => (∃ l : Int, e = .returned (.int .i64 l)) ∧ w = w' := by
  go_enter Try.func33, Try.ntmps33
  go_wp2_with fail
  go_ret
  exact ⟨⟨_, rfl⟩, rfl⟩
theorem len_none (w : World) : Calls Try.prog 20 #[.int .u64 0] w fun e w' => (∃ l : Int, e = .returned (.int .i64 l)) ∧ w = w' := by
  have hi := Lib.hid (len64_none w)
  go_enter Try.func20, Try.ntmps20
  go_wp2_with (go_at_call 33; (with_reducible refine hi.out.mono ?_); rintro e w1 ⟨⟨l, rfl⟩, rfl⟩)
  go_ret
  exact ⟨⟨l, rfl⟩, rfl⟩
theorem sort_none (w : World) (g : Nat) : Calls Try.prog 14 #[.slice none 0 0, .func (.func g) #[] #[]] w fun e w' => e = .returned (.tuple #[]) ∧ w = w' := by
  have hl := Lib.hid (len_none w)
  have hi := fun l => Lib.hid (pdq_none l w g)
  go_enter Try.func14, Try.ntmps14
  go_wp2_with (first
    | (go_at_call 20; (with_reducible refine hl.out.mono ?_); rintro e w1 ⟨⟨l, rfl⟩, rfl⟩)
    | (go_at_call 19; (with_reducible refine (hi l).out.mono ?_); rintro e w1 ⟨rfl, rfl⟩))
  go_end0
  exact ⟨rfl, rfl⟩
theorem rows3 {w : World} {B : Nat} {a : Addr} {ts : List (Int × Int × Int)} (h : S3 w B (some a) ts) : ∀ (j : Nat) (u : Value), (flat3 ts)[j]? = some u → w.cell? (a.add j) = some u := by
  intro j u hu
  have hj : j < ts.length * 3 := by
    rcases Nat.lt_or_ge j (ts.length * 3) with h | h
    · exact h
    · rw [List.getElem?_eq_none (by rw [flat3_len]; exact h)] at hu; cases hu
  rcases h with e | ⟨a', e, _, hc⟩
  · rw [e] at hj; simp at hj
  · injection e with e
    subst e
    have hi : j / 3 < ts.length := by omega
    obtain ⟨c0, c1, c2⟩ := hc (j / 3) hi
    obtain ⟨f0, f1, f2⟩ := flat3_at ts (j / 3) hi
    rcases (by omega : j = j / 3 * 3 ∨ j = j / 3 * 3 + 1 ∨ j = j / 3 * 3 + 2) with e | e | e
    · rw [e, c0, ← f0, ← e, hu]
    · rw [e, c1, ← f1, ← e, hu]
    · rw [e, c2, ← f2, ← e, hu]
set_option maxHeartbeats 1000000 in
/-- a copy: a row of one's own -/
theorem clone_any {w : World} {A : Option Addr} {c n : Nat} {ts : List (Int × Int × Int)} (h : S3 w w.heap.size A ts) (hn : ts.length = n) (hs : n ≤ 1000000) (hA : A = none → n = 0) :
    Calls Try.prog 13 #[.slice A n c] w fun e w' => ∃ v, e = .returned v ∧ Below w.heap.size w w' ∧ OwnT w w' v ts := by
  have q32 : ∀ (w : World) (a : Option Addr) (n c n' c' : Nat), (binOp .eql 22 (.slice a n c) (.slice none n' c')).run Try.prog w = .ok (.bool a.isNone) w := fun w a n c n' c' => Lib.run_eql_slice_nil w 22 30 a n c n' c' Try.underlying22
  cases A with
  | none =>
    obtain rfl := hA rfl
    obtain rfl : ts = [] := List.eq_nil_of_length_eq_zero hn
    go_enter Try.func13, Try.ntmps13
    go_wp2_with fail
    go_ret
    exact ⟨_, rfl, Below.refl _ _, OwnT.nil _ _⟩
  | some a =>
    have hA1 := below_alloc w (.cells #[] 30)
    have hcell := Lib.hid (rows3 (h.below hA1))
    have hi0 := info30
    obtain ⟨i, hi, hrest⟩ := Option.map_eq_some_iff.1 hi0
    simp only [Prod.mk.injEq] at hrest
    obtain ⟨i1, i2, i3⟩ := hrest
    have hown : (w.alloc (.cells #[] 30)).ownsRow w.heap.size 30 3 (.slice (some ⟨w.heap.size, 0, none⟩) 0 0) 0 [] :=
      ⟨rfl, Or.inr ⟨w.heap.size, 0, #[], rfl, Nat.le_refl _, heap_alloc_new w _, Nat.le_refl _, Nat.zero_le _, rfl, rfl⟩⟩
    replace hown := Lib.hid hown
    replace hA1 := Lib.hid hA1
    have hv1 := Lib.hid (flat3_one ts)
    have hvl := Lib.hid (flat3_len ts)
    replace hn := Lib.hid hn
    clear hi0 h hA
    go_enter Try.func13, Try.ntmps13
    go_wp2_with (first
      | (refine wpList_append_own_at _ rfl (.tmp 5) (.tmp 6) 22 rfl w.heap.size 30 i (.agg #[.int .i64 0, .int .i64 0, .int .i64 0]) 3 24 Try.underlying22 hi i1 i2 i3 rfl (by decide) (.slice (some ⟨w.heap.size, 0, none⟩) 0 0) 0 [] rfl hown.out a n c (flat3 ts) rfl (by rw [hvl.out, hn.out]) hcell.out hv1.out (by unfold maxLen; omega) (by omega) (hA1.out.size) ?_))
    intro v' w' h1 h2 _ _
    have h1' := Lib.hid h1
    have hb' := Lib.hid (hA1.out.grown h2 hA1.out.size (fun k hk => by simp [Value.ownBlock] at hk; omega))
    clear h1 h2
    go_wp2_with fail
    go_ret
    refine ⟨v', rfl, hb'.out, ?_⟩
    have h1 := h1'.out
    unfold OwnT
    rw [hn.out]
    simpa using h1
end Go.Proofs.Ytfohnffhcfiliaa
