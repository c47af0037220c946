/- A copy of a row of fates; to sort nothing. · Where the fates from an operation on begin. -/
import Derived.Test.YtjhoecfhmndcgaaGreatV07
import Derived.Test.YtjhoecfhmndcgaaGreatV08
import Derived.Deep.Slices
import Derived.Lib.SliceRun
namespace Go.Proofs.YtjhoecfhmndcgaaGreat.Ft
open Go.RowKit Go.Deep
set_option linter.unusedVariables false
set_option linter.unusedSimpArgs false

set_option maxHeartbeats 1000000 in
theorem insert_none (w : World) (g : Nat) : Calls Tryz.prog 95 #[.slice none 0 0, .int .i64 0, .int .i64 0, .func (.func g) #[] #[]] w fun e w' => e = .returned (.tuple #[]) ∧ w = w' := by
  go_enter Tryz.func95, Tryz.ntmps95
  go_wp2_with fail
  refine wp_loop_rounds 1 ?_
  rw [rounds_succ]
  go_wp2_with fail
  go_end0
  exact ⟨rfl, rfl⟩
set_option maxHeartbeats 1000000 in
theorem pdq_none (l : Int) (w : World) (g : Nat) : Calls Tryz.prog 72 #[.slice none 0 0, .int .i64 0, .int .i64 0, .int .i64 l, .func (.func g) #[] #[]] w fun e w' => e = .returned (.tuple #[]) ∧ w = w' := by
  have hi := Lib.hid (insert_none w g)
  go_enter Tryz.func72, Tryz.ntmps72
  go_wp2_with fail
  refine wp_loop_rounds 1 ?_
  rw [rounds_succ]
  go_wp2_with (go_at_call 95; (with_reducible refine hi.out.mono ?_); rintro e w1 ⟨rfl, rfl⟩)
  (try simp only [Exit.inBlock, Exit.then]); refine bodyPost_ret (results_none rfl _ _ _) rfl ?_
  exact ⟨rfl, rfl⟩
set_option maxRecDepth 20000 in
theorem len64_none (w : World) : Calls Tryz.prog 104 #[.int .u64 0] w fun e w' => (∃ l : Int, e = .returned (.int .i64 l)) ∧ w = w' := by
  go_enter Tryz.func104, Tryz.ntmps104
  go_wp2_with fail
  go_ret
  exact ⟨⟨_, rfl⟩, rfl⟩
theorem len_none (w : World) : Calls Tryz.prog 73 #[.int .u64 0] w fun e w' => (∃ l : Int, e = .returned (.int .i64 l)) ∧ w = w' := by
  have hi := Lib.hid (len64_none w)
  go_enter Tryz.func73, Tryz.ntmps73
  go_wp2_with (go_at_call 104; (with_reducible refine hi.out.mono ?_); rintro e w1 ⟨⟨l, rfl⟩, rfl⟩)
  go_ret
  exact ⟨⟨l, rfl⟩, rfl⟩
theorem sort_none (w : World) (g : Nat) : Calls Tryz.prog 52 #[.slice none 0 0, .func (.func g) #[] #[]] w fun e w' => e = .returned (.tuple #[]) ∧ w = w' := by
  have hl := Lib.hid (len_none w)
  have hi := fun l => Lib.hid (pdq_none l w g)
  go_enter Tryz.func52, Tryz.ntmps52
  go_wp2_with (first
    | (go_at_call 73; (with_reducible refine hl.out.mono ?_); rintro e w1 ⟨⟨l, rfl⟩, rfl⟩)
    | (go_at_call 72; (with_reducible refine (hi l).out.mono ?_); rintro e w1 ⟨rfl, rfl⟩))
  go_end0
  exact ⟨rfl, rfl⟩
theorem rows3 {w : World} {B : Nat} {a : Addr} {ts : List (Int × Int × Int)} (h : S3 w B (some a) ts) : ∀ (j : Nat) (u : Value), (flat3 ts)[j]? = some u → w.cell? (a.add j) = some u := by
  intro j u hu
  have hj : j < ts.length * 3 := by
    rcases Nat.lt_or_ge j (ts.length * 3) with h | h
    · exact h
    · rw [List.getElem?_eq_none (by rw [flat3_len]; exact h)] at hu; cases hu
  rcases h with e | ⟨a', e, _, hc⟩
  · rw [e] at hj; simp at hj
  · injection e with e
    subst e
    have hi : j / 3 < ts.length := by omega
    obtain ⟨c0, c1, c2⟩ := hc (j / 3) hi
    obtain ⟨f0, f1, f2⟩ := flat3_at ts (j / 3) hi
    rcases (by omega : j = j / 3 * 3 ∨ j = j / 3 * 3 + 1 ∨ j = j / 3 * 3 + 2) with e | e | e
    · rw [e, c0, ← f0, ← e, hu]
    · rw [e, c1, ← f1, ← e, hu]
    · rw [e, c2, ← f2, ← e, hu]
set_option maxHeartbeats 1000000 in
/-- a copy: a row of one's own -/
theorem clone_any {w : World} {A : Option Addr} {c n : Nat} {ts : List (Int × Int × Int)} (h : S3 w w.heap.size A ts) (hn : ts.length = n) (hs : n ≤ 1000000) (hA : A = none → n = 0) :
    Calls Tryz.prog 51 #[.slice A n c] w fun e w' => ∃ v, e = .returned v ∧ Below w.heap.size w w' ∧ OwnT w w' v ts := by
  have q32 : ∀ (w : World) (a : Option Addr) (n c n' c' : Nat), (binOp .eql 62 (.slice a n c) (.slice none n' c')).run Tryz.prog w = .ok (.bool a.isNone) w := fun w a n c n' c' => Lib.run_eql_slice_nil w 62 61 a n c n' c' Tryz.underlying62
  cases A with
  | none =>
    obtain rfl := hA rfl
    obtain rfl : ts = [] := List.eq_nil_of_length_eq_zero hn
    go_enter Tryz.func51, Tryz.ntmps51
    go_wp2_with fail
    go_ret
    exact ⟨_, rfl, Below.refl _ _, OwnT.nil _ _⟩
  | some a =>
    have hA1 := below_alloc w (.cells #[] 61)
    have hcell := Lib.hid (rows3 (h.below hA1))
    have hi0 := info30
    obtain ⟨i, hi, hrest⟩ := Option.map_eq_some_iff.1 hi0
    simp only [Prod.mk.injEq] at hrest
    obtain ⟨i1, i2, i3⟩ := hrest
    have hown : (w.alloc (.cells #[] 61)).ownsRow w.heap.size 61 3 (.slice (some ⟨w.heap.size, 0, none⟩) 0 0) 0 [] :=
      ⟨rfl, Or.inr ⟨w.heap.size, 0, #[], rfl, Nat.le_refl _, heap_alloc_new w _, Nat.le_refl _, Nat.zero_le _, rfl, rfl⟩⟩
    replace hown := Lib.hid hown
    replace hA1 := Lib.hid hA1
    have hv1 := Lib.hid (flat3_one ts)
    have hvl := Lib.hid (flat3_len ts)
    replace hn := Lib.hid hn
    clear hi0 h hA
    go_enter Tryz.func51, Tryz.ntmps51
    go_wp2_with (first
      | (refine wpList_append_own_at _ rfl (.tmp 5) (.tmp 6) 62 rfl w.heap.size 61 i (.agg #[.int .i64 0, .int .i64 0, .int .i64 0]) 3 24 Tryz.underlying62 hi i1 i2 i3 rfl (by decide) (.slice (some ⟨w.heap.size, 0, none⟩) 0 0) 0 [] rfl hown.out a n c (flat3 ts) rfl (by rw [hvl.out, hn.out]) hcell.out hv1.out (by unfold maxLen; omega) (by omega) (hA1.out.size) ?_))
    intro v' w' h1 h2 _ _
    have h1' := Lib.hid h1
    have hb' := Lib.hid (hA1.out.grown h2 hA1.out.size (fun k hk => by simp [Value.ownBlock] at hk; omega))
    clear h1 h2
    go_wp2_with fail
    go_ret
    refine ⟨v', rfl, hb'.out, ?_⟩
    have h1 := h1'.out
    unfold OwnT
    rw [hn.out]
    simpa using h1
end Go.Proofs.YtjhoecfhmndcgaaGreat.Ft
namespace Go.Proofs.YtjhoecfhmndcgaaGreat.Ft
open Go.RowKit Go.Deep
set_option linter.unusedVariables false
set_option linter.unusedSimpArgs false

set_option maxHeartbeats 2000000 in
theorem search_any (A : Option Addr) (c n : Nat) (ts : List (Int × Int × Int)) (x : Int) (w : World) (h : S3 w w.heap.size A ts) (hn : ts.length = n) (hl : n ≤ 1000000)
    (hso : ∀ i j, i < j → j < n → (tAt ts i).1 ≤ (tAt ts j).1) :
    Calls Tryz.prog 106 #[.slice A n c, .int .i64 x, .func (.func 107) #[] #[]] w fun e w' => ∃ (m : Nat) (b : Bool), e = .returned (.tuple #[.int .i64 (m : Int), .bool b]) ∧ m ≤ n ∧ (∀ t, t < m → (tAt ts t).1 < x) ∧ (∀ t, m ≤ t → t < n → x ≤ (tAt ts t).1) ∧ Below w.heap.size w w' := by
  have H := Lib.hid h
  clear h
  replace hn := Lib.hid hn
  replace hso := Lib.hid hso
  go_enter Tryz.func106, Tryz.ntmps106
  go_wp2_with fail
  go_loopw [9, 10] (fun q r wr => ∃ lo hi : Nat, lo ≤ hi ∧ hi ≤ n ∧ Hid ((∀ t, t < lo → (tAt ts t).1 < x) ∧ (∀ t, hi ≤ t → t < n → x ≤ (tAt ts t).1)) ∧ q = .int .i64 lo ∧ r = .int .i64 hi ∧ Below w.heap.size w wr) (fun q r _ => (intOf r).toNat - (intOf q).toNat)
  case atStart => exact ⟨0, n, Nat.zero_le _, Nat.le_refl _, Lib.hid ⟨fun t h => absurd h (by omega), fun t h h2 => absurd h (by omega)⟩, rfl, rfl, Below.refl _ _⟩
  case round =>
    obtain ⟨lo, hi, hlh, hin, HK, rfl, rfl, hB⟩ := hrel
    by_cases hlt : lo < hi
    · have hltI : (lo : Int) < (hi : Int) := by omega
      have hdl : decide (lo < hi) = true := decide_eq_true hlt
      obtain ⟨m, hm⟩ : ∃ m, (lo + hi) / 2 = m := ⟨_, rfl⟩
      have hmn : m < n := by omega
      have hmI : (m : Int) < (n : Int) := by omega
      obtain ⟨a, rfl, hab, c0, c1, c2⟩ := (H.out.below hB).at_ (i := m) (by rw [hn.out]; exact hmn)
      obtain ⟨X, hX⟩ : ∃ X, Hid (tAt ts m = X) := ⟨_, Lib.hid rfl⟩
      rw [hX.out] at c0 c1 c2
      have hc := Lib.hid (against_any X x wr)
      have e1 : ((lo : Int) + (hi : Int)) / 2 = (m : Int) := by omega
      have e2 : IntKind.i64.wrap ((lo : Int) + (hi : Int)) = (lo : Int) + (hi : Int) := by simp [IntKind.wrap, IntKind.bits, IntKind.signed]; omega
      have e3 : IntKind.u64.wrap ((lo : Int) + (hi : Int)) = (lo : Int) + (hi : Int) := by simp [IntKind.wrap, IntKind.bits, IntKind.signed]; omega
      have e4 : IntKind.i64.wrap (m : Int) = (m : Int) := by simp [IntKind.wrap, IntKind.bits, IntKind.signed]; omega
      replace hB := Lib.hid hB
      by_cases hXx : X.1 < x
      · have hq : cmpI X.1 x < 0 := (cmpI_lt _ _).2 hXx
        have HK' : Hid ((∀ t, t < m + 1 → (tAt ts t).1 < x) ∧ (∀ t, hi ≤ t → t < n → x ≤ (tAt ts t).1)) := by
          refine ⟨fun t ht => ?_, HK.out.2⟩
          rcases (by omega : t < m ∨ t = m) with h1 | rfl
          · have := hso.out t m h1 hmn
            rw [hX.out] at this
            omega
          · rw [hX.out]; exact hXx
        generalize cmpI X.1 x = K at *
        clear hXx HK
        go_wp2_with (go_at_call 107; (with_reducible refine hc.out.mono ?_); rintro e w1 ⟨rfl, hb1⟩; have hb1 := Lib.hid (hB.out.trans (hb1.mono hB.out.size)))
        go_round
        case rel => exact ⟨m + 1, hi, by omega, hin, HK', by go_num, rfl, hb1.out⟩
        case measure => simp [intOf]; omega
      · have hq : ¬ cmpI X.1 x < 0 := fun h => hXx ((cmpI_lt _ _).1 h)
        have HK' : Hid ((∀ t, t < lo → (tAt ts t).1 < x) ∧ (∀ t, m ≤ t → t < n → x ≤ (tAt ts t).1)) := by
          refine ⟨HK.out.1, fun t ht htn => ?_⟩
          rcases (by omega : m < t ∨ t = m) with h1 | rfl
          · have := hso.out m t h1 htn
            rw [hX.out] at this
            omega
          · rw [hX.out]; omega
        generalize cmpI X.1 x = K at *
        clear hXx HK
        go_wp2_with (go_at_call 107; (with_reducible refine hc.out.mono ?_); rintro e w1 ⟨rfl, hb1⟩; have hb1 := Lib.hid (hB.out.trans (hb1.mono hB.out.size)))
        go_round
        case rel => exact ⟨lo, m, by omega, by omega, HK', rfl, rfl, hb1.out⟩
        case measure => simp [intOf]; omega
    · obtain rfl : lo = hi := by omega
      have hdl : decide (lo < lo) = false := decide_eq_false hlt
      replace hB := Lib.hid hB
      by_cases hln : lo < n
      · have hlI : (lo : Int) < (n : Int) := by omega
        obtain ⟨a, rfl, hab, c0, c1, c2⟩ := (H.out.below hB.out).at_ (i := lo) (by rw [hn.out]; exact hln)
        generalize tAt ts lo = X at c0 c1 c2
        have hc := Lib.hid (against_any X x wr)
        generalize cmpI X.1 x = K at *
        go_wp2_with (go_at_call 107; (with_reducible refine hc.out.mono ?_); rintro e w1 ⟨rfl, hb1⟩; have hb1 := Lib.hid (hB.out.trans (hb1.mono hB.out.size)))
        go_ret2
        exact ⟨lo, _, rfl, hin, HK.out.1, HK.out.2, hb1.out⟩
      · have hlI : ¬ (lo : Int) < (n : Int) := by omega
        have hd : decide (lo < n) = false := decide_eq_false hln
        go_wp2_with fail
        go_ret2
        exact ⟨lo, Or.inl rfl, hin, HK.out.1, HK.out.2, hB.out⟩
end Go.Proofs.YtjhoecfhmndcgaaGreat.Ft
