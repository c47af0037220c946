/- Statement WeaveOnes: for all symbols the law returns true. -/
import Derived.Test.YtpanmjohmgjigaaVk
namespace Go.Proofs.Ytpanmjohmgjigaa
open Go.RowKit Go.Gf

/-- words of one symbol -/
def ones (xs : List Nat) (k : Nat) : List (List Nat) := (xs.take k).map fun x => [x]
theorem ones_len {xs : List Nat} {k : Nat} (h : k ≤ xs.length) : (ones xs k).length = k := by simp [ones]; omega
theorem ones_get {xs : List Nat} {k j : Nat} (h : j < (ones xs k).length) (hj : j < xs.length) : (ones xs k)[j] = [xs[j]] := by simp [ones]
theorem ones_step {xs : List Nat} {k : Nat} (h : k < xs.length) : ones xs k ++ [[xs[k]]] = ones xs (k + 1) := by
  unfold ones
  rw [take_snoc h, List.map_append]
  rfl
theorem one_out {xs : List Nat} (h : xs ≠ []) : outE 1 [xs] = 0 ∧ outW 1 [xs] = xs := by
  have hn : wvN [xs] = xs.length := rfl
  have hE : outE 1 [xs] = 0 := outE_ok (by decide) rfl (unl_false fun k hk => by
    have hk0 : k = 0 := by simp at hk; exact hk
    subst hk0; rfl) (by rw [hn]; intro e; exact h (List.eq_nil_of_length_eq_zero e))
  refine ⟨hE, ?_⟩
  unfold outW wvOf
  rw [if_pos hE, hn]
  conv => rhs; rw [← rm_at xs]
  rw [show [xs].length * xs.length = xs.length by simp]
  exact rm_congr fun j _ => by
    unfold wvF
    rw [show [xs].length = 1 from rfl, Nat.mod_one, Nat.div_one]
    rfl
theorem one_in {xs : List Nat} (h : xs ≠ []) : inE 1 xs = 0 ∧ inW 1 xs = [xs] := by
  have hE : inE 1 xs = 0 := inE_ok (by decide) (by
    rw [show (1 : Int).toNat = 1 from rfl, Nat.mod_one]
    intro e
    rcases e with e | e
    · exact e rfl
    · exact h (List.eq_nil_of_length_eq_zero e))
  refine ⟨hE, ?_⟩
  unfold inW
  rw [if_pos hE, show (1 : Int).toNat = 1 from rfl]
  unfold dealt
  rw [Nat.div_one]
  show [rm xs.length fun q => at_ xs (q * 1 + 0)] = [xs]
  congr 1
  conv => rhs; rw [← rm_at xs]
  exact rm_congr fun q _ => by rw [Nat.mul_one, Nat.add_zero]
theorem ones_out {xs : List Nat} {k : Nat} (h1 : 1 ≤ k) (h4 : k ≤ 4) (hk : k ≤ xs.length) : outE (k : Int) (ones xs k) = 0 ∧ outW (k : Int) (ones xs k) = xs.take k := by
  have hl := ones_len hk
  have hg : ∀ j (hj : j < (ones xs k).length), (ones xs k)[j].length = 1 := fun j hj => by
    rw [ones_get hj (by omega)]; rfl
  have hn : wvN (ones xs k) = 1 := by rw [← wvN_get (by omega)]; exact hg 0 (by omega)
  have hE : outE (k : Int) (ones xs k) = 0 := outE_ok (by unfold mayB; rw [Bool.and_eq_true, decide_eq_true_eq, decide_eq_true_eq]; omega) (by rw [hl]) (unl_false fun j hj => by rw [hn]; exact hg j hj) (by rw [hn]; decide)
  refine ⟨hE, ?_⟩
  unfold outW wvOf
  rw [if_pos hE, hn, hl, Nat.mul_one]
  have ht : (xs.take k).length = k := by simp; omega
  conv => rhs; rw [← rm_at (xs.take k), ht]
  refine rm_congr fun j hj => ?_
  unfold wvF
  rw [Nat.mod_eq_of_lt hj, Nat.div_eq_of_lt hj, List.getD_eq_getElem?_getD, List.getElem?_eq_getElem (by omega), Option.getD_some, ones_get (by omega) (by omega), at_get (xs := xs.take k) (by rw [ht]; exact hj), List.getElem_take]
  rfl
set_option maxHeartbeats 8000000 in
theorem wones_law (A : Option Addr) (xs : List Nat) (ca : Nat) (hca : xs.length ≤ ca) (hx : ca ≤ maxLen) (w : World) (hA : Sl w w.heap.size A xs) :
    Calls Try.prog 7 #[.slice A xs.length ca] w (Tells w (.bool true)) := by
  have mx : (xs.length : Int) ≤ 9223372036854775807 := by unfold maxLen at hx; omega
  clear hx
  replace hA := Lib.hid hA
  have haw := Lib.hid (wawake_any w)
  by_cases h0 : xs.length = 0
  · have d0 : ((xs.length : Int) == 0) = true := by rw [beq_iff_eq]; omega
    clear h0
    go_enter Try.func7, Try.ntmps7
    go_wp2_with (go_at_call 8; (with_reducible refine haw.out.mono ?_); rintro e w1 ⟨rfl, hb⟩)
    go_ret
    exact ⟨rfl, hb⟩
  · have d0 : ((xs.length : Int) == 0) = false := by rw [beq_eq_false_iff_ne]; omega
    by_cases h1 : 1000 < xs.length
    · have d1 : decide ((1000 : Int) < (xs.length : Int)) = true := by rw [decide_eq_true_eq]; omega
      clear h0 h1
      go_enter Try.func7, Try.ntmps7
      go_wp2_with (go_at_call 8; (with_reducible refine haw.out.mono ?_); rintro e w1 ⟨rfl, hb⟩)
      go_ret
      exact ⟨rfl, hb⟩
    · have d1 : decide ((1000 : Int) < (xs.length : Int)) = false := by rw [decide_eq_false_iff_not]; omega
      have hne : xs ≠ [] := fun e => h0 (by rw [e]; rfl)
      have l1 : Hid (1 ≤ xs.length ∧ xs.length ≤ 1000) := by unfold Hid; omega
      have hO := Lib.hid (one_out hne)
      have hI := Lib.hid (one_in hne)
      clear h0 h1 hne
      go_enter Try.func7, Try.ntmps7
      go_wp2_with (go_at_call 8; (with_reducible refine haw.out.mono ?_); rintro e w1 ⟨rfl, hb⟩; have hb1 := Lib.hid hb; have hA1 := Lib.hid (hA.out.far hb); clear hb haw hA)
      have hs := sw_new w1 (.cells #[.slice A xs.length ca] 23) w1.heap.size [(A, ca, xs)] rfl rfl (by
        intro v hv
        simp only [List.mem_cons, List.not_mem_nil, or_false] at hv
        subst hv
        exact ⟨hca, hA1.out⟩)
      have hba := below_alloc w1 (.cells #[.slice A xs.length ca] 23)
      have hb1a := Lib.hid (hb1.out.trans (hba.mono hb1.out.size))
      have hA1a := Lib.hid (hA1.out.far hba)
      have hk1 := Lib.hid (out_lit (W := 1) (n := 1) (c := 1) (ws := [xs]) (ys := xs) (e := 0) hs rfl (by decide) (by
        intro x hx
        simp only [List.mem_cons, List.not_mem_nil, or_false] at hx
        subst hx
        have := l1.out
        omega) hO.out.2 hO.out.1)
      have hin : Hid (∀ {c w}, Sl w w.heap.size A xs → Calls Try.prog 11 #[.int .i64 1, .slice A xs.length c] w (RowsV w [xs] 0)) := fun {c w} h => in_lit h rfl (by have := l1.out; omega) hI.out.2 hI.out.1
      clear hs hba hO hI hb1 hA1
      obtain ⟨k, hk⟩ : ∃ k : Nat, k = min xs.length 4 := ⟨_, rfl⟩
      have hmin : (if (4 : Int) < (xs.length : Int) then (4 : Int) else (xs.length : Int)) = (k : Int) := by
        split <;> omega
      have hk2 : Hid (1 ≤ k ∧ k ≤ 4 ∧ k ≤ xs.length) := by have := l1.out; unfold Hid; omega
      clear hk
      go_wp2_with (first
        | (go_at_call 9; (with_reducible refine hk1.out.mono ?_); rintro e w2 ⟨v, rfl, ho, hb⟩; obtain ⟨A1, c1, rfl, hcc1, hs⟩ := ho.sl; have hb2 := Lib.hid (hb1a.out.trans (hb.mono hb1a.out.size)); have hA2 := Lib.hid (hA1a.out.far hb); have hx2 := Lib.hid hs; have hk2 := Lib.hid (hin.out (c := ca) hA2.out); clear hb hs ho hk1 hA1a hb1a)
        | (go_at_call 11; (with_reducible refine hk2.out.mono ?_); intro e w3 hr; obtain ⟨A2, c2, rfl, hcc2, hs, hb⟩ := hr.sw; have hb3 := Lib.hid (hb2.out.trans (hb.mono hb2.out.size)); have hA3 := Lib.hid (hA2.out.far hb); have hx3 := Lib.hid (hx2.out.far hb); have hu3 := Lib.hid hs; clear hb hs hr hk2 hA2 hb2 hx2))
      have hl3 : Hid (xs.length ≤ 1000000) := by have := l1.out; unfold Hid; omega
      go_loopw [8, 9] (fun v q wr => ∃ i : Nat, i ≤ k ∧ q = .int .i64 i ∧ (∃ vals, OwnX w3 wr v (ones xs i) vals) ∧ Below w3.heap.size w3 wr) (fun _ q _ => k - (intOf q).toNat)
      case atStart => exact ⟨0, Nat.zero_le _, rfl, ⟨_, OwnX.nil w3 w3⟩, Below.refl _ _⟩
      case round =>
        clear hmin
        obtain ⟨i, hi, rfl, ⟨vals, HO⟩, HB⟩ := hrel
        replace HO := Lib.hid HO
        replace HB := Lib.hid HB
        by_cases hlt : i < k
        · have hiI : (i : Int) < (k : Int) := by omega
          have hd : decide (i < k) = true := decide_eq_true hlt
          have hil : i < xs.length := by have := hk2.out; omega
          have hilI : (i : Int) < (xs.length : Int) := by omega
          obtain ⟨a, rfl, hab, hcell⟩ := (hA3.out.below HB.out).at_ hil
          have hx16 := hA3.out.1 xs[i] (List.getElem_mem hil)
          have hst := Lib.hid (ones_step hil)
          obtain ⟨X, hX⟩ : ∃ X, Hid (xs[i] = X) := ⟨_, Lib.hid rfl⟩
          rw [hX.out] at hcell hx16 hst
          have hba := below_alloc wr (.cells #[.int .u16 ((X : Nat) : Int)] 37)
          have hbb := below_alloc (wr.alloc (.cells #[.int .u16 ((X : Nat) : Int)] 37)) (.cells #[.slice (some ⟨wr.heap.size, 0, none⟩) 1 1] 23)
          have hg1 : (wr.alloc (.cells #[.int .u16 ((X : Nat) : Int)] 37)).heap.size = wr.heap.size + 1 := World.size_alloc _ _
          have hz := Lib.hid ((sl_new wr (.cells #[.int .u16 ((X : Nat) : Int)] 37) [X] wr.heap.size rfl rfl (by simp; exact hx16)).far hbb)
          have HO2 := Lib.hid ((HO.out.alloc (.cells #[.int .u16 ((X : Nat) : Int)] 37)).alloc (.cells #[.slice (some ⟨wr.heap.size, 0, none⟩) 1 1] 23))
          have HB2 := Lib.hid ((HB.out.trans (hba.mono HB.out.size)).trans (hbb.mono (Nat.le_trans HB.out.size hba.size)))
          have hD : u8.ownBlock ≠ some wr.heap.size := fun e => absurd (HO.out.inHeap e) (Nat.lt_irrefl _)
          have hc2 : ((wr.alloc (.cells #[.int .u16 ((X : Nat) : Int)] 37)).alloc (.cells #[.slice (some ⟨wr.heap.size, 0, none⟩) 1 1] 23)).cell? ⟨wr.heap.size + 1, 0, none⟩ = some (.slice (some ⟨wr.heap.size, 0, none⟩) 1 1) := by
            have := heap_alloc_new (wr.alloc (.cells #[.int .u16 ((X : Nat) : Int)] 37)) (.cells #[.slice (some ⟨wr.heap.size, 0, none⟩) 1 1] 23)
            rw [hg1] at this
            rw [cell_of_row _ _ 0 _ 23 (0, 0) this]
            rfl
          replace hc2 := Lib.hid hc2
          replace hD := Lib.hid hD
          clear hba hbb hg1 HO HB
          go_wp2_with (refine app_row (w0 := w3) rfl (.tmp 41) (.tmp 47) rfl u8 (ones xs i) vals rfl HO2.out HB2.out.size ⟨wr.heap.size + 1, 0, none⟩ rfl (some ⟨wr.heap.size, 0, none⟩) [X] 1 hc2.out (Nat.le_refl _) hz.out (Or.inr fun d e => by injection e with e; rw [← e]; exact hD.out) (by rw [ones_len (by omega)]; have := hk2.out; omega) ?_)
          intro v' w4 vals' ho hg
          rw [hst.out] at ho
          have HB4 := Lib.hid (HB2.out.grown hg HB2.out.size (OwnX.block HO2.out))
          replace ho := Lib.hid ho
          clear hg HO2 HB2 hz hc2 hD
          go_wp2_with fail
          go_roundw
          case rel => exact ⟨i + 1, by omega, by go_num, ⟨_, ho.out⟩, HB4.out⟩
          case measure => simp [intOf]; omega
        · obtain rfl : i = k := by omega
          have hd : decide (i < i) = false := decide_eq_false (Nat.lt_irrefl _)
          obtain ⟨A4, c4, rfl, hc4, hs4⟩ := HO.out.sw
          obtain ⟨k1, k4, kl⟩ := hk2.out
          obtain ⟨o1, o2⟩ := ones_out k1 k4 kl
          have hol := ones_len kl
          have hg1 : ∀ x ∈ ones xs i, x.length ≤ 100000 := fun x hx => by
            obtain ⟨j, hj, rfl⟩ := List.getElem_of_mem hx
            rw [ones_get hj (by omega)]
            simp
          have hko := Lib.hid (out_lit (W := (i : Int)) (n := i) (c := c4) (ws := ones xs i) (ys := xs.take i) (e := 0) hs4 hol (by omega) hg1 o2 o1)
          have hA4 := Lib.hid (hA3.out.far HB.out)
          have hx4 := Lib.hid (hx3.out.far HB.out)
          have hu4 := Lib.hid (hu3.out.far HB.out)
          have hb4 := Lib.hid (hb3.out.trans (HB.out.mono hb3.out.size))
          have hsl := slice_head A xs.length ca i (by omega)
          have htl : Hid ((xs.take i).length = i) := by unfold Hid; simp; omega
          rw [hol]
          clear HO HB hs4 o1 o2 hg1 hin hA3 hx3 hu3 hb3 hol
          go_wp2_with (first
            | (go_at_call 9; (with_reducible refine hko.out.mono ?_); rintro e w5 ⟨v, rfl, ho, hb⟩; obtain ⟨A5, c5, rfl, hcc5, hs⟩ := ho.sl; rw [htl.out]; have hb5 := Lib.hid (hb4.out.trans (hb.mono hb4.out.size)); have hA5 := Lib.hid (hA4.out.far hb); have hx5 := Lib.hid (hx4.out.far hb); have hu5 := Lib.hid (hu4.out.far hb); have hv5 := Lib.hid hs; have hk5 := Lib.hid (tell_same (ca := c1) (cb := ca) (b := true) hx5.out hA5.out hl3.out hl3.out (decide_eq_true rfl)); clear hb hs ho hko hA4 hx4 hu4 hb4)
            | (go_at_call 13; (with_reducible refine hk5.out.mono ?_); rintro e w6 ⟨rfl, hb⟩; have hb6 := Lib.hid (hb5.out.trans (hb.mono hb5.out.size)); have hA6 := Lib.hid (hA5.out.far hb); have hu6 := hu5.out.far hb; have hv6 := Lib.hid (hv5.out.far hb); obtain ⟨a6, D6, c6, rfl, _, hcell6, _, hD6⟩ := hu6.at_ (i := 0) (by simp); rw [add_zero'] at hcell6; replace hcell6 : w6.cell? a6 = some (.slice D6 xs.length c6) := hcell6; replace hD6 : Sl w6 w6.heap.size D6 xs := hD6; have hk6 := Lib.hid (tell_same (ca := c6) (cb := ca) (b := true) hD6 hA6.out hl3.out hl3.out (decide_eq_true rfl)); clear hb hk5 hA5 hx5 hu5 hv5 hb5 hu6 hD6)
            | (go_at_call 13; (with_reducible refine hk6.out.mono ?_); rintro e w7 ⟨rfl, hb⟩; have hb7 := Lib.hid (hb6.out.trans (hb.mono hb6.out.size)); have hA7 := Lib.hid (hA6.out.far hb); have hv7 := Lib.hid (hv6.out.far hb); have hk7 := Lib.hid (same_lit (n := i) (m := i) (ca := c5) (cb := ca) (b := true) hv7.out (hA7.out.take i) htl.out htl.out (by omega) (by omega) (decide_eq_true rfl)); clear hb hk6 hA6 hv6 hb6)
            | (go_at_call 13; (with_reducible refine hk7.out.mono ?_); rintro e w8 ⟨rfl, hb⟩; have hb8 := Lib.hid (hb7.out.trans (hb.mono hb7.out.size)); clear hb hk7))
          go_ret
          exact ⟨rfl, hb8.out⟩
end Go.Proofs.Ytpanmjohmgjigaa
namespace Go.Proofs.Ytpanmjohmgjigaa.weaveOnes
open Go.ChangeShapes Go.WideShapes Go.ChangeAt Go.RowKit Go.Gf
set_option linter.unusedVariables false

theorem own : ownKnob Try.prog.godebug = none := by kernel_rfl

theorem walk (A0 : Option Addr) (x0 : List Nat) (c0 : Nat) (l0 : x0.length ≤ c0) (m0 : c0 ≤ maxLen) (w : World) (s0 : Sl w w.heap.size A0 x0) :
    Calls Try.prog 7 #[.slice A0 x0.length c0] w fun e w' => e = .returned (.bool true) ∧ Below w.heap.size w w' := wones_law A0 x0 c0 l0 m0 w s0

set_option maxRecDepth 100000 in
theorem lifted (os : Os) (started : os.Started) (H : Type) (enc : TypeId × Value → H) :
    ReturnsInHanded {} Try.checked os 7 .any (Rows.weaveOnesSpec.pre6 enc Try.prog Try.f7 Rows.weaveOnesRow.domain false) (Rows.weaveOnesSpec.post enc Try.prog Try.f7 false true false false) := by
  refine returnsInHanded_of_change (C := Try.checked) own started (by kernel_rfl) Try.func7
    (ChangeSpec.witness6 (enc := enc) (C := Try.checked) false ⟨#[], #[.slice none 0 0], []⟩ 8 (by kernel_rfl) (by kernel_rfl) (by kernel_rfl) (by kernel_rfl)) ?_
  intro W base args ds gs before hval0 hW hcnd _
  have hval : ∀ (j : Nat) t v, Try.f7.params[j]? = some t → args[j]? = some v → Value.okWide Try.prog W .any base t v := hval0
  have hW' := hW
  obtain ⟨p, q, hA0, hV, rfl, hfz, hnd⟩ := hW
  have hA : DataW.TrodAll enc Try.prog W 0 (fun _ => true) true Try.f7.params.toList args.toList ds p := hA0
  rw [Try.params7] at hA hval
  obtain ⟨v0, vs0, d0, ds0, p0, q0, hargs, rfl, rfl, h0, r0⟩ := trodAll_cons hA
  obtain ⟨rfl, rfl, rfl⟩ := trodAll_nil r0
  obtain rfl : args = #[v0] := by cases args; simp_all
  obtain ⟨rfl, rfl⟩ := trodVars_none hV
  obtain ⟨A0, x0, c0, rfl, l0, m0, s0, t0⟩ := open_sl Try.underlying23 Try.underlying37 (by kernel_rfl : Try.prog.cellsOf 37 = 1) (hval 0 23 v0 rfl rfl) h0
  clear hA0 hval0
  refine (walk A0 x0 c0 l0 m0 W s0).mono fun e W' ⟨he, hg⟩ => ?_
  subst he
  exact ⟨_, rfl, Cl.post_below (pv := []) hW' (fun _ _ _ => (trodAll_cons_mk (shut_bool Try.underlying4 _) trodAll_mk0)) (fun sp hsp => (trodAll_cons_mk (t0 W' hg sp (fun q hq => hsp q (by simp [hq]))) trodAll_mk0)) (fun _ _ => rfl) rfl
    hg (ok_one (by kernel_rfl) rfl (okWide_bool_mk Try.underlying4 _))⟩

theorem over : Rows.weaveOnesRow.holds Try.pinned (OpenSpec.ofChange Rows.weaveOnesSpec) :=
  OpenClaim.holds_of_wide 7 Try.f7 rfl rfl rfl rfl rfl rfl rfl ⟨rfl, rfl, rfl, rfl, rfl⟩ rfl rfl rfl rfl rfl (by kernel_rfl) Try.func7 (by kernel_rfl)
    (of_decide_eq_true (by kernel_rfl)) (by unfold Func.isWrapper; first | (rw [if_pos (by decide +kernel)]; kernel_rfl) | (rw [if_neg (by decide +kernel)]; exact ⟨rfl, rfl⟩))
    (fun os started H enc _ => lifted os started H enc)

/-- THE STATEMENT -/
theorem proved : Rows.WeaveOnesSaid := over
end Go.Proofs.Ytpanmjohmgjigaa.weaveOnes
