/- Has and Set walked. -/
import Derived.Test.YtcnnmnjepofomaaVlc
namespace Go.Proofs.Ytcnnmnjepofomaa.Vl
open Go.RowKit Go.Bw
set_option linter.unusedVariables false
set_option linter.unusedSimpArgs false
theorem quiet_same {P : Program} {f : FuncId} {args : Array Value} {w : World} {n : Nat} {v : Value}
    (h : Calls P f args (w.drewN n) (Same (w.drewN n) v)) : Calls P f args (w.drewN n) fun e w'' => e = .returned v ∧ ∃ m, w'' = w.drewN m :=
  h.mono fun _ _ ⟨he, hm⟩ => ⟨he, n, hm.symm⟩
/-- bit i of n that β tells -/
def hasB (n : Nat) (β : Nat → Bool) (i : Int) : Bool := inB n i && β i.toNat
theorem of_inB {n : Nat} {i : Int} (h : inB n i = true) : ∃ p : Nat, i = (p : Int) ∧ p < n := by
  unfold inB at h
  rw [Bool.and_eq_true, decide_eq_true_eq, decide_eq_true_eq] at h
  exact ⟨i.toNat, by omega, by omega⟩
theorem has_any {g h n : Nat} {β : Nat → Bool} (w : World) (b : Bt w g h n β) (i : Int) :
    Calls Try.prog 28 #[.pointer (some ⟨g, 0, none⟩), .int .i64 i] w (We.Ans w (.bool (hasB n β i))) := by
  have hl : ∀ m, Calls Try.prog 29 #[.pointer (some ⟨g, 0, none⟩), .int .i64 i] (w.drewN m) (Same (w.drewN m) (.bool (inB n i))) := fun m => lies_any _ (b.below (We.below_drewN w m)) i
  unfold hasB
  cases h0 : inB n i
  · rw [h0] at hl
    replace hl := Lib.hid hl
    clear b
    go_enter Try.func28, Try.ntmps28
    go_wp2_with fail
    go_quiet ((go_at_call 29; with_reducible exact quiet_same (hl.out _)))
    go_wp2_with fail
    go_ret
    exact ⟨rfl, We.below_drewN _ _⟩
  · obtain ⟨p, rfl, hp⟩ := of_inB h0
    rw [h0] at hl
    replace hl := Lib.hid hl
    have hpl := Lib.hid fun m => place_any p (w.drewN m)
    have c0 := b.c0
    have hw : p / 64 < wn n := by unfold wn; omega
    have cw := b.w_ hw
    have hz := wd_has β p
    have hlt := wd_lt β (p / 64)
    have hm : p % 64 < 64 := Nat.mod_lt _ (by decide)
    have hq : 2 ^ (p % 64) < 18446744073709551616 := Nat.pow_lt_pow_right (by decide) hm
    generalize wd β (p / 64) = W at *
    generalize 2 ^ (p % 64) = q at *
    have ha := u64_and_nat W q hlt hq
    generalize W &&& q = Z at *
    have hZ : (!((Z : Int) == 0)) = β p := by
      cases hβ : β p
      · have := hz.2 hβ; subst this; rfl
      · have : Z ≠ 0 := fun h => by rw [hz.1 h] at hβ; cases hβ
        have : ((Z : Int) == 0) = false := by simpa using this
        rw [this]; rfl
    have hd : IntKind.i64.wrap ((p : Int) / 64) = ((p / 64 : Nat) : Int) := by
      have := b.le
      simp only [IntKind.wrap, IntKind.signed, IntKind.bits]; simp; omega
    generalize p / 64 = d at *
    have hdI : (d : Int) < ((wn n : Nat) : Int) := by omega
    clear hz hlt hm hq b h0
    go_enter Try.func28, Try.ntmps28
    go_wp2_with fail
    go_quiet (first | (go_at_call 29; with_reducible exact quiet_same (hl.out _)) | (go_at_call 30; with_reducible exact quiet_same (hpl.out _)))
    have hZ2 : ((Z : Int) != 0) = β p := hZ
    go_wp2_with fail
    go_ret
    exact ⟨by rw [hZ2]; rfl, We.below_drewN _ _⟩
/-- was bit i otherwise -/
def chg (n : Nat) (β : Nat → Bool) (i : Int) (on : Bool) : Bool := inB n i && (β i.toNat != on)
/-- bit i as told -/
def upd (n : Nat) (β : Nat → Bool) (i : Int) (on : Bool) (j : Nat) : Bool := if inB n i = true ∧ (j : Int) = i then on else β j
theorem upd_same {n : Nat} {β : Nat → Bool} {i : Int} {on : Bool} (h : chg n β i on = false) (j : Nat) : β j = upd n β i on j := by
  unfold upd
  split
  · rename_i hh
    obtain ⟨h1, h2⟩ := hh
    unfold chg at h
    rw [h1] at h
    have : i.toNat = j := by omega
    rw [this] at h
    revert h
    cases β j <;> cases on <;> simp
  · rfl
theorem upd_turn {n p : Nat} {β : Nat → Bool} {on : Bool} (hp : p < n) (h : (β p != on) = true) (j : Nat) : turn β p j = upd n β (p : Int) on j := by
  have h1 : inB n (p : Int) = true := by unfold inB; simp; omega
  unfold upd turn
  by_cases e : j = p
  · subst e
    rw [if_pos rfl, if_pos ⟨h1, rfl⟩]
    revert h
    cases β j <;> cases on <;> simp
  · rw [if_neg e, if_neg (fun hh => e (by have := hh.2; omega))]
theorem keeps_setN {K : Nat → Prop} {g i : Nat} {v : Value} {w wr : World} (h : Cl.Keeps K w wr) (hF : ¬ K g) : Cl.Keeps K w (wr.setCell ⟨g, i, none⟩ v) :=
  ⟨h.os, h.tape, h.output, by simp [World.setCell]; exact h.size, fun b hb hk => (setCell_block wr v (fun e => hF (by rw [← e]; exact hk))).trans (h.block b hb hk)⟩
set_option maxHeartbeats 1000000 in
theorem set_any {g h n : Nat} {β : Nat → Bool} (w : World) (b : Bt w g h n β) (i : Int) (on : Bool) :
    Calls Try.prog 25 #[.pointer (some ⟨g, 0, none⟩), .int .i64 i, .bool on] w fun e w' => e = .returned (.bool (chg n β i on)) ∧ Cl.Keeps (fun q => q ≠ h) w w' ∧ Bt w' g h n (upd n β i on) := by
  have hb := Lib.hid b
  have hl := Lib.hid (lies_any w b i)
  have hh := Lib.hid (has_any w b i)
  cases hc : chg n β i on
  · have hu := Lib.hid (b.congr (upd_same hc))
    cases h0 : inB n i
    · rw [h0] at hl
      clear b hb hh hc
      go_enter Try.func25, Try.ntmps25
      go_wp2_with (go_at_call 29; (with_reducible refine hl.out.mono ?_); rintro e w2 ⟨rfl, rfl⟩)
      go_ret
      exact ⟨rfl, Cl.Keeps.refl _ _, hu.out⟩
    · have hx : (hasB n β i == on) = true := by
        unfold chg at hc
        unfold hasB
        rw [h0] at hc ⊢
        revert hc
        cases β i.toNat <;> cases on <;> simp
      rw [h0] at hl
      generalize hasB n β i = X at *
      clear b hb hc h0
      go_enter Try.func25, Try.ntmps25
      go_wp2_with (first | (go_at_call 29; (with_reducible refine hl.out.mono ?_); rintro e w2 ⟨rfl, rfl⟩) | (go_at_call 28; (with_reducible refine hh.out.mono ?_); rintro e w2 ⟨rfl, hb2⟩; replace hb2 := Lib.hid hb2))
      go_ret
      exact ⟨rfl, Cl.Keeps.of_below hb2.out, hu.out.below hb2.out⟩
  · obtain ⟨h0, hne⟩ : inB n i = true ∧ (β i.toNat != on) = true := by
      unfold chg at hc
      rwa [Bool.and_eq_true] at hc
    obtain ⟨p, rfl, hp⟩ := of_inB h0
    have hx : (hasB n β (p : Int) == on) = false := by
      unfold hasB
      rw [h0]
      revert hne
      simp only [Int.toNat_natCast, Bool.true_and]
      cases β p <;> cases on <;> simp
    have htu := Lib.hid (upd_turn hp (show (β p != on) = true by simpa using hne))
    rw [h0] at hl
    generalize hasB n β (p : Int) = X at *
    have hw : p / 64 < wn n := by unfold wn; omega
    have hpl := Lib.hid fun w => place_any p w
    have hlt := wd_lt β (p / 64)
    have hm : p % 64 < 64 := Nat.mod_lt _ (by decide)
    have hq : 2 ^ (p % 64) < 18446744073709551616 := Nat.pow_lt_pow_right (by decide) hm
    have hT := wd_turn β p
    have hO := Lib.hid fun i (hi : i ≠ p / 64) => wd_other β hi
    have hd : IntKind.i64.wrap ((p : Int) / 64) = ((p / 64 : Nat) : Int) := by
      have := b.le
      simp only [IntKind.wrap, IntKind.signed, IntKind.bits]; simp; omega
    have hb' := Lib.hid b
    clear b hb
    generalize hpd : p / 64 = d at *
    replace hpd := Lib.hid hpd
    have hdI : (d : Int) < ((wn n : Nat) : Int) := by omega
    generalize 2 ^ (p % 64) = q at *
    obtain ⟨W, hW⟩ : ∃ W, wd β d = W := ⟨_, rfl⟩
    obtain ⟨V, hV⟩ : ∃ V, wd (turn β p) d = V := ⟨_, rfl⟩
    rw [hW] at hlt hT
    rw [hV] at hT
    have ha := u64_xor_nat W q hlt hq
    rw [hT] at ha
    replace hW := Lib.hid hW
    replace hV := Lib.hid hV
    have hwd := Lib.hid hw
    clear hc hne h0 hlt hm hq hT hw
    go_enter Try.func25, Try.ntmps25
    go_wp2_with (first | (go_at_call 29; (with_reducible refine hl.out.mono ?_); rintro e w2 ⟨rfl, rfl⟩) | (go_at_call 28; (with_reducible refine hh.out.mono ?_); rintro e w2 ⟨rfl, hb2⟩; replace hb2 := Lib.hid hb2))
    refine Cl.region_way (fun _ => True) 12 [(0, .r), (1, .r), (2, .r), (3, .r), (4, .r), (5, .r), (6, .r), (7, .r), (8, .r), (9, .c), (10, .r), (11, .r), (12, .z)] (by kernel_rfl) (by kernel_rfl) ?_
    intro w3 hk3
    have hk := Lib.hid (We.below_trans hb2.out hk3.below)
    have b3 := Lib.hid (hb'.out.below hk.out)
    have t0 : ∀ y : Cl.Since (fun _ => True) w3, y.w.cell? ⟨g, 0, none⟩ = some (.slice (some ⟨h, 0, none⟩) (wn n) (wn n)) := fun y => (b3.out.below y.keeps.below).c0
    have t1 : ∀ y : Cl.Since (fun _ => True) w3, y.w.cell? ⟨h, d, none⟩ = some (.int .u64 (W : Int)) := fun y => by
      have := (b3.out.below y.keeps.below).w_ hwd.out
      rw [hW.out] at this; exact this
    clear hk3 hb2
    iterate 9 (refine Cl.way_r rfl ?_; go_big_quiet_step (fail); refine wpQuiet_nil ?_)
    refine Cl.way_c rfl ?_
    go_wp2_with (go_at_call 30; (with_reducible refine (hpl.out _).mono ?_); rintro e w4 ⟨rfl, rfl⟩)
    refine Cl.way_on (Cl.Keeps.refl _ _) ?_
    iterate 2 (refine Cl.way_r rfl ?_; go_big_quiet_step (fail); refine wpQuiet_nil ?_)
    refine Cl.way_z rfl ?_
    have hcw := b3.out.w_ hwd.out
    have hcf := b3.out.row.frozen d
    rw [hW.out] at hcw
    go_wp2_with fail
    refine Cl.Calm.normal ?_
    have hu : Bt (w3.setCell ⟨h, d, none⟩ (.int .u64 (V : Int))) g h n (upd n β (p : Int) on) := by
      refine Bt.congr (β := turn β p) ⟨b3.out.box.other _ b3.out.ne, (b3.out.row.set_ d _).congr fun i hi => ?_, b3.out.ne, fun j hj => ?_, b3.out.le⟩ htu.out
      · unfold wF
        by_cases e : i = d
        · rw [if_pos e, e, hV.out]
        · rw [if_neg e, hO.out i e]
      · have := b3.out.out j hj
        unfold turn
        rw [if_neg (by omega)]; exact this
    have hK := Lib.hid (keeps_setN (K := fun q => q ≠ h) (Cl.Keeps.of_below hk.out) (g := h) (i := d) (v := .int .u64 (V : Int)) (by simp))
    replace hu := Lib.hid hu
    clear hcw hcf t0 t1 b3 hk
    generalize w3.setCell ⟨h, d, none⟩ (.int .u64 (V : Int)) = w5 at *
    go_wp2_with fail
    go_ret
    exact ⟨rfl, hK.out, hu.out⟩
end Go.Proofs.Ytcnnmnjepofomaa.Vl
