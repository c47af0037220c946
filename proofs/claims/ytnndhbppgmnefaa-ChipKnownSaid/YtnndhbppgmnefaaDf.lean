/- The device: a block's erase, as its fate has it. -/
import Derived.Test.YtnndhbppgmnefaaDe
namespace Go.Proofs.Ytnndhbppgmnefaa
open Go.RowKit Go.Gf Go.Fl
set_option linter.unusedVariables false
set_option linter.unusedSimpArgs false
attribute [local go_sem ↓] Cl.quiet_after Cl.quiet_since
def putB {α : Type} (f : Nat → α) (b : Nat) (v : α) : Nat → α := fun i => if i = b then v else f i
theorem slice_to (k n c m : Nat) (hm : m ≤ n) (hn : n ≤ c) (w : World) : (Instr.slice 65 (.slice (some ⟨k, 0, none⟩) n c) none (some (.int .i64 (m : Int))) none).run Try.prog w = .ok (.slice (some ⟨k, 0, none⟩) m c) w := by
  rw [run_slice_h (P := Try.prog) w 65 _ n c (by rw [elem65]; exact Try.underlying65) .i64 (m : Int) (by omega) (by omega), elem65, Try.sizeOf74]
  simp only [Result.andThen_ok, Int.toNat_natCast]
  unfold sliced
  have e : (⟨k, 0, none⟩ : Addr).add 0 = ⟨k, 0, none⟩ := add_zero' _
  simp [e]
section
variable {w : World} {F : Nat → Prop} {o : Nat → Nat} {L : Lay} {M : Dev}
theorem RepO.cellk (h : RepO w F o L M) {b q : Nat} (hb : b < M.B) (hq : q < 4) : ∃ v, w.cell? ⟨L.kb, b * 4 + q, none⟩ = some v := by
  have h0 := h.k0 b hb
  have h1 := h.k1 b hb
  have h2 := h.k2 b hb
  have h3 := h.k3 b hb
  rcases (by omega : q = 0 ∨ q = 1 ∨ q = 2 ∨ q = 3) with rfl | rfl | rfl | rfl
  · exact ⟨_, h0⟩
  · exact ⟨_, h1⟩
  · exact ⟨_, h2⟩
  · exact ⟨_, h3⟩
theorem RepO.setBk (h : RepO w F o L M) {b : Nat} (hb : b < M.B) (v : Bool) : RepO (w.setCell ⟨L.kb, b * 4 + 3, none⟩ (.bool v)) F o L { M with bk := putB M.bk b v } := by
  refine h.row (b * 4 + 3) (.bool v) { M with bk := putB M.bk b v } rfl rfl rfl rfl rfl rfl rfl rfl rfl (fun i hi => by omega) (fun i hi => ?_) (fun i hi => ?_) (fun i hi => ?_)
  · exact (World.cell?_setCell_other _ _ _ _ (by intro e; injection e; omega)).trans (h.k1 i hi)
  · exact (World.cell?_setCell_other _ _ _ _ (by intro e; injection e; omega)).trans (h.k2 i hi)
  · by_cases e : i = b
    · subst e
      show _ = some (Value.bool (if i = i then v else M.bk i))
      rw [if_pos rfl]
      exact World.cell?_setCell_same _ _ _ (h.k3 i hi)
    · show _ = some (Value.bool (if i = b then v else M.bk i))
      rw [if_neg e]
      exact (World.cell?_setCell_other _ _ _ _ (by intro e; injection e; omega)).trans (h.k3 i hi)
theorem RepO.setMd (h : RepO w F o L M) {b : Nat} (hb : b < M.B) (v : Bool) : RepO (w.setCell ⟨L.kb, b * 4 + 2, none⟩ (.bool v)) F o L { M with md := putB M.md b v } := by
  refine h.row (b * 4 + 2) (.bool v) { M with md := putB M.md b v } rfl rfl rfl rfl rfl rfl rfl rfl rfl (fun i hi => by omega) (fun i hi => ?_) (fun i hi => ?_) (fun i hi => ?_)
  · exact (World.cell?_setCell_other _ _ _ _ (by intro e; injection e; omega)).trans (h.k1 i hi)
  · by_cases e : i = b
    · subst e
      show _ = some (Value.bool (if i = i then v else M.md i))
      rw [if_pos rfl]
      exact World.cell?_setCell_same _ _ _ (h.k2 i hi)
    · show _ = some (Value.bool (if i = b then v else M.md i))
      rw [if_neg e]
      exact (World.cell?_setCell_other _ _ _ _ (by intro e; injection e; omega)).trans (h.k2 i hi)
  · exact (World.cell?_setCell_other _ _ _ _ (by intro e; injection e; omega)).trans (h.k3 i hi)
theorem RepO.setEr (h : RepO w F o L M) {b : Nat} (hb : b < M.B) (v : Nat) : RepO (w.setCell ⟨L.kb, b * 4 + 1, none⟩ (.int .i64 (v : Int))) F o L { M with er := putB M.er b v } := by
  refine h.row (b * 4 + 1) (.int .i64 (v : Int)) { M with er := putB M.er b v } rfl rfl rfl rfl rfl rfl rfl rfl rfl (fun i hi => by omega) (fun i hi => ?_) (fun i hi => ?_) (fun i hi => ?_)
  · by_cases e : i = b
    · subst e
      show _ = some (Value.int .i64 (((if i = i then v else M.er i) : Nat) : Int))
      rw [if_pos rfl]
      exact World.cell?_setCell_same _ _ _ (h.k1 i hi)
    · show _ = some (Value.int .i64 (((if i = b then v else M.er i) : Nat) : Int))
      rw [if_neg e]
      exact (World.cell?_setCell_other _ _ _ _ (by intro e; injection e; omega)).trans (h.k1 i hi)
  · exact (World.cell?_setCell_other _ _ _ _ (by intro e; injection e; omega)).trans (h.k2 i hi)
  · exact (World.cell?_setCell_other _ _ _ _ (by intro e; injection e; omega)).trans (h.k3 i hi)
end
/-- what an erase makes, and its error -/
def erasR (M : Dev) (b : Nat) (x : Int × Int × Int) : Int × Dev :=
  if x.2.1 = 1 then (7, { M with bk := putB M.bk b true })
  else if x.2.1 = 2 then (0, wiped M b (min x.2.2 M.P).toNat)
  else (0, { wiped M b M.P with er := putB M.er b (M.er b + 1) })
set_option maxRecDepth 20000 in
set_option maxHeartbeats 4000000 in
theorem berase_any {w : World} {F : Nat → Prop} {o : Nat → Nat} {L : Lay} {M : Dev} (h : RepO w F o L M) (hF : ∀ b, w.heap.size ≤ b → F b) {b : Nat} (hb : b < M.B) (her : M.er b < 1000000) (x : Int × Int × Int) (hx2 : 0 ≤ x.2.2 ∧ x.2.2 ≤ 9223372036854775807) :
    Calls Try.prog 62 #[.pointer (some ⟨L.kb, b * 4, none⟩), .agg #[.int .i64 x.1, .int .i64 x.2.1, .int .i64 x.2.2]] w fun e w' => e = .returned (.int .i64 (erasR M b x).1) ∧ Cl.Keeps (fun b' => ¬ F b') w w' ∧ Rep w' F L (erasR M b x).2 := by
  have hA1 := below_alloc' w (.cells #[.int .i64 x.1, .int .i64 x.2.1, .int .i64 x.2.2] 26)
  have hf := FBox.new w x
  have hr := h.below hA1
  have hF1 : ∀ b, (w.alloc (.cells #[.int .i64 x.1, .int .i64 x.2.1, .int .i64 x.2.2] 26)).heap.size ≤ b → F b := fun b hb => hF b (Nat.le_trans hA1.size hb)
  obtain ⟨R, hR⟩ : ∃ R, Hid (erasR M b x = R) := ⟨_, Lib.hid rfl⟩
  rw [hR.out]
  have hP := Ge.may_of hr.geo
  have hpc := hr.pc b hb
  replace hA1 := Lib.hid hA1
  clear h
  generalize hw1 : w.alloc (.cells #[.int .i64 x.1, .int .i64 x.2.1, .int .i64 x.2.2] 26) = w1 at *
  obtain ⟨xa, xd, xk⟩ := x
  dsimp only at *
  by_cases h1 : xd = 1
  · subst h1
    obtain rfl := hR.out
    obtain ⟨f0, f1, f2, f3⟩ := hf
    have hk3 := hr.k3 b hb
    have hkf := hr.kf (b * 4 + 3)
    have hend : Hid (Rep (w1.setCell ⟨L.kb, b * 4 + 3, none⟩ (.bool true)) F L { M with bk := putB M.bk b true }) := Lib.hid ⟨o, hr.setBk hb true⟩
    have hke : Hid (Cl.Keeps (fun b' => ¬ F b') w (w1.setCell ⟨L.kb, b * 4 + 3, none⟩ (.bool true))) := keeps_put (Cl.Keeps.of_below hA1.out) (fun e => e hr.kt.1)
    clear hr
    go_enter Try.func62, Try.ntmps62
    go_wp2_with fail
    go_ret
    exact ⟨rfl, hke.out, hend.out⟩
  · by_cases h2 : xd = 2
    · subst h2
      obtain ⟨m, hm⟩ : ∃ m : Nat, (min xk (M.P : Int)).toNat = m := ⟨_, rfl⟩
      obtain rfl : (0, wiped M b m) = R := by rw [← hR.out]; unfold erasR; rw [if_neg (by show ¬ ((2 : Int) = 1); decide), if_pos rfl, ← hm]
      have hmP : m ≤ M.P := by omega
      have hmin : min xk (M.P : Int) = (m : Int) := by omega
      have hsl := slice_to (L.kp b) M.P (L.cp b) m hmP hpc
      clear hm hR
      replace hr := Lib.hid hr
      replace hf := Lib.hid hf
      have f1 := hf.out.c1
      go_enter Try.func62, Try.ntmps62
      go_wp2_with fail
      refine Cl.region_way0 (fun _ => True) 13 [(0, .r), (1, .r), (2, .r), (3, .r), (4, .r), (5, .r), (6, .r), (7, .r), (8, .r), (9, .r), (10, .r), (11, .r), (12, .r), (13, .z)] (by kernel_rfl) (by kernel_rfl) ?_
      intro w3 hk3
      have hb3 := hk3.below
      have hr3 := Lib.hid (hr.out.below hb3)
      have hf3 := Lib.hid (hf.out.keep hb3)
      have hA3 := Lib.hid (hA1.out.trans (hb3.mono hA1.out.size))
      have hw := Lib.hid (wipe_any (m := m) (c := L.cp b) (⟨o, hr3.out⟩ : Rep w3 F L M) (fun b hb => hF1 b (Nat.le_trans hb3.size hb)) hb hmP)
      clear hk3 hb3 hr hf f1
      have q0 := fun y : Cl.Since (fun _ => True) w3 => (hr3.out.below y.keeps.below).k0 b hb
      have f2 := fun y : Cl.Since (fun _ => True) w3 => (hf3.out.keep y.keeps.below).c2
      clear hr3 hf3
      iterate 13 (refine Cl.way_r rfl ?_; go_big_quiet_step (first | simp only [hsl]); refine wpQuiet_nil ?_)
      clear q0 f2
      refine Cl.way_z rfl ?_
      go_wp2_with (go_at_call 83; (with_reducible refine hw.out.mono ?_); rintro e w4 ⟨rfl, hk4, hr4⟩)
      refine Cl.Calm.normal ?_
      go_wp2_with fail
      go_ret
      exact ⟨rfl, (Cl.Keeps.of_below hA3.out).trans hk4, hr4⟩
    · obtain rfl : (0, { wiped M b M.P with er := putB M.er b (M.er b + 1) }) = R := by rw [← hR.out]; unfold erasR; rw [if_neg h1, if_neg h2]
      obtain ⟨f0, f1, f2, f3⟩ := hf
      have q0 := hr.k0 b hb
      have hw := Lib.hid (wipe_any (m := M.P) (c := L.cp b) (⟨o, hr⟩ : Rep w1 F L M) hF1 hb (Nat.le_refl _))
      clear hR hr
      go_enter Try.func62, Try.ntmps62
      go_wp2_with (go_at_call 83; (with_reducible refine hw.out.mono ?_))
      rintro e w4 rfl hk4 ⟨o4, hr4⟩
      have c1 : w4.cell? ⟨L.kb, b * 4 + 1, none⟩ = some (.int .i64 (M.er b : Int)) := hr4.k1 b hb
      have hkf := hr4.kf (b * 4 + 1)
      have hend : Hid (Rep (w4.setCell ⟨L.kb, b * 4 + 1, none⟩ (.int .i64 ((M.er b : Int) + 1))) F L { wiped M b M.P with er := putB M.er b (M.er b + 1) }) := Lib.hid ⟨o4, by have := hr4.setEr (b := b) hb (M.er b + 1); rw [Int.natCast_add] at this; exact this⟩
      have hke : Hid (Cl.Keeps (fun b' => ¬ F b') w (w4.setCell ⟨L.kb, b * 4 + 1, none⟩ (.int .i64 ((M.er b : Int) + 1)))) := keeps_put ((Cl.Keeps.of_below hA1.out).trans hk4) (fun e => e hr4.kt.1)
      clear hr4 hk4 hw
      go_wp2_with fail
      go_ret
      exact ⟨rfl, hke.out, hend.out⟩
end Go.Proofs.Ytnndhbppgmnefaa
