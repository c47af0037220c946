/- The device: what a block's own functions do: wipe, program, erase. -/
import Derived.Test.YtnndhbppgmnefaaDc
namespace Go.Proofs.Ytnndhbppgmnefaa
open Go.RowKit Go.Gf Go.Fl
set_option linter.unusedVariables false
set_option linter.unusedSimpArgs false
attribute [local go_sem ↓] Cl.quiet_after Cl.quiet_since
/-- the first m pages of block b are blank -/
def wiped (M : Dev) (b m : Nat) : Dev := { M with pg := fun i j => if i = b ∧ j < m then blankPg M.n else M.pg i j }
theorem wiped_zero (M : Dev) (b : Nat) : wiped M b 0 = M := by
  unfold wiped
  have : (fun i j => if i = b ∧ j < 0 then blankPg M.n else M.pg i j) = M.pg := by
    funext i j
    rw [if_neg (by omega)]
  rw [this]
theorem wiped_step (M : Dev) (b m : Nat) : { wiped M b m with pg := setPg (wiped M b m).pg b m (blankPg M.n) } = wiped M b (m + 1) := by
  unfold wiped setPg
  dsimp only
  congr 1
  funext i j
  by_cases h1 : i = b ∧ j = m
  · rw [if_pos h1, if_pos (by omega)]
  · rw [if_neg h1]
    by_cases h2 : i = b ∧ j < m
    · rw [if_pos h2, if_pos (by omega)]
    · rw [if_neg h2, if_neg (by omega)]
theorem erase1 {w : World} {F : Nat → Prop} {L : Lay} {M : Dev} (h : Rep w F L M) (hF : ∀ b, w.heap.size ≤ b → F b) {b j : Nat} (hb : b < M.B) (hj : j < M.P) :
    Calls Try.prog 98 #[.pointer (some (L.pa b j))] w fun e w' => e = .returned (.tuple #[]) ∧ Cl.Keeps (fun b => ¬ F b) w w' ∧ Rep w' F L { M with pg := setPg M.pg b j (blankPg M.n) } := by
  obtain ⟨o, h⟩ := h
  refine (c_erase (h.own1 hb hj) (fun b hb => Or.inr hb)).mono ?_
  rintro e w' ⟨rfl, hk, ss', hp⟩
  refine ⟨rfl, Own1.not hF hk, h.page hF hb hj hk ?_ ?_⟩
  · rw [h.len b hb j hj] at hp
    exact hp.any_ss (by decide) _
  · show (List.replicate M.n ((0 : Int), (0 : Int))).length = M.n
    rw [List.length_replicate]
set_option maxHeartbeats 2000000 in
theorem wipe_any {w : World} {F : Nat → Prop} {L : Lay} {M : Dev} (h : Rep w F L M) (hF : ∀ b, w.heap.size ≤ b → F b) {b m c : Nat} (hb : b < M.B) (hm : m ≤ M.P) :
    Calls Try.prog 83 #[.slice (some ⟨L.kp b, 0, none⟩) m c] w fun e w' => e = .returned (.tuple #[]) ∧ Cl.Keeps (fun b => ¬ F b) w w' ∧ Rep w' F L (wiped M b m) := by
  have hm32 : m ≤ 32 := by obtain ⟨o, h⟩ := h; have := Ge.may_of h.geo; omega
  have h0 : Hid (Rep w F L (wiped M b 0)) := by rw [wiped_zero]; exact h
  replace hm := Lib.hid hm
  clear h
  go_enter Try.func83, Try.ntmps83
  go_wp2_with fail
  go_loopw [6] (fun q wr => ∃ i : Nat, i ≤ m ∧ q = .int .i64 i ∧ Rep wr F L (wiped M b i) ∧ Cl.Keeps (fun b => ¬ F b) w wr) (fun q _ => m - (intOf q).toNat)
  case atStart => exact ⟨0, Nat.zero_le _, rfl, h0.out, Cl.Keeps.refl _ _⟩
  case round =>
    obtain ⟨i, hi, rfl, hR, hK⟩ := hrel
    by_cases hin : i < m
    · have hiI : (i : Int) < (m : Int) := by omega
      have hdi : decide (i < m) = true := decide_eq_true hin
      have hiP : i < M.P := by have := hm.out; omega
      have hcl : wr.cell? ⟨L.kp b, i, none⟩ = some (.pointer (some (L.pa b i))) := by obtain ⟨o, hR⟩ := hR; exact hR.pp b hb i hiP
      have her := Lib.hid (erase1 hR (fun b hb => hF b (Nat.le_trans hK.size hb)) (b := b) (j := i) hb hiP)
      replace hK := Lib.hid hK
      clear hR
      go_wp2_with (go_at_call 98; (with_reducible refine her.out.mono ?_); rintro e w2 ⟨rfl, hk2, hr2⟩; have hK2 := Lib.hid (hK.out.trans hk2); have hR2 := Lib.hid (hr2.eq (wiped_step M b i)); clear hk2 hr2)
      go_roundw
      case rel => exact ⟨i + 1, by omega, by go_num, hR2.out, hK2.out⟩
      case measure => simp [intOf]; omega
    · obtain rfl : i = m := by omega
      have hdi : decide (i < i) = false := decide_eq_false (Nat.lt_irrefl _)
      replace hR := Lib.hid hR
      replace hK := Lib.hid hK
      go_wp2_with fail
      go_end0
      exact ⟨rfl, hK.out, hR.out⟩
end Go.Proofs.Ytnndhbppgmnefaa
/- The device: a block's program and erase, as their fate has it. -/
namespace Go.Proofs.Ytnndhbppgmnefaa
open Go.RowKit Go.Gf Go.Fl
set_option linter.unusedVariables false
set_option linter.unusedSimpArgs false
attribute [local go_sem ↓] Cl.quiet_after Cl.quiet_since
/-- how many cells are programmed, and the error, by what befalls -/
def keepP (n out : Nat) (x : Int × Int × Int) : Int := if x.2.1 = 1 then min x.2.2 ((n : Int) - out) else if x.2.1 = 2 then x.2.2 else n
def progPg (p : Pg) (xs : List Nat) (keep : Int) : Pg := ⟨progP p.ps xs keep, xs, progS xs.length keep⟩
theorem progP_len (ps : List (Int × Int)) (xs : List Nat) (keep : Int) : (progP ps xs keep).length = ps.length := by unfold progP; simp
theorem program1 {w : World} {F : Nat → Prop} {o : Nat → Nat} {L : Lay} {M : Dev} (h : RepO w F o L M) (hF : ∀ b, w.heap.size ≤ b → F b) {b j : Nat} (hb : b < M.B) (hj : j < M.P) (hst : (M.pg b j).st = 0)
    {A : Option Addr} {xs : List Nat} {c n : Nat} (hs : Sl w w.heap.size A xs) (hA : ∀ a, A = some a → a.block < w.heap.size ∧ ¬ F a.block) (hn : xs.length = n) (hM : n = M.n) (hc : n ≤ c) (hx : ∀ x ∈ xs, x < 1024) (keep : Int) (hk : -9223372036854775808 ≤ keep ∧ keep ≤ 9223372036854775807) :
    Calls Try.prog 82 #[.pointer (some (L.pa b j)), .slice A n c, .int .i64 keep] w fun e w' => e = .returned (.int .i64 0) ∧ Cl.Keeps (fun b' => ¬ Own1 w F o (tg M.P b j) b') w w' ∧ Rep w' F L { M with pg := setPg M.pg b j (progPg (M.pg b j) xs keep) } := by
  have hp := h.own1 hb hj
  rw [hst] at hp
  have hlen := h.len b hb j hj
  have hn3 := n_le h.geo
  refine (c_prog hp (fun b hb => Or.inr hb) hn hc hs (fun a e hh => ?_) (by rw [hlen, hn, hM]) (by omega) hx keep hk).mono ?_
  · obtain ⟨h1, h2⟩ := hA a e
    rcases hh with hh | hh
    · exact h2 hh.1
    · omega
  rintro e w' ⟨rfl, hk2, ss', hp2, hss⟩
  refine ⟨rfl, hk2, h.page hF hb hj hk2 ?_ ?_⟩
  · unfold progPg
    dsimp only
    by_cases hk0 : 0 < keep
    · rw [hss hk0] at hp2
      exact hp2
    · have : progS xs.length keep = 0 := by unfold progS; rw [if_pos (by omega)]
      rw [this] at hp2 ⊢
      exact hp2.any_ss (by decide) _
  · show (progP (M.pg b j).ps xs keep).length = M.n
    rw [progP_len, hlen]
/-- block g holds that fate -/
structure FBox (w : World) (g : Nat) (x : Int × Int × Int) : Prop where
  lt : g < w.heap.size
  c0 : w.cell? ⟨g, 0, none⟩ = some (.int .i64 x.1)
  c1 : w.cell? ⟨g, 1, none⟩ = some (.int .i64 x.2.1)
  c2 : w.cell? ⟨g, 2, none⟩ = some (.int .i64 x.2.2)
theorem FBox.keep {w w' : World} {g : Nat} {x : Int × Int × Int} (h : FBox w g x) (hb : Below w.heap.size w w') : FBox w' g x :=
  ⟨Nat.lt_of_lt_of_le h.lt hb.size, (hb.cell h.lt).trans h.c0, (hb.cell h.lt).trans h.c1, (hb.cell h.lt).trans h.c2⟩
theorem FBox.block {w w' : World} {g : Nat} {x : Int × Int × Int} (h : FBox w g x) (hs : w.heap.size ≤ w'.heap.size) (hb : w'.heap[g]? = w.heap[g]?) : FBox w' g x :=
  have e := fun i => World.cell?_of_block (w := w) (w' := w') (a := ⟨g, i, none⟩) hb
  ⟨Nat.lt_of_lt_of_le h.lt hs, (e 0).trans h.c0, (e 1).trans h.c1, (e 2).trans h.c2⟩
theorem FBox.new (w : World) (x : Int × Int × Int) : FBox (w.alloc (.cells #[.int .i64 x.1, .int .i64 x.2.1, .int .i64 x.2.2] 26)) w.heap.size x :=
  have h := cell_new w #[.int .i64 x.1, .int .i64 x.2.1, .int .i64 x.2.2] 26
  ⟨by rw [World.size_alloc]; omega, h 0, h 1, h 2⟩
theorem below_own {w w1 w2 : World} {F : Nat → Prop} {o : Nat → Nat} {t : Nat} (hb : Below w.heap.size w w1) (h : Cl.Keeps (fun b => ¬ Own1 w1 F o t b) w1 w2) : Cl.Keeps (fun b => ¬ Own1 w F o t b) w w2 :=
  ⟨h.os.trans hb.os, h.tape.trans hb.tape, h.output.trans hb.output, Nat.le_trans hb.size h.size, fun b hlt hk => (h.block b (Nat.lt_of_lt_of_le hlt hb.size) (fun e => hk (by
    rcases e with e | e
    · exact Or.inl e
    · exact absurd e (by have := hb.size; omega)))).trans (hb.block b hlt)⟩
set_option maxHeartbeats 4000000 in
theorem bprogram_any {w : World} {F : Nat → Prop} {o : Nat → Nat} {L : Lay} {M : Dev} (h : RepO w F o L M) (hF : ∀ b, w.heap.size ≤ b → F b) {b p : Nat} (hb : b < M.B) (hp : p < M.P) (hst : (M.pg b p).st = 0)
    {A : Option Addr} {xs : List Nat} {c n : Nat} (hs : Sl w w.heap.size A xs) (hA : ∀ a, A = some a → a.block < w.heap.size ∧ ¬ F a.block) (hn : xs.length = n) (hM : n = M.n) (hc : n ≤ c) (hx : ∀ x ∈ xs, x < 1024) (out : Nat) (hout : out ≤ n) (x : Int × Int × Int) (hx2 : 0 ≤ x.2.2 ∧ x.2.2 ≤ 9223372036854775807) :
    Calls Try.prog 61 #[.pointer (some ⟨L.kb, b * 4, none⟩), .int .i64 (p : Int), .slice A n c, .agg #[.int .i64 x.1, .int .i64 x.2.1, .int .i64 x.2.2], .int .i64 (out : Int)] w fun e w' => e = .returned (.int .i64 (if x.2.1 = 1 then 6 else 0)) ∧ Cl.Keeps (fun b' => ¬ Own1 w F o (tg M.P b p) b') w w' ∧ Rep w' F L { M with pg := setPg M.pg b p (progPg (M.pg b p) xs (keepP n out x)) } := by
  have hn3 : n ≤ 320 := by rw [hM]; exact n_le h.geo
  have hA1 := below_alloc' w (.cells #[.int .i64 x.1, .int .i64 x.2.1, .int .i64 x.2.2] 26)
  have hf := FBox.new w x
  have hr := h.below hA1
  obtain ⟨kp, hkp⟩ : ∃ kp, keepP n out x = kp := ⟨_, rfl⟩
  rw [hkp]
  have hkb : -9223372036854775808 ≤ kp ∧ kp ≤ 9223372036854775807 := by
    rw [← hkp]; unfold keepP
    split
    · omega
    · split <;> omega
  have hpr := program1 hr (fun b hb => hF b (Nat.le_trans hA1.size hb)) hb hp hst ((hs.below hA1).more hA1.size) (fun a e => ⟨Nat.lt_of_lt_of_le (hA a e).1 hA1.size, (hA a e).2⟩) hn hM hc hx kp hkb
  have q0 := hr.k0 b hb
  have qp := hr.pp b hb p hp
  have hpI : (p : Int) < (M.P : Int) := by omega
  have hp32 : p < 32 := by have := Ge.may_of h.geo; omega
  obtain ⟨f0, f1, f2, f3⟩ := hf
  replace hpr := Lib.hid hpr
  replace hA1 := Lib.hid hA1
  clear h hr hs hA hx hn hM hst
  generalize hw1 : w.alloc (.cells #[.int .i64 x.1, .int .i64 x.2.1, .int .i64 x.2.2] 26) = w1 at *
  obtain ⟨xa, xd, xk⟩ := x
  dsimp only at *
  by_cases h1 : xd = 1
  · subst h1
    rw [if_pos rfl]
    have hkp1 : min xk ((n : Int) - (out : Int)) = kp := by rw [← hkp]; unfold keepP; rw [if_pos rfl]
    clear hkp
    have hw : wrap64 ((n : Int) - (out : Int)) = (n : Int) - (out : Int) := IntWalk.wrap64_in _ (by omega)
    go_enter Try.func61, Try.ntmps61
    go_wp2_with (go_at_call 82; (with_reducible refine hpr.out.mono ?_); rintro e w2 ⟨rfl, hk2, hr2⟩)
    go_ret
    exact ⟨rfl, below_own hA1.out hk2, hr2⟩
  · rw [if_neg h1]
    by_cases h2 : xd = 2
    · subst h2
      obtain rfl : kp = xk := by rw [← hkp]; unfold keepP; rw [if_neg (by show ¬ ((2 : Int) = 1); decide), if_pos rfl]
      clear hkp
      go_enter Try.func61, Try.ntmps61
      go_wp2_with (go_at_call 82; (with_reducible refine hpr.out.mono ?_); rintro e w2 ⟨rfl, hk2, hr2⟩)
      go_ret
      exact ⟨rfl, below_own hA1.out hk2, hr2⟩
    · obtain rfl : kp = (n : Int) := by rw [← hkp]; unfold keepP; rw [if_neg h1, if_neg h2]
      clear hkp
      go_enter Try.func61, Try.ntmps61
      go_wp2_with (go_at_call 82; (with_reducible refine hpr.out.mono ?_); rintro e w2 ⟨rfl, hk2, hr2⟩)
      go_ret
      exact ⟨rfl, below_own hA1.out hk2, hr2⟩
end Go.Proofs.Ytnndhbppgmnefaa
/- The device: a block's erase, as its fate has it. -/
namespace Go.Proofs.Ytnndhbppgmnefaa
open Go.RowKit Go.Gf Go.Fl
set_option linter.unusedVariables false
set_option linter.unusedSimpArgs false
attribute [local go_sem ↓] Cl.quiet_after Cl.quiet_since
def putB {α : Type} (f : Nat → α) (b : Nat) (v : α) : Nat → α := fun i => if i = b then v else f i
theorem slice_to (k n c m : Nat) (hm : m ≤ n) (hn : n ≤ c) (w : World) : (Instr.slice 65 (.slice (some ⟨k, 0, none⟩) n c) none (some (.int .i64 (m : Int))) none).run Try.prog w = .ok (.slice (some ⟨k, 0, none⟩) m c) w := by
  rw [run_slice_h (P := Try.prog) w 65 _ n c (by rw [elem65]; exact Try.underlying65) .i64 (m : Int) (by omega) (by omega), elem65, Try.sizeOf74]
  simp only [Result.andThen_ok, Int.toNat_natCast]
  unfold sliced
  have e : (⟨k, 0, none⟩ : Addr).add 0 = ⟨k, 0, none⟩ := add_zero' _
  simp [e]
section
variable {w : World} {F : Nat → Prop} {o : Nat → Nat} {L : Lay} {M : Dev}
theorem RepO.cellk (h : RepO w F o L M) {b q : Nat} (hb : b < M.B) (hq : q < 4) : ∃ v, w.cell? ⟨L.kb, b * 4 + q, none⟩ = some v := by
  have h0 := h.k0 b hb
  have h1 := h.k1 b hb
  have h2 := h.k2 b hb
  have h3 := h.k3 b hb
  rcases (by omega : q = 0 ∨ q = 1 ∨ q = 2 ∨ q = 3) with rfl | rfl | rfl | rfl
  · exact ⟨_, h0⟩
  · exact ⟨_, h1⟩
  · exact ⟨_, h2⟩
  · exact ⟨_, h3⟩
theorem RepO.setBk (h : RepO w F o L M) {b : Nat} (hb : b < M.B) (v : Bool) : RepO (w.setCell ⟨L.kb, b * 4 + 3, none⟩ (.bool v)) F o L { M with bk := putB M.bk b v } := by
  refine h.row (b * 4 + 3) (.bool v) { M with bk := putB M.bk b v } rfl rfl rfl rfl rfl rfl rfl rfl rfl (fun i hi => by omega) (fun i hi => ?_) (fun i hi => ?_) (fun i hi => ?_)
  · exact (World.cell?_setCell_other _ _ _ _ (by intro e; injection e; omega)).trans (h.k1 i hi)
  · exact (World.cell?_setCell_other _ _ _ _ (by intro e; injection e; omega)).trans (h.k2 i hi)
  · by_cases e : i = b
    · subst e
      show _ = some (Value.bool (if i = i then v else M.bk i))
      rw [if_pos rfl]
      exact World.cell?_setCell_same _ _ _ (h.k3 i hi)
    · show _ = some (Value.bool (if i = b then v else M.bk i))
      rw [if_neg e]
      exact (World.cell?_setCell_other _ _ _ _ (by intro e; injection e; omega)).trans (h.k3 i hi)
theorem RepO.setMd (h : RepO w F o L M) {b : Nat} (hb : b < M.B) (v : Bool) : RepO (w.setCell ⟨L.kb, b * 4 + 2, none⟩ (.bool v)) F o L { M with md := putB M.md b v } := by
  refine h.row (b * 4 + 2) (.bool v) { M with md := putB M.md b v } rfl rfl rfl rfl rfl rfl rfl rfl rfl (fun i hi => by omega) (fun i hi => ?_) (fun i hi => ?_) (fun i hi => ?_)
  · exact (World.cell?_setCell_other _ _ _ _ (by intro e; injection e; omega)).trans (h.k1 i hi)
  · by_cases e : i = b
    · subst e
      show _ = some (Value.bool (if i = i then v else M.md i))
      rw [if_pos rfl]
      exact World.cell?_setCell_same _ _ _ (h.k2 i hi)
    · show _ = some (Value.bool (if i = b then v else M.md i))
      rw [if_neg e]
      exact (World.cell?_setCell_other _ _ _ _ (by intro e; injection e; omega)).trans (h.k2 i hi)
  · exact (World.cell?_setCell_other _ _ _ _ (by intro e; injection e; omega)).trans (h.k3 i hi)
theorem RepO.setEr (h : RepO w F o L M) {b : Nat} (hb : b < M.B) (v : Nat) : RepO (w.setCell ⟨L.kb, b * 4 + 1, none⟩ (.int .i64 (v : Int))) F o L { M with er := putB M.er b v } := by
  refine h.row (b * 4 + 1) (.int .i64 (v : Int)) { M with er := putB M.er b v } rfl rfl rfl rfl rfl rfl rfl rfl rfl (fun i hi => by omega) (fun i hi => ?_) (fun i hi => ?_) (fun i hi => ?_)
  · by_cases e : i = b
    · subst e
      show _ = some (Value.int .i64 (((if i = i then v else M.er i) : Nat) : Int))
      rw [if_pos rfl]
      exact World.cell?_setCell_same _ _ _ (h.k1 i hi)
    · show _ = some (Value.int .i64 (((if i = b then v else M.er i) : Nat) : Int))
      rw [if_neg e]
      exact (World.cell?_setCell_other _ _ _ _ (by intro e; injection e; omega)).trans (h.k1 i hi)
  · exact (World.cell?_setCell_other _ _ _ _ (by intro e; injection e; omega)).trans (h.k2 i hi)
  · exact (World.cell?_setCell_other _ _ _ _ (by intro e; injection e; omega)).trans (h.k3 i hi)
end
/-- what an erase makes, and its error -/
def erasR (M : Dev) (b : Nat) (x : Int × Int × Int) : Int × Dev :=
  if x.2.1 = 1 then (7, { M with bk := putB M.bk b true })
  else if x.2.1 = 2 then (0, wiped M b (min x.2.2 M.P).toNat)
  else (0, { wiped M b M.P with er := putB M.er b (M.er b + 1) })
set_option maxRecDepth 20000 in
set_option maxHeartbeats 4000000 in
theorem berase_any {w : World} {F : Nat → Prop} {o : Nat → Nat} {L : Lay} {M : Dev} (h : RepO w F o L M) (hF : ∀ b, w.heap.size ≤ b → F b) {b : Nat} (hb : b < M.B) (her : M.er b < 1000000) (x : Int × Int × Int) (hx2 : 0 ≤ x.2.2 ∧ x.2.2 ≤ 9223372036854775807) :
    Calls Try.prog 62 #[.pointer (some ⟨L.kb, b * 4, none⟩), .agg #[.int .i64 x.1, .int .i64 x.2.1, .int .i64 x.2.2]] w fun e w' => e = .returned (.int .i64 (erasR M b x).1) ∧ Cl.Keeps (fun b' => ¬ F b') w w' ∧ Rep w' F L (erasR M b x).2 := by
  have hA1 := below_alloc' w (.cells #[.int .i64 x.1, .int .i64 x.2.1, .int .i64 x.2.2] 26)
  have hf := FBox.new w x
  have hr := h.below hA1
  have hF1 : ∀ b, (w.alloc (.cells #[.int .i64 x.1, .int .i64 x.2.1, .int .i64 x.2.2] 26)).heap.size ≤ b → F b := fun b hb => hF b (Nat.le_trans hA1.size hb)
  obtain ⟨R, hR⟩ : ∃ R, Hid (erasR M b x = R) := ⟨_, Lib.hid rfl⟩
  rw [hR.out]
  have hP := Ge.may_of hr.geo
  have hpc := hr.pc b hb
  replace hA1 := Lib.hid hA1
  clear h
  generalize hw1 : w.alloc (.cells #[.int .i64 x.1, .int .i64 x.2.1, .int .i64 x.2.2] 26) = w1 at *
  obtain ⟨xa, xd, xk⟩ := x
  dsimp only at *
  by_cases h1 : xd = 1
  · subst h1
    obtain rfl := hR.out
    obtain ⟨f0, f1, f2, f3⟩ := hf
    have hk3 := hr.k3 b hb
    have hkf := hr.kf (b * 4 + 3)
    have hend : Hid (Rep (w1.setCell ⟨L.kb, b * 4 + 3, none⟩ (.bool true)) F L { M with bk := putB M.bk b true }) := Lib.hid ⟨o, hr.setBk hb true⟩
    have hke : Hid (Cl.Keeps (fun b' => ¬ F b') w (w1.setCell ⟨L.kb, b * 4 + 3, none⟩ (.bool true))) := keeps_put (Cl.Keeps.of_below hA1.out) (fun e => e hr.kt.1)
    clear hr
    go_enter Try.func62, Try.ntmps62
    go_wp2_with fail
    go_ret
    exact ⟨rfl, hke.out, hend.out⟩
  · by_cases h2 : xd = 2
    · subst h2
      obtain ⟨m, hm⟩ : ∃ m : Nat, (min xk (M.P : Int)).toNat = m := ⟨_, rfl⟩
      obtain rfl : (0, wiped M b m) = R := by rw [← hR.out]; unfold erasR; rw [if_neg (by show ¬ ((2 : Int) = 1); decide), if_pos rfl, ← hm]
      have hmP : m ≤ M.P := by omega
      have hmin : min xk (M.P : Int) = (m : Int) := by omega
      have hsl := slice_to (L.kp b) M.P (L.cp b) m hmP hpc
      clear hm hR
      replace hr := Lib.hid hr
      replace hf := Lib.hid hf
      have f1 := hf.out.c1
      go_enter Try.func62, Try.ntmps62
      go_wp2_with fail
      refine Cl.region_way0 (fun _ => True) 13 [(0, .r), (1, .r), (2, .r), (3, .r), (4, .r), (5, .r), (6, .r), (7, .r), (8, .r), (9, .r), (10, .r), (11, .r), (12, .r), (13, .z)] (by kernel_rfl) (by kernel_rfl) ?_
      intro w3 hk3
      have hb3 := hk3.below
      have hr3 := Lib.hid (hr.out.below hb3)
      have hf3 := Lib.hid (hf.out.keep hb3)
      have hA3 := Lib.hid (hA1.out.trans (hb3.mono hA1.out.size))
      have hw := Lib.hid (wipe_any (m := m) (c := L.cp b) (⟨o, hr3.out⟩ : Rep w3 F L M) (fun b hb => hF1 b (Nat.le_trans hb3.size hb)) hb hmP)
      clear hk3 hb3 hr hf f1
      have q0 := fun y : Cl.Since (fun _ => True) w3 => (hr3.out.below y.keeps.below).k0 b hb
      have f2 := fun y : Cl.Since (fun _ => True) w3 => (hf3.out.keep y.keeps.below).c2
      clear hr3 hf3
      iterate 13 (refine Cl.way_r rfl ?_; go_big_quiet_step (first | simp only [hsl]); refine wpQuiet_nil ?_)
      clear q0 f2
      refine Cl.way_z rfl ?_
      go_wp2_with (go_at_call 83; (with_reducible refine hw.out.mono ?_); rintro e w4 ⟨rfl, hk4, hr4⟩)
      refine Cl.Calm.normal ?_
      go_wp2_with fail
      go_ret
      exact ⟨rfl, (Cl.Keeps.of_below hA3.out).trans hk4, hr4⟩
    · obtain rfl : (0, { wiped M b M.P with er := putB M.er b (M.er b + 1) }) = R := by rw [← hR.out]; unfold erasR; rw [if_neg h1, if_neg h2]
      obtain ⟨f0, f1, f2, f3⟩ := hf
      have q0 := hr.k0 b hb
      have hw := Lib.hid (wipe_any (m := M.P) (c := L.cp b) (⟨o, hr⟩ : Rep w1 F L M) hF1 hb (Nat.le_refl _))
      clear hR hr
      go_enter Try.func62, Try.ntmps62
      go_wp2_with (go_at_call 83; (with_reducible refine hw.out.mono ?_))
      rintro e w4 rfl hk4 ⟨o4, hr4⟩
      have c1 : w4.cell? ⟨L.kb, b * 4 + 1, none⟩ = some (.int .i64 (M.er b : Int)) := hr4.k1 b hb
      have hkf := hr4.kf (b * 4 + 1)
      have hend : Hid (Rep (w4.setCell ⟨L.kb, b * 4 + 1, none⟩ (.int .i64 ((M.er b : Int) + 1))) F L { wiped M b M.P with er := putB M.er b (M.er b + 1) }) := Lib.hid ⟨o4, by have := hr4.setEr (b := b) hb (M.er b + 1); rw [Int.natCast_add] at this; exact this⟩
      have hke : Hid (Cl.Keeps (fun b' => ¬ F b') w (w4.setCell ⟨L.kb, b * 4 + 1, none⟩ (.int .i64 ((M.er b : Int) + 1)))) := keeps_put ((Cl.Keeps.of_below hA1.out).trans hk4) (fun e => e hr4.kt.1)
      clear hr4 hk4 hw
      go_wp2_with fail
      go_ret
      exact ⟨rfl, hke.out, hend.out⟩
end Go.Proofs.Ytnndhbppgmnefaa
