/- The device: what a block's own functions do: wipe, program, erase. · The device: a block's program and erase, as their fate has it. · The device: a block's erase, as its fate has it. · The device: what is carried out of an operation. · The device: an operation, from its number to its end. -/
import Derived.Test.YtjhoecfhmndcgaaGreatV41
import Derived.Test.YtjhoecfhmndcgaaGreatV40
import Derived.WalkMore
import Derived.ScopeJumps
namespace Go.Proofs.YtjhoecfhmndcgaaGreat
open Go.RowKit Go.Gf Go.Fl
set_option linter.unusedVariables false
set_option linter.unusedSimpArgs false
attribute [local go_sem ↓] Cl.quiet_after Cl.quiet_since
/-- the first m pages of block b are blank -/
def wiped (M : Dev) (b m : Nat) : Dev := { M with pg := fun i j => if i = b ∧ j < m then blankPg M.n else M.pg i j }
theorem wiped_zero (M : Dev) (b : Nat) : wiped M b 0 = M := by
  unfold wiped
  have : (fun i j => if i = b ∧ j < 0 then blankPg M.n else M.pg i j) = M.pg := by
    funext i j
    rw [if_neg (by omega)]
  rw [this]
theorem wiped_step (M : Dev) (b m : Nat) : { wiped M b m with pg := setPg (wiped M b m).pg b m (blankPg M.n) } = wiped M b (m + 1) := by
  unfold wiped setPg
  dsimp only
  congr 1
  funext i j
  by_cases h1 : i = b ∧ j = m
  · rw [if_pos h1, if_pos (by omega)]
  · rw [if_neg h1]
    by_cases h2 : i = b ∧ j < m
    · rw [if_pos h2, if_pos (by omega)]
    · rw [if_neg h2, if_neg (by omega)]
theorem erase1 {w : World} {F : Nat → Prop} {L : Lay} {M : Dev} (h : Rep w F L M) (hF : ∀ b, w.heap.size ≤ b → F b) {b j : Nat} (hb : b < M.B) (hj : j < M.P) :
    Calls Tryz.prog 137 #[.pointer (some (L.pa b j))] w fun e w' => e = .returned (.tuple #[]) ∧ Cl.Keeps (fun b => ¬ F b) w w' ∧ Rep w' F L { M with pg := setPg M.pg b j (blankPg M.n) } := by
  obtain ⟨o, h⟩ := h
  refine (c_erase (h.own1 hb hj) (fun b hb => Or.inr hb)).mono ?_
  rintro e w' ⟨rfl, hk, ss', hp⟩
  refine ⟨rfl, Own1.not hF hk, h.page hF hb hj hk ?_ ?_⟩
  · rw [h.len b hb j hj] at hp
    exact hp.any_ss (by decide) _
  · show (List.replicate M.n ((0 : Int), (0 : Int))).length = M.n
    rw [List.length_replicate]
set_option maxHeartbeats 2000000 in
theorem wipe_any {w : World} {F : Nat → Prop} {L : Lay} {M : Dev} (h : Rep w F L M) (hF : ∀ b, w.heap.size ≤ b → F b) {b m c : Nat} (hb : b < M.B) (hm : m ≤ M.P) :
    Calls Tryz.prog 112 #[.slice (some ⟨L.kp b, 0, none⟩) m c] w fun e w' => e = .returned (.tuple #[]) ∧ Cl.Keeps (fun b => ¬ F b) w w' ∧ Rep w' F L (wiped M b m) := by
  have hm32 : m ≤ 32 := by obtain ⟨o, h⟩ := h; have := Ge.may_of h.geo; omega
  have h0 : Hid (Rep w F L (wiped M b 0)) := by rw [wiped_zero]; exact h
  replace hm := Lib.hid hm
  clear h
  go_enter Tryz.func112, Tryz.ntmps112
  go_wp2_with fail
  go_loopw [6] (fun q wr => ∃ i : Nat, i ≤ m ∧ q = .int .i64 i ∧ Rep wr F L (wiped M b i) ∧ Cl.Keeps (fun b => ¬ F b) w wr) (fun q _ => m - (intOf q).toNat)
  case atStart => exact ⟨0, Nat.zero_le _, rfl, h0.out, Cl.Keeps.refl _ _⟩
  case round =>
    obtain ⟨i, hi, rfl, hR, hK⟩ := hrel
    by_cases hin : i < m
    · have hiI : (i : Int) < (m : Int) := by omega
      have hdi : decide (i < m) = true := decide_eq_true hin
      have hiP : i < M.P := by have := hm.out; omega
      have hcl : wr.cell? ⟨L.kp b, i, none⟩ = some (.pointer (some (L.pa b i))) := by obtain ⟨o, hR⟩ := hR; exact hR.pp b hb i hiP
      have her := Lib.hid (erase1 hR (fun b hb => hF b (Nat.le_trans hK.size hb)) (b := b) (j := i) hb hiP)
      replace hK := Lib.hid hK
      clear hR
      go_wp2_with (go_at_call 137; (with_reducible refine her.out.mono ?_); rintro e w2 ⟨rfl, hk2, hr2⟩; have hK2 := Lib.hid (hK.out.trans hk2); have hR2 := Lib.hid (hr2.eq (wiped_step M b i)); clear hk2 hr2)
      go_roundw
      case rel => exact ⟨i + 1, by omega, by go_num, hR2.out, hK2.out⟩
      case measure => simp [intOf]; omega
    · obtain rfl : i = m := by omega
      have hdi : decide (i < i) = false := decide_eq_false (Nat.lt_irrefl _)
      replace hR := Lib.hid hR
      replace hK := Lib.hid hK
      go_wp2_with fail
      go_end0
      exact ⟨rfl, hK.out, hR.out⟩
end Go.Proofs.YtjhoecfhmndcgaaGreat
namespace Go.Proofs.YtjhoecfhmndcgaaGreat
open Go.RowKit Go.Gf Go.Fl
set_option linter.unusedVariables false
set_option linter.unusedSimpArgs false
attribute [local go_sem ↓] Cl.quiet_after Cl.quiet_since
/-- how many cells are programmed, and the error, by what befalls -/
def keepP (n out : Nat) (x : Int × Int × Int) : Int := if x.2.1 = 1 then min x.2.2 ((n : Int) - out) else if x.2.1 = 2 then x.2.2 else n
def progPg (p : Pg) (xs : List Nat) (keep : Int) : Pg := ⟨progP p.ps xs keep, xs, progS xs.length keep⟩
theorem progP_len (ps : List (Int × Int)) (xs : List Nat) (keep : Int) : (progP ps xs keep).length = ps.length := by unfold progP; simp
theorem program1 {w : World} {F : Nat → Prop} {o : Nat → Nat} {L : Lay} {M : Dev} (h : RepO w F o L M) (hF : ∀ b, w.heap.size ≤ b → F b) {b j : Nat} (hb : b < M.B) (hj : j < M.P) (hst : (M.pg b j).st = 0)
    {A : Option Addr} {xs : List Nat} {c n : Nat} (hs : Sl w w.heap.size A xs) (hA : ∀ a, A = some a → a.block < w.heap.size ∧ ¬ F a.block) (hn : xs.length = n) (hM : n = M.n) (hc : n ≤ c) (hx : ∀ x ∈ xs, x < 1024) (keep : Int) (hk : -9223372036854775808 ≤ keep ∧ keep ≤ 9223372036854775807) :
    Calls Tryz.prog 111 #[.pointer (some (L.pa b j)), .slice A n c, .int .i64 keep] w fun e w' => e = .returned (.int .i64 0) ∧ Cl.Keeps (fun b' => ¬ Own1 w F o (tg M.P b j) b') w w' ∧ Rep w' F L { M with pg := setPg M.pg b j (progPg (M.pg b j) xs keep) } := by
  have hp := h.own1 hb hj
  rw [hst] at hp
  have hlen := h.len b hb j hj
  have hn3 := n_le h.geo
  refine (c_prog hp (fun b hb => Or.inr hb) hn hc hs (fun a e hh => ?_) (by rw [hlen, hn, hM]) (by omega) hx keep hk).mono ?_
  · obtain ⟨h1, h2⟩ := hA a e
    rcases hh with hh | hh
    · exact h2 hh.1
    · omega
  rintro e w' ⟨rfl, hk2, ss', hp2, hss⟩
  refine ⟨rfl, hk2, h.page hF hb hj hk2 ?_ ?_⟩
  · unfold progPg
    dsimp only
    by_cases hk0 : 0 < keep
    · rw [hss hk0] at hp2
      exact hp2
    · have : progS xs.length keep = 0 := by unfold progS; rw [if_pos (by omega)]
      rw [this] at hp2 ⊢
      exact hp2.any_ss (by decide) _
  · show (progP (M.pg b j).ps xs keep).length = M.n
    rw [progP_len, hlen]
/-- block g holds that fate -/
structure FBox (w : World) (g : Nat) (x : Int × Int × Int) : Prop where
  lt : g < w.heap.size
  c0 : w.cell? ⟨g, 0, none⟩ = some (.int .i64 x.1)
  c1 : w.cell? ⟨g, 1, none⟩ = some (.int .i64 x.2.1)
  c2 : w.cell? ⟨g, 2, none⟩ = some (.int .i64 x.2.2)
theorem FBox.keep {w w' : World} {g : Nat} {x : Int × Int × Int} (h : FBox w g x) (hb : Below w.heap.size w w') : FBox w' g x :=
  ⟨Nat.lt_of_lt_of_le h.lt hb.size, (hb.cell h.lt).trans h.c0, (hb.cell h.lt).trans h.c1, (hb.cell h.lt).trans h.c2⟩
theorem FBox.block {w w' : World} {g : Nat} {x : Int × Int × Int} (h : FBox w g x) (hs : w.heap.size ≤ w'.heap.size) (hb : w'.heap[g]? = w.heap[g]?) : FBox w' g x :=
  have e := fun i => World.cell?_of_block (w := w) (w' := w') (a := ⟨g, i, none⟩) hb
  ⟨Nat.lt_of_lt_of_le h.lt hs, (e 0).trans h.c0, (e 1).trans h.c1, (e 2).trans h.c2⟩
theorem FBox.new (w : World) (x : Int × Int × Int) : FBox (w.alloc (.cells #[.int .i64 x.1, .int .i64 x.2.1, .int .i64 x.2.2] 61)) w.heap.size x :=
  have h := cell_new w #[.int .i64 x.1, .int .i64 x.2.1, .int .i64 x.2.2] 61
  ⟨by rw [World.size_alloc]; omega, h 0, h 1, h 2⟩
theorem below_own {w w1 w2 : World} {F : Nat → Prop} {o : Nat → Nat} {t : Nat} (hb : Below w.heap.size w w1) (h : Cl.Keeps (fun b => ¬ Own1 w1 F o t b) w1 w2) : Cl.Keeps (fun b => ¬ Own1 w F o t b) w w2 :=
  ⟨h.os.trans hb.os, h.tape.trans hb.tape, h.output.trans hb.output, Nat.le_trans hb.size h.size, fun b hlt hk => (h.block b (Nat.lt_of_lt_of_le hlt hb.size) (fun e => hk (by
    rcases e with e | e
    · exact Or.inl e
    · exact absurd e (by have := hb.size; omega)))).trans (hb.block b hlt)⟩
set_option maxHeartbeats 4000000 in
theorem bprogram_any {w : World} {F : Nat → Prop} {o : Nat → Nat} {L : Lay} {M : Dev} (h : RepO w F o L M) (hF : ∀ b, w.heap.size ≤ b → F b) {b p : Nat} (hb : b < M.B) (hp : p < M.P) (hst : (M.pg b p).st = 0)
    {A : Option Addr} {xs : List Nat} {c n : Nat} (hs : Sl w w.heap.size A xs) (hA : ∀ a, A = some a → a.block < w.heap.size ∧ ¬ F a.block) (hn : xs.length = n) (hM : n = M.n) (hc : n ≤ c) (hx : ∀ x ∈ xs, x < 1024) (out : Nat) (hout : out ≤ n) (x : Int × Int × Int) (hx2 : 0 ≤ x.2.2 ∧ x.2.2 ≤ 9223372036854775807) :
    Calls Tryz.prog 79 #[.pointer (some ⟨L.kb, b * 4, none⟩), .int .i64 (p : Int), .slice A n c, .agg #[.int .i64 x.1, .int .i64 x.2.1, .int .i64 x.2.2], .int .i64 (out : Int)] w fun e w' => e = .returned (.int .i64 (if x.2.1 = 1 then 6 else 0)) ∧ Cl.Keeps (fun b' => ¬ Own1 w F o (tg M.P b p) b') w w' ∧ Rep w' F L { M with pg := setPg M.pg b p (progPg (M.pg b p) xs (keepP n out x)) } := by
  have hn3 : n ≤ 320 := by rw [hM]; exact n_le h.geo
  have hA1 := below_alloc' w (.cells #[.int .i64 x.1, .int .i64 x.2.1, .int .i64 x.2.2] 61)
  have hf := FBox.new w x
  have hr := h.below hA1
  obtain ⟨kp, hkp⟩ : ∃ kp, keepP n out x = kp := ⟨_, rfl⟩
  rw [hkp]
  have hkb : -9223372036854775808 ≤ kp ∧ kp ≤ 9223372036854775807 := by
    rw [← hkp]; unfold keepP
    split
    · omega
    · split <;> omega
  have hpr := program1 hr (fun b hb => hF b (Nat.le_trans hA1.size hb)) hb hp hst ((hs.below hA1).more hA1.size) (fun a e => ⟨Nat.lt_of_lt_of_le (hA a e).1 hA1.size, (hA a e).2⟩) hn hM hc hx kp hkb
  have q0 := hr.k0 b hb
  have qp := hr.pp b hb p hp
  have hpI : (p : Int) < (M.P : Int) := by omega
  have hp32 : p < 32 := by have := Ge.may_of h.geo; omega
  obtain ⟨f0, f1, f2, f3⟩ := hf
  replace hpr := Lib.hid hpr
  replace hA1 := Lib.hid hA1
  clear h hr hs hA hx hn hM hst
  generalize hw1 : w.alloc (.cells #[.int .i64 x.1, .int .i64 x.2.1, .int .i64 x.2.2] 61) = w1 at *
  obtain ⟨xa, xd, xk⟩ := x
  dsimp only at *
  by_cases h1 : xd = 1
  · subst h1
    rw [if_pos rfl]
    have hkp1 : min xk ((n : Int) - (out : Int)) = kp := by rw [← hkp]; unfold keepP; rw [if_pos rfl]
    clear hkp
    have hw : wrap64 ((n : Int) - (out : Int)) = (n : Int) - (out : Int) := IntWalk.wrap64_in _ (by omega)
    go_enter Tryz.func79, Tryz.ntmps79
    go_wp2_with (go_at_call 111; (with_reducible refine hpr.out.mono ?_); rintro e w2 ⟨rfl, hk2, hr2⟩)
    go_ret
    exact ⟨rfl, below_own hA1.out hk2, hr2⟩
  · rw [if_neg h1]
    by_cases h2 : xd = 2
    · subst h2
      obtain rfl : kp = xk := by rw [← hkp]; unfold keepP; rw [if_neg (by show ¬ ((2 : Int) = 1); decide), if_pos rfl]
      clear hkp
      go_enter Tryz.func79, Tryz.ntmps79
      go_wp2_with (go_at_call 111; (with_reducible refine hpr.out.mono ?_); rintro e w2 ⟨rfl, hk2, hr2⟩)
      go_ret
      exact ⟨rfl, below_own hA1.out hk2, hr2⟩
    · obtain rfl : kp = (n : Int) := by rw [← hkp]; unfold keepP; rw [if_neg h1, if_neg h2]
      clear hkp
      go_enter Tryz.func79, Tryz.ntmps79
      go_wp2_with (go_at_call 111; (with_reducible refine hpr.out.mono ?_); rintro e w2 ⟨rfl, hk2, hr2⟩)
      go_ret
      exact ⟨rfl, below_own hA1.out hk2, hr2⟩
end Go.Proofs.YtjhoecfhmndcgaaGreat
namespace Go.Proofs.YtjhoecfhmndcgaaGreat
open Go.RowKit Go.Gf Go.Fl
set_option linter.unusedVariables false
set_option linter.unusedSimpArgs false
attribute [local go_sem ↓] Cl.quiet_after Cl.quiet_since
def putB {α : Type} (f : Nat → α) (b : Nat) (v : α) : Nat → α := fun i => if i = b then v else f i
theorem slice_to (k n c m : Nat) (hm : m ≤ n) (hn : n ≤ c) (w : World) : (Instr.slice 76 (.slice (some ⟨k, 0, none⟩) n c) none (some (.int .i64 (m : Int))) none).run Tryz.prog w = .ok (.slice (some ⟨k, 0, none⟩) m c) w := by
  rw [run_slice_h (P := Tryz.prog) w 76 _ n c (by rw [elem65]; exact Tryz.underlying76) .i64 (m : Int) (by omega) (by omega), elem65, Tryz.sizeOf108]
  simp only [Result.andThen_ok, Int.toNat_natCast]
  unfold sliced
  have e : (⟨k, 0, none⟩ : Addr).add 0 = ⟨k, 0, none⟩ := add_zeroY' _
  simp [e]
section
variable {w : World} {F : Nat → Prop} {o : Nat → Nat} {L : Lay} {M : Dev}
theorem RepO.setBk (h : RepO w F o L M) {b : Nat} (hb : b < M.B) (v : Bool) : RepO (w.setCell ⟨L.kb, b * 4 + 3, none⟩ (.bool v)) F o L { M with bk := putB M.bk b v } := by
  refine h.row (b * 4 + 3) (.bool v) { M with bk := putB M.bk b v } rfl rfl rfl rfl rfl rfl rfl rfl rfl (fun i hi => by omega) (fun i hi => ?_) (fun i hi => ?_) (fun i hi => ?_)
  · exact (World.cell?_setCell_other _ _ _ _ (by intro e; injection e; omega)).trans (h.k1 i hi)
  · exact (World.cell?_setCell_other _ _ _ _ (by intro e; injection e; omega)).trans (h.k2 i hi)
  · by_cases e : i = b
    · subst e
      show _ = some (Value.bool (if i = i then v else M.bk i))
      rw [if_pos rfl]
      exact World.cell?_setCell_same _ _ _ (h.k3 i hi)
    · show _ = some (Value.bool (if i = b then v else M.bk i))
      rw [if_neg e]
      exact (World.cell?_setCell_other _ _ _ _ (by intro e; injection e; omega)).trans (h.k3 i hi)
theorem RepO.setMd (h : RepO w F o L M) {b : Nat} (hb : b < M.B) (v : Bool) : RepO (w.setCell ⟨L.kb, b * 4 + 2, none⟩ (.bool v)) F o L { M with md := putB M.md b v } := by
  refine h.row (b * 4 + 2) (.bool v) { M with md := putB M.md b v } rfl rfl rfl rfl rfl rfl rfl rfl rfl (fun i hi => by omega) (fun i hi => ?_) (fun i hi => ?_) (fun i hi => ?_)
  · exact (World.cell?_setCell_other _ _ _ _ (by intro e; injection e; omega)).trans (h.k1 i hi)
  · by_cases e : i = b
    · subst e
      show _ = some (Value.bool (if i = i then v else M.md i))
      rw [if_pos rfl]
      exact World.cell?_setCell_same _ _ _ (h.k2 i hi)
    · show _ = some (Value.bool (if i = b then v else M.md i))
      rw [if_neg e]
      exact (World.cell?_setCell_other _ _ _ _ (by intro e; injection e; omega)).trans (h.k2 i hi)
  · exact (World.cell?_setCell_other _ _ _ _ (by intro e; injection e; omega)).trans (h.k3 i hi)
theorem RepO.setEr (h : RepO w F o L M) {b : Nat} (hb : b < M.B) (v : Nat) : RepO (w.setCell ⟨L.kb, b * 4 + 1, none⟩ (.int .i64 (v : Int))) F o L { M with er := putB M.er b v } := by
  refine h.row (b * 4 + 1) (.int .i64 (v : Int)) { M with er := putB M.er b v } rfl rfl rfl rfl rfl rfl rfl rfl rfl (fun i hi => by omega) (fun i hi => ?_) (fun i hi => ?_) (fun i hi => ?_)
  · by_cases e : i = b
    · subst e
      show _ = some (Value.int .i64 (((if i = i then v else M.er i) : Nat) : Int))
      rw [if_pos rfl]
      exact World.cell?_setCell_same _ _ _ (h.k1 i hi)
    · show _ = some (Value.int .i64 (((if i = b then v else M.er i) : Nat) : Int))
      rw [if_neg e]
      exact (World.cell?_setCell_other _ _ _ _ (by intro e; injection e; omega)).trans (h.k1 i hi)
  · exact (World.cell?_setCell_other _ _ _ _ (by intro e; injection e; omega)).trans (h.k2 i hi)
  · exact (World.cell?_setCell_other _ _ _ _ (by intro e; injection e; omega)).trans (h.k3 i hi)
end
/-- what an erase makes, and its error -/
def erasR (M : Dev) (b : Nat) (x : Int × Int × Int) : Int × Dev :=
  if x.2.1 = 1 then (7, { M with bk := putB M.bk b true })
  else if x.2.1 = 2 then (0, wiped M b (min x.2.2 M.P).toNat)
  else (0, { wiped M b M.P with er := putB M.er b (M.er b + 1) })
set_option maxRecDepth 20000 in
set_option maxHeartbeats 4000000 in
theorem berase_any {w : World} {F : Nat → Prop} {o : Nat → Nat} {L : Lay} {M : Dev} (h : RepO w F o L M) (hF : ∀ b, w.heap.size ≤ b → F b) {b : Nat} (hb : b < M.B) (her : M.er b < 1000000) (x : Int × Int × Int) (hx2 : 0 ≤ x.2.2 ∧ x.2.2 ≤ 9223372036854775807) :
    Calls Tryz.prog 80 #[.pointer (some ⟨L.kb, b * 4, none⟩), .agg #[.int .i64 x.1, .int .i64 x.2.1, .int .i64 x.2.2]] w fun e w' => e = .returned (.int .i64 (erasR M b x).1) ∧ Cl.Keeps (fun b' => ¬ F b') w w' ∧ Rep w' F L (erasR M b x).2 := by
  have hA1 := below_alloc' w (.cells #[.int .i64 x.1, .int .i64 x.2.1, .int .i64 x.2.2] 61)
  have hf := FBox.new w x
  have hr := h.below hA1
  have hF1 : ∀ b, (w.alloc (.cells #[.int .i64 x.1, .int .i64 x.2.1, .int .i64 x.2.2] 61)).heap.size ≤ b → F b := fun b hb => hF b (Nat.le_trans hA1.size hb)
  obtain ⟨R, hR⟩ : ∃ R, Hid (erasR M b x = R) := ⟨_, Lib.hid rfl⟩
  rw [hR.out]
  have hP := Ge.may_of hr.geo
  have hpc := hr.pc b hb
  replace hA1 := Lib.hid hA1
  clear h
  generalize hw1 : w.alloc (.cells #[.int .i64 x.1, .int .i64 x.2.1, .int .i64 x.2.2] 61) = w1 at *
  obtain ⟨xa, xd, xk⟩ := x
  dsimp only at *
  by_cases h1 : xd = 1
  · subst h1
    obtain rfl := hR.out
    obtain ⟨f0, f1, f2, f3⟩ := hf
    have hk3 := hr.k3 b hb
    have hkf := hr.kf (b * 4 + 3)
    have hend : Hid (Rep (w1.setCell ⟨L.kb, b * 4 + 3, none⟩ (.bool true)) F L { M with bk := putB M.bk b true }) := Lib.hid ⟨o, hr.setBk hb true⟩
    have hke : Hid (Cl.Keeps (fun b' => ¬ F b') w (w1.setCell ⟨L.kb, b * 4 + 3, none⟩ (.bool true))) := keeps_put (Cl.Keeps.of_below hA1.out) (fun e => e hr.kt.1)
    clear hr
    go_enter Tryz.func80, Tryz.ntmps80
    go_wp2_with fail
    go_ret
    exact ⟨rfl, hke.out, hend.out⟩
  · by_cases h2 : xd = 2
    · subst h2
      obtain ⟨m, hm⟩ : ∃ m : Nat, (min xk (M.P : Int)).toNat = m := ⟨_, rfl⟩
      obtain rfl : (0, wiped M b m) = R := by rw [← hR.out]; unfold erasR; rw [if_neg (by show ¬ ((2 : Int) = 1); decide), if_pos rfl, ← hm]
      have hmP : m ≤ M.P := by omega
      have hmin : min xk (M.P : Int) = (m : Int) := by omega
      have hsl := slice_to (L.kp b) M.P (L.cp b) m hmP hpc
      clear hm hR
      replace hr := Lib.hid hr
      replace hf := Lib.hid hf
      have f1 := hf.out.c1
      go_enter Tryz.func80, Tryz.ntmps80
      go_wp2_with fail
      refine Cl.region_way0 (fun _ => True) 13 [(0, .r), (1, .r), (2, .r), (3, .r), (4, .r), (5, .r), (6, .r), (7, .r), (8, .r), (9, .r), (10, .r), (11, .r), (12, .r), (13, .z)] (by kernel_rfl) (by kernel_rfl) ?_
      intro w3 hk3
      have hb3 := hk3.below
      have hr3 := Lib.hid (hr.out.below hb3)
      have hf3 := Lib.hid (hf.out.keep hb3)
      have hA3 := Lib.hid (hA1.out.trans (hb3.mono hA1.out.size))
      have hw := Lib.hid (wipe_any (m := m) (c := L.cp b) (⟨o, hr3.out⟩ : Rep w3 F L M) (fun b hb => hF1 b (Nat.le_trans hb3.size hb)) hb hmP)
      clear hk3 hb3 hr hf f1
      have q0 := fun y : Cl.Since (fun _ => True) w3 => (hr3.out.below y.keeps.below).k0 b hb
      have f2 := fun y : Cl.Since (fun _ => True) w3 => (hf3.out.keep y.keeps.below).c2
      clear hr3 hf3
      iterate 13 (refine Cl.way_r rfl ?_; go_big_quiet_step (first | simp only [hsl]); refine wpQuiet_nil ?_)
      clear q0 f2
      refine Cl.way_z rfl ?_
      go_wp2_with (go_at_call 112; (with_reducible refine hw.out.mono ?_); rintro e w4 ⟨rfl, hk4, hr4⟩)
      refine Cl.Calm.normal ?_
      go_wp2_with fail
      go_ret
      exact ⟨rfl, (Cl.Keeps.of_below hA3.out).trans hk4, hr4⟩
    · obtain rfl : (0, { wiped M b M.P with er := putB M.er b (M.er b + 1) }) = R := by rw [← hR.out]; unfold erasR; rw [if_neg h1, if_neg h2]
      obtain ⟨f0, f1, f2, f3⟩ := hf
      have q0 := hr.k0 b hb
      have hw := Lib.hid (wipe_any (m := M.P) (c := L.cp b) (⟨o, hr⟩ : Rep w1 F L M) hF1 hb (Nat.le_refl _))
      clear hR hr
      go_enter Tryz.func80, Tryz.ntmps80
      go_wp2_with (go_at_call 112; (with_reducible refine hw.out.mono ?_))
      rintro e w4 rfl hk4 ⟨o4, hr4⟩
      have c1 : w4.cell? ⟨L.kb, b * 4 + 1, none⟩ = some (.int .i64 (M.er b : Int)) := hr4.k1 b hb
      have hkf := hr4.kf (b * 4 + 1)
      have hend : Hid (Rep (w4.setCell ⟨L.kb, b * 4 + 1, none⟩ (.int .i64 ((M.er b : Int) + 1))) F L { wiped M b M.P with er := putB M.er b (M.er b + 1) }) := Lib.hid ⟨o4, by have := hr4.setEr (b := b) hb (M.er b + 1); rw [Int.natCast_add] at this; exact this⟩
      have hke : Hid (Cl.Keeps (fun b' => ¬ F b') w (w4.setCell ⟨L.kb, b * 4 + 1, none⟩ (.int .i64 ((M.er b : Int) + 1)))) := keeps_put ((Cl.Keeps.of_below hA1.out).trans hk4) (fun e => e hr4.kt.1)
      clear hr4 hk4 hw
      go_wp2_with fail
      go_ret
      exact ⟨rfl, hke.out, hend.out⟩
end Go.Proofs.YtjhoecfhmndcgaaGreat
namespace Go.Proofs.YtjhoecfhmndcgaaGreat
open Go.RowKit Go.Gf Go.Fl
set_option linter.unusedVariables false
set_option linter.unusedSimpArgs false
attribute [local go_sem ↓] Cl.quiet_after Cl.quiet_since
def progEv (x : Int × Int × Int) : Int := if x.2.1 = 1 then 6 else 0
/-- the error, and what is made -/
def carryR (M : Dev) (k : Int) (b p : Nat) (xs : List Nat) (x : Int × Int × Int) : Int × Dev :=
  if k = 2 then (progEv x, { M with pg := setPg M.pg b p (progPg (M.pg b p) xs (keepP M.n (9 * M.W) x)) })
  else if k = 3 then erasR M b x
  else if k = 4 then (0, if x.2.1 = 2 then M else { M with md := putB M.md b true })
  else (0, M)
theorem lex_carry1 : (Cl.opsAt 1 (Tryz.f61.body.getD .skip)).map (Region.lexB .any) = some true := by kernel_rfl
theorem own_keeps {w w' : World} {F : Nat → Prop} {o : Nat → Nat} {t : Nat} (h : Cl.Keeps (fun b => ¬ Own1 w F o t b) w w') : Cl.Keeps (fun b => ¬ Tg F o t b) w w' :=
  ⟨h.os, h.tape, h.output, h.size, fun b hb hk => h.block b hb (fun e => by
    rcases e with e | e
    · exact hk e
    · omega)⟩
theorem out_le {M : Dev} (h : Ge.mayG M.B M.P M.W M.K = true) : 9 * M.W ≤ M.n := by
  have h1 := Ge.may_of h
  have := Nat.mul_le_mul (Nat.le_refl M.W) (show 9 ≤ M.K + 16 by omega)
  unfold Dev.n
  omega
set_option maxRecDepth 20000 in
set_option maxHeartbeats 8000000 in
theorem carry_any {w : World} {F : Nat → Prop} {o : Nat → Nat} {L : Lay} {M : Dev} (h : RepO w F o L M) (hF : ∀ b, w.heap.size ≤ b → F b) (k : Int) {b p : Nat} (hb : b < M.B) (hp : p < M.P) (her : M.er b < 1000000) (A : Option Addr) (n c : Nat) {xs : List Nat}
    (hs : k = 2 → (M.pg b p).st = 0 ∧ Sl w w.heap.size A xs ∧ (∀ a, A = some a → a.block < w.heap.size ∧ ¬ F a.block) ∧ xs.length = n ∧ n = M.n ∧ n ≤ c ∧ ∀ x ∈ xs, x < 1024) (x : Int × Int × Int) (hx2 : 0 ≤ x.2.2 ∧ x.2.2 ≤ 9223372036854775807) :
    Calls Tryz.prog 61 #[.pointer (some ⟨L.g, 0, none⟩), .agg #[.int .i64 k, .int .i64 (b : Int), .int .i64 (p : Int), .slice A n c], .agg #[.int .i64 x.1, .int .i64 x.2.1, .int .i64 x.2.2]] w fun e w' => e = .returned (.int .i64 (carryR M k b p xs x).1) ∧ Cl.Keeps (fun b' => ¬ F b') w w' ∧ Rep w' F L (carryR M k b p xs x).2 := by
  obtain ⟨R, hR⟩ : ∃ R, Hid (carryR M k b p xs x = R) := ⟨_, Lib.hid rfl⟩
  rw [hR.out]
  have hP := Ge.may_of h.geo
  have hbI : (b : Int) < (M.B : Int) := by omega
  have hb64 : b < 64 := by omega
  have hA0 := below_alloc' w (.cells #[.int .i64 k, .int .i64 (b : Int), .int .i64 (p : Int), .slice A n c] 92)
  have hx0 := OBox.new w k b p A n c
  have hr0 := h.below hA0
  have og : o w.heap.size = 9 := h.new _ (Nat.le_refl _)
  have hs0 : k = 2 → (M.pg b p).st = 0 ∧ Sl (w.alloc (.cells #[.int .i64 k, .int .i64 (b : Int), .int .i64 (p : Int), .slice A n c] 92)) (w.alloc (.cells #[.int .i64 k, .int .i64 (b : Int), .int .i64 (p : Int), .slice A n c] 92)).heap.size A xs ∧ (∀ a, A = some a → a.block < (w.alloc (.cells #[.int .i64 k, .int .i64 (b : Int), .int .i64 (p : Int), .slice A n c] 92)).heap.size ∧ ¬ F a.block) ∧ xs.length = n ∧ n = M.n ∧ n ≤ c ∧ ∀ x ∈ xs, x < 1024 := fun e => ⟨(hs e).1, ((hs e).2.1.below hA0).more hA0.size, fun a ea => ⟨Nat.lt_of_lt_of_le ((hs e).2.2.1 a ea).1 hA0.size, ((hs e).2.2.1 a ea).2⟩, (hs e).2.2.2⟩
  clear hs h
  generalize hw1 : w.alloc (.cells #[.int .i64 k, .int .i64 (b : Int), .int .i64 (p : Int), .slice A n c] 92) = w1 at *
  have hA1 := below_alloc' w1 (.cells #[.int .i64 x.1, .int .i64 x.2.1, .int .i64 x.2.2] 61)
  have hf := FBox.new w1 x
  have og1 : o w1.heap.size = 9 := hr0.new _ (Nat.le_refl _)
  have hx1 := hx0.keep hA1
  have hr1 := hr0.below hA1
  have hs1 : k = 2 → (M.pg b p).st = 0 ∧ Sl (w1.alloc (.cells #[.int .i64 x.1, .int .i64 x.2.1, .int .i64 x.2.2] 61)) (w1.alloc (.cells #[.int .i64 x.1, .int .i64 x.2.1, .int .i64 x.2.2] 61)).heap.size A xs ∧ (∀ a, A = some a → a.block < (w1.alloc (.cells #[.int .i64 x.1, .int .i64 x.2.1, .int .i64 x.2.2] 61)).heap.size ∧ ¬ F a.block) ∧ xs.length = n ∧ n = M.n ∧ n ≤ c ∧ ∀ x ∈ xs, x < 1024 := fun e => ⟨(hs0 e).1, ((hs0 e).2.1.below hA1).more hA1.size, fun a ea => ⟨Nat.lt_of_lt_of_le ((hs0 e).2.2.1 a ea).1 hA1.size, ((hs0 e).2.2.1 a ea).2⟩, (hs0 e).2.2.2⟩
  have hA2 := hA0.trans (hA1.mono hA0.size)
  clear hs0 hr0 hx0
  generalize hw2 : w1.alloc (.cells #[.int .i64 x.1, .int .i64 x.2.1, .int .i64 x.2.2] 61) = w2 at *
  have hF2 : Hid (∀ b, w2.heap.size ≤ b → F b) := fun b hb => hF b (Nat.le_trans hA2.size hb)
  replace hA2 := Lib.hid hA2
  replace hs1 := Lib.hid hs1
  replace hr1 := Lib.hid hr1
  replace hx1 := Lib.hid hx1
  replace hf := Lib.hid hf
  replace hP := Lib.hid hP
  clear hF hA0 hA1
  have g4 := fun y : Cl.After w2.heap.size w2 => (hr1.out.below y.below).g4
  have o1 := fun y : Cl.After w2.heap.size w2 => (hx1.out.keep y.below).c1
  go_enter Tryz.func61, Tryz.ntmps61
  go_wp2_with fail
  refine Cl.region_after_at w2.heap.size (by kernel_rfl) lex_carry1 (by kernel_rfl) ?_
  try simp only [List.append]
  repeat (go_big_quiet_step (fail))
  refine wpQuiet_nil ?_
  rintro _ ⟨y, rfl⟩
  clear g4 o1
  have hx3 := Lib.hid (hx1.out.keep y.below)
  have hf3 := Lib.hid (hf.out.keep y.below)
  have hr3 := Lib.hid (hr1.out.below y.below)
  have hA3 := Lib.hid (hA2.out.trans (y.below.mono hA2.out.size))
  have hs3 : Hid (k = 2 → (M.pg b p).st = 0 ∧ Sl y.w y.w.heap.size A xs ∧ (∀ a, A = some a → a.block < y.w.heap.size ∧ ¬ F a.block) ∧ xs.length = n ∧ n = M.n ∧ n ≤ c ∧ ∀ x ∈ xs, x < 1024) := fun e => ⟨(hs1.out e).1, ((hs1.out e).2.1.below y.below).more y.below.size, fun a ea => ⟨Nat.lt_of_lt_of_le ((hs1.out e).2.2.1 a ea).1 y.below.size, ((hs1.out e).2.2.1 a ea).2⟩, (hs1.out e).2.2.2⟩
  have hF3 : Hid (∀ b, y.w.heap.size ≤ b → F b) := fun b hb => hF2.out b (Nat.le_trans y.below.size hb)
  clear hx1 hf hr1 hA2 hs1 hF2
  generalize y.w = w3 at *
  have e0 := hx3.out.c0
  by_cases hk2 : k = 2
  · subst hk2
    obtain ⟨s0, s1, s2, s3, s4, s5, s6⟩ := hs3.out rfl
    subst s4
    obtain rfl : (progEv x, { M with pg := setPg M.pg b p (progPg (M.pg b p) xs (keepP M.n (9 * M.W) x)) }) = R := hR.out
    clear hs3 hR
    have hbp : ∀ w4, Below w3.heap.size w3 w4 → Calls Tryz.prog 79 #[.pointer (some ⟨L.kb, b * 4, none⟩), .int .i64 (p : Int), .slice A M.n c, .agg #[.int .i64 x.1, .int .i64 x.2.1, .int .i64 x.2.2], .int .i64 (9 * (M.W : Int))] w4 fun e w' => e = .returned (.int .i64 (progEv x)) ∧ Cl.Keeps (fun b' => ¬ Tg F o (tg M.P b p) b') w4 w' ∧ Cl.Keeps (fun b' => ¬ F b') w4 w' ∧ Rep w' F L { M with pg := setPg M.pg b p (progPg (M.pg b p) xs (keepP M.n (9 * M.W) x)) } := fun w4 hb4 => by
      have hF4 : ∀ b, w4.heap.size ≤ b → F b := fun b hb => hF3.out b (Nat.le_trans hb4.size hb)
      have := bprogram_any (hr3.out.below hb4) hF4 hb hp s0 ((s1.below hb4).more hb4.size) (fun a ea => ⟨Nat.lt_of_lt_of_le (s2 a ea).1 hb4.size, (s2 a ea).2⟩) s3 rfl s5 s6 (9 * M.W) (out_le hr3.out.geo) x hx2
      rw [show ((9 * M.W : Nat) : Int) = 9 * (M.W : Int) from by simp] at this
      exact this.mono fun e w' ⟨h1, h2, h3⟩ => ⟨h1, own_keeps h2, Own1.not hF4 h2, h3⟩
    replace hbp := Lib.hid hbp
    have hw : wrap64 (9 * (M.W : Int)) = 9 * (M.W : Int) := IntWalk.wrap64_in _ (by have := hP.out; omega)
    have hgt := hr3.out.gt.2
    clear s0 s1 s2 s3 s5 s6
    go_wp2_with fail
    refine Cl.region_way0 (fun b' => ¬ Tg F o (tg M.P b p) b') 14 [(0, .r), (1, .r), (2, .r), (3, .r), (4, .r), (5, .r), (6, .r), (7, .r), (8, .r), (9, .r), (10, .r), (11, .r), (12, .c), (13, .r)] (by kernel_rfl) (by kernel_rfl) ?_
    intro w4 hk4
    have hb4 := hk4.below
    have hr4 := Lib.hid (hr3.out.below hb4)
    have hf4 := Lib.hid (hf3.out.keep hb4)
    have hx4 := Lib.hid (hx3.out.keep hb4)
    have hA4 := Lib.hid (hA3.out.trans (hb4.mono hA3.out.size))
    have hc := Lib.hid (hbp.out w4 hb4)
    clear hbp hr3 hf3 hx3 hA3 hk4 hb4
    have nt : ∀ {b'}, o b' < 10 → ¬ Tg F o (tg M.P b p) b' := fun h e => by have := e.2; unfold tg at this; omega
    have kx := fun y : Cl.Since (fun b' => ¬ Tg F o (tg M.P b p) b') w4 => hx4.out.block y.keeps.size (y.keeps.block _ hx4.out.lt (nt (by rw [og]; decide)))
    have kf := fun y : Cl.Since (fun b' => ¬ Tg F o (tg M.P b p) b') w4 => hf4.out.block y.keeps.size (y.keeps.block _ hf4.out.lt (nt (by rw [og1]; decide)))
    have g2 := fun y : Cl.Since (fun b' => ¬ Tg F o (tg M.P b p) b') w4 => (World.cell?_of_block (a := ⟨L.g, 2, none⟩) (y.keeps.block _ hr4.out.gl (nt (by rw [hgt]; decide)))).trans hr4.out.g2
    have o2 := fun y => (kx y).c2
    have o3 := fun y => (kx y).c3
    have f0 := fun y => (kf y).c0
    have f1 := fun y => (kf y).c1
    have f2 := fun y => (kf y).c2
    clear kx kf nt
    iterate 12 (refine Cl.way_r rfl ?_; go_big_quiet_step (fail); refine wpQuiet_nil ?_)
    clear o2 o3 f0 f1 f2 g2
    refine Cl.way_c rfl ?_
    go_wp2_with (go_at_call 79; (with_reducible refine hc.out.mono ?_); rintro e w5 ⟨rfl, hk5, hk6, hr5⟩; have hk6 := Lib.hid hk6; have hr5 := Lib.hid hr5)
    refine Cl.way_on hk5 ?_
    refine Cl.way_r rfl ?_; go_big_quiet_step (fail); refine wpQuiet_nil ?_
    refine Cl.way_end ?_
    go_wp2_with fail
    go_ret
    exact ⟨rfl, (Cl.Keeps.of_below hA4.out).trans hk6.out, hr5.out⟩
  · by_cases hk3 : k = 3
    · subst hk3
      obtain rfl : erasR M b x = R := hR.out
      have he := Lib.hid (berase_any hr3.out hF3.out hb her x hx2)
      obtain ⟨f0, f1, f2, f3⟩ := hf3.out
      clear hR hs3 hr3 hf3
      go_wp2_with (go_at_call 80; (with_reducible refine he.out.mono ?_); rintro e w5 ⟨rfl, hk6, hr5⟩; have hk6 := Lib.hid hk6; have hr5 := Lib.hid hr5)
      go_ret
      exact ⟨rfl, (Cl.Keeps.of_below hA3.out).trans hk6.out, hr5.out⟩
    · by_cases hk4 : k = 4
      · subst hk4
        obtain ⟨f0, f1, f2, f3⟩ := hf3.out
        have c2 := hr3.out.k2 b hb
        have cf := hr3.out.kf (b * 4 + 2)
        have hend : Hid (Rep (w3.setCell ⟨L.kb, b * 4 + 2, none⟩ (.bool true)) F L { M with md := putB M.md b true }) := Lib.hid ⟨o, hr3.out.setMd hb true⟩
        have hke : Hid (Cl.Keeps (fun b' => ¬ F b') w (w3.setCell ⟨L.kb, b * 4 + 2, none⟩ (.bool true))) := keeps_put (Cl.Keeps.of_below hA3.out) (fun e => e hr3.out.kt.1)
        by_cases h2 : x.2.1 = 2
        · obtain rfl : (0, M) = R := by rw [← hR.out]; unfold carryR; rw [if_neg (by decide), if_neg (by decide), if_pos rfl, if_pos h2]
          have hrr : Hid (Rep w3 F L M) := Lib.hid ⟨o, hr3.out⟩
          rw [h2] at f2
          clear hR hs3 hr3 hf3 c2 cf hend hke
          go_wp2_with fail
          go_ret
          exact ⟨rfl, Cl.Keeps.of_below hA3.out, hrr.out⟩
        · obtain rfl : (0, { M with md := putB M.md b true }) = R := by rw [← hR.out]; unfold carryR; rw [if_neg (by decide), if_neg (by decide), if_pos rfl, if_neg h2]
          have e2 : (x.2.1 != 2) = true := by simpa using h2
          clear hR hs3 hr3 hf3
          go_wp2_with fail
          go_ret
          exact ⟨rfl, hke.out, hend.out⟩
      · obtain rfl : (0, M) = R := by rw [← hR.out]; unfold carryR; rw [if_neg hk2, if_neg hk3, if_neg hk4]
        have hrr : Hid (Rep w3 F L M) := Lib.hid ⟨o, hr3.out⟩
        clear hR hs3 hr3 hf3
        go_wp2_with fail
        go_ret
        exact ⟨rfl, Cl.Keeps.of_below hA3.out, hrr.out⟩
end Go.Proofs.YtjhoecfhmndcgaaGreat
namespace Go.Proofs.YtjhoecfhmndcgaaGreat
open Go.RowKit Go.Gf Go.Fl
set_option linter.unusedVariables false
set_option linter.unusedSimpArgs false
attribute [local go_sem ↓] Cl.quiet_after Cl.quiet_since
/-- a scope with one jump, forward, to a label -/
theorem scope_fwd {P : Program} {a : Act} {w : World} {Q : Exit → Act → World → Prop} {c rest : Code} (l : Nat) (hf : findLabel c l = some rest)
    (first : c.wp P (Exit.jump l (fun a' w' => rest.wp P (Exit.jump l (fun _ _ => False) Q) a' w') Q) a w) : (Code.scope c).wp P Q a w :=
  wp_scope_jumps l (fun a' w' => rest.wp P (Exit.jump l (fun _ _ => False) Q) a' w') (fun _ _ => 0) hf first
    (fun a' w' h => Code.wp_mono (fun e a'' w'' hq => by
      cases e with
      | goto l' => exact hq.2.elim
      | normal => exact hq
      | exit id => exact hq
      | ret => exact hq
      | panic ch => exact hq
      | outgrown => exact hq) h)
theorem jump_go {l : Nat} {J : Act → World → Prop} {Q : Exit → Act → World → Prop} {K : Act → World → Prop} {a : Act} {w : World} (h : J a w) : Exit.then K (Exit.jump l J Q) (.goto l) a w := ⟨rfl, h⟩
theorem jump_retY {l : Nat} {J : Act → World → Prop} {Q : Exit → Act → World → Prop} {a : Act} {w : World} : Exit.jump l J Q .ret a w = Q .ret a w := rfl
theorem FtIn.fts {w : World} {G : Nat → Prop} {p : Addr} {ts : List (Int × Int × Int)} (h : FtIn w G p ts) : Ft.Fts w p ts := by
  obtain ⟨g, A, c, ss, e, h1, h2, h3, h4, h5, h6⟩ := h
  exact ⟨g, A, c, ss, e, h1, h3, h4, h6⟩
section
variable {w : World} {F : Nat → Prop} {o : Nat → Nat} {L : Lay} {M : Dev}
theorem RepO.setOps (h : RepO w F o L M) (v : Nat) : RepO (w.setCell ⟨L.g, 6, none⟩ (.int .i64 (v : Int))) F o L { M with ops := v } := by
  refine h.own 6 (.int .i64 (v : Int)) { M with ops := v } rfl rfl rfl rfl rfl rfl rfl rfl rfl ?_ ?_ ?_ (by decide)
  · exact World.cell?_setCell_same _ _ _ h.g6
  · exact (World.cell?_setCell_other _ _ _ _ (by intro e; injection e; omega)).trans h.g7
  · exact (World.cell?_setCell_other _ _ _ _ (by intro e; injection e; omega)).trans h.g8
theorem RepO.setRf (h : RepO w F o L M) (v : Nat) : RepO (w.setCell ⟨L.g, 7, none⟩ (.int .i64 (v : Int))) F o L { M with rf := v } := by
  refine h.own 7 (.int .i64 (v : Int)) { M with rf := v } rfl rfl rfl rfl rfl rfl rfl rfl rfl ?_ ?_ ?_ (by decide)
  · exact (World.cell?_setCell_other _ _ _ _ (by intro e; injection e; omega)).trans h.g6
  · exact World.cell?_setCell_same _ _ _ h.g7
  · exact (World.cell?_setCell_other _ _ _ _ (by intro e; injection e; omega)).trans h.g8
theorem RepO.setDark (h : RepO w F o L M) (v : Bool) : RepO (w.setCell ⟨L.g, 8, none⟩ (.bool v)) F o L { M with dark := v } := by
  refine h.own 8 (.bool v) { M with dark := v } rfl rfl rfl rfl rfl rfl rfl rfl rfl ?_ ?_ ?_ (by decide)
  · exact (World.cell?_setCell_other _ _ _ _ (by intro e; injection e; omega)).trans h.g6
  · exact (World.cell?_setCell_other _ _ _ _ (by intro e; injection e; omega)).trans h.g7
  · exact World.cell?_setCell_same _ _ _ h.g8
end
set_option maxRecDepth 20000 in
set_option maxHeartbeats 4000000 in
theorem op_dark {w : World} {F : Nat → Prop} {o : Nat → Nat} {L : Lay} {M : Dev} (h : RepO w F o L M) (hd : M.dark = true) (k b p : Int) (A : Option Addr) (n c : Nat) :
    Calls Tryz.prog 37 #[.pointer (some ⟨L.g, 0, none⟩), .agg #[.int .i64 k, .int .i64 b, .int .i64 p, .slice A n c]] w fun e w' => e = .returned (.int .i64 8) ∧ Cl.Keeps (fun b' => ¬ F b') w w' ∧ Rep w' F L M := by
  have hA := below_alloc' w (.cells #[.int .i64 k, .int .i64 b, .int .i64 p, .slice A n c] 92)
  generalize hw1 : w.alloc (.cells #[.int .i64 k, .int .i64 b, .int .i64 p, .slice A n c] 92) = w1 at *
  have hA2 := hA.trans ((below_alloc' w1 (.cells #[.int .i64 0, .int .i64 0, .int .i64 0] 61)).mono hA.size)
  generalize hw2 : w1.alloc (.cells #[.int .i64 0, .int .i64 0, .int .i64 0] 61) = w2 at *
  have hr := h.below hA2
  have g8 := hr.g8
  rw [hd] at g8
  have gf := hr.gf 8
  have hend : Hid (Rep (w2.setCell ⟨L.g, 8, none⟩ (.bool true)) F L M) := Lib.hid ⟨o, by
    have := hr.setDark true
    have e : { M with dark := true } = M := by rw [← hd]
    rw [e] at this
    exact this⟩
  have hke : Hid (Cl.Keeps (fun b' => ¬ F b') w (w2.setCell ⟨L.g, 8, none⟩ (.bool true))) := keeps_put (Cl.Keeps.of_below hA2) (fun e => e hr.gt.1)
  clear hA h hr
  go_enter Tryz.func37, Tryz.ntmps37
  go_wp2_with fail
  refine scope_fwd 0 rfl ?_
  go_wp2_with fail
  go_step3
  refine jump_go ?_
  go_wp2_with fail
  rw [jump_retY]
  go_ret
  exact ⟨rfl, hke.out, hend.out⟩
/-- what befalls the next operation -/
def fateOf (M : Dev) : Int × Int × Int := Ft.atF M.ft M.ops M.ft.length
/-- an operation's error, and what it makes: E its own error, R what is carried out where there is none -/
def opR (M : Dev) (E : Int) (R : Int × Dev) : Int × Dev :=
  if E = 0 then (if (fateOf M).2.1 = 2 then (8, { R.2 with dark := true }) else R)
  else (E, if refB E = true then { M with ops := M.ops + 1, rf := M.rf + 1 } else { M with ops := M.ops + 1 })
theorem fate_bounds {w : World} {F : Nat → Prop} {o : Nat → Nat} {L : Lay} {M : Dev} (h : RepO w F o L M) : 0 ≤ (fateOf M).2.2 ∧ (fateOf M).2.2 ≤ 9223372036854775807 := by
  unfold fateOf
  by_cases he : ∃ y ∈ M.ft, y.1 = (M.ops : Int)
  · obtain ⟨y, hy, he⟩ := he
    rw [(Ft.at_some h.fm hy he).1]
    refine ⟨?_, h.fk y hy⟩
    have h1 := (Ft.mayF_iff.1 h.fm).2.1
    unfold Ft.badT at h1
    rw [List.any_eq_false] at h1
    obtain ⟨t, ht, rfl⟩ := Ft.mem_tAt hy
    have h2 := h1 t (List.mem_range.2 ht)
    have h3 : Ft.okT (Ft.tAt M.ft t) = true := by simpa using h2
    unfold Ft.okT at h3
    rw [decide_eq_true_eq] at h3
    exact h3.2.2.2
  · have hno : ∀ y ∈ M.ft, y.1 ≠ (M.ops : Int) := fun y hy e => he ⟨y, hy, e⟩
    rw [(Ft.at_none hno M.ft.length (Nat.le_refl _)).1]
    exact ⟨by decide, by decide⟩
set_option maxRecDepth 20000 in
set_option maxHeartbeats 8000000 in
theorem op_any {w : World} {F : Nat → Prop} {o : Nat → Nat} {L : Lay} {M : Dev} (h : RepO w F o L M) (hF : ∀ b, w.heap.size ≤ b → F b) (hd : M.dark = false) (hop : M.ops < 1000000000) (hrf : M.rf < 1000000000) (k b p : Int) (A : Option Addr) (n c : Nat) (E : Int) (R : Int × Dev)
    (hfa : ∀ w', Cl.Keeps (fun b => ¬ F b) w w' → RepO w' F o L { M with ops := M.ops + 1 } → Calls Tryz.prog 59 #[.pointer (some ⟨L.g, 0, none⟩), .agg #[.int .i64 k, .int .i64 b, .int .i64 p, .slice A n c]] w' (AnsY w' (.int .i64 E)))
    (hca : E = 0 → ∀ w' F', Cl.Keeps (fun b => ¬ F b) w w' → (∀ b, F' b → F b) → (∀ b, w'.heap.size ≤ b → F' b) → RepO w' F' o L { M with ops := M.ops + 1 } → Calls Tryz.prog 61 #[.pointer (some ⟨L.g, 0, none⟩), .agg #[.int .i64 k, .int .i64 b, .int .i64 p, .slice A n c], .agg #[.int .i64 (fateOf M).1, .int .i64 (fateOf M).2.1, .int .i64 (fateOf M).2.2]] w' fun e w'' => e = .returned (.int .i64 R.1) ∧ Cl.Keeps (fun b' => ¬ F' b') w' w'' ∧ Rep w'' F' L R.2) :
    Calls Tryz.prog 37 #[.pointer (some ⟨L.g, 0, none⟩), .agg #[.int .i64 k, .int .i64 b, .int .i64 p, .slice A n c]] w fun e w' => e = .returned (.int .i64 (opR M E R).1) ∧ Cl.Keeps (fun b' => ¬ F b') w w' ∧ Rep w' F L (opR M E R).2 := by
  obtain ⟨Z, hZ⟩ : ∃ Z, Hid (opR M E R = Z) := ⟨_, Lib.hid rfl⟩
  rw [hZ.out]
  have og : o w.heap.size = 9 := h.new _ (Nat.le_refl _)
  have hA := below_alloc' w (.cells #[.int .i64 k, .int .i64 b, .int .i64 p, .slice A n c] 92)
  have hx := OBox.new w k b p A n c
  have hsz1 := World.size_alloc w (.cells #[.int .i64 k, .int .i64 b, .int .i64 p, .slice A n c] 92)
  generalize hw1 : w.alloc (.cells #[.int .i64 k, .int .i64 b, .int .i64 p, .slice A n c] 92) = w1 at *
  have hA1 := below_alloc' w1 (.cells #[.int .i64 0, .int .i64 0, .int .i64 0] 61)
  have og1 : o w1.heap.size = 9 := h.new _ hA.size
  have hA2 := hA.trans (hA1.mono hA.size)
  have hgf := heap_alloc_new w1 (.cells #[.int .i64 0, .int .i64 0, .int .i64 0] 61)
  have hgl : w1.heap.size < (w1.alloc (.cells #[.int .i64 0, .int .i64 0, .int .i64 0] 61)).heap.size := by rw [World.size_alloc]; omega
  generalize hw2 : w1.alloc (.cells #[.int .i64 0, .int .i64 0, .int .i64 0] 61) = w2 at *
  have hr := h.below hA2
  have hx2 := hx.keep hA1
  have g8 := hr.g8
  rw [hd] at g8
  have hne : w.heap.size ≠ w1.heap.size := by omega
  have hwl : w.heap.size ≤ w1.heap.size := by omega
  replace hA2 := Lib.hid hA2
  replace hr := Lib.hid hr
  replace hx2 := Lib.hid hx2
  replace hgf := Lib.hid hgf
  replace hfa := Lib.hid hfa
  replace hca := Lib.hid hca
  clear hA hA1 hx h hd hsz1
  go_enter Tryz.func37, Tryz.ntmps37
  go_wp2_with fail
  refine scope_fwd 0 rfl ?_
  go_wp2_with fail
  refine Cl.region_way0 (fun b => b ≠ w1.heap.size) 13 [(0, .r), (1, .r), (2, .r), (3, .r), (4, .r), (5, .r), (6, .r), (7, .r), (8, .c), (9, .r), (10, .r), (11, .r), (12, .c)] (by kernel_rfl) (by kernel_rfl) ?_
  intro w3 hk3
  have hb3 := hk3.below
  have hr3 := Lib.hid (hr.out.below hb3)
  have hx3 := Lib.hid (hx2.out.keep hb3)
  have hA3 := Lib.hid (hA2.out.trans (hb3.mono hA2.out.size))
  have hgf3 := Lib.hid ((hb3.block _ hgl).trans hgf.out)
  have hgl3 : w1.heap.size < w3.heap.size := Nat.lt_of_lt_of_le hgl hb3.size
  clear hr hx2 hA2 hgf hk3 hb3 g8
  have hLg : L.g ≠ w1.heap.size := fun e => by have := hr3.out.gt.2; rw [e, og1] at this; cases this
  have g5 := fun y : Cl.Since (fun b => b ≠ w1.heap.size) w3 => (World.cell?_of_block (a := ⟨L.g, 5, none⟩) (y.keeps.block _ hr3.out.gl hLg)).trans hr3.out.g5
  have g6 := fun y : Cl.Since (fun b => b ≠ w1.heap.size) w3 => (World.cell?_of_block (a := ⟨L.g, 6, none⟩) (y.keeps.block _ hr3.out.gl hLg)).trans hr3.out.g6
  have hat := Lib.hid (Ft.c_at (w := w3) hr3.out.ft.fts hr3.out.fm (M.ops : Int) (x := fateOf M) rfl (b := Ft.isF M.ft M.ops M.ft.length) rfl)
  generalize Ft.isF M.ft M.ops M.ft.length = isb at *
  iterate 8 (refine Cl.way_r rfl ?_; go_big_quiet_step (fail); refine wpQuiet_nil ?_)
  clear g5 g6
  refine Cl.way_c rfl ?_
  go_wp2_with (go_at_call 58; (with_reducible refine hat.out.mono ?_); rintro e w4 ⟨rfl, hb4⟩)
  refine Cl.way_on (Cl.Keeps.of_below hb4) ?_
  have hr4 := Lib.hid (hr3.out.below hb4)
  have hx4 := Lib.hid (hx3.out.keep hb4)
  have hA4 := Lib.hid (hA3.out.trans (hb4.mono hA3.out.size))
  have hgf4 := (hb4.block _ hgl3).trans hgf3.out
  have hgl4 : w1.heap.size < w4.heap.size := Nat.lt_of_lt_of_le hgl3 hb4.size
  clear hr3 hx3 hA3 hgf3 hat hb4
  have hbox : ∀ i, w4.cell? ⟨w1.heap.size, i, none⟩ = (#[.int .i64 0, .int .i64 0, .int .i64 0] : Array Value)[i]? := cell_of hgf4
  have hbf : ∀ i, w4.frozen? ⟨w1.heap.size, i, none⟩ = false := fun i => by simp [World.frozen?, hgf4]
  have b0 := hbox 0
  have b1 := hbox 1
  have b2 := hbox 2
  have f0 := hbf 0
  have f1 := hbf 1
  have f2 := hbf 2
  clear hbox hbf
  iterate 3 (refine Cl.way_r rfl ?_; go_big_quiet_step (fail); refine wpQuiet_nil ?_)
  refine Cl.way_c rfl ?_
  go_wp2_with fail
  refine Cl.way_on (keeps_put (keeps_put (keeps_put (Cl.Keeps.refl _ _) (by simp)) (by simp)) (by simp)) ?_
  refine Cl.way_end ?_
  have h5 := Ft.heap3 hgf4 (.int .i64 (fateOf M).1) (.int .i64 (fateOf M).2.1) (.int .i64 (fateOf M).2.2)
  have hk5 : Cl.Keeps (fun b => b ≠ w1.heap.size) w4 (((w4.setCell ⟨w1.heap.size, 0, none⟩ (.int .i64 (fateOf M).1)).setCell ⟨w1.heap.size, 1, none⟩ (.int .i64 (fateOf M).2.1)).setCell ⟨w1.heap.size, 2, none⟩ (.int .i64 (fateOf M).2.2)) := keeps_put (keeps_put (keeps_put (Cl.Keeps.refl _ _) (by simp)) (by simp)) (by simp)
  have hl5 : Below w.heap.size w4 (((w4.setCell ⟨w1.heap.size, 0, none⟩ (.int .i64 (fateOf M).1)).setCell ⟨w1.heap.size, 1, none⟩ (.int .i64 (fateOf M).2.1)).setCell ⟨w1.heap.size, 2, none⟩ (.int .i64 (fateOf M).2.2)) := (Ft.below3 _ _ _).mono hwl
  generalize (((w4.setCell ⟨w1.heap.size, 0, none⟩ (.int .i64 (fateOf M).1)).setCell ⟨w1.heap.size, 1, none⟩ (.int .i64 (fateOf M).2.1)).setCell ⟨w1.heap.size, 2, none⟩ (.int .i64 (fateOf M).2.2)) = w5 at *
  have c5 := cell_of h5
  have hf5 : Hid (FBox w5 w1.heap.size (fateOf M)) := ⟨Nat.lt_of_lt_of_le hgl4 hk5.size, c5 0, c5 1, c5 2⟩
  have hx5 := Lib.hid (hx4.out.block hk5.size (hk5.block _ hx4.out.lt hne))
  have hr5 := hr4.out.blockt hk5.size fun b hb _ h9 => hk5.block b hb fun e => h9 (by rw [e]; exact og1)
  have hA5 := hA4.out.trans hl5
  clear hr4 hx4 hA4 h5 hk5 hl5 c5 b0 b1 b2 f0 f1 f2 hgf4 hgl4 hgl3 hgl
  have g6 := hr5.g6
  have gf := hr5.gf 6
  have hw6 : wrap64 ((M.ops : Int) + 1) = (M.ops : Int) + 1 := IntWalk.wrap64_in _ (by omega)
  have hr6 := hr5.setOps (M.ops + 1)
  rw [show ((M.ops + 1 : Nat) : Int) = (M.ops : Int) + 1 from by simp] at hr6
  have hk6 : Cl.Keeps (fun b => ¬ F b) w (w5.setCell ⟨L.g, 6, none⟩ (.int .i64 ((M.ops : Int) + 1))) := keeps_put (Cl.Keeps.of_below hA5) (fun e => e hr5.gt.1)
  have hf6 := hf5.out.block (w' := w5.setCell ⟨L.g, 6, none⟩ (.int .i64 ((M.ops : Int) + 1))) (by simp [World.setCell]) (Below.heap_setCell _ _ _ _ (by show w1.heap.size ≠ L.g; omega))
  have hx6 := hx5.out.block (w' := w5.setCell ⟨L.g, 6, none⟩ (.int .i64 ((M.ops : Int) + 1))) (by simp [World.setCell]) (Below.heap_setCell _ _ _ _ (by show w.heap.size ≠ L.g; intro e; have := hr5.gt.2; rw [← e, og] at this; cases this))
  have hfa6 := hfa.out _ hk6 hr6
  have hfa6 := Lib.hid hfa6
  have hr6 := Lib.hid hr6
  have hk6 := Lib.hid hk6
  have hf6 := Lib.hid hf6
  obtain ⟨x6l, x60, x61, x62, x63⟩ := hx6
  have hx6 := Lib.hid (OBox.mk x6l x60 x61 x62 x63)
  clear hfa hr5 hf5 hx5 hA5
  go_wp2_with (go_at_call 59; (with_reducible refine hfa6.out.mono ?_))
  rintro e w7 ⟨rfl, hb7⟩
  clear hfa6 g6 gf hw6 x60 x61 x62 x63 x6l
  generalize hw6 : w5.setCell ⟨L.g, 6, none⟩ (.int .i64 ((M.ops : Int) + 1)) = w6 at *
  have hr7 := Lib.hid (hr6.out.below hb7)
  have hf7 := Lib.hid (hf6.out.keep hb7)
  have hx7 := Lib.hid (hx6.out.keep hb7)
  have hk7 := Lib.hid (hk6.out.trans (Cl.Keeps.of_below hb7))
  clear hr6 hf6 hx6 hk6 hb7 hw6 hw1 hw2
  have hrE := Lib.hid (refusal_any E w7)
  have hF7 : Hid (∀ b, w7.heap.size ≤ b → F b) := fun b hb => hF b (Nat.le_trans hk7.out.size hb)
  by_cases hE : E = 0
  · subst hE
    have hcc := hca.out rfl w7 (fun b => F b ∧ b ≠ w1.heap.size) hk7.out (fun b h => h.1) (fun b hb => ⟨hF7.out b hb, by have := hf7.out.lt; omega⟩) (hr7.out.only fun b hb h1 h2 => ⟨h1, fun e => h2 (by rw [e]; exact og1)⟩)
    obtain ⟨_, f0, f1, f2⟩ := hf7.out
    obtain ⟨_, c0, c1, c2, c3⟩ := hx7.out
    replace hcc := Lib.hid hcc
    have hrf0 : refB 0 = false := rfl
    rw [hrf0] at hrE
    clear hca hx7 hrf0
    go_wp2_with (first
      | (go_at_call 60; (with_reducible refine hrE.out.mono ?_); rintro e w8 ⟨rfl, rfl⟩)
      | (go_at_call 61; (with_reducible refine hcc.out.mono ?_)))
    rintro e w8 ⟨rfl, hk8, hr8⟩
    have hf8 := hf7.out.block hk8.size (hk8.block _ hf7.out.lt (fun e => e.2 rfl))
    have hk9 : Cl.Keeps (fun b => ¬ F b) w w8 := hk7.out.trans (Cl.keeps_of hk8 fun b hb e => hb e.1)
    have hr9 : Rep w8 F L R.2 := by
      obtain ⟨o', hr8⟩ := hr8
      exact ⟨o', hr8.only fun b _ hh _ => hh.1⟩
    obtain ⟨_, f0, f1, f2⟩ := hf8
    replace hk9 := Lib.hid hk9
    clear hcc hk8 hr8 hf7 hr7 hk7 c0 c1 c2 c3
    by_cases h2 : (fateOf M).2.1 = 2
    · obtain rfl : (8, { R.2 with dark := true }) = Z := by rw [← hZ.out]; unfold opR; rw [if_pos rfl, if_pos h2]
      rw [h2] at f1
      obtain ⟨o', hr9⟩ := hr9
      have g8 := hr9.g8
      have gf := hr9.gf 8
      have hend : Hid (Rep (w8.setCell ⟨L.g, 8, none⟩ (.bool true)) F L { R.2 with dark := true }) := Lib.hid ⟨o', hr9.setDark true⟩
      have hke : Hid (Cl.Keeps (fun b' => ¬ F b') w (w8.setCell ⟨L.g, 8, none⟩ (.bool true))) := keeps_put hk9.out (fun e => e hr9.gt.1)
      clear hr9 hZ
      go_wp2_with fail
      go_step3
      refine jump_go ?_
      go_wp2_with fail
      rw [jump_retY]
      go_ret
      exact ⟨rfl, hke.out, hend.out⟩
    · obtain rfl : R = Z := by rw [← hZ.out]; unfold opR; rw [if_pos rfl, if_neg h2]
      have e2 : ((fateOf M).2.1 == 2) = false := by simpa using h2
      replace hr9 := Lib.hid hr9
      clear hZ
      go_wp2_with fail
      rw [jump_retY]
      go_ret
      exact ⟨rfl, hk9.out, hr9.out⟩
  · have e1 : (E != 0) = true := by simpa using hE
    cases hB : refB E
    · obtain rfl : (E, { M with ops := M.ops + 1 }) = Z := by rw [← hZ.out]; unfold opR; rw [if_neg hE, hB]; rfl
      rw [hB] at hrE
      have hrr : Hid (Rep w7 F L { M with ops := M.ops + 1 }) := Lib.hid ⟨o, hr7.out⟩
      clear hZ hca hx7 hf7 hr7
      go_wp2_with (first
        | (go_at_call 60; (with_reducible refine hrE.out.mono ?_); rintro e w8 ⟨rfl, rfl⟩))
      rw [jump_retY]
      go_ret
      exact ⟨rfl, hk7.out, hrr.out⟩
    · obtain rfl : (E, { M with ops := M.ops + 1, rf := M.rf + 1 }) = Z := by rw [← hZ.out]; unfold opR; rw [if_neg hE, hB]; rfl
      rw [hB] at hrE
      have g7 := hr7.out.g7
      have gf := hr7.out.gf 7
      have hw7 : wrap64 ((M.rf : Int) + 1) = (M.rf : Int) + 1 := IntWalk.wrap64_in _ (by omega)
      have hend : Hid (Rep (w7.setCell ⟨L.g, 7, none⟩ (.int .i64 ((M.rf : Int) + 1))) F L { M with ops := M.ops + 1, rf := M.rf + 1 }) := Lib.hid ⟨o, by
        have := hr7.out.setRf (M.rf + 1)
        rw [show ((M.rf + 1 : Nat) : Int) = (M.rf : Int) + 1 from by simp] at this
        exact this⟩
      have hke : Hid (Cl.Keeps (fun b' => ¬ F b') w (w7.setCell ⟨L.g, 7, none⟩ (.int .i64 ((M.rf : Int) + 1)))) := keeps_put hk7.out (fun e => e hr7.out.gt.1)
      clear hZ hca hx7 hf7 hr7
      go_wp2_with (first
        | (go_at_call 60; (with_reducible refine hrE.out.mono ?_); rintro e w8 ⟨rfl, rfl⟩))
      rw [jump_retY]
      go_ret
      exact ⟨rfl, hke.out, hend.out⟩
end Go.Proofs.YtjhoecfhmndcgaaGreat
