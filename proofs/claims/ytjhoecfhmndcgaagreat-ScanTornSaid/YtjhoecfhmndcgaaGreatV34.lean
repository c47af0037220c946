/- The program's frame: one codeword, mended. · The program's frame: the codewords of a page, each mended by itself. -/
import Derived.Test.YtjhoecfhmndcgaaGreatV33
import Derived.Deep.CutRange
namespace Go.Proofs.YtjhoecfhmndcgaaGreat
open Go.RowKit Go.Gf Go.Fl
set_option linter.unusedVariables false
set_option linter.unusedSimpArgs false
set_option maxRecDepth 20000
attribute [local go_sem ↓] exec_load_tb Cl.quiet_since
attribute [local go_sem] tbAt_ptr tbIn_ptr

/-- block g holds three cells, and may be written -/
def B3 (w : World) (T : TypeId) (g : Nat) (x y z : Value) : Prop := w.heap[g]? = some (.cells #[x, y, z] T (0, 0))
section
variable {w w' : World} {T : TypeId} {g : Nat} {x y z : Value}
theorem B3.lt (h : B3 w T g x y z) : g < w.heap.size := by
  rcases Nat.lt_or_ge g w.heap.size with hlt | hge
  · exact hlt
  · unfold B3 at h; rw [Array.getElem?_eq_none hge] at h; cases h
theorem B3.c0 (h : B3 w T g x y z) : w.cell? ⟨g, 0, none⟩ = some x := Ge.cell_of h 0
theorem B3.c1 (h : B3 w T g x y z) : w.cell? ⟨g, 1, none⟩ = some y := Ge.cell_of h 1
theorem B3.c2 (h : B3 w T g x y z) : w.cell? ⟨g, 2, none⟩ = some z := Ge.cell_of h 2
theorem B3.frozen (h : B3 w T g x y z) (i : Nat) : w.frozen? ⟨g, i, none⟩ = false := by unfold B3 at h; simp [World.frozen?, h]
theorem B3.keep (h : B3 w T g x y z) (hb : Below w.heap.size w w') : B3 w' T g x y z := (hb.block g h.lt).trans h
theorem B3.new (w : World) (T : TypeId) (x y z : Value) : B3 (w.alloc (.cells #[x, y, z] T)) T w.heap.size x y z := heap_alloc_new w _
theorem B3.set_ (h : B3 w T g x y z) (x' y' z' : Value) : B3 (((w.setCell ⟨g, 0, none⟩ x').setCell ⟨g, 1, none⟩ y').setCell ⟨g, 2, none⟩ z') T g x' y' z' := by
  unfold B3 at h ⊢
  simp only [World.setCell]
  rw [Array.getElem?_modify, if_pos rfl, Array.getElem?_modify, if_pos rfl, Array.getElem?_modify, if_pos rfl, h]
  rfl
end
theorem sizeWd : (Tryz.prog.info? 156).map (·.size) = some 3 := by kernel_rfl
theorem results_wd {fn : Func} {t g : Nat} {w : World} {x y z : Value} {tmps : Array Value} (h : fn.results = #[.cell t 156]) (hp : tmps.getD t undef = .pointer (some ⟨g, 0, none⟩)) (hm : B3 w 156 g x y z) :
    (results fn tmps).run Tryz.prog w = .ok (.agg #[x, y, z]) w := results_cell_row h tmps w g _ _ _ _ hp hm Tryz.underlying156 rfl sizeWd
/-- how many symbols of a row are wrong, or have a point that is nought, where ys was meant -/
def nbP (n : Nat) (row : List Nat) (z : Nat → Bool) (ys : List Nat) : Nat := bc (fun q => z q || decide (at_ row q ≠ at_ ys q)) n
/-- it is read as ys -/
def GoodP (n : Nat) (row : List Nat) (z : Nat → Bool) (ys : List Nat) : Prop := Near row ys ∧ nbP n row z ys ≤ 8
theorem nbP_split {n : Nat} {row ys : List Nat} {z : Nat → Bool} (hr : row.length = n) (hy : ys.length = n) : dl ys row + uncN z row ys n = nbP n row z ys := by
  rw [dl_bc (by rw [hy, hr]), hy]
  unfold nbP uncN
  refine (bc_split fun q _ => ⟨?_, ?_⟩).symm
  · show (z q || decide (at_ row q ≠ at_ ys q)) = (decide (at_ ys q ≠ at_ row q) || (z q && decide (at_ row q = at_ ys q)))
    by_cases e : at_ row q = at_ ys q
    · simp [e]
    · have e' : ¬ at_ ys q = at_ row q := fun h => e h.symm
      simp [e, e']
  · rintro ⟨h1, h2⟩
    rw [decide_eq_true_eq] at h1
    rw [Bool.and_eq_true, decide_eq_true_eq] at h2
    exact h1 h2.2.symm
theorem below_set3' {w0 w : World} {g : Nat} (h : Below w0.heap.size w0 w) (hg : w0.heap.size ≤ g) (i j k : Nat) (x y z : Value) : Below w0.heap.size w0 (((w.setCell ⟨g, i, none⟩ x).setCell ⟨g, j, none⟩ y).setCell ⟨g, k, none⟩ z) :=
  ((h.setCell (show w0.heap.size ≤ g from hg) x).setCell (show w0.heap.size ≤ g from hg) y).setCell (show w0.heap.size ≤ g from hg) z
set_option maxHeartbeats 4000000 in
theorem word_yes {cs : List Nat} (hcs : Tab cs) {D E : Option Addr} {cD cE n : Nat} {row ys : List Nat} {ps : List (Nat × Nat)} {w : World} (hD : Sl w w.heap.size D row) (hE : Cx w w.heap.size E ps) (hr : row.length = n) (hp : ps.length = n) (h1 : 17 ≤ n) (h2 : n ≤ 1000) (hb : ∀ x ∈ row, x < 1024)
    (hg : GoodP n row (fun q => zP (xA ps q)) ys) :
    Calls Tryz.prog 86 #[.agg (cells cs), .slice D n cD, .slice E n cE] w fun e w' => ∃ A c, e = .returned (.agg #[.slice A n c, .int .i64 ((nbP n row (fun q => zP (xA ps q)) ys : Nat) : Int), .bool true]) ∧ n ≤ c ∧ ys.length = n ∧ SlF w' w.heap.size A ys ∧ Below w.heap.size w w' := by
  obtain ⟨wa, hwa⟩ : ∃ wa, wa = w.alloc (.cells (cells cs) 50) := ⟨_, rfl⟩
  obtain ⟨wb, hwb⟩ : ∃ wb, wb = wa.alloc (.cells #[.slice none 0 0, .int .i64 0, .bool false] 156) := ⟨_, rfl⟩
  have hza : wa.heap.size = w.heap.size + 1 := by rw [hwa, World.size_alloc]
  have hzb : wb.heap.size = w.heap.size + 1 + 1 := by rw [hwb, World.size_alloc, hza]
  have hba : Below w.heap.size w wa := by rw [hwa]; exact Ge.below_alloc w _
  have hab : Below wa.heap.size wa wb := by rw [hwb]; exact Ge.below_alloc wa _
  have hbb : Below w.heap.size w wb := hba.trans (hab.mono hba.size)
  have hT : Tb wb w.heap.size cs := by
    have h1 : Tb wa w.heap.size cs := by rw [hwa]; exact tb_new w cs
    exact h1.keep hab
  have hG : B3 wb 156 (w.heap.size + 1) (.slice none 0 0) (.int .i64 0) (.bool false) := by
    have := B3.new wa 156 (.slice none 0 0) (.int .i64 0) (.bool false)
    rwa [← hwb, hza] at this
  have hyl : ys.length = n := by
    obtain ⟨h1, _⟩ := hg.1
    omega
  have hdec := dec_yes hcs (c := cD) (hD.far hbb) (by omega) (by omega) hb hg.1
  have hsp := nbP_split (z := fun q => zP (xA ps q)) hr hyl
  have h8 := hg.2
  have hunc : ∀ w2 A' c', Below wb.heap.size wb w2 → Sl w2 w2.heap.size A' ys → Hid (Calls Tryz.prog 119 #[.slice D n cD, .slice A' n c', .slice E n cE] w2
      fun e w' => e = .returned (.int .i64 ((uncN (fun q => zP (xA ps q)) row ys n : Nat) : Int)) ∧ Below w2.heap.size w2 w') := fun w2 A' c' h3 h4 =>
    uncharged_any ((hD.far hbb).far h3) h4 ((hE.far hbb).far h3) hr hyl hp (by omega)
  obtain ⟨U, hU⟩ : ∃ U, uncN (fun q => zP (xA ps q)) row ys n = U := ⟨_, rfl⟩
  obtain ⟨M, hM⟩ : ∃ M, nbP n row (fun q => zP (xA ps q)) ys = M := ⟨_, rfl⟩
  obtain ⟨d, hd⟩ : ∃ d, dl ys row = d := ⟨_, rfl⟩
  rw [hU, hM, hd] at hsp
  rw [hM] at h8 ⊢
  rw [hU] at hunc
  rw [hd, hyl, hr] at hdec
  have hsum : (d : Int) + (U : Int) = (M : Int) := by omega
  have hdm : decide ((8 : Int) < (M : Int)) = false := decide_eq_false (by omega)
  have hd8 : d ≤ 8 := by omega
  have hU8 : U ≤ 8 := by omega
  replace hdec := Lib.hid hdec
  replace hunc := Lib.hid hunc
  replace hyl := Lib.hid hyl
  have hi1 := hT.is hcs.1
  have hi2 := hT.of
  clear hU hM hd hsp hg hab hba hb hr hp hD hE
  go_enter Tryz.func86, Tryz.ntmps86
  go_upto_region 1 with fail
  rw [← hwa, ← hwb]
  clear hwa hwb
  go_wp2_with (first
    | (go_at_call 118; (with_reducible refine hdec.out.mono ?_); rintro e w4 ⟨A4, c4, rfl, hc4, hs4, hb4⟩; have huc := hunc.out w4 A4 c4 hb4 hs4.1; have hG4 := hG.keep hb4)
    | (go_at_call 119; (with_reducible refine huc.out.mono ?_); rintro e w6 ⟨rfl, hb6⟩; have hG6 := hG4.keep hb6; have j0 := hG6.c0; have j1 := hG6.c1; have j2 := hG6.c2; have jf := hG6.frozen))
  refine bodyPost_ret (results_wd rfl rfl (hG6.set_ _ _ _)) rfl ?_
  have hne : ys = [] ∨ ∀ a, A4 = some a → a.block ≠ w.heap.size + 1 := by
    rcases hs4.2 with e | ⟨a, e, hlo⟩
    · exact Or.inl e
    · refine Or.inr fun a' e' => ?_
      rw [e] at e'
      injection e' with e'
      rw [← e']
      omega
  refine ⟨A4, c4, rfl, hc4, hyl.out, ⟨?_, ?_⟩, below_set3' (hbb.trans ((hb4.trans (hb6.mono hb4.size)).mono hbb.size)) (by omega) 0 1 2 _ _ _⟩
  · simp only [World.size_setCell]
    exact ((((hs4.1.far hb6).setOther hne).setOther hne).setOther hne)
  · rcases hs4.2 with e | ⟨a, e, hlo⟩
    · exact Or.inl e
    · exact Or.inr ⟨a, e, by omega⟩
set_option maxHeartbeats 4000000 in
theorem word_no {cs : List Nat} (hcs : Tab cs) {D E : Option Addr} {cD cE n : Nat} {row : List Nat} {ps : List (Nat × Nat)} {w : World} (hD : Sl w w.heap.size D row) (hE : Cx w w.heap.size E ps) (hr : row.length = n) (hp : ps.length = n) (h1 : 17 ≤ n) (h2 : n ≤ 1000) (hb : ∀ x ∈ row, x < 1024)
    (hg : ∀ ys, ¬ GoodP n row (fun q => zP (xA ps q)) ys) :
    Calls Tryz.prog 86 #[.agg (cells cs), .slice D n cD, .slice E n cE] w fun e w' => e = .returned (.agg #[.slice none 0 0, .int .i64 0, .bool false]) ∧ Below w.heap.size w w' := by
  obtain ⟨wa, hwa⟩ : ∃ wa, wa = w.alloc (.cells (cells cs) 50) := ⟨_, rfl⟩
  obtain ⟨wb, hwb⟩ : ∃ wb, wb = wa.alloc (.cells #[.slice none 0 0, .int .i64 0, .bool false] 156) := ⟨_, rfl⟩
  have hza : wa.heap.size = w.heap.size + 1 := by rw [hwa, World.size_alloc]
  have hba : Below w.heap.size w wa := by rw [hwa]; exact Ge.below_alloc w _
  have hab : Below wa.heap.size wa wb := by rw [hwb]; exact Ge.below_alloc wa _
  have hbb : Below w.heap.size w wb := hba.trans (hab.mono hba.size)
  have hT : Tb wb w.heap.size cs := by
    have h1 : Tb wa w.heap.size cs := by rw [hwa]; exact tb_new w cs
    exact h1.keep hab
  have hG : B3 wb 156 (w.heap.size + 1) (.slice none 0 0) (.int .i64 0) (.bool false) := by
    have := B3.new wa 156 (.slice none 0 0) (.int .i64 0) (.bool false)
    rwa [← hwb, hza] at this
  have hi1 := hT.is hcs.1
  have hi2 := hT.of
  by_cases hnear : ∃ ys, Near row ys
  · obtain ⟨ys, hys⟩ := hnear
    have hyl : ys.length = n := by
      obtain ⟨h1, _⟩ := hys
      omega
    have hdec := dec_yes hcs (c := cD) (hD.far hbb) (by omega) (by omega) hb hys
    have hsp := nbP_split (z := fun q => zP (xA ps q)) hr hyl
    have h8 : ¬ nbP n row (fun q => zP (xA ps q)) ys ≤ 8 := fun h => hg ys ⟨hys, h⟩
    have hunc : ∀ w2 A' c', Below wb.heap.size wb w2 → Sl w2 w2.heap.size A' ys → Hid (Calls Tryz.prog 119 #[.slice D n cD, .slice A' n c', .slice E n cE] w2
        fun e w' => e = .returned (.int .i64 ((uncN (fun q => zP (xA ps q)) row ys n : Nat) : Int)) ∧ Below w2.heap.size w2 w') := fun w2 A' c' h3 h4 =>
      uncharged_any ((hD.far hbb).far h3) h4 ((hE.far hbb).far h3) hr hyl hp (by omega)
    have hUn : uncN (fun q => zP (xA ps q)) row ys n ≤ n := bc_le _ _
    have hdn : dl ys row ≤ n := by rw [dl_bc (by rw [hyl, hr]), hyl]; exact bc_le _ _
    obtain ⟨U, hU⟩ : ∃ U, uncN (fun q => zP (xA ps q)) row ys n = U := ⟨_, rfl⟩
    obtain ⟨M, hM⟩ : ∃ M, nbP n row (fun q => zP (xA ps q)) ys = M := ⟨_, rfl⟩
    obtain ⟨d, hd⟩ : ∃ d, dl ys row = d := ⟨_, rfl⟩
    rw [hU, hM, hd] at hsp
    rw [hM] at h8
    rw [hU] at hunc hUn
    rw [hd] at hdn
    rw [hd, hyl, hr] at hdec
    have hsum : (d : Int) + (U : Int) = (M : Int) := by omega
    have hdm : decide ((8 : Int) < (M : Int)) = true := decide_eq_true (by omega)
    replace hdec := Lib.hid hdec
    replace hunc := Lib.hid hunc
    replace hyl := Lib.hid hyl
    clear hU hM hd hsp hg hab hba hb hr hp hD hE h8 hys
    go_enter Tryz.func86, Tryz.ntmps86
    go_upto_region 1 with fail
    rw [← hwa, ← hwb]
    clear hwa hwb
    go_wp2_with (first
      | (go_at_call 118; (with_reducible refine hdec.out.mono ?_); rintro e w4 ⟨A4, c4, rfl, hc4, hs4, hb4⟩; have huc := hunc.out w4 A4 c4 hb4 hs4.1; have hG4 := hG.keep hb4)
      | (go_at_call 119; (with_reducible refine huc.out.mono ?_); rintro e w6 ⟨rfl, hb6⟩; have hG6 := hG4.keep hb6; have j0 := hG6.c0; have j1 := hG6.c1; have j2 := hG6.c2; have jf := hG6.frozen))
    refine bodyPost_ret (results_wd rfl rfl (hG6.set_ _ _ _)) rfl ?_
    exact ⟨rfl, below_set3' (hbb.trans ((hb4.trans (hb6.mono hb4.size)).mono hbb.size)) (by omega) 0 1 2 _ _ _⟩
  · have hdec := dec_no hcs (c := cD) (hD.far hbb) (by omega) (by omega) hb (fun c hc => hnear ⟨c, hc⟩)
    rw [hr] at hdec
    replace hdec := Lib.hid hdec
    clear hg hab hba hb hr hp hD hE hnear
    go_enter Tryz.func86, Tryz.ntmps86
    go_upto_region 1 with fail
    rw [← hwa, ← hwb]
    clear hwa hwb
    go_wp2_with (first
      | (go_at_call 118; (with_reducible refine hdec.out.mono ?_); rintro e w4 ⟨A4, c4, rfl, hb4⟩; have hG4 := hG.keep hb4; have j0 := hG4.c0; have j1 := hG4.c1; have j2 := hG4.c2; have jf := hG4.frozen))
    refine bodyPost_ret (results_wd rfl rfl (hG4.set_ _ _ _)) rfl ?_
    exact ⟨rfl, below_set3' (hbb.trans (hb4.mono hbb.size)) (by omega) 0 1 2 _ _ _⟩
end Go.Proofs.YtjhoecfhmndcgaaGreat
namespace Go.Proofs.YtjhoecfhmndcgaaGreat
open Go.RowKit Go.Gf Go.Fl
set_option linter.unusedVariables false
set_option linter.unusedSimpArgs false
set_option maxRecDepth 20000
attribute [local go_sem ↓] exec_load_tb Cl.quiet_since
attribute [local go_sem] tbAt_ptr tbIn_ptr

theorem infoWd : (Tryz.prog.info? 156).map (fun i => (i.zero, i.size, i.bytes)) = some (some (.agg #[.slice none 0 0, .int .i64 0, .bool false]), 3, 40) := by kernel_rfl
/-- n words of nothing -/
def zW (n : Nat) : Array Value := madeCells #[.slice none 0 0, .int .i64 0, .bool false] (n * 3)
theorem zW_size (n : Nat) : (zW n).size = n * 3 := size_madeCells _ _
theorem run_makeW (w : World) (n : Nat) (hn : n ≤ 65536) : (Instr.makeSlice 129 (.int .i64 (n : Int)) (.int .i64 (n : Int))).run Tryz.prog w = .ok (.slice (some ⟨w.heap.size, 0, none⟩) n n) (w.alloc (.cells (zW n) 156)) := by
  have hi0 := infoWd
  obtain ⟨i, hi, hrest⟩ := Option.map_eq_some_iff.1 hi0
  simp only [Prod.mk.injEq] at hrest
  obtain ⟨i1, i2, i3⟩ := hrest
  have h := run_make (P := Tryz.prog) w 129 156 i _ Tryz.underlying129 hi i1 .i64 .i64 (n : Int) (n : Int) (by omega) (Int.le_refl _) (by rw [i3]; omega) (by omega)
  rw [i2, Int.toNat_natCast] at h
  exact h
/-- which points are nought -/
def zX (xs : List (Nat × Nat)) : Nat → Bool := fun i => zP (xA xs i)
/-- what is told of one word, in three cells; block g is not its symbols' -/
def WdIs (w : World) (g : Nat) (o : Option (List Nat)) (m : Nat) (x y b : Value) : Prop :=
  match o with
  | none => x = .slice none 0 0 ∧ y = .int .i64 (m : Int) ∧ b = .bool false
  | some ys => ∃ A c, x = .slice A ys.length c ∧ ys.length ≤ c ∧ Sl w w.heap.size A ys ∧ (ys = [] ∨ ∀ a, A = some a → a.block ≠ g) ∧ y = .int .i64 (m : Int) ∧ b = .bool true
theorem WdIs.keep {w w' : World} {g m : Nat} {o : Option (List Nat)} {x y b : Value} (h : WdIs w g o m x y b) (hb : Below w.heap.size w w') : WdIs w' g o m x y b := by
  cases o with
  | none => exact h
  | some ys =>
    obtain ⟨A, c, h1, h2, h3, h4, h5⟩ := h
    exact ⟨A, c, h1, h2, h3.far hb, h4, h5⟩
theorem WdIs.other {w : World} {g m i : Nat} {o : Option (List Nat)} {x y b : Value} (h : WdIs w g o m x y b) (v : Value) : WdIs (w.setCell ⟨g, i, none⟩ v) g o m x y b := by
  cases o with
  | none => exact h
  | some ys =>
    obtain ⟨A, c, h1, h2, h3, h4, h5⟩ := h
    refine ⟨A, c, h1, h2, ?_, h4, h5⟩
    rw [World.size_setCell]
    exact h3.setOther h4
/-- block g holds W words, of which the first k are r's, and m wrong in each -/
structure WdsI (w : World) (g W : Nat) (f : Nat → Value) (r : Nat → Option (List Nat)) (m : Nat → Nat) (k : Nat) : Prop where
  pre : PreV w 156 g (W * 3) f
  each : ∀ j, j < k → WdIs w g (r j) (m j) (f (j * 3)) (f (j * 3 + 1)) (f (j * 3 + 2))
section
variable {w w' : World} {g W k : Nat} {f : Nat → Value} {r : Nat → Option (List Nat)} {m : Nat → Nat}
theorem WdsI.keep (h : WdsI w g W f r m k) (hb : Below w.heap.size w w') : WdsI w' g W f r m k := ⟨h.pre.below hb, fun j hj => (h.each j hj).keep hb⟩
theorem WdsI.c0 (h : WdsI w g W f r m k) {j : Nat} (hj : j < W) : w.cell? ⟨g, j * 3, none⟩ = some (f (j * 3)) := h.pre.cell (by omega)
theorem WdsI.c1 (h : WdsI w g W f r m k) {j : Nat} (hj : j < W) : w.cell? ⟨g, j * 3 + 1, none⟩ = some (f (j * 3 + 1)) := h.pre.cell (by omega)
theorem WdsI.c2 (h : WdsI w g W f r m k) {j : Nat} (hj : j < W) : w.cell? ⟨g, j * 3 + 2, none⟩ = some (f (j * 3 + 2)) := h.pre.cell (by omega)
theorem WdsI.lay (h : WdsI w g W f r m k) (hk : k < W) {x y b : Value} (hx : WdIs w g (r k) (m k) x y b) :
    ∃ f', WdsI (((w.setCell ⟨g, k * 3, none⟩ x).setCell ⟨g, k * 3 + 1, none⟩ y).setCell ⟨g, k * 3 + 2, none⟩ b) g W f' r m (k + 1) := by
  refine ⟨_, ((h.pre.set_ (k * 3) x).set_ (k * 3 + 1) y).set_ (k * 3 + 2) b, fun j hj => ?_⟩
  by_cases e : j = k
  · subst e
    have e1 : (if j * 3 = j * 3 + 2 then b else if j * 3 = j * 3 + 1 then y else if j * 3 = j * 3 then x else f (j * 3)) = x := by simp
    have e2 : (if j * 3 + 1 = j * 3 + 2 then b else if j * 3 + 1 = j * 3 + 1 then y else if j * 3 + 1 = j * 3 then x else f (j * 3 + 1)) = y := by simp
    have e3 : (if j * 3 + 2 = j * 3 + 2 then b else if j * 3 + 2 = j * 3 + 1 then y else if j * 3 + 2 = j * 3 then x else f (j * 3 + 2)) = b := by simp
    show WdIs _ g (r j) (m j) (if j * 3 = j * 3 + 2 then b else if j * 3 = j * 3 + 1 then y else if j * 3 = j * 3 then x else f (j * 3)) (if j * 3 + 1 = j * 3 + 2 then b else if j * 3 + 1 = j * 3 + 1 then y else if j * 3 + 1 = j * 3 then x else f (j * 3 + 1)) (if j * 3 + 2 = j * 3 + 2 then b else if j * 3 + 2 = j * 3 + 1 then y else if j * 3 + 2 = j * 3 then x else f (j * 3 + 2))
    rw [e1, e2, e3]
    exact ((hx.other _).other _).other _
  · have hj' : j < k := by omega
    have h1 := ((h.each j hj').other (i := k * 3) x).other (i := k * 3 + 1) y |>.other (i := k * 3 + 2) b
    have e' : ∀ q, q < 3 → (if j * 3 + q = k * 3 + 2 then b else if j * 3 + q = k * 3 + 1 then y else if j * 3 + q = k * 3 then x else f (j * 3 + q)) = f (j * 3 + q) := fun q hq => by
      rw [if_neg (by omega), if_neg (by omega), if_neg (by omega)]
    show WdIs _ g (r j) (m j) (if j * 3 + 0 = k * 3 + 2 then b else if j * 3 + 0 = k * 3 + 1 then y else if j * 3 + 0 = k * 3 then x else f (j * 3 + 0)) (if j * 3 + 1 = k * 3 + 2 then b else if j * 3 + 1 = k * 3 + 1 then y else if j * 3 + 1 = k * 3 then x else f (j * 3 + 1)) (if j * 3 + 2 = k * 3 + 2 then b else if j * 3 + 2 = k * 3 + 1 then y else if j * 3 + 2 = k * 3 then x else f (j * 3 + 2))
    rw [e' 0 (by omega), e' 1 (by omega), e' 2 (by omega)]
    exact h1
end
theorem zW_new (w : World) (n : Nat) : PreV (w.alloc (.cells (zW n) 156)) 156 w.heap.size (n * 3) (fun i => (zW n).getD i undef) := by
  refine ⟨zW n, heap_alloc_new w _, fun i hi => ?_⟩
  have : i < (zW n).size := by rw [zW_size]; exact hi
  simp [this]
/-- word j is read as o says -/
def RdW (W n : Nat) (ss : List Nat) (z : Nat → Bool) (j : Nat) : Option (List Nat) → Prop
  | none => ∀ ys, ¬ GoodR W n ss z j ys
  | some ys => GoodR W n ss z j ys
/-- .. with so many wrong -/
def wrO (W n : Nat) (ss : List Nat) (z : Nat → Bool) (j : Nat) : Option (List Nat) → Nat
  | none => 0
  | some ys => nbW W n ss z j ys
/-- the same of a row and its own points -/
def RdP (n : Nat) (row : List Nat) (z : Nat → Bool) : Option (List Nat) → Prop
  | none => ∀ ys, ¬ GoodP n row z ys
  | some ys => GoodP n row z ys
def wrP (n : Nat) (row : List Nat) (z : Nat → Bool) : Option (List Nat) → Nat
  | none => 0
  | some ys => nbP n row z ys
theorem nbP_col {W n j : Nat} {ss ys : List Nat} {xs : List (Nat × Nat)} : nbP n (rowS W n ss j) (fun q => zP (xA (colX xs W j n) q)) ys = nbW W n ss (zX xs) j ys := bc_congr fun q hq => by show (zP (xA (colX xs W j n) q) || _) = _; rw [colX_at hq]; rfl
theorem rdP_of {W n j : Nat} {ss : List Nat} {xs : List (Nat × Nat)} {o : Option (List Nat)} (h : RdW W n ss (zX xs) j o) : RdP n (rowS W n ss j) (fun q => zP (xA (colX xs W j n) q)) o ∧ wrP n (rowS W n ss j) (fun q => zP (xA (colX xs W j n) q)) o = wrO W n ss (zX xs) j o := by
  cases o with
  | none => exact ⟨fun ys hy => h ys ⟨hy.1, by rw [← nbP_col]; exact hy.2⟩, rfl⟩
  | some ys => exact ⟨⟨h.1, by rw [nbP_col]; exact h.2⟩, nbP_col⟩
theorem word_o {cs : List Nat} (hcs : Tab cs) {D E : Option Addr} {cD cE n : Nat} {row : List Nat} {ps : List (Nat × Nat)} {w : World} (hD : Sl w w.heap.size D row) (hE : Cx w w.heap.size E ps) (hr : row.length = n) (hp : ps.length = n) (h1 : 17 ≤ n) (h2 : n ≤ 1000) (hb : ∀ x ∈ row, x < 1024)
    {o : Option (List Nat)} (ho : RdP n row (fun q => zP (xA ps q)) o) :
    Calls Tryz.prog 86 #[.agg (cells cs), .slice D n cD, .slice E n cE] w fun e w' => ∃ A l c M b, e = .returned (.agg #[.slice A l c, .int .i64 M, .bool b]) ∧ (∀ g, g < w.heap.size → WdIs w' g o (wrP n row (fun q => zP (xA ps q)) o) (.slice A l c) (.int .i64 M) (.bool b)) ∧ Below w.heap.size w w' := by
  cases o with
  | none =>
    refine (word_no hcs hD hE hr hp h1 h2 hb ho).mono ?_
    rintro e w' ⟨rfl, hbb⟩
    exact ⟨_, _, _, _, _, rfl, fun g hg => ⟨rfl, rfl, rfl⟩, hbb⟩
  | some ys =>
    refine (word_yes hcs hD hE hr hp h1 h2 hb ho).mono ?_
    rintro e w' ⟨A, c, rfl, hc, hl, hs, hbb⟩
    refine ⟨_, _, _, _, _, rfl, fun g hg => ⟨A, c, by rw [hl], by rw [hl]; exact hc, hs.1, ?_, rfl, rfl⟩, hbb⟩
    rcases hs.2 with e | ⟨a, e, hlo⟩
    · exact Or.inl e
    · refine Or.inr fun a' e' => ?_
      rw [e] at e'
      injection e' with e'
      rw [← e']
      omega
set_option maxHeartbeats 8000000 in
theorem mended_any {cs : List Nat} (hcs : Tab cs) {B P : Int} {W K : Nat} {A : Option Addr} {c : Nat} {xs : List (Nat × Nat)} {ss : List Nat} {w : World} (hW : 1 ≤ W ∧ W ≤ 4) (hK : 1 ≤ K ∧ K ≤ 64) (hs : Cx w w.heap.size A xs) (hl : xs.length = W * (K + 16))
    (hn : ss.length = xs.length) (hsl : ∀ i, i < xs.length → SlcIs (xA xs i) (at_ ss i)) (hb : ∀ y ∈ ss, y < 1024) (r : Nat → Option (List Nat)) (hr : ∀ j, j < W → RdW W (K + 16) ss (zX xs) j (r j)) :
    Calls Tryz.prog 66 #[.agg (cells cs), .agg #[.int .i64 B, .int .i64 P, .int .i64 (W : Int), .int .i64 (K : Int)], .slice A xs.length c] w
      fun e w' => ∃ g f, e = .returned (.slice (some ⟨g, 0, none⟩) W W) ∧ w.heap.size ≤ g ∧ WdsI w' g W f r (fun j => wrO W (K + 16) ss (zX xs) j (r j)) W ∧ Below w.heap.size w w' := by
  have H := Lib.hid hs
  have HCS := Lib.hid hcs
  obtain ⟨wa, hwa⟩ : ∃ wa, wa = w.alloc (.cells (cells cs) 50) := ⟨_, rfl⟩
  obtain ⟨wb, hwb⟩ : ∃ wb, wb = wa.alloc (.cells #[.int .i64 B, .int .i64 P, .int .i64 (W : Int), .int .i64 (K : Int)] 34) := ⟨_, rfl⟩
  have hba : Below w.heap.size w wa := by rw [hwa]; exact Ge.below_alloc w _
  have hbb : Below w.heap.size w wb := hba.trans (by rw [hwb]; exact (Ge.below_alloc wa _).mono hba.size)
  have hT : Tb wb w.heap.size cs := by
    have : Tb wa w.heap.size cs := by rw [hwa]; exact tb_new w cs
    exact this.keep (by rw [hwb]; exact Ge.below_alloc wa _)
  have hX : Ge.Box wb (w.heap.size + 1) B P W K := by
    have := Ge.Box.new wa B P W K
    rw [← hwb] at this
    rwa [show wa.heap.size = w.heap.size + 1 by rw [hwa, World.size_alloc]] at this
  have hN4 : W * (K + 16) ≤ 320 := Nat.mul_le_mul hW.2 (show K + 16 ≤ 80 by omega)
  obtain ⟨L, hL⟩ : ∃ L, xs.length = L := ⟨_, rfl⟩
  have hL3 : L ≤ 320 := by omega
  have hLW : Hid (L = W * (K + 16)) := by unfold Hid; omega
  have hsL : Hid (ss.length = L) := by unfold Hid; omega
  replace hL := Lib.hid hL
  have HSL := Lib.hid hsl
  have HB := Lib.hid hb
  have HR := Lib.hid hr
  have hmkW := fun w => run_makeW w W (by omega)
  rw [hL.out]
  clear hl hn hsl hs hcs hN4 hr
  go_enter Tryz.func66, Tryz.ntmps66
  go_wp2_with fail
  rw [← hwa, ← hwb]
  clear hwa hwb hba
  replace hbb := Lib.hid hbb
  replace hT := Lib.hid hT
  replace hX := Lib.hid hX
  refine Cl.region_way (fun _ => True) 10 [(0, .r), (1, .r), (2, .r), (3, .c), (4, .c), (5, .r), (6, .r), (7, .r), (8, .r), (9, .r)] (by kernel_rfl) (by kernel_rfl) ?_
  intro w1 hk1
  have hT1 := Lib.hid (hT.out.keep (Cl.Keeps.below hk1))
  have hX1 := Lib.hid (hX.out.keep (Cl.Keeps.below hk1))
  have hb1 := Lib.hid (hbb.out.trans ((Cl.Keeps.below hk1).mono hbb.out.size))
  have x2 : ∀ y : Cl.Since (fun _ => True) w1, y.w.cell? ⟨w.heap.size + 1, 2, none⟩ = some (.int .i64 (W : Int)) := fun y => (hX1.out.keep (Cl.Keeps.below y.keeps)).c2
  have hsc := Lib.hid (sliced_any A c xs ss w1 (H.out.far hb1.out) (by have := hL.out; omega) (by rw [hsL.out, hL.out]) HSL.out (fun y hy => by have := HB.out y hy; omega))
  rw [hL.out] at hsc
  clear hk1 hT hX hbb HSL
  iterate 3 (refine Cl.way_r rfl ?_; go_big_quiet_step (fail); refine wpQuiet_nil ?_)
  refine Cl.way_c rfl ?_
  go_wp2_with (go_at_call 85; (with_reducible refine hsc.out.mono ?_); rintro e w2 ⟨v2, rfl, ho2, hb2⟩)
  refine Cl.way_on (Cl.Keeps.of_below hb2) ?_
  obtain ⟨A2, c2, rfl, hc2, hs2⟩ := ho2.sl
  have hin := in_row (c := c2) hLW.out.symm hW (by omega) hs2 hsL.out (by omega)
  rw [hsL.out] at hin ⊢
  have hT2 := hT1.out.keep hb2
  have hX2 := hX1.out.keep hb2
  have hbw2 := hb1.out.trans (hb2.mono hb1.out.size)
  replace hin := Lib.hid hin
  clear hsc ho2 hs2 hc2 x2
  refine Cl.way_c rfl ?_
  go_wp2_with (go_at_call 84; (with_reducible refine hin.out.mono ?_); rintro e w3 ⟨gr, fr, rfl, hat, hR3, hb3⟩)
  refine Cl.way_on (Cl.Keeps.of_below hb3) ?_
  have hT3 := Lib.hid (hT2.keep hb3)
  have hX3 := Lib.hid (hX2.keep hb3)
  have hbw3 := Lib.hid (hbw2.trans (hb3.mono hbw2.size))
  have hRr := hR3.congr (ws' := fun j => rowS W (K + 16) ss j) (fun j hj => dealt_get' (by rw [hsL.out, hLW.out]) hj)
  replace hRr := Lib.hid hRr
  clear hT2 hX2 hbw2 hb3 hR3 hin hT1 hX1 hb1 hb2 hat
  iterate 5 (refine Cl.way_r rfl ?_; go_big_quiet_step (fail); refine wpQuiet_nil ?_)
  refine Cl.way_end ?_
  go_wp2_with fail
  obtain ⟨n, hn⟩ : ∃ n, K + 16 = n := ⟨_, rfl⟩
  have hn80 : n ≤ 80 := by omega
  have hn17 : 17 ≤ n := by omega
  rw [hn] at hRr hLW HR
  obtain ⟨m, hm⟩ : ∃ m, m = fun j => wrO W n ss (zX xs) j (r j) := ⟨_, rfl⟩
  go_loopw [25] (fun p wr => ∃ i : Nat, i ≤ W ∧ p = .int .i64 i ∧ (∃ f, WdsI wr w3.heap.size W f r m i) ∧ Below w3.heap.size w3 wr) (fun p _ => W - (intOf p).toNat)
  case atStart => exact ⟨0, Nat.zero_le _, rfl, ⟨_, zW_new w3 W, fun j h => absurd h (by omega)⟩, Ge.below_alloc w3 _⟩
  case round =>
    obtain ⟨i, hi, rfl, ⟨f, hWd⟩, hB⟩ := hrel
    by_cases hlt : i < W
    · have hiI : (i : Int) < (W : Int) := by omega
      have hdi : decide (i < W) = true := decide_eq_true hlt
      have hRw := hRr.out.keep hB
      obtain ⟨D, cD, hfi, hcD, hsD, hDne⟩ := hRw.row i hlt
      have hcl := hRw.vs.cell hlt
      rw [hfi] at hcl
      have hrl : (rowS W n ss i).length = n := rowS_len
      have hrb := rowS_bd (W := W) (n := n) (j := i) HB.out
      have hTr := hT3.out.keep hB
      have hXr := hX3.out.keep hB
      have hbwr := hbw3.out.trans (hB.mono hbw3.out.size)
      rw [hrl] at hfi hcl hcD
      clear hmkW
      go_wp2_with fail
      refine Cl.region_way (fun _ => True) 10 [(0, .r), (1, .r), (2, .r), (3, .r), (4, .r), (5, .r), (6, .r), (7, .c), (8, .c), (9, .r), (10, .z)] (by kernel_rfl) (by kernel_rfl) ?_
      intro w6 hk6
      have hb6 := Cl.Keeps.below hk6
      have hWd6 := Lib.hid (hWd.keep hb6)
      have hB6 := Lib.hid (hB.trans (hb6.mono hB.size))
      have hbw6 := Lib.hid (hbw3.out.trans (hB6.out.mono hbw3.out.size))
      have hT6 := Lib.hid (hTr.keep hb6)
      have hX6 := Lib.hid (hXr.keep hb6)
      have hi6 : ∀ y : Cl.Since (fun _ => True) w6, isTb y.w w.heap.size = true := fun y => (hT6.out.keep (Cl.Keeps.below y.keeps)).is HCS.out.1
      have ho6 : ∀ y : Cl.Since (fun _ => True) w6, tbOf y.w w.heap.size = cells cs := fun y => (hT6.out.keep (Cl.Keeps.below y.keeps)).of
      have b0 : ∀ y : Cl.Since (fun _ => True) w6, y.w.cell? ⟨w.heap.size + 1, 0, none⟩ = some (.int .i64 B) := fun y => (hX6.out.keep (Cl.Keeps.below y.keeps)).c0
      have b1 : ∀ y : Cl.Since (fun _ => True) w6, y.w.cell? ⟨w.heap.size + 1, 1, none⟩ = some (.int .i64 P) := fun y => (hX6.out.keep (Cl.Keeps.below y.keeps)).c1
      have b2 : ∀ y : Cl.Since (fun _ => True) w6, y.w.cell? ⟨w.heap.size + 1, 2, none⟩ = some (.int .i64 (W : Int)) := fun y => (hX6.out.keep (Cl.Keeps.below y.keeps)).c2
      have b3 : ∀ y : Cl.Since (fun _ => True) w6, y.w.cell? ⟨w.heap.size + 1, 3, none⟩ = some (.int .i64 (K : Int)) := fun y => (hX6.out.keep (Cl.Keeps.below y.keeps)).c3
      have hpt := points_any (B := B) (P := P) (K := K) (c := c) hW hK hlt (H.out.far hbw6.out) (by rw [hL.out, hLW.out, hn])
      rw [hL.out, hn] at hpt
      replace hpt := Lib.hid hpt
      have hsD6 := Lib.hid (hsD.far hb6)
      replace hrl := Lib.hid hrl
      replace hrb := Lib.hid hrb
      have hRi := Lib.hid (rdP_of (HR.out i hlt))
      clear hk6 hb6 hWd hB hTr hXr hsD hcl hfi hDne hcD hRw hbwr
      iterate 7 (refine Cl.way_r rfl ?_; go_big_quiet_step (fail); refine wpQuiet_nil ?_)
      clear hi6 ho6 b0 b1 b2 b3
      refine Cl.way_c rfl ?_
      go_wp2_with (go_at_call 87; (with_reducible refine hpt.out.mono ?_); rintro e w7 ⟨A7, c7, rfl, hx7, hb7⟩)
      refine Cl.way_on (Cl.Keeps.of_below hb7) ?_
      have hwd := Lib.hid (word_o HCS.out (cD := cD) (cE := c7) (hsD6.out.far hb7) hx7 hrl.out (colX_len _ _ _ _) hn17 (by omega) hrb.out hRi.out.1)
      rw [hRi.out.2] at hwd
      have hWd7 := Lib.hid (hWd6.out.keep hb7)
      have hB7 := Lib.hid (hB6.out.trans (hb7.mono hB6.out.size))
      clear hpt hx7 hb7 hsD6 hWd6 hB6 hbw6 hT6 hX6
      refine Cl.way_c rfl ?_
      go_wp2_with (go_at_call 86; (with_reducible refine hwd.out.mono ?_); rintro e w8 ⟨A8, l8, c8, M8, b8, rfl, hwi, hb8⟩)
      refine Cl.way_on (Cl.Keeps.of_below hb8) ?_
      have hWd8 := hWd7.out.keep hb8
      have hB8 := hB7.out.trans (hb8.mono hB7.out.size)
      have hgl : w3.heap.size < w7.heap.size := hWd7.out.pre.lt
      have hwi8 := Lib.hid (hwi w3.heap.size hgl)
      iterate 1 (refine Cl.way_r rfl ?_; go_big_quiet_step (fail); refine wpQuiet_nil ?_)
      refine Cl.way_z rfl ?_
      have j0 := hWd8.c0 hlt
      have j1 := hWd8.c1 hlt
      have j2 := hWd8.c2 hlt
      have jf := hWd8.pre.frozen
      have hz : w8.heap.size ≥ w3.heap.size := hB8.size
      obtain ⟨f', hl8⟩ := hWd8.lay hlt (x := .slice A8 l8 c8) (y := .int .i64 M8) (b := .bool b8) (by rw [hm]; exact hwi8.out)
      have hl8 := Lib.hid hl8
      have hB9 := Lib.hid (below_set3' hB8 (Nat.le_refl _) (i * 3) (i * 3 + 1) (i * 3 + 2) (.slice A8 l8 c8) (.int .i64 M8) (.bool b8))
      clear hwi hb8 hWd7 hB7 hwd hWd8 hB8 hwi8 hRi hrl hrb
      go_wp2_with fail
      refine Cl.Calm.normal ?_
      go_wp2_with fail
      go_roundw
      case rel => exact ⟨i + 1, by omega, by go_num, ⟨f', hl8.out⟩, hB9.out⟩
      case measure => simp [intOf]; omega
    · obtain rfl : i = W := by omega
      have hdi : decide (i < i) = false := decide_eq_false (Nat.lt_irrefl _)
      have hfin := Lib.hid (hbw3.out.trans (hB.mono hbw3.out.size))
      replace hWd := Lib.hid hWd
      clear hB
      go_wp2_with fail
      go_ret
      rw [hn, ← hm]
      exact ⟨_, f, rfl, hbw3.out.size, hWd.out, hfin.out⟩
end Go.Proofs.YtjhoecfhmndcgaaGreat
