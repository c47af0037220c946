/- scan.Latest AND scan.Greatest, as the program has them. · scan.Latest AND scan.Greatest, as the program has them: their contracts. · WHAT scan.Block CALLS, as it asks for it: Geo, Sense of nobody, Read of points; boxes; append that leaves all others. · WHAT scan.Block HOLDS while it goes over a block's pages. -/
import Derived.Test.YtjhoecfhmndcgaaGreatV04
import Derived.Test.YtjhoecfhmndcgaaGreatV09
import Derived.Test.YtjhoecfhmndcgaaGreatV10
import Derived.Test.YtjhoecfhmndcgaaGreatV45
import Derived.Deep.Slices
import Derived.Lib.SliceRun
import Derived.Laws.ResultCell
namespace Go.Proofs.YtjhoecfhmndcgaaGreat.So
open Go.RowKit Go.Sort Go.Proofs.YtjhoecfhmndcgaaGreat.Sc
set_option linter.unusedVariables false
set_option linter.unusedSimpArgs false
def enc5 (x : Fnd) : List Value := [.int .i64 x.pg, .int .i64 x.kd, .int .i64 x.lp, .int .i64 x.sq, .int .i64 x.wr]
theorem fA_arr (l : List Fnd) (i : Nat) (hi : i < l.length) : l.toArray[i]! = fA l i := by
  rw [fA_get hi, getElem!_pos l.toArray i (by simpa using hi)]
  simp
theorem enc5_at (x : Fnd) (j : Nat) (hj : j < 5) : (enc5 x)[j]! = fC x j := by
  rcases (by omega : j = 0 ∨ j = 1 ∨ j = 2 ∨ j = 3 ∨ j = 4) with rfl | rfl | rfl | rfl | rfl <;> rfl
theorem flatK5 (l : List Fnd) : Sort.flatK enc5 5 l.toArray = (flat5 l).toArray := by
  refine Sort.ext_get! (by simp [flat5_len]) fun t ht => ?_
  have ht' : t < l.length * 5 := by simpa using ht
  rw [Sort.get_flatK _ _ _ t (by simpa using ht'), fA_arr l _ (by omega), enc5_at _ _ (Nat.mod_lt _ (by decide))]
  have hb : t < (flat5 l).length := by rw [flat5_len]; exact ht'
  have h5 := flat5_at l (t / 5) (by omega) (t % 5) (Nat.mod_lt _ (by decide))
  rw [show t / 5 * 5 + t % 5 = t by omega, List.getElem?_eq_getElem hb] at h5
  injection h5 with h5
  rw [getElem!_pos (flat5 l).toArray t (by simpa using hb), ← h5]
  simp
theorem heap_sorted5 {w : World} {g n : Nat} {os : Array Obj} {cur : Array Value} {e : TypeId} {fr : Nat × Nat} (d : Array Value) (hb : w.heap[g]? = some (.cells cur e fr)) :
    (Sort.grow (Sort.putRow id (Sort.ahead w n) g 0 d) os).heap[g]? = some (.cells (Sort.putCells id 0 d cur) e fr) := by
  have hg : g < w.heap.size := (Array.getElem?_eq_some_iff.1 hb).1
  rw [Sort.heap_grow_old _ _ (by simpa [Sort.putRow, Sort.mapBlock, Sort.ahead] using hg)]
  simp [Sort.putRow, Sort.mapBlock, Sort.ahead, Array.getElem?_modify, hb, Sort.onCells]
theorem below_sorted5 {w : World} {g n B : Nat} {os : Array Obj} (d : Array Value) (hg : B ≤ g) (hB : B ≤ w.heap.size) : Below B w (Sort.grow (Sort.putRow id (Sort.ahead w n) g 0 d) os) := by
  refine ⟨rfl, rfl, rfl, by simp [Sort.putRow, Sort.mapBlock, Sort.ahead], fun k hk => ?_⟩
  rw [Sort.heap_grow_old _ _ (by simp [Sort.putRow, Sort.mapBlock, Sort.ahead]; omega)]
  have : g ≠ k := by omega
  simp [Sort.putRow, Sort.mapBlock, Sort.ahead, Array.getElem?_modify, this]
theorem take_put5 (cur : Array Value) (vs : List Value) (h : vs.length ≤ cur.size) : (Sort.putCells id 0 vs.toArray cur).toList.take vs.length = vs := by
  apply List.ext_getElem?
  intro j
  by_cases hj : j < vs.length
  · rw [List.getElem?_take_of_lt hj, Array.getElem?_toList]
    simp [Sort.putCells, hj, show j < cur.size by omega]
  · rw [List.getElem?_take_eq_none (by omega), List.getElem?_eq_none (by omega)]
theorem enc5_len (x : Fnd) : (enc5 x).length = 5 := rfl
theorem enc5_one (x : Fnd) : ∀ v ∈ enc5 x, v.oneCell' = true := fun v hv => by simp [enc5] at hv; rcases hv with rfl | rfl | rfl | rfl | rfl <;> rfl
/-- a row of one's own, as the library's contracts ask for it -/
theorem own_row {w0 w : World} {g n c : Nat} {l : List Fnd} (h : OwnF w0 w (some ⟨g, 0, none⟩) n c l) : RowK enc5 5 w g 0 l.toArray ∧ w0.heap.size ≤ g := by
  obtain ⟨h1, h2⟩ := h
  rcases h2 with ⟨e, _⟩ | ⟨g', cap, cur, e, hg, hh, hn, hcap, hcs, htk⟩
  · cases e
  · cases e
    have hlt : g < w.heap.size := (Array.getElem?_eq_some_iff.1 hh).1
    refine ⟨⟨enc5_len, enc5_one, ?_, hlt⟩, hg⟩
    intro j hj
    rw [flatK5] at hj ⊢
    have hj' : j < (flat5 l).length := by simpa using hj
    refine ⟨?_, by simp [World.frozen?, hh]⟩
    rw [Nat.zero_add, Ge.cell_of hh]
    have e2 : (cur.toList.take (n * 5))[j]? = (flat5 l)[j]? := by rw [htk]
    rw [List.getElem?_take, if_pos (by rw [← h1]; exact hj'), Array.getElem?_toList] at e2
    rw [e2, List.getElem?_eq_getElem hj', getElem!_pos (flat5 l).toArray j (by simpa using hj')]
    simp
theorem swk_below {w W : World} {g B : Nat} {d : Array Fnd} (h : SWK enc5 5 w g 0 d W) (hg : B ≤ g) (hB : B ≤ w.heap.size) : Below B w W := by
  obtain ⟨n, os, rfl⟩ := h
  exact below_sorted5 _ hg hB
/-- behind the sort -/
theorem swk_own {w0 w W : World} {g n c : Nat} {l : List Fnd} {d : Array Fnd} (h : OwnF w0 w (some ⟨g, 0, none⟩) n c l) (hz : d.size = l.length) (hs : SWK enc5 5 w g 0 d W) : OwnF w0 W (some ⟨g, 0, none⟩) n c d.toList := by
  obtain ⟨h1, h2⟩ := h
  rcases h2 with ⟨e, _⟩ | ⟨g', cap, cur, e, hg, hh, hn, hcap, hcs, htk⟩
  · cases e
  · cases e
    obtain ⟨m, os, rfl⟩ := hs
    rw [flat5_len] at h1
    have hl : d.toList.length = n := by rw [Array.length_toList]; omega
    refine ⟨by rw [flat5_len, hl], Or.inr ⟨g, _, _, rfl, hg, heap_sorted5 _ hh, hn, hcap, by simp [Sort.putCells, hcs], ?_⟩⟩
    have e5 : Sort.flatK enc5 5 d = (flat5 d.toList).toArray := by rw [← flatK5]
    rw [e5, ← hl, ← flat5_len]
    exact take_put5 cur _ (by rw [flat5_len, hl, hcs]; omega)
theorem OwnF.shape {w0 w : World} {A : Option Addr} {n c : Nat} {l : List Fnd} (h : OwnF w0 w A n c l) : (A = none ∧ n = 0 ∧ c = 0 ∧ l = []) ∨ ∃ g, A = some ⟨g, 0, none⟩ := by
  obtain ⟨h1, h2⟩ := h
  rcases h2 with ⟨e, h0⟩ | ⟨g, cap, cur, e, _⟩
  · cases e
    exact Or.inl ⟨rfl, h0, rfl, List.eq_nil_of_length_eq_zero (by rw [flat5_len] at h1; omega)⟩
  · cases e; exact Or.inr ⟨g, rfl⟩
set_option maxHeartbeats 1000000 in
theorem insert_none (w : World) (g : Nat) : Calls Tryz.prog 68 #[.slice none 0 0, .int .i64 0, .int .i64 0, .func (.func g) #[] #[]] w fun e w' => e = .returned (.tuple #[]) ∧ w = w' := by
  go_enter Tryz.func68, Tryz.ntmps68
  go_wp2_with fail
  refine wp_loop_rounds 1 ?_
  rw [rounds_succ]
  go_wp2_with fail
  go_end0
  exact ⟨rfl, rfl⟩
set_option maxHeartbeats 1000000 in
theorem stable_none (w : World) (g : Nat) : Calls Tryz.prog 43 #[.slice none 0 0, .int .i64 0, .func (.func g) #[] #[]] w fun e w' => e = .returned (.tuple #[]) ∧ w = w' := by
  have hi := Lib.hid (insert_none w g)
  go_enter Tryz.func43, Tryz.ntmps43
  go_wp2_with fail
  refine wp_loop_rounds 1 ?_
  rw [rounds_succ]
  go_wp2_with (go_at_call 68; (with_reducible refine hi.out.mono ?_); rintro e w1 ⟨rfl, rfl⟩)
  refine wp_loop_rounds 1 ?_
  rw [rounds_succ]
  go_wp2_with fail
  go_end0
  exact ⟨rfl, rfl⟩
set_option maxHeartbeats 1000000 in
theorem stab_none (w : World) (g : Nat) : Calls Tryz.prog 24 #[.slice none 0 0, .func (.func g) #[] #[]] w fun e w' => e = .returned (.tuple #[]) ∧ w = w' := by
  have hi := Lib.hid (stable_none w g)
  go_enter Tryz.func24, Tryz.ntmps24
  go_wp2_with (go_at_call 43; (with_reducible refine hi.out.mono ?_); rintro e w1 ⟨rfl, rfl⟩)
  go_end0
  exact ⟨rfl, rfl⟩
set_option maxHeartbeats 2000000 in
theorem stab_any {w0 w : World} {A : Option Addr} {n c : Nat} {l : List Fnd} (h : OwnF w0 w A n c l) (hl : n ≤ 1000000) (hB : w0.heap.size ≤ w.heap.size) :
    Calls Tryz.prog 24 #[.slice A n c, .func (.func 25) #[] #[]] w fun e w' => e = .returned (.tuple #[]) ∧ ∃ d : Array Fnd, PermIn 0 n l.toArray d ∧ SortedIn (ltOf latI) 0 n d ∧ OwnF w0 w' A n c d.toList ∧ Below w0.heap.size w w' := by
  rcases OwnF.shape h with ⟨rfl, rfl, rfl, rfl⟩ | ⟨g, rfl⟩
  · exact (stab_none w 25).mono fun e w' ⟨he, hw⟩ => ⟨he, #[], permIn_refl _ _ _, fun i j _ _ hj => absurd hj (by omega), by rw [← hw]; exact OwnF.nil _ _, by rw [hw]; exact Below.refl _ _⟩
  · obtain ⟨R, hg⟩ := own_row h
    have hn := OwnF.len h
    have eg : ∀ args w, (callFunc 25 args).run Tryz.prog w = .ok (.enter 25 args) w := enters_of Tryz.func25 (by kernel_rfl) rfl
    have hs : l.toArray.size = n := by simpa using hn
    have hcon := stable_any (P := Tryz.prog) pg Tryz.stF Tryz.func43 5 Tryz.isAgg29 Tryz.sizeOf29 enc5 latI 25 #[] swoL g 0 c l.toArray w eg (fun _ _ _ _ x y => later_any x y _) R n hs (by omega)
    replace hcon := Lib.hid hcon
    have H := Lib.hid h
    have hz := Lib.hid hn
    clear h R hs hn eg
    go_enter Tryz.func24, Tryz.ntmps24
    go_wp2_with (go_at_call 43; (with_reducible refine hcon.out.mono ?_); rintro e w1 ⟨rfl, hq⟩)
    go_end0
    obtain ⟨d, h1, h2, h3⟩ := hq
    exact ⟨rfl, d, h1, h2, swk_own H.out (by have := h1.1; simpa using this) h3, swk_below h3 hg hB⟩
end Go.Proofs.YtjhoecfhmndcgaaGreat.So
namespace Go.Proofs.YtjhoecfhmndcgaaGreat.So
open Go.RowKit Go.Sort Go.Proofs.YtjhoecfhmndcgaaGreat.Sc
set_option linter.unusedVariables false
set_option linter.unusedSimpArgs false
theorem rows5 {w : World} {B : Nat} {a : Addr} {l : List Fnd} (h : FS w B (some a) l) : ∀ (j : Nat) (u : Value), (flat5 l)[j]? = some u → w.cell? (a.add j) = some u := by
  intro j u hu
  have hj : j < l.length * 5 := by
    rcases Nat.lt_or_ge j (l.length * 5) with h | h
    · exact h
    · rw [List.getElem?_eq_none (by rw [flat5_len]; exact h)] at hu; cases hu
  rcases h with e | ⟨a', e, _, hc⟩
  · rw [e] at hj; simp at hj
  · injection e with e
    subst e
    have h5 := flat5_at l (j / 5) (by omega) (j % 5) (Nat.mod_lt _ (by decide))
    have hx := hc (j / 5) (by omega) (j % 5) (Nat.mod_lt _ (by decide))
    rw [show j / 5 * 5 + j % 5 = j by omega] at h5 hx
    rw [hx, ← h5, hu]
set_option maxHeartbeats 1000000 in
/-- a copy: a row of one's own -/
theorem clone_any {w : World} {A : Option Addr} {c n : Nat} {l : List Fnd} (h : FS w w.heap.size A l) (hn : l.length = n) (hs : n ≤ 1000000) :
    Calls Tryz.prog 23 #[.slice A n c] w fun e w' => ∃ A' c', e = .returned (.slice A' n c') ∧ Below w.heap.size w w' ∧ OwnF w w' A' n c' l := by
  have q32 : ∀ (w : World) (a : Option Addr) (n c n' c' : Nat), (binOp .eql 24 (.slice a n c) (.slice none n' c')).run Tryz.prog w = .ok (.bool a.isNone) w := fun w a n c n' c' => Lib.run_eql_slice_nil w 24 29 a n c n' c' Tryz.underlying24
  cases A with
  | none =>
    obtain rfl : l = [] := by
      rcases h with e | ⟨a, e, _⟩
      · exact e
      · cases e
    obtain rfl : n = 0 := hn.symm
    clear h
    go_enter Tryz.func23, Tryz.ntmps23
    go_wp2_with fail
    go_ret
    exact ⟨none, 0, rfl, Below.refl _ _, OwnF.nil _ _⟩
  | some a =>
    have hA1 := We.below_alloc w (.cells #[] 29)
    have hcell := Lib.hid (rows5 (h.below hA1))
    have hi0 := infoF
    obtain ⟨i, hi, hrest⟩ := Option.map_eq_some_iff.1 hi0
    simp only [Prod.mk.injEq] at hrest
    obtain ⟨i1, i2, i3⟩ := hrest
    have hown : (w.alloc (.cells #[] 29)).ownsRow w.heap.size 29 5 (.slice (some ⟨w.heap.size, 0, none⟩) 0 0) 0 [] :=
      ⟨rfl, Or.inr ⟨w.heap.size, 0, #[], rfl, Nat.le_refl _, heap_alloc_new w _, Nat.le_refl _, Nat.zero_le _, rfl, rfl⟩⟩
    replace hown := Lib.hid hown
    replace hA1 := Lib.hid hA1
    have hv1 := Lib.hid (flat5_one l)
    have hvl := Lib.hid (flat5_len l)
    replace hn := Lib.hid hn
    clear hi0 h
    go_enter Tryz.func23, Tryz.ntmps23
    go_wp2_with (first
      | (refine wpList_append_own_at _ rfl (.tmp 5) (.tmp 6) 24 rfl w.heap.size 29 i (.agg #[.int .i64 0, .int .i64 0, .int .i64 0, .int .i64 0, .int .i64 0]) 5 40 Tryz.underlying24 hi i1 i2 i3 rfl (by decide) (.slice (some ⟨w.heap.size, 0, none⟩) 0 0) 0 [] rfl hown.out a n c (flat5 l) rfl (by rw [hvl.out, hn.out]) hcell.out hv1.out (by unfold maxLen; omega) (by omega) (hA1.out.size) ?_))
    intro v' w' h1 h2 _ _
    have hsh : ∃ A' c', v' = .slice A' n c' := by
      rcases h1.2 with ⟨e, h0⟩ | ⟨g', cap, cur, e', _⟩
      · have h0 : n = 0 := by simpa using h0
        exact ⟨none, 0, by rw [e, h0]⟩
      · exact ⟨_, _, by simpa using e'⟩
    obtain ⟨A', c', rfl⟩ := hsh
    have h1' := Lib.hid h1
    have hb' := Lib.hid (hA1.out.grown h2 hA1.out.size (fun k hk => by simp [Value.ownBlock] at hk; omega))
    clear h1 h2
    go_wp2_with fail
    go_ret
    refine ⟨A', c', rfl, hb'.out, ?_⟩
    have h1 := h1'.out
    unfold OwnF
    simpa using h1
set_option maxHeartbeats 1000000 in
theorem comp_none (w : World) (g : Nat) : Calls Tryz.prog 26 #[.slice none 0 0, .func (.func g) #[] #[]] w fun e w' => e = .returned (.slice none 0 0) ∧ w = w' := by
  go_enter Tryz.func26, Tryz.ntmps26
  go_wp2_with fail
  go_ret
  exact ⟨rfl, rfl⟩
theorem fstG_fsts (F : Nat → Fnd) : ∀ n, fstG (fun x y => x.lp == y.lp) F n = fsts F n
  | 0 => rfl
  | n + 1 => by
    unfold fstG fsts
    rw [fstG_fsts F n]
    simp only [beq_eq_false_iff_ne]
/-- cells of what a row was made, behind the clearing of others too -/
theorem cells_of {w W w' : World} {g K : Nat} {l : List Fnd} {d : Array Fnd} (R : RowK enc5 5 w g 0 l.toArray) (hz : d.size = l.length) (hs : SWK enc5 5 w g 0 d W) (hK : K ≤ d.size) (hw : w' = W ∨ ∃ vs, w' = W.setCells g (0 + K * 5) vs) :
    ∀ i, i < K → ∀ j, j < 5 → w'.cell? ⟨g, i * 5 + j, none⟩ = some (fC (vw d i) j) := by
  intro i hi j hj
  have e1 : W.cell? ⟨g, i * 5 + j, none⟩ = some (fC (vw d i) j) := by
    have hh := hs.holds R.hblk R.hH (by simpa using hz)
    have h1 := (hh (i * 5 + j) (by rw [size_flatK]; omega)).1
    rw [Nat.zero_add, get_flatK _ _ _ _ (by omega)] at h1
    rw [h1, show (i * 5 + j) / 5 = i by omega, show (i * 5 + j) % 5 = j by omega]
    show some ((enc5 d[i]!)[j]!) = _
    rw [enc5_at _ _ hj]; rfl
  rcases hw with rfl | ⟨vs, rfl⟩
  · exact e1
  · rw [World.cell?_setCells_out g vs (0 + K * 5) W ⟨g, i * 5 + j, none⟩ (fun _ _ => Or.inl (by show i * 5 + j < 0 + K * 5; omega))]
    exact e1
theorem below_setCells {w W : World} {g B s : Nat} {vs : List Value} (h : Below B w W) (hg : B ≤ g) : Below B w (W.setCells g s vs) := by
  induction vs generalizing W s with
  | nil => exact h
  | cons v r ih =>
    rw [World.setCells]
    exact ih (h.setCell hg _)
set_option maxHeartbeats 2000000 in
theorem compact_any {w0 w : World} {A : Option Addr} {n c : Nat} {l : List Fnd} (h : OwnF w0 w A n c l) (hl : n ≤ 1000000) (hB : w0.heap.size ≤ w.heap.size) :
    Calls Tryz.prog 26 #[.slice A n c, .func (.func 27) #[] #[]] w fun e w' => ∃ A' c' m, e = .returned (.slice A' m.length c') ∧ m = fsts (fA l) n ∧ FS w' w'.heap.size A' m ∧ Below w0.heap.size w w' := by
  rcases OwnF.shape h with ⟨rfl, rfl, rfl, rfl⟩ | ⟨g, rfl⟩
  · exact (comp_none w 27).mono fun e w' ⟨he, hw⟩ => ⟨none, 0, [], he, rfl, FS.nil _ _ _, by rw [hw]; exact Below.refl _ _⟩
  · obtain ⟨R, hg⟩ := own_row h
    have hn := OwnF.len h
    have hcap := OwnF.cap h
    have eg : ∀ args w, (callFunc 27 args).run Tryz.prog w = .ok (.enter 27 args) w := enters_of Tryz.func27 (by kernel_rfl) rfl
    have hs : l.toArray.size = n := by simpa using hn
    have hcon := comp_any (P := Tryz.prog) pb 5 Tryz.isAgg29 Tryz.sizeOf29 _ Tryz.zeroValue29 rfl (by simp [Value.cells, Value.oneCell']) enc5 (fun x y => x.lp == y.lp) 27 #[] g 0 c l.toArray w eg (fun _ _ _ _ x y => same_lpn x y _) R (by omega) (by omega)
    rw [hs] at hcon
    refine hcon.mono ?_
    rintro e w' ⟨K, rfl, d', hz, W, hS, hlen, hK, hgot, hw⟩
    have hagree : ∀ t, t < n → vw l.toArray t = fA l t := fun t ht => fA_arr l t (by omega)
    have hfs : ∀ m, m ≤ n → fsts (vw l.toArray) m = fsts (fA l) m := fun m => by
      induction m with
      | zero => intro _; rfl
      | succ m ih =>
        intro hm
        unfold fsts
        rw [ih (by omega), hagree m (by omega), hagree (m - 1) (by omega)]
    rw [fstG_fsts, hfs n (Nat.le_refl _)] at hlen
    rw [fstG_fsts, hfs n (Nat.le_refl _)] at hgot
    have hBW := swk_below hS hg hB
    have hBw : Below w0.heap.size w w' := by
      rcases hw with rfl | ⟨vs, rfl⟩
      · exact hBW
      · exact below_setCells hBW hg
    have hcl := cells_of R (by rw [hz, hn]) hS (by rw [hz]; omega) hw
    refine ⟨some ⟨g, 0, none⟩, c, fsts (fA l) n, by rw [hlen], rfl, Or.inr ⟨_, rfl, Nat.lt_of_lt_of_le R.hblk hBw.size, fun i hi j hj => ?_⟩, hBw⟩
    have e : ∀ k, (⟨g, 0, none⟩ : Addr).add k = ⟨g, k, none⟩ := fun k => by unfold Addr.add; split <;> simp_all
    rw [e, hcl i (by omega) j hj]
    have h5 := hgot i (by omega)
    rw [List.getElem?_eq_getElem (by omega)] at h5
    injection h5 with h5
    rw [fA_get hi, h5]
set_option maxHeartbeats 2000000 in
theorem latest_any {w : World} {A : Option Addr} {l : List Fnd} {n c : Nat} (h : FS w w.heap.size A l) (hn : l.length = n) (hs : n ≤ 1000000) :
    Calls Tryz.prog 9 #[.slice A n c] w fun e w' => ∃ A' c' m, e = .returned (.slice A' m.length c') ∧ Below w.heap.size w w' ∧ LatIs l m ∧ FS w' w'.heap.size A' m ∧ m.length ≤ n := by
  have hc := Lib.hid (clone_any (c := c) h hn hs)
  replace hn := Lib.hid hn
  clear h
  go_enter Tryz.func9, Tryz.ntmps9
  go_wp2_with (go_at_call 23; (with_reducible refine hc.out.mono ?_); clear hc; rintro e w1 ⟨A1, c1, rfl, hb1, ho1⟩; have hc2 := Lib.hid (stab_any ho1 hs hb1.size); replace hb1 := Lib.hid hb1; clear ho1)
  go_wp2_with (go_at_call 24; (with_reducible refine hc2.out.mono ?_); clear hc2; rintro e w2 ⟨rfl, d, hp, hq, ho2, hb2⟩; replace hb2 := Lib.hid (hb1.out.trans hb2); clear hb1; have hc3 := Lib.hid (compact_any ho2 hs hb2.out.size); replace hp := Lib.hid hp; replace hq := Lib.hid hq; clear ho2)
  go_wp2_with (go_at_call 26; (with_reducible refine hc3.out.mono ?_); clear hc3; rintro e w3 ⟨A3, c3, m, rfl, hm, hf, hb3⟩; replace hb3 := Lib.hid (hb2.out.trans hb3); clear hb2; replace hm := Lib.hid hm; replace hf := Lib.hid hf)
  go_ret
  have hz : d.size = n := by have := hp.out.1; have e := hn.out; simpa [e] using this
  have hfs : ∀ k, k ≤ n → fsts (fA d.toList) k = fsts (vw d) k := fun k => by
    have ha : ∀ t, t < n → fA d.toList t = vw d t := fun t ht => by
      have := fA_arr d.toList t (by rw [Array.length_toList]; omega)
      rw [← this]; rfl
    induction k with
    | zero => intro _; rfl
    | succ k ih =>
      intro hk
      unfold fsts
      rw [ih (by omega), ha k (by omega), ha (k - 1) (by omega)]
  have hm' := hm.out
  rw [hfs n (Nat.le_refl _)] at hm'
  exact ⟨A3, c3, m, rfl, hb3.out, by rw [hm']; exact lat_of hn.out hp.out hq.out, hf.out, by rw [hm']; exact fsts_len _ _⟩
/-- the greatest of the first i + 1 -/
def gr (l : List Fnd) : Nat → Int
  | 0 => (fA l 0).sq
  | i + 1 => max (gr l i) (fA l i).sq
theorem gr_take (l : List Fnd) (h0 : ∀ x ∈ l, 0 ≤ x.sq) (hl : l ≠ []) : ∀ i, 0 < i → i ≤ l.length → gr l i = gtL (l.take i)
  | 0, h, _ => absurd h (by omega)
  | 1, _, hi => by
    have e : l.take 1 = [] ++ [fA l 0] := by
      cases l with
      | nil => exact absurd rfl hl
      | cons x xs => rfl
    have hp : 0 ≤ (fA l 0).sq := h0 _ (fA_mem hi)
    rw [e, gtL_app]
    show max (fA l 0).sq (fA l 0).sq = max (-1) (fA l 0).sq
    omega
  | i + 2, _, hi => by
    have ih := gr_take l h0 hl (i + 1) (by omega) (by omega)
    have e : l.take (i + 2) = l.take (i + 1) ++ [fA l (i + 1)] := by
      rw [List.take_add_one, List.getElem?_eq_getElem (by omega), fA_get (by omega)]; rfl
    rw [e, gtL_app, ← ih]
    rfl
set_option maxHeartbeats 2000000 in
theorem greatest_any {w : World} {A : Option Addr} {l : List Fnd} {n c : Nat} (h : FS w w.heap.size A l) (hn : l.length = n) (hs : n ≤ 1000000) (h0 : ∀ x ∈ l, 0 ≤ x.sq) :
    Calls Tryz.prog 10 #[.slice A n c] w (We.Ans w (.int .i64 (gtL l))) := by
  by_cases hz : n = 0
  · obtain rfl : l = [] := List.eq_nil_of_length_eq_zero (by omega)
    subst hz
    have e : gtL [] = -1 := rfl
    rw [e]
    clear h
    go_enter Tryz.func10, Tryz.ntmps10
    go_wp2_with fail
    go_ret
    exact ⟨rfl, Below.refl _ _⟩
  · have hne : l ≠ [] := fun e => hz (by rw [← hn, e]; rfl)
    obtain ⟨X, hX⟩ : ∃ X, gtL l = X := ⟨_, rfl⟩
    have HG := Lib.hid (gr_take l h0 hne)
    have hzI : ((n : Int) == 0) = false := by simp; omega
    have H := Lib.hid h
    have HN := Lib.hid hn
    have HX : Hid (gr l n = X) := by
      show _ = _
      rw [HG.out n (by omega) (by omega), ← hX, ← hn, List.take_length]
    rw [hX]
    obtain ⟨a, rfl, hab, c0, c1, c2, c3, c4⟩ := h.at_ (i := 0) (by omega)
    rw [Nat.zero_mul, We.add_zero'] at c0 c1 c2 c3 c4
    obtain ⟨V, hV⟩ : ∃ V, Hid ((fA l 0).sq = V) := ⟨_, Lib.hid rfl⟩
    rw [hV.out] at c3
    clear h h0 hn hX c0 c1 c2 c4 hne HG
    go_enter Tryz.func10, Tryz.ntmps10
    go_wp2_with fail
    go_loopw [3, 16] (fun p q wr => ∃ i : Nat, p = .int .i64 (gr l i) ∧ q = .int .i64 (i : Int) ∧ i ≤ n ∧ Hid (Below w.heap.size w wr)) (fun _ q _ => n - (intOf q).toNat)
    case atStart => exact ⟨0, by rw [← hV.out]; rfl, rfl, Nat.zero_le _, Lib.hid (Below.refl _ _)⟩
    case round =>
      obtain ⟨i, rfl, rfl, hi, hB⟩ := hrel
      clear c3
      by_cases hlt : i < n
      · have hltI : (i : Int) < (n : Int) := by omega
        obtain ⟨a', ea, _, d0, d1, d2, d3, d4⟩ := (H.out.below hB.out).at_ (i := i) (by rw [HN.out]; exact hlt)
        injection ea with ea
        subst ea
        have hgi : Hid (gr l (i + 1) = max (gr l i) (fA l i).sq) := Lib.hid rfl
        have hi1 : wrap64 ((i : Int) + 1) = ((i + 1 : Nat) : Int) := by rw [IntWalk.wrap64_in _ (by omega)]; omega
        generalize fA l i = Y at *
        generalize gr l i = G at *
        go_wp2_with fail
        go_roundw
        case rel => exact ⟨i + 1, by rw [hgi.out], by first | rw [hi1] | go_num, by omega, Lib.hid (hB.out.alloc (hB.out.size) _)⟩
        case measure => (try rw [hi1]); simp [intOf]; omega
      · have hltI : ¬ (i : Int) < (n : Int) := by omega
        obtain rfl : i = n := by omega
        go_wp2_with fail
        go_ret
        exact ⟨by rw [HX.out]; rfl, hB.out⟩
end Go.Proofs.YtjhoecfhmndcgaaGreat.So
namespace Go.Proofs.YtjhoecfhmndcgaaGreat.So
open Go.RowKit Go.Sort Go.Gf Go.Fl Go.Proofs.YtjhoecfhmndcgaaGreat.Sc
set_option linter.unusedVariables false
set_option linter.unusedSimpArgs false
set_option maxRecDepth 20000
/-- block g is just these cells -/
def Bx (w : World) (T : TypeId) (g : Nat) (cs : Array Value) : Prop := w.heap[g]? = some (.cells cs T (0, 0))
section
variable {w w' : World} {T : TypeId} {g : Nat} {cs : Array Value}
theorem Bx.lt (h : Bx w T g cs) : g < w.heap.size := (Array.getElem?_eq_some_iff.1 h).1
theorem Bx.cell (h : Bx w T g cs) (i : Nat) : w.cell? ⟨g, i, none⟩ = cs[i]? := Ge.cell_of h i
theorem Bx.frozen (h : Bx w T g cs) (i : Nat) : w.frozen? ⟨g, i, none⟩ = false := by
  unfold World.frozen?
  rw [h]
  simp
theorem Bx.keep (h : Bx w T g cs) (hb : w'.heap[g]? = w.heap[g]?) : Bx w' T g cs := hb.trans h
theorem Bx.below (h : Bx w T g cs) (hb : Below w.heap.size w w') : Bx w' T g cs := h.keep (hb.block g h.lt)
theorem Bx.new (w : World) (T : TypeId) (cs : Array Value) : Bx (w.alloc (.cells cs T)) T w.heap.size cs := heap_alloc_new w _
theorem Bx.set_ (h : Bx w T g cs) (i : Nat) (v : Value) : Bx (w.setCell ⟨g, i, none⟩ v) T g (cs.setIfInBounds i v) := by
  unfold Bx at h ⊢
  simp only [World.setCell]
  rw [Array.getElem?_modify, if_pos rfl, h]
  rfl
end
theorem set_other {w : World} {g b i : Nat} (v : Value) (h : b ≠ g) : (w.setCell ⟨g, i, none⟩ v).heap[b]? = w.heap[b]? := by
  simp only [World.setCell]
  rw [Array.getElem?_modify, if_neg (fun e => h e.symm)]
theorem sizeGeo : (Tryz.prog.info? 34).map (·.size) = some 4 := by kernel_rfl
theorem sizeSight : (Tryz.prog.info? 54).map (·.size) = some 3 := by kernel_rfl
theorem results_geo {fn : Func} {t g : Nat} {w : World} {a b c d : Value} {tmps : Array Value} (h : fn.results = #[.cell t 34]) (hp : tmps.getD t undef = .pointer (some ⟨g, 0, none⟩)) (hm : Bx w 34 g #[a, b, c, d]) :
    (results fn tmps).run Tryz.prog w = .ok (.agg #[a, b, c, d]) w := results_cell_row h tmps w g _ _ _ _ hp hm Tryz.underlying34 rfl sizeGeo
theorem results_sight {fn : Func} {t u g : Nat} {w : World} {a b c : Value} {tmps : Array Value} (h : fn.results = #[.cell t 54, .tmp u]) (hp : tmps.getD t undef = .pointer (some ⟨g, 0, none⟩)) (hm : Bx w 54 g #[a, b, c]) :
    (results fn tmps).run Tryz.prog w = .ok (.tuple #[.agg #[a, b, c], tmps.getD u undef]) w := by
  rw [results_cell_tmp h, hp]
  simp only [asAddr, Sem.run_pure, Result.andThen_ok]
  rw [run_loadVar_row w g 54 54 #[a, b, c] (0, 0) _ hm Tryz.underlying54 rfl sizeSight]
  rfl
set_option maxHeartbeats 1000000 in
theorem geo_any {w : World} {F : Nat → Prop} {a : Addr} {M : Dev} (h : Chip w F a M) : Calls Tryz.prog 39 #[.pointer (some a)] w (We.Ans w (.agg #[.int .i64 (M.B : Int), .int .i64 (M.P : Int), .int .i64 (M.W : Int), .int .i64 (M.K : Int)])) := by
  obtain ⟨L, rfl, o, h⟩ := h
  have hbw := We.below_alloc w (.cells #[.int .i64 0, .int .i64 0, .int .i64 0, .int .i64 0] 34)
  have g0 : (w.alloc (.cells #[.int .i64 0, .int .i64 0, .int .i64 0, .int .i64 0] 34)).cell? ⟨L.g, 0, none⟩ = some (.int .i64 (M.B : Int)) := by rw [hbw.cell (show (⟨L.g, 0, none⟩ : Addr).block < _ from h.gl)]; exact h.g0
  have g1 : (w.alloc (.cells #[.int .i64 0, .int .i64 0, .int .i64 0, .int .i64 0] 34)).cell? ⟨L.g, 1, none⟩ = some (.int .i64 (M.P : Int)) := by rw [hbw.cell (show (⟨L.g, 1, none⟩ : Addr).block < _ from h.gl)]; exact h.g1
  have g2 : (w.alloc (.cells #[.int .i64 0, .int .i64 0, .int .i64 0, .int .i64 0] 34)).cell? ⟨L.g, 2, none⟩ = some (.int .i64 (M.W : Int)) := by rw [hbw.cell (show (⟨L.g, 2, none⟩ : Addr).block < _ from h.gl)]; exact h.g2
  have g3 : (w.alloc (.cells #[.int .i64 0, .int .i64 0, .int .i64 0, .int .i64 0] 34)).cell? ⟨L.g, 3, none⟩ = some (.int .i64 (M.K : Int)) := by rw [hbw.cell (show (⟨L.g, 3, none⟩ : Addr).block < _ from h.gl)]; exact h.g3
  clear hbw h
  go_enter Tryz.func39, Tryz.ntmps39
  go_wp2_with fail
  exact bodyPost_ret (results_geo rfl rfl (Bx.new _ _ _)) rfl ⟨rfl, We.below_alloc _ _⟩
set_option maxHeartbeats 1000000 in
theorem geo_nil (w : World) : Calls Tryz.prog 39 #[.pointer none] w (We.Ans w (.agg #[.int .i64 0, .int .i64 0, .int .i64 0, .int .i64 0])) := by
  go_enter Tryz.func39, Tryz.ntmps39
  go_wp2_with fail
  exact bodyPost_ret (results_geo rfl rfl (Bx.new _ _ _)) rfl ⟨rfl, We.below_alloc _ _⟩
set_option maxHeartbeats 1000000 in
theorem oper_nil (w : World) (k b p : Int) : Calls Tryz.prog 37 #[.pointer none, .agg #[.int .i64 k, .int .i64 b, .int .i64 p, .slice none 0 0]] w (We.Ans w (.int .i64 1)) := by
  go_enter Tryz.func37, Tryz.ntmps37
  go_wp2_with fail
  refine scope_fwd 0 rfl ?_
  go_wp2_with fail
  go_ret
  exact ⟨rfl, ((Below.refl _ _).alloc (Nat.le_refl _) _).alloc (by rw [World.size_alloc]; omega) _⟩
set_option maxHeartbeats 1000000 in
theorem sense_nil (w : World) (b p : Int) : Calls Tryz.prog 40 #[.pointer none, .int .i64 b, .int .i64 p] w (We.Ans w (.tuple #[.slice none 0 0, .int .i64 1])) := by
  have ho := fun w => Lib.hid (oper_nil w 1 b p)
  go_enter Tryz.func40, Tryz.ntmps40
  go_wp2_with (go_at_call 37; (with_reducible refine (ho _).out.mono ?_); rintro e w1 ⟨rfl, hb1⟩)
  go_ret2
  exact ⟨rfl, hb1⟩
/-- what Read answers of a page of that kind -/
def RdK : Kd → Int → Int → Int → Int → Int → Prop
  | .blank, _, _, _, _, er => er = 13
  | .torn, _, _, _, _, er => er ≠ 0 ∧ er ≠ 13
  | .said k' l' q' n', k, l, q, n, er => er = 0 ∧ k = k' ∧ l = l' ∧ q = q' ∧ n = n'
theorem rd_not13 {B P W K : Int} {xs : List (Nat × Nat)} {ss : List Nat} (hbk : blkB xs = false) {k l q n er : Nat} {d : List Nat} (h : RdS B P W K xs ss k l q n d er) : er ≠ 13 := by
  cases h with
  | arg h => decide
  | size _ h2 => decide
  | none _ _ h3 => rw [hbk] at h3; cases h3
  | data _ _ h3 => decide
  | form _ _ h3 => decide
  | ok _ _ h3 => decide
theorem pg_read {cs : List Nat} (hcs : Tab cs) {B P W K : Nat} (hM : Ge.mayG (B : Int) (P : Int) (W : Int) (K : Int) = true) {w : World} {g n c : Nat} {ps : List (Int × Int)} {κ : Kd} (hn : ps.length = n) (hW : n = W * (K + 16)) (hg : g < w.heap.size) (hl : n ≤ 1000000) (hp : ∀ i, i < ps.length → IsP w ⟨g, i, none⟩ (ptAt ps i)) (hκ : KdIs (B : Int) (P : Int) (W : Int) (K : Int) ps κ) :
    Calls Tryz.prog 41 #[.agg (cells cs), .agg #[.int .i64 (B : Int), .int .i64 (P : Int), .int .i64 (W : Int), .int .i64 (K : Int)], .slice (some ⟨g, 0, none⟩) n c] w fun e w' => ∃ k l q m er : Int, ∃ A' z c', e = .returned (.tuple #[.agg #[.int .i64 k, .int .i64 l, .int .i64 q], .slice A' z c', .int .i64 m, .int .i64 er]) ∧ Below w.heap.size w w' ∧ RdK κ k l q m er := by
  have hex : ∀ i, ∃ z : Nat × Nat, i < ps.length → w.cell? ⟨g, i, none⟩ = some (.complex .f64 z.1 z.2) ∧ Is z.1 ((ptAt ps i).1 : Rat) ∧ Is z.2 ((ptAt ps i).2 : Rat) := fun i => by
    rcases Nat.lt_or_ge i ps.length with h | h
    · obtain ⟨x, y, h1, h2, h3⟩ := hp i h
      exact ⟨(x, y), fun _ => ⟨h1, h2, h3⟩⟩
    · exact ⟨(0, 0), fun h' => absurd h' (by omega)⟩
  obtain ⟨f, hf⟩ := Classical.skolem.1 hex
  obtain ⟨xs, hxs⟩ : ∃ xs, xs = (List.range n).map f := ⟨_, rfl⟩
  have hxl : xs.length = n := by rw [hxs]; simp
  have hxa : ∀ i, i < n → xA xs i = f i := fun i hi => by
    rw [xA_get (by rw [hxl]; exact hi)]
    subst hxs
    simp
  have hrep : RepX ps xs := ⟨by rw [hxl, hn], fun i hi => by rw [hxa i (by omega)]; exact (hf i hi).2⟩
  have hcx : Cx w w.heap.size (some ⟨g, 0, none⟩) xs := Or.inr ⟨_, rfl, hg, fun i hi => by
    have hi' : i < n := by rw [← hxl]; exact hi
    have e : (⟨g, 0, none⟩ : Addr).add i = ⟨g, i, none⟩ := by unfold Addr.add; split <;> simp_all
    rw [e, (hf i (by omega)).1, ← xA_get hi, hxa i hi']
    rfl⟩
  have hfin : Fin ps := by cases κ <;> exact hκ.1
  have h := read_any hcs (B := (B : Int)) (P := (P : Int)) (W := (W : Int)) (K := (K : Int)) (c := c) hcx (by omega) (ss := ssOf ps) (by rw [ssOf_len, hxl, hn]) (rep_slc hrep hfin) (ssOf_lt ps)
  rw [hxl] at h
  refine h.mono ?_
  rintro e w' ⟨k, l, q, m, d, er, hR, A, c', rfl, _, _, hb⟩
  refine ⟨k, l, q, m, er, A, d.length, c', rfl, hb, ?_⟩
  cases κ with
  | blank =>
    have := rd_none hM (by rw [hxl, hW]) ((rep_blk hrep).2 hκ.2) hR
    subst this; rfl
  | torn =>
    obtain ⟨_, ⟨i, hi, hne⟩, h3⟩ := hκ
    have h1 := h3 xs hrep k l q m d er hR
    have hbk : blkB xs = false := by
      rw [Bool.eq_false_iff]
      exact fun e => hne ((rep_blk hrep).1 e i hi)
    have h2 := rd_not13 hbk hR
    exact ⟨by omega, by omega⟩
  | said k' l' q' n' =>
    obtain ⟨_, _, h3⟩ := hκ
    obtain ⟨rfl, rfl, rfl, rfl, rfl⟩ := h3 xs hrep k l q m d er hR
    exact ⟨rfl, rfl, rfl, rfl, rfl⟩
/-- append of one, which lies in a block of its own: all others stay -/
theorem app_fnd2 {w0 w : World} {ops : Array Oper} {rest : List Oper} {o : Oper} {a : Act} {Q : Exit → Act → World → Prop} (hgd : o.guard = none) (s x : Operand)
    (ho : o.op = .call { callee := .builtin .append, args := #[s, x], argTypes := #[24, 24] }) (A : Option Addr) (n c : Nat) (l : List Fnd) (hs : a.eval s = .slice A n c) (hown : OwnF w0 w A n c l) (hb : w0.heap.size ≤ w.heap.size)
    (g : Nat) (hx : a.eval x = .slice (some ⟨g, 0, none⟩) 1 1) (y : Fnd) (hy : ∀ j, j < 5 → w.cell? ⟨g, j, none⟩ = some (fC y j)) (h63 : n ≤ 1000000)
    (h : ∀ A' c' w', OwnF w0 w' A' (n + 1) c' (l ++ [y]) → Cl.Keeps (fun b => ∀ a', A = some a' → b ≠ a'.block) w w' → (∀ a', A' = some a' → A = some a' ∨ w.heap.size ≤ a'.block) → wpList Tryz.prog ops Q rest (a.put o.dst (.slice A' (n + 1) c')) w') :
    wpList Tryz.prog ops Q (o :: rest) a w := by
  have hi0 := infoF
  obtain ⟨i, hi, hrest⟩ := Option.map_eq_some_iff.1 hi0
  simp only [Prod.mk.injEq] at hrest
  obtain ⟨i1, i2, i3⟩ := hrest
  refine wpList_append_own_at w hgd s x 24 ho w0.heap.size 29 i (.agg #[.int .i64 0, .int .i64 0, .int .i64 0, .int .i64 0, .int .i64 0]) 5 40 Tryz.underlying24 hi i1 i2 i3 rfl (by decide) (.slice A n c) n (flat5 l) hs hown ⟨g, 0, none⟩ 1 1 (flat5 [y]) hx (by rw [flat5_len]; rfl) (fun j u hu => ?_) (flat5_one [y]) (by unfold maxLen; omega) (by omega) hb (fun v' w' h1 h2 h3 h4 => ?_)
  · have e : (⟨g, 0, none⟩ : Addr).add j = ⟨g, j, none⟩ := by unfold Addr.add; split <;> simp_all
    have hj : j < 5 := (List.getElem?_eq_some_iff.1 hu).1
    rw [e, hy j hj, ← hu]
    have := flat5_at [y] 0 (by simp) j hj
    rw [Nat.zero_mul, Nat.zero_add] at this
    rw [this]; rfl
  · have e : flat5 l ++ flat5 [y] = flat5 (l ++ [y]) := (flat5_app _ _).symm
    rw [e] at h1
    have hsh : ∃ A' c', v' = .slice A' (n + 1) c' := by
      rcases h1.2 with ⟨_, h0⟩ | ⟨g', cap, cur, e', _⟩
      · simp at h0
      · exact ⟨_, _, e'⟩
    obtain ⟨A', c', rfl⟩ := hsh
    have h1' : OwnF w0 w' A' (n + 1) c' (l ++ [y]) := h1
    refine h A' c' w' h1' ⟨h2.os, h2.tape, h2.output, h2.size, fun b hb1 hb2 => h2.block b hb1 (fun e => ?_)⟩ (fun a' ea => ?_)
    · rcases OwnF.shape hown with ⟨rfl, _⟩ | ⟨g0, rfl⟩
      · cases e
      · have : g0 = b := by simpa [Value.ownBlock] using e.symm
        exact hb2 _ rfl this.symm
    · subst ea
      rcases OwnF.shape h1' with ⟨e0, _⟩ | ⟨g1, e1⟩
      · cases e0
      · injection e1 with e1
        subst e1
        rcases h4 with h4 | h4
        · rcases OwnF.shape hown with ⟨rfl, _⟩ | ⟨g0, rfl⟩
          · cases h4
          · have : g1 = g0 := by simpa [Value.ownBlock] using h4
            exact Or.inl (by rw [this])
        · have : g1 = w.heap.size := by simpa [Value.ownBlock] using h4
          exact Or.inr (by rw [this]; exact Nat.le_refl _)
end Go.Proofs.YtjhoecfhmndcgaaGreat.So
namespace Go.Proofs.YtjhoecfhmndcgaaGreat.So
open Go.RowKit Go.Sort Go.Gf Go.Fl Go.Proofs.YtjhoecfhmndcgaaGreat.Sc
set_option linter.unusedVariables false
set_option linter.unusedSimpArgs false
set_option maxRecDepth 20000
section
variable {w0 w w' : World} {F : Nat → Prop} {a : Addr} {M : Dev}
theorem env_sub {F' : Nat → Prop} (h : Env w0 F a M w) (h1 : ∀ b, w.heap.size ≤ b → F' b) (h2 : ∀ b, F' b → w0.heap.size ≤ b) (h3 : ∀ b, b < w.heap.size → F b → F' b) : Env w0 F' a M w := by
  obtain ⟨L, e, hd⟩ := h.dev
  exact ⟨h.low, h1, h2, L, e, hd.only h3⟩
theorem env_keep (h : Env w0 F a M w) (hk : Cl.Keeps F w w') (hl : Below w0.heap.size w w') : Env w0 F a M w' :=
  ⟨h.low.trans hl, fun b hb => h.all b (Nat.le_trans hk.size hb), h.own, h.dev.keep hk⟩
/-- a block that was made is left to others -/
theorem env_leave (h : Env w0 F a M w) (hk : Cl.Keeps F w w') (hl : Below w0.heap.size w w') (s : Nat) (hs : w.heap.size ≤ s) (hs2 : s < w'.heap.size) : Env w0 (fun b => F b ∧ b ≠ s) a M w' := by
  obtain ⟨L, e, o, hd⟩ := h.dev
  exact ⟨h.low.trans hl, fun b hb' => ⟨h.all b (Nat.le_trans hk.size hb'), by omega⟩, fun b hh => h.own b hh.1, L, e, o, (hd.keep hk).only fun b _ h1 h2 => ⟨h1, fun e => h2 (by rw [e]; exact hd.new s hs)⟩⟩
/-- the blocks of F that are none of ours -/
def Fr (F : Nat → Prop) (L : List Nat) : Nat → Prop := fun q => F q ∧ q ∉ L
theorem env_leaves (h : Env w0 F a M w) (hk : Cl.Keeps F w w') (hl : Below w0.heap.size w w') (L : List Nat) (hL : ∀ s ∈ L, w.heap.size ≤ s ∧ s < w'.heap.size) : Env w0 (Fr F L) a M w' := by
  obtain ⟨L', e, o, hd⟩ := h.dev
  exact ⟨h.low.trans hl, fun b hb' => ⟨h.all b (Nat.le_trans hk.size hb'), fun hm => by have := (hL b hm).2; omega⟩, fun b hh => h.own b hh.1, L', e, o, (hd.keep hk).only fun b _ h1 h2 => ⟨h1, fun hm => h2 (hd.new b (hL b hm).1)⟩⟩
theorem env_cons {L : List Nat} {s : Nat} (h : Env w0 (fun b => Fr F L b ∧ b ≠ s) a M w) : Env w0 (Fr F (s :: L)) a M w :=
  env_sub h (fun b hb => by have := h.all b hb; exact ⟨this.1.1, fun hm => (List.mem_cons.1 hm).elim this.2 this.1.2⟩)
    (fun b hb => h.own b ⟨⟨hb.1, fun hm => hb.2 (List.mem_cons_of_mem _ hm)⟩, fun e => hb.2 (by rw [e]; exact List.mem_cons_self)⟩)
    (fun b _ hb => ⟨hb.1.1, fun hm => (List.mem_cons.1 hm).elim hb.2 hb.1.2⟩)
end
/-- the boxes, what was found, in world wr; ours are the blocks L -/
structure BR (F : Nat → Prop) (M : Dev) (cs : List Nat) (w wB : World) (gB : Nat) (L : List Nat) (l : List Fnd) (u t : Int) (A : Option Addr) (c : Nat) (wr : World) : Prop where
  b3 : Bx wr 50 w.heap.size (cells cs)
  b6 : Bx wr 54 (w.heap.size + 1) #[.slice none 0 0, .int .i64 0, .int .i64 0]
  b8 : Bx wr 54 (w.heap.size + 2) #[.slice A l.length c, .int .i64 u, .int .i64 t]
  b9 : Bx wr 34 gB #[.int .i64 (M.B : Int), .int .i64 (M.P : Int), .int .i64 (M.W : Int), .int .i64 (M.K : Int)]
  m3 : w.heap.size ∈ L
  m6 : w.heap.size + 1 ∈ L
  m8 : w.heap.size + 2 ∈ L
  m9 : gB ∈ L
  mA : ∀ a', A = some a' → a'.block ∈ L
  own : OwnF wB wr A l.length c l
  sz : wB.heap.size ≤ wr.heap.size
  gl : w.heap.size + 2 < gB
  gs : gB < wB.heap.size
  kp : Cl.Keeps (fun q => ¬ F q) w wr
section
variable {w0 w wB wr w' : World} {F : Nat → Prop} {a : Addr} {M : Dev} {cs : List Nat} {gB : Nat} {L : List Nat} {l : List Fnd} {u t : Int} {A : Option Addr} {c : Nat}
theorem own_keepA {w0 w w' : World} {A : Option Addr} {n c : Nat} {l : List Fnd} (h : OwnF w0 w A n c l) (hb : ∀ a', A = some a' → w'.heap[a'.block]? = w.heap[a'.block]?) : OwnF w0 w' A n c l := by
  obtain ⟨hl, h⟩ := h
  refine ⟨hl, ?_⟩
  rcases h with h | ⟨g, cap, cur, e, hg, hh, hr⟩
  · exact Or.inl h
  · cases e
    exact Or.inr ⟨g, _, cur, rfl, hg, (hb _ rfl).trans hh, hr⟩
theorem own_lt {w0 w : World} {A : Option Addr} {n c : Nat} {l : List Fnd} (h : OwnF w0 w A n c l) : ∀ a', A = some a' → w0.heap.size ≤ a'.block ∧ a'.block < w.heap.size := fun a' e => by
  refine ⟨OwnF.blk h a' e, ?_⟩
  obtain ⟨_, h⟩ := h
  rcases h with ⟨e2, _⟩ | ⟨g, cap, cur, e2, hg, hh, _⟩
  · cases e2; cases e
  · cases e2; cases e
    exact (Array.getElem?_eq_some_iff.1 hh).1
/-- whatever leaves ours as they are -/
theorem BR.keep (h : BR F M cs w wB gB L l u t A c wr) (hk : Cl.Keeps (fun q => ¬ Fr F L q) wr w') : BR F M cs w wB gB L l u t A c w' := by
  have k : ∀ b, b < wr.heap.size → b ∈ L → w'.heap[b]? = wr.heap[b]? := fun b hb hm => hk.block b hb (fun hh => hh.2 hm)
  exact ⟨h.b3.keep (k _ h.b3.lt h.m3), h.b6.keep (k _ h.b6.lt h.m6), h.b8.keep (k _ h.b8.lt h.m8), h.b9.keep (k _ h.b9.lt h.m9), h.m3, h.m6, h.m8, h.m9, h.mA,
    own_keepA h.own (fun a' e => k _ (own_lt h.own a' e).2 (h.mA a' e)), Nat.le_trans h.sz hk.size, h.gl, h.gs, h.kp.trans (Cl.keeps_of hk fun b hb hh => hb hh.1)⟩
theorem BR.below (h : BR F M cs w wB gB L l u t A c wr) (hb : Below wr.heap.size wr w') : BR F M cs w wB gB L l u t A c w' := h.keep (Cl.Keeps.of_below hb)
theorem BR.more (h : BR F M cs w wB gB L l u t A c wr) (s : Nat) : BR F M cs w wB gB (s :: L) l u t A c wr :=
  { h with m3 := List.mem_cons_of_mem _ h.m3, m6 := List.mem_cons_of_mem _ h.m6, m8 := List.mem_cons_of_mem _ h.m8, m9 := List.mem_cons_of_mem _ h.m9, mA := fun a' e => List.mem_cons_of_mem _ (h.mA a' e) }
/-- a store into the box of what is seen -/
theorem BR.put (h : BR F M cs w wB gB L l u t A c wr) (i : Nat) (v : Value) {l' : List Fnd} {u' t' : Int} (e : (#[.slice A l.length c, .int .i64 u, .int .i64 t] : Array Value).setIfInBounds i v = #[.slice A l'.length c, .int .i64 u', .int .i64 t']) (hl : l' = l) : BR F M cs w wB gB L l' u' t' A c (wr.setCell ⟨w.heap.size + 2, i, none⟩ v) := by
  subst hl
  have hs : (wr.setCell ⟨w.heap.size + 2, i, none⟩ v).heap.size = wr.heap.size := by simp [World.setCell]
  have gl := h.gl
  have gs := h.gs
  refine ⟨h.b3.keep (set_other v (by omega)), h.b6.keep (set_other v (by omega)), by rw [← e]; exact h.b8.set_ i v, h.b9.keep (set_other v (by omega)), h.m3, h.m6, h.m8, h.m9, h.mA, own_keepA h.own (fun a' ea => set_other v (by have := (own_lt h.own a' ea).1; omega)), by rw [hs]; exact h.sz, h.gl, h.gs, ?_⟩
  exact ⟨h.kp.os, h.kp.tape, h.kp.output, by rw [hs]; exact h.kp.size, fun b hb hq => by rw [set_other v (by omega)]; exact h.kp.block b hb hq⟩
theorem env_put (h : Env w0 (Fr F L) a M wr) {g i : Nat} {v : Value} (hg : g ∈ L) (hg0 : w0.heap.size ≤ g) : Env w0 (Fr F L) a M (wr.setCell ⟨g, i, none⟩ v) := by
  have hs : (wr.setCell ⟨g, i, none⟩ v).heap.size = wr.heap.size := by simp [World.setCell]
  refine env_keep h ⟨rfl, rfl, rfl, by rw [hs]; exact Nat.le_refl _, fun b _ hb => set_other v (fun e => hb.2 (by rw [e]; exact hg))⟩ ⟨rfl, rfl, rfl, by rw [hs]; exact Nat.le_refl _, fun b hb => set_other v (by omega)⟩
/-- one more was appended: it lies in A', and the box does not tell of it yet -/
theorem BR.app {M2 : Dev} (h : BR F M cs w wB gB L l u t A c wr) (hE : Env w0 (Fr F L) a M2 wr) (h0 : w0.heap.size ≤ w.heap.size) {l' : List Fnd} {A' : Option Addr} {c' : Nat} (ho : OwnF wB w' A' l'.length c' l') (hk : Cl.Keeps (fun b => ∀ a', A = some a' → b ≠ a'.block) wr w') (hA : ∀ a', A' = some a' → A = some a' ∨ wr.heap.size ≤ a'.block) :
    ∃ L', BR F M cs w wB gB L' l' u t A' c' (w'.setCell ⟨w.heap.size + 2, 0, none⟩ (.slice A' l'.length c')) ∧ Env w0 (Fr F L') a M2 (w'.setCell ⟨w.heap.size + 2, 0, none⟩ (.slice A' l'.length c')) := by
  have gl := h.gl
  have gs := h.gs
  have hsz := h.sz
  have hoA := own_lt h.own
  have kk : ∀ b, b < wB.heap.size → w'.heap[b]? = wr.heap[b]? := fun b hb => hk.block b (by omega) (fun a' e => by have := (hoA a' e).1; omega)
  have hkF : Cl.Keeps (Fr F L) wr w' := Cl.keeps_of hk fun b hb a' e => fun eb => hb.2 (by rw [eb]; exact h.mA a' e)
  have hlow : Below w0.heap.size wr w' := ⟨hk.os, hk.tape, hk.output, hk.size, fun b hb => kk b (by omega)⟩
  have hs : ∀ v : Value, (w'.setCell ⟨w.heap.size + 2, 0, none⟩ v).heap.size = w'.heap.size := fun v => by simp [World.setCell]
  have key : ∀ L', (∀ b, b ∈ L → b ∈ L') → (∀ a', A' = some a' → a'.block ∈ L') → BR F M cs w wB gB L' l' u t A' c' (w'.setCell ⟨w.heap.size + 2, 0, none⟩ (.slice A' l'.length c')) := fun L' hL hA' => by
    refine ⟨?_, ?_, ?_, ?_, hL _ h.m3, hL _ h.m6, hL _ h.m8, hL _ h.m9, hA', own_keepA ho (fun a' ea => set_other _ (by have := (own_lt ho a' ea).1; omega)), by rw [hs]; exact Nat.le_trans hsz hk.size, gl, gs, ?_⟩
    · exact (h.b3.keep (kk _ (by omega))).keep (set_other _ (by omega))
    · exact (h.b6.keep (kk _ (by omega))).keep (set_other _ (by omega))
    · exact (h.b8.keep (kk _ (by omega))).set_ 0 _
    · exact (h.b9.keep (kk _ (by omega))).keep (set_other _ (by omega))
    · refine ⟨hk.os.trans h.kp.os, hk.tape.trans h.kp.tape, hk.output.trans h.kp.output, by rw [hs]; exact Nat.le_trans h.kp.size hk.size, fun b hb hq => ?_⟩
      rw [set_other _ (by omega), kk b (by omega)]
      exact h.kp.block b hb hq
  have old : ∀ v : Value, Env w0 (Fr F L) a M2 (w'.setCell ⟨w.heap.size + 2, 0, none⟩ v) := fun v => env_put (env_keep hE hkF hlow) h.m8 (by omega)
  cases A' with
  | none => exact ⟨L, key L (fun b hb => hb) (fun a' e => by cases e), old _⟩
  | some a' =>
    rcases hA a' rfl with e | e
    · exact ⟨L, key L (fun b hb => hb) (fun a2 e2 => by cases e2; exact h.mA a' e), old _⟩
    · have hlt := (own_lt ho a' rfl).2
      exact ⟨a'.block :: L, key _ (fun b hb => List.mem_cons_of_mem _ hb) (fun a2 e2 => by cases e2; exact List.mem_cons_self), env_put (env_cons (env_leave hE hkF hlow a'.block e hlt)) (List.mem_cons_of_mem _ h.m8) (by omega)⟩
end
theorem fd_blank {κ : Nat → Kd} {p : Nat} (h : κ p = .blank) (b P : Nat) : fdL κ b P (p + 1) = fdL κ b P p ∧ usN κ (p + 1) = usN κ p ∧ trN κ (p + 1) = trN κ p := by
  refine ⟨?_, ?_, ?_⟩
  · conv => lhs; unfold fdL
    rw [h]
  · conv => lhs; unfold usN
    rw [h]
  · conv => lhs; unfold trN
    rw [h]
theorem fd_torn {κ : Nat → Kd} {p : Nat} (h : κ p = .torn) (b P : Nat) : fdL κ b P (p + 1) = fdL κ b P p ∧ usN κ (p + 1) = p + 1 ∧ trN κ (p + 1) = trN κ p + 1 := by
  refine ⟨?_, ?_, ?_⟩
  · conv => lhs; unfold fdL
    rw [h]
  · conv => lhs; unfold usN
    rw [h]
  · conv => lhs; unfold trN
    rw [h]
theorem fd_said {κ : Nat → Kd} {p k l q n : Nat} (h : κ p = .said k l q n) (b P : Nat) : fdL κ b P (p + 1) = fdL κ b P p ++ [⟨((b * P + p : Nat) : Int), k, l, q, n⟩] ∧ usN κ (p + 1) = p + 1 ∧ trN κ (p + 1) = trN κ p := by
  refine ⟨?_, ?_, ?_⟩
  · conv => lhs; unfold fdL
    rw [h]
  · conv => lhs; unfold usN
    rw [h]
  · conv => lhs; unfold trN
    rw [h]
theorem fd_le (κ : Nat → Kd) (b P : Nat) : ∀ p, (fdL κ b P p).length ≤ p ∧ trN κ p ≤ p
  | 0 => ⟨Nat.le_refl _, Nat.le_refl _⟩
  | p + 1 => by
    obtain ⟨h1, h2⟩ := fd_le κ b P p
    cases h : κ p with
    | blank => obtain ⟨e1, _, e3⟩ := fd_blank h b P; rw [e1, e3]; omega
    | torn => obtain ⟨e1, _, e3⟩ := fd_torn h b P; rw [e1, e3]; omega
    | said k l q n => obtain ⟨e1, _, e3⟩ := fd_said h b P; rw [e1, e3, List.length_append]; show _ + 1 ≤ _ ∧ _; omega
end Go.Proofs.YtjhoecfhmndcgaaGreat.So
