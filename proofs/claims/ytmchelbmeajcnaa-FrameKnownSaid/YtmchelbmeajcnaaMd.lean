/- The program's frame: a page's rows, encoded and woven; Make. -/
import Derived.Test.YtmchelbmeajcnaaMc
import Derived.Test.YtmchelbmeajcnaaVe
import Derived.Test.YtmchelbmeajcnaaCa
namespace Go.Proofs.Ytmchelbmeajcnaa
open Go.RowKit Go.Gf
set_option linter.unusedVariables false
set_option linter.unusedSimpArgs false
set_option maxRecDepth 20000
attribute [local go_sem ↓] exec_load_tb Cl.quiet_since
attribute [local go_sem] tbAt_ptr tbIn_ptr

/-- block g is n slices, none of which lies in it, that hold the rows ws -/
structure RowsI (w : World) (g n : Nat) (f : Nat → Value) (ws : Nat → List Nat) : Prop where
  vs : Vs w g n f
  row : ∀ j, j < n → ∃ A c, f j = .slice A (ws j).length c ∧ (ws j).length ≤ c ∧ Sl w w.heap.size A (ws j) ∧ ((ws j) = [] ∨ ∀ a, A = some a → a.block ≠ g)
theorem RowsI.keep {w w' : World} {g n : Nat} {f : Nat → Value} {ws : Nat → List Nat} (h : RowsI w g n f ws) (hb : Below w.heap.size w w') : RowsI w' g n f ws :=
  ⟨h.vs.keep (hb.block g h.vs.lt), fun j hj => by
    obtain ⟨A, c, h1, h2, h3, h4⟩ := h.row j hj
    exact ⟨A, c, h1, h2, h3.far hb, h4⟩⟩
theorem RowsI.congr {w : World} {g n : Nat} {f : Nat → Value} {ws ws' : Nat → List Nat} (h : RowsI w g n f ws) (e : ∀ j, j < n → ws j = ws' j) : RowsI w g n f ws' :=
  ⟨h.vs, fun j hj => by rw [← e j hj]; exact h.row j hj⟩
theorem Sl.setOther {w : World} {g i B : Nat} {A : Option Addr} {xs : List Nat} {v : Value} (h : Sl w B A xs) (hne : xs = [] ∨ ∀ a, A = some a → a.block ≠ g) : Sl (w.setCell ⟨g, i, none⟩ v) B A xs := by
  refine ⟨h.1, ?_⟩
  rcases h.2 with e | ⟨a, rfl, hb, hc⟩
  · exact Or.inl e
  · rcases hne with e | hne
    · exact Or.inl e
    · refine Or.inr ⟨a, rfl, hb, fun k hk => ?_⟩
      have hg : (w.setCell ⟨g, i, none⟩ v).heap[(a.add k).block]? = w.heap[(a.add k).block]? := by
        rw [add_block]
        simp only [World.setCell]
        rw [Array.getElem?_modify, if_neg (fun e => hne a rfl e.symm)]
      rw [World.cell?_of_block hg]
      exact hc k hk
/-- one row laid anew -/
theorem RowsI.lay {w : World} {g n : Nat} {f : Nat → Value} {ws : Nat → List Nat} (h : RowsI w g n f ws) {p : Nat} (hp : p < n) {A : Option Addr} {c : Nat} {ys : List Nat} (hc : ys.length ≤ c) (hs : Sl w w.heap.size A ys) (hA : ys = [] ∨ ∀ a, A = some a → a.block ≠ g) :
    RowsI (w.setCell ⟨g, p, none⟩ (.slice A ys.length c)) g n (fun j => if j = p then .slice A ys.length c else f j) (fun j => if j = p then ys else ws j) := by
  refine ⟨h.vs.set_ p _, fun j hj => ?_⟩
  rw [World.size_setCell]
  by_cases e : j = p
  · simp only [if_pos e]
    exact ⟨A, c, rfl, hc, hs.setOther hA, hA⟩
  · simp only [if_neg e]
    obtain ⟨A', c', h1, h2, h3, h4⟩ := h.row j hj
    exact ⟨A', c', h1, h2, h3.setOther h4, h4⟩
theorem RowsI.sw {w : World} {g n : Nat} {f : Nat → Value} {ws : Nat → List Nat} (h : RowsI w g n f ws) : Sw w w.heap.size (some ⟨g, 0, none⟩) ((List.range n).map ws) := by
  refine Or.inr ⟨_, rfl, h.vs.lt, fun i hi => ?_⟩
  have hi' : i < n := by simpa using hi
  have e : (⟨g, 0, none⟩ : Addr).add i = ⟨g, i, none⟩ := by unfold Addr.add; split <;> simp_all
  rw [e, h.vs.cell hi']
  simp only [List.getElem_map, List.getElem_range]
  obtain ⟨A, c, h1, h2, h3, _⟩ := h.row i hi'
  exact ⟨A, c, by rw [h1], h2, h3⟩
theorem OwnW.rowsI {w0 w : World} {g n : Nat} {f : Nat → Value} {ws : Nat → List Nat} (h : OwnW w0 w g n f ws) : RowsI w g n f ws :=
  ⟨h.vs, fun j hj => by
    obtain ⟨A, c, h1, h2, h3⟩ := (h.own j hj).sl
    refine ⟨A, c, h1, h2, h3, Or.inr fun a e hab => ?_⟩
    have := h.off j hj
    rw [h1, e] at this
    exact this (congrArg some hab)⟩
theorem RowsI.set {w w' : World} {g n : Nat} {f : Nat → Value} {ws : Nat → List Nat} (h : RowsI w g n f ws) (hs : w.heap.size ≤ w'.heap.size) (hb : ∀ b, b < w.heap.size → w'.heap[b]? = w.heap[b]?) : RowsI w' g n f ws :=
  ⟨h.vs.keep (hb g h.vs.lt), fun j hj => by
    obtain ⟨A, c, h1, h2, h3, h4⟩ := h.row j hj
    exact ⟨A, c, h1, h2, (h3.keep fun p hp => World.cell?_of_block (hb _ hp)).more hs, h4⟩⟩
theorem setCell_block (w : World) {g i b : Nat} (v : Value) (h : b ≠ g) : (w.setCell ⟨g, i, none⟩ v).heap[b]? = w.heap[b]? := by
  simp only [World.setCell]
  rw [Array.getElem?_modify, if_neg (fun e => h e.symm)]
theorem Ge.Box.other {w : World} {b g i : Nat} {B P W K : Int} (h : Ge.Box w b B P W K) (v : Value) (hne : b ≠ g) : Ge.Box (w.setCell ⟨g, i, none⟩ v) b B P W K :=
  ⟨by rw [World.size_setCell]; exact h.lt, (cell_block (setCell_block w v hne)).trans h.c0, (cell_block (setCell_block w v hne)).trans h.c1, (cell_block (setCell_block w v hne)).trans h.c2, (cell_block (setCell_block w v hne)).trans h.c3⟩
/-- In, of symbols as many as W rows have -/
theorem in_row {W K N : Nat} {A : Option Addr} {c : Nat} {s : List Nat} {w : World} (hN : W * K = N) (hW : 1 ≤ W ∧ W ≤ 4) (hK : 1 ≤ K) (hs : Sl w w.heap.size A s) (hl : s.length = N) (h6 : N ≤ 1000000) :
    Calls Try.prog 57 #[.int .i64 (W : Int), .slice A s.length c] w fun e w' => ∃ g f, e = .returned (.tuple #[.slice (some ⟨g, 0, none⟩) W W, .int .i64 0]) ∧ w.heap.size ≤ g ∧ RowsI w' g W f (fun j => (dealt W s).getD j []) ∧ Below w.heap.size w w' := by
  have hmay : mayB (W : Int) = true := by
    unfold mayB
    rw [Bool.and_eq_true, decide_eq_true_eq, decide_eq_true_eq]; omega
  have hE : inE (W : Int) s = 0 := inE_ok hmay (by
    rw [Int.toNat_natCast, hl, ← hN, Nat.mul_mod_right]
    have : 1 ≤ W * K := Nat.mul_le_mul hW.1 hK
    omega)
  have hR : inW (W : Int) s = dealt W s := by unfold inW; rw [hE, if_pos rfl, Int.toNat_natCast]
  have hin := in_any (W : Int) A c s w hs (by omega)
  rw [hE, hR] at hin
  refine hin.mono ?_
  rintro e w1 ⟨h1, hb1⟩
  have hdl := dealt_len W s
  rcases h1 with ⟨h1, _⟩ | ⟨g, f, rfl, ho⟩
  · rw [h1] at hdl; simp at hdl; omega
  rw [hdl] at ho ⊢
  exact ⟨g, f, rfl, ho.at0, ho.rowsI, hb1⟩
theorem OwnS.low {w0 w1 w : World} {v : Value} {ys : List Nat} (h : OwnS w1 w v ys) (hs : w0.heap.size ≤ w1.heap.size) : OwnS w0 w v ys := by
  obtain ⟨⟨h1, h2⟩, h3⟩ := h
  refine ⟨⟨h1, ?_⟩, h3⟩
  rcases h2 with h2 | ⟨g, cap, cur, e, hg, hr⟩
  · exact Or.inl h2
  · exact Or.inr ⟨g, cap, cur, e, Nat.le_trans hs hg, hr⟩
set_option maxHeartbeats 4000000 in
theorem encoded_any {cs : List Nat} (hcs : Tab cs) {B P : Int} {W K N : Nat} {A : Option Addr} {c : Nat} {s : List Nat} {w : World} (hN : W * K = N) (hW : 1 ≤ W ∧ W ≤ 4) (hK : 1 ≤ K ∧ K ≤ 64) (hs : Sl w w.heap.size A s) (hl : s.length = N) (hb : ∀ y ∈ s, y < 1024) :
    Calls Try.prog 33 #[.agg (cells cs), .agg #[.int .i64 B, .int .i64 P, .int .i64 (W : Int), .int .i64 (K : Int)], .slice A s.length c] w (RowP w (pageL W s)) := by
  have H := Lib.hid hs
  have HCS := Lib.hid hcs
  obtain ⟨wa, hwa⟩ : ∃ wa, wa = w.alloc (.cells (cells cs) 33) := ⟨_, rfl⟩
  obtain ⟨wb, hwb⟩ : ∃ wb, wb = wa.alloc (.cells #[.int .i64 B, .int .i64 P, .int .i64 (W : Int), .int .i64 (K : Int)] 23) := ⟨_, rfl⟩
  have hba : Below w.heap.size w wa := by rw [hwa]; exact Ge.below_alloc w _
  have hbb : Below w.heap.size w wb := hba.trans (by rw [hwb]; exact (Ge.below_alloc wa _).mono hba.size)
  have hT : Tb wb w.heap.size cs := by
    have : Tb wa w.heap.size cs := by rw [hwa]; exact tb_new w cs
    exact this.keep (by rw [hwb]; exact Ge.below_alloc wa _)
  have hX : Ge.Box wb (w.heap.size + 1) B P W K := by
    have := Ge.Box.new wa B P W K
    rw [← hwb] at this
    rwa [show wa.heap.size = w.heap.size + 1 by rw [hwa, World.size_alloc]] at this
  replace hl := Lib.hid hl
  have hl6 : s.length ≤ 256 := by
    rw [hl.out, ← hN]
    exact Nat.mul_le_mul hW.2 hK.2
  have hin := Lib.hid (in_row hN hW hK.1 (hs.far hbb) hl.out (by have := hl.out; omega) (c := c))
  go_enter Try.func33, Try.ntmps33
  have hc2 := hX.c2
  rw [hwb, hwa] at hc2 hin
  go_wp2_with (go_at_call 57; (with_reducible refine hin.out.mono ?_); rintro e w1 ⟨g, f, rfl, hat, hR1, hb1⟩)
  have hdl := dealt_len W s
  rw [← hwa, ← hwb] at hb1 hat
  have hg := hbb.size
  have hg0 : w.heap.size ≤ g := Nat.le_trans hg hat
  have hT1 := hT.keep hb1
  have hX1 := hX.keep hb1
  have hbw1 := hbb.trans (hb1.mono hbb.size)
  have hne : ∀ j, j < W → (dealt W s).getD j [] ∈ dealt W s := fun j hj => getD_mem (by rw [hdl]; exact hj)
  have hrl : ∀ j, j < W → ((dealt W s).getD j []).length = K := fun j hj => dealt_all (by rw [hl.out, hN]) (by omega) _ (hne j hj)
  have hrb : ∀ j, j < W → ∀ y ∈ (dealt W s).getD j [], y < 1024 := fun j hj => dealt_bd (by decide) hb _ (hne j hj)
  have hgt : w.heap.size < g := by have := hT.lt; omega
  have hgx : w.heap.size + 1 < g := by have := hX.lt; omega
  replace hrl := Lib.hid hrl
  replace hrb := Lib.hid hrb
  clear hdl hb1 hwa hwb hin hT hX hbb hba hne hc2 hat
  go_wp2_with fail
  go_loopw [22] (fun q wr => ∃ i : Nat, i ≤ W ∧ q = .int .i64 i ∧ (∃ f, RowsI wr g W f (fun j => if j < i then enc ((dealt W s).getD j []) else (dealt W s).getD j [])) ∧ Tb wr w.heap.size cs ∧ Ge.Box wr (w.heap.size + 1) B P W K ∧ Below w.heap.size w wr) (fun q _ => W - (intOf q).toNat)
  case atStart => exact ⟨0, Nat.zero_le _, rfl, ⟨f, hR1.congr fun j _ => by rw [if_neg (by omega)]⟩, hT1, hX1, hbw1⟩
  case round =>
    clear hR1 hT1 hX1 hbw1
    obtain ⟨i, hi, rfl, ⟨f', hR⟩, hT, hX, hB⟩ := hrel
    by_cases hlt : i < W
    · have hiI : (i : Int) < (W : Int) := by omega
      have hdi : decide (i < W) = true := decide_eq_true hlt
      obtain ⟨D, cD, hfi, hcD, hsD, hDne⟩ := hR.row i hlt
      rw [if_neg (by omega)] at hfi hcD hsD
      have hcl := hR.vs.cell hlt
      rw [hfi] at hcl
      have hrli := hrl.out i hlt
      have hi1 := hT.is HCS.out.1
      have hi2 := hT.of
      have hec := Lib.hid (encode_any cs HCS.out D cD _ wr hsD (by omega))
      have hee : encE ((dealt W s).getD i []) = 0 := encE_ok (by omega) (fun k hk => hrb.out i hlt _ (List.getElem_mem hk))
      have hew : encW ((dealt W s).getD i []) = enc ((dealt W s).getD i []) := by unfold encW; rw [hee, if_pos rfl]
      rw [hee, hew] at hec
      generalize hrow : (dealt W s).getD i [] = row at *
      replace hrli := Lib.hid hrli
      have hxl : Hid (enc row ≠ []) := by
        intro e
        have := enc_len row
        rw [e] at this; simp at this
      go_wp2_with (go_at_call 58; (with_reducible refine hec.out.mono ?_); rintro e w2 ⟨A2, c2, rfl, hc2, hs2, hp2, hb2⟩; have hR2 := hR.keep hb2; obtain ⟨V2, hcl2⟩ : ∃ V, w2.cell? ⟨g, i, none⟩ = some V := ⟨_, hR2.vs.cell hlt⟩; have hfz2 := hR2.vs.frozen i)
      obtain ⟨g2, rfl, hg2, _⟩ := hp2 hxl.out
      have hgw : g < wr.heap.size := hR.vs.lt
      have hR3 := hR2.lay hlt hc2 hs2 (Or.inr (fun a e => by injection e with e; rw [← e]; show g2 ≠ g; omega))
      refine ⟨⟨i + 1, by omega, by go_num, ⟨_, hR3.congr fun j hj => ?_⟩, ?_, ?_, ?_⟩, by simp [intOf]; omega⟩
      · show (if j = i then enc row else if j < i then enc ((dealt W s).getD j []) else (dealt W s).getD j []) = if j < i + 1 then enc ((dealt W s).getD j []) else (dealt W s).getD j []
        by_cases e : j = i
        · rw [if_pos e, if_pos (by omega), e, hrow]
        · rw [if_neg e]
          by_cases h : j < i
          · rw [if_pos h, if_pos (by omega)]
          · rw [if_neg h, if_neg (by omega)]
      · exact (hT.keep hb2).other _ _ (by show w.heap.size ≠ g; omega)
      · exact (hX.keep hb2).other _ (by omega)
      · exact (hB.trans (hb2.mono hB.size)).setCell hg0 _
    · obtain rfl : i = W := by omega
      have hd : decide (i < i) = false := decide_eq_false (Nat.lt_irrefl _)
      have hws : ((List.range i).map fun j => if j < i then enc ((dealt i s).getD j []) else (dealt i s).getD j []) = rowsL i s := by
        apply List.ext_getElem
        · rw [List.length_map, List.length_range, rowsL_len]
        · intro j h1 h2
          have hj : j < i := by simpa using h1
          simp only [List.getElem_map, List.getElem_range]
          rw [if_pos hj, ← rowsL_getD hj, List.getD_eq_getElem?_getD, List.getElem?_eq_getElem h2, Option.getD_some]
      have hsw := hR.sw
      rw [hws] at hsw
      have hlen := rowsL_len (W := i) (s := s)
      have hall := rowsL_all (W := i) (n := K) (s := s) (by rw [hl.out, hN]) (by omega)
      have hE : outE (i : Int) (rowsL i s) = 0 := outE_ok (by unfold mayB; rw [Bool.and_eq_true, decide_eq_true_eq, decide_eq_true_eq]; omega) (by rw [hlen]) (unl_false fun k hk => by rw [hall _ (List.getElem_mem hk), wvN_all hall (by intro e; rw [e] at hlen; simp at hlen; omega)]) (by rw [wvN_all hall (by intro e; rw [e] at hlen; simp at hlen; omega)]; omega)
      have hO : outW (i : Int) (rowsL i s) = pageL i s := by unfold outW; rw [hE, if_pos rfl]; rfl
      have hout := out_any (i : Int) (some ⟨g, 0, none⟩) i (rowsL i s) wr hsw (by omega) (fun x hx => by rw [hall x hx]; omega)
      rw [hE, hO, hlen] at hout
      replace hout := Lib.hid hout
      have hc2 := hX.c2
      replace hB := Lib.hid hB
      clear hsw hR hT hX hlen hall hE hO hws
      go_wp2_with (go_at_call 59; (with_reducible refine hout.out.mono ?_); rintro e w2 ⟨v2, rfl, ho2, hb2⟩)
      go_ret
      refine ⟨_, rfl, ?_, hB.out.trans (hb2.mono hB.out.size)⟩
      exact ho2.low hB.out.size
/-- why there is no page, by its number -/
def mkE (B P W K k l q : Int) (n : Nat) : Nat := if Ge.mayG B P W K = false ∨ mkB k l q = false then 1 else if (n : Int) ≠ Ge.sizG B P W K then 3 else 0
/-- the page -/
def mkW (B P W K k l q : Int) (d : List Nat) : List Nat := if mkE B P W K k l q d.length = 0 then pageL W.toNat (sayL (W * K).toNat k.toNat l.toNat q.toNat d) else []
theorem mkE_arg {B P W K k l q : Int} {n : Nat} (h : Ge.mayG B P W K = false ∨ mkB k l q = false) : mkE B P W K k l q n = 1 := by unfold mkE; rw [if_pos h]
theorem mkE_size {B P W K k l q : Int} {n : Nat} (h : Ge.mayG B P W K = true) (h2 : mkB k l q = true) (h3 : (n : Int) ≠ Ge.sizG B P W K) : mkE B P W K k l q n = 3 := by
  unfold mkE
  rw [if_neg (by rw [h, h2]; simp), if_pos h3]
theorem mkE_ok {B P W K k l q : Int} {n : Nat} (h : Ge.mayG B P W K = true) (h2 : mkB k l q = true) (h3 : (n : Int) = Ge.sizG B P W K) : mkE B P W K k l q n = 0 := by
  unfold mkE
  rw [if_neg (by rw [h, h2]; simp), if_neg (by simp [h3])]
theorem mkB_of {k l q : Int} (h : mkB k l q = true) : ∃ k' l' q' : Nat, k = (k' : Int) ∧ l = (l' : Int) ∧ q = (q' : Int) ∧ 1 ≤ k' ∧ k' < 1024 ∧ l' < 1048576 ∧ q' < 1099511627776 := by
  unfold mkB at h
  rw [decide_eq_true_eq] at h
  exact ⟨k.toNat, l.toNat, q.toNat, by omega, by omega, by omega, by omega, by omega, by omega, by omega⟩
/-- a geometry that may be, in natural numbers -/
theorem mayG_of {B P W K : Int} (h : Ge.mayG B P W K = true) : ∃ W' K' N : Nat, W = (W' : Int) ∧ K = (K' : Int) ∧ W' * K' = N ∧ 1 ≤ W' ∧ W' ≤ 4 ∧ 1 ≤ K' ∧ K' ≤ 64 ∧ 8 < N ∧ N ≤ 256 ∧ Ge.sizG B P W K = ((10 * (N - 8) / 8 : Nat) : Int) ∧ Ge.celG B P W K = ((W' * (K' + 16) : Nat) : Int) := by
  obtain ⟨_, _, _, _, h5, h6, h7, h8, h9⟩ := Ge.may_of h
  have hp := Ge.prod_le h5 h6 h7 h8
  obtain ⟨W', rfl⟩ : ∃ W' : Nat, W = (W' : Int) := ⟨W.toNat, by omega⟩
  obtain ⟨K', rfl⟩ : ∃ K' : Nat, K = (K' : Int) := ⟨K.toNat, by omega⟩
  have hc : (W' : Int) * (K' : Int) = ((W' * K' : Nat) : Int) := by push_cast; rfl
  refine ⟨W', K', W' * K', rfl, rfl, rfl, by omega, by omega, by omega, by omega, by omega, by omega, ?_, ?_⟩
  · unfold Ge.sizG
    rw [if_pos h, hc]
    unfold Ge.bytG
    rw [hc] at hp h9
    generalize W' * K' = N at *
    omega
  · unfold Ge.celG
    rw [if_pos h]
    push_cast
    rfl
set_option maxHeartbeats 4000000 in
theorem make_fr {cs : List Nat} (hcs : Tab cs) {B P W K k l q : Int} {A : Option Addr} {c : Nat} {d : List Nat} {w : World} (hs : Sb w w.heap.size A d) (hl : d.length ≤ 1000000) :
    Calls Try.prog 16 #[.agg (cells cs), .agg #[.int .i64 B, .int .i64 P, .int .i64 W, .int .i64 K], .agg #[.int .i64 k, .int .i64 l, .int .i64 q], .slice A d.length c] w (RowV w (mkW B P W K k l q d) (mkE B P W K k l q d.length)) := by
  have H := Lib.hid hs
  have HCS := Lib.hid hcs
  obtain ⟨wa, hwa⟩ : ∃ wa, wa = w.alloc (.cells (cells cs) 33) := ⟨_, rfl⟩
  obtain ⟨wb, hwb⟩ : ∃ wb, wb = wa.alloc (.cells #[.int .i64 B, .int .i64 P, .int .i64 W, .int .i64 K] 23) := ⟨_, rfl⟩
  obtain ⟨wc, hwc⟩ : ∃ wc, wc = wb.alloc (.cells #[.int .i64 k, .int .i64 l, .int .i64 q] 25) := ⟨_, rfl⟩
  have hza : wa.heap.size = w.heap.size + 1 := by rw [hwa, World.size_alloc]
  have hzb : wb.heap.size = w.heap.size + 1 + 1 := by rw [hwb, World.size_alloc, hza]
  have hba : Below w.heap.size w wa := by rw [hwa]; exact Ge.below_alloc w _
  have hbc' : Below wb.heap.size wb wc := by rw [hwc]; exact Ge.below_alloc wb _
  have hab : Below wa.heap.size wa wb := by rw [hwb]; exact Ge.below_alloc wa _
  have hbb : Below w.heap.size w wb := hba.trans (hab.mono hba.size)
  have hbc : Below w.heap.size w wc := hbb.trans (hbc'.mono hbb.size)
  have hT : Tb wc w.heap.size cs := by
    have h1 : Tb wa w.heap.size cs := by rw [hwa]; exact tb_new w cs
    exact (h1.keep hab).keep hbc'
  have hX : Ge.Box wc (w.heap.size + 1) B P W K := by
    have := Ge.Box.new wa B P W K
    rw [← hwb, hza] at this
    exact this.keep hbc'
  have hH : Hed wc (w.heap.size + 1 + 1) k l q := by
    have := Hed.new wb k l q
    rwa [← hwc, hzb] at this
  have hmay := Lib.hid (Ge.may_any B P W K wc)
  cases hM : Ge.mayG B P W K
  · rw [hM] at hmay
    have hE := mkE_arg (k := k) (l := l) (q := q) (n := d.length) (Or.inl hM)
    have hR : mkW B P W K k l q d = [] := by unfold mkW; rw [hE]; rfl
    rw [hE, hR]
    obtain ⟨x1, x2, x3, x4, x5⟩ := hX
    rw [hwc, hwb, hwa] at hmay x2 x3 x4 x5 hbc
    replace hbc := Lib.hid hbc
    clear hwa hwb hwc hza hzb hba hbc' hab hbb hT hH hE hR
    go_enter Try.func16, Try.ntmps16
    go_wp2_with (go_at_call 30; (with_reducible refine hmay.out.mono ?_); rintro e w1 ⟨rfl, hb1⟩)
    go_ret2
    exact RowV.nil (hbc.out.trans (hb1.mono hbc.out.size))
  · rw [hM] at hmay
    obtain ⟨x1, x2, x3, x4, x5⟩ := id hX
    rw [hwc, hwb, hwa] at hmay x2 x3 x4 x5
    cases hB : mkB k l q
    · have hE := mkE_arg (B := B) (P := P) (W := W) (K := K) (n := d.length) (Or.inr hB)
      have hR : mkW B P W K k l q d = [] := by unfold mkW; rw [hE]; rfl
      rw [hE, hR]
      clear hE hR hM
      go_enter Try.func16, Try.ntmps16
      go_wp2_with (first
        | (go_at_call 30; (with_reducible refine hmay.out.mono ?_); rintro e w1 ⟨rfl, hb1⟩; rw [← hwa, ← hwb, ← hwc] at hb1; have hT1 := hT.keep hb1; have hX1 := hX.keep hb1; have hH1 := hH.keep hb1; have hbw1 := hbc.trans (hb1.mono hbc.size); obtain ⟨k1, k2, k3, k4⟩ := hH1; have hfm := Lib.hid (fmay_any k l q w1); rw [hB] at hfm)
        | (go_at_call 31; (with_reducible refine hfm.out.mono ?_); rintro e w2 ⟨rfl, hb2⟩; have hT2 := hT1.keep hb2; have hX2 := hX1.keep hb2; have hH2 := (Hed.mk k1 k2 k3 k4).keep hb2; have hbw2 := hbw1.trans (hb2.mono hbw1.size); have hsz := Lib.hid (Ge.size_any B P W K w2); obtain ⟨y1, y2, y3, y4, y5⟩ := hX2))
      go_ret2
      exact RowV.nil hbw2
    · by_cases hsize : (d.length : Int) = Ge.sizG B P W K
      · obtain ⟨k', l', q', rfl, rfl, rfl, hk1, hk2, hl2, hq2⟩ := mkB_of hB
        obtain ⟨W', K', N, rfl, rfl, hN, hW1, hW4, hK1, hK64, h8, h256, hsg, _⟩ := mayG_of hM
        have hE := mkE_ok hM hB hsize
        have hR : mkW B P (W' : Int) (K' : Int) (k' : Int) (l' : Int) (q' : Int) d = pageL W' (sayL N k' l' q' d) := by
          unfold mkW
          rw [hE, if_pos rfl, show ((W' : Int) * (K' : Int)).toNat = N by rw [← hN, ← Int.natCast_mul, Int.toNat_natCast]]
          rfl
        rw [hE, hR]
        have hd : d.length = 10 * (N - 8) / 8 := by rw [hsg] at hsize; exact Int.ofNat.inj hsize
        have hne : ((d.length : Int) != Ge.sizG B P (W' : Int) (K' : Int)) = false := by simp [hsize]
        have hsl := Lib.hid (say_len (k := k') (l := l') (q := q') hd (by omega))
        have hsb := Lib.hid (say_bd (N := N) (d := d) hk2 hl2 hq2)
        replace hd := Lib.hid hd
        clear hE hR hM hsize hsg
        go_enter Try.func16, Try.ntmps16
        go_wp2_with (first
          | (go_at_call 30; (with_reducible refine hmay.out.mono ?_); rintro e w1 ⟨rfl, hb1⟩; rw [← hwa, ← hwb, ← hwc] at hb1; have hT1 := hT.keep hb1; have hX1 := hX.keep hb1; have hH1 := hH.keep hb1; have hbw1 := hbc.trans (hb1.mono hbc.size); obtain ⟨k1, k2, k3, k4⟩ := hH1; have hfm := Lib.hid (fmay_any (k' : Int) (l' : Int) (q' : Int) w1); rw [hB] at hfm)
          | (go_at_call 31; (with_reducible refine hfm.out.mono ?_); rintro e w2 ⟨rfl, hb2⟩; have hT2 := hT1.keep hb2; have hX2 := hX1.keep hb2; have hH2 := (Hed.mk k1 k2 k3 k4).keep hb2; have hbw2 := hbw1.trans (hb2.mono hbw1.size); have hsz := Lib.hid (Ge.size_any B P (W' : Int) (K' : Int) w2); obtain ⟨y1, y2, y3, y4, y5⟩ := hX2)
          | (go_at_call 32; (with_reducible refine hsz.out.mono ?_); rintro e w3 ⟨rfl, hb3⟩; have hT3 := hT2.keep hb3; have hX3 := (Ge.Box.mk y1 y2 y3 y4 y5).keep hb3; have hH3 := hH2.keep hb3; have hbw3 := hbw2.trans (hb3.mono hbw2.size)))
        replace hX3 := Lib.hid hX3
        replace hH3 := Lib.hid hH3
        replace hT3 := Lib.hid hT3
        replace hbw3 := Lib.hid hbw3
        clear hT hX hH hmay x1 x2 x3 x4 x5 hwa hwb hwc hza hzb hba hbc' hab hbb hbc hb1 hb2 hb3 hT1 hT2 hX1 hH2 hbw1 hbw2 hfm hsz y1 y2 y3 y4 y5 k1 k2 k3 k4
        refine Cl.region_way (fun _ => True) 9 [(0, .r), (1, .r), (2, .r), (3, .r), (4, .r), (5, .c), (6, .c), (7, .r), (8, .r)] (by kernel_rfl) (by kernel_rfl) ?_
        intro w4 hk4
        have hT4 := Lib.hid (hT3.out.keep (Cl.Keeps.below hk4))
        have hX4 := Lib.hid (hX3.out.keep (Cl.Keeps.below hk4))
        have hH4 := Lib.hid (hH3.out.keep (Cl.Keeps.below hk4))
        have hbw4 := Lib.hid (hbw3.out.trans ((Cl.Keeps.below hk4).mono hbw3.out.size))
        have hiA : ∀ y : Cl.Since (fun _ => True) w4, isTb y.w w.heap.size = true := fun y => (Keeps.tb y.keeps hT4.out).is HCS.out.1
        have hoA : ∀ y : Cl.Since (fun _ => True) w4, tbOf y.w w.heap.size = cells cs := fun y => (Keeps.tb y.keeps hT4.out).of
        have x0 : ∀ y : Cl.Since (fun _ => True) w4, y.w.cell? ⟨w.heap.size + 1, 0, none⟩ = some (.int .i64 B) := fun y => (hX4.out.keep (Cl.Keeps.below y.keeps)).c0
        have x1 : ∀ y : Cl.Since (fun _ => True) w4, y.w.cell? ⟨w.heap.size + 1, 1, none⟩ = some (.int .i64 P) := fun y => (hX4.out.keep (Cl.Keeps.below y.keeps)).c1
        have x2 : ∀ y : Cl.Since (fun _ => True) w4, y.w.cell? ⟨w.heap.size + 1, 2, none⟩ = some (.int .i64 (W' : Int)) := fun y => (hX4.out.keep (Cl.Keeps.below y.keeps)).c2
        have x3 : ∀ y : Cl.Since (fun _ => True) w4, y.w.cell? ⟨w.heap.size + 1, 3, none⟩ = some (.int .i64 (K' : Int)) := fun y => (hX4.out.keep (Cl.Keeps.below y.keeps)).c3
        have z0 : ∀ y : Cl.Since (fun _ => True) w4, y.w.cell? ⟨w.heap.size + 1 + 1, 0, none⟩ = some (.int .i64 (k' : Int)) := fun y => (hH4.out.keep (Cl.Keeps.below y.keeps)).c0
        have z1 : ∀ y : Cl.Since (fun _ => True) w4, y.w.cell? ⟨w.heap.size + 1 + 1, 1, none⟩ = some (.int .i64 (l' : Int)) := fun y => (hH4.out.keep (Cl.Keeps.below y.keeps)).c1
        have z2 : ∀ y : Cl.Since (fun _ => True) w4, y.w.cell? ⟨w.heap.size + 1 + 1, 2, none⟩ = some (.int .i64 (q' : Int)) := fun y => (hH4.out.keep (Cl.Keeps.below y.keeps)).c2
        have hpl := Lib.hid (plain_any (B := B) (P := P) (c := c) hN h8 h256 hk2 hl2 hq2 (H.out.far hbw4.out) hd.out)
        iterate 5 (refine Cl.way_r rfl ?_; go_big_quiet_step (fail); refine wpQuiet_nil ?_)
        clear hk4 hiA hoA x0 x1 x2 x3 z0 z1 z2 hT4 hX4 hH4 hT3 hX3 hH3 hbw3
        refine Cl.way_c rfl ?_
        go_wp2_with (go_at_call 34; (with_reducible refine hpl.out.mono ?_); rintro e w5 ⟨g, rfl, hg5, hA5, hb5⟩)
        refine Cl.way_on (Cl.Keeps.of_below hb5) ?_
        have hs5 := hA5.sl (fun x hx => by have := hsb.out x hx; omega)
        have hen := encoded_any (c := N) HCS.out (B := B) (P := P) hN ⟨hW1, hW4⟩ ⟨hK1, hK64⟩ hs5 hsl.out hsb.out
        rw [hsl.out] at hen
        have hbw5 := Lib.hid (hbw4.out.trans (hb5.mono hbw4.out.size))
        replace hen := Lib.hid hen
        clear hA5 hb5 hs5 hpl
        refine Cl.way_c rfl ?_
        go_wp2_with (go_at_call 33; (with_reducible refine hen.out.mono ?_); rintro e w6 ⟨v6, rfl, ho6, hb6⟩)
        refine Cl.way_on (Cl.Keeps.of_below hb6) ?_
        have ho := Lib.hid (ho6.low hbw5.out.size)
        have hbw6 := Lib.hid (hbw5.out.trans (hb6.mono hbw5.out.size))
        clear ho6 hb6 hen
        iterate 2 (refine Cl.way_r rfl ?_; go_big_quiet_step (fail); refine wpQuiet_nil ?_)
        refine Cl.way_end ?_
        go_wp2_with fail
        go_ret2
        exact ⟨_, rfl, ho.out, hbw6.out⟩
      · have hE := mkE_size hM hB hsize
        have hR : mkW B P W K k l q d = [] := by unfold mkW; rw [hE]; rfl
        rw [hE, hR]
        have hne : ((d.length : Int) != Ge.sizG B P W K) = true := by simp [hsize]
        clear hE hR hM hsize
        go_enter Try.func16, Try.ntmps16
        go_wp2_with (first
          | (go_at_call 30; (with_reducible refine hmay.out.mono ?_); rintro e w1 ⟨rfl, hb1⟩; rw [← hwa, ← hwb, ← hwc] at hb1; have hT1 := hT.keep hb1; have hX1 := hX.keep hb1; have hH1 := hH.keep hb1; have hbw1 := hbc.trans (hb1.mono hbc.size); obtain ⟨k1, k2, k3, k4⟩ := hH1; have hfm := Lib.hid (fmay_any k l q w1); rw [hB] at hfm)
          | (go_at_call 31; (with_reducible refine hfm.out.mono ?_); rintro e w2 ⟨rfl, hb2⟩; have hT2 := hT1.keep hb2; have hX2 := hX1.keep hb2; have hH2 := (Hed.mk k1 k2 k3 k4).keep hb2; have hbw2 := hbw1.trans (hb2.mono hbw1.size); have hsz := Lib.hid (Ge.size_any B P W K w2); obtain ⟨y1, y2, y3, y4, y5⟩ := hX2)
          | (go_at_call 32; (with_reducible refine hsz.out.mono ?_); rintro e w3 ⟨rfl, hb3⟩; have hT3 := hT2.keep hb3; have hX3 := (Ge.Box.mk y1 y2 y3 y4 y5).keep hb3; have hH3 := hH2.keep hb3; have hbw3 := hbw2.trans (hb3.mono hbw2.size)))
        go_ret2
        exact RowV.nil hbw3
end Go.Proofs.Ytmchelbmeajcnaa
