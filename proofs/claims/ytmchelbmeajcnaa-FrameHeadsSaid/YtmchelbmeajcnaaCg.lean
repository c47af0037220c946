/- The program's package code: search. · The program's package code: off, mend. · The program's package code: mend. · The program's package code: Distance. · The program's package code: Decode. · The program's package code: Decode, walked. -/
import Derived.Test.YtmchelbmeajcnaaCa
import Derived.Deep.RegionWith
import Derived.Test.YtmchelbmeajcnaaRv
namespace Go.Proofs.Ytmchelbmeajcnaa
open Go.RowKit Go.Gf
set_option maxRecDepth 20000
attribute [local go_sem ↓] exec_load_tb Cl.quiet_since
attribute [local go_sem] tbAt_ptr tbIn_ptr

theorem scope_jumps {P : Program} {a : Act} {w : World} {Q : Exit → Act → World → Prop} {c rest : Code} (l : Nat) (J : Act → World → Prop) (μ : Act → World → Nat) (hf : findLabel c l = some (Code.skip.seq rest))
    (pass : ∀ a w, J a w → rest.wp P (Exit.jump l (fun a' w' => J a' w' ∧ μ a' w' < μ a w) Q) a w)
    (first : (∀ a w, J a w → rest.wp P (Exit.jump l J Q) a w) → c.wp P (Exit.jump l J Q) a w) : (Code.scope c).wp P Q a w :=
  wp_scope_jumps l J μ hf (first fun a w h => wp_mono (pass a w h) fun e a' w' h' => by
    cases e
    case goto l' => exact ⟨h'.1, h'.2.1⟩
    all_goals exact h') fun a w h => wp_seq (wp_skip (pass a w h))
/-- what holds where search comes to its top -/
structure SearchJ (w : World) (S : Nat → Nat) (cs : List Nat) (v1 : Value) (t : Array Value) (a b u v : List Nat) (A B U V : Option Addr) (ca cb cu cv : Nat) (wr : World) : Prop where
  ei : EI S a b u v
  h9 : 9 ≤ a.length
  hb : b.length ≤ cb
  hv : v.length ≤ cv
  sa : Sl wr wr.heap.size A a
  sb : Sl wr wr.heap.size B b
  su : Sl wr wr.heap.size U u
  sv : Sl wr wr.heap.size V v
  be : Below w.heap.size w wr
  tb : Tb wr w.heap.size cs
  size : t.size = 42
  t0 : t.getD 0 undef = .agg (cells cs)
  t1 : t.getD 1 undef = v1
  t2 : t.getD 2 undef = .pointer (some ⟨w.heap.size, 0, none⟩)
  t3 : t.getD 3 undef = undef
  t4 : t.getD 4 undef = .slice none 0 0
  t5 : t.getD 5 undef = .slice none 0 0
  t6 : t.getD 6 undef = .slice A a.length ca
  t7 : t.getD 7 undef = .slice B b.length cb
  t8 : t.getD 8 undef = .slice U u.length cu
  t9 : t.getD 9 undef = .slice V v.length cv
def midQ (M : Act → World → Prop) : Exit → Act → World → Prop
  | .normal, a, w => M a w
  | _, _, _ => False
/-- the locator and the evaluator -/
def SearchR (w : World) (S : Nat → Nat) (e : Ending) (w' : World) : Prop :=
  ∃ a b u v B cb V cv, e = .returned (.tuple #[.slice V v.length cv, .slice B b.length cb]) ∧ EI S a b u v ∧ 9 ≤ a.length ∧ b.length ≤ 8 ∧ Sl w' w'.heap.size V v ∧ Sl w' w'.heap.size B b ∧ Below w.heap.size w w'
theorem frame42 (t : Array Value) (h : t.size = 42) : t = #[t.getD 0 undef, t.getD 1 undef, t.getD 2 undef, t.getD 3 undef, t.getD 4 undef, t.getD 5 undef, t.getD 6 undef, t.getD 7 undef, t.getD 8 undef, t.getD 9 undef, t.getD 10 undef, t.getD 11 undef, t.getD 12 undef, t.getD 13 undef, t.getD 14 undef, t.getD 15 undef, t.getD 16 undef, t.getD 17 undef, t.getD 18 undef, t.getD 19 undef, t.getD 20 undef, t.getD 21 undef, t.getD 22 undef, t.getD 23 undef, t.getD 24 undef, t.getD 25 undef, t.getD 26 undef, t.getD 27 undef, t.getD 28 undef, t.getD 29 undef, t.getD 30 undef, t.getD 31 undef, t.getD 32 undef, t.getD 33 undef, t.getD 34 undef, t.getD 35 undef, t.getD 36 undef, t.getD 37 undef, t.getD 38 undef, t.getD 39 undef, t.getD 40 undef, t.getD 41 undef] := by
  have e := frame_list 42 t.toList (by simpa using h)
  apply Array.toList_inj.1
  rw [e]
  simp only [Array.toArray_toList]
  rfl
def lenA (a : Act) (_ : World) : Nat := lenV (a.tmps.getD 7 undef)
set_option maxRecDepth 20000 in
set_option maxHeartbeats 8000000 in
theorem search_any (cs : List Nat) (hcs : Tab cs) (A : Option Addr) (c : Nat) (xs : List Nat) (w : World) (h : Sl w w.heap.size A xs) (hl : xs.length ≤ 16) :
    Calls Try.prog 109 #[.agg (cells cs), .slice A xs.length c] w (SearchR w (at_ (tr xs))) := by
  have HCS := Lib.hid hcs
  have hbW : Below w.heap.size w (w.alloc (.cells (cells cs) 33)) := (Below.refl _ _).alloc (Nat.le_refl _) _
  have hT := Lib.hid (tb_new w cs)
  have HA := Lib.hid (h.far hbW)
  replace hbW := Lib.hid hbW
  clear h hcs
  have hmk : ∀ w, (Instr.makeSlice 35 (.int .i64 17) (.int .i64 17)).run Try.prog w = .ok (.slice (some ⟨w.heap.size, 0, none⟩) x16.length x16.length) (w.alloc (.cells (madeCells #[.int .u16 0] x16.length) 29)) :=
    run_make_row' (P := Try.prog) 35 29 (.int .u16 0) 2 Try.underlying35 info22 rfl .i64 .i64 x16.length (by decide) (by decide)
  go_enter Try.func109, Try.ntmps109
  go_wp2_with fail
  refine scope_jumps 0 (fun a' w' => a'.defers = [] ∧ ∃ (a b u v : List Nat) (A' B U V : Option Addr) (ca cb cu cv : Nat), SearchJ w (at_ (tr xs)) cs (.slice A xs.length c) a'.tmps a b u v A' B U V ca cb cu cv w') lenA rfl ?_ ?_
  · rintro ⟨t, df⟩ wr ⟨hdf, a, b, u, v, A', B, U, V, ca, cb, cu, cv, HJ⟩
    have hEI := HJ.ei
    have h9 := HJ.h9
    have hcb := HJ.hb
    have hcv := HJ.hv
    have HSa := Lib.hid HJ.sa
    have HSb := Lib.hid HJ.sb
    have HSu := Lib.hid HJ.su
    have HSv := Lib.hid HJ.sv
    have HBe := Lib.hid HJ.be
    have HTb := Lib.hid HJ.tb
    replace hdf : df = [] := hdf
    subst hdf
    have e0 : t.getD 0 undef = _ := HJ.t0
    have e1 : t.getD 1 undef = _ := HJ.t1
    have e2 : t.getD 2 undef = _ := HJ.t2
    have e3 : t.getD 3 undef = _ := HJ.t3
    have e4 : t.getD 4 undef = _ := HJ.t4
    have e5 : t.getD 5 undef = _ := HJ.t5
    have e6 : t.getD 6 undef = _ := HJ.t6
    have e7 : t.getD 7 undef = _ := HJ.t7
    have e8 : t.getD 8 undef = _ := HJ.t8
    have e9 : t.getD 9 undef = _ := HJ.t9
    have eM : lenA { tmps := t, defers := [] } wr = b.length := by
      show lenV (t.getD 7 undef) = _
      rw [e7]; rfl
    rw [eM]
    rw [show t = _ from frame42 t HJ.size]
    rw [e0, e1, e2, e3, e4, e5, e6, e7, e8, e9]
    generalize t.getD 10 undef = u10
    generalize t.getD 11 undef = u11
    generalize t.getD 12 undef = u12
    generalize t.getD 13 undef = u13
    generalize t.getD 14 undef = u14
    generalize t.getD 15 undef = u15
    generalize t.getD 16 undef = u16
    generalize t.getD 17 undef = u17
    generalize t.getD 18 undef = u18
    generalize t.getD 19 undef = u19
    generalize t.getD 20 undef = u20
    generalize t.getD 21 undef = u21
    generalize t.getD 22 undef = u22
    generalize t.getD 23 undef = u23
    generalize t.getD 24 undef = u24
    generalize t.getD 25 undef = u25
    generalize t.getD 26 undef = u26
    generalize t.getD 27 undef = u27
    generalize t.getD 28 undef = u28
    generalize t.getD 29 undef = u29
    generalize t.getD 30 undef = u30
    generalize t.getD 31 undef = u31
    generalize t.getD 32 undef = u32
    generalize t.getD 33 undef = u33
    generalize t.getD 34 undef = u34
    generalize t.getD 35 undef = u35
    generalize t.getD 36 undef = u36
    generalize t.getD 37 undef = u37
    generalize t.getD 38 undef = u38
    generalize t.getD 39 undef = u39
    generalize t.getD 40 undef = u40
    generalize t.getD 41 undef = u41
    clear HJ e0 e1 e2 e3 e4 e5 e6 e7 e8 e9 eM hmk
    have hlen := hEI.len
    have hlb := hEI.lb
    have hlu := hEI.lu
    by_cases h8 : b.length ≤ 8
    · have hd : decide ((b.length : Int) ≤ 8) = true := by rw [decide_eq_true_eq]; omega
      replace hEI := Lib.hid hEI
      go_wp2_with fail
      try rw [jump_ret]
      go_ret2
      exact ⟨a, b, u, v, B, cb, V, cv, rfl, hEI.out, h9, h8, HSv.out, HSb.out, HBe.out⟩
    · have hd : decide ((b.length : Int) ≤ 8) = false := by rw [decide_eq_false_iff_not]; omega
      have hst := ei_step hEI (at_lt' (tr_bd _)) (by omega)
      have hne : tr b ≠ [] := by rw [hEI.tb]; intro e; rw [e] at h8; simp at h8
      have hi := HTb.out.is HCS.out.1
      have ho := HTb.out.of
      have hcd := pdiv_any cs HCS.out A' B ca cb a b wr HSa.out HSb.out (by omega) (by omega) hcb hne
      obtain ⟨Qq, hQ⟩ : ∃ Qq, Hid (pquo a b = Qq) := ⟨_, Lib.hid rfl⟩
      obtain ⟨Rr, hR⟩ : ∃ Rr, Hid (prem a b = Rr) := ⟨_, Lib.hid rfl⟩
      have hql : Qq.length ≤ 1000000 := by rw [← hQ.out]; exact Nat.le_trans pquo_len_le (by have := tr_len a; unfold divN; omega)
      rw [hQ.out, hR.out] at hst hcd
      obtain ⟨Pp, hP⟩ : ∃ Pp, Hid (pmul Qq v = Pp) := ⟨_, Lib.hid rfl⟩
      have hpl : Pp.length ≤ 1000000 := by rw [← hP.out]; exact Nat.le_trans (pmul_le' _ _) (by decide)
      rw [hP.out] at hst
      obtain ⟨Nn, hN⟩ : ∃ Nn, Hid (padd u Pp = Nn) := ⟨_, Lib.hid rfl⟩
      rw [hN.out] at hst
      have hst1 := Lib.hid hst.1
      have hst2 := Lib.hid hst.2
      replace hcd := Lib.hid hcd
      clear hst hne hEI
      go_wp2_with (first
        | (go_at_call 81; (with_reducible refine hcd.out.mono ?_); rintro e w1 ⟨g1, c1, g2, c2, rfl, hq1, hr1, hsq, hsr, hb1, _⟩; have HTb1 := Lib.hid (HTb.out.keep hb1); have hi1 := HTb1.out.is HCS.out.1; have ho1 := HTb1.out.of; replace hsq := Lib.hid hsq; replace hsr := Lib.hid hsr; replace hb1 := Lib.hid hb1; replace hr1 := Lib.hid hr1; have hcm := row_mul HCS.out hsq.out (HSv.out.far hb1.out) hql (by omega) hq1 hcv; rw [hP.out] at hcm; replace hcm := Lib.hid hcm)
        | (go_at_call 104; (with_reducible refine hcm.out.mono ?_); rintro e w2 ⟨Mm, rfl, hsm, hb2⟩; replace hsm := Lib.hid hsm; replace hb2 := Lib.hid hb2; have hcs := row_add (ca := cu) (cb := Pp.length) ((HSu.out.far hb1.out).far hb2.out) hsm.out (by omega) hpl; rw [hN.out] at hcs; replace hcs := Lib.hid hcs)
        | (go_at_call 118; (with_reducible refine hcs.out.mono ?_); rintro e w3 ⟨Oo, rfl, hsn, hb3⟩; replace hsn := Lib.hid hsn; replace hb3 := Lib.hid hb3))
      go_step3
      have hb12 := hb1.out.trans (hb2.out.mono hb1.out.size)
      have hb13 := hb12.trans (hb3.out.mono hb12.size)
      have hb23 := hb2.out.trans (hb3.out.mono hb2.out.size)
      refine ⟨rfl, ⟨rfl, b, Rr, v, Nn, _, _, _, _, _, _, _, _, ⟨hst1.out, by omega, hr1.out, Nat.le_refl _, HSb.out.far hb13, hsr.out.far hb23, HSv.out.far hb13, hsn.out, HBe.out.trans (hb13.mono HBe.out.size), HTb.out.keep hb13, rfl, rfl, rfl, rfl, rfl, rfl, rfl, rfl, rfl, rfl, rfl⟩⟩, ?_⟩
      exact hst2.out
  · intro body
    generalize w.alloc (.cells (cells cs) 33) = W at *
    have hct : Hid (∀ W', Below W.heap.size W W' → Calls Try.prog 99 #[.slice A xs.length c] W' (GivesB W' (tr xs))) := fun W' hb => ptrim_blk A c xs W' (HA.out.far hb) (by omega)
    go_wp2_with fail
    obtain ⟨T, hTr⟩ : ∃ T, Hid (tr xs = T) := ⟨_, Lib.hid rfl⟩
    rw [hTr.out] at hct
    refine wp_mono (Q := midQ fun a' w' => ∃ (g g2 : Nat), a' = { tmps := #[.agg (cells cs), .slice A xs.length c, .pointer (some ⟨w.heap.size, 0, none⟩), undef, .slice none 0 0, .slice none 0 0, .slice (some ⟨g, 0, none⟩) x16.length x16.length, .slice (some ⟨g2, 0, none⟩) T.length T.length, undef, undef, undef, undef, undef, .slice (some ⟨g, 0, none⟩) x16.length x16.length, .slice A xs.length c, .slice (some ⟨g2, 0, none⟩) T.length T.length, undef, undef, undef, undef, undef, undef, undef, undef, undef, undef, undef, undef, undef, undef, undef, undef, undef, undef, undef, undef, undef, undef, undef, undef, undef, undef], defers := [] } ∧
      Arr w' g (List.replicate x16.length 0) ∧ W.heap.size ≤ g ∧ Arr w' g2 T ∧ g2 ≠ g ∧ (∀ y ∈ T, y < 65536) ∧ Below W.heap.size W w') ?_ ?_
    · go_region_with (go_at_call 99; (refine (hct.out _ (by first | exact below_drewN (Below.refl _ _) _ | exact (below_drewN (Below.refl _ _) _).alloc (Nat.le_refl _) _)).mono ?_); rintro e w1 ⟨g2, hg2, rfl, hs1, hb1, hy⟩)
      · have hn : Below W.heap.size W (W.alloc (.cells (madeCells #[.int .u16 0] x16.length) 29)) := below_alloc _ _
        have hb1' : Below (W.alloc (.cells (madeCells #[.int .u16 0] x16.length) 29)).heap.size (W.alloc (.cells (madeCells #[.int .u16 0] x16.length) 29)) w1 := ⟨hb1.os, hb1.tape, hb1.output, hb1.size, hb1.block⟩
        have har : Arr (W.alloc (.cells (madeCells #[.int .u16 0] x16.length) 29)) W.heap.size (List.replicate x16.length 0) := by rw [made_uv]; exact Arr.new W _
        exact ⟨_, g2, rfl, har.below hb1' har.lt, Nat.le_refl _, hs1, Nat.ne_of_gt (Nat.lt_of_lt_of_le har.lt hg2), hy, hn.trans (hb1'.mono hn.size)⟩
      · have hb1' : Below W.heap.size W w1 := ⟨hb1.os, hb1.tape, hb1.output, hb1.size, hb1.block⟩
        have hn : Below w1.heap.size w1 (w1.alloc (.cells (madeCells #[.int .u16 0] x16.length) 29)) := below_alloc _ _
        have har : Arr (w1.alloc (.cells (madeCells #[.int .u16 0] x16.length) 29)) w1.heap.size (List.replicate x16.length 0) := by rw [made_uv]; exact Arr.new w1 _
        exact ⟨_, g2, rfl, har, hb1'.size, hs1.below hn hs1.lt, Nat.ne_of_lt hs1.lt, hy, hb1'.trans (hn.mono hb1'.size)⟩
    · intro e a' w3 hm
      cases e
      case normal =>
        obtain ⟨g, g2, rfl, hA3, hg, hs3, hne, hy, hb3⟩ := hm
        have hx16 : (16 : Int) < (x16.length : Int) := by decide
        have hc16 : w3.cell? ⟨g, 16, none⟩ = some (.int .u16 0) := by
          have h := hA3.cell (i := 16) (by rw [List.length_replicate]; decide)
          simpa using h
        have hf16 := hA3.frozen 16
        have hbW3 := Lib.hid (hbW.out.trans (hb3.mono hbW.out.size))
        have hT3 := Lib.hid (hT.out.keep hb3)
        have ha4 : Arr (w3.setCell ⟨g, 16, none⟩ (.int .u16 1)) g x16 := hA3.set_ 16 1
        have hb4 : Below W.heap.size W (w3.setCell ⟨g, 16, none⟩ (.int .u16 1)) := hb3.setCell (p := ⟨g, 16, none⟩) hg _
        have hgT : w.heap.size ≠ g := by have := hT.out.lt; omega
        have hT4 : Tb (w3.setCell ⟨g, 16, none⟩ (.int .u16 1)) w.heap.size cs := hT3.out.other _ _ (by show w.heap.size ≠ g; exact hgT)
        go_wp2_with fail
        have h9w : w3.heap.size = (w3.setCell ⟨g, 16, none⟩ (.int .u16 1)).heap.size := by simp [World.setCell]
        go_step3
        rename_i K1 hk1
        have hW4 : Below w.heap.size w (w3.setCell ⟨g, 16, none⟩ (.int .u16 1)) := hbW.out.trans (hb4.mono hbW.out.size)
        have hs4 : Sl (w3.setCell ⟨g, 16, none⟩ (.int .u16 1)) (w3.setCell ⟨g, 16, none⟩ (.int .u16 1)).heap.size (some ⟨g2, 0, none⟩) T := (hs3.far (p := ⟨g, 16, none⟩) hne _).sl hy
        rw [h9w]
        generalize w3.setCell ⟨g, 16, none⟩ (.int .u16 1) = w4 at *
        have hn5 := below_alloc w4 (.cells #[] 29)
        have hn6 := below_alloc (w4.alloc (.cells #[] 29)) (.cells #[.int .u16 1] 29)
        have hn := hn5.trans (hn6.mono hn5.size)
        have hv := sl_new (w4.alloc (.cells #[] 29)) (.cells #[.int .u16 1] 29) [1] (w4.heap.size + 1) (by simp) rfl (by decide)
        exact hk1 _ _ (body _ _ ⟨rfl, x16, T, [], [1], _, _, _, _, x16.length, T.length, 0, 1, by
          refine ⟨?_, by decide, Nat.le_refl _, Nat.le_refl _, ?_, hs4.far hn, Sl.nil _ _ _, hv, hW4.trans (hn.mono hW4.size), hT4.keep hn, rfl, rfl, rfl, rfl, rfl, rfl, rfl, rfl, rfl, rfl, rfl⟩
          · rw [← hTr.out]
            exact ei_start (tr_tr xs) (Nat.le_trans (tr_len xs) hl)
          · exact (ha4.sl (by decide)).far hn⟩)
      all_goals exact hm.elim
end Go.Proofs.Ytmchelbmeajcnaa
namespace Go.Proofs.Ytmchelbmeajcnaa
open Go.RowKit Go.Gf
set_option maxRecDepth 20000
attribute [local go_sem ↓] exec_load_tb Cl.quiet_since
attribute [local go_sem] tbAt_ptr tbIn_ptr

theorem at_row {cs : List Nat} (hl : Tab cs) (A : Option Addr) (c : Nat) (xs : List Nat) (w : World) {x V : Nat} (ha : Sl w w.heap.size A xs) (hla : xs.length ≤ 1000000) (hx : x < 1024) (hV : ev x xs = V) :
    Calls Try.prog 117 #[.agg (cells cs), .slice A xs.length c, .int .u16 (x : Int)] w (Leaves w (.int .u16 (V : Int))) := by
  have := val_at (w := w) (ca := c) (x := (x : Int)) hl ha hla (by omega) (by omega)
  rwa [show ((x : Int).toNat % 1024) = x by rw [Int.toNat_natCast]; omega, hV] at this
set_option maxHeartbeats 4000000 in
set_option maxRecDepth 20000 in
theorem off_any (cs : List Nat) (hcs : Tab cs) (A B : Option Addr) (ca cb : Nat) (b d : List Nat) (x : Nat) (w : World) (ha : Sl w w.heap.size A b) (hb : Sl w w.heap.size B d) (hla : b.length ≤ 1000000) (hlb : d.length ≤ 1000000) (hx : x < 1024) :
    Calls Try.prog 120 #[.agg (cells cs), .slice A b.length ca, .slice B d.length cb, .int .u16 (x : Int)] w (Leaves w (.int .u16 ((gm (ev x b) (ginv (ev x d)) : Nat) : Int))) := by
  have HCS := Lib.hid hcs
  have hbW : Hid (Below w.heap.size w (w.alloc (.cells (cells cs) 33))) := (Below.refl _ _).alloc (Nat.le_refl _) _
  have hT := Lib.hid (tb_new w cs)
  have HA := Lib.hid (ha.far hbW.out)
  have HB := Lib.hid (hb.far hbW.out)
  obtain ⟨D, hD⟩ : ∃ D, Hid (ev x d = D) := ⟨_, Lib.hid rfl⟩
  obtain ⟨V, hV⟩ : ∃ V, Hid (ev x b = V) := ⟨_, Lib.hid rfl⟩
  have hD1 : D < 1024 := by rw [← hD.out]; exact ev_lt _ _
  have hV1 : V < 1024 := by rw [← hV.out]; exact ev_lt _ _
  rw [hV.out, hD.out]
  obtain ⟨G, hG⟩ : ∃ G, Hid (ginv D = G) := ⟨_, Lib.hid rfl⟩
  have hG1 : G < 1024 := by rw [← hG.out]; exact ginv_lt _
  obtain ⟨ok, hok⟩ : ∃ ok, (((D : Int) % 1024 != 0) = ok) := ⟨_, rfl⟩
  have hInv : Hid (InvIs D G ok) := invIs (by omega) (by omega) (by
    unfold invI
    rw [Int.toNat_natCast, Nat.mod_eq_of_lt hD1, hG.out]) hok
  have hMul : Hid (MulIs V G ((gm V G : Nat) : Int)) := mulIs (by omega) (by omega) (by omega) (by omega) (mulI_nat hV1 hG1)
  rw [hG.out]
  generalize gm V G = Z at *
  clear ha hb hcs hok
  go_enter Try.func120, Try.ntmps120
  go_wp2_with fail
  refine Cl.region_way (fun _ => True) 11 [(0, .r), (1, .r), (2, .r), (3, .r), (4, .c), (5, .c), (6, .r), (7, .r), (8, .r), (9, .r), (10, .r)] (by kernel_rfl) (by kernel_rfl) ?_
  intro w1 hk1
  have HT1 := Lib.hid (Keeps.tb hk1 hT.out)
  have HB1 := Lib.hid (hbW.out.trans ((Cl.Keeps.below hk1).mono hbW.out.size))
  have HA1 := Lib.hid (HA.out.far (Cl.Keeps.below hk1))
  have HD1 := Lib.hid (HB.out.far (Cl.Keeps.below hk1))
  have hiA : ∀ y : Cl.Since (fun _ => True) w1, isTb y.w w.heap.size = true := fun y => (Keeps.tb y.keeps HT1.out).is HCS.out.1
  have hoA : ∀ y : Cl.Since (fun _ => True) w1, tbOf y.w w.heap.size = cells cs := fun y => (Keeps.tb y.keeps HT1.out).of
  iterate 4 (refine Cl.way_r rfl ?_; go_big_quiet_step (fail); refine wpQuiet_nil ?_)
  clear hk1 hiA hoA hT hbW HA HB
  have hc1 := Lib.hid (at_row HCS.out B cb d w1 HD1.out hlb hx hD.out)
  refine Cl.way_c rfl ?_
  go_wp2_with (go_at_call 117; (with_reducible refine hc1.out.mono ?_); rintro e w2 ⟨rfl, hb2⟩)
  refine Cl.way_on (Cl.Keeps.of_below hb2) ?_
  have HT2 := Lib.hid (HT1.out.keep hb2)
  have HB2 := Lib.hid (HB1.out.trans (hb2.mono HB1.out.size))
  have HA2 := Lib.hid (HA1.out.far hb2)
  clear hc1 hb2 HT1 HB1 HA1 HD1
  refine Cl.way_c rfl ?_
  go_wp2_with (go_at_call 98; (with_reducible refine (hInv.out.at HCS.out _).mono ?_); rintro e w3 ⟨rfl, hb3⟩)
  refine Cl.way_on (Cl.Keeps.of_below hb3) ?_
  have HT3 := Lib.hid (HT2.out.keep hb3)
  have HB3 := Lib.hid (HB2.out.trans (hb3.mono HB2.out.size))
  have HA3 := Lib.hid (HA2.out.far hb3)
  clear hb3 HT2 HB2 HA2
  iterate 5 (refine Cl.way_r rfl ?_; go_big_quiet_step (fail); refine wpQuiet_nil ?_)
  refine Cl.way_end ?_
  go_wp2_with fail
  refine Cl.region_way (fun _ => True) 8 [(0, .r), (1, .r), (2, .r), (3, .r), (5, .r), (4, .c), (6, .c), (7, .r)] (by kernel_rfl) (by kernel_rfl) ?_
  intro w4 hk4
  have HT4 := Lib.hid (Keeps.tb hk4 HT3.out)
  have HB4 := Lib.hid (HB3.out.trans ((Cl.Keeps.below hk4).mono HB3.out.size))
  have HA4 := Lib.hid (HA3.out.far (Cl.Keeps.below hk4))
  have hiA : ∀ y : Cl.Since (fun _ => True) w4, isTb y.w w.heap.size = true := fun y => (Keeps.tb y.keeps HT4.out).is HCS.out.1
  have hoA : ∀ y : Cl.Since (fun _ => True) w4, tbOf y.w w.heap.size = cells cs := fun y => (Keeps.tb y.keeps HT4.out).of
  iterate 5 (refine Cl.way_r rfl ?_; go_big_quiet_step (fail); refine wpQuiet_nil ?_)
  clear hk4 hiA hoA HT3 HB3 HA3
  have hc4 := Lib.hid (at_row HCS.out A ca b w4 HA4.out hla hx hV.out)
  refine Cl.way_c rfl ?_
  go_wp2_with (go_at_call 117; (with_reducible refine hc4.out.mono ?_); rintro e w5 ⟨rfl, hb5⟩)
  refine Cl.way_on (Cl.Keeps.of_below hb5) ?_
  have HB5 := Lib.hid (HB4.out.trans (hb5.mono HB4.out.size))
  clear hc4 hb5 HB4 HT4 HA4
  refine Cl.way_c rfl ?_
  go_wp2_with (go_at_call 100; (with_reducible refine (hMul.out.at cs _).mono ?_); rintro e w6 ⟨rfl, hb6⟩)
  refine Cl.way_on (Cl.Keeps.of_below hb6) ?_
  have HB6 := Lib.hid (HB5.out.trans (hb6.mono HB5.out.size))
  clear hb6 HB5
  iterate 1 (refine Cl.way_r rfl ?_; go_big_quiet_step (fail); refine wpQuiet_nil ?_)
  refine Cl.way_end ?_
  go_wp2_with fail
  go_ret
  exact ⟨rfl, HB6.out⟩
end Go.Proofs.Ytmchelbmeajcnaa
namespace Go.Proofs.Ytmchelbmeajcnaa
open Go.RowKit Go.Gf
set_option maxRecDepth 20000
attribute [local go_sem ↓] exec_load_tb Cl.quiet_since
attribute [local go_sem] tbAt_ptr tbIn_ptr

/-- a copy of one's own, put right -/
def MendR (w : World) (n : Nat) (f : Nat → Nat) (e : Ending) (w' : World) : Prop :=
  ∃ g c, e = .returned (.slice (some ⟨g, 0, none⟩) n c) ∧ n ≤ c ∧ w.heap.size ≤ g ∧ Pre w' g n f ∧ Below w.heap.size w w'
theorem ivp_exp {n k : Nat} (hk : k < n) : ((ivp n k : Nat) : Int) = expI (1 - (n : Int) + (k : Int)) := by
  have h := invI_exp ((n - 1 - k : Nat) : Int)
  rw [show -(((n - 1 - k : Nat)) : Int) = 1 - (n : Int) + (k : Int) by omega, ← expI_nat] at h
  rw [← h]
  unfold invI ivp loc
  rw [Int.toNat_natCast, Nat.mod_eq_of_lt (E_lt _)]
theorem DecL.tb {w9 wr : World} {g n h : Nat} {f : Nat → Nat} {cs : List Nat} (H : DecL w9 g n f wr) (t : Tb w9 h cs) (hg : h ≠ g) : Tb wr h cs := (H.1.block h t.lt hg).trans t
theorem slope_row {n : Nat} (A : Option Addr) (c : Nat) (xs : List Nat) (w : World) (hn : xs.length = n) (h : Sl w w.heap.size A xs) (hl : n ≤ 1000000) :
    Calls Try.prog 119 #[.slice A n c] w fun e w' => ∃ B, e = .returned (.slice B (slope xs).length (slope xs).length) ∧ SlF w' w.heap.size B (slope xs) ∧ Below w.heap.size w w' := by
  subst hn
  refine (pslope_blk A c xs w h hl).mono ?_
  rintro e w' ⟨g, hg, rfl, ha, hb, hy⟩
  exact ⟨_, rfl, (ha.sl hy).fresh (fun a e => by injection e with e; rw [← e]; exact hg), hb⟩
set_option maxHeartbeats 8000000 in
set_option maxRecDepth 20000 in
theorem mend_any (cs : List Nat) (hcs : Tab cs) (A B C : Option Addr) (c cb cc : Nat) (xs v b : List Nat) (w : World) (ha : Sl w w.heap.size A xs) (hb : Sl w w.heap.size B v) (hc : Sl w w.heap.size C b)
    (h1 : 1 ≤ xs.length) (h2 : xs.length ≤ 1023) (hlv : v.length ≤ 1000000) (hlb : b.length ≤ 1000000) (hx : ∀ x ∈ xs, x < 1024) :
    Calls Try.prog 110 #[.agg (cells cs), .slice A xs.length c, .slice B v.length cb, .slice C b.length cc] w (MendR w xs.length (fixd v b (slope v) xs xs.length)) := by
  have HCS := Lib.hid hcs
  have HX := Lib.hid hx
  have hbW : Below w.heap.size w (w.alloc (.cells (cells cs) 33)) := (Below.refl _ _).alloc (Nat.le_refl _) _
  have hT := Lib.hid (tb_new w cs)
  have HB := Lib.hid (hb.far hbW)
  have HC := Lib.hid (hc.far hbW)
  have hxne : Hid (xs ≠ []) := by intro e; rw [e] at h1; simp at h1
  have hcl := Lib.hid (clone_any A c xs _ (ha.far hbW) (by omega))
  have hslen := Lib.hid (slope_le v)
  have hXE0 : Hid (ExpIs (1 - (xs.length : Int)) ((ivp xs.length 0 : Nat) : Int)) := expIs (by
    rw [ivp_exp (by omega)]
    congr 1; omega)
  have hXE1 : Hid (ExpIs 1 ((E 1 : Nat) : Int)) := expIs (expI_nat 1).symm
  have hstep : Hid (∀ k, k + 1 < xs.length → mulI ((ivp xs.length k : Nat) : Int) ((E 1 : Nat) : Int) = ((ivp xs.length (k + 1) : Nat) : Int)) := fun k hk => by
    rw [ivp_exp (by omega), ivp_exp hk, expI_nat, mulI_exp]
    congr 1
    push_cast
    omega
  have hE1 := E_lt 1
  obtain ⟨N1, hN1⟩ : ∃ N1, Hid (E 1 = N1) := ⟨_, Lib.hid rfl⟩
  rw [hN1.out] at hXE1 hstep hE1
  clear ha hb hc hcs hx hbW
  go_enter Try.func110, Try.ntmps110
  go_wp2_with (first
    | (go_at_call 102; (with_reducible refine hcl.out.mono ?_); rintro e w1 ⟨A1, c1, rfl, hc1, hp1, _, hb1⟩; obtain ⟨g, rfl, hg, hp⟩ := hp1 hxne.out; clear hp1; replace hp := Lib.hid hp; replace hg := Lib.hid hg; replace hb1 := Lib.hid hb1; have hsl := Lib.hid (slope_row B cb v w1 rfl (HB.out.far hb1.out) hlv))
    | (go_at_call 119; (with_reducible refine hsl.out.mono ?_); rintro e w2 ⟨S, rfl, hs2, hb2⟩; replace hs2 := Lib.hid hs2; replace hb2 := Lib.hid hb2))
  have hbW : Below w.heap.size w (w.alloc (.cells (cells cs) 33)) := (Below.refl _ _).alloc (Nat.le_refl _) _
  have hgw : w.heap.size < g := Nat.lt_of_lt_of_le hT.out.lt hg.out
  have HT2 := Lib.hid ((hT.out.keep hb1.out).keep hb2.out)
  have HW2 := Lib.hid ((hbW.trans (hb1.out.mono hbW.size)).trans (hb2.out.mono (Nat.le_trans hbW.size hb1.out.size)))
  have HP2 := Lib.hid (hp.out.keep (hb2.out.block g hp.out.lt))
  have HB2 : Hid (Sl w2 g B v) := ((HB.out.below hb1.out).below (hb2.out.mono hb1.out.size)).more hg.out
  have HC2 : Hid (Sl w2 g C b) := ((HC.out.below hb1.out).below (hb2.out.mono hb1.out.size)).more hg.out
  have hg1 : Hid (g < w1.heap.size) := hp.out.lt
  obtain ⟨lo, hlo⟩ : ∃ lo, Hid (w1.heap.size = lo) := ⟨_, Lib.hid rfl⟩
  rw [hlo.out] at hs2 hg1
  replace hgw := Lib.hid hgw
  obtain ⟨d, hd⟩ : ∃ d, Hid (slope v = d) := ⟨_, Lib.hid rfl⟩
  rw [hd.out] at hs2 hslen ⊢
  clear hbW hT hb1 hb2 hp hcl hsl HB HC hlo hg
  refine Cl.region_way (fun _ => True) 9 [(0, .r), (1, .r), (2, .r), (3, .r), (5, .r), (4, .c), (6, .c), (7, .r), (8, .r)] (by kernel_rfl) (by kernel_rfl) ?_
  intro w3 hk3
  have HT3 := Lib.hid (Keeps.tb hk3 HT2.out)
  have HW3 := Lib.hid (HW2.out.trans ((Cl.Keeps.below hk3).mono HW2.out.size))
  have HP3 := Lib.hid (HP2.out.keep (hk3.block g HP2.out.lt trivial))
  have HB3 := Lib.hid (HB2.out.below ((Cl.Keeps.below hk3).mono (Nat.le_of_lt HP2.out.lt)))
  have HC3 := Lib.hid (HC2.out.below ((Cl.Keeps.below hk3).mono (Nat.le_of_lt HP2.out.lt)))
  have HS3 := Lib.hid (hs2.out.far (Cl.Keeps.below hk3))
  have hiA : ∀ y : Cl.Since (fun _ => True) w3, isTb y.w w.heap.size = true := fun y => (Keeps.tb y.keeps HT3.out).is HCS.out.1
  have hoA : ∀ y : Cl.Since (fun _ => True) w3, tbOf y.w w.heap.size = cells cs := fun y => (Keeps.tb y.keeps HT3.out).of
  iterate 5 (refine Cl.way_r rfl ?_; go_big_quiet_step (fail); refine wpQuiet_nil ?_)
  clear hk3 hiA hoA HT2 HW2 HP2 HB2 HC2 hs2
  refine Cl.way_c rfl ?_
  go_wp2_with (go_at_call 105; (with_reducible refine (hXE0.out.at HCS.out _).mono ?_); rintro e w4 ⟨rfl, hb4⟩)
  refine Cl.way_on (Cl.Keeps.of_below hb4) ?_
  refine Cl.way_c rfl ?_
  go_wp2_with (go_at_call 105; (with_reducible refine (hXE1.out.at HCS.out _).mono ?_); rintro e w5 ⟨rfl, hb5⟩)
  refine Cl.way_on (Cl.Keeps.of_below hb5) ?_
  have hb35 := hb4.trans (hb5.mono hb4.size)
  have HT5 := Lib.hid (HT3.out.keep hb35)
  have HW5 := Lib.hid (HW3.out.trans (hb35.mono HW3.out.size))
  have HP5 := Lib.hid (HP3.out.keep (hb35.block g HP3.out.lt))
  have HB5 := Lib.hid (HB3.out.below (hb35.mono (Nat.le_of_lt HP3.out.lt)))
  have HC5 := Lib.hid (HC3.out.below (hb35.mono (Nat.le_of_lt HP3.out.lt)))
  have HS5 := Lib.hid (HS3.out.far hb35)
  clear hb4 hb5 hb35 HT3 HW3 HP3 HB3 HC3 HS3 hXE0 hXE1
  iterate 2 (refine Cl.way_r rfl ?_; go_big_quiet_step (fail); refine wpQuiet_nil ?_)
  refine Cl.way_end ?_
  go_wp2_with fail
  have HL0 : Hid (DecL w5 g xs.length (fx v b xs 0) w5) := (DecL.start HP5.out).congr fun j _ => by
    unfold fx
    rw [if_neg (by omega)]
  have hg5 : Hid (g ≤ w5.heap.size) := Nat.le_of_lt HP5.out.lt
  go_loopw [11, 27] (fun x q wr => ∃ k : Nat, k ≤ xs.length ∧ q = .int .i64 k ∧ (k < xs.length → x = .int .u16 ((ivp xs.length k : Nat) : Int)) ∧ (∃ X : Nat, X < 65536 ∧ x = .int .u16 (X : Int)) ∧ DecL w5 g xs.length (fx v b xs k) wr) (fun _ q _ => xs.length - (intOf q).toNat)
  case atStart => exact ⟨0, Nat.zero_le _, rfl, fun _ => rfl, ⟨_, by have := ivp_lt xs.length 0; omega, rfl⟩, HL0.out⟩
  case round =>
    clear HL0 HP5
    obtain ⟨k, hk, rfl, hxk, ⟨X0, hX0, rfl⟩, HL⟩ := hrel
    replace HL := Lib.hid HL
    by_cases hlt : k < xs.length
    · have hxe := hxk hlt
      injection hxe with _ hxe
      obtain ⟨I, hI⟩ : ∃ I, Hid (ivp xs.length k = I) := ⟨_, Lib.hid rfl⟩
      have hI1 : I < 1024 := by rw [← hI.out]; exact ivp_lt _ _
      rw [hI.out] at hxe
      obtain rfl : X0 = I := by omega
      clear hxk hxe hX0
      have hkI : (k : Int) < (xs.length : Int) := by omega
      obtain ⟨EV, hEV⟩ : ∃ EV, Hid (ev X0 v = EV) := ⟨_, Lib.hid rfl⟩
      have hTr := HL.out.tb HT5.out (by have := hgw.out; omega)
      have hi0 : isTb wr w.heap.size = true := hTr.is HCS.out.1
      have ho0 : tbOf wr w.heap.size = cells cs := hTr.of
      have hca := Lib.hid (at_row HCS.out B cb v wr (HL.out.word HB5.out (Nat.le_refl _) hg5.out) hlv hI1 hEV.out)
      -- the next place's power
      obtain ⟨J, hJ1, hMul, hJ⟩ : ∃ J : Nat, J < 65536 ∧ MulIs X0 N1 J ∧ (k + 1 < xs.length → ivp xs.length (k + 1) = J) := by
        refine ⟨gm X0 N1, by have := gm_lt N1 hI1; omega, mulIs (by omega) (by omega) (by omega) (by omega) (mulI_nat hI1 hE1), fun hk1 => ?_⟩
        have := hstep.out k hk1
        rw [hI.out, mulI_nat hI1 hE1] at this
        omega
      replace hMul := Lib.hid hMul
      replace hJ := Lib.hid hJ
      replace hTr := Lib.hid hTr
      by_cases h0 : EV = 0
      · have hz : ((EV : Int) == 0) = true := by simp [h0]
        obtain ⟨Z, hZ⟩ : ∃ Z, Hid (gm (ev X0 b) (ginv (ev X0 d)) = Z) := ⟨_, Lib.hid rfl⟩
        have hZ1 : Z < 1024 := by rw [← hZ.out]; exact gm_lt _ (ev_lt _ _)
        obtain ⟨Y, hY⟩ : ∃ Y, Hid (at_ xs k = Y) := ⟨_, Lib.hid rfl⟩
        have hY1 : Y < 1024 := by rw [← hY.out]; exact at_lt HX.out (by decide)
        have hYZ : Y ^^^ Z < 1024 := xor_lt hY1 hZ1
        have hAdd : Hid (AddIs Y Z ((Y ^^^ Z : Nat) : Int)) := addIs (by omega) (by omega) (by omega) (by omega) (by
          unfold addI
          rw [Int.toNat_natCast, Int.toNat_natCast, Nat.mod_eq_of_lt hYZ])
        have hnext : Hid (∀ j, j < xs.length → (if j = k then Y ^^^ Z else fx v b xs k j) = fx v b xs (k + 1) j) := fun j _ => by
          unfold fx
          by_cases h1 : j = k
          · rw [if_pos h1, if_pos (by omega), h1]
            unfold fixd
            rw [hI.out, hEV.out, if_pos h0, hd.out, hZ.out, hY.out]
          · rw [if_neg h1]
            by_cases h2 : j < k
            · rw [if_pos h2, if_pos (by omega)]
            · rw [if_neg h2, if_neg (by omega)]
        have hfk : Hid (fx v b xs k k = Y) := by
          unfold Hid fx
          rw [if_neg (by omega), hY.out]
        generalize hW : Y ^^^ Z = U at *
        clear h0 hY hW
        go_wp2_with (go_at_call 117; (with_reducible refine hca.out.mono ?_); rintro e w6 ⟨rfl, hb6⟩)
        have HL6 := Lib.hid (HL.out.keeps (Cl.Keeps.of_below hb6))
        clear HL hb6 hca hi0 ho0 hTr
        refine Cl.region_way (fun _ => True) 13 [(0, .r), (1, .r), (2, .r), (3, .r), (4, .r), (5, .r), (6, .r), (7, .r), (8, .r), (9, .r), (10, .c), (11, .c), (12, .r), (13, .z)] (by kernel_rfl) (by kernel_rfl) ?_
        intro w7 hk7
        have HL7 := Lib.hid (HL6.out.keeps hk7)
        have HT7 := Lib.hid (HL7.out.tb HT5.out (by have := hgw.out; omega))
        have hcA : ∀ y : Cl.Since (fun _ => True) w7, y.w.cell? ⟨g, k, none⟩ = some (.int .u16 (Y : Int)) := fun y => by
          rw [← hfk.out]
          exact (HL7.out.keeps y.keeps).2.cell hlt
        have hiA : ∀ y : Cl.Since (fun _ => True) w7, isTb y.w w.heap.size = true := fun y => (Keeps.tb y.keeps HT7.out).is HCS.out.1
        have hoA : ∀ y : Cl.Since (fun _ => True) w7, tbOf y.w w.heap.size = cells cs := fun y => (Keeps.tb y.keeps HT7.out).of
        iterate 10 (refine Cl.way_r rfl ?_; go_big_quiet_step (fail); refine wpQuiet_nil ?_)
        clear hk7 hiA hoA hcA HL6 HT7
        have hco := off_any cs HCS.out C S cc d.length b d X0 w7 (HL7.out.word HC5.out (Nat.le_refl _) hg5.out) (HL7.out.slf HS5.out hg1.out) hlb (by have := hslen.out; omega) hI1
        rw [hZ.out] at hco
        replace hco := Lib.hid hco
        refine Cl.way_c rfl ?_
        go_wp2_with (go_at_call 120; (with_reducible refine hco.out.mono ?_); rintro e w8 ⟨rfl, hb8⟩)
        refine Cl.way_on (Cl.Keeps.of_below hb8) ?_
        have HL8 := Lib.hid (HL7.out.keeps (Cl.Keeps.of_below hb8))
        clear hco hb8 HL7
        refine Cl.way_c rfl ?_
        go_wp2_with (go_at_call 116; (with_reducible refine (hAdd.out.at _).mono ?_); rintro e w9 ⟨rfl, rfl⟩)
        refine Cl.way_on (Cl.Keeps.refl _ _) ?_
        iterate 1 (refine Cl.way_r rfl ?_; go_big_quiet_step (fail); refine wpQuiet_nil ?_)
        refine Cl.way_z rfl ?_
        have hc8 := HL8.out.2.cell hlt
        rw [hfk.out] at hc8
        have hf8 := HL8.out.2.frozen k
        have HL9 := Lib.hid ((HL8.out.set_ k U).congr hnext.out)
        have hT9 := Lib.hid (HL9.out.tb HT5.out (by have := hgw.out; omega))
        have hi9 : isTb (w8.setCell ⟨g, k, none⟩ (.int .u16 (U : Int))) w.heap.size = true := hT9.out.is HCS.out.1
        have ho9 : tbOf (w8.setCell ⟨g, k, none⟩ (.int .u16 (U : Int))) w.heap.size = cells cs := hT9.out.of
        clear HL8 hnext hfk
        go_wp2_with fail
        refine Cl.Calm.normal ?_
        clear hc8 hf8
        generalize w8.setCell ⟨g, k, none⟩ (.int .u16 (U : Int)) = w9 at *
        go_wp2_with (go_at_call 100; (with_reducible refine (hMul.out.at cs _).mono ?_); rintro e w10 ⟨rfl, hb10⟩)
        have HL10 := Lib.hid (HL9.out.keeps (Cl.Keeps.of_below hb10))
        clear HL9 hb10 hi9 ho9 hT9
        go_roundw
        case rel => exact ⟨k + 1, by omega, by go_num, fun h => by rw [hJ.out h], ⟨J, hJ1, rfl⟩, HL10.out⟩
        case measure => simp [intOf]; omega
      · have hz : ((EV : Int) == 0) = false := by simp; omega
        have HL2 : Hid (DecL w5 g xs.length (fx v b xs (k + 1)) wr) := HL.out.congr fun j _ => by
          unfold fx
          by_cases h1 : j = k
          · rw [if_neg (by omega), if_pos (by omega), h1]
            unfold fixd
            rw [hI.out, hEV.out, if_neg h0, Nat.xor_zero]
          · by_cases h2 : j < k
            · rw [if_pos h2, if_pos (by omega)]
            · rw [if_neg h2, if_neg (by omega)]
        clear h0 HL
        go_wp2_with (first
          | (go_at_call 117; (with_reducible refine hca.out.mono ?_); rintro e w6 ⟨rfl, hb6⟩; have hi6 : isTb w6 w.heap.size = true := (hTr.out.keep hb6).is HCS.out.1; have ho6 : tbOf w6 w.heap.size = cells cs := (hTr.out.keep hb6).of; replace hb6 := Lib.hid hb6)
          | (go_at_call 100; (with_reducible refine (hMul.out.at cs _).mono ?_); rintro e w7 ⟨rfl, hb7⟩))
        have HL7 := Lib.hid ((HL2.out.keeps (Cl.Keeps.of_below hb6.out)).keeps (Cl.Keeps.of_below hb7))
        clear HL2 hb6 hb7 hi6 ho6 hTr hi0 ho0
        go_roundw
        case rel => exact ⟨k + 1, by omega, by go_num, fun h => by rw [hJ.out h], ⟨J, hJ1, rfl⟩, HL7.out⟩
        case measure => simp [intOf]; omega
    · obtain rfl : k = xs.length := by omega
      have HL2 := Lib.hid (HL.out.congr (f' := fixd v b (slope v) xs xs.length) fun j hj => by unfold fx; rw [if_pos hj])
      clear HL hxk
      go_wp2_with fail
      go_ret
      rw [← hd.out]
      exact ⟨g, c1, rfl, hc1, Nat.le_of_lt hgw.out, HL2.out.2, HL2.out.below HW5.out (Nat.le_of_lt hgw.out)⟩
end Go.Proofs.Ytmchelbmeajcnaa
namespace Go.Proofs.Ytmchelbmeajcnaa
open Go.RowKit Go.Gf
set_option maxRecDepth 20000

set_option maxHeartbeats 2000000 in
theorem distance_any (A B : Option Addr) (ca cb : Nat) (xs ys : List Nat) (w : World) (ha : Sl w w.heap.size A xs) (hb : Sl w w.heap.size B ys) (hla : xs.length ≤ 1000000) (hlb : ys.length ≤ 1000000) :
    Calls Try.prog 111 #[.slice A xs.length ca, .slice B ys.length cb] w (Quietly w (.int .i64 ((dl xs ys : Nat) : Int))) := by
  have HA := Lib.hid ha
  have HB := Lib.hid hb
  clear ha hb
  rcases Nat.lt_trichotomy xs.length ys.length with hle | hle | hle
  · have HD : Hid (dl xs ys = (ys.length - xs.length) + cnt xs ys xs.length) := by
      unfold Hid dl; rw [cnt_end (by omega)]; congr 1; omega
    generalize dl xs ys = T at HD
    go_enter Try.func111, Try.ntmps111
    go_wp2
    go_loopw [6, 21] (fun n i wr => ∃ k : Nat, k ≤ xs.length ∧ i = .int .i64 k ∧ n = .int .i64 (((ys.length - xs.length) + cnt xs ys k : Nat) : Int) ∧ Drawn w wr) (fun _ i _ => xs.length - (intOf i).toNat)
    case atStart => exact ⟨0, Nat.zero_le _, rfl, by rw [cnt_zero]; first | rfl | (congr 1; omega), ⟨0, rfl⟩⟩
    case round =>
      obtain ⟨k, hk, rfl, rfl, HW⟩ := hrel
      have hck := cnt_le xs ys k
      by_cases hlt : k < xs.length
      · have hk1 : k < xs.length := by omega
        have hk2 : k < ys.length := by omega
        obtain ⟨a, hAe, hab, hcell⟩ := (HA.out.drawn HW).at_ hk1
        obtain ⟨b, hBe, hbb, hcellb⟩ := (HB.out.drawn HW).at_ hk2
        subst hAe hBe
        have hst := cnt_step hk1 hk2
        by_cases he : xs[k] = ys[k]
        · rw [if_pos he] at hst
          have hne : ((xs[k] : Int) != (ys[k] : Int)) = false := by simp [he]
          have HS := Lib.hid hst
          clear hst he
          go_wp2
          go_quiet (fail)
          go_wp2
          go_roundw
          case rel => exact ⟨k + 1, by omega, by go_num, by rw [HS.out]; rfl, HW.drewN _⟩
          case measure => simp [intOf]; omega
        · rw [if_neg he] at hst
          have hne : ((xs[k] : Int) != (ys[k] : Int)) = true := by simp; omega
          have HS := Lib.hid hst
          clear hst he
          go_wp2
          go_quiet (fail)
          go_wp2
          go_roundw
          case rel => exact ⟨k + 1, by omega, by go_num, by rw [HS.out]; go_num, HW.drewN _⟩
          case measure => simp [intOf]; omega
      · obtain rfl : k = xs.length := by omega
        have HD' := HD.out
        subst HD'
        go_wp2
        go_ret
        exact ⟨rfl, HW⟩
  · have HD : Hid (dl xs ys = 0 + cnt xs ys xs.length) := by
      unfold Hid dl; rw [cnt_end (by omega)]; congr 1; omega
    have h1 : xs.length ≤ ys.length := by omega
    have h2 : ys.length ≤ xs.length := by omega
    clear hle
    generalize dl xs ys = T at HD
    go_enter Try.func111, Try.ntmps111
    go_wp2
    go_loopw [6, 21] (fun n i wr => ∃ k : Nat, k ≤ xs.length ∧ i = .int .i64 k ∧ n = .int .i64 ((0 + cnt xs ys k : Nat) : Int) ∧ Drawn w wr) (fun _ i _ => xs.length - (intOf i).toNat)
    case atStart => exact ⟨0, Nat.zero_le _, rfl, by rw [cnt_zero]; first | rfl | (congr 1; omega), ⟨0, rfl⟩⟩
    case round =>
      obtain ⟨k, hk, rfl, rfl, HW⟩ := hrel
      have hck := cnt_le xs ys k
      by_cases hlt : k < xs.length
      · have hk1 : k < xs.length := by omega
        have hk2 : k < ys.length := by omega
        obtain ⟨a, hAe, hab, hcell⟩ := (HA.out.drawn HW).at_ hk1
        obtain ⟨b, hBe, hbb, hcellb⟩ := (HB.out.drawn HW).at_ hk2
        subst hAe hBe
        have hst := cnt_step hk1 hk2
        by_cases he : xs[k] = ys[k]
        · rw [if_pos he] at hst
          have hne : ((xs[k] : Int) != (ys[k] : Int)) = false := by simp [he]
          have HS := Lib.hid hst
          clear hst he
          go_wp2
          go_quiet (fail)
          go_wp2
          go_roundw
          case rel => exact ⟨k + 1, by omega, by go_num, by rw [HS.out]; rfl, HW.drewN _⟩
          case measure => simp [intOf]; omega
        · rw [if_neg he] at hst
          have hne : ((xs[k] : Int) != (ys[k] : Int)) = true := by simp; omega
          have HS := Lib.hid hst
          clear hst he
          go_wp2
          go_quiet (fail)
          go_wp2
          go_roundw
          case rel => exact ⟨k + 1, by omega, by go_num, by rw [HS.out]; go_num, HW.drewN _⟩
          case measure => simp [intOf]; omega
      · obtain rfl : k = xs.length := by omega
        have HD' := HD.out
        subst HD'
        go_wp2
        go_ret
        exact ⟨rfl, HW⟩
  · have HD : Hid (dl xs ys = (xs.length - ys.length) + cnt xs ys ys.length) := by
      unfold Hid dl; rw [cnt_end (by omega)]; congr 1; omega
    generalize dl xs ys = T at HD
    go_enter Try.func111, Try.ntmps111
    go_wp2
    go_loopw [6, 21] (fun n i wr => ∃ k : Nat, k ≤ ys.length ∧ i = .int .i64 k ∧ n = .int .i64 (((xs.length - ys.length) + cnt xs ys k : Nat) : Int) ∧ Drawn w wr) (fun _ i _ => ys.length - (intOf i).toNat)
    case atStart => exact ⟨0, Nat.zero_le _, rfl, by rw [cnt_zero]; first | rfl | (congr 1; omega), ⟨0, rfl⟩⟩
    case round =>
      obtain ⟨k, hk, rfl, rfl, HW⟩ := hrel
      have hck := cnt_le xs ys k
      by_cases hlt : k < ys.length
      · have hk1 : k < xs.length := by omega
        have hk2 : k < ys.length := by omega
        obtain ⟨a, hAe, hab, hcell⟩ := (HA.out.drawn HW).at_ hk1
        obtain ⟨b, hBe, hbb, hcellb⟩ := (HB.out.drawn HW).at_ hk2
        subst hAe hBe
        have hst := cnt_step hk1 hk2
        by_cases he : xs[k] = ys[k]
        · rw [if_pos he] at hst
          have hne : ((xs[k] : Int) != (ys[k] : Int)) = false := by simp [he]
          have HS := Lib.hid hst
          clear hst he
          go_wp2
          go_quiet (fail)
          go_wp2
          go_roundw
          case rel => exact ⟨k + 1, by omega, by go_num, by rw [HS.out]; rfl, HW.drewN _⟩
          case measure => simp [intOf]; omega
        · rw [if_neg he] at hst
          have hne : ((xs[k] : Int) != (ys[k] : Int)) = true := by simp; omega
          have HS := Lib.hid hst
          clear hst he
          go_wp2
          go_quiet (fail)
          go_wp2
          go_roundw
          case rel => exact ⟨k + 1, by omega, by go_num, by rw [HS.out]; go_num, HW.drewN _⟩
          case measure => simp [intOf]; omega
      · obtain rfl : k = ys.length := by omega
        have HD' := HD.out
        subst HD'
        go_wp2
        go_ret
        exact ⟨rfl, HW⟩
end Go.Proofs.Ytmchelbmeajcnaa
namespace Go.Proofs.Ytmchelbmeajcnaa
open Go.RowKit Go.Gf
set_option maxRecDepth 20000
attribute [local go_sem ↓] exec_load_tb Cl.quiet_since
attribute [local go_sem] tbAt_ptr tbIn_ptr

/-- a decoder's answer, of its own -/
def RowDF (w : World) (xs : List Nat) (e : Ending) (w' : World) : Prop :=
  ∃ ys n f A c, Dec xs ys n f ∧ e = .returned (.tuple #[.slice A ys.length c, .int .i64 (n : Int), .int .i64 (f : Int)]) ∧ ys.length ≤ c ∧ SlF w' w.heap.size A ys ∧ Below w.heap.size w w'
theorem RowDF.nil {w w' : World} {xs : List Nat} {f : Nat} (h : Dec xs [] 0 f) (hb : Below w.heap.size w w') : RowDF w xs (.returned (.tuple #[.slice none 0 0, .int .i64 0, .int .i64 (f : Int)])) w' :=
  ⟨[], 0, f, none, 0, h, rfl, Nat.le_refl _, ⟨Sl.nil _ _ _, Or.inl rfl⟩, hb⟩
theorem sums_zero (w : List Nat) : tr (sums w) = [] ↔ isCw w := by
  constructor
  · intro h r h1 h2
    have := sums_tr w (r - 1) (by omega)
    rw [h, show r - 1 + 1 = r by omega] at this
    rw [← this]; rfl
  · intro h
    refine Classical.byContradiction fun hne => ?_
    have hl := sums_len w
    have h0 : 0 < (tr (sums w)).length := List.length_pos_iff.2 hne
    have h1 := sums_tr w ((tr (sums w)).length - 1) (by omega)
    rw [h _ (by omega) (by omega)] at h1
    have h2 := tr_last (sums w) hne
    omega
theorem clean_is {w : List Nat} {T : Bool} (h : ((((tr (sums w)).length : Nat) : Int) == 0) = T) : T = true ↔ isCw w := by
  rw [← sums_zero, ← h, beq_iff_eq]
  constructor
  · intro e; exact List.eq_nil_of_length_eq_zero (by omega)
  · intro e; rw [e]; rfl
theorem ivp_inj {n i j : Nat} (hn : n ≤ 1023) (hi : i < n) (hj : j < n) (h : ivp n i = ivp n j) : i = j := by
  have e : expI (1 - (n : Int) + (i : Int)) = expI (1 - (n : Int) + (j : Int)) := by rw [← ivp_exp hi, ← ivp_exp hj, h]
  rw [expI_eq] at e
  omega
/-- where the locator is at most eight long, at most eight places are put right -/
theorem few {w v b d : List Nat} (hn : w.length ≤ 1023) (hv : tr v = v) (h1 : 1 ≤ v.length) (h9 : v.length ≤ 9) :
    dl (rm w.length (fixd v b d w w.length)) w ≤ 8 := by
  have hl : w.length = (rm w.length (fixd v b d w w.length)).length := (rm_len _ _).symm
  rw [← dl_comm _ _ hl, dl_pos _ _ hl, ← List.length_map (f := ivp w.length)]
  have hne : tr v ≠ [] := by rw [hv]; intro e; rw [e] at h1; simp at h1
  have ht := tr_last v hne
  rw [hv] at ht
  refine Nat.le_trans (roots_le (v.length - 1) v ?_ (fun j hj => by rw [at_far (by omega)]) _ ?_ ?_) (by omega)
  · have := at_lt_tr hv (v.length - 1)
    omega
  · unfold List.Nodup
    rw [List.pairwise_map]
    unfold posTo
    refine (List.Pairwise.filter _ List.pairwise_lt_range).imp_of_mem ?_
    intro i j hi hj hij e
    have hi2 := List.mem_range.1 (List.mem_filter.1 hi).1
    have hj2 := List.mem_range.1 (List.mem_filter.1 hj).1
    have := ivp_inj hn hi2 hj2 e
    omega
  · intro r hr
    obtain ⟨j, hj, rfl⟩ := List.mem_map.1 hr
    obtain ⟨hj1, hj2⟩ := mem_pos.1 hj
    refine ⟨ivp_lt _ _, ?_⟩
    refine Classical.byContradiction fun h0 => hj2 ?_
    rw [at_rm, if_pos hj1]
    unfold fixd
    rw [if_neg h0, Nat.xor_zero]
theorem syn_row {n : Nat} (cs : List Nat) (hcs : Tab cs) (A : Option Addr) (c : Nat) (xs : List Nat) (w : World) (hn : xs.length = n) (h : Sl w w.heap.size A xs) (hl : n ≤ 1000000) :
    Calls Try.prog 107 #[.agg (cells cs), .slice A n c] w (RowC w (sums xs)) := by
  subst hn
  exact syn_any cs hcs A c xs w h hl
end Go.Proofs.Ytmchelbmeajcnaa
namespace Go.Proofs.Ytmchelbmeajcnaa
open Go.RowKit Go.Gf
set_option maxRecDepth 20000
attribute [local go_sem ↓] exec_load_tb Cl.quiet_since
attribute [local go_sem] tbAt_ptr tbIn_ptr

set_option maxRecDepth 20000 in
set_option maxHeartbeats 8000000 in
theorem decode_any (cs : List Nat) (hcs : Tab cs) (A : Option Addr) (c : Nat) (xs : List Nat) (w : World) (h : Sl w w.heap.size A xs) (hl : xs.length ≤ 1000000) :
    Calls Try.prog 90 #[.agg (cells cs), .slice A xs.length c] w (RowDF w xs) := by
  have H := Lib.hid h
  have HCS := Lib.hid hcs
  have hbW : Hid (Below w.heap.size w (w.alloc (.cells (cells cs) 33))) := (Below.refl _ _).alloc (Nat.le_refl _) _
  have hT := Lib.hid (tb_new w cs)
  have HW := Lib.hid (h.far hbW.out)
  have hsym := Lib.hid (symbols_any A c xs _ HW.out hl)
  clear h hcs
  by_cases hsz : xs.length < 17 ∨ 1023 < xs.length
  · have hD := Lib.hid (Dec.size hsz)
    have hc : ∃ b1 b2 : Bool, decide ((xs.length : Int) ≤ 16) = b1 ∧ decide ((1023 : Int) < (xs.length : Int)) = b2 ∧ (b1 || b2) = true := by
      refine ⟨_, _, rfl, rfl, ?_⟩
      simp only [Bool.or_eq_true, decide_eq_true_eq]; omega
    obtain ⟨b1, b2, d1, d2, hor⟩ := hc
    replace hor := Lib.hid hor
    clear hsz
    cases b1
    · cases b2
      · exact absurd hor.out (by decide)
      · go_enter Try.func90, Try.ntmps90
        go_wp2_with fail
        go_ret3
        exact RowDF.nil hD.out hbW.out
    · go_enter Try.func90, Try.ntmps90
      go_wp2_with fail
      go_ret3
      exact RowDF.nil hD.out hbW.out
  · have hsz' := Lib.hid hsz
    have d1 : decide ((xs.length : Int) ≤ 16) = false := by rw [decide_eq_false_iff_not]; omega
    have d2 : decide ((1023 : Int) < (xs.length : Int)) = false := by rw [decide_eq_false_iff_not]; omega
    have hl2 : xs.length ≤ 1023 := by omega
    have hl1 : 17 ≤ xs.length := by omega
    cases hs : symB xs
    · obtain ⟨k, hk, hb⟩ := symB_false hs
      have hD := Lib.hid (Dec.arg hsz'.out xs[k] (List.getElem_mem hk) hb)
      rw [hs] at hsym
      clear hs hb hsz
      go_enter Try.func90, Try.ntmps90
      go_wp2_with (go_at_call 80; (with_reducible refine hsym.out.mono ?_); rintro e w1 ⟨rfl, rfl⟩)
      go_ret3
      exact RowDF.nil hD.out hbW.out
    · have HX := Lib.hid (symB_true.1 hs)
      have hxne : Hid (xs ≠ []) := by intro e; rw [e] at hl1; simp at hl1
      rw [hs] at hsym
      clear hs hsz
      obtain ⟨T, hTc⟩ : ∃ T : Bool, ((((tr (sums xs)).length : Nat) : Int) == 0) = T := ⟨_, rfl⟩
      have hcw : Hid (T = true ↔ isCw xs) := clean_is hTc
      have hsl16 : Hid ((sums xs).length = 16) := by unfold Hid sums; exact rm_len _ _
      have hTcH := Lib.hid hTc
      clear hTc
      cases T
      · have hbad : Hid (¬ isCw xs) := fun h => by have := hcw.out.2 h; cases this
        clear hcw
        go_enter Try.func90, Try.ntmps90
        go_wp2_with (first
          | (go_at_call 80; (with_reducible refine hsym.out.mono ?_); rintro e w1 ⟨rfl, hw1⟩; have HB1 : Hid (Below w.heap.size w w1) := (by rw [← hw1]; exact hbW); have HT1 : Hid (Tb w1 w.heap.size cs) := (by rw [← hw1]; exact hT); have hi1 := HT1.out.is HCS.out.1; have ho1 := HT1.out.of; have HX1 := Lib.hid (H.out.far HB1.out); have hcy := Lib.hid (syn_any cs HCS.out A c xs w1 HX1.out hl); clear hw1)
          | (go_at_call 107; (with_reducible refine hcy.out.mono ?_); rintro e w2 ⟨S, cS, rfl, _, hs2, hb2⟩; replace hs2 := Lib.hid hs2; have HB2 := Lib.hid (HB1.out.trans (hb2.mono HB1.out.size)); have HT2 := Lib.hid (HT1.out.keep hb2); clear hcy hb2 hi1 ho1 HT1 HB1 HX1; have hcc := Lib.hid (clean_any S cS (sums xs) false w2 hs2.out (by rw [hsl16.out]; decide) hTcH.out))
          | (go_at_call 108; (with_reducible refine hcc.out.mono ?_); rintro e w3 ⟨rfl, hb3⟩; have hs3 := Lib.hid (hs2.out.far hb3); have HB3 := Lib.hid (HB2.out.trans (hb3.mono HB2.out.size)); have HT3 := Lib.hid (HT2.out.keep hb3); have hi3 := HT3.out.is HCS.out.1; have ho3 := HT3.out.of; clear hcc hb3 hs2 HB2 HT2; have hch := Lib.hid (search_any cs HCS.out S cS (sums xs) w3 hs3.out (by rw [hsl16.out]; decide)))
          | (go_at_call 109; (with_reducible refine hch.out.mono ?_); rintro e w4 ⟨a, b, u, v, B, cb, V, cv, rfl, hEI, h9, h8, hsV, hsB, hb4⟩; have HB4 := Lib.hid (HB3.out.trans (hb4.mono HB3.out.size)); have HT4 := Lib.hid (HT3.out.keep hb4); have hi4 := HT4.out.is HCS.out.1; have ho4 := HT4.out.of; have hlen := hEI.len; replace hEI := Lib.hid hEI; clear hch hb4 hi3 ho3 hs3 HB3 HT3; have hcm := Lib.hid (mend_any cs HCS.out A V B c cv cb xs v b w4 (H.out.far HB4.out) hsV hsB (by omega) hl2 (by omega) (by omega) HX.out); clear hsV hsB)
          | (go_at_call 110; (with_reducible refine hcm.out.mono ?_); rintro e w5 ⟨g, cg, rfl, hcg, hg, hp5, hb5⟩; have HB5 := Lib.hid (HB4.out.trans (hb5.mono HB4.out.size)); have HT5 := Lib.hid (HT4.out.keep hb5); have hi5 := HT5.out.is HCS.out.1; have ho5 := HT5.out.of; replace hp5 := Lib.hid hp5; have hgw := Lib.hid (Nat.le_trans HB4.out.size hg); clear hcm hb5 hg hi4 ho4 HB4 HT4))
        have hF : Hid (∀ j, fixd v b (slope v) xs xs.length j < 1024) := fun j => fixd_lt HX.out _ _
        have hEI' := hEI.out
        have hEq0 : Hid (∀ c, Near xs c → rm xs.length (fixd v b (slope v) xs xs.length) = c) := fun c hc => by
          have hd := dec_near hl2 HX.out hEI' h8 h9 hc hbad.out
          refine list_ext_at (by rw [rm_len, hc.len]) fun j hj => ?_
          rw [rm_len] at hj
          rw [at_rm, if_pos hj]
          exact hd.2.2.1 j hj
        have hfew0 : Hid (dl (rm xs.length (fixd v b (slope v) xs xs.length)) xs ≤ 8) := few hl2 hEI'.tv hEI'.lv (by omega)
        have hs50 : Hid (Sl w5 w5.heap.size (some ⟨g, 0, none⟩) (rm xs.length (fixd v b (slope v) xs xs.length))) := hp5.out.sl fun j _ => by have := hF.out j; omega
        obtain ⟨ys, hys⟩ : ∃ ys, Hid (rm xs.length (fixd v b (slope v) xs xs.length) = ys) := ⟨_, Lib.hid rfl⟩
        have hyl : Hid (ys.length = xs.length) := by rw [← hys.out]; exact Lib.hid (rm_len _ _)
        have hyb : Hid (∀ y ∈ ys, y < 1024) := by rw [← hys.out]; exact Lib.hid (rm_mem fun j _ => hF.out j)
        rw [hys.out] at hEq0 hfew0 hs50
        have hcom : Hid (dl xs ys = dl ys xs) := dl_comm _ _ hyl.out.symm
        have hcz := Lib.hid (syn_row cs HCS.out (some ⟨g, 0, none⟩) cg ys w5 hyl.out hs50.out (by omega))
        have hyl16 : Hid ((sums ys).length = 16) := by unfold Hid sums; exact rm_len _ _
        clear hF hEI hEI' hp5 hys hi5 ho5 HT5
        refine hcz.out.mono ?_
        rintro e w6 ⟨S2, c2, rfl, _, hs6, hb6⟩
        obtain ⟨T2, hT2⟩ : ∃ T2 : Bool, ((((tr (sums ys)).length : Nat) : Int) == 0) = T2 := ⟨_, rfl⟩
        have hcw2 : Hid (T2 = true ↔ isCw ys) := clean_is hT2
        have hc2 := Lib.hid (clean_any S2 c2 (sums ys) T2 w6 hs6 (by rw [hyl16.out]; decide) hT2)
        have hs56 := Lib.hid (hs50.out.far hb6)
        have HB6 := Lib.hid (HB5.out.trans (hb6.mono HB5.out.size))
        clear hcz hs6 hb6 hs50 HB5 hT2
        cases T2
        · have hD : Hid (Dec xs [] 0 4) := Dec.none hsz'.out HX.out (fun c hc => by
            have h1 := hEq0.out c hc
            have h2 := hcw2.out.2 (by rw [h1]; exact hc.cw)
            cases h2)
          clear hcw2 hEq0
          go_wp2_with (go_at_call 108; (with_reducible refine hc2.out.mono ?_); rintro e w7 ⟨rfl, hb7⟩)
          go_ret3
          exact RowDF.nil hD.out (HB6.out.trans (hb7.mono HB6.out.size))
        · have hD : Hid (Dec xs ys (dl ys xs) 0) := Dec.ok hsz'.out HX.out ys ⟨hyl.out, hyb.out, hcw2.out.1 rfl, hfew0.out⟩
          clear hcw2 hEq0 hfew0
          obtain ⟨dd, hdd⟩ : ∃ dd, Hid (dl ys xs = dd) := ⟨_, Lib.hid rfl⟩
          rw [hdd.out] at hD hcom
          go_wp2_with (first
            | (go_at_call 108; (with_reducible refine hc2.out.mono ?_); rintro e w7 ⟨rfl, hb7⟩; have hs7 := Lib.hid (hs56.out.far hb7); have HB7 := Lib.hid (HB6.out.trans (hb7.mono HB6.out.size)); have hds := distance_any A (some ⟨g, 0, none⟩) c cg xs ys w7 (H.out.far HB7.out) hs7.out hl (by rw [hyl.out]; omega); rw [hyl.out, hcom.out] at hds; replace hds := Lib.hid hds; clear hb7 HB6 hs56)
            | (go_at_call 111; (with_reducible refine hds.out.mono ?_); rintro e w8 ⟨rfl, hdr⟩))
          have hbd := Cl.Keeps.below (Drawn.keeps (K := fun _ => True) hdr)
          go_ret3
          exact ⟨ys, dd, 0, _, cg, hD.out, by rw [hyl.out]; rfl, by rw [hyl.out]; exact hcg, (hs7.out.far hbd).fresh (fun a e => by injection e with e; rw [← e]; exact hgw.out), HB7.out.trans (hbd.mono HB7.out.size)⟩
      · have hn : Near xs xs := ⟨rfl, HX.out, hcw.out.1 rfl, by rw [(dl_zero rfl).2 rfl]; exact Nat.zero_le _⟩
        have hD := Dec.ok hsz'.out HX.out xs hn
        rw [(dl_zero rfl).2 rfl] at hD
        replace hD := Lib.hid hD
        clear hn hcw
        go_enter Try.func90, Try.ntmps90
        go_wp2_with (first
          | (go_at_call 80; (with_reducible refine hsym.out.mono ?_); rintro e w1 ⟨rfl, hw1⟩; have HB1 : Hid (Below w.heap.size w w1) := (by rw [← hw1]; exact hbW); have HT1 : Hid (Tb w1 w.heap.size cs) := (by rw [← hw1]; exact hT); have hi1 := HT1.out.is HCS.out.1; have ho1 := HT1.out.of; have HX1 := Lib.hid (H.out.far HB1.out); have hcy := Lib.hid (syn_any cs HCS.out A c xs w1 HX1.out hl); clear hw1)
          | (go_at_call 107; (with_reducible refine hcy.out.mono ?_); rintro e w2 ⟨S, cS, rfl, _, hs2, hb2⟩; replace hs2 := Lib.hid hs2; have HB2 := Lib.hid (HB1.out.trans (hb2.mono HB1.out.size)); have HT2 := Lib.hid (HT1.out.keep hb2); clear hcy hb2 hi1 ho1 HT1 HB1 HX1; have hcc := Lib.hid (clean_any S cS (sums xs) true w2 hs2.out (by rw [hsl16.out]; decide) hTcH.out))
          | (go_at_call 108; (with_reducible refine hcc.out.mono ?_); rintro e w3 ⟨rfl, hb3⟩; have HB3 := Lib.hid (HB2.out.trans (hb3.mono HB2.out.size)); clear hcc hb3 hs2 HB2 HT2; have hcn := Lib.hid (clone_any A c xs w3 (H.out.far HB3.out) hl))
          | (go_at_call 102; (with_reducible refine hcn.out.mono ?_); rintro e w4 ⟨A4, c4, rfl, hc4, hp4, hs4, hb4⟩))
        obtain ⟨g, rfl, hg, _⟩ := hp4 hxne.out
        go_ret3
        exact ⟨xs, 0, 0, _, c4, hD.out, rfl, hc4, hs4.fresh (fun a e => by injection e with e; rw [← e]; exact Nat.le_trans HB3.out.size hg), HB3.out.trans (hb4.mono HB3.out.size)⟩
end Go.Proofs.Ytmchelbmeajcnaa
