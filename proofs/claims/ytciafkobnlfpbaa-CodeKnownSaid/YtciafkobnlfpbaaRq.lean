/- The reference's decoder. -/
import Derived.Test.YtciafkobnlfpbaaRo
namespace Go.Proofs.Ytciafkobnlfpbaa
open Go.RowKit Go.Gf
attribute [local go_sem ↓] Cl.quiet_since

/-- what a decoder is to answer: a word, how many places, an error's number -/
inductive Dec (xs : List Nat) : List Nat → Nat → Nat → Prop where
  | size (h : xs.length < 17 ∨ 1023 < xs.length) : Dec xs [] 0 3
  | arg (h1 : ¬ (xs.length < 17 ∨ 1023 < xs.length)) (x : Nat) (h2 : x ∈ xs) (h3 : 1024 ≤ x) : Dec xs [] 0 1
  | ok (h1 : ¬ (xs.length < 17 ∨ 1023 < xs.length)) (h2 : ∀ x ∈ xs, x < 1024) (ys : List Nat) (h3 : Near xs ys) : Dec xs ys (dl ys xs) 0
  | none (h1 : ¬ (xs.length < 17 ∨ 1023 < xs.length)) (h2 : ∀ x ∈ xs, x < 1024) (h3 : ∀ c, ¬ Near xs c) : Dec xs [] 0 4
theorem Dec.unique {xs ys zs : List Nat} {n m e f : Nat} (h : Dec xs ys n e) (k : Dec xs zs m f) : ys = zs ∧ n = m ∧ e = f := by
  cases h with
  | size h => cases k with
    | size _ => exact ⟨rfl, rfl, rfl⟩
    | arg h1 _ _ _ => exact absurd h h1
    | ok h1 _ _ _ => exact absurd h h1
    | none h1 _ _ => exact absurd h h1
  | arg h1 x h2 h3 => cases k with
    | size h => exact absurd h h1
    | arg _ _ _ _ => exact ⟨rfl, rfl, rfl⟩
    | ok _ k2 _ _ => exact absurd (k2 x h2) (by omega)
    | none _ k2 _ => exact absurd (k2 x h2) (by omega)
  | ok h1 h2 ys h3 => cases k with
    | size h => exact absurd h h1
    | arg _ x k2 k3 => exact absurd (h2 x k2) (by omega)
    | ok _ _ zs k3 =>
      have := near_unique (by omega) h3 k3
      subst this; exact ⟨rfl, rfl, rfl⟩
    | none _ _ k3 => exact absurd h3 (k3 _)
  | none h1 h2 h3 => cases k with
    | size h => exact absurd h h1
    | arg _ x k2 k3 => exact absurd (h2 x k2) (by omega)
    | ok _ _ zs k3 => exact absurd k3 (h3 _)
    | none _ _ _ => exact ⟨rfl, rfl, rfl⟩
/-- a slice, a number and an error's number, as a decoder is to answer -/
def RowD (w : World) (xs : List Nat) (e : Ending) (w' : World) : Prop :=
  ∃ ys n f A c, Dec xs ys n f ∧ e = .returned (.tuple #[.slice A ys.length c, .int .i64 (n : Int), .int .i64 (f : Int)]) ∧ ys.length ≤ c ∧ Sl w' w'.heap.size A ys ∧ Below w.heap.size w w'
theorem RowD.nil {w w' : World} {xs : List Nat} {f : Nat} (h : Dec xs [] 0 f) (hb : Below w.heap.size w w') : RowD w xs (.returned (.tuple #[.slice none 0 0, .int .i64 0, .int .i64 (f : Int)])) w' :=
  ⟨[], 0, f, none, 0, h, rfl, Nat.le_refl _, Sl.nil _ _ _, hb⟩
def lenV : Value → Nat
  | .slice _ n _ => n
  | _ => 0
theorem cleanB_cw (xs : List Nat) : cleanB (sums xs) = true ↔ isCw xs := by
  have hsl : (sums xs).length = 16 := by unfold sums; exact rm_len _ _
  unfold cleanB
  rw [cw_sums, List.all_eq_true]
  constructor
  · intro h i hi
    rw [at_get (by rw [hsl]; exact hi)]
    simpa using h _ (List.getElem_mem _)
  · intro h x hx
    obtain ⟨j, hj, rfl⟩ := List.getElem_of_mem hx
    have := h j (by rw [hsl] at hj; exact hj)
    rw [at_get hj] at this
    simpa using this
/-- all blocks but g are as they were; block g begins with what f says -/
def DecL (w9 : World) (g n : Nat) (f : Nat → Nat) (wr : World) : Prop := Cl.Keeps (fun b => b ≠ g) w9 wr ∧ Pre wr g n f
def fx (v b xs : List Nat) (k j : Nat) : Nat := if j < k then fixd v b (slope v) xs xs.length j else at_ xs j
theorem Drawn.keeps {K : Nat → Prop} {w w' : World} (h : Drawn w w') : Cl.Keeps K w w' := by
  obtain ⟨n, rfl⟩ := h
  exact ⟨rfl, rfl, rfl, Nat.le_refl _, fun _ _ _ => rfl⟩
section
variable {w0 w9 wr w' : World} {g n lo : Nat} {f f' : Nat → Nat} {A : Option Addr} {xs : List Nat}
theorem DecL.start (h : Pre w9 g n f) : DecL w9 g n f w9 := ⟨Cl.Keeps.refl _ _, h⟩
theorem DecL.congr (h : DecL w9 g n f wr) (e : ∀ j, j < n → f j = f' j) : DecL w9 g n f' wr := ⟨h.1, h.2.congr e⟩
theorem DecL.keeps (h : DecL w9 g n f wr) (hk : Cl.Keeps (fun _ => True) wr w') : DecL w9 g n f w' :=
  ⟨h.1.trans ⟨hk.os, hk.tape, hk.output, hk.size, fun b hb _ => hk.block b hb trivial⟩, h.2.keep (hk.block g h.2.lt trivial)⟩
theorem DecL.drawn (h : DecL w9 g n f wr) (hd : Drawn wr w') : DecL w9 g n f w' := h.keeps hd.keeps
theorem DecL.word {B : Nat} (h : DecL w9 g n f wr) (hs : Sl w9 B A xs) (hB : B ≤ g) (hB2 : B ≤ w9.heap.size) : Sl wr wr.heap.size A xs :=
  Sl.more (hs.keep fun p hp => World.cell?_of_block (w := w9) (h.1.block p.block (by omega) (by omega))) (Nat.le_trans hB2 h.1.size)
theorem DecL.slf (h : DecL w9 g n f wr) (hs : SlF w9 lo A xs) (hg : g < lo) : Sl wr wr.heap.size A xs := by
  rcases hs.2 with e | ⟨a, e, hl⟩
  · rw [e]; exact Sl.nil _ _ _
  · refine ⟨hs.1.1, ?_⟩
    rcases hs.1.2 with e0 | ⟨a', e', hb, hc⟩
    · exact Or.inl e0
    · obtain rfl : a = a' := by rw [e] at e'; injection e'
      refine Or.inr ⟨a, e, Nat.lt_of_lt_of_le hb h.1.size, fun i hi => ?_⟩
      rw [← hc i hi]
      exact World.cell?_of_block (w := w9) (by rw [add_block]; exact h.1.block a.block hb (by omega))
theorem DecL.below (h : DecL w9 g n f wr) (hb : Below w0.heap.size w0 w9) (hg : w0.heap.size ≤ g) : Below w0.heap.size w0 wr :=
  hb.trans ⟨h.1.os, h.1.tape, h.1.output, h.1.size, fun k hk => h.1.block k (Nat.lt_of_lt_of_le hk hb.size) (by omega)⟩
theorem DecL.set_ (h : DecL w9 g n f wr) (i x : Nat) : DecL w9 g n (fun j => if j = i then x else f j) (wr.setCell ⟨g, i, none⟩ (.int .u16 (x : Int))) :=
  ⟨⟨h.1.os, h.1.tape, h.1.output, by simpa [World.setCell] using h.1.size, fun b hb hk => (Below.heap_setCell _ _ _ b hk).trans (h.1.block b hb hk)⟩, h.2.set_ i x⟩
end
theorem manyR_le (v : List Nat) (n m : Nat) : manyR v n m ≤ m := by
  induction m with
  | zero => exact Nat.le_refl _
  | succ m ih => unfold manyR; split <;> omega
theorem fixd_lt {v b d w : List Nat} (hw : ∀ y ∈ w, y < 1024) (n i : Nat) : fixd v b d w n i < 1024 := by
  unfold fixd
  refine xor_lt (at_lt hw (by decide)) ?_
  split
  · exact gm_lt _ (ev_lt _ _)
  · decide
/-- the loop of the divisions -/
def EucR (S : Nat → Nat) (w1 : World) (pa pb pu pv : Value) (wr : World) : Prop :=
  ∃ (a b u v : List Nat) (A B U V : Option Addr) (ca cb cu cv : Nat), pa = .slice A a.length ca ∧ pb = .slice B b.length cb ∧ pu = .slice U u.length cu ∧ pv = .slice V v.length cv ∧
    EI S a b u v ∧ 9 ≤ a.length ∧ SlF wr w1.heap.size A a ∧ SlF wr w1.heap.size B b ∧ SlF wr w1.heap.size U u ∧ SlF wr w1.heap.size V v ∧ Below w1.heap.size w1 wr
theorem x16_obj : Obj.cells ((madeCells #[.int .u16 0] x16.length).setIfInBounds 16 (.int .u16 1)) 23 = .cells (x16.map uv).toArray 23 := by
  rw [made_uv]
  rfl
theorem Sl.fresh {w : World} {lo : Nat} {A : Option Addr} {xs : List Nat} (h : Sl w w.heap.size A xs) (hl : ∀ a, A = some a → lo ≤ a.block) : SlF w lo A xs := by
  refine ⟨h, ?_⟩
  rcases h.2 with e | ⟨a, e, _, _⟩
  · exact Or.inl e
  · exact Or.inr ⟨a, e, hl a e⟩
set_option maxRecDepth 20000 in
set_option maxHeartbeats 8000000 in
theorem refdec_any (A : Option Addr) (c : Nat) (xs : List Nat) (w : World) (h : Sl w w.heap.size A xs) (hl : xs.length ≤ 1000000) :
    Calls Try.prog 21 #[.slice A xs.length c] w (RowD w xs) := by
  have H := Lib.hid h
  clear h
  by_cases hsz : xs.length < 17 ∨ 1023 < xs.length
  · have hD := Lib.hid (Dec.size hsz)
    have hc : ∃ b1 b2 : Bool, decide ((xs.length : Int) < 17) = b1 ∧ decide ((1023 : Int) < (xs.length : Int)) = b2 ∧ (b1 || b2) = true := by
      refine ⟨_, _, rfl, rfl, ?_⟩
      simp only [Bool.or_eq_true, decide_eq_true_eq]; omega
    obtain ⟨b1, b2, d1, d2, hor⟩ := hc
    replace hor := Lib.hid hor
    clear hsz
    cases b1
    · cases b2
      · exact absurd hor.out (by decide)
      · go_enter Try.func21, Try.ntmps21
        go_wp2_with fail
        go_ret3
        exact RowD.nil hD.out (Below.refl _ _)
    · go_enter Try.func21, Try.ntmps21
      go_wp2_with fail
      go_ret3
      exact RowD.nil hD.out (Below.refl _ _)
  · have hsz' := Lib.hid hsz
    have d1 : decide ((xs.length : Int) < 17) = false := by rw [decide_eq_false_iff_not]; omega
    have d2 : decide ((1023 : Int) < (xs.length : Int)) = false := by rw [decide_eq_false_iff_not]; omega
    have hl2 : xs.length ≤ 1023 := by omega
    have hl1 : 17 ≤ xs.length := by omega
    clear hsz
    have hmk : ∀ w, (Instr.makeSlice 22 (.int .i64 17) (.int .i64 17)).run Try.prog w = .ok (.slice (some ⟨w.heap.size, 0, none⟩) x16.length x16.length) (w.alloc (.cells (madeCells #[.int .u16 0] x16.length) 23)) :=
      run_make_row' (P := Try.prog) 22 23 (.int .u16 0) 2 Try.underlying22 info22 rfl .i64 .i64 x16.length (by decide) (by decide)
    have hx16 : (16 : Int) < (x16.length : Int) := by decide
    have hc16 : ∀ w : World, (w.alloc (.cells (madeCells #[.int .u16 0] x16.length) 23)).cell? ⟨w.heap.size, 16, none⟩ = some (.int .u16 0) := fun w => by
      have h := (Arr.new w (List.replicate x16.length 0)).cell (i := 16) (by rw [List.length_replicate]; decide)
      rw [made_uv]
      simpa using h
    have hf16 : ∀ w : World, (w.alloc (.cells (madeCells #[.int .u16 0] x16.length) 23)).frozen? ⟨w.heap.size, 16, none⟩ = false := fun w => by
      have h := (Arr.new w (List.replicate x16.length 0)).frozen 16
      rw [made_uv]
      exact h
    go_enter Try.func21, Try.ntmps21
    go_wp2_with fail
    go_loop [5] (fun n => ∃ k : Nat, k ≤ xs.length ∧ Hid (∀ j (h : j < xs.length), j < k → xs[j] < 1024) ∧ n = .int .i64 k) (fun n => xs.length - (intOf n).toNat)
    case atStart => exact ⟨0, Nat.zero_le _, Lib.hid (fun j _ h => absurd h (by omega)), rfl⟩
    case round =>
      obtain ⟨k, hk, HK, rfl⟩ := hrel
      by_cases hlt : k < xs.length
      · obtain ⟨a, rfl, hab, hcell⟩ := H.out.at_ hlt
        have hx := H.out.1 xs[k] (List.getElem_mem hlt)
        by_cases hb : 1024 ≤ xs[k]
        · have hD := Lib.hid (Dec.arg hsz'.out xs[k] (List.getElem_mem hlt) hb)
          have hd : decide ((1024 : Int) ≤ (xs[k] : Int)) = true := by rw [decide_eq_true_eq]; omega
          clear hb
          go_wp2_with fail
          go_ret3
          exact RowD.nil hD.out (Below.refl _ _)
        · have hd : decide ((1024 : Int) ≤ (xs[k] : Int)) = false := by rw [decide_eq_false_iff_not]; omega
          have HK' : Hid (∀ j (h : j < xs.length), j < k + 1 → xs[j] < 1024) := fun j hj hjk => by
            rcases Nat.lt_or_ge j k with h1 | h1
            · exact HK.out j hj h1
            · obtain rfl : j = k := by omega
              omega
          clear hb HK
          go_wp2_with fail
          go_round
          case rel => exact ⟨k + 1, by omega, HK', by go_num⟩
          case measure => simp [intOf]; omega
      · obtain rfl : k = xs.length := by omega
        have HX : Hid (∀ x ∈ xs, x < 1024) := fun x hx => by
          obtain ⟨j, hj, rfl⟩ := List.getElem_of_mem hx
          exact HK.out j hj hj
        have hxne : xs ≠ [] := by intro e; rw [e] at hl1; simp at hl1
        clear HK
        go_wp2_with (refine app_law (w0 := w) rfl (.const (.slice none 0 0)) (.tmp 43) rfl (.slice none 0 0) [] rfl (OwnS.nil w w) (Below.refl _ _) A c xs xs.length rfl rfl H.out hxne (by simp; omega) ?_)
        rintro v1 w1 h1 hb1
        obtain ⟨g, c1, rfl, hc1, hg, hpre⟩ := h1.pre hxne
        replace hpre := Lib.hid hpre
        replace hb1 := Lib.hid hb1
        replace hc1 := Lib.hid hc1
        clear h1
        have hcs := Lib.hid (refsyn_any A c xs w1 (H.out.far hb1.out) hl)
        go_wp2_with fail
        refine hcs.out.mono ?_
        rintro e w2 ⟨A2, c2, rfl, _, hs2, hb2⟩
        have hsl : Hid ((sums xs).length = 16) := by unfold sums; exact Lib.hid (rm_len _ _)
        have hcc := Lib.hid (refclean_any A2 c2 (sums xs) w2 hs2 (by rw [hsl.out]; decide))
        replace hs2 := Lib.hid hs2
        replace hb2 := Lib.hid hb2
        clear hcs
        go_wp2_with fail
        refine hcc.out.mono ?_
        rintro e w3 ⟨rfl, rfl⟩
        clear hcc
        have hclean : Hid (cleanB (sums xs) = true ↔ isCw xs) := cleanB_cw xs
        cases hcl : cleanB (sums xs)
        · have hbad : Hid (¬ isCw xs) := fun h => by
            have := hclean.out.2 h
            rw [hcl] at this; cases this
          clear hcl hclean
          have hS : Hid (∀ i, at_ (tr (sums xs)) i < 1024) := at_lt' (tr_bd _)
          have hts : Hid (tr (tr (sums xs)) = tr (sums xs)) := tr_tr _
          have htl := Lib.hid (sums_len xs)
          have h16n : Hid (x16.length = 17) := rfl
          have hn16 : (x16.length : Int) ≤ 17 := by decide
          go_wp2_with fail
          have h3a := sl_new w2 (.cells ((madeCells #[.int .u16 0] x16.length).setIfInBounds 16 (.int .u16 1)) 23) x16 w2.heap.size rfl x16_obj (by decide)
          have hb3 := below_alloc w2 (.cells ((madeCells #[.int .u16 0] x16.length).setIfInBounds 16 (.int .u16 1)) 23)
          have hs3 := hs2.out.far hb3
          generalize w2.alloc (.cells ((madeCells #[.int .u16 0] x16.length).setIfInBounds 16 (.int .u16 1)) 23) = w3 at h3a hb3 hs3 ⊢
          have hA3 : Hid (SlF w3 w1.heap.size (some ⟨w2.heap.size, 0, none⟩) x16) := h3a.fresh (fun a e => by injection e with e; rw [← e]; exact hb2.out.size)
          generalize w2.heap.size = g3 at hA3 ⊢
          have hct := Lib.hid (reftrim_any A2 c2 (sums xs) w3 hs3 (by rw [hsl.out]; decide))
          have hb13 := Lib.hid (hb2.out.trans (hb3.mono hb2.out.size))
          clear h3a hb3 hs3 hc16 hf16 hmk hs2 hb2
          refine hct.out.mono ?_
          rintro e w4 ⟨s4, rfl, hf4⟩
          obtain ⟨B, c4, rfl, hB4, hb4⟩ := hf4.slf
          replace hB4 := Lib.hid (hB4.lo hb13.out.size)
          replace hA3 := Lib.hid (hA3.out.far hb4)
          have hb14 := Lib.hid (hb13.out.trans (hb4.mono hb13.out.size))
          clear hf4 hb4 hct hb13
          go_wp2_with fail
          have h5 := sl_new w4 (.cells #[.int .u16 1] 23) [1] w4.heap.size rfl rfl (by decide)
          have hb5 := below_alloc w4 (.cells #[.int .u16 1] 23)
          generalize w4.alloc (.cells #[.int .u16 1] 23) = w5 at h5 hb5 ⊢
          have hV5 : Hid (SlF w5 w1.heap.size (some ⟨w4.heap.size, 0, none⟩) [1]) := h5.fresh (fun a e => by injection e with e; rw [← e]; exact hb14.out.size)
          generalize w4.heap.size = g5 at hV5 ⊢
          have hA5 := Lib.hid (hA3.out.far hb5)
          have hB5 := Lib.hid (hB4.out.far hb5)
          have hb15 := Lib.hid (hb14.out.trans (hb5.mono hb14.out.size))
          clear h5 hb5 hA3 hB4 hb14
          go_loopw [8, 9, 10, 11] (fun pa pb pu pv wr => EucR (at_ (tr (sums xs))) w1 pa pb pu pv wr) (fun _ pb _ _ _ => lenV pb)
          case atStart => exact ⟨x16, tr (sums xs), [], [1], _, B, none, _, x16.length, c4, 0, 1, rfl, rfl, rfl, rfl, ei_start hts.out htl.out, by decide, hA5.out, hB5.out, ⟨Sl.nil _ _ _, Or.inl rfl⟩, hV5.out, hb15.out⟩
          case round =>
            clear hA5 hB5 hV5 hb15
            obtain ⟨a, b, u, v, A', B', U, V, ca, cb, cu, cv, rfl, rfl, rfl, rfl, hEI, h9, hA, hB, hU, hV, hW⟩ := hrel
            have hlen := hEI.len
            have hlv := hEI.lv
            have hlu := hEI.lu
            have hlb := hEI.lb
            replace hEI := Lib.hid hEI
            replace hA := Lib.hid hA
            replace hB := Lib.hid hB
            replace hU := Lib.hid hU
            replace hV := Lib.hid hV
            replace hW := Lib.hid hW
            by_cases h8 : 8 < b.length
            · have hd : decide ((8 : Int) < (b.length : Int)) = true := by rw [decide_eq_true_eq]; omega
              obtain ⟨hst, hdec⟩ := ei_step hEI.out hS.out (by omega)
              replace hst := Lib.hid hst
              replace hdec := Lib.hid hdec
              have hne : tr b ≠ [] := by rw [hEI.out.tb]; intro e; rw [e] at h8; simp at h8
              have hcd := Lib.hid (refdiv_any A' B' ca cb a b wr hA.out.1 hB.out.1 (by omega) (by omega) hne)
              have hql : Hid ((pquo a b).length ≤ 20) := by
                have := pquo_len_le (xs := a) (ys := b)
                unfold Hid; unfold divN at this
                rw [hEI.out.ta, hEI.out.tb] at this
                omega
              clear hne
              go_wp2_with fail
              refine hcd.out.mono ?_
              rintro e w6 ⟨Q1, q1, R1, r1, rfl, hQ, hR, hb6⟩
              clear hcd
              have hW6 := Lib.hid (hW.out.trans (hb6.mono hW.out.size))
              replace hQ := Lib.hid hQ
              replace hR := Lib.hid (hR.lo hW.out.size)
              replace hB := Lib.hid (hB.out.far hb6)
              replace hU := Lib.hid (hU.out.far hb6)
              replace hV := Lib.hid (hV.out.far hb6)
              clear hb6 hA hW
              have hcm := Lib.hid (refpmul_any Q1 V q1 cv (pquo a b) v w6 hQ.out.1 hV.out.1 (by have := hql.out; omega) (by omega))
              go_wp2_with fail
              refine hcm.out.mono ?_
              rintro e w7 ⟨s7, rfl, hf7⟩
              obtain ⟨P, p7, rfl, hP, hb7⟩ := hf7.slf
              clear hcm hf7 hQ
              have hW7 := Lib.hid (hW6.out.trans (hb7.mono hW6.out.size))
              replace hP := Lib.hid hP
              replace hR := Lib.hid (hR.out.far hb7)
              replace hB := Lib.hid (hB.out.far hb7)
              replace hU := Lib.hid (hU.out.far hb7)
              replace hV := Lib.hid (hV.out.far hb7)
              clear hb7 hW6
              have hpl := pmul_le' (pquo a b) v
              have hca := Lib.hid (refadd_any U P cu p7 u (pmul (pquo a b) v) w7 hU.out.1 hP.out.1 (by omega) (by omega))
              clear hpl
              go_wp2_with fail
              refine hca.out.mono ?_
              rintro e w8 ⟨s8, rfl, hf8⟩
              obtain ⟨V2, p8, rfl, hV2, hb8⟩ := hf8.slf
              clear hca hf8 hP hU
              have hW8 := Lib.hid (hW7.out.trans (hb8.mono hW7.out.size))
              replace hV2 := Lib.hid (hV2.lo hW7.out.size)
              replace hR := Lib.hid (hR.out.far hb8)
              replace hB := Lib.hid (hB.out.far hb8)
              replace hV := Lib.hid (hV.out.far hb8)
              clear hb8 hW7
              go_wp2_with fail
              go_roundw
              case rel => exact ⟨b, prem a b, v, padd u (pmul (pquo a b) v), B', R1, V, V2, cb, r1, cv, p8, rfl, rfl, rfl, rfl, hst.out, by omega, hB.out, hR.out, hV.out, hV2.out, hW8.out⟩
              case measure => simp only [lenV]; have := hdec.out; omega
            · have hd : decide ((8 : Int) < (b.length : Int)) = false := by rw [decide_eq_false_iff_not]; omega
              have h8' : b.length ≤ 8 := by omega
              have hND := Lib.hid (fun c (hc : Near xs c) => dec_near hl2 HX.out hEI.out h8' h9 hc hbad.out)
              have hglo : g < w1.heap.size := hpre.out.lt
              replace hglo := Lib.hid hglo
              have hb0w := Lib.hid (hb1.out.trans (hW.out.mono hb1.out.size))
              clear h8 hEI hS hts hsl htl
              by_cases hv9 : v.length < 2 ∨ 9 < v.length
              · have hD : Hid (Dec xs [] 0 4) := Dec.none hsz'.out HX.out (fun c hc => by have := (hND.out c hc).1; omega)
                have hc : ∃ b1 b2 : Bool, decide ((v.length : Int) < 2) = b1 ∧ decide ((9 : Int) < (v.length : Int)) = b2 ∧ (b1 || b2) = true := by
                  refine ⟨_, _, rfl, rfl, ?_⟩
                  simp only [Bool.or_eq_true, decide_eq_true_eq]; omega
                obtain ⟨b1, b2, e1, e2, hor⟩ := hc
                replace hor := Lib.hid hor
                clear hv9 hND
                cases b1
                · cases b2
                  · exact absurd hor.out (by decide)
                  · go_wp2_with fail
                    go_ret3
                    exact RowD.nil hD.out hb0w.out
                · go_wp2_with fail
                  go_ret3
                  exact RowD.nil hD.out hb0w.out
              · have e1 : decide ((v.length : Int) < 2) = false := by rw [decide_eq_false_iff_not]; omega
                have e2 : decide ((9 : Int) < (v.length : Int)) = false := by rw [decide_eq_false_iff_not]; omega
                have hvl : v.length ≤ 9 := by omega
                have hvl2 : 2 ≤ v.length := by omega
                clear hv9
                have hcs := Lib.hid (refslope_any V cv v wr hV.out.1 (by omega))
                go_wp2_with fail
                refine hcs.out.mono ?_
                rintro e w9 ⟨s9, rfl, hf9⟩
                obtain ⟨D, dc, rfl, hD9, hb9⟩ := hf9.slf
                clear hcs hf9
                replace hD9 := Lib.hid (hD9.lo hW.out.size)
                replace hV := Lib.hid (hV.out.far hb9)
                replace hB := Lib.hid (hB.out.far hb9)
                have hW9 := Lib.hid (hW.out.trans (hb9.mono hW.out.size))
                have hb09 := Lib.hid (hb1.out.trans (hW9.out.mono hb1.out.size))
                have hx9 := Lib.hid (H.out.below hb09.out)
                have hp9 := Lib.hid (hpre.out.below hW9.out hglo.out)
                clear hA hU hW hb9 hb0w hpre
                go_wp2_with fail
                go_loopw [16, 18] (fun m i wr => ∃ k : Nat, k ≤ xs.length ∧ i = .int .i64 k ∧ m = .int .i64 ((manyR v xs.length k : Nat) : Int) ∧ DecL w9 g xs.length (fx v b xs k) wr) (fun _ i _ => xs.length - (intOf i).toNat)
                case atStart => exact ⟨0, Nat.zero_le _, rfl, rfl, (DecL.start hp9.out).congr (fun j _ => by simp [fx])⟩
                case round =>
                  clear hp9
                  obtain ⟨k, hk, rfl, rfl, HL⟩ := hrel
                  replace HL := Lib.hid HL
                  obtain ⟨M, hM⟩ : ∃ M, Hid (manyR v xs.length k = M) := ⟨_, Lib.hid rfl⟩
                  have hMk : M ≤ k := by rw [← hM.out]; exact manyR_le _ _ _
                  rw [hM.out]
                  by_cases hlt : k < xs.length
                  · have hX1 := loc_lt xs.length k
                    have hXk : Hid (expI ((xs.length : Int) - 1 - (k : Int)) = ((loc xs.length k : Nat) : Int)) := by
                      unfold Hid expI loc
                      congr 2
                      omega
                    have hI1 := ivp_lt xs.length k
                    have hIk : Hid (invI ((loc xs.length k : Nat) : Int) = ((ivp xs.length k : Nat) : Int)) := by
                      unfold Hid invI ivp
                      rw [Int.toNat_natCast, Nat.mod_eq_of_lt hX1]
                    obtain ⟨I, hI⟩ : ∃ I, Hid (ivp xs.length k = I) := ⟨_, Lib.hid rfl⟩
                    obtain ⟨X, hX⟩ : ∃ X, Hid (loc xs.length k = X) := ⟨_, Lib.hid rfl⟩
                    rw [hI.out] at hI1 hIk
                    rw [hX.out] at hX1 hXk hIk
                    have hce : Hid (∀ w, Calls Try.prog 33 #[.int .i64 ((xs.length : Int) - 1 - (k : Int))] w fun e w' => e = .returned (.int .u16 (X : Int)) ∧ w = w') := fun w => by
                      have := refexp_any ((xs.length : Int) - 1 - (k : Int)) w
                      rwa [hXk.out] at this
                    obtain ⟨c0, hci⟩ : ∃ c : Bool, Hid (∀ w, Calls Try.prog 44 #[.int .u16 (X : Int)] w fun e w' => e = .returned (.tuple #[.int .u16 (I : Int), .bool c]) ∧ w = w') := ⟨_, fun w => by
                      have := refinv_any (X : Int) w (by omega) (by omega)
                      rwa [hIk.out] at this⟩
                    clear hXk hIk hX
                    go_wp2_with fail
                    refine (hce.out _).mono ?_
                    rintro e w' ⟨rfl, rfl⟩
                    go_wp2_with fail
                    refine (hci.out _).mono ?_
                    rintro e w' ⟨rfl, rfl⟩
                    clear hce hci
                    have hca := Lib.hid (refat_any V cv v I wr (HL.out.slf hV.out hglo.out) (by omega) hI1)
                    obtain ⟨EV, hEV⟩ : ∃ EV, Hid (ev I v = EV) := ⟨_, Lib.hid rfl⟩
                    rw [hEV.out] at hca
                    go_wp2_with fail
                    refine hca.out.mono ?_
                    rintro e w3 ⟨rfl, hdr⟩
                    have HL3 := Lib.hid (HL.out.drawn hdr)
                    clear HL hdr hca
                    by_cases h0 : EV = 0
                    · have hz : ((EV : Int) != 0) = false := by simp [h0]
                      have hsv := slope_le v
                      obtain ⟨ED, hED⟩ : ∃ ED, Hid (ev I (slope v) = ED) := ⟨_, Lib.hid rfl⟩
                      have hED1 : ED < 1024 := by rw [← hED.out]; exact ev_lt _ _
                      have hcd := Lib.hid (refat_any D dc (slope v) I w3 (HL3.out.slf hD9.out hglo.out) (by omega) hI1)
                      rw [hED.out] at hcd
                      by_cases hd0 : ED = 0
                      · have hD : Hid (Dec xs [] 0 4) := Dec.none hsz'.out HX.out (fun c hc => (hND.out c hc).2.1 k hlt (by rw [hI.out, hEV.out, h0]) (by rw [hI.out, hED.out, hd0]))
                        have hci : Hid (∃ G : Int, ∀ w, Calls Try.prog 44 #[.int .u16 (ED : Int)] w fun e w' => e = .returned (.tuple #[.int .u16 G, .bool false]) ∧ w = w') := ⟨_, fun w => by
                          have := refinv_any (ED : Int) w (by omega) (by omega)
                          rwa [show ((ED : Int) % 1024 != 0) = false by simp [hd0]] at this⟩
                        obtain ⟨G, hci⟩ := hci.out
                        replace hci := Lib.hid hci
                        clear hd0 h0 hND
                        go_wp2_with fail
                        refine hcd.out.mono ?_
                        rintro e w4 ⟨rfl, hdr⟩
                        have HL4 := Lib.hid (HL3.out.drawn hdr)
                        clear HL3 hdr hcd
                        go_wp2_with fail
                        refine (hci.out _).mono ?_
                        rintro e w' ⟨rfl, rfl⟩
                        go_wp2_with fail
                        go_ret3
                        exact RowD.nil hD.out (HL4.out.below hb09.out hg)
                      · have hG1 : ginv ED < 1024 := ginv_lt _
                        have hci : Hid (∀ w, Calls Try.prog 44 #[.int .u16 (ED : Int)] w fun e w' => e = .returned (.tuple #[.int .u16 ((ginv ED : Nat) : Int), .bool true]) ∧ w = w') := fun w => by
                          have := refinv_any (ED : Int) w (by omega) (by omega)
                          have hiv : invI (ED : Int) = ((ginv ED : Nat) : Int) := by
                            unfold invI
                            rw [Int.toNat_natCast, Nat.mod_eq_of_lt hED1]
                          rwa [show ((ED : Int) % 1024 != 0) = true by simp; omega, hiv] at this
                        obtain ⟨G, hG⟩ : ∃ G, Hid (ginv ED = G) := ⟨_, Lib.hid rfl⟩
                        rw [hG.out] at hci hG1
                        obtain ⟨EB, hEB⟩ : ∃ EB, Hid (ev I b = EB) := ⟨_, Lib.hid rfl⟩
                        have hEB1 : EB < 1024 := by rw [← hEB.out]; exact ev_lt _ _
                        obtain ⟨Q, hQ⟩ : ∃ Q, Hid (gm EB G = Q) := ⟨_, Lib.hid rfl⟩
                        have hQ1 : Q < 1024 := by rw [← hQ.out]; exact gm_lt _ hEB1
                        have hmul : Hid (∀ w, Calls Try.prog 28 #[.int .u16 (EB : Int), .int .u16 (G : Int)] w fun e w' => e = .returned (.int .u16 (Q : Int)) ∧ w = w') := fun w => by
                          have := refmul_any (EB : Int) (G : Int) w (by omega) (by omega) (by omega) (by omega)
                          rwa [mulI_nat hEB1 hG1, hQ.out] at this
                        obtain ⟨Y, hY⟩ : ∃ Y, Hid (at_ xs k = Y) := ⟨_, Lib.hid rfl⟩
                        have hY1 : Y < 1024 := by rw [← hY.out]; exact at_lt HX.out (by decide)
                        have hxor := u16_xor_nat Y Q (by omega) (by omega)
                        have hM' : Hid (manyR v xs.length (k + 1) = M + 1) := by
                          unfold Hid manyR
                          rw [hM.out, hI.out, hEV.out, if_pos h0]
                        have hnext : Hid (∀ j, j < xs.length → (if j = k then Y ^^^ Q else fx v b xs k j) = fx v b xs (k + 1) j) := fun j _ => by
                          unfold fx
                          by_cases h1 : j = k
                          · rw [if_pos h1, if_pos (by omega), h1]
                            unfold fixd
                            rw [hI.out, hEV.out, if_pos h0, hED.out, hEB.out, hG.out, hQ.out, hY.out]
                          · rw [if_neg h1]
                            by_cases h2 : j < k
                            · rw [if_pos h2, if_pos (by omega)]
                            · rw [if_neg h2, if_neg (by omega)]
                        have hfk : Hid (fx v b xs k k = Y) := by
                          unfold Hid fx
                          rw [if_neg (by omega), hY.out]
                        generalize Y ^^^ Q = Z at *
                        clear hd0 h0 hND hG hQ hED hY
                        go_wp2_with fail
                        refine hcd.out.mono ?_
                        rintro e w4 ⟨rfl, hdr⟩
                        have HL4 := Lib.hid (HL3.out.drawn hdr)
                        clear HL3 hdr hcd
                        go_wp2_with fail
                        refine (hci.out _).mono ?_
                        rintro e w' ⟨rfl, rfl⟩
                        clear hci
                        go_wp2_with fail
                        refine Cl.region_way (fun _ => True) 13 [(0, .r), (1, .r), (2, .r), (3, .r), (4, .r), (5, .r), (6, .r), (7, .r), (9, .r), (8, .c), (10, .c), (11, .r), (12, .r), (13, .z)] (by kernel_rfl) (by kernel_rfl) ?_
                        intro w5 hk5
                        have HL5 := Lib.hid (HL4.out.keeps hk5)
                        have hcA : ∀ y : Cl.Since (fun _ => True) w5, y.w.cell? ⟨g, k, none⟩ = some (.int .u16 (Y : Int)) := fun y => by
                          rw [← hfk.out]
                          exact (HL5.out.keeps y.keeps).2.cell hlt
                        iterate 9 (refine Cl.way_r rfl ?_; go_big_quiet_step (fail); refine wpQuiet_nil ?_)
                        clear hcA hk5 HL4
                        have hcb := Lib.hid (refat_any B' cb b I w5 (HL5.out.slf hB.out hglo.out) (by omega) hI1)
                        rw [hEB.out] at hcb
                        refine Cl.way_c rfl ?_
                        go_wp2_with (go_at_call 45; refine hcb.out.mono ?_; rintro e w6 ⟨rfl, hdr⟩)
                        refine Cl.way_on hdr.keeps ?_
                        have HL6 := Lib.hid (HL5.out.drawn hdr)
                        clear HL5 hdr hcb
                        refine Cl.way_c rfl ?_
                        go_wp2_with (go_at_call 28; (with_reducible refine (hmul.out _).mono ?_); rintro e w7 ⟨rfl, rfl⟩)
                        refine Cl.way_on (Cl.Keeps.refl _ _) ?_
                        iterate 2 (refine Cl.way_r rfl ?_; go_big_quiet_step (fail); refine wpQuiet_nil ?_)
                        refine Cl.way_z rfl ?_
                        have hc7 := HL6.out.2.cell hlt
                        rw [hfk.out] at hc7
                        have hf7 := HL6.out.2.frozen k
                        go_wp2_with fail
                        refine Cl.Calm.normal ?_
                        have HL8 := Lib.hid ((HL6.out.set_ k Z).congr hnext.out)
                        clear HL6 hc7 hf7 hnext hfk
                        go_wp2_with fail
                        go_roundw
                        case rel => exact ⟨k + 1, by omega, by go_num, by rw [hM'.out]; go_num, HL8.out⟩
                        case measure => simp [intOf]; omega
                    · have hz : ((EV : Int) != 0) = true := by simp; omega
                      have hM' : Hid (manyR v xs.length (k + 1) = M) := by
                        unfold Hid manyR
                        rw [hM.out, hI.out, hEV.out, if_neg h0, Nat.add_zero]
                      have HL4 : Hid (DecL w9 g xs.length (fx v b xs (k + 1)) w3) := HL3.out.congr fun j _ => by
                        unfold fx
                        by_cases h1 : j = k
                        · rw [if_neg (by omega), if_pos (by omega), h1]
                          unfold fixd
                          rw [hI.out, hEV.out, if_neg h0, Nat.xor_zero]
                        · by_cases h2 : j < k
                          · rw [if_pos h2, if_pos (by omega)]
                          · rw [if_neg h2, if_neg (by omega)]
                      clear h0 HL3
                      go_wp2_with fail
                      go_roundw
                      case rel => exact ⟨k + 1, by omega, by go_num, by rw [hM'.out], HL4.out⟩
                      case measure => simp [intOf]; omega
                  · obtain rfl : k = xs.length := by omega
                    have hF : Hid (∀ j, fixd v b (slope v) xs xs.length j < 1024) := fun j => fixd_lt HX.out _ _
                    obtain ⟨ys, hys⟩ : ∃ ys, Hid (rm xs.length (fixd v b (slope v) xs xs.length) = ys) := ⟨_, Lib.hid rfl⟩
                    have hyl : ys.length = xs.length := by rw [← hys.out, rm_len]
                    have hyb : Hid (∀ y ∈ ys, y < 1024) := by rw [← hys.out]; exact Lib.hid (rm_mem fun j _ => hF.out j)
                    have hyat : Hid (∀ j, j < xs.length → at_ ys j = fixd v b (slope v) xs xs.length j) := fun j hj => by
                      rw [← hys.out, at_rm, if_pos hj]
                    have hys1 : Hid (Sl wr wr.heap.size (some ⟨g, 0, none⟩) ys) := by
                      rw [← hys.out]
                      exact Lib.hid ((HL.out.congr (f' := fixd v b (slope v) xs xs.length) fun j hj => by unfold fx; rw [if_pos hj]).2.sl fun j _ => by have := hF.out j; omega)
                    have hEq : Hid (∀ c, Near xs c → ys = c) := fun c hc => list_ext_at (by rw [hyl, hc.len]) fun j hj => by
                      rw [hyat.out j (by omega)]
                      exact (hND.out c hc).2.2.1 j (by omega)
                    have hwd := Lib.hid (HL.out.word hx9.out hg hb09.out.size)
                    have hbe := Lib.hid (HL.out.below hb09.out hg)
                    clear HL hF hys hyat hD9 hB hx9 hb09 hW9
                    by_cases hm : M = v.length - 1
                    · have hmB : ((M : Int) != (v.length : Int) - 1) = false := by simp; omega
                      clear hm hND hM
                      have hsy := refsyn_any (some ⟨g, 0, none⟩) c1 ys wr hys1.out (by omega)
                      rw [hyl] at hsy
                      replace hsy := Lib.hid hsy
                      have hsl := Lib.hid (show (sums ys).length = 16 by unfold sums; exact rm_len _ _)
                      go_wp2_with fail
                      refine hsy.out.mono ?_
                      rintro e w6 ⟨A6, c6, rfl, _, hs6, hb6⟩
                      have hcc := Lib.hid (refclean_any A6 c6 (sums ys) w6 hs6 (by rw [hsl.out]; decide))
                      have hys6 := Lib.hid (hys1.out.far hb6)
                      have hwd6 := Lib.hid (hwd.out.far hb6)
                      have hbe6 := Lib.hid (hbe.out.trans (hb6.mono hbe.out.size))
                      clear hsy hs6 hb6 hys1 hwd hbe
                      have hcw : Hid (cleanB (sums ys) = true ↔ isCw ys) := cleanB_cw ys
                      obtain ⟨bc, hbc⟩ : ∃ bc, Hid (cleanB (sums ys) = bc) := ⟨_, Lib.hid rfl⟩
                      rw [hbc.out] at hcc hcw
                      clear hbc hsl
                      cases bc
                      · have hD : Hid (Dec xs [] 0 4) := Dec.none hsz'.out HX.out (fun c hc => by
                          have h1 := hEq.out c hc
                          have h2 := hcw.out.2 (by rw [h1]; exact hc.cw)
                          cases h2)
                        clear hcw hEq
                        go_wp2_with fail
                        refine hcc.out.mono ?_
                        rintro e w7 ⟨rfl, rfl⟩
                        clear hcc
                        go_wp2_with fail
                        go_ret3
                        exact RowD.nil hD.out hbe6.out
                      · have hcwy : Hid (isCw ys) := hcw.out.1 rfl
                        clear hcw
                        go_wp2_with fail
                        refine hcc.out.mono ?_
                        rintro e w7 ⟨rfl, rfl⟩
                        clear hcc
                        obtain ⟨dd, hdd⟩ : ∃ dd, Hid (dl ys xs = dd) := ⟨_, Lib.hid rfl⟩
                        have hds := refdistance_any (some ⟨g, 0, none⟩) A c1 c ys xs w6 hys6.out hwd6.out (by omega) hl
                        rw [hyl, hdd.out] at hds
                        replace hds := Lib.hid hds
                        go_wp2_with fail
                        refine hds.out.mono ?_
                        rintro e w8 ⟨rfl, hdr⟩
                        have hys8 := Lib.hid (hys6.out.far (Cl.Keeps.below hdr.keeps))
                        have hwd8 := Lib.hid (hwd6.out.far (Cl.Keeps.below hdr.keeps))
                        have hbe8 := Lib.hid (hbe6.out.trans ((Cl.Keeps.below hdr.keeps).mono hbe6.out.size))
                        clear hds hys6 hwd6 hbe6 hdr
                        by_cases h8d : 8 < dd
                        · have hd8 : decide ((8 : Int) < (dd : Int)) = true := by rw [decide_eq_true_eq]; omega
                          have hD : Hid (Dec xs [] 0 4) := Dec.none hsz'.out HX.out (fun c hc => by
                            have h1 := hEq.out c hc
                            have h2 := hc.near
                            rw [← h1, hdd.out] at h2
                            omega)
                          clear h8d hEq
                          go_wp2_with fail
                          go_ret3
                          exact RowD.nil hD.out hbe8.out
                        · have hd8 : decide ((8 : Int) < (dd : Int)) = false := by rw [decide_eq_false_iff_not]; omega
                          have hD : Hid (Dec xs ys dd 0) := by
                            have := Dec.ok hsz'.out HX.out ys ⟨hyl, hyb.out, hcwy.out, by rw [hdd.out]; omega⟩
                            rwa [hdd.out] at this
                          have hds := refdistance_any (some ⟨g, 0, none⟩) A c1 c ys xs w8 hys8.out hwd8.out (by omega) hl
                          rw [hyl, hdd.out] at hds
                          replace hds := Lib.hid hds
                          clear h8d hEq
                          go_wp2_with fail
                          refine hds.out.mono ?_
                          rintro e w9 ⟨rfl, hdr⟩
                          have hys9 := Lib.hid (hys8.out.far (Cl.Keeps.below hdr.keeps))
                          have hbe9 := Lib.hid (hbe8.out.trans ((Cl.Keeps.below hdr.keeps).mono hbe8.out.size))
                          clear hds hys8 hwd8 hbe8 hdr
                          go_wp2_with fail
                          go_ret3
                          exact ⟨ys, dd, 0, _, c1, hD.out, by rw [hyl]; rfl, by rw [hyl]; exact hc1.out, hys9.out, hbe9.out⟩
                    · have hmB : ((M : Int) != (v.length : Int) - 1) = true := by simp; omega
                      have hD : Hid (Dec xs [] 0 4) := Dec.none hsz'.out HX.out (fun c hc => hm (by rw [← hM.out]; exact (hND.out c hc).2.2.2))
                      clear hm hND
                      go_wp2_with fail
                      go_ret3
                      exact RowD.nil hD.out hbe.out
        · have hn : Near xs xs := ⟨rfl, HX.out, hclean.out.1 hcl, by rw [(dl_zero rfl).2 rfl]; exact Nat.zero_le _⟩
          have hD := Dec.ok hsz'.out HX.out xs hn
          rw [(dl_zero rfl).2 rfl] at hD
          replace hD := Lib.hid hD
          clear hcl hclean hn
          go_wp2_with fail
          go_ret3
          exact ⟨xs, 0, 0, _, c1, hD.out, rfl, hc1.out, by have := (hpre.out.below hb2.out hpre.out.lt).sl (fun j _ => by have := at_lt (j := j) HX.out (by decide); omega); rwa [rm_at] at this, hb1.out.trans (hb2.out.mono hb1.out.size)⟩
end Go.Proofs.Ytciafkobnlfpbaa
