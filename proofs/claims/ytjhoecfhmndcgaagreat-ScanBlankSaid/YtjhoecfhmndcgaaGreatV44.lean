/- The device: New. · The device in a law's hands: what stays true from call to call. · The device: what each operation makes, case by case. -/
import Derived.Test.YtjhoecfhmndcgaaGreatV43
namespace Go.Proofs.YtjhoecfhmndcgaaGreat
open Go.RowKit
set_option linter.unusedVariables false
set_option linter.unusedSimpArgs false
attribute [local go_sem ↓] Cl.quiet_after Cl.quiet_since
section
variable {w w' : World} {lo g kb cb B P W K m : Nat} {o : Nat → Nat} {md : Nat → Bool} {kp cp : Nat → Nat} {pa : Nat → Nat → Addr}
/-- a block is marked -/
theorem Part.mark (h : Part w lo o g kb cb B P W K m md kp cp pa) {x : Nat} (hx : x < B) : Part (w.setCell ⟨kb, x * 4 + 2, none⟩ (.bool true)) lo o g kb cb B P W K m (putB md x true) kp cp pa := by
  obtain ⟨cs, hcs, hsz⟩ := h.kr
  have hs : (w.setCell ⟨kb, x * 4 + 2, none⟩ (.bool true)).heap.size = w.heap.size := by simp [World.setCell]
  have ot : ∀ b, b ≠ kb → (w.setCell ⟨kb, x * 4 + 2, none⟩ (.bool true)).heap[b]? = w.heap[b]? := fun b hb => Below.heap_setCell _ _ _ _ (by show b ≠ kb; exact hb)
  have oc : ∀ i, i ≠ x * 4 + 2 → (w.setCell ⟨kb, x * 4 + 2, none⟩ (.bool true)).cell? ⟨kb, i, none⟩ = w.cell? ⟨kb, i, none⟩ := fun i hi => World.cell?_setCell_other _ _ _ _ (by intro e; injection e; omega)
  exact {
    new := fun b hb' => h.new b (by rw [← hs]; exact hb')
    gl := ⟨h.gl.1, by rw [hs]; exact h.gl.2⟩
    gt := h.gt
    gh := (ot g (fun e => by have h1 := h.gt; rw [e, h.kt] at h1; cases h1)).trans h.gh
    kl := ⟨h.kl.1, by rw [hs]; exact h.kl.2⟩
    kt := h.kt
    kr := kr_set hcs hsz
    k0 := fun i hi => (oc _ (by omega)).trans (h.k0 i hi)
    k1 := fun i hi => (oc _ (by omega)).trans (h.k1 i hi)
    k2 := fun i hi => by
      show _ = some (Value.bool (if i = x then true else md i))
      by_cases e : i = x
      · subst e
        rw [if_pos rfl]
        exact World.cell?_setCell_same _ _ _ (h.k2 i hi)
      · rw [if_neg e]
        exact (oc _ (by omega)).trans (h.k2 i hi)
    k3 := fun i hi => (oc _ (by omega)).trans (h.k3 i hi)
    pl := fun i hi => ⟨(h.pl i hi).1, by rw [hs]; exact (h.pl i hi).2⟩
    pt := h.pt
    pc := h.pc
    pp := fun i hi j hj => (World.cell?_of_block (a := ⟨kp i, j, none⟩) (ot _ (fun e2 => by have h1 := h.pt i hi; rw [show kp i = kb from e2, h.kt] at h1; cases h1))).trans (h.pp i hi j hj)
    pg := fun i hi j hj => (h.pg i hi j hj).block (by rw [hs]; exact Nat.le_refl _) fun b hb' hF => ot b (fun e2 => by
      have h1 := hF.2
      rw [show b = kb from e2, h.kt] at h1
      unfold tg at h1
      omega) }
/-- a new device -/
def freshD (B P W K : Nat) (md : Nat → Bool) (ts : List (Int × Int × Int)) : Dev := ⟨B, P, W, K, fun _ _ => blankPg (W * (K + 16)), fun _ => 0, md, fun _ => false, ts, 0, 0, false⟩
theorem Part.done (h : Part w lo o g kb cb B P W K B md kp cp pa) (hb : Below w.heap.size w w') {pf : Addr} {ts : List (Int × Int × Int)} (hf : FtIn w' (fun b => w.heap.size ≤ b) pf ts) (hm : Ft.mayF ts = true) (hk : ∀ x ∈ ts, x.2.2 ≤ 9223372036854775807) (hg : Ge.mayG B P W K = true) (F : Nat → Prop) (hF : ∀ b, lo ≤ b → F b) :
    Chip (w'.setCell ⟨g, 5, none⟩ (.pointer (some pf))) F ⟨g, 0, none⟩ (freshD B P W K md ts) := by
  have h' := h.below hb
  have hgh := h'.gh
  have hs : (w'.setCell ⟨g, 5, none⟩ (.pointer (some pf))).heap.size = w'.heap.size := by simp [World.setCell]
  have ot : ∀ b, b ≠ g → (w'.setCell ⟨g, 5, none⟩ (.pointer (some pf))).heap[b]? = w'.heap[b]? := fun b hb => Below.heap_setCell _ _ _ _ (by show b ≠ g; exact hb)
  have cg := cell_of hgh
  have oc : ∀ i, i ≠ 5 → (w'.setCell ⟨g, 5, none⟩ (.pointer (some pf))).cell? ⟨g, i, none⟩ = (headC kb cb B P W K)[i]? := fun i hi => (World.cell?_setCell_other _ _ _ _ (by intro e; injection e; omega)).trans (cg i)
  have hkg : kb ≠ g := fun e => by have h1 := h.gt; rw [← e, h.kt] at h1; cases h1
  have ek := ot kb hkg
  have ck : ∀ i, (w'.setCell ⟨g, 5, none⟩ (.pointer (some pf))).cell? ⟨kb, i, none⟩ = w'.cell? ⟨kb, i, none⟩ := fun i => World.cell?_of_block ek
  let o' : Nat → Nat := fun b => if w.heap.size ≤ b ∧ b < w'.heap.size then 3 else o b
  have o1 : ∀ b, b < w.heap.size → o' b = o b := fun b hb => if_neg (by omega)
  have o2 : ∀ b, w.heap.size ≤ b → b < w'.heap.size → o' b = 3 := fun b h1 h2 => if_pos ⟨h1, h2⟩
  have hlo : lo ≤ w.heap.size := by have := h.kl; omega
  refine ⟨⟨g, kb, cb, pf, kp, cp, pa⟩, rfl, o', ?_⟩
  exact {
    new := fun b hb' => by
      rw [hs] at hb'
      show (if w.heap.size ≤ b ∧ b < w'.heap.size then 3 else o b) = 9
      rw [if_neg (by omega)]
      exact h'.new b hb'
    gl := by show g < _; rw [hs]; exact h'.gl.2
    gt := ⟨hF g h.gl.1, (o1 g h.gl.2).trans h.gt⟩
    gf := fun i => by rw [World.frozen?_setCell]; exact frozen_new hgh i
    g0 := oc 0 (by decide)
    g1 := oc 1 (by decide)
    g2 := oc 2 (by decide)
    g3 := oc 3 (by decide)
    g4 := oc 4 (by decide)
    g5 := World.cell?_setCell_same _ _ _ (cg 5)
    g6 := oc 6 (by decide)
    g7 := oc 7 (by decide)
    g8 := oc 8 (by decide)
    kl := by show kb < _; rw [hs]; exact h'.kl.2
    kt := ⟨hF kb h.kl.1, (o1 kb h.kl.2).trans h.kt⟩
    kf := fun i => by
      obtain ⟨cs, hcs, _⟩ := h'.kr
      exact (frozen_block ek i).trans (frozen_new hcs i)
    k0 := fun i hi => (ck _).trans (h'.k0 i hi)
    k1 := fun i hi => (ck _).trans (h'.k1 i hi)
    k2 := fun i hi => (ck _).trans (h'.k2 i hi)
    k3 := fun i hi => (ck _).trans (h'.k3 i hi)
    pl := fun i hi => by show kp i < _; rw [hs]; exact (h'.pl i hi).2
    pt := fun i hi => ⟨hF _ (h.pl i hi).1, (o1 _ (h.pl i hi).2).trans (h.pt i hi)⟩
    pc := h.pc
    pp := fun i hi j hj => (World.cell?_of_block (a := ⟨kp i, j, none⟩) (ot _ (fun e2 => by have h1 := h.pt i hi; rw [show kp i = g from e2, h.gt] at h1; cases h1))).trans (h'.pp i hi j hj)
    pg := fun i hi j hj => by
      refine ((h'.pg i hi j hj).block (by rw [hs]; exact Nat.le_refl _) fun b hb' hh => ot b (fun e2 => ?_)).only fun b hb' hh => ⟨hF b hh.1, ?_⟩
      · have h1 := hh.2
        rw [show b = g from e2, h.gt] at h1
        unfold tg at h1
        omega
      · rcases Nat.lt_or_ge b w.heap.size with hlt | hge
        · exact (o1 b hlt).trans hh.2
        · have h1 := h.new b hge
          have h2 := hh.2
          unfold tg at h2
          omega
    len := fun i hi j hj => by
      show (List.replicate (W * (K + 16)) ((0 : Int), (0 : Int))).length = W * (K + 16)
      rw [List.length_replicate]
    ft := by
      refine ((hf.block (w' := w'.setCell ⟨g, 5, none⟩ (.pointer (some pf))) (by rw [hs]; exact Nat.le_refl _) fun b hb' hh => ot b (by have := h.gl; omega))).mono fun b hb' hh => ⟨hF b (by omega), ?_⟩
      rw [hs] at hb'
      exact o2 b hh hb'
    fm := hm
    fk := hk
    geo := hg }
end
/-- a device that has nothing but its row of blocks -/
theorem part_new (w : World) (lo : Nat) (hlo : lo ≤ w.heap.size) (B P W K : Nat) : Part ((w.alloc (.cells (zB B) 79)).alloc (.cells (headC w.heap.size B B P W K) 75)) lo (fun b => if b = w.heap.size + 1 then 0 else if b = w.heap.size then 1 else 9) (w.heap.size + 1) w.heap.size B B P W K 0 (fun _ => false) (fun _ => 0) (fun _ => 0) (fun _ _ => ⟨0, 0, none⟩) := by
  have h1 := heap_alloc_new w (.cells (zB B) 79)
  have s1 := World.size_alloc w (.cells (zB B) 79)
  generalize w.alloc (.cells (zB B) 79) = w1 at *
  have h2 := heap_alloc_new w1 (.cells (headC w.heap.size B B P W K) 75)
  have s2 := World.size_alloc w1 (.cells (headC w.heap.size B B P W K) 75)
  have hb := below_alloc' w1 (.cells (headC w.heap.size B B P W K) 75)
  generalize w1.alloc (.cells (headC w.heap.size B B P W K) 75) = w2 at *
  have hk : w2.heap[w.heap.size]? = some (.cells (zB B) 79 (0, 0)) := (hb.block w.heap.size (by omega)).trans h1
  have ck := cell_of hk
  rw [s1] at h2
  exact {
    new := fun b hb' => by
      show (if b = w.heap.size + 1 then 0 else if b = w.heap.size then 1 else 9) = 9
      rw [if_neg (by omega), if_neg (by omega)]
    gl := by omega
    gt := if_pos rfl
    gh := h2
    kl := by omega
    kt := by
      show (if w.heap.size = w.heap.size + 1 then 0 else if w.heap.size = w.heap.size then 1 else 9) = 1
      rw [if_neg (by omega), if_pos rfl]
    kr := ⟨zB B, hk, by rw [zB_size]; exact Nat.le_refl _⟩
    k0 := fun i hi => absurd hi (by omega)
    k1 := fun i hi => (ck _).trans (zB_at hi (by decide))
    k2 := fun i hi => (ck _).trans (zB_at hi (by decide))
    k3 := fun i hi => (ck _).trans (zB_at hi (by decide))
    pl := fun i hi => absurd hi (by omega)
    pt := fun i hi => absurd hi (by omega)
    pc := fun i hi => absurd hi (by omega)
    pp := fun i hi => absurd hi (by omega)
    pg := fun i hi => absurd hi (by omega) }
/-- the marks of a list of blocks -/
def marksOf (bs : List Nat) (i : Nat) : Nat → Bool := fun b => (bs.take i).any fun x => decide (x = b)
theorem marks_step (bs : List Nat) (i : Nat) (hi : i < bs.length) : putB (marksOf bs i) (syAt bs i) true = marksOf bs (i + 1) := by
  funext b
  unfold putB marksOf
  have e : syAt bs i = bs[i] := by unfold syAt; simp [List.getD, List.getElem?_eq_getElem hi]
  rw [List.take_succ_eq_append_getElem hi, List.any_append, e]
  by_cases h : b = bs[i]
  · rw [if_pos h]; simp [h]
  · rw [if_neg h]
    have : decide (bs[i] = b) = false := decide_eq_false fun e => h e.symm
    simp [this]
set_option maxRecDepth 20000 in
set_option maxHeartbeats 8000000 in
theorem d_new {w : World} (B P W K : Nat) (hg : Ge.mayG B P W K = true) {A : Option Addr} {bs : List Nat} {n c : Nat} (hbs : Ints w 0 A bs) (hn : bs.length = n) (hl : n ≤ 1000000) (hx : ∀ x ∈ bs, x < B)
    {A2 : Option Addr} {ts : List (Int × Int × Int)} {n2 c2 : Nat} (hts : Ft.S3 w w.heap.size A2 ts) (hn2 : ts.length = n2) (hm : Ft.mayF ts = true) (hk : ∀ x ∈ ts, x.2.2 ≤ 9223372036854775807) (F : Nat → Prop) (hF : ∀ b, w.heap.size ≤ b → F b) :
    Calls Tryz.prog 13 #[.agg #[.int .i64 (B : Int), .int .i64 (P : Int), .int .i64 (W : Int), .int .i64 (K : Int)], .slice A n c, .slice A2 n2 c2] w fun e w' => ∃ a, e = .returned (.tuple #[.pointer (some a), .int .i64 0]) ∧ Below w.heap.size w w' ∧ Chip w' F a (freshD B P W K (marksOf bs n) ts) := by
  have hP := Ge.may_of hg
  have hA := below_alloc' w (.cells #[.int .i64 (B : Int), .int .i64 (P : Int), .int .i64 (W : Int), .int .i64 (K : Int)] 34)
  have hbx := Ge.Box.new w (B : Int) (P : Int) (W : Int) (K : Int)
  have hmay := Lib.hid (Ge.may_lit hg)
  generalize hw1 : w.alloc (.cells #[.int .i64 (B : Int), .int .i64 (P : Int), .int .i64 (W : Int), .int .i64 (K : Int)] 34) = w1 at *
  obtain ⟨_, c0, c1, c2', c3⟩ := hbx
  replace hbx := Lib.hid (Ge.Box.mk ‹_› c0 c1 c2' c3)
  replace hA := Lib.hid hA
  replace hP := Lib.hid hP
  go_enter Tryz.func13, Tryz.ntmps13
  go_wp2_with (go_at_call 28; (with_reducible refine (hmay.out _).mono ?_); rintro e w2 ⟨rfl, hb2⟩)
  clear c0 c1 c2' c3
  refine Cl.region_way0 (fun _ => True) 7 [(0, .r), (1, .r), (2, .r), (3, .c), (4, .r), (5, .c), (6, .r)] (by kernel_rfl) (by kernel_rfl) ?_
  intro w3 hk3
  have hb3 := Lib.hid (hb2.trans (hk3.below.mono hb2.size))
  have hx3 := Lib.hid (hbx.out.keep hb3.out)
  have hA3 := Lib.hid (hA.out.trans (hb3.out.mono hA.out.size))
  clear hk3 hb2
  have k0 := fun y : Cl.Since (fun _ => True) w3 => (hx3.out.keep y.keeps.below).c0
  have k1 := fun y : Cl.Since (fun _ => True) w3 => (hx3.out.keep y.keeps.below).c1
  have k2 := fun y : Cl.Since (fun _ => True) w3 => (hx3.out.keep y.keeps.below).c2
  have k3 := fun y : Cl.Since (fun _ => True) w3 => (hx3.out.keep y.keeps.below).c3
  iterate 3 (refine Cl.way_r rfl ?_; go_big_quiet_step (fail); refine wpQuiet_nil ?_)
  clear k0 k1 k2 k3
  refine Cl.way_c rfl ?_
  have hmk := run_makeB w3 B (by have := hP.out; omega)
  go_wp2_with (simp only [hmk])
  refine Cl.way_on (Cl.Keeps.of_below (below_alloc' w3 _)) ?_
  refine Cl.way_r rfl ?_; go_big_quiet_step (fail); refine wpQuiet_nil ?_
  refine Cl.way_c rfl ?_
  go_wp2_with fail
  refine Cl.way_on (Cl.Keeps.of_below (below_alloc' _ _)) ?_
  refine Cl.way_r rfl ?_; go_big_quiet_step (fail); refine wpQuiet_nil ?_
  refine Cl.way_end ?_
  have hz3 := hA3.out.size
  have hp5 := part_new w3 w.heap.size hz3 B P W K
  have hb4 := below_alloc' w3 (.cells (zB B) 79)
  have hb5 := hb4.trans ((below_alloc' (w3.alloc (.cells (zB B) 79)) (.cells (headC w3.heap.size B B P W K) 75)).mono hb4.size)
  unfold headC at hp5 hb5
  clear hmk hb4
  generalize (w3.alloc (.cells (zB B) 79)).alloc (.cells #[.int .i64 (B : Int), .int .i64 (P : Int), .int .i64 (W : Int), .int .i64 (K : Int), .slice (some ⟨w3.heap.size, 0, none⟩) B B, .pointer none, .int .i64 0, .int .i64 0, .bool false] 75) = w5 at *
  have hB5 := Lib.hid (hb3.out.trans (hb5.mono hb3.out.size))
  have hA5 := Lib.hid (hA3.out.trans (hb5.mono hA3.out.size))
  have g4 : w5.cell? ⟨w3.heap.size + 1, 4, none⟩ = some (.slice (some ⟨w3.heap.size, 0, none⟩) B B) := cell_of hp5.gh 4
  have hp0 : Hid (∃ o kp cp pa, Part w5 w.heap.size o (w3.heap.size + 1) w3.heap.size B B P W K 0 (fun _ => false) kp cp pa) := Lib.hid ⟨_, _, _, _, hp5⟩
  clear hp5 hb5 hz3 hx3 hA3
  obtain ⟨g, hge⟩ : ∃ g, w3.heap.size + 1 = g := ⟨_, rfl⟩
  obtain ⟨kb, hke⟩ : ∃ kb, w3.heap.size = kb := ⟨_, rfl⟩
  rw [hge] at g4 hp0 ⊢
  rw [hke] at g4 hp0 ⊢
  have hkb : Hid (w1.heap.size ≤ kb) := by rw [← hke]; exact Lib.hid hb3.out.size
  clear hge hke
  have hbl := Lib.hid (blank_anyY B P W K hg)
  go_wp2_with fail
  go_loopw [28] (fun q wr => ∃ i : Nat, i ≤ B ∧ q = .int .i64 i ∧ Below w.heap.size w wr ∧ Below w1.heap.size w1 wr ∧ ∃ o kp cp pa, Part wr w.heap.size o g kb B B P W K i (fun _ => false) kp cp pa) (fun q _ => B - (intOf q).toNat)
  case atStart => exact ⟨0, Nat.zero_le _, rfl, hA5.out, hB5.out, hp0.out⟩
  case round =>
    obtain ⟨i, hi, rfl, hB, hB1, hR⟩ := hrel
    by_cases hin : i < B
    · have hiI : (i : Int) < (B : Int) := by omega
      have hdi : decide (i < B) = true := decide_eq_true hin
      have hi64 : i < 64 := by have := hP.out; omega
      obtain ⟨o, kp, cp, pa, hR⟩ := hR
      replace hR := Lib.hid hR
      replace hB := Lib.hid hB
      replace hB1 := Lib.hid hB1
      go_wp2_with fail
      refine Cl.region_way0 (fun _ => True) 9 [(0, .r), (1, .r), (2, .r), (3, .r), (4, .r), (5, .r), (6, .c), (7, .r), (8, .r), (9, .z)] (by kernel_rfl) (by kernel_rfl) ?_
      intro w6 hk6
      have hR6 := Lib.hid (hR.out.below hk6.below)
      have hB6 := Lib.hid (hB.out.trans (hk6.below.mono hB.out.size))
      have hB16 := Lib.hid (hB1.out.trans (hk6.below.mono hB1.out.size))
      have hx6 := Lib.hid (hbx.out.keep hB16.out)
      clear hk6 hR hB hB1
      have q4 := fun y : Cl.Since (fun _ => True) w6 => (show y.w.cell? ⟨g, 4, none⟩ = some (.slice (some ⟨kb, 0, none⟩) B B) from cell_of (hR6.out.below y.keeps.below).gh 4)
      have k0 := fun y : Cl.Since (fun _ => True) w6 => (hx6.out.keep y.keeps.below).c0
      have k1 := fun y : Cl.Since (fun _ => True) w6 => (hx6.out.keep y.keeps.below).c1
      have k2 := fun y : Cl.Since (fun _ => True) w6 => (hx6.out.keep y.keeps.below).c2
      have k3 := fun y : Cl.Since (fun _ => True) w6 => (hx6.out.keep y.keeps.below).c3
      iterate 6 (refine Cl.way_r rfl ?_; go_big_quiet_step (fail); refine wpQuiet_nil ?_)
      clear q4 k0 k1 k2 k3
      refine Cl.way_c rfl ?_
      go_wp2_with (go_at_call 29; (with_reducible refine (hbl.out _).mono ?_); rintro e w7 ⟨k, pa1, t1, rfl, hb7, hr7⟩; have hcf := (hR6.out.below hb7).cellk hin (q := 0) (by decide); have hput := Lib.hid (hR6.out.put hin hb7 hr7); have hkbl := (hR6.out.below hb7).kl; have hB7 := Lib.hid (hB6.out.trans (hb7.mono hB6.out.size)); have hB17 := Lib.hid (hB16.out.trans (hb7.mono hB16.out.size)))
      refine Cl.way_on (Cl.Keeps.of_below hb7) ?_
      obtain ⟨⟨v, hv⟩, hfz⟩ := hcf
      have hv : w7.cell? ⟨kb, i * 4, none⟩ = some v := hv
      have hfz : w7.frozen? ⟨kb, i * 4, none⟩ = false := hfz
      clear hb7 hr7
      iterate 2 (refine Cl.way_r rfl ?_; go_big_quiet_step (fail); refine wpQuiet_nil ?_)
      refine Cl.way_z rfl ?_
      go_wp2_with fail
      refine Cl.Calm.normal ?_
      have hkw : w1.heap.size ≤ kb := hkb.out
      have hB8 := Lib.hid (hB7.out.setCell (p := ⟨kb, i * 4, none⟩) hkbl.1 (.slice (some ⟨k, 0, none⟩) P P))
      have hB18 := Lib.hid (hB17.out.setCell (p := ⟨kb, i * 4, none⟩) hkw (.slice (some ⟨k, 0, none⟩) P P))
      generalize w7.setCell ⟨kb, i * 4, none⟩ (.slice (some ⟨k, 0, none⟩) P P) = w8 at *
      clear hv hfz
      go_wp2_with fail
      go_roundw
      case rel => exact ⟨i + 1, by omega, by go_num, hB8.out, hB18.out, hput.out⟩
      case measure => simp [intOf]; omega
    · obtain rfl : i = B := by omega
      have hdi : decide (i < i) = false := decide_eq_false (Nat.lt_irrefl _)
      obtain ⟨o, kp, cp, pa, hR⟩ := hR
      clear hp0 hbl hA5 hB5 g4
      have hR0 : Hid (∃ o kp cp pa, Part wr w.heap.size o g kb i i P W K i (marksOf bs 0) kp cp pa) := Lib.hid ⟨o, kp, cp, pa, hR⟩
      clear hR
      replace hB := Lib.hid hB
      replace hB1 := Lib.hid hB1
      go_wp2_with fail
      go_loopw [43] (fun q wr => ∃ j : Nat, j ≤ n ∧ q = .int .i64 j ∧ Below w.heap.size w wr ∧ Below w1.heap.size w1 wr ∧ ∃ o kp cp pa, Part wr w.heap.size o g kb i i P W K i (marksOf bs j) kp cp pa) (fun q _ => n - (intOf q).toNat)
      case atStart => exact ⟨0, Nat.zero_le _, rfl, hB.out, hB1.out, hR0.out⟩
      case round =>
        clear hB hB1 hR0
        obtain ⟨j, hj, rfl, hB, hB1, hR⟩ := hrel
        by_cases hjn : j < n
        · have hjI : (j : Int) < (n : Int) := by omega
          have hdj : decide (j < n) = true := decide_eq_true hjn
          obtain ⟨o, kp, cp, pa, hR⟩ := hR
          rcases hbs with hnil | ⟨a, rfl, _, hab, hc⟩
          · rw [hnil] at hn; simp at hn; omega
          have hcr : wr.cell? (a.add j) = some (.int .i64 (syAt bs j : Int)) := (hB.cell (by rw [add_block]; exact hab)).trans (hc j (by omega))
          have hxB : syAt bs j < i := by
            have e : syAt bs j = bs[j]'(by omega) := by unfold syAt; simp [List.getD, List.getElem?_eq_getElem (show j < bs.length by omega)]
            rw [e]
            exact hx _ (List.getElem_mem _)
          have hst := marks_step bs j (by omega)
          obtain ⟨x, hxe⟩ : ∃ x, syAt bs j = x := ⟨_, rfl⟩
          rw [hxe] at hcr hxB hst
          clear hxe hc
          have hxI : (x : Int) < (i : Int) := by omega
          have hx64 : x < 64 := by have := hP.out; omega
          have hd1 : decide ((x : Int) < 0) = false := decide_eq_false (by omega)
          have hd2 : decide (i ≤ x) = false := decide_eq_false (by omega)
          have hd3 : decide ((i : Int) ≤ (x : Int)) = false := decide_eq_false (by omega)
          have c0 := (hbx.out.keep hB1).c0
          have q4 : wr.cell? ⟨g, 4, none⟩ = some (.slice (some ⟨kb, 0, none⟩) i i) := cell_of hR.gh 4
          have hcf := (hR.cellk hxB (q := 2) (by decide))
          obtain ⟨⟨v, hv⟩, hfz⟩ := hcf
          have hkbl := hR.kl
          have hmk := hR.mark hxB
          rw [hst] at hmk
          have hmk2 : Hid (∃ o kp cp pa, Part (wr.setCell ⟨kb, x * 4 + 2, none⟩ (.bool true)) w.heap.size o g kb i i P W K i (marksOf bs (j + 1)) kp cp pa) := Lib.hid ⟨o, kp, cp, pa, hmk⟩
          have hB8 := Lib.hid (hB.setCell (p := ⟨kb, x * 4 + 2, none⟩) hkbl.1 (.bool true))
          have hB18 := Lib.hid (hB1.setCell (p := ⟨kb, x * 4 + 2, none⟩) hkb.out (.bool true))
          clear hR hmk hst hB hB1
          go_wp2_with fail
          go_roundw
          case rel => exact ⟨j + 1, by omega, by go_num, hB8.out, hB18.out, hmk2.out⟩
          case measure => simp [intOf]; omega
        · obtain rfl : j = n := by omega
          have hdj : decide (j < j) = false := decide_eq_false (Nat.lt_irrefl _)
          obtain ⟨o, kp, cp, pa, hR⟩ := hR
          have hfn := Lib.hid (fates_new (c := c2) (hts.far hB) hn2 hm)
          replace hR := Lib.hid hR
          replace hB := Lib.hid hB
          clear hbs hB1
          go_wp2_with (go_at_call 30; (with_reducible refine hfn.out.mono ?_); rintro e w9 ⟨pf, rfl, hb9, hf9⟩; have hgh := (hR.out.below hb9).gh; have q5 := cell_of hgh 5; have hfz := frozen_new hgh 5; simp only [headC, List.getElem?_toArray, List.getElem?_cons_zero, List.getElem?_cons_succ] at q5; clear hgh)
          go_ret2
          have hgl := hR.out.gl
          exact ⟨_, rfl, (hB.out.trans (hb9.mono hB.out.size)).setCell (p := ⟨g, 5, none⟩) hgl.1 _, hR.out.done hb9 hf9 hm hk hg F hF⟩
end Go.Proofs.YtjhoecfhmndcgaaGreat
namespace Go.Proofs.YtjhoecfhmndcgaaGreat
open Go.RowKit Go.Fl
set_option linter.unusedVariables false
set_option linter.unusedSimpArgs false
/-- the device, made behind world w0, in blocks of F -/
structure Env (w0 : World) (F : Nat → Prop) (a : Addr) (M : Dev) (w : World) : Prop where
  low : Below w0.heap.size w0 w
  all : ∀ b, w.heap.size ≤ b → F b
  own : ∀ b, F b → w0.heap.size ≤ b
  dev : Chip w F a M
section
variable {w0 w w' : World} {F : Nat → Prop} {a : Addr} {M : Dev}
theorem Env.geo (h : Env w0 F a M w) : Ge.mayG M.B M.P M.W M.K = true := by
  obtain ⟨L, _, o, h⟩ := h.dev
  exact h.geo
theorem Env.below (h : Env w0 F a M w) (hb : Below w.heap.size w w') : Env w0 F a M w' :=
  ⟨h.low.trans (hb.mono h.low.size), fun b hb' => h.all b (Nat.le_trans hb.size hb'), h.own, h.dev.below hb⟩
theorem Env.keep (h : Env w0 F a M w) (hk : Cl.Keeps (fun b => ¬ F b) w w') {M' : Dev} (hc : Chip w' F a M') : Env w0 F a M' w' :=
  ⟨Cl.Keeps.low h.low h.own hk, fun b hb => h.all b (Nat.le_trans hk.size hb), h.own, hc⟩
/-- a block that is none of the device's is left to others -/
theorem Env.leave (h : Env w0 F a M w) (hb : Below w.heap.size w w') (s : Nat) (hs : w.heap.size ≤ s) (hs2 : s < w'.heap.size) : Env w0 (fun b => F b ∧ b ≠ s) a M w' := by
  obtain ⟨L, e, o, hd⟩ := h.dev
  refine ⟨h.low.trans (hb.mono h.low.size), fun b hb' => ⟨h.all b (Nat.le_trans hb.size hb'), by omega⟩, fun b hh => h.own b hh.1, L, e, o, (hd.below hb).only fun b _ h1 h2 => ⟨h1, fun e => h2 (by rw [e]; exact hd.new s hs)⟩⟩
/-- a row of symbols that is not the device's -/
structure Syms (w : World) (F : Nat → Prop) (A : Option Addr) (n c : Nat) (xs : List Nat) : Prop where
  sl : Sl w w.heap.size A xs
  out : ∀ a, A = some a → a.block < w.heap.size ∧ ¬ F a.block
  len : xs.length = n
  cap : n ≤ c
  sym : ∀ x ∈ xs, x < 1024
theorem Syms.keep {A : Option Addr} {n c : Nat} {xs : List Nat} (h : Syms w F A n c xs) (hk : Cl.Keeps (fun b => ¬ F b) w w') : Syms w' F A n c xs :=
  ⟨keeps_sl h.sl h.out hk, fun a e => ⟨Nat.lt_of_lt_of_le (h.out a e).1 hk.size, (h.out a e).2⟩, h.len, h.cap, h.sym⟩
theorem Syms.below {A : Option Addr} {n c : Nat} {xs : List Nat} (h : Syms w F A n c xs) (hb : Below w.heap.size w w') : Syms w' F A n c xs := h.keep (Cl.Keeps.of_below hb)
theorem Syms.less {G : Nat → Prop} {A : Option Addr} {n c : Nat} {xs : List Nat} (h : Syms w F A n c xs) (hg : ∀ b, G b → F b) : Syms w G A n c xs :=
  ⟨h.sl, fun a e => ⟨(h.out a e).1, fun hh => (h.out a e).2 (hg _ hh)⟩, h.len, h.cap, h.sym⟩
theorem Syms.given {A : Option Addr} {n c : Nat} {xs : List Nat} (h : Syms w F A n c xs) (hn : n = M.n) : Given w F A n c xs M := ⟨h.sl, h.out, h.len, hn, h.cap, h.sym⟩
theorem e_program (h : Env w0 F a M w) (hf : Fine M) (b p : Nat) (hb : b < M.B) (hp : p < M.P) {bI pI : Int} (e1 : bI = (b : Int)) (e2 : pI = (p : Int)) {A : Option Addr} {n c : Nat} {xs : List Nat} (hs : Syms w F A n c xs) (hn : n = M.n) {r : Int} {M' : Dev} (hR : stepD M 2 b p xs = (r, M')) :
    Calls Tryz.prog 16 #[.pointer (some a), .int .i64 bI, .int .i64 pI, .slice A n c] w fun e w' => e = .returned (.int .i64 r) ∧ Cl.Keeps (fun b => ¬ F b) w w' ∧ Env w0 F a M' w' := by
  subst e1 e2
  refine (d_program h.dev h.all hf hb hp (hs.given hn)).mono fun e w' hh => ?_
  obtain ⟨he, hk, hc⟩ := hh
  rw [hR] at he hc
  exact ⟨he, hk, h.keep hk hc⟩
theorem e_erase (h : Env w0 F a M w) (hf : Fine M) (b : Nat) (hb : b < M.B) {bI : Int} (e1 : bI = (b : Int)) {r : Int} {M' : Dev} (hR : stepD M 3 b 0 [] = (r, M')) :
    Calls Tryz.prog 20 #[.pointer (some a), .int .i64 bI] w fun e w' => e = .returned (.int .i64 r) ∧ Cl.Keeps (fun b => ¬ F b) w w' ∧ Env w0 F a M' w' := by
  subst e1
  refine (d_erase h.dev h.all hf hb (by have := Ge.may_of h.geo; omega)).mono fun e w' hh => ?_
  obtain ⟨he, hk, hc⟩ := hh
  rw [hR] at he hc
  exact ⟨he, hk, h.keep hk hc⟩
theorem e_power (h : Env w0 F a M w) : Calls Tryz.prog 22 #[.pointer (some a)] w fun e w' => e = .returned (.tuple #[]) ∧ Cl.Keeps (fun b => ¬ F b) w w' ∧ Env w0 F a { M with dark := false } w' :=
  (d_power h.dev h.all).mono fun e w' ⟨he, hk, hc⟩ => ⟨he, hk, h.keep hk hc⟩
theorem e_sense_no (h : Env w0 F a M w) (hf : Fine M) (bI pI : Int) (hb : ¬ (0 ≤ bI ∧ bI < (M.B : Int) ∧ 0 ≤ pI ∧ pI < (M.P : Int))) {r : Int} {M' : Dev} (hR : stepN M = (r, M')) :
    Calls Tryz.prog 40 #[.pointer (some a), .int .i64 bI, .int .i64 pI] w fun e w' => e = .returned (.tuple #[.slice none 0 0, .int .i64 r]) ∧ Cl.Keeps (fun b => ¬ F b) w w' ∧ Env w0 F a M' w' := by
  refine (d_sense_no h.dev h.all hf hb).mono fun e w' hh => ?_
  obtain ⟨he, hk, hc⟩ := hh
  rw [hR] at he hc
  exact ⟨he, hk, h.keep hk hc⟩
/-- the points that were sensed lie in a block of their own -/
theorem e_sense (h : Env w0 F a M w) (hf : Fine M) (b p : Nat) (hb : b < M.B) (hp : p < M.P) {bI pI : Int} (e1 : bI = (b : Int)) (e2 : pI = (p : Int)) {M' : Dev} (hR : stepD M 1 b p [] = (0, M')) {n : Nat} (hn : M.n = n) {ps : List (Int × Int)} (hps : (M'.pg b p).ps = ps) (hne : ps ≠ []) :
    Calls Tryz.prog 40 #[.pointer (some a), .int .i64 bI, .int .i64 pI] w fun e w' => ∃ g c, e = .returned (.tuple #[.slice (some ⟨g, 0, none⟩) n c, .int .i64 0]) ∧ n ≤ c ∧ Cl.Keeps (fun b => ¬ F b) w w' ∧ w.heap.size ≤ g ∧ g < w'.heap.size ∧ Env w0 (fun b => F b ∧ b ≠ g) a M' w' ∧ ∀ i, i < ps.length → IsP w' ⟨g, i, none⟩ (ptAt ps i) := by
  subst e1 e2
  refine (d_sense h.dev h.all hf hb hp (by rw [hR]) hn).mono fun e w' hh => ?_
  obtain ⟨A, c, he, hnc, hk, hc, hpt⟩ := hh
  rw [hR] at hc hpt
  rw [show ((0, M').2.pg b p).ps = ps from hps] at hpt
  rcases hpt with hpt | ⟨g, rfl, hg, hrow, hcells⟩
  · exact absurd hpt hne
  · have hgl := hrow.lt
    have hG : ∀ b', (F b' ∧ ∀ q, some (⟨g, 0, none⟩ : Addr) = some q → b' ≠ q.block) → F b' ∧ b' ≠ g := fun b' hh => ⟨hh.1, hh.2 _ rfl⟩
    refine ⟨g, c, he, hnc, hk, hg, hgl, ⟨Cl.Keeps.low h.low h.own hk, fun b' hb' => ⟨h.all b' (Nat.le_trans hk.size hb'), by omega⟩, fun b' hh => h.own b' hh.1, ?_⟩, hcells⟩
    obtain ⟨L, el, hrep⟩ := hc
    exact ⟨L, el, hrep.only fun b' _ hh => hG b' hh⟩
theorem e_ops (h : Env w0 F a M w) {r : Int} (hr : r = (M.ops : Int)) : Calls Tryz.prog 18 #[.pointer (some a)] w (AnsY w (.int .i64 r)) := by subst hr; exact d_ops h.dev
end
/-- New, in a law's hands -/
theorem e_new {w : World} (B P W K : Nat) {b p k l : Int} (e1 : b = (B : Int)) (e2 : p = (P : Int)) (e3 : k = (W : Int)) (e4 : l = (K : Int)) (hg : Ge.mayG B P W K = true) {A : Option Addr} {bs : List Nat} {n c : Nat} (hbs : Ints w 0 A bs) (hn : bs.length = n) (hl : n ≤ 1000000) (hx : ∀ x ∈ bs, x < B)
    {A2 : Option Addr} {ts : List (Int × Int × Int)} {n2 c2 : Nat} (hts : Ft.S3 w w.heap.size A2 ts) (hn2 : ts.length = n2) (hm : Ft.mayF ts = true) (hk : ∀ x ∈ ts, x.2.2 ≤ 9223372036854775807) :
    Calls Tryz.prog 13 #[.agg #[.int .i64 b, .int .i64 p, .int .i64 k, .int .i64 l], .slice A n c, .slice A2 n2 c2] w fun e w' => ∃ a, e = .returned (.tuple #[.pointer (some a), .int .i64 0]) ∧ Below w.heap.size w w' ∧ Env w (fun b => w.heap.size ≤ b) a (freshD B P W K (marksOf bs n) ts) w' := by
  subst e1 e2 e3 e4
  exact (d_new B P W K hg hbs hn hl hx hts hn2 hm hk (fun b => w.heap.size ≤ b) (fun b hb => hb)).mono fun e w' ⟨a, he, hb, hc⟩ => ⟨a, he, hb, hb, fun b hb' => Nat.le_trans hb.size hb', fun b hb' => hb', hc⟩
end Go.Proofs.YtjhoecfhmndcgaaGreat
namespace Go.Proofs.YtjhoecfhmndcgaaGreat
open Go.RowKit
set_option linter.unusedVariables false
set_option linter.unusedSimpArgs false
section
variable {M : Dev} {b p : Nat} {xs : List Nat}
theorem sn_no (hd : M.dark = false) : stepN M = (1, { M with ops := M.ops + 1, rf := M.rf + 1 }) := by unfold stepN; rw [if_neg (by rw [hd]; simp)]
theorem st_ok {k : Int} (hd : M.dark = false) (he : faultE M k b p = 0) (h2 : (fateOf M).2.1 ≠ 2) : stepD M k b p xs = carryR { M with ops := M.ops + 1 } k b p xs (fateOf M) := by
  unfold stepD opR
  rw [if_neg (by rw [hd]; simp), he, if_pos rfl, if_neg h2]
theorem st_cut {k : Int} (hd : M.dark = false) (he : faultE M k b p = 0) (h2 : (fateOf M).2.1 = 2) : stepD M k b p xs = (8, { (carryR { M with ops := M.ops + 1 } k b p xs (fateOf M)).2 with dark := true }) := by
  unfold stepD opR
  rw [if_neg (by rw [hd]; simp), he, if_pos rfl, if_pos h2]
theorem st_prog (hd : M.dark = false) (he : progE M b p = 0) (h1 : (fateOf M).2.1 ≠ 1) (h2 : (fateOf M).2.1 ≠ 2) : stepD M 2 b p xs = (0, { M with ops := M.ops + 1, pg := setPg M.pg b p (progPg (M.pg b p) xs M.n) }) := by
  rw [st_ok (k := 2) hd (show faultE M 2 b p = 0 from he) h2]
  show ((progEv (fateOf M), _) : Int × Dev) = _
  unfold progEv keepP
  rw [if_neg h1, if_neg h1, if_neg h2]
  rfl
theorem st_prog_cut (hd : M.dark = false) (he : progE M b p = 0) (h2 : (fateOf M).2.1 = 2) : stepD M 2 b p xs = (8, { M with ops := M.ops + 1, pg := setPg M.pg b p (progPg (M.pg b p) xs (fateOf M).2.2), dark := true }) := by
  rw [st_cut (k := 2) hd (show faultE M 2 b p = 0 from he) h2]
  have e : keepP M.n (9 * M.W) (fateOf M) = (fateOf M).2.2 := by unfold keepP; rw [if_neg (by rw [h2]; decide), if_pos h2]
  show ((8, { M with ops := M.ops + 1, pg := setPg M.pg b p (progPg (M.pg b p) xs (keepP M.n (9 * M.W) (fateOf M))), dark := true }) : Int × Dev) = _
  rw [e]
theorem st_erase (hd : M.dark = false) (he : erasE M b = 0) (h1 : (fateOf M).2.1 ≠ 1) (h2 : (fateOf M).2.1 ≠ 2) : stepD M 3 b 0 [] = (0, { wiped M b M.P with ops := M.ops + 1, er := putB M.er b (M.er b + 1) }) := by
  rw [st_ok (k := 3) hd (show faultE M 3 b 0 = 0 from he) h2]
  show erasR _ b (fateOf M) = _
  unfold erasR
  rw [if_neg h1, if_neg h2]
  rfl
theorem st_sense (hd : M.dark = false) (h2 : (fateOf M).2.1 ≠ 2) : stepD M 1 b p [] = (0, { M with ops := M.ops + 1 }) := by rw [st_ok hd rfl h2]; rfl
theorem progE_ok (h1 : M.md b = false) (h2 : nextB M b p = true) (h3 : M.bk b = false) : progE M b p = 0 := by
  unfold progE
  rw [h1, h2, h3]
  rfl
theorem erasE_ok (h1 : M.md b = false) (h3 : M.bk b = false) : erasE M b = 0 := by unfold erasE; rw [h1, h3]; rfl
theorem nextB_yes (h : ∀ j, j < M.P → p ≤ j → (M.pg b j).st = 0) (h2 : p = 0 ∨ (M.pg b (p - 1)).st ≠ 0) : nextB M b p = true := by
  unfold nextB
  rw [blankFrom_yes h]
  simpa using h2
theorem fateOf_nil (h : M.ft = []) : fateOf M = (0, 0, 0) := by unfold fateOf; rw [h]; rfl
end
end Go.Proofs.YtjhoecfhmndcgaaGreat
