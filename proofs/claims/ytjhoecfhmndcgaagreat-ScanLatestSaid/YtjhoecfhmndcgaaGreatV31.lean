/- The program's package code: mend. · The program's package code: Decode. · The program's package code: Decode, walked. -/
import Derived.Test.YtjhoecfhmndcgaaGreatV30
import Derived.Test.YtjhoecfhmndcgaaGreatV15
namespace Go.Proofs.YtjhoecfhmndcgaaGreat
open Go.RowKit Go.Gf
set_option maxRecDepth 20000
attribute [local go_sem ↓] exec_load_tb Cl.quiet_since
attribute [local go_sem] tbAt_ptr tbIn_ptr

/-- a copy of one's own, put right -/
def MendR (w : World) (n : Nat) (f : Nat → Nat) (e : Ending) (w' : World) : Prop :=
  ∃ g c, e = .returned (.slice (some ⟨g, 0, none⟩) n c) ∧ n ≤ c ∧ w.heap.size ≤ g ∧ Pre w' g n f ∧ Below w.heap.size w w'
theorem ivp_exp {n k : Nat} (hk : k < n) : ((ivp n k : Nat) : Int) = expI (1 - (n : Int) + (k : Int)) := by
  have h := invI_exp ((n - 1 - k : Nat) : Int)
  rw [show -(((n - 1 - k : Nat)) : Int) = 1 - (n : Int) + (k : Int) by omega, ← expI_nat] at h
  rw [← h]
  unfold invI ivp loc
  rw [Int.toNat_natCast, Nat.mod_eq_of_lt (E_lt _)]
theorem DecL.tb {w9 wr : World} {g n h : Nat} {f : Nat → Nat} {cs : List Nat} (H : DecL w9 g n f wr) (t : Tb w9 h cs) (hg : h ≠ g) : Tb wr h cs := (H.1.block h t.lt hg).trans t
theorem slope_row {n : Nat} (A : Option Addr) (c : Nat) (xs : List Nat) (w : World) (hn : xs.length = n) (h : Sl w w.heap.size A xs) (hl : n ≤ 1000000) :
    Calls Tryz.prog 160 #[.slice A n c] w fun e w' => ∃ B, e = .returned (.slice B (slope xs).length (slope xs).length) ∧ SlF w' w.heap.size B (slope xs) ∧ Below w.heap.size w w' := by
  subst hn
  refine (pslope_blk A c xs w h hl).mono ?_
  rintro e w' ⟨g, hg, rfl, ha, hb, hy⟩
  exact ⟨_, rfl, (ha.sl hy).fresh (fun a e => by injection e with e; rw [← e]; exact hg), hb⟩
set_option maxHeartbeats 8000000 in
set_option maxRecDepth 20000 in
theorem mend_any (cs : List Nat) (hcs : Tab cs) (A B C : Option Addr) (c cb cc : Nat) (xs v b : List Nat) (w : World) (ha : Sl w w.heap.size A xs) (hb : Sl w w.heap.size B v) (hc : Sl w w.heap.size C b)
    (h1 : 1 ≤ xs.length) (h2 : xs.length ≤ 1023) (hlv : v.length ≤ 1000000) (hlb : b.length ≤ 1000000) (hx : ∀ x ∈ xs, x < 1024) :
    Calls Tryz.prog 144 #[.agg (cells cs), .slice A xs.length c, .slice B v.length cb, .slice C b.length cc] w (MendR w xs.length (fixd v b (slope v) xs xs.length)) := by
  have HCS := Lib.hid hcs
  have HX := Lib.hid hx
  have hbW : Below w.heap.size w (w.alloc (.cells (cells cs) 50)) := (Below.refl _ _).alloc (Nat.le_refl _) _
  have hT := Lib.hid (tb_new w cs)
  have HB := Lib.hid (hb.far hbW)
  have HC := Lib.hid (hc.far hbW)
  have hxne : Hid (xs ≠ []) := by intro e; rw [e] at h1; simp at h1
  have hcl := Lib.hid (clone_any A c xs _ (ha.far hbW) (by omega))
  have hslen := Lib.hid (slope_le v)
  have hXE0 : Hid (ExpIs (1 - (xs.length : Int)) ((ivp xs.length 0 : Nat) : Int)) := expIs (by
    rw [ivp_exp (by omega)]
    congr 1; omega)
  have hXE1 : Hid (ExpIs 1 ((E 1 : Nat) : Int)) := expIs (expI_nat 1).symm
  have hstep : Hid (∀ k, k + 1 < xs.length → mulI ((ivp xs.length k : Nat) : Int) ((E 1 : Nat) : Int) = ((ivp xs.length (k + 1) : Nat) : Int)) := fun k hk => by
    rw [ivp_exp (by omega), ivp_exp hk, expI_nat, mulI_exp]
    congr 1
    push_cast
    omega
  have hE1 := E_lt 1
  obtain ⟨N1, hN1⟩ : ∃ N1, Hid (E 1 = N1) := ⟨_, Lib.hid rfl⟩
  rw [hN1.out] at hXE1 hstep hE1
  clear ha hb hc hcs hx hbW
  go_enter Tryz.func144, Tryz.ntmps144
  go_wp2_with (first
    | (go_at_call 142; (with_reducible refine hcl.out.mono ?_); rintro e w1 ⟨A1, c1, rfl, hc1, hp1, _, hb1⟩; obtain ⟨g, rfl, hg, hp⟩ := hp1 hxne.out; clear hp1; replace hp := Lib.hid hp; replace hg := Lib.hid hg; replace hb1 := Lib.hid hb1; have hsl := Lib.hid (slope_row B cb v w1 rfl (HB.out.far hb1.out) hlv))
    | (go_at_call 160; (with_reducible refine hsl.out.mono ?_); rintro e w2 ⟨S, rfl, hs2, hb2⟩; replace hs2 := Lib.hid hs2; replace hb2 := Lib.hid hb2))
  have hbW : Below w.heap.size w (w.alloc (.cells (cells cs) 50)) := (Below.refl _ _).alloc (Nat.le_refl _) _
  have hgw : w.heap.size < g := Nat.lt_of_lt_of_le hT.out.lt hg.out
  have HT2 := Lib.hid ((hT.out.keep hb1.out).keep hb2.out)
  have HW2 := Lib.hid ((hbW.trans (hb1.out.mono hbW.size)).trans (hb2.out.mono (Nat.le_trans hbW.size hb1.out.size)))
  have HP2 := Lib.hid (hp.out.keep (hb2.out.block g hp.out.lt))
  have HB2 : Hid (Sl w2 g B v) := ((HB.out.below hb1.out).below (hb2.out.mono hb1.out.size)).more hg.out
  have HC2 : Hid (Sl w2 g C b) := ((HC.out.below hb1.out).below (hb2.out.mono hb1.out.size)).more hg.out
  have hg1 : Hid (g < w1.heap.size) := hp.out.lt
  obtain ⟨lo, hlo⟩ : ∃ lo, Hid (w1.heap.size = lo) := ⟨_, Lib.hid rfl⟩
  rw [hlo.out] at hs2 hg1
  replace hgw := Lib.hid hgw
  obtain ⟨d, hd⟩ : ∃ d, Hid (slope v = d) := ⟨_, Lib.hid rfl⟩
  rw [hd.out] at hs2 hslen ⊢
  clear hbW hT hb1 hb2 hp hcl hsl HB HC hlo hg
  refine Cl.region_way (fun _ => True) 9 [(0, .r), (1, .r), (2, .r), (3, .r), (5, .r), (4, .c), (6, .c), (7, .r), (8, .r)] (by kernel_rfl) (by kernel_rfl) ?_
  intro w3 hk3
  have HT3 := Lib.hid (Keeps.tb hk3 HT2.out)
  have HW3 := Lib.hid (HW2.out.trans ((Cl.Keeps.below hk3).mono HW2.out.size))
  have HP3 := Lib.hid (HP2.out.keep (hk3.block g HP2.out.lt trivial))
  have HB3 := Lib.hid (HB2.out.below ((Cl.Keeps.below hk3).mono (Nat.le_of_lt HP2.out.lt)))
  have HC3 := Lib.hid (HC2.out.below ((Cl.Keeps.below hk3).mono (Nat.le_of_lt HP2.out.lt)))
  have HS3 := Lib.hid (hs2.out.far (Cl.Keeps.below hk3))
  have hiA : ∀ y : Cl.Since (fun _ => True) w3, isTb y.w w.heap.size = true := fun y => (Keeps.tb y.keeps HT3.out).is HCS.out.1
  have hoA : ∀ y : Cl.Since (fun _ => True) w3, tbOf y.w w.heap.size = cells cs := fun y => (Keeps.tb y.keeps HT3.out).of
  iterate 5 (refine Cl.way_r rfl ?_; go_big_quiet_step (fail); refine wpQuiet_nil ?_)
  clear hk3 hiA hoA HT2 HW2 HP2 HB2 HC2 hs2
  refine Cl.way_c rfl ?_
  go_wp2_with (go_at_call 155; (with_reducible refine (hXE0.out.at HCS.out _).mono ?_); rintro e w4 ⟨rfl, hb4⟩)
  refine Cl.way_on (Cl.Keeps.of_below hb4) ?_
  refine Cl.way_c rfl ?_
  go_wp2_with (go_at_call 155; (with_reducible refine (hXE1.out.at HCS.out _).mono ?_); rintro e w5 ⟨rfl, hb5⟩)
  refine Cl.way_on (Cl.Keeps.of_below hb5) ?_
  have hb35 := hb4.trans (hb5.mono hb4.size)
  have HT5 := Lib.hid (HT3.out.keep hb35)
  have HW5 := Lib.hid (HW3.out.trans (hb35.mono HW3.out.size))
  have HP5 := Lib.hid (HP3.out.keep (hb35.block g HP3.out.lt))
  have HB5 := Lib.hid (HB3.out.below (hb35.mono (Nat.le_of_lt HP3.out.lt)))
  have HC5 := Lib.hid (HC3.out.below (hb35.mono (Nat.le_of_lt HP3.out.lt)))
  have HS5 := Lib.hid (HS3.out.far hb35)
  clear hb4 hb5 hb35 HT3 HW3 HP3 HB3 HC3 HS3 hXE0 hXE1
  iterate 2 (refine Cl.way_r rfl ?_; go_big_quiet_step (fail); refine wpQuiet_nil ?_)
  refine Cl.way_end ?_
  go_wp2_with fail
  have HL0 : Hid (DecL w5 g xs.length (fx v b xs 0) w5) := (DecL.start HP5.out).congr fun j _ => by
    unfold fx
    rw [if_neg (by omega)]
  have hg5 : Hid (g ≤ w5.heap.size) := Nat.le_of_lt HP5.out.lt
  go_loopw [11, 27] (fun x q wr => ∃ k : Nat, k ≤ xs.length ∧ q = .int .i64 k ∧ (k < xs.length → x = .int .u16 ((ivp xs.length k : Nat) : Int)) ∧ (∃ X : Nat, X < 65536 ∧ x = .int .u16 (X : Int)) ∧ DecL w5 g xs.length (fx v b xs k) wr) (fun _ q _ => xs.length - (intOf q).toNat)
  case atStart => exact ⟨0, Nat.zero_le _, rfl, fun _ => rfl, ⟨_, by have := ivp_lt xs.length 0; omega, rfl⟩, HL0.out⟩
  case round =>
    clear HL0 HP5
    obtain ⟨k, hk, rfl, hxk, ⟨X0, hX0, rfl⟩, HL⟩ := hrel
    replace HL := Lib.hid HL
    by_cases hlt : k < xs.length
    · have hxe := hxk hlt
      injection hxe with _ hxe
      obtain ⟨I, hI⟩ : ∃ I, Hid (ivp xs.length k = I) := ⟨_, Lib.hid rfl⟩
      have hI1 : I < 1024 := by rw [← hI.out]; exact ivp_lt _ _
      rw [hI.out] at hxe
      obtain rfl : X0 = I := by omega
      clear hxk hxe hX0
      have hkI : (k : Int) < (xs.length : Int) := by omega
      obtain ⟨EV, hEV⟩ : ∃ EV, Hid (ev X0 v = EV) := ⟨_, Lib.hid rfl⟩
      have hTr := HL.out.tb HT5.out (by have := hgw.out; omega)
      have hi0 : isTb wr w.heap.size = true := hTr.is HCS.out.1
      have ho0 : tbOf wr w.heap.size = cells cs := hTr.of
      have hca := Lib.hid (at_row HCS.out B cb v wr (HL.out.word HB5.out (Nat.le_refl _) hg5.out) hlv hI1 hEV.out)
      -- the next place's power
      obtain ⟨J, hJ1, hMul, hJ⟩ : ∃ J : Nat, J < 65536 ∧ MulIs X0 N1 J ∧ (k + 1 < xs.length → ivp xs.length (k + 1) = J) := by
        refine ⟨gm X0 N1, by have := gm_lt N1 hI1; omega, mulIs (by omega) (by omega) (by omega) (by omega) (mulI_nat hI1 hE1), fun hk1 => ?_⟩
        have := hstep.out k hk1
        rw [hI.out, mulI_nat hI1 hE1] at this
        omega
      replace hMul := Lib.hid hMul
      replace hJ := Lib.hid hJ
      replace hTr := Lib.hid hTr
      by_cases h0 : EV = 0
      · have hz : ((EV : Int) == 0) = true := by simp [h0]
        obtain ⟨Z, hZ⟩ : ∃ Z, Hid (gm (ev X0 b) (ginv (ev X0 d)) = Z) := ⟨_, Lib.hid rfl⟩
        have hZ1 : Z < 1024 := by rw [← hZ.out]; exact gm_lt _ (ev_lt _ _)
        obtain ⟨Y, hY⟩ : ∃ Y, Hid (at_ xs k = Y) := ⟨_, Lib.hid rfl⟩
        have hY1 : Y < 1024 := by rw [← hY.out]; exact at_lt HX.out (by decide)
        have hYZ : Y ^^^ Z < 1024 := xor_lt hY1 hZ1
        have hAdd : Hid (AddIs Y Z ((Y ^^^ Z : Nat) : Int)) := addIs (by omega) (by omega) (by omega) (by omega) (by
          unfold addI
          rw [Int.toNat_natCast, Int.toNat_natCast, Nat.mod_eq_of_lt hYZ])
        have hnext : Hid (∀ j, j < xs.length → (if j = k then Y ^^^ Z else fx v b xs k j) = fx v b xs (k + 1) j) := fun j _ => by
          unfold fx
          by_cases h1 : j = k
          · rw [if_pos h1, if_pos (by omega), h1]
            unfold fixd
            rw [hI.out, hEV.out, if_pos h0, hd.out, hZ.out, hY.out]
          · rw [if_neg h1]
            by_cases h2 : j < k
            · rw [if_pos h2, if_pos (by omega)]
            · rw [if_neg h2, if_neg (by omega)]
        have hfk : Hid (fx v b xs k k = Y) := by
          unfold Hid fx
          rw [if_neg (by omega), hY.out]
        generalize hW : Y ^^^ Z = U at *
        clear h0 hY hW
        go_wp2_with (go_at_call 154; (with_reducible refine hca.out.mono ?_); rintro e w6 ⟨rfl, hb6⟩)
        have HL6 := Lib.hid (HL.out.keeps (Cl.Keeps.of_below hb6))
        clear HL hb6 hca hi0 ho0 hTr
        refine Cl.region_way (fun _ => True) 13 [(0, .r), (1, .r), (2, .r), (3, .r), (4, .r), (5, .r), (6, .r), (7, .r), (8, .r), (9, .r), (10, .c), (11, .c), (12, .r), (13, .z)] (by kernel_rfl) (by kernel_rfl) ?_
        intro w7 hk7
        have HL7 := Lib.hid (HL6.out.keeps hk7)
        have HT7 := Lib.hid (HL7.out.tb HT5.out (by have := hgw.out; omega))
        have hcA : ∀ y : Cl.Since (fun _ => True) w7, y.w.cell? ⟨g, k, none⟩ = some (.int .u16 (Y : Int)) := fun y => by
          rw [← hfk.out]
          exact (HL7.out.keeps y.keeps).2.cell hlt
        have hiA : ∀ y : Cl.Since (fun _ => True) w7, isTb y.w w.heap.size = true := fun y => (Keeps.tb y.keeps HT7.out).is HCS.out.1
        have hoA : ∀ y : Cl.Since (fun _ => True) w7, tbOf y.w w.heap.size = cells cs := fun y => (Keeps.tb y.keeps HT7.out).of
        iterate 10 (refine Cl.way_r rfl ?_; go_big_quiet_step (fail); refine wpQuiet_nil ?_)
        clear hk7 hiA hoA hcA HL6 HT7
        have hco := off_any cs HCS.out C S cc d.length b d X0 w7 (HL7.out.word HC5.out (Nat.le_refl _) hg5.out) (HL7.out.slf HS5.out hg1.out) hlb (by have := hslen.out; omega) hI1
        rw [hZ.out] at hco
        replace hco := Lib.hid hco
        refine Cl.way_c rfl ?_
        go_wp2_with (go_at_call 162; (with_reducible refine hco.out.mono ?_); rintro e w8 ⟨rfl, hb8⟩)
        refine Cl.way_on (Cl.Keeps.of_below hb8) ?_
        have HL8 := Lib.hid (HL7.out.keeps (Cl.Keeps.of_below hb8))
        clear hco hb8 HL7
        refine Cl.way_c rfl ?_
        go_wp2_with (go_at_call 161; (with_reducible refine (hAdd.out.at _).mono ?_); rintro e w9 ⟨rfl, rfl⟩)
        refine Cl.way_on (Cl.Keeps.refl _ _) ?_
        iterate 1 (refine Cl.way_r rfl ?_; go_big_quiet_step (fail); refine wpQuiet_nil ?_)
        refine Cl.way_z rfl ?_
        have hc8 := HL8.out.2.cell hlt
        rw [hfk.out] at hc8
        have hf8 := HL8.out.2.frozen k
        have HL9 := Lib.hid ((HL8.out.set_ k U).congr hnext.out)
        have hT9 := Lib.hid (HL9.out.tb HT5.out (by have := hgw.out; omega))
        have hi9 : isTb (w8.setCell ⟨g, k, none⟩ (.int .u16 (U : Int))) w.heap.size = true := hT9.out.is HCS.out.1
        have ho9 : tbOf (w8.setCell ⟨g, k, none⟩ (.int .u16 (U : Int))) w.heap.size = cells cs := hT9.out.of
        clear HL8 hnext hfk
        go_wp2_with fail
        refine Cl.Calm.normal ?_
        clear hc8 hf8
        generalize w8.setCell ⟨g, k, none⟩ (.int .u16 (U : Int)) = w9 at *
        go_wp2_with (go_at_call 163; (with_reducible refine (hMul.out.at cs _).mono ?_); rintro e w10 ⟨rfl, hb10⟩)
        have HL10 := Lib.hid (HL9.out.keeps (Cl.Keeps.of_below hb10))
        clear HL9 hb10 hi9 ho9 hT9
        go_roundw
        case rel => exact ⟨k + 1, by omega, by go_num, fun h => by rw [hJ.out h], ⟨J, hJ1, rfl⟩, HL10.out⟩
        case measure => simp [intOf]; omega
      · have hz : ((EV : Int) == 0) = false := by simp; omega
        have HL2 : Hid (DecL w5 g xs.length (fx v b xs (k + 1)) wr) := HL.out.congr fun j _ => by
          unfold fx
          by_cases h1 : j = k
          · rw [if_neg (by omega), if_pos (by omega), h1]
            unfold fixd
            rw [hI.out, hEV.out, if_neg h0, Nat.xor_zero]
          · by_cases h2 : j < k
            · rw [if_pos h2, if_pos (by omega)]
            · rw [if_neg h2, if_neg (by omega)]
        clear h0 HL
        go_wp2_with (first
          | (go_at_call 154; (with_reducible refine hca.out.mono ?_); rintro e w6 ⟨rfl, hb6⟩; have hi6 : isTb w6 w.heap.size = true := (hTr.out.keep hb6).is HCS.out.1; have ho6 : tbOf w6 w.heap.size = cells cs := (hTr.out.keep hb6).of; replace hb6 := Lib.hid hb6)
          | (go_at_call 163; (with_reducible refine (hMul.out.at cs _).mono ?_); rintro e w7 ⟨rfl, hb7⟩))
        have HL7 := Lib.hid ((HL2.out.keeps (Cl.Keeps.of_below hb6.out)).keeps (Cl.Keeps.of_below hb7))
        clear HL2 hb6 hb7 hi6 ho6 hTr hi0 ho0
        go_roundw
        case rel => exact ⟨k + 1, by omega, by go_num, fun h => by rw [hJ.out h], ⟨J, hJ1, rfl⟩, HL7.out⟩
        case measure => simp [intOf]; omega
    · obtain rfl : k = xs.length := by omega
      have HL2 := Lib.hid (HL.out.congr (f' := fixd v b (slope v) xs xs.length) fun j hj => by unfold fx; rw [if_pos hj])
      clear HL hxk
      go_wp2_with fail
      go_ret
      rw [← hd.out]
      exact ⟨g, c1, rfl, hc1, Nat.le_of_lt hgw.out, HL2.out.2, HL2.out.below HW5.out (Nat.le_of_lt hgw.out)⟩
end Go.Proofs.YtjhoecfhmndcgaaGreat
namespace Go.Proofs.YtjhoecfhmndcgaaGreat
open Go.RowKit Go.Gf
set_option maxRecDepth 20000
attribute [local go_sem ↓] exec_load_tb Cl.quiet_since
attribute [local go_sem] tbAt_ptr tbIn_ptr

/-- a decoder's answer, of its own -/
def RowDF (w : World) (xs : List Nat) (e : Ending) (w' : World) : Prop :=
  ∃ ys n f A c, Dec xs ys n f ∧ e = .returned (.tuple #[.slice A ys.length c, .int .i64 (n : Int), .int .i64 (f : Int)]) ∧ ys.length ≤ c ∧ SlF w' w.heap.size A ys ∧ Below w.heap.size w w'
theorem RowDF.nil {w w' : World} {xs : List Nat} {f : Nat} (h : Dec xs [] 0 f) (hb : Below w.heap.size w w') : RowDF w xs (.returned (.tuple #[.slice none 0 0, .int .i64 0, .int .i64 (f : Int)])) w' :=
  ⟨[], 0, f, none, 0, h, rfl, Nat.le_refl _, ⟨Sl.nil _ _ _, Or.inl rfl⟩, hb⟩
theorem sums_zero (w : List Nat) : tr (sums w) = [] ↔ isCw w := by
  constructor
  · intro h r h1 h2
    have := sums_tr w (r - 1) (by omega)
    rw [h, show r - 1 + 1 = r by omega] at this
    rw [← this]; rfl
  · intro h
    refine Classical.byContradiction fun hne => ?_
    have hl := sums_len w
    have h0 : 0 < (tr (sums w)).length := List.length_pos_iff.2 hne
    have h1 := sums_tr w ((tr (sums w)).length - 1) (by omega)
    rw [h _ (by omega) (by omega)] at h1
    have h2 := tr_last (sums w) hne
    omega
theorem clean_is {w : List Nat} {T : Bool} (h : ((((tr (sums w)).length : Nat) : Int) == 0) = T) : T = true ↔ isCw w := by
  rw [← sums_zero, ← h, beq_iff_eq]
  constructor
  · intro e; exact List.eq_nil_of_length_eq_zero (by omega)
  · intro e; rw [e]; rfl
theorem ivp_inj {n i j : Nat} (hn : n ≤ 1023) (hi : i < n) (hj : j < n) (h : ivp n i = ivp n j) : i = j := by
  have e : expI (1 - (n : Int) + (i : Int)) = expI (1 - (n : Int) + (j : Int)) := by rw [← ivp_exp hi, ← ivp_exp hj, h]
  rw [expI_eq] at e
  omega
/-- where the locator is at most eight long, at most eight places are put right -/
theorem few {w v b d : List Nat} (hn : w.length ≤ 1023) (hv : tr v = v) (h1 : 1 ≤ v.length) (h9 : v.length ≤ 9) :
    dl (rm w.length (fixd v b d w w.length)) w ≤ 8 := by
  have hl : w.length = (rm w.length (fixd v b d w w.length)).length := (rm_len _ _).symm
  rw [← dl_comm _ _ hl, dl_pos _ _ hl, ← List.length_map (f := ivp w.length)]
  have hne : tr v ≠ [] := by rw [hv]; intro e; rw [e] at h1; simp at h1
  have ht := tr_last v hne
  rw [hv] at ht
  refine Nat.le_trans (roots_le (v.length - 1) v ?_ (fun j hj => by rw [at_far (by omega)]) _ ?_ ?_) (by omega)
  · have := at_lt_tr hv (v.length - 1)
    omega
  · unfold List.Nodup
    rw [List.pairwise_map]
    unfold posTo
    refine (List.Pairwise.filter _ List.pairwise_lt_range).imp_of_mem ?_
    intro i j hi hj hij e
    have hi2 := List.mem_range.1 (List.mem_filter.1 hi).1
    have hj2 := List.mem_range.1 (List.mem_filter.1 hj).1
    have := ivp_inj hn hi2 hj2 e
    omega
  · intro r hr
    obtain ⟨j, hj, rfl⟩ := List.mem_map.1 hr
    obtain ⟨hj1, hj2⟩ := mem_pos.1 hj
    refine ⟨ivp_lt _ _, ?_⟩
    refine Classical.byContradiction fun h0 => hj2 ?_
    rw [at_rm, if_pos hj1]
    unfold fixd
    rw [if_neg h0, Nat.xor_zero]
theorem syn_row {n : Nat} (cs : List Nat) (hcs : Tab cs) (A : Option Addr) (c : Nat) (xs : List Nat) (w : World) (hn : xs.length = n) (h : Sl w w.heap.size A xs) (hl : n ≤ 1000000) :
    Calls Tryz.prog 140 #[.agg (cells cs), .slice A n c] w (RowC w (sums xs)) := by
  subst hn
  exact syn_any cs hcs A c xs w h hl
end Go.Proofs.YtjhoecfhmndcgaaGreat
namespace Go.Proofs.YtjhoecfhmndcgaaGreat
open Go.RowKit Go.Gf
set_option maxRecDepth 20000
attribute [local go_sem ↓] exec_load_tb Cl.quiet_since
attribute [local go_sem] tbAt_ptr tbIn_ptr

set_option maxRecDepth 20000 in
set_option maxHeartbeats 8000000 in
theorem decode_any (cs : List Nat) (hcs : Tab cs) (A : Option Addr) (c : Nat) (xs : List Nat) (w : World) (h : Sl w w.heap.size A xs) (hl : xs.length ≤ 1000000) :
    Calls Tryz.prog 118 #[.agg (cells cs), .slice A xs.length c] w (RowDF w xs) := by
  have H := Lib.hid h
  have HCS := Lib.hid hcs
  have hbW : Hid (Below w.heap.size w (w.alloc (.cells (cells cs) 50))) := (Below.refl _ _).alloc (Nat.le_refl _) _
  have hT := Lib.hid (tb_new w cs)
  have HW := Lib.hid (h.far hbW.out)
  have hsym := Lib.hid (symbols_any A c xs _ HW.out hl)
  clear h hcs
  by_cases hsz : xs.length < 17 ∨ 1023 < xs.length
  · have hD := Lib.hid (Dec.size hsz)
    have hc : ∃ b1 b2 : Bool, decide ((xs.length : Int) ≤ 16) = b1 ∧ decide ((1023 : Int) < (xs.length : Int)) = b2 ∧ (b1 || b2) = true := by
      refine ⟨_, _, rfl, rfl, ?_⟩
      simp only [Bool.or_eq_true, decide_eq_true_eq]; omega
    obtain ⟨b1, b2, d1, d2, hor⟩ := hc
    replace hor := Lib.hid hor
    clear hsz
    cases b1
    · cases b2
      · exact absurd hor.out (by decide)
      · go_enter Tryz.func118, Tryz.ntmps118
        go_wp2_with fail
        go_ret3
        exact RowDF.nil hD.out hbW.out
    · go_enter Tryz.func118, Tryz.ntmps118
      go_wp2_with fail
      go_ret3
      exact RowDF.nil hD.out hbW.out
  · have hsz' := Lib.hid hsz
    have d1 : decide ((xs.length : Int) ≤ 16) = false := by rw [decide_eq_false_iff_not]; omega
    have d2 : decide ((1023 : Int) < (xs.length : Int)) = false := by rw [decide_eq_false_iff_not]; omega
    have hl2 : xs.length ≤ 1023 := by omega
    have hl1 : 17 ≤ xs.length := by omega
    cases hs : symB xs
    · obtain ⟨k, hk, hb⟩ := symB_false hs
      have hD := Lib.hid (Dec.arg hsz'.out xs[k] (List.getElem_mem hk) hb)
      rw [hs] at hsym
      clear hs hb hsz
      go_enter Tryz.func118, Tryz.ntmps118
      go_wp2_with (go_at_call 139; (with_reducible refine hsym.out.mono ?_); rintro e w1 ⟨rfl, rfl⟩)
      go_ret3
      exact RowDF.nil hD.out hbW.out
    · have HX := Lib.hid (symB_true.1 hs)
      have hxne : Hid (xs ≠ []) := by intro e; rw [e] at hl1; simp at hl1
      rw [hs] at hsym
      clear hs hsz
      obtain ⟨T, hTc⟩ : ∃ T : Bool, ((((tr (sums xs)).length : Nat) : Int) == 0) = T := ⟨_, rfl⟩
      have hcw : Hid (T = true ↔ isCw xs) := clean_is hTc
      have hsl16 : Hid ((sums xs).length = 16) := by unfold Hid sums; exact rm_len _ _
      have hTcH := Lib.hid hTc
      clear hTc
      cases T
      · have hbad : Hid (¬ isCw xs) := fun h => by have := hcw.out.2 h; cases this
        clear hcw
        go_enter Tryz.func118, Tryz.ntmps118
        go_wp2_with (first
          | (go_at_call 139; (with_reducible refine hsym.out.mono ?_); rintro e w1 ⟨rfl, hw1⟩; have HB1 : Hid (Below w.heap.size w w1) := (by rw [← hw1]; exact hbW); have HT1 : Hid (Tb w1 w.heap.size cs) := (by rw [← hw1]; exact hT); have hi1 := HT1.out.is HCS.out.1; have ho1 := HT1.out.of; have HX1 := Lib.hid (H.out.far HB1.out); have hcy := Lib.hid (syn_any cs HCS.out A c xs w1 HX1.out hl); clear hw1)
          | (go_at_call 140; (with_reducible refine hcy.out.mono ?_); rintro e w2 ⟨S, cS, rfl, _, hs2, hb2⟩; replace hs2 := Lib.hid hs2; have HB2 := Lib.hid (HB1.out.trans (hb2.mono HB1.out.size)); have HT2 := Lib.hid (HT1.out.keep hb2); clear hcy hb2 hi1 ho1 HT1 HB1 HX1; have hcc := Lib.hid (clean_any S cS (sums xs) false w2 hs2.out (by rw [hsl16.out]; decide) hTcH.out))
          | (go_at_call 141; (with_reducible refine hcc.out.mono ?_); rintro e w3 ⟨rfl, hb3⟩; have hs3 := Lib.hid (hs2.out.far hb3); have HB3 := Lib.hid (HB2.out.trans (hb3.mono HB2.out.size)); have HT3 := Lib.hid (HT2.out.keep hb3); have hi3 := HT3.out.is HCS.out.1; have ho3 := HT3.out.of; clear hcc hb3 hs2 HB2 HT2; have hch := Lib.hid (search_any cs HCS.out S cS (sums xs) w3 hs3.out (by rw [hsl16.out]; decide)))
          | (go_at_call 143; (with_reducible refine hch.out.mono ?_); rintro e w4 ⟨a, b, u, v, B, cb, V, cv, rfl, hEI, h9, h8, hsV, hsB, hb4⟩; have HB4 := Lib.hid (HB3.out.trans (hb4.mono HB3.out.size)); have HT4 := Lib.hid (HT3.out.keep hb4); have hi4 := HT4.out.is HCS.out.1; have ho4 := HT4.out.of; have hlen := hEI.len; replace hEI := Lib.hid hEI; clear hch hb4 hi3 ho3 hs3 HB3 HT3; have hcm := Lib.hid (mend_any cs HCS.out A V B c cv cb xs v b w4 (H.out.far HB4.out) hsV hsB (by omega) hl2 (by omega) (by omega) HX.out); clear hsV hsB)
          | (go_at_call 144; (with_reducible refine hcm.out.mono ?_); rintro e w5 ⟨g, cg, rfl, hcg, hg, hp5, hb5⟩; have HB5 := Lib.hid (HB4.out.trans (hb5.mono HB4.out.size)); have HT5 := Lib.hid (HT4.out.keep hb5); have hi5 := HT5.out.is HCS.out.1; have ho5 := HT5.out.of; replace hp5 := Lib.hid hp5; have hgw := Lib.hid (Nat.le_trans HB4.out.size hg); clear hcm hb5 hg hi4 ho4 HB4 HT4))
        have hF : Hid (∀ j, fixd v b (slope v) xs xs.length j < 1024) := fun j => fixd_lt HX.out _ _
        have hEI' := hEI.out
        have hEq0 : Hid (∀ c, Near xs c → rm xs.length (fixd v b (slope v) xs xs.length) = c) := fun c hc => by
          have hd := dec_near hl2 HX.out hEI' h8 h9 hc hbad.out
          refine list_ext_at (by rw [rm_len, hc.len]) fun j hj => ?_
          rw [rm_len] at hj
          rw [at_rm, if_pos hj]
          exact hd.2.2.1 j hj
        have hfew0 : Hid (dl (rm xs.length (fixd v b (slope v) xs xs.length)) xs ≤ 8) := few hl2 hEI'.tv hEI'.lv (by omega)
        have hs50 : Hid (Sl w5 w5.heap.size (some ⟨g, 0, none⟩) (rm xs.length (fixd v b (slope v) xs xs.length))) := hp5.out.sl fun j _ => by have := hF.out j; omega
        obtain ⟨ys, hys⟩ : ∃ ys, Hid (rm xs.length (fixd v b (slope v) xs xs.length) = ys) := ⟨_, Lib.hid rfl⟩
        have hyl : Hid (ys.length = xs.length) := by rw [← hys.out]; exact Lib.hid (rm_len _ _)
        have hyb : Hid (∀ y ∈ ys, y < 1024) := by rw [← hys.out]; exact Lib.hid (rm_mem fun j _ => hF.out j)
        rw [hys.out] at hEq0 hfew0 hs50
        have hcom : Hid (dl xs ys = dl ys xs) := dl_comm _ _ hyl.out.symm
        have hcz := Lib.hid (syn_row cs HCS.out (some ⟨g, 0, none⟩) cg ys w5 hyl.out hs50.out (by omega))
        have hyl16 : Hid ((sums ys).length = 16) := by unfold Hid sums; exact rm_len _ _
        clear hF hEI hEI' hp5 hys hi5 ho5 HT5
        refine hcz.out.mono ?_
        rintro e w6 ⟨S2, c2, rfl, _, hs6, hb6⟩
        obtain ⟨T2, hT2⟩ : ∃ T2 : Bool, ((((tr (sums ys)).length : Nat) : Int) == 0) = T2 := ⟨_, rfl⟩
        have hcw2 : Hid (T2 = true ↔ isCw ys) := clean_is hT2
        have hc2 := Lib.hid (clean_any S2 c2 (sums ys) T2 w6 hs6 (by rw [hyl16.out]; decide) hT2)
        have hs56 := Lib.hid (hs50.out.far hb6)
        have HB6 := Lib.hid (HB5.out.trans (hb6.mono HB5.out.size))
        clear hcz hs6 hb6 hs50 HB5 hT2
        cases T2
        · have hD : Hid (Dec xs [] 0 4) := Dec.none hsz'.out HX.out (fun c hc => by
            have h1 := hEq0.out c hc
            have h2 := hcw2.out.2 (by rw [h1]; exact hc.cw)
            cases h2)
          clear hcw2 hEq0
          go_wp2_with (go_at_call 141; (with_reducible refine hc2.out.mono ?_); rintro e w7 ⟨rfl, hb7⟩)
          go_ret3
          exact RowDF.nil hD.out (HB6.out.trans (hb7.mono HB6.out.size))
        · have hD : Hid (Dec xs ys (dl ys xs) 0) := Dec.ok hsz'.out HX.out ys ⟨hyl.out, hyb.out, hcw2.out.1 rfl, hfew0.out⟩
          clear hcw2 hEq0 hfew0
          obtain ⟨dd, hdd⟩ : ∃ dd, Hid (dl ys xs = dd) := ⟨_, Lib.hid rfl⟩
          rw [hdd.out] at hD hcom
          go_wp2_with (first
            | (go_at_call 141; (with_reducible refine hc2.out.mono ?_); rintro e w7 ⟨rfl, hb7⟩; have hs7 := Lib.hid (hs56.out.far hb7); have HB7 := Lib.hid (HB6.out.trans (hb7.mono HB6.out.size)); have hds := distance_any A (some ⟨g, 0, none⟩) c cg xs ys w7 (H.out.far HB7.out) hs7.out hl (by rw [hyl.out]; omega); rw [hyl.out, hcom.out] at hds; replace hds := Lib.hid hds; clear hb7 HB6 hs56)
            | (go_at_call 145; (with_reducible refine hds.out.mono ?_); rintro e w8 ⟨rfl, hdr⟩))
          have hbd := Cl.Keeps.below (Drawn.keeps (K := fun _ => True) hdr)
          go_ret3
          exact ⟨ys, dd, 0, _, cg, hD.out, by rw [hyl.out]; rfl, by rw [hyl.out]; exact hcg, (hs7.out.far hbd).fresh (fun a e => by injection e with e; rw [← e]; exact hgw.out), HB7.out.trans (hbd.mono HB7.out.size)⟩
      · have hn : Near xs xs := ⟨rfl, HX.out, hcw.out.1 rfl, by rw [(dl_zero rfl).2 rfl]; exact Nat.zero_le _⟩
        have hD := Dec.ok hsz'.out HX.out xs hn
        rw [(dl_zero rfl).2 rfl] at hD
        replace hD := Lib.hid hD
        clear hn hcw
        go_enter Tryz.func118, Tryz.ntmps118
        go_wp2_with (first
          | (go_at_call 139; (with_reducible refine hsym.out.mono ?_); rintro e w1 ⟨rfl, hw1⟩; have HB1 : Hid (Below w.heap.size w w1) := (by rw [← hw1]; exact hbW); have HT1 : Hid (Tb w1 w.heap.size cs) := (by rw [← hw1]; exact hT); have hi1 := HT1.out.is HCS.out.1; have ho1 := HT1.out.of; have HX1 := Lib.hid (H.out.far HB1.out); have hcy := Lib.hid (syn_any cs HCS.out A c xs w1 HX1.out hl); clear hw1)
          | (go_at_call 140; (with_reducible refine hcy.out.mono ?_); rintro e w2 ⟨S, cS, rfl, _, hs2, hb2⟩; replace hs2 := Lib.hid hs2; have HB2 := Lib.hid (HB1.out.trans (hb2.mono HB1.out.size)); have HT2 := Lib.hid (HT1.out.keep hb2); clear hcy hb2 hi1 ho1 HT1 HB1 HX1; have hcc := Lib.hid (clean_any S cS (sums xs) true w2 hs2.out (by rw [hsl16.out]; decide) hTcH.out))
          | (go_at_call 141; (with_reducible refine hcc.out.mono ?_); rintro e w3 ⟨rfl, hb3⟩; have HB3 := Lib.hid (HB2.out.trans (hb3.mono HB2.out.size)); clear hcc hb3 hs2 HB2 HT2; have hcn := Lib.hid (clone_any A c xs w3 (H.out.far HB3.out) hl))
          | (go_at_call 142; (with_reducible refine hcn.out.mono ?_); rintro e w4 ⟨A4, c4, rfl, hc4, hp4, hs4, hb4⟩))
        obtain ⟨g, rfl, hg, _⟩ := hp4 hxne.out
        go_ret3
        exact ⟨xs, 0, 0, _, c4, hD.out, rfl, hc4, hs4.fresh (fun a e => by injection e with e; rw [← e]; exact Nat.le_trans HB3.out.size hg), HB3.out.trans (hb4.mono HB3.out.size)⟩
end Go.Proofs.YtjhoecfhmndcgaaGreat
