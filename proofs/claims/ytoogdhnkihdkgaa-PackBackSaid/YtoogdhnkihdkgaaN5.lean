/- Statement PackBack: for all symbols the law returns true. -/
import Derived.Test.YtoogdhnkihdkgaaBn
namespace Go.Proofs.Ytoogdhnkihdkgaa
open Go.RowKit Go.Gf

set_option maxRecDepth 20000 in
set_option maxHeartbeats 4000000 in
theorem back_law (A : Option Addr) (xs : List Nat) (ca : Nat) (hca : xs.length ≤ ca) (hx : ca ≤ maxLen) (w : World) (hA : Sl w w.heap.size A xs) :
    Calls Try.prog 7 #[.slice A xs.length ca] w (Ans w (.bool true)) := by
  have mx : (xs.length : Int) ≤ 9223372036854775807 := by unfold maxLen at hx; omega
  clear hx
  replace hA := Lib.hid hA
  have haw := Lib.hid (pawake_any w)
  by_cases hl : xs.length ≤ 1000
  · have d1 : decide ((1000 : Int) < (xs.length : Int)) = false := by rw [decide_eq_false_iff_not]; omega
    obtain ⟨m, hm⟩ : ∃ m : Nat, m = xs.length / 4 * 4 := ⟨_, rfl⟩
    have hmI : (xs.length : Int) / 4 * 4 = (m : Int) := by omega
    have hml : m ≤ xs.length := by omega
    have hm4 : m % 4 = 0 := by omega
    have hsl := slice_head A xs.length ca m (by omega)
    obtain ⟨zs, hz⟩ : ∃ zs, Hid (xs.take m = zs) := ⟨_, Lib.hid rfl⟩
    have hzl : Hid (zs.length = m) := by unfold Hid; rw [← hz.out, List.length_take]; omega
    replace hm := Lib.hid hm
    go_enter Try.func7, Try.ntmps7
    go_wp2_with (go_at_call 8; (with_reducible refine haw.out.mono ?_); rintro e w1 ⟨rfl, hb⟩; have hb1 := Lib.hid hb; have hA1 := Lib.hid ((hA.out.far hb).take m); rw [hz.out] at hA1; clear hb)
    go_loop [3] (fun q => ∃ k : Nat, k ≤ m ∧ Hid (∀ j (h : j < zs.length), j < k → zs[j] < 1024) ∧ q = .int .i64 k) (fun q => m - (intOf q).toNat)
    case atStart => exact ⟨0, Nat.zero_le _, Lib.hid (fun j _ h => absurd h (by omega)), rfl⟩
    case round =>
      obtain ⟨k, hk, HK, rfl⟩ := hrel
      by_cases hlt : k < m
      · have hkz : k < zs.length := by rw [hzl.out]; exact hlt
        have hkI : (k : Int) < (m : Int) := by omega
        have hd : decide (k < m) = true := decide_eq_true hlt
        obtain ⟨a, rfl, hab, hcell⟩ := hA1.out.at_ hkz
        have hx := hA1.out.1 zs[k] (List.getElem_mem hkz)
        by_cases hb : 1024 ≤ zs[k]
        · have hd2 : decide ((1024 : Int) ≤ (zs[k] : Int)) = true := by rw [decide_eq_true_eq]; omega
          clear hb
          go_wp2_with fail
          go_ret
          exact ⟨rfl, hb1.out⟩
        · have hd2 : decide ((1024 : Int) ≤ (zs[k] : Int)) = false := by rw [decide_eq_false_iff_not]; omega
          have HK' : Hid (∀ j (h : j < zs.length), j < k + 1 → zs[j] < 1024) := fun j hj hjk => by
            rcases Nat.lt_or_ge j k with h1 | h1
            · exact HK.out j hj h1
            · obtain rfl : j = k := by omega
              omega
          clear hb HK
          go_wp2_with fail
          go_round
          case rel => exact ⟨k + 1, by omega, HK', by go_num⟩
          case measure => simp [intOf]; omega
      · obtain rfl : k = m := by omega
        have hd : decide (k < k) = false := decide_eq_false (Nat.lt_irrefl _)
        have HX : ∀ x ∈ zs, x < 1024 := fun x hx => by
          obtain ⟨j, hj, rfl⟩ := List.getElem_of_mem hx
          exact HK.out j hj (by rw [← hzl.out]; exact hj)
        obtain ⟨b, hb⟩ : ∃ b : Nat, Hid (bytN k = b) := ⟨_, Lib.hid rfl⟩
        have hb4 : b * 4 = k * 5 := by rw [← hb.out]; unfold bytN; omega
        have eE : upkE zs (b : Int) = 0 := upkE_ok (by rw [hzl.out, hb.out]; omega) fun j hj => HX _ (List.getElem_mem hj)
        have eW : upkW zs (b : Int) = upk zs b := by unfold upkW; rw [if_pos eE, Int.toNat_natCast]
        obtain ⟨us, hus⟩ : ∃ us, Hid (upk zs b = us) := ⟨_, Lib.hid rfl⟩
        have hul : Hid (us.length = b) := by rw [← hus.out]; exact Lib.hid (upk_len zs b)
        have hub := upk_bd zs b
        have hpk : pk us = zs := by
          have h := pk_upk HX (by rw [hzl.out]; exact hm4)
          rw [hzl.out, show 10 * k / 8 = b by rw [← hb.out]; rfl, hus.out] at h
          exact h
        have hcb := pak_bytes (n := (k : Int)) (w := w1)
        rw [show clampN (k : Int) = k by unfold clampN; omega, hb.out] at hcb
        have hUn : Hid (∀ {A : Option Addr} {c : Nat} {w : World}, Sl w w.heap.size A zs → Calls Try.prog 10 #[.slice A k c, .int .i64 (b : Int)] w (RowB w us 0)) := fun {A c w} h => by
          have := pak_unpack (n := (b : Int)) (c := c) h (by rw [hzl.out]; omega)
          rwa [eE, eW, hus.out, hzl.out] at this
        have hbI : ((b : Int) * 4 == (k : Int) * 5) = true := by rw [beq_iff_eq]; omega
        have hus6 : Hid (us.length ≤ 1000000) := by unfold Hid; rw [hul.out]; omega
        replace hcb := Lib.hid hcb
        replace hpk := Lib.hid hpk
        clear HK HX eE eW hub
        go_wp2_with (first
          | (go_at_call 16; (with_reducible refine hcb.out.mono ?_); rintro e w2 ⟨rfl, hb⟩; have hb2 := Lib.hid (hb1.out.trans (hb.mono hb1.out.size)); have hA2 := Lib.hid (hA1.out.far hb); have hc2 := Lib.hid (hUn.out (c := ca) hA2.out); clear hb hcb)
          | (go_at_call 10; (with_reducible refine hc2.out.mono ?_); rintro e w3 ⟨Y, cy, rfl, hcy, hY, hb⟩; have hb3 := Lib.hid (hb2.out.trans (hb.mono hb2.out.size)); have hA3 := Lib.hid (hA2.out.far hb); have hc3 := pak_pack (c := cy) hY hus6.out; rw [hpk.out, hul.out] at hc3; rw [hul.out]; replace hc3 := Lib.hid hc3; clear hb hc2 hY)
          | (go_at_call 9; (with_reducible refine hc3.out.mono ?_); rintro e w4 ⟨v, rfl, ho, hb⟩; obtain ⟨X, cx, rfl, hcx, hX⟩ := ho.sl; have hb4' := Lib.hid (hb3.out.trans (hb.mono hb3.out.size)); have hc4 := ans_same (ca := cx) (cb := ca) (b := true) hX (hA3.out.far hb) (by rw [hzl.out]; omega) (by rw [hzl.out]; omega) (decide_eq_true rfl); rw [hzl.out] at hc4; rw [hzl.out]; replace hc4 := Lib.hid hc4; clear hb hc3 ho hX)
          | (go_at_call 12; (with_reducible refine hc4.out.mono ?_); rintro e w5 ⟨rfl, hb⟩))
        go_ret
        exact ⟨rfl, hb4'.out.trans (hb.mono hb4'.out.size)⟩
  · have d1 : decide ((1000 : Int) < (xs.length : Int)) = true := by rw [decide_eq_true_eq]; omega
    go_enter Try.func7, Try.ntmps7
    go_wp2_with (go_at_call 8; (with_reducible refine haw.out.mono ?_); rintro e w1 ⟨rfl, hb⟩)
    go_ret
    exact ⟨rfl, hb⟩
end Go.Proofs.Ytoogdhnkihdkgaa
namespace Go.Proofs.Ytoogdhnkihdkgaa.packBack
open Go.ChangeShapes Go.WideShapes Go.ChangeAt Go.RowKit Go.Gf
set_option linter.unusedVariables false

theorem own : ownKnob Try.prog.godebug = none := by kernel_rfl

theorem walk (A0 : Option Addr) (x0 : List Nat) (c0 : Nat) (l0 : x0.length ≤ c0) (m0 : c0 ≤ maxLen) (w : World) (s0 : Sl w w.heap.size A0 x0) :
    Calls Try.prog 7 #[.slice A0 x0.length c0] w fun e w' => e = .returned (.bool true) ∧ Below w.heap.size w w' := back_law A0 x0 c0 l0 m0 w s0

set_option maxRecDepth 100000 in
theorem lifted (os : Os) (started : os.Started) (H : Type) (enc : TypeId × Value → H) :
    ReturnsInHanded {} Try.checked os 7 .any (Rows.packBackSpec.pre6 enc Try.prog Try.f7 Rows.packBackRow.domain false) (Rows.packBackSpec.post enc Try.prog Try.f7 false true false false) := by
  refine returnsInHanded_of_change (C := Try.checked) own started (by kernel_rfl) Try.func7
    (ChangeSpec.witness6 (enc := enc) (C := Try.checked) false ⟨#[], #[.slice none 0 0], []⟩ 8 (by kernel_rfl) (by kernel_rfl) (by kernel_rfl) (by kernel_rfl)) ?_
  intro W base args ds gs before hval0 hW hcnd _
  have hval : ∀ (j : Nat) t v, Try.f7.params[j]? = some t → args[j]? = some v → Value.okWide Try.prog W .any base t v := hval0
  have hW' := hW
  obtain ⟨p, q, hA0, hV, rfl, hfz, hnd⟩ := hW
  have hA : DataW.TrodAll enc Try.prog W 0 (fun _ => true) true Try.f7.params.toList args.toList ds p := hA0
  rw [Try.params7] at hA hval
  obtain ⟨v0, vs0, d0, ds0, p0, q0, hargs, rfl, rfl, h0, r0⟩ := trodAll_cons hA
  obtain ⟨rfl, rfl, rfl⟩ := trodAll_nil r0
  obtain rfl : args = #[v0] := by cases args; simp_all
  obtain ⟨rfl, rfl⟩ := trodVars_none hV
  obtain ⟨A0, x0, c0, rfl, l0, m0, s0, t0⟩ := open_sl Try.underlying23 Try.underlying34 (by kernel_rfl : Try.prog.cellsOf 34 = 1) (hval 0 23 v0 rfl rfl) h0
  clear hA0 hval0
  refine (walk A0 x0 c0 l0 m0 W s0).mono fun e W' ⟨he, hg⟩ => ?_
  subst he
  exact ⟨_, rfl, Cl.post_below (pv := []) hW' (fun _ _ _ => (trodAll_cons_mk (shut_bool Try.underlying4 _) trodAll_mk0)) (fun sp hsp => (trodAll_cons_mk (t0 W' hg sp (fun q hq => hsp q (by simp [hq]))) trodAll_mk0)) (fun _ _ => rfl) rfl
    hg (ok_one (by kernel_rfl) rfl (okWide_bool_mk Try.underlying4 _))⟩

theorem over : Rows.packBackRow.holds Try.pinned (OpenSpec.ofChange Rows.packBackSpec) :=
  OpenClaim.holds_of_wide 7 Try.f7 rfl rfl rfl rfl rfl rfl rfl ⟨rfl, rfl, rfl, rfl, rfl⟩ rfl rfl rfl rfl rfl (by kernel_rfl) Try.func7 (by kernel_rfl)
    (of_decide_eq_true (by kernel_rfl)) (by unfold Func.isWrapper; first | (rw [if_pos (by decide +kernel)]; kernel_rfl) | (rw [if_neg (by decide +kernel)]; exact ⟨rfl, rfl⟩))
    (fun os started H enc _ => lifted os started H enc)

/-- THE STATEMENT -/
theorem proved : Rows.PackBackSaid := over
end Go.Proofs.Ytoogdhnkihdkgaa.packBack
