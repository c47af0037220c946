/- Statement PackParts: for all bytes and all other bytes the law returns true. -/
import Derived.Test.YtoogdhnkihdkgaaBa
namespace Go.Proofs.Ytoogdhnkihdkgaa
open Go.RowKit Go.Gf

set_option maxRecDepth 20000 in
set_option maxHeartbeats 4000000 in
theorem parts_law (A : Option Addr) (xs : List Nat) (ca : Nat) (hca : xs.length ≤ ca) (hx : ca ≤ maxLen) (B : Option Addr) (zs : List Nat) (cb : Nat) (hcb : zs.length ≤ cb) (hxb : cb ≤ maxLen)
    (w : World) (hA : Sb w w.heap.size A xs) (hB : Sb w w.heap.size B zs) :
    Calls Try.prog 5 #[.slice A xs.length ca, .slice B zs.length cb] w (Ans w (.bool true)) := by
  have mx : (xs.length : Int) ≤ 9223372036854775807 := by unfold maxLen at hx; omega
  have mz : (zs.length : Int) ≤ 9223372036854775807 := by unfold maxLen at hxb; omega
  clear hx hxb
  replace hA := Lib.hid hA
  replace hB := Lib.hid hB
  have haw := Lib.hid (pawake_any w)
  obtain ⟨b1, e1⟩ : ∃ b1, decide ((500 : Int) < (xs.length : Int)) = b1 := ⟨_, rfl⟩
  obtain ⟨b2, e2⟩ : ∃ b2, decide ((500 : Int) < (zs.length : Int)) = b2 := ⟨_, rfl⟩
  by_cases hsz : xs.length ≤ 500 ∧ zs.length ≤ 500
  · obtain ⟨hl1, hl2⟩ := hsz
    obtain rfl : b1 = false := by rw [← e1, decide_eq_false_iff_not]; omega
    obtain rfl : b2 = false := by rw [← e2, decide_eq_false_iff_not]; omega
    obtain ⟨m, hm⟩ : ∃ m : Nat, m = xs.length / 5 * 5 := ⟨_, rfl⟩
    have hmI : (xs.length : Int) / 5 * 5 = (m : Int) := by omega
    have hml : m ≤ xs.length := by omega
    have hm5 : m % 5 = 0 := by omega
    have hsl := slice_head8 A xs.length ca m (by omega)
    obtain ⟨al, has⟩ : ∃ al, Hid (xs.take m = al) := ⟨_, Lib.hid rfl⟩
    have hal : Hid (al.length = m) := by unfold Hid; rw [← has.out, List.length_take]; omega
    have happ : Hid (pk (al ++ zs) = pk al ++ pk zs) := pk_append (by rw [hal.out]; exact hm5)
    obtain ⟨L, hL⟩ : ∃ L : Nat, Hid (L = m + zs.length) := ⟨_, Lib.hid rfl⟩
    have hLI : (m : Int) + (zs.length : Int) = (L : Int) := by have := hL.out; omega
    have hcl : clampN (L : Int) = L := by have := hL.out; unfold clampN; omega
    have hLl : Hid ((al ++ zs).length = L) := by unfold Hid; rw [List.length_append, hal.out, hL.out]
    have hPa : Hid (∀ {A : Option Addr} {c : Nat} {w : World}, Sb w w.heap.size A al → Calls Try.prog 9 #[.slice A m c] w (RowP w (pk al))) := fun {A c w} h => by
      have := pak_pack (c := c) h (by rw [hal.out]; omega)
      rwa [hal.out] at this
    have hPb : Hid (∀ {A : Option Addr} {c : Nat} {w : World}, Sb w w.heap.size A zs → Calls Try.prog 9 #[.slice A zs.length c] w (RowP w (pk zs))) := fun {A c w} h => pak_pack h (by omega)
    have hPc : Hid (∀ {A : Option Addr} {c : Nat} {w : World}, Sb w w.heap.size A (al ++ zs) → Calls Try.prog 9 #[.slice A L c] w (RowP w (pk (al ++ zs)))) := fun {A c w} h => by
      have := pak_pack (c := c) h (by rw [hLl.out, hL.out]; omega)
      rwa [hLl.out] at this
    have l1 : Hid ((pk al).length ≤ 400000) := by unfold Hid; rw [pk_len, hal.out]; unfold symN; omega
    have l2 : Hid ((pk zs).length ≤ 400000) := by unfold Hid; rw [pk_len]; unfold symN; omega
    have hPKb : Hid (∀ y ∈ pk (al ++ zs), y < 1024) := pk_bd _
    obtain ⟨N, hN⟩ : ∃ N, Hid (symN L = N) := ⟨_, Lib.hid rfl⟩
    have hPKl : Hid ((pk (al ++ zs)).length = N) := by unfold Hid; rw [pk_len, hLl.out, hN.out]
    have hN1 : N ≤ 400000 := by have := hN.out; have := hL.out; unfold symN at *; omega
    have hclN : clampN (N : Int) = N := by unfold clampN; omega
    obtain ⟨bn, hbn⟩ : ∃ b, Hid (bytN N = b) := ⟨_, Lib.hid rfl⟩
    have hge : decide ((L : Int) ≤ (bn : Int)) = true := by
      rw [decide_eq_true_eq]
      have := hbn.out; have := hN.out; unfold bytN symN at *; omega
    have hge2 : decide (L ≤ bn) = true := by
      rw [decide_eq_true_eq]
      have := hbn.out; have := hN.out; unfold bytN symN at *; omega
    rw [happ.out] at hPc hPKb hPKl
    generalize pk al = P1 at *
    generalize pk zs = P2 at *
    clear happ hm
    go_enter Try.func5, Try.ntmps5
    go_wp2_with (first
      | (go_at_call 8; (with_reducible refine haw.out.mono ?_); rintro e w1 ⟨rfl, hb⟩; have hb1 := Lib.hid hb; have hA1 := Lib.hid ((hA.out.far hb).take m); rw [has.out] at hA1; have hB1 := Lib.hid (hB.out.far hb); have hc1 := Lib.hid (hPa.out (c := ca) hA1.out); clear hb)
      | (go_at_call 9; (with_reducible refine hc1.out.mono ?_); rintro e w2 ⟨v1, rfl, ho1, hb⟩; have hb12 := Lib.hid hb; have hA2 := Lib.hid (hA1.out.far hb); have hB2 := Lib.hid (hB1.out.far hb); have hc2 := Lib.hid (hPb.out (c := cb) hB2.out); replace ho1 := Lib.hid ho1; clear hb hc1)
      | (go_at_call 9; (with_reducible refine hc2.out.mono ?_); rintro e w3 ⟨v2, rfl, ho2, hb⟩; obtain ⟨X2, x2, rfl, hx2, hX2⟩ := ho2.sl; have hb13 := Lib.hid (hb12.out.trans (hb.mono hb12.out.size)); have hA3 := Lib.hid (hA2.out.far hb); have hB3 := Lib.hid (hB2.out.far hb); have ho13 := Lib.hid (ho1.out.keep hb); replace hX2 := Lib.hid hX2; clear hb hc2 ho2)
      | (refine app_u (w0 := w1) rfl (.tmp 25) (.tmp 27) rfl v1 P1 rfl ho13.out hb13.out X2 x2 P2 rfl hX2.out (by have := l1.out; have := l2.out; omega) ?_))
    intro v3 w4 ho3 hb14
    replace ho3 := Lib.hid ho3
    have hA4 : Hid (Sb w4 w4.heap.size A al) := ((hA1.out.below hb14).more hb14.size)
    have hB4 : Hid (Sb w4 w4.heap.size B zs) := ((hB1.out.below hb14).more hb14.size)
    have hb4 := Lib.hid (hb1.out.trans (hb14.mono hb1.out.size))
    have hn0 := below_alloc w4 (.cells #[] 5)
    have hO0 := Lib.hid (OwnZ.empty w4)
    have hA4a := Lib.hid (hA4.out.far hn0)
    replace hn0 := Lib.hid hn0
    clear hb14 hA1 hB1 hA2 hB2 hA3 hB3 ho1 ho13 hX2 hb12 hb13 hA4
    go_wp2_with (refine app_b (w0 := w4) rfl (.tmp 29) (.tmp 30) rfl (.slice (some ⟨w4.heap.size, 0, none⟩) 0 0) [] rfl hO0.out hn0.out A ca al (by rw [hal.out]; rfl) hA4a.out (by rw [hal.out]; simp; omega) ?_)
    intro v5 w5 ho5 hb45
    have hB5 := Lib.hid (hB4.out.far hb45)
    replace ho5 : OwnZ w4 w5 v5 al := ho5
    replace ho5 := Lib.hid ho5
    replace hb45 := Lib.hid hb45
    clear hn0 hO0 hA4a
    go_wp2_with (refine app_b (w0 := w4) rfl (.tmp 31) (.tmp 32) rfl v5 al rfl ho5.out hb45.out B cb zs rfl hB5.out (by rw [hal.out]; omega) ?_)
    intro v6 w6 ho6 hb46
    obtain ⟨X6, x6, rfl, hx6, hX6⟩ := ho6.sb
    rw [hLl.out]
    have hc6 := Lib.hid (hPc.out (c := x6) hX6)
    have ho36 := Lib.hid (ho3.out.keep hb46)
    have hb6 := Lib.hid (hb4.out.trans (hb46.mono hb4.out.size))
    clear hB5 ho5 hb45 ho6 hb46 hX6 ho3
    go_wp2_with (go_at_call 9; (with_reducible refine hc6.out.mono ?_); rintro e w7 ⟨v7, rfl, ho7, hb⟩; obtain ⟨X7, x7, rfl, hx7, hX7⟩ := ho7.sl; have ho37 := ho36.out.keep hb; obtain ⟨X3, x3, rfl, hx3, hX3⟩ := ho37.sl; have hb7 := Lib.hid (hb6.out.trans (hb.mono hb6.out.size)); rw [hPKl.out]; replace hX7 := Lib.hid hX7; replace hX3 := Lib.hid hX3; clear hb hc6 ho7 ho36 ho37)
    go_loop [7] (fun q => ∃ k : Nat, k ≤ N ∧ q = .int .i64 k) (fun q => N - (intOf q).toNat)
    case atStart => exact ⟨0, Nat.zero_le _, rfl⟩
    case round =>
      obtain ⟨k, hk, rfl⟩ := hrel
      by_cases hlt : k < N
      · have hkz : k < (P1 ++ P2).length := by rw [hPKl.out]; exact hlt
        have hkI : (k : Int) < (N : Int) := by omega
        have hd : decide (k < N) = true := decide_eq_true hlt
        obtain ⟨a, hae, hab, hcell⟩ := hX7.out.at_ hkz
        subst hae
        have hb := hPKb.out _ (List.getElem_mem hkz)
        obtain ⟨V, hV⟩ : ∃ V, Hid ((P1 ++ P2)[k] = V) := ⟨_, Lib.hid rfl⟩
        rw [hV.out] at hcell hb
        have hd2 : decide ((1024 : Int) ≤ (V : Int)) = false := by rw [decide_eq_false_iff_not]; omega
        go_wp2_with fail
        go_round
        case rel => exact ⟨k + 1, by omega, by go_num⟩
        case measure => simp [intOf]; omega
      · obtain rfl : k = N := by omega
        have hd : decide (k < k) = false := decide_eq_false (Nat.lt_irrefl _)
        have hc8 := ans_same (ca := x7) (cb := x3) (b := true) hX7.out hX3.out (by rw [hPKl.out]; omega) (by rw [hPKl.out]; omega) (decide_eq_true rfl)
        rw [hPKl.out] at hc8
        replace hc8 := Lib.hid hc8
        go_wp2_with (first
          | (go_at_call 12; (with_reducible refine hc8.out.mono ?_); rintro e w8 ⟨rfl, hb⟩; have hb8 := Lib.hid (hb7.out.trans (hb.mono hb7.out.size)); have hc9 := pak_symbols (n := (L : Int)) (w := w8); rw [hcl, hN.out] at hc9; replace hc9 := Lib.hid hc9; clear hb hc8)
          | (go_at_call 14; (with_reducible refine hc9.out.mono ?_); rintro e w9 ⟨rfl, hb⟩; have hb9 := Lib.hid (hb8.out.trans (hb.mono hb8.out.size)); have hc10 := pak_bytes (n := (k : Int)) (w := w9); rw [hclN, hbn.out] at hc10; replace hc10 := Lib.hid hc10; clear hb hc9)
          | (go_at_call 16; (with_reducible refine hc10.out.mono ?_); rintro e w10 ⟨rfl, hb⟩))
        go_ret
        exact ⟨rfl, hb9.out.trans (hb.mono hb9.out.size)⟩
  · have hor : Hid (b1 = true ∨ b2 = true) := by
      unfold Hid
      rw [← e1, ← e2, decide_eq_true_eq, decide_eq_true_eq]
      omega
    clear hsz
    cases b1
    · obtain rfl : b2 = true := by rcases hor.out with h | h <;> first | exact h | cases h
      go_enter Try.func5, Try.ntmps5
      go_wp2_with (go_at_call 8; (with_reducible refine haw.out.mono ?_); rintro e w1 ⟨rfl, hb⟩)
      go_ret
      exact ⟨rfl, hb⟩
    · go_enter Try.func5, Try.ntmps5
      go_wp2_with (go_at_call 8; (with_reducible refine haw.out.mono ?_); rintro e w1 ⟨rfl, hb⟩)
      go_ret
      exact ⟨rfl, hb⟩
end Go.Proofs.Ytoogdhnkihdkgaa
namespace Go.Proofs.Ytoogdhnkihdkgaa.packParts
open Go.ChangeShapes Go.WideShapes Go.ChangeAt Go.RowKit Go.Gf
set_option linter.unusedVariables false

theorem own : ownKnob Try.prog.godebug = none := by kernel_rfl

theorem walk (A0 : Option Addr) (x0 : List Nat) (c0 : Nat) (l0 : x0.length ≤ c0) (m0 : c0 ≤ maxLen) (A1 : Option Addr) (x1 : List Nat) (c1 : Nat) (l1 : x1.length ≤ c1) (m1 : c1 ≤ maxLen) (w : World) (s0 : Sb w w.heap.size A0 x0) (s1 : Sb w w.heap.size A1 x1) :
    Calls Try.prog 5 #[.slice A0 x0.length c0, .slice A1 x1.length c1] w fun e w' => e = .returned (.bool true) ∧ Below w.heap.size w w' := parts_law A0 x0 c0 l0 m0 A1 x1 c1 l1 m1 w s0 s1

set_option maxRecDepth 100000 in
theorem lifted (os : Os) (started : os.Started) (H : Type) (enc : TypeId × Value → H) :
    ReturnsInHanded {} Try.checked os 5 .any (Rows.packPartsSpec.pre6 enc Try.prog Try.f5 Rows.packPartsRow.domain false) (Rows.packPartsSpec.post enc Try.prog Try.f5 false true false false) := by
  refine returnsInHanded_of_change (C := Try.checked) own started (by kernel_rfl) Try.func5
    (ChangeSpec.witness6 (enc := enc) (C := Try.checked) false ⟨#[], #[.slice none 0 0, .slice none 0 0], []⟩ 8 (by kernel_rfl) (by kernel_rfl) (by kernel_rfl) (by kernel_rfl)) ?_
  intro W base args ds gs before hval0 hW hcnd _
  have hval : ∀ (j : Nat) t v, Try.f5.params[j]? = some t → args[j]? = some v → Value.okWide Try.prog W .any base t v := hval0
  have hW' := hW
  obtain ⟨p, q, hA0, hV, rfl, hfz, hnd⟩ := hW
  have hA : DataW.TrodAll enc Try.prog W 0 (fun _ => true) true Try.f5.params.toList args.toList ds p := hA0
  rw [Try.params5] at hA hval
  obtain ⟨v0, vs0, d0, ds0, p0, q0, hargs, rfl, rfl, h0, r0⟩ := trodAll_cons hA
  obtain ⟨v1, vs1, d1, ds1, p1, q1, rfl, rfl, rfl, h1, r1⟩ := trodAll_cons r0
  obtain ⟨rfl, rfl, rfl⟩ := trodAll_nil r1
  obtain rfl : args = #[v0, v1] := by cases args; simp_all
  obtain ⟨rfl, rfl⟩ := trodVars_none hV
  obtain ⟨A0, x0, c0, rfl, l0, m0, s0, t0⟩ := open_sb Try.underlying22 Try.underlying5 (by kernel_rfl : Try.prog.cellsOf 5 = 1) (hval 0 22 v0 rfl rfl) h0
  obtain ⟨A1, x1, c1, rfl, l1, m1, s1, t1⟩ := open_sb Try.underlying22 Try.underlying5 (by kernel_rfl : Try.prog.cellsOf 5 = 1) (hval 1 22 v1 rfl rfl) h1
  clear hA0 hval0
  refine (walk A0 x0 c0 l0 m0 A1 x1 c1 l1 m1 W s0 s1).mono fun e W' ⟨he, hg⟩ => ?_
  subst he
  exact ⟨_, rfl, Cl.post_below (pv := []) hW' (fun _ _ _ => (trodAll_cons_mk (shut_bool Try.underlying4 _) trodAll_mk0)) (fun sp hsp => (trodAll_cons_mk (t0 W' hg sp (fun q hq => hsp q (by simp [hq]))) (trodAll_cons_mk (t1 W' hg sp (fun q hq => hsp q (by simp [hq]))) trodAll_mk0))) (fun _ _ => rfl) rfl
    hg (ok_one (by kernel_rfl) rfl (okWide_bool_mk Try.underlying4 _))⟩

theorem over : Rows.packPartsRow.holds Try.pinned (OpenSpec.ofChange Rows.packPartsSpec) :=
  OpenClaim.holds_of_wide 5 Try.f5 rfl rfl rfl rfl rfl rfl rfl ⟨rfl, rfl, rfl, rfl, rfl⟩ rfl rfl rfl rfl rfl (by kernel_rfl) Try.func5 (by kernel_rfl)
    (of_decide_eq_true (by kernel_rfl)) (by unfold Func.isWrapper; first | (rw [if_pos (by decide +kernel)]; kernel_rfl) | (rw [if_neg (by decide +kernel)]; exact ⟨rfl, rfl⟩))
    (fun os started H enc _ => lifted os started H enc)

/-- THE STATEMENT -/
theorem proved : Rows.PackPartsSaid := over
end Go.Proofs.Ytoogdhnkihdkgaa.packParts
