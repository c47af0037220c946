/- THE LIBRARY's symMergeCmpFunc, over elements of k cells: two sorted runs become one. -/
import Derived.Test.YtjhoecfhmndcgaaGreatV02
import Derived.Shelf.SlSortCmp.KitK
import Derived.Sort.WalkB2
import Derived.Sort.WalkB12
import Derived.Deep.LoopGhost
import Derived.Lib.Hide
namespace Go.Proofs.YtjhoecfhmndcgaaGreat.So
open Go.Shelf Go.RowKit Go.Lib Go.Sort Go.Proofs
set_option linter.unusedVariables false
set_option linter.unusedSimpArgs false
set_option linter.unusedSectionVars false
variable {P : Program} {α : Type} [Inhabited α]

set_option maxHeartbeats 16000000 in
set_option maxRecDepth 1000000 in
theorem merge_any (L : PG P) (k : Nat) (aE : ∀ w, (isAgg 29).run P w = .ok true w) (zE : ∀ w, (Go.sizeOf 29).run P w = .ok k w) (enc : α → List Value) (cf : α → α → Int) (g : Nat) (cb : Array Value) (hO : SWO (ltOf cf)) (blk off cap : Nat) (d0 : Array α) (w0 : World)
    (eg : ∀ args w, (callFunc g args).run P w = .ok (.enter g args) w) (hcmp : CmpLays P g cb enc k cf blk off d0.size w0) (R : RowK enc k w0 blk off d0) (hsz : d0.size < 1000000000) :
    ∀ N, ∀ (a m b : Nat) (d : Array α) (w : World), b - a ≤ N → d0.size = d.size → SWK enc k w0 blk off d w → a < m → m < b → b ≤ d.size → So (ltOf cf) (vw d) a m → So (ltOf cf) (vw d) m b →
    Calls P 69 #[.slice (some ⟨blk, off, none⟩) d.size cap, .int .i64 a, .int .i64 m, .int .i64 b, .func (.func g) #[] cb] w fun e w' =>
      e = .returned (.tuple #[]) ∧ ∃ d' : Array α, PermIn a b d d' ∧ SortedIn (ltOf cf) a b d' ∧ SWK enc k w0 blk off d' w' := by
  intro N
  induction N with
  | zero => intro a m b d w h1 h2 h3 h4 h5; omega
  | succ N ih =>
  intro a m b d w hN hs S ham hmb hb ha hb2
  have RT := fun (x y z : Nat) (dk : Array α) (W : World) (hs : d0.size = dk.size) (S : SWK enc k w0 blk off dk W) (h1 : x < y) (h2 : y < z) (h3 : z ≤ dk.size) (h4 : dk.size < 4611686018427387904) => rot_any L k aE zE enc g cb blk off cap x y z d0 dk w0 W R hs S h1 h2 h3 h4
  have mixed := L.mixed; have t0 := L.t0; have a0 := L.a0; have z0 := L.z0; have v0 := L.v0; have t3 := L.t3; have a3 := L.a3; have z3 := L.z3; have v3 := L.v3; have t4 := L.t4; have a4 := L.a4; have z4 := L.z4; have v4 := L.v4; have t22 := L.t22; have a22 := L.a22; have z22 := L.z22; have v22 := L.v22; have t25 := L.t25; have a25 := L.a25; have z25 := L.z25; have v25 := L.v25; have t39 := L.t39; have a39 := L.a39; have z39 := L.z39; have v39 := L.v39
  have FG := L.fme
  have e1 : ∀ args w, (callFunc 94 args).run P w = .ok (.enter 94 args) w := enters_of L.fro (by kernel_rfl) rfl
  have e2 : ∀ args w, (callFunc 69 args).run P w = .ok (.enter 69 args) w := enters_of L.fme (by kernel_rfl) rfl
  clear L
  have S0 : Aside (SWK enc k w0 blk off d w) := S
  have HC : Aside _ := hcmp
  have IH := Lib.hid ih
  have HA := Lib.hid ha
  have HB := Lib.hid hb2
  replace hO := Lib.hid hO
  replace RT := Lib.hid RT
  clear S hcmp ih ha hb2
  by_cases hma : m = a + 1
  · -- one alone ahead
    have hma1 : m ≤ a + 1 := by omega
    have q0 : IntKind.i64.wrap ((m : Int) - (a : Int)) = 1 := by rw [IntKind.wrap_i64]; omega
    have q1 : (m : Int) - (a : Int) = 1 := by omega
    have HMA := Lib.hid hma
    clear hma
    go_enter FG, Tryz.ntmps69
    go_wp2
    go_loopg [10, 11] (b - m) (fun kx s10 s11 wr => ∃ i j : Nat, s10 = .int .i64 i ∧ s11 = .int .i64 j ∧ m ≤ i ∧ i ≤ j ∧ j ≤ b ∧ j - i ≤ kx ∧ Aside (SWK enc k w0 blk off d wr) ∧ Hid (∀ t, a < t → t < i → ltOf cf (vw d t) (vw d a) = true) ∧ Hid (∀ t, j ≤ t → t < b → ltOf cf (vw d t) (vw d a) = false))
    case atStart => exact ⟨m, b, rfl, rfl, Nat.le_refl _, by omega, Nat.le_refl _, Nat.le_refl _, S0, fun t h1 h2 => by omega, fun t h1 h2 => by omega⟩
    case round =>
      clear S0 q0 q1
      obtain ⟨i, j, rfl, rfl, hmi, hij, hjb, hkx, S1, Y, N1⟩ := hrel
      by_cases hlt : i < j
      · have hltz : (i : Int) < (j : Int) := by omega
        obtain ⟨h, eh0⟩ : ∃ n, (i + j) / 2 = n := ⟨_, rfl⟩
        have eh1 : (((i : Int)) + ((j : Int))) / 2 = (h : Int) := by omega
        have eh2 : IntKind.i64.wrap (((i : Int)) + ((j : Int))) = ((i : Int)) + ((j : Int)) := by rw [IntKind.wrap_i64]; omega
        have eh3 : IntKind.u64.wrap (((i : Int)) + ((j : Int))) = ((i : Int)) + ((j : Int)) := by simp [IntKind.wrap, IntKind.bits, IntKind.signed]; omega
        have eh4 : IntKind.i64.wrap (h : Int) = (h : Int) := by rw [IntKind.wrap_i64]; omega
        have hhi : i ≤ h ∧ h < j := by omega
        cases hL : ltOf cf d[h]! d[a]! with
        | true =>
          have Y' : Hid (∀ t, a < t → t < h + 1 → ltOf cf (vw d t) (vw d a) = true) := fun t h1 h2 => by
            rcases Nat.lt_or_ge t m with c | c
            · omega
            · exact le_lt hO.out (So.le hO.out HB.out c (show t ≤ h by omega) (by omega)) hL
          have eaqta : ((h : Int)).toNat = h := by omega
          have paqta : (0 : Int) ≤ (h : Int) := by omega
          have baqta : (h : Int) < (d.size : Int) := by omega
          have raqta : IntKind.i64.wrap ((h : Int)) = (h : Int) := by rw [IntKind.wrap_i64]; omega
          have eaqtb : ((a : Int)).toNat = a := by omega
          have paqtb : (0 : Int) ≤ (a : Int) := by omega
          have baqtb : (a : Int) < (d.size : Int) := by omega
          have raqtb : IntKind.i64.wrap ((a : Int)) = (a : Int) := by rw [IntKind.wrap_i64]; omega
          obtain ⟨xqt, hxqt⟩ : ∃ x, x = d[h]! := ⟨_, rfl⟩
          obtain ⟨yqt, hyqt⟩ : ∃ x, x = d[a]! := ⟨_, rfl⟩
          have lqta := S1.out.ld R (by omega) P (h) (by omega)
          have lqtb := S1.out.ld R (by omega) P (a) (by omega)
          rw [← hxqt] at lqta
          rw [← hyqt] at lqtb
          have hcqt := S1.out.cmp HC.out (by omega) xqt yqt
          have hvqt : cf xqt yqt < 0 := by rw [hxqt, hyqt]; exact of_decide_eq_true (hL)
          have hdqt : decide (cf xqt yqt < 0) = true := decide_eq_true hvqt
          clear hxqt hyqt
          go_wp2_with fail
          go_quiet_grown (first | (go_at_fn g; refine Calls.grown_of (hcqt _ _)))
          have S2 : Aside (SWK enc k w0 blk off d (grow (wr.drewN nq) osq)) := S1.out.grown nq osq
          clear lqta lqtb hcqt S1
          generalize grow (wr.drewN nq) osq = w2 at S2 ⊢
          clear nq osq
          go_wp2_with fail
          go_roundg (j - (h + 1))
          case measure => omega
          case rel => exact ⟨h + 1, j, by go_num, rfl, by omega, by omega, hjb, Nat.le_refl _, S2, Y', N1⟩
        | false =>
          have N2 : Hid (∀ t, h ≤ t → t < b → ltOf cf (vw d t) (vw d a) = false) := fun t h1 h2 => hO.out.ntrans _ _ _ (So.le hO.out HB.out (show m ≤ h by omega) h1 h2) hL
          have eaqfa : ((h : Int)).toNat = h := by omega
          have paqfa : (0 : Int) ≤ (h : Int) := by omega
          have baqfa : (h : Int) < (d.size : Int) := by omega
          have raqfa : IntKind.i64.wrap ((h : Int)) = (h : Int) := by rw [IntKind.wrap_i64]; omega
          have eaqfb : ((a : Int)).toNat = a := by omega
          have paqfb : (0 : Int) ≤ (a : Int) := by omega
          have baqfb : (a : Int) < (d.size : Int) := by omega
          have raqfb : IntKind.i64.wrap ((a : Int)) = (a : Int) := by rw [IntKind.wrap_i64]; omega
          obtain ⟨xqf, hxqf⟩ : ∃ x, x = d[h]! := ⟨_, rfl⟩
          obtain ⟨yqf, hyqf⟩ : ∃ x, x = d[a]! := ⟨_, rfl⟩
          have lqfa := S1.out.ld R (by omega) P (h) (by omega)
          have lqfb := S1.out.ld R (by omega) P (a) (by omega)
          rw [← hxqf] at lqfa
          rw [← hyqf] at lqfb
          have hcqf := S1.out.cmp HC.out (by omega) xqf yqf
          have hvqf : ¬ cf xqf yqf < 0 := by rw [hxqf, hyqf]; exact of_decide_eq_false (hL)
          have hdqf : decide (cf xqf yqf < 0) = false := decide_eq_false hvqf
          clear hxqf hyqf
          go_wp2_with fail
          go_quiet_grown (first | (go_at_fn g; refine Calls.grown_of (hcqf _ _)))
          have S2 : Aside (SWK enc k w0 blk off d (grow (wr.drewN nq) osq)) := S1.out.grown nq osq
          clear lqfa lqfb hcqf S1
          generalize grow (wr.drewN nq) osq = w2 at S2 ⊢
          clear nq osq
          go_wp2_with fail
          go_roundg (h - i)
          case measure => omega
          case rel => exact ⟨i, h, rfl, rfl, hmi, by omega, by omega, Nat.le_refl _, S2, Y, N2⟩
      · have hltz : ¬ (i : Int) < (j : Int) := by omega
        obtain rfl : i = j := by omega
        go_wp2
        go_loopg [13] (i - 1 - a) (fun kx s13 wr => ∃ (t : Nat) (dk : Array α), s13 = .int .i64 t ∧ a ≤ t ∧ t ≤ i - 1 ∧ i - 1 - t ≤ kx ∧ dk.size = d.size ∧ Aside (SWK enc k w0 blk off dk wr) ∧ Hid (vw dk = upF (vw d) a t) ∧ Hid (PermIn a b d dk))
        case atStart => exact ⟨a, d, rfl, Nat.le_refl _, by omega, Nat.le_refl _, rfl, S1, (up_zero _ _).symm, permIn_refl _ _ _⟩
        case round =>
          clear S1
          obtain ⟨t, dk, rfl, hat, hti, hkx2, hds, S2, HV, HP⟩ := hrel
          have q3 : IntKind.i64.wrap ((i : Int) - 1) = (i : Int) - 1 := by rw [IntKind.wrap_i64]; omega
          by_cases ht : t < i - 1
          · have htz : (t : Int) < (i : Int) - 1 := by omega
            go_wp2_with fail
            have eapa : ((t : Int)).toNat = t := by omega
            have papa : (0 : Int) ≤ (t : Int) := by omega
            have bapa : (t : Int) < (d.size : Int) := by omega
            have rapa : IntKind.i64.wrap ((t : Int)) = (t : Int) := by rw [IntKind.wrap_i64]; omega
            have eapb : ((t : Int) + 1).toNat = t + 1 := by omega
            have papb : (0 : Int) ≤ (t : Int) + 1 := by omega
            have bapb : (t : Int) + 1 < (d.size : Int) := by omega
            have rapb : IntKind.i64.wrap ((t : Int) + 1) = (t : Int) + 1 := by rw [IntKind.wrap_i64]; omega
            have S3 : Aside (SWK enc k w0 blk off (swp dk (t) (t + 1)) ((wr.drew.setCells blk (off + (t) * k) (enc dk[t + 1]!)).setCells blk (off + (t + 1) * k) (enc dk[t]!))) := S2.out.swapped R (t) (t + 1) (by omega) (by omega)
            have lpa := S2.out.ld1 R (by omega) P (t) (by omega)
            have lpb := S2.out.ld1 R (by omega) P (t + 1) (by omega)
            have spa := S2.out.st1 R (by omega) P (t) (by omega) dk[t + 1]!
            have spb := S2.out.st2 R (by omega) P (t) (t + 1) (by omega) (by omega) dk[t + 1]! dk[t]!
            have npa : (enc dk[t]!).length = k := R.hk _
            have npb : (enc dk[t + 1]!).length = k := R.hk _
            generalize enc dk[t]! = cIp at S3 lpa spb npa
            generalize enc dk[t + 1]! = cJp at S3 lpb spa spb npb
            clear S2
            go_wp2_with fail
            go_big_region_o
            clear lpa lpb spa spb
            generalize (wr.drew.setCells blk (off + (t) * k) cJp).setCells blk (off + (t + 1) * k) cIp = w3 at S3 ⊢
            go_wp2
            go_roundg (i - 1 - (t + 1))
            case measure => omega
            case rel =>
              refine ⟨t + 1, swp dk t (t + 1), by simp, by omega, by omega, Nat.le_refl _, by rw [size_swp]; exact hds, S3, ?_, permIn_trans _ _ _ _ _ HP.out (swp_permIn _ _ _ _ _ (by omega) (by omega) (by omega) (by omega) (by omega))⟩
              show _ = _
              funext u
              rw [up_step _ hat, vw_swp _ (by omega) (by omega), HV.out]
          · have htz : ¬ (t : Int) < (i : Int) - 1 := by omega
            obtain rfl : t = i - 1 := by omega
            go_wp2
            first | go_end0 | ((try simp only [Exit.inBlock, Exit.then]); refine bodyPost_ret (results_none rfl _ _ _) rfl ?_)
            refine ⟨rfl, dk, HP.out, ?_, S2.out⟩
            show So (ltOf cf) (vw dk) a b
            rw [HV.out]
            exact up_so hO.out (show a < i by omega) hjb Y.out N1.out (by rw [← HMA.out]; exact HB.out)
  by_cases hmb1 : b = m + 1
  · -- one alone behind
    have q0 : IntKind.i64.wrap ((m : Int) - (a : Int)) = (m : Int) - (a : Int) := by rw [IntKind.wrap_i64]; omega
    have q1 : ((m : Int) - (a : Int) == 1) = false := by simp; omega
    have q2 : IntKind.i64.wrap ((b : Int) - (m : Int)) = 1 := by rw [IntKind.wrap_i64]; omega
    have q3 : (b : Int) - (m : Int) = 1 := by omega
    have hmb2 : b ≤ m + 1 := by omega
    have HMB := Lib.hid hmb1
    clear hmb1
    go_enter FG, Tryz.ntmps69
    go_wp2
    go_loopg [14, 15] (m - a) (fun kx s10 s11 wr => ∃ i j : Nat, s10 = .int .i64 i ∧ s11 = .int .i64 j ∧ a ≤ i ∧ i ≤ j ∧ j ≤ m ∧ j - i ≤ kx ∧ Aside (SWK enc k w0 blk off d wr) ∧ Hid (∀ t, a ≤ t → t < i → ltOf cf (vw d m) (vw d t) = false) ∧ Hid (∀ t, j ≤ t → t < m → ltOf cf (vw d m) (vw d t) = true))
    case atStart => exact ⟨a, m, rfl, rfl, Nat.le_refl _, by omega, Nat.le_refl _, Nat.le_refl _, S0, fun t h1 h2 => by omega, fun t h1 h2 => by omega⟩
    case round =>
      clear S0 q0 q2
      obtain ⟨i, j, rfl, rfl, hmi, hij, hjb, hkx, S1, Y, N1⟩ := hrel
      by_cases hlt : i < j
      · have hltz : (i : Int) < (j : Int) := by omega
        obtain ⟨h, eh0⟩ : ∃ n, (i + j) / 2 = n := ⟨_, rfl⟩
        have eh1 : (((i : Int)) + ((j : Int))) / 2 = (h : Int) := by omega
        have eh2 : IntKind.i64.wrap (((i : Int)) + ((j : Int))) = ((i : Int)) + ((j : Int)) := by rw [IntKind.wrap_i64]; omega
        have eh3 : IntKind.u64.wrap (((i : Int)) + ((j : Int))) = ((i : Int)) + ((j : Int)) := by simp [IntKind.wrap, IntKind.bits, IntKind.signed]; omega
        have eh4 : IntKind.i64.wrap (h : Int) = (h : Int) := by rw [IntKind.wrap_i64]; omega
        have hhi : i ≤ h ∧ h < j := by omega
        cases hL : ltOf cf d[m]! d[h]! with
        | false =>
          have Y' : Hid (∀ t, a ≤ t → t < h + 1 → ltOf cf (vw d m) (vw d t) = false) := fun t h1 h2 => hO.out.ntrans _ _ _ hL (So.le hO.out HA.out h1 (show t ≤ h by omega) (by omega))
          have eaqfa : ((m : Int)).toNat = m := by omega
          have paqfa : (0 : Int) ≤ (m : Int) := by omega
          have baqfa : (m : Int) < (d.size : Int) := by omega
          have raqfa : IntKind.i64.wrap ((m : Int)) = (m : Int) := by rw [IntKind.wrap_i64]; omega
          have eaqfb : ((h : Int)).toNat = h := by omega
          have paqfb : (0 : Int) ≤ (h : Int) := by omega
          have baqfb : (h : Int) < (d.size : Int) := by omega
          have raqfb : IntKind.i64.wrap ((h : Int)) = (h : Int) := by rw [IntKind.wrap_i64]; omega
          obtain ⟨xqf, hxqf⟩ : ∃ x, x = d[m]! := ⟨_, rfl⟩
          obtain ⟨yqf, hyqf⟩ : ∃ x, x = d[h]! := ⟨_, rfl⟩
          have lqfa := S1.out.ld R (by omega) P (m) (by omega)
          have lqfb := S1.out.ld R (by omega) P (h) (by omega)
          rw [← hxqf] at lqfa
          rw [← hyqf] at lqfb
          have hcqf := S1.out.cmp HC.out (by omega) xqf yqf
          have hvqf : ¬ cf xqf yqf < 0 := by rw [hxqf, hyqf]; exact of_decide_eq_false (hL)
          have hdqf : decide (cf xqf yqf < 0) = false := decide_eq_false hvqf
          clear hxqf hyqf
          go_wp2_with fail
          go_quiet_grown (first | (go_at_fn g; refine Calls.grown_of (hcqf _ _)))
          have S2 : Aside (SWK enc k w0 blk off d (grow (wr.drewN nq) osq)) := S1.out.grown nq osq
          clear lqfa lqfb hcqf S1
          generalize grow (wr.drewN nq) osq = w2 at S2 ⊢
          clear nq osq
          go_wp2_with fail
          go_roundg (j - (h + 1))
          case measure => omega
          case rel => exact ⟨h + 1, j, by go_num, rfl, by omega, by omega, hjb, Nat.le_refl _, S2, Y', N1⟩
        | true =>
          have N2 : Hid (∀ t, h ≤ t → t < m → ltOf cf (vw d m) (vw d t) = true) := fun t h1 h2 => lt_le hO.out hL (So.le hO.out HA.out (show a ≤ h by omega) h1 h2)
          have eaqta : ((m : Int)).toNat = m := by omega
          have paqta : (0 : Int) ≤ (m : Int) := by omega
          have baqta : (m : Int) < (d.size : Int) := by omega
          have raqta : IntKind.i64.wrap ((m : Int)) = (m : Int) := by rw [IntKind.wrap_i64]; omega
          have eaqtb : ((h : Int)).toNat = h := by omega
          have paqtb : (0 : Int) ≤ (h : Int) := by omega
          have baqtb : (h : Int) < (d.size : Int) := by omega
          have raqtb : IntKind.i64.wrap ((h : Int)) = (h : Int) := by rw [IntKind.wrap_i64]; omega
          obtain ⟨xqt, hxqt⟩ : ∃ x, x = d[m]! := ⟨_, rfl⟩
          obtain ⟨yqt, hyqt⟩ : ∃ x, x = d[h]! := ⟨_, rfl⟩
          have lqta := S1.out.ld R (by omega) P (m) (by omega)
          have lqtb := S1.out.ld R (by omega) P (h) (by omega)
          rw [← hxqt] at lqta
          rw [← hyqt] at lqtb
          have hcqt := S1.out.cmp HC.out (by omega) xqt yqt
          have hvqt : cf xqt yqt < 0 := by rw [hxqt, hyqt]; exact of_decide_eq_true (hL)
          have hdqt : decide (cf xqt yqt < 0) = true := decide_eq_true hvqt
          clear hxqt hyqt
          go_wp2_with fail
          go_quiet_grown (first | (go_at_fn g; refine Calls.grown_of (hcqt _ _)))
          have S2 : Aside (SWK enc k w0 blk off d (grow (wr.drewN nq) osq)) := S1.out.grown nq osq
          clear lqta lqtb hcqt S1
          generalize grow (wr.drewN nq) osq = w2 at S2 ⊢
          clear nq osq
          go_wp2_with fail
          go_roundg (h - i)
          case measure => omega
          case rel => exact ⟨i, h, rfl, rfl, hmi, by omega, by omega, Nat.le_refl _, S2, Y, N2⟩
      · have hltz : ¬ (i : Int) < (j : Int) := by omega
        obtain rfl : i = j := by omega
        go_wp2
        go_loopg [17] (m - i) (fun kx s13 wr => ∃ (t : Nat) (dk : Array α), s13 = .int .i64 t ∧ i ≤ t ∧ t ≤ m ∧ t - i ≤ kx ∧ dk.size = d.size ∧ Aside (SWK enc k w0 blk off dk wr) ∧ Hid (vw dk = dnF (vw d) m t) ∧ Hid (PermIn a b d dk))
        case atStart => exact ⟨m, d, rfl, hjb, Nat.le_refl _, Nat.le_refl _, rfl, S1, (dn_zero _ _).symm, permIn_refl _ _ _⟩
        case round =>
          clear S1
          obtain ⟨t, dk, rfl, hat, hti, hkx2, hds, S2, HV, HP⟩ := hrel
          by_cases ht : i < t
          · obtain ⟨u, rfl⟩ : ∃ u, t = u + 1 := ⟨t - 1, by omega⟩
            have htz : (i : Int) < (u : Int) + 1 := by omega
            have hwu : IntKind.i64.wrap (u : Int) = (u : Int) := by rw [IntKind.wrap_i64]; omega
            go_wp2_with fail
            have eapa : ((u : Int) + 1).toNat = u + 1 := by omega
            have papa : (0 : Int) ≤ (u : Int) + 1 := by omega
            have bapa : (u : Int) + 1 < (d.size : Int) := by omega
            have rapa : IntKind.i64.wrap ((u : Int) + 1) = (u : Int) + 1 := by rw [IntKind.wrap_i64]; omega
            have eapb : ((u : Int)).toNat = u := by omega
            have papb : (0 : Int) ≤ (u : Int) := by omega
            have bapb : (u : Int) < (d.size : Int) := by omega
            have rapb : IntKind.i64.wrap ((u : Int)) = (u : Int) := by rw [IntKind.wrap_i64]; omega
            have S3 : Aside (SWK enc k w0 blk off (swp dk (u + 1) (u)) ((wr.drew.setCells blk (off + (u + 1) * k) (enc dk[u]!)).setCells blk (off + (u) * k) (enc dk[u + 1]!))) := S2.out.swapped R (u + 1) (u) (by omega) (by omega)
            have lpa := S2.out.ld1 R (by omega) P (u + 1) (by omega)
            have lpb := S2.out.ld1 R (by omega) P (u) (by omega)
            have spa := S2.out.st1 R (by omega) P (u + 1) (by omega) dk[u]!
            have spb := S2.out.st2 R (by omega) P (u + 1) (u) (by omega) (by omega) dk[u]! dk[u + 1]!
            have npa : (enc dk[u + 1]!).length = k := R.hk _
            have npb : (enc dk[u]!).length = k := R.hk _
            generalize enc dk[u + 1]! = cIp at S3 lpa spb npa
            generalize enc dk[u]! = cJp at S3 lpb spa spb npb
            clear S2
            go_wp2_with fail
            go_big_region_o
            clear lpa lpb spa spb
            generalize (wr.drew.setCells blk (off + (u + 1) * k) cJp).setCells blk (off + (u) * k) cIp = w3 at S3 ⊢
            go_wp2
            go_roundg (u - i)
            case measure => omega
            case rel =>
              refine ⟨u, swp dk (u + 1) u, by first | rfl | go_num | (congr 1; omega), by omega, by omega, Nat.le_refl _, by rw [size_swp]; exact hds, S3, ?_, permIn_trans _ _ _ _ _ HP.out (swp_permIn _ _ _ _ _ (by omega) (by omega) (by omega) (by omega) (by omega))⟩
              show _ = _
              funext v
              rw [dn_step _ hti, vw_swp _ (by omega) (by omega), HV.out]
          · have htz : ¬ (i : Int) < (t : Int) := by omega
            obtain rfl : t = i := by omega
            go_wp2
            first | go_end0 | ((try simp only [Exit.inBlock, Exit.then]); refine bodyPost_ret (results_none rfl _ _ _) rfl ?_)
            refine ⟨rfl, dk, HP.out, ?_, S2.out⟩
            show So (ltOf cf) (vw dk) a b
            rw [HV.out, HMB.out]
            exact dn_so hO.out hmi hjb Y.out N1.out HA.out
  · -- by halves
    have q0 : IntKind.i64.wrap ((m : Int) - (a : Int)) = (m : Int) - (a : Int) := by rw [IntKind.wrap_i64]; omega
    have q1 : ((m : Int) - (a : Int) == 1) = false := by simp; omega
    have q2 : IntKind.i64.wrap ((b : Int) - (m : Int)) = (b : Int) - (m : Int) := by rw [IntKind.wrap_i64]; omega
    have q3 : ((b : Int) - (m : Int) == 1) = false := by simp; omega
    obtain ⟨mid, ek0⟩ : ∃ n, (a + b) / 2 = n := ⟨_, rfl⟩
    have ek1 : (((a : Int)) + ((b : Int))) / 2 = (mid : Int) := by omega
    have ek2 : IntKind.i64.wrap (((a : Int)) + ((b : Int))) = ((a : Int)) + ((b : Int)) := by rw [IntKind.wrap_i64]; omega
    have ek3 : IntKind.u64.wrap (((a : Int)) + ((b : Int))) = ((a : Int)) + ((b : Int)) := by simp [IntKind.wrap, IntKind.bits, IntKind.signed]; omega
    have ek4 : IntKind.i64.wrap (mid : Int) = (mid : Int) := by rw [IntKind.wrap_i64]; omega
    have q4 : IntKind.i64.wrap ((mid : Int) + (m : Int)) = (mid : Int) + (m : Int) := by rw [IntKind.wrap_i64]; omega
    have q5 : IntKind.i64.wrap ((mid : Int) + (m : Int) - 1) = (mid : Int) + (m : Int) - 1 := by rw [IntKind.wrap_i64]; omega
    have hmid : a < mid ∧ mid < b := by omega
    by_cases hmm : mid < m
    · obtain ⟨s0, hs0⟩ : ∃ n : Nat, mid + m - b = n := ⟨_, rfl⟩
      have hs1 : s0 + b ≤ mid + m ∧ mid + m ≤ s0 + b := by omega
      clear hs0
      have zmm : (mid : Int) < (m : Int) := by omega
      have q6 : IntKind.i64.wrap ((mid : Int) + (m : Int) - (b : Int)) = (s0 : Int) := by rw [IntKind.wrap_i64]; omega
      have q7 : (mid : Int) + (m : Int) - (b : Int) = (s0 : Int) := by omega
      have g2 : mid ≤ m := by omega
      have g3 : mid ≤ mid := by omega
      have g5 : a ≤ s0 := by omega
      have g6 : mid + m ≤ s0 + b := by omega
      have g7 : s0 ≤ mid := by omega
      go_enter FG, Tryz.ntmps69
      go_wp2
      go_loopg [20, 21] (mid - s0) (fun kx s10 s11 wr => ∃ i j : Nat, s10 = .int .i64 i ∧ s11 = .int .i64 j ∧ s0 ≤ i ∧ i ≤ j ∧ j ≤ mid ∧ j - i ≤ kx ∧ Aside (SWK enc k w0 blk off d wr) ∧ Hid (∀ t, s0 ≤ t → t < i → ltOf cf (vw d (mid + m - 1 - t)) (vw d t) = false) ∧ Hid (∀ t, j ≤ t → t < mid → ltOf cf (vw d (mid + m - 1 - t)) (vw d t) = true))
      case atStart => exact ⟨s0, mid, by first | rfl | (congr 1; omega), by first | rfl | (congr 1; omega), Nat.le_refl _, g7, Nat.le_refl _, Nat.le_refl _, S0, fun t h1 h2 => by omega, fun t h1 h2 => by omega⟩
      case round =>
        clear S0 q0 q2
        obtain ⟨i, j, rfl, rfl, hmi, hij, hjb, hkx, S1, Y, N1⟩ := hrel
        by_cases hlt : i < j
        · have hltz : (i : Int) < (j : Int) := by omega
          obtain ⟨h, eh0⟩ : ∃ n, (i + j) / 2 = n := ⟨_, rfl⟩
          have eh1 : (((i : Int)) + ((j : Int))) / 2 = (h : Int) := by omega
          have eh2 : IntKind.i64.wrap (((i : Int)) + ((j : Int))) = ((i : Int)) + ((j : Int)) := by rw [IntKind.wrap_i64]; omega
          have eh3 : IntKind.u64.wrap (((i : Int)) + ((j : Int))) = ((i : Int)) + ((j : Int)) := by simp [IntKind.wrap, IntKind.bits, IntKind.signed]; omega
          have eh4 : IntKind.i64.wrap (h : Int) = (h : Int) := by rw [IntKind.wrap_i64]; omega
          have hhi : i ≤ h ∧ h < j := by omega
          obtain ⟨pc, hpc⟩ : ∃ n, mid + m - 1 - h = n := ⟨_, rfl⟩
          have q8 : IntKind.i64.wrap ((mid : Int) + (m : Int) - 1 - (h : Int)) = (pc : Int) := by rw [IntKind.wrap_i64]; omega
          have q9 : (mid : Int) + (m : Int) - 1 - (h : Int) = (pc : Int) := by omega
          have hpb : pc < b ∧ m ≤ pc := by omega
          cases hL : ltOf cf d[pc]! d[h]! with
          | false =>
            have Y' : Hid (∀ t, s0 ≤ t → t < h + 1 → ltOf cf (vw d (mid + m - 1 - t)) (vw d t) = false) := fun t h1 h2 => look_no hO.out HA.out HB.out g5 (by omega) (c := h) (by omega) (by omega) (by rw [hpc]; exact hL) t h1 (by omega)
            have eaqfa : ((pc : Int)).toNat = pc := by omega
            have paqfa : (0 : Int) ≤ (pc : Int) := by omega
            have baqfa : (pc : Int) < (d.size : Int) := by omega
            have raqfa : IntKind.i64.wrap ((pc : Int)) = (pc : Int) := by rw [IntKind.wrap_i64]; omega
            have eaqfb : ((h : Int)).toNat = h := by omega
            have paqfb : (0 : Int) ≤ (h : Int) := by omega
            have baqfb : (h : Int) < (d.size : Int) := by omega
            have raqfb : IntKind.i64.wrap ((h : Int)) = (h : Int) := by rw [IntKind.wrap_i64]; omega
            obtain ⟨xqf, hxqf⟩ : ∃ x, x = d[pc]! := ⟨_, rfl⟩
            obtain ⟨yqf, hyqf⟩ : ∃ x, x = d[h]! := ⟨_, rfl⟩
            have lqfa := S1.out.ld R (by omega) P (pc) (by omega)
            have lqfb := S1.out.ld R (by omega) P (h) (by omega)
            rw [← hxqf] at lqfa
            rw [← hyqf] at lqfb
            have hcqf := S1.out.cmp HC.out (by omega) xqf yqf
            have hvqf : ¬ cf xqf yqf < 0 := by rw [hxqf, hyqf]; exact of_decide_eq_false (hL)
            have hdqf : decide (cf xqf yqf < 0) = false := decide_eq_false hvqf
            clear hxqf hyqf
            go_wp2_with fail
            go_quiet_grown (first | (go_at_fn g; refine Calls.grown_of (hcqf _ _)))
            have S2 : Aside (SWK enc k w0 blk off d (grow (wr.drewN nq) osq)) := S1.out.grown nq osq
            clear lqfa lqfb hcqf S1
            generalize grow (wr.drewN nq) osq = w2 at S2 ⊢
            clear nq osq
            go_wp2_with fail
            go_roundg (j - (h + 1))
            case measure => omega
            case rel => exact ⟨h + 1, j, by go_num, rfl, by omega, by omega, hjb, Nat.le_refl _, S2, Y', N1⟩
          | true =>
            have N2 : Hid (∀ t, h ≤ t → t < mid → ltOf cf (vw d (mid + m - 1 - t)) (vw d t) = true) := fun t h1 h2 => look_yes hO.out HA.out HB.out g2 (by omega) (c := h) (by omega) (by omega) (by rw [hpc]; exact hL) t h1 h2
            have eaqta : ((pc : Int)).toNat = pc := by omega
            have paqta : (0 : Int) ≤ (pc : Int) := by omega
            have baqta : (pc : Int) < (d.size : Int) := by omega
            have raqta : IntKind.i64.wrap ((pc : Int)) = (pc : Int) := by rw [IntKind.wrap_i64]; omega
            have eaqtb : ((h : Int)).toNat = h := by omega
            have paqtb : (0 : Int) ≤ (h : Int) := by omega
            have baqtb : (h : Int) < (d.size : Int) := by omega
            have raqtb : IntKind.i64.wrap ((h : Int)) = (h : Int) := by rw [IntKind.wrap_i64]; omega
            obtain ⟨xqt, hxqt⟩ : ∃ x, x = d[pc]! := ⟨_, rfl⟩
            obtain ⟨yqt, hyqt⟩ : ∃ x, x = d[h]! := ⟨_, rfl⟩
            have lqta := S1.out.ld R (by omega) P (pc) (by omega)
            have lqtb := S1.out.ld R (by omega) P (h) (by omega)
            rw [← hxqt] at lqta
            rw [← hyqt] at lqtb
            have hcqt := S1.out.cmp HC.out (by omega) xqt yqt
            have hvqt : cf xqt yqt < 0 := by rw [hxqt, hyqt]; exact of_decide_eq_true (hL)
            have hdqt : decide (cf xqt yqt < 0) = true := decide_eq_true hvqt
            clear hxqt hyqt
            go_wp2_with fail
            go_quiet_grown (first | (go_at_fn g; refine Calls.grown_of (hcqt _ _)))
            have S2 : Aside (SWK enc k w0 blk off d (grow (wr.drewN nq) osq)) := S1.out.grown nq osq
            clear lqta lqtb hcqt S1
            generalize grow (wr.drewN nq) osq = w2 at S2 ⊢
            clear nq osq
            go_wp2_with fail
            go_roundg (h - i)
            case measure => omega
            case rel => exact ⟨i, h, rfl, rfl, hmi, by omega, by omega, Nat.le_refl _, S2, Y, N2⟩
        · have hltz : ¬ (i : Int) < (j : Int) := by omega
          obtain rfl : i = j := by omega
          obtain ⟨s, rfl⟩ : ∃ s, i = s := ⟨_, rfl⟩
          obtain ⟨e, he⟩ : ∃ n, mid + m - i = n := ⟨_, rfl⟩
          have q8 : IntKind.i64.wrap ((mid : Int) + (m : Int) - (i : Int)) = (e : Int) := by rw [IntKind.wrap_i64]; omega
          have q9 : (mid : Int) + (m : Int) - (i : Int) = (e : Int) := by omega
          have HF : Hid (Half (ltOf cf) (rotF (vw d) i m e) a i mid e b) := by rw [← he]; exact rot_half hO.out HA.out HB.out ham hmb hmid.1 hmid.2 hmi hjb (by omega) g2 g3 (by omega) g5 g6 Y.out N1.out
          clear Y N1
          by_cases c1 : i < m ∧ m < e
          · by_cases c2 : a < i ∧ i < mid
            · by_cases c3 : mid < e ∧ e < b
              · have z11 : (i : Int) < (m : Int) := by omega
                have z12 : (m : Int) < (e : Int) := by omega
                have z21 : (a : Int) < (i : Int) := by omega
                have z22 : (i : Int) < (mid : Int) := by omega
                have z31 : (mid : Int) < (e : Int) := by omega
                have z32 : (e : Int) < (b : Int) := by omega
                have cc1 := RT.out i m e d wr (by omega) S1.out c1.1 c1.2 (by omega) (by omega)
                go_wp2_with (go_at_call 94; refine cc1.mono ?_; rintro e w2 ⟨rfl, d1, hz1, hv1, p1, S2⟩)
                clear cc1
                replace S2 : Aside (SWK enc k w0 blk off d1 w2) := S2
                have P1 : Hid (PermIn a b d d1) := p1 a b (by omega) (by omega) (by omega)
                have Hf1 : Hid (Half (ltOf cf) (vw d1) a i mid e b) := by show Half _ _ _ _ _ _ _; rw [hv1]; exact HF.out
                clear p1 hv1
                have cc2 := IH.out a i mid d1 w2 (by omega) (by omega) S2.out c2.1 c2.2 (by omega) Hf1.out.s1 Hf1.out.s2
                rw [hz1] at cc2
                go_wp2_with (go_at_call 69; refine cc2.mono ?_; rintro e w3 ⟨rfl, d2, p2, q2, S3⟩)
                clear cc2
                replace S3 : Aside (SWK enc k w0 blk off d2 w3) := S3
                have hz2 : d2.size = d.size := by have := p2.1; omega
                have P12 : Hid (PermIn a mid d1 d2) := p2
                have Q12 : Hid (SortedIn (ltOf cf) a mid d2) := q2
                clear p2 q2
                have cc3 := IH.out mid e b d2 w3 (by omega) (by omega) S3.out c3.1 c3.2 (by omega) (So.keep (Hf1.out.s3) P12.out (Or.inr (Nat.le_refl _))) (So.keep (Hf1.out.s4) P12.out (Or.inr (by omega)))
                rw [hz2] at cc3
                go_wp2_with (go_at_call 69; refine cc3.mono ?_; rintro e w4 ⟨rfl, d3, p3, q3, S4⟩)
                first | go_end0 | ((try simp only [Exit.inBlock, Exit.then]); refine bodyPost_ret (results_none rfl _ _ _) rfl ?_)
                obtain ⟨f1, f2⟩ := half_done hO.out Hf1.out (by omega) (by omega) (by omega) P12.out p3 Q12.out q3
                exact ⟨rfl, d3, permIn_trans _ _ _ _ _ P1.out f1, f2, S4⟩
              · have z11 : (i : Int) < (m : Int) := by omega
                have z12 : (m : Int) < (e : Int) := by omega
                have z21 : (a : Int) < (i : Int) := by omega
                have z22 : (i : Int) < (mid : Int) := by omega
                have z31 : (mid : Int) < (e : Int) := by omega
                have z32 : ¬ (e : Int) < (b : Int) := by omega
                have cc1 := RT.out i m e d wr (by omega) S1.out c1.1 c1.2 (by omega) (by omega)
                go_wp2_with (go_at_call 94; refine cc1.mono ?_; rintro e w2 ⟨rfl, d1, hz1, hv1, p1, S2⟩)
                clear cc1
                replace S2 : Aside (SWK enc k w0 blk off d1 w2) := S2
                have P1 : Hid (PermIn a b d d1) := p1 a b (by omega) (by omega) (by omega)
                have Hf1 : Hid (Half (ltOf cf) (vw d1) a i mid e b) := by show Half _ _ _ _ _ _ _; rw [hv1]; exact HF.out
                clear p1 hv1
                have cc2 := IH.out a i mid d1 w2 (by omega) (by omega) S2.out c2.1 c2.2 (by omega) Hf1.out.s1 Hf1.out.s2
                rw [hz1] at cc2
                go_wp2_with (go_at_call 69; refine cc2.mono ?_; rintro e w3 ⟨rfl, d2, p2, q2, S3⟩)
                clear cc2
                replace S3 : Aside (SWK enc k w0 blk off d2 w3) := S3
                have hz2 : d2.size = d.size := by have := p2.1; omega
                have P12 : Hid (PermIn a mid d1 d2) := p2
                have Q12 : Hid (SortedIn (ltOf cf) a mid d2) := q2
                clear p2 q2
                skip
                first | go_end0 | ((try simp only [Exit.inBlock, Exit.then]); refine bodyPost_ret (results_none rfl _ _ _) rfl ?_)
                obtain ⟨f1, f2⟩ := half_done hO.out Hf1.out (by omega) (by omega) (by omega) P12.out (permIn_refl _ _ _) Q12.out (So.keep (Hf1.out.right (by omega) (by omega) c3) P12.out (Or.inr (Nat.le_refl _)))
                exact ⟨rfl, d2, permIn_trans _ _ _ _ _ P1.out f1, f2, S3.out⟩
            · have c3 : ¬ (mid < e ∧ e < b) := by omega
              have z11 : (i : Int) < (m : Int) := by omega
              have z12 : (m : Int) < (e : Int) := by omega
              have z21 : ¬ (a : Int) < (i : Int) := by omega
              have z31 : (mid : Int) < (e : Int) := by omega
              have z32 : ¬ (e : Int) < (b : Int) := by omega
              have cc1 := RT.out i m e d wr (by omega) S1.out c1.1 c1.2 (by omega) (by omega)
              go_wp2_with (go_at_call 94; refine cc1.mono ?_; rintro e w2 ⟨rfl, d1, hz1, hv1, p1, S2⟩)
              clear cc1
              replace S2 : Aside (SWK enc k w0 blk off d1 w2) := S2
              have P1 : Hid (PermIn a b d d1) := p1 a b (by omega) (by omega) (by omega)
              have Hf1 : Hid (Half (ltOf cf) (vw d1) a i mid e b) := by show Half _ _ _ _ _ _ _; rw [hv1]; exact HF.out
              clear p1 hv1
              have hz2 : d1.size = d.size := hz1
              have P12 : Hid (PermIn a mid d1 d1) := permIn_refl _ _ _
              have Q12 : Hid (SortedIn (ltOf cf) a mid d1) := Hf1.out.left (by omega) (by omega) c2
              skip
              first | go_end0 | ((try simp only [Exit.inBlock, Exit.then]); refine bodyPost_ret (results_none rfl _ _ _) rfl ?_)
              obtain ⟨f1, f2⟩ := half_done hO.out Hf1.out (by omega) (by omega) (by omega) P12.out (permIn_refl _ _ _) Q12.out (So.keep (Hf1.out.right (by omega) (by omega) c3) P12.out (Or.inr (Nat.le_refl _)))
              exact ⟨rfl, d1, permIn_trans _ _ _ _ _ P1.out f1, f2, S2.out⟩
          · have c2 : ¬ (a < i ∧ i < mid) := by omega
            have c3 : mid < e ∧ e < b := by omega
            have z11 : (i : Int) < (m : Int) := by omega
            have z12 : ¬ (m : Int) < (e : Int) := by omega
            have z21 : (a : Int) < (i : Int) := by omega
            have z22 : ¬ (i : Int) < (mid : Int) := by omega
            have z31 : (mid : Int) < (e : Int) := by omega
            have z32 : (e : Int) < (b : Int) := by omega
            have hz1 : d.size = d.size := rfl
            have P1 : Hid (PermIn a b d d) := permIn_refl _ _ _
            have Hf1 : Hid (Half (ltOf cf) (vw d) a i mid e b) := by
              show Half _ _ _ _ _ _ _
              have hf := HF.out
              rwa [rot_right _ (show m = e by omega)] at hf
            have hz2 : d.size = d.size := rfl
            have P12 : Hid (PermIn a mid d d) := permIn_refl _ _ _
            have Q12 : Hid (SortedIn (ltOf cf) a mid d) := Hf1.out.left (by omega) (by omega) c2
            have cc3 := IH.out mid e b d wr (by omega) (by omega) S1.out c3.1 c3.2 (by omega) (So.keep (Hf1.out.s3) P12.out (Or.inr (Nat.le_refl _))) (So.keep (Hf1.out.s4) P12.out (Or.inr (by omega)))
            rw [hz2] at cc3
            go_wp2_with (go_at_call 69; refine cc3.mono ?_; rintro e w4 ⟨rfl, d3, p3, q3, S4⟩)
            first | go_end0 | ((try simp only [Exit.inBlock, Exit.then]); refine bodyPost_ret (results_none rfl _ _ _) rfl ?_)
            obtain ⟨f1, f2⟩ := half_done hO.out Hf1.out (by omega) (by omega) (by omega) P12.out p3 Q12.out q3
            exact ⟨rfl, d3, permIn_trans _ _ _ _ _ P1.out f1, f2, S4⟩
    · skip
      have zmm : ¬ (mid : Int) < (m : Int) := by omega
      have g2 : m ≤ m := by omega
      have g3 : m ≤ mid := by omega
      have g5 : a ≤ a := by omega
      have g6 : mid + m ≤ a + b := by omega
      have g7 : a ≤ m := by omega
      go_enter FG, Tryz.ntmps69
      go_wp2
      go_loopg [20, 21] (m - a) (fun kx s10 s11 wr => ∃ i j : Nat, s10 = .int .i64 i ∧ s11 = .int .i64 j ∧ a ≤ i ∧ i ≤ j ∧ j ≤ m ∧ j - i ≤ kx ∧ Aside (SWK enc k w0 blk off d wr) ∧ Hid (∀ t, a ≤ t → t < i → ltOf cf (vw d (mid + m - 1 - t)) (vw d t) = false) ∧ Hid (∀ t, j ≤ t → t < m → ltOf cf (vw d (mid + m - 1 - t)) (vw d t) = true))
      case atStart => exact ⟨a, m, by first | rfl | (congr 1; omega), by first | rfl | (congr 1; omega), Nat.le_refl _, g7, Nat.le_refl _, Nat.le_refl _, S0, fun t h1 h2 => by omega, fun t h1 h2 => by omega⟩
      case round =>
        clear S0 q0 q2
        obtain ⟨i, j, rfl, rfl, hmi, hij, hjb, hkx, S1, Y, N1⟩ := hrel
        by_cases hlt : i < j
        · have hltz : (i : Int) < (j : Int) := by omega
          obtain ⟨h, eh0⟩ : ∃ n, (i + j) / 2 = n := ⟨_, rfl⟩
          have eh1 : (((i : Int)) + ((j : Int))) / 2 = (h : Int) := by omega
          have eh2 : IntKind.i64.wrap (((i : Int)) + ((j : Int))) = ((i : Int)) + ((j : Int)) := by rw [IntKind.wrap_i64]; omega
          have eh3 : IntKind.u64.wrap (((i : Int)) + ((j : Int))) = ((i : Int)) + ((j : Int)) := by simp [IntKind.wrap, IntKind.bits, IntKind.signed]; omega
          have eh4 : IntKind.i64.wrap (h : Int) = (h : Int) := by rw [IntKind.wrap_i64]; omega
          have hhi : i ≤ h ∧ h < j := by omega
          obtain ⟨pc, hpc⟩ : ∃ n, mid + m - 1 - h = n := ⟨_, rfl⟩
          have q8 : IntKind.i64.wrap ((mid : Int) + (m : Int) - 1 - (h : Int)) = (pc : Int) := by rw [IntKind.wrap_i64]; omega
          have q9 : (mid : Int) + (m : Int) - 1 - (h : Int) = (pc : Int) := by omega
          have hpb : pc < b ∧ m ≤ pc := by omega
          cases hL : ltOf cf d[pc]! d[h]! with
          | false =>
            have Y' : Hid (∀ t, a ≤ t → t < h + 1 → ltOf cf (vw d (mid + m - 1 - t)) (vw d t) = false) := fun t h1 h2 => look_no hO.out HA.out HB.out g5 (by omega) (c := h) (by omega) (by omega) (by rw [hpc]; exact hL) t h1 (by omega)
            have eaqfa : ((pc : Int)).toNat = pc := by omega
            have paqfa : (0 : Int) ≤ (pc : Int) := by omega
            have baqfa : (pc : Int) < (d.size : Int) := by omega
            have raqfa : IntKind.i64.wrap ((pc : Int)) = (pc : Int) := by rw [IntKind.wrap_i64]; omega
            have eaqfb : ((h : Int)).toNat = h := by omega
            have paqfb : (0 : Int) ≤ (h : Int) := by omega
            have baqfb : (h : Int) < (d.size : Int) := by omega
            have raqfb : IntKind.i64.wrap ((h : Int)) = (h : Int) := by rw [IntKind.wrap_i64]; omega
            obtain ⟨xqf, hxqf⟩ : ∃ x, x = d[pc]! := ⟨_, rfl⟩
            obtain ⟨yqf, hyqf⟩ : ∃ x, x = d[h]! := ⟨_, rfl⟩
            have lqfa := S1.out.ld R (by omega) P (pc) (by omega)
            have lqfb := S1.out.ld R (by omega) P (h) (by omega)
            rw [← hxqf] at lqfa
            rw [← hyqf] at lqfb
            have hcqf := S1.out.cmp HC.out (by omega) xqf yqf
            have hvqf : ¬ cf xqf yqf < 0 := by rw [hxqf, hyqf]; exact of_decide_eq_false (hL)
            have hdqf : decide (cf xqf yqf < 0) = false := decide_eq_false hvqf
            clear hxqf hyqf
            go_wp2_with fail
            go_quiet_grown (first | (go_at_fn g; refine Calls.grown_of (hcqf _ _)))
            have S2 : Aside (SWK enc k w0 blk off d (grow (wr.drewN nq) osq)) := S1.out.grown nq osq
            clear lqfa lqfb hcqf S1
            generalize grow (wr.drewN nq) osq = w2 at S2 ⊢
            clear nq osq
            go_wp2_with fail
            go_roundg (j - (h + 1))
            case measure => omega
            case rel => exact ⟨h + 1, j, by go_num, rfl, by omega, by omega, hjb, Nat.le_refl _, S2, Y', N1⟩
          | true =>
            have N2 : Hid (∀ t, h ≤ t → t < m → ltOf cf (vw d (mid + m - 1 - t)) (vw d t) = true) := fun t h1 h2 => look_yes hO.out HA.out HB.out g2 (by omega) (c := h) (by omega) (by omega) (by rw [hpc]; exact hL) t h1 h2
            have eaqta : ((pc : Int)).toNat = pc := by omega
            have paqta : (0 : Int) ≤ (pc : Int) := by omega
            have baqta : (pc : Int) < (d.size : Int) := by omega
            have raqta : IntKind.i64.wrap ((pc : Int)) = (pc : Int) := by rw [IntKind.wrap_i64]; omega
            have eaqtb : ((h : Int)).toNat = h := by omega
            have paqtb : (0 : Int) ≤ (h : Int) := by omega
            have baqtb : (h : Int) < (d.size : Int) := by omega
            have raqtb : IntKind.i64.wrap ((h : Int)) = (h : Int) := by rw [IntKind.wrap_i64]; omega
            obtain ⟨xqt, hxqt⟩ : ∃ x, x = d[pc]! := ⟨_, rfl⟩
            obtain ⟨yqt, hyqt⟩ : ∃ x, x = d[h]! := ⟨_, rfl⟩
            have lqta := S1.out.ld R (by omega) P (pc) (by omega)
            have lqtb := S1.out.ld R (by omega) P (h) (by omega)
            rw [← hxqt] at lqta
            rw [← hyqt] at lqtb
            have hcqt := S1.out.cmp HC.out (by omega) xqt yqt
            have hvqt : cf xqt yqt < 0 := by rw [hxqt, hyqt]; exact of_decide_eq_true (hL)
            have hdqt : decide (cf xqt yqt < 0) = true := decide_eq_true hvqt
            clear hxqt hyqt
            go_wp2_with fail
            go_quiet_grown (first | (go_at_fn g; refine Calls.grown_of (hcqt _ _)))
            have S2 : Aside (SWK enc k w0 blk off d (grow (wr.drewN nq) osq)) := S1.out.grown nq osq
            clear lqta lqtb hcqt S1
            generalize grow (wr.drewN nq) osq = w2 at S2 ⊢
            clear nq osq
            go_wp2_with fail
            go_roundg (h - i)
            case measure => omega
            case rel => exact ⟨i, h, rfl, rfl, hmi, by omega, by omega, Nat.le_refl _, S2, Y, N2⟩
        · have hltz : ¬ (i : Int) < (j : Int) := by omega
          obtain rfl : i = j := by omega
          obtain ⟨s, rfl⟩ : ∃ s, i = s := ⟨_, rfl⟩
          obtain ⟨e, he⟩ : ∃ n, mid + m - i = n := ⟨_, rfl⟩
          have q8 : IntKind.i64.wrap ((mid : Int) + (m : Int) - (i : Int)) = (e : Int) := by rw [IntKind.wrap_i64]; omega
          have q9 : (mid : Int) + (m : Int) - (i : Int) = (e : Int) := by omega
          have HF : Hid (Half (ltOf cf) (rotF (vw d) i m e) a i mid e b) := by rw [← he]; exact rot_half hO.out HA.out HB.out ham hmb hmid.1 hmid.2 hmi hjb (by omega) g2 g3 (by omega) g5 g6 Y.out N1.out
          clear Y N1
          by_cases c1 : i < m ∧ m < e
          · by_cases c2 : a < i ∧ i < mid
            · have c3 : mid < e ∧ e < b := by omega
              have z11 : (i : Int) < (m : Int) := by omega
              have z12 : (m : Int) < (e : Int) := by omega
              have z21 : (a : Int) < (i : Int) := by omega
              have z22 : (i : Int) < (mid : Int) := by omega
              have z31 : (mid : Int) < (e : Int) := by omega
              have z32 : (e : Int) < (b : Int) := by omega
              have cc1 := RT.out i m e d wr (by omega) S1.out c1.1 c1.2 (by omega) (by omega)
              go_wp2_with (go_at_call 94; refine cc1.mono ?_; rintro e w2 ⟨rfl, d1, hz1, hv1, p1, S2⟩)
              clear cc1
              replace S2 : Aside (SWK enc k w0 blk off d1 w2) := S2
              have P1 : Hid (PermIn a b d d1) := p1 a b (by omega) (by omega) (by omega)
              have Hf1 : Hid (Half (ltOf cf) (vw d1) a i mid e b) := by show Half _ _ _ _ _ _ _; rw [hv1]; exact HF.out
              clear p1 hv1
              have cc2 := IH.out a i mid d1 w2 (by omega) (by omega) S2.out c2.1 c2.2 (by omega) Hf1.out.s1 Hf1.out.s2
              rw [hz1] at cc2
              go_wp2_with (go_at_call 69; refine cc2.mono ?_; rintro e w3 ⟨rfl, d2, p2, q2, S3⟩)
              clear cc2
              replace S3 : Aside (SWK enc k w0 blk off d2 w3) := S3
              have hz2 : d2.size = d.size := by have := p2.1; omega
              have P12 : Hid (PermIn a mid d1 d2) := p2
              have Q12 : Hid (SortedIn (ltOf cf) a mid d2) := q2
              clear p2 q2
              have cc3 := IH.out mid e b d2 w3 (by omega) (by omega) S3.out c3.1 c3.2 (by omega) (So.keep (Hf1.out.s3) P12.out (Or.inr (Nat.le_refl _))) (So.keep (Hf1.out.s4) P12.out (Or.inr (by omega)))
              rw [hz2] at cc3
              go_wp2_with (go_at_call 69; refine cc3.mono ?_; rintro e w4 ⟨rfl, d3, p3, q3, S4⟩)
              first | go_end0 | ((try simp only [Exit.inBlock, Exit.then]); refine bodyPost_ret (results_none rfl _ _ _) rfl ?_)
              obtain ⟨f1, f2⟩ := half_done hO.out Hf1.out (by omega) (by omega) (by omega) P12.out p3 Q12.out q3
              exact ⟨rfl, d3, permIn_trans _ _ _ _ _ P1.out f1, f2, S4⟩
            · by_cases c3 : mid < e ∧ e < b
              · have z11 : (i : Int) < (m : Int) := by omega
                have z12 : (m : Int) < (e : Int) := by omega
                have z21 : ¬ (a : Int) < (i : Int) := by omega
                have z31 : (mid : Int) < (e : Int) := by omega
                have z32 : (e : Int) < (b : Int) := by omega
                have cc1 := RT.out i m e d wr (by omega) S1.out c1.1 c1.2 (by omega) (by omega)
                go_wp2_with (go_at_call 94; refine cc1.mono ?_; rintro e w2 ⟨rfl, d1, hz1, hv1, p1, S2⟩)
                clear cc1
                replace S2 : Aside (SWK enc k w0 blk off d1 w2) := S2
                have P1 : Hid (PermIn a b d d1) := p1 a b (by omega) (by omega) (by omega)
                have Hf1 : Hid (Half (ltOf cf) (vw d1) a i mid e b) := by show Half _ _ _ _ _ _ _; rw [hv1]; exact HF.out
                clear p1 hv1
                have hz2 : d1.size = d.size := hz1
                have P12 : Hid (PermIn a mid d1 d1) := permIn_refl _ _ _
                have Q12 : Hid (SortedIn (ltOf cf) a mid d1) := Hf1.out.left (by omega) (by omega) c2
                have cc3 := IH.out mid e b d1 w2 (by omega) (by omega) S2.out c3.1 c3.2 (by omega) (So.keep (Hf1.out.s3) P12.out (Or.inr (Nat.le_refl _))) (So.keep (Hf1.out.s4) P12.out (Or.inr (by omega)))
                rw [hz2] at cc3
                go_wp2_with (go_at_call 69; refine cc3.mono ?_; rintro e w4 ⟨rfl, d3, p3, q3, S4⟩)
                first | go_end0 | ((try simp only [Exit.inBlock, Exit.then]); refine bodyPost_ret (results_none rfl _ _ _) rfl ?_)
                obtain ⟨f1, f2⟩ := half_done hO.out Hf1.out (by omega) (by omega) (by omega) P12.out p3 Q12.out q3
                exact ⟨rfl, d3, permIn_trans _ _ _ _ _ P1.out f1, f2, S4⟩
              · have z11 : (i : Int) < (m : Int) := by omega
                have z12 : (m : Int) < (e : Int) := by omega
                have z21 : ¬ (a : Int) < (i : Int) := by omega
                have z31 : (mid : Int) < (e : Int) := by omega
                have z32 : ¬ (e : Int) < (b : Int) := by omega
                have cc1 := RT.out i m e d wr (by omega) S1.out c1.1 c1.2 (by omega) (by omega)
                go_wp2_with (go_at_call 94; refine cc1.mono ?_; rintro e w2 ⟨rfl, d1, hz1, hv1, p1, S2⟩)
                clear cc1
                replace S2 : Aside (SWK enc k w0 blk off d1 w2) := S2
                have P1 : Hid (PermIn a b d d1) := p1 a b (by omega) (by omega) (by omega)
                have Hf1 : Hid (Half (ltOf cf) (vw d1) a i mid e b) := by show Half _ _ _ _ _ _ _; rw [hv1]; exact HF.out
                clear p1 hv1
                have hz2 : d1.size = d.size := hz1
                have P12 : Hid (PermIn a mid d1 d1) := permIn_refl _ _ _
                have Q12 : Hid (SortedIn (ltOf cf) a mid d1) := Hf1.out.left (by omega) (by omega) c2
                skip
                first | go_end0 | ((try simp only [Exit.inBlock, Exit.then]); refine bodyPost_ret (results_none rfl _ _ _) rfl ?_)
                obtain ⟨f1, f2⟩ := half_done hO.out Hf1.out (by omega) (by omega) (by omega) P12.out (permIn_refl _ _ _) Q12.out (So.keep (Hf1.out.right (by omega) (by omega) c3) P12.out (Or.inr (Nat.le_refl _)))
                exact ⟨rfl, d1, permIn_trans _ _ _ _ _ P1.out f1, f2, S2.out⟩
          · by_cases c2 : a < i ∧ i < mid
            · have c3 : ¬ (mid < e ∧ e < b) := by omega
              have z11 : ¬ (i : Int) < (m : Int) := by omega
              have z21 : (a : Int) < (i : Int) := by omega
              have z22 : (i : Int) < (mid : Int) := by omega
              have z31 : ¬ (mid : Int) < (e : Int) := by omega
              have hz1 : d.size = d.size := rfl
              have P1 : Hid (PermIn a b d d) := permIn_refl _ _ _
              have Hf1 : Hid (Half (ltOf cf) (vw d) a i mid e b) := by
                show Half _ _ _ _ _ _ _
                have hf := HF.out
                rwa [rot_left _ (show i = m by omega)] at hf
              have cc2 := IH.out a i mid d wr (by omega) (by omega) S1.out c2.1 c2.2 (by omega) Hf1.out.s1 Hf1.out.s2
              rw [hz1] at cc2
              go_wp2_with (go_at_call 69; refine cc2.mono ?_; rintro e w3 ⟨rfl, d2, p2, q2, S3⟩)
              clear cc2
              replace S3 : Aside (SWK enc k w0 blk off d2 w3) := S3
              have hz2 : d2.size = d.size := by have := p2.1; omega
              have P12 : Hid (PermIn a mid d d2) := p2
              have Q12 : Hid (SortedIn (ltOf cf) a mid d2) := q2
              clear p2 q2
              skip
              first | go_end0 | ((try simp only [Exit.inBlock, Exit.then]); refine bodyPost_ret (results_none rfl _ _ _) rfl ?_)
              obtain ⟨f1, f2⟩ := half_done hO.out Hf1.out (by omega) (by omega) (by omega) P12.out (permIn_refl _ _ _) Q12.out (So.keep (Hf1.out.right (by omega) (by omega) c3) P12.out (Or.inr (Nat.le_refl _)))
              exact ⟨rfl, d2, permIn_trans _ _ _ _ _ P1.out f1, f2, S3.out⟩
            · have c3 : ¬ (mid < e ∧ e < b) := by omega
              have z11 : ¬ (i : Int) < (m : Int) := by omega
              have z21 : (a : Int) < (i : Int) := by omega
              have z22 : ¬ (i : Int) < (mid : Int) := by omega
              have z31 : ¬ (mid : Int) < (e : Int) := by omega
              have hz1 : d.size = d.size := rfl
              have P1 : Hid (PermIn a b d d) := permIn_refl _ _ _
              have Hf1 : Hid (Half (ltOf cf) (vw d) a i mid e b) := by
                show Half _ _ _ _ _ _ _
                have hf := HF.out
                rwa [rot_left _ (show i = m by omega)] at hf
              have hz2 : d.size = d.size := rfl
              have P12 : Hid (PermIn a mid d d) := permIn_refl _ _ _
              have Q12 : Hid (SortedIn (ltOf cf) a mid d) := Hf1.out.left (by omega) (by omega) c2
              go_wp2_with fail
              first | go_end0 | ((try simp only [Exit.inBlock, Exit.then]); refine bodyPost_ret (results_none rfl _ _ _) rfl ?_)
              obtain ⟨f1, f2⟩ := half_done hO.out Hf1.out (by omega) (by omega) (by omega) P12.out (permIn_refl _ _ _) Q12.out (So.keep (Hf1.out.right (by omega) (by omega) c3) P12.out (Or.inr (Nat.le_refl _)))
              exact ⟨rfl, d, permIn_trans _ _ _ _ _ P1.out f1, f2, S1.out⟩
end Go.Proofs.YtjhoecfhmndcgaaGreat.So
