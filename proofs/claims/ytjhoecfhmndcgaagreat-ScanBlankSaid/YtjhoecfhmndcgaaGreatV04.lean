/- THE LIBRARY's stableCmpFunc, over elements of k cells: the row is sorted. -/
import Derived.Test.YtjhoecfhmndcgaaGreatV03
import Derived.Shelf.SlSortCmp.PdqK
namespace Go.Proofs
open Go.Shelf
def Tryz.stF_ren : Go.Shelf.Ren := ⟨fun | 20 => 68 | n => n, fun | 22 => 24 | 24 => 29 | 25 => 68 | 3 => 3 | 0 => 0 | 4 => 4 | n => n, fun n => n⟩
theorem Tryz.stF : Go.Proofs.SlLaysF0.n20 Tryz.prog Tryz.stF_ren := {
  mixed := by kernel_rfl
  f20 := ⟨Tryz.f68.name, by decide, Tryz.func68.trans (congrArg some (by kernel_rfl))⟩
  t0 := Tryz.underlying0
  a0 := Tryz.isAgg0
  z0 := Tryz.sizeOf0
  v0 := Tryz.zeroValue0
  t3 := Tryz.underlying3
  a3 := Tryz.isAgg3
  z3 := Tryz.sizeOf3
  v3 := Tryz.zeroValue3
  t4 := Tryz.underlying4
  a4 := Tryz.isAgg4
  z4 := Tryz.sizeOf4
  v4 := Tryz.zeroValue4
  t22 := Tryz.underlying24
  a22 := Tryz.isAgg24
  z22 := Tryz.sizeOf24
  v22 := Tryz.zeroValue24
  t25 := Tryz.underlying68
  a25 := Tryz.isAgg68
  z25 := Tryz.sizeOf68
  v25 := Tryz.zeroValue68 }
end Go.Proofs
namespace Go.Proofs.YtjhoecfhmndcgaaGreat.So
open Go.Shelf Go.RowKit Go.Lib Go.Sort Go.Proofs
set_option linter.unusedVariables false
set_option linter.unusedSimpArgs false
set_option linter.unusedSectionVars false
variable {P : Program} {α : Type} [Inhabited α]

set_option maxHeartbeats 8000000 in
set_option maxRecDepth 1000000 in
theorem stable_any (L : PG P) (LI : SlLaysF0.n20 P Tryz.stF_ren) (hf : P.funcs[43]? = some Tryz.f43) (k : Nat) (aE : ∀ w, (isAgg 29).run P w = .ok true w) (zE : ∀ w, (Go.sizeOf 29).run P w = .ok k w) (enc : α → List Value) (cf : α → α → Int) (g : Nat) (cb : Array Value) (hO : SWO (ltOf cf)) (blk off cap : Nat) (d0 : Array α) (w0 : World)
    (eg : ∀ args w, (callFunc g args).run P w = .ok (.enter g args) w) (hcmp : CmpLays P g cb enc k cf blk off d0.size w0) (R : RowK enc k w0 blk off d0) (n : Nat) (hn : d0.size = n) (hsz : n < 100000000) :
    Calls P 43 #[.slice (some ⟨blk, off, none⟩) n cap, .int .i64 n, .func (.func g) #[] cb] w0 fun e w' =>
      e = .returned (.tuple #[]) ∧ ∃ d' : Array α, PermIn 0 n d0 d' ∧ SortedIn (ltOf cf) 0 n d' ∧ SWK enc k w0 blk off d' w' := by
  have IN : ∀ (a b : Nat) (d : Array α) (W : World), d.size = n → SWK enc k w0 blk off d W → a ≤ b → b ≤ n → Calls P 68 #[.slice (some ⟨blk, off, none⟩) n cap, .int .i64 a, .int .i64 b, .func (.func g) #[] cb] W fun e w' =>
      e = .returned (.tuple #[]) ∧ ∃ d' : Array α, PermIn a b d d' ∧ SortedIn (ltOf cf) a b d' ∧ SWK enc k w0 blk off d' w' := fun a b d W hd S hab hb => by
    have h := AnyQ.insertionSortCmpFunc_w LI k aE zE enc cf g cb blk off cap a b d0 d w0 W eg hcmp R (by omega) S hO hab (by omega) (by omega)
    change Calls P 68 _ _ _ at h
    rw [hd] at h
    refine h.mono ?_
    rintro e w' ⟨he, hw⟩
    obtain ⟨h1, h2⟩ := insertionSort_holds (lt := ltOf cf) hO d a b hab (by omega)
    exact ⟨he, _, h1, h2, hw⟩
  have ME : ∀ (a m b : Nat) (d : Array α) (W : World), d.size = n → SWK enc k w0 blk off d W → a < m → m < b → b ≤ n → SortedIn (ltOf cf) a m d → SortedIn (ltOf cf) m b d → ∀ mI bI : Int, mI = (m : Int) → bI = (b : Int) → Calls P 69 #[.slice (some ⟨blk, off, none⟩) n cap, .int .i64 a, .int .i64 mI, .int .i64 bI, .func (.func g) #[] cb] W fun e w' =>
      e = .returned (.tuple #[]) ∧ ∃ d' : Array α, PermIn a b d d' ∧ SortedIn (ltOf cf) a b d' ∧ SWK enc k w0 blk off d' w' := fun a m b d W hd S h1 h2 h3 h4 h5 mI bI e1 e2 => by
    subst e1 e2
    have h := merge_any L k aE zE enc cf g cb hO blk off cap d0 w0 eg hcmp R (by omega) (b - a) a m b d W (Nat.le_refl _) (by omega) S h1 h2 (by omega) h4 h5
    rwa [hd] at h
  have mixed := L.mixed; have t0 := L.t0; have a0 := L.a0; have z0 := L.z0; have v0 := L.v0; have t3 := L.t3; have a3 := L.a3; have z3 := L.z3; have v3 := L.v3; have t4 := L.t4; have a4 := L.a4; have z4 := L.z4; have v4 := L.v4; have t22 := L.t22; have a22 := L.a22; have z22 := L.z22; have v22 := L.v22; have t25 := L.t25; have a25 := L.a25; have z25 := L.z25; have v25 := L.v25; have t39 := L.t39; have a39 := L.a39; have z39 := L.z39; have v39 := L.v39
  have FG := hf
  have e1 : ∀ args w, (callFunc 68 args).run P w = .ok (.enter 68 args) w := LI.f20.enters rfl
  have e2 : ∀ args w, (callFunc 69 args).run P w = .ok (.enter 69 args) w := enters_of L.fme (by kernel_rfl) rfl
  clear L LI hf hcmp hO
  have S0 : Aside (SWK enc k w0 blk off d0 w0) := SWK.start R.hH
  replace IN := Lib.hid IN
  replace ME := Lib.hid ME
  clear R
  replace hn := Lib.hid hn
  go_enter FG, Tryz.ntmps43
  go_wp2
  go_loopg [7, 8] n (fun kx s7 s8 wr => ∃ (a : Nat) (dk : Array α), s7 = .int .i64 a ∧ s8 = .int .i64 ((a : Int) + 20) ∧ a ≤ n ∧ n - a ≤ kx ∧ Hid (20 ∣ a) ∧ Aside (SWK enc k w0 blk off dk wr) ∧ Hid (RunsTo (ltOf cf) 20 n dk a) ∧ Hid (PermIn 0 n d0 dk))
  case atStart => exact ⟨0, d0, rfl, rfl, Nat.zero_le _, by omega, Nat.dvd_zero _, S0, fun x hx hx0 => absurd hx0 (by omega), permIn_refl _ _ _⟩
  case round =>
    clear S0
    obtain ⟨a, dk, rfl, rfl, han, hkx, hda, S1, HT, HP⟩ := hrel
    have hz : dk.size = n := by have := HP.out.1; have := hn.out; omega
    replace hz := Lib.hid hz
    by_cases hlt : a + 20 ≤ n
    · have hltz : (a : Int) + 20 ≤ (n : Int) := by omega
      have ci := IN.out a (a + 20) dk wr hz.out S1.out (by omega) hlt
      rw [show ((a + 20 : Nat) : Int) = (a : Int) + 20 by omega] at ci
      have qa : IntKind.i64.wrap ((a : Int) + 20 + 20) = (a : Int) + 20 + 20 := by rw [IntKind.wrap_i64]; omega
      go_wp2_with (go_at_call 68; refine ci.mono ?_; rintro e w1 ⟨rfl, d', hp, hq, S2⟩)
      go_roundg (n - (a + 20))
      case measure => omega
      case rel =>
        refine ⟨a + 20, d', by first | rfl | go_num | (congr 1; omega), by first | rfl | go_num | (congr 1; omega), hlt, Nat.le_refl _, Nat.dvd_add hda.out (Nat.dvd_refl _), S2, HT.out.step hda.out (by rw [Nat.min_eq_right hlt]; exact hp) (by rw [Nat.min_eq_right hlt]; exact hq), permIn_trans _ _ _ _ _ HP.out (permIn_mono _ _ _ _ _ _ (Nat.zero_le _) hlt (by rw [hz.out]; exact Nat.le_refl _) hp)⟩
    · have hltz : ¬ (a : Int) + 20 ≤ (n : Int) := by omega
      have ci := IN.out a n dk wr hz.out S1.out (by omega) (Nat.le_refl _)
      go_wp2_with (go_at_call 68; refine ci.mono ?_; rintro e w1 ⟨rfl, d', hp, hq, S2⟩)
      clear ci
      have hmn : min n (a + 20) = n := Nat.min_eq_left (by omega)
      have HR : Hid (Runs (ltOf cf) 20 n d' 0) := (HT.out.step hda.out (by rw [hmn]; exact hp) (by rw [hmn]; exact hq)).end_ (by omega)
      have HP2 : Hid (PermIn 0 n d0 d') := permIn_trans _ _ _ _ _ HP.out (permIn_mono _ _ _ _ _ _ (Nat.zero_le _) (Nat.le_refl _) (by rw [hz.out]; exact Nat.le_refl _) hp)
      replace S2 : Aside (SWK enc k w0 blk off d' w1) := S2
      clear hp hq HT HP S1 hz hmn hda hltz hlt
      go_loopg [6] n (fun kx s6 wr => ∃ (s : Nat) (dk : Array α), s6 = .int .i64 s ∧ 0 < s ∧ s < 2 * n + 21 ∧ n - s ≤ kx ∧ Aside (SWK enc k w0 blk off dk wr) ∧ Hid (Runs (ltOf cf) s n dk 0) ∧ Hid (PermIn 0 n d0 dk))
      case atStart => exact ⟨20, d', rfl, by omega, by omega, by omega, S2, HR, HP2⟩
      case round =>
        clear S2 HR HP2
        obtain ⟨s, dk, rfl, hs0, hsn, hkx, S1, HR, HP⟩ := hrel
        by_cases hlt : s < n
        · have hltz : (s : Int) < (n : Int) := by omega
          have q1 : IntKind.i64.wrap (2 * (s : Int)) = 2 * (s : Int) := by rw [IntKind.wrap_i64]; omega
          go_wp2
          go_loopg [7, 8] n (fun kx s7 s8 wr => ∃ (a : Nat) (dk : Array α), s7 = .int .i64 a ∧ s8 = .int .i64 ((a : Int) + 2 * (s : Int)) ∧ a ≤ n ∧ n - a ≤ kx ∧ Hid (2 * s ∣ a) ∧ Aside (SWK enc k w0 blk off dk wr) ∧ Hid (RunsTo (ltOf cf) (2 * s) n dk a) ∧ Hid (Runs (ltOf cf) s n dk a) ∧ Hid (PermIn 0 n d0 dk))
          case atStart => exact ⟨0, dk, rfl, by first | rfl | go_num | (congr 1; omega), Nat.zero_le _, by omega, Nat.dvd_zero _, S1, fun x hx hx0 => absurd hx0 (by omega), HR.out, HP.out⟩
          case round =>
            clear S1 HR HP
            obtain ⟨a, dk, rfl, rfl, han, hkx, hda, S1, HT, HR, HP⟩ := hrel
            have hz : dk.size = n := by have := HP.out.1; have := hn.out; omega
            replace hz := Lib.hid hz
            have hsa : Hid (s ∣ a) := Nat.dvd_trans ⟨2, by omega⟩ hda.out
            have qm : IntKind.i64.wrap ((a : Int) + (s : Int)) = (a : Int) + (s : Int) := by rw [IntKind.wrap_i64]; omega
            have qb : IntKind.i64.wrap ((a : Int) + 2 * (s : Int) + 2 * (s : Int)) = (a : Int) + 2 * (s : Int) + 2 * (s : Int) := by rw [IntKind.wrap_i64]; omega
            by_cases hb : a + 2 * s ≤ n
            · have hbz : (a : Int) + 2 * (s : Int) ≤ (n : Int) := by omega
              have g1 : min n (a + s) = a + s := Nat.min_eq_right (by omega)
              have g2 : min n (a + s + s) = a + 2 * s := by omega
              have g3 : min n (a + 2 * s) = a + 2 * s := Nat.min_eq_right hb
              have k1 := HR.out a hsa.out (Nat.le_refl _)
              have k2 := HR.out (a + s) (Nat.dvd_add hsa.out (Nat.dvd_refl _)) (by omega)
              rw [g1] at k1
              rw [g2] at k2
              have cc := ME.out a (a + s) (a + 2 * s) dk wr hz.out S1.out (by omega) (by omega) hb k1 k2 ((a : Int) + (s : Int)) ((a : Int) + 2 * (s : Int)) (by omega) (by omega)
              clear k1 k2 g1 g2
              replace g3 := Lib.hid g3
              go_wp2_with (go_at_call 69; refine cc.mono ?_; rintro e w1 ⟨rfl, d', hp, hq, S2⟩)
              go_roundg (n - (a + 2 * s))
              case measure => omega
              case rel =>
                refine ⟨a + 2 * s, d', by first | rfl | go_num | (congr 1; omega), by first | rfl | go_num | (congr 1; omega), hb, Nat.le_refl _, Nat.dvd_add hda.out (Nat.dvd_refl _), S2, HT.out.step hda.out (by rw [g3.out]; exact hp) (by rw [g3.out]; exact hq), HR.out.step (by omega) (Nat.le_refl _) hp, permIn_trans _ _ _ _ _ HP.out (permIn_mono _ _ _ _ _ _ (Nat.zero_le _) hb (by rw [hz.out]; exact Nat.le_refl _) hp)⟩
            · have hbz : ¬ (a : Int) + 2 * (s : Int) ≤ (n : Int) := by omega
              have g3 : min n (a + 2 * s) = n := Nat.min_eq_left (by omega)
              have q2 : IntKind.i64.wrap ((s : Int) * 2) = (s : Int) * 2 := by rw [IntKind.wrap_i64]; omega
              by_cases hm : a + s < n
              · have hmz : (a : Int) + (s : Int) < (n : Int) := by omega
                have g1 : min n (a + s) = a + s := Nat.min_eq_right (by omega)
                have g2 : min n (a + s + s) = n := Nat.min_eq_left (by omega)
                have k1 := HR.out a hsa.out (Nat.le_refl _)
                have k2 := HR.out (a + s) (Nat.dvd_add hsa.out (Nat.dvd_refl _)) (by omega)
                rw [g1] at k1
                rw [g2] at k2
                have cc := ME.out a (a + s) n dk wr hz.out S1.out (by omega) hm (Nat.le_refl _) k1 k2 ((a : Int) + (s : Int)) (n : Int) (by omega) rfl
                clear k1 k2 g1 g2
                replace g3 := Lib.hid g3
                go_wp2_with (go_at_call 69; refine cc.mono ?_; rintro e w1 ⟨rfl, d', hp, hq, S2⟩)
                go_roundg (n - 2 * s)
                case measure => omega
                case rel =>
                  refine ⟨2 * s, d', by first | rfl | go_num | (congr 1; omega), by omega, by omega, Nat.le_refl _, S2, (HT.out.step hda.out (by rw [g3.out]; exact hp) (by rw [g3.out]; exact hq)).end_ (by omega), permIn_trans _ _ _ _ _ HP.out (permIn_mono _ _ _ _ _ _ (Nat.zero_le _) (Nat.le_refl _) (by rw [hz.out]; exact Nat.le_refl _) hp)⟩
              · have hmz : ¬ (a : Int) + (s : Int) < (n : Int) := by omega
                have k1 := HR.out a hsa.out (Nat.le_refl _)
                rw [Nat.min_eq_left (by omega)] at k1
                replace k1 := Lib.hid k1
                replace g3 := Lib.hid g3
                go_wp2
                go_roundg (n - 2 * s)
                case measure => omega
                case rel =>
                  refine ⟨2 * s, dk, by first | rfl | go_num | (congr 1; omega), by omega, by omega, Nat.le_refl _, S1, (HT.out.step hda.out (permIn_refl _ _ _) (by rw [g3.out]; exact k1.out)).end_ (by omega), HP.out⟩
        · have hltz : ¬ (s : Int) < (n : Int) := by omega
          go_wp2
          go_end0
          exact ⟨rfl, dk, HP.out, runs_all HR.out (by omega), S1.out⟩
end Go.Proofs.YtjhoecfhmndcgaaGreat.So
