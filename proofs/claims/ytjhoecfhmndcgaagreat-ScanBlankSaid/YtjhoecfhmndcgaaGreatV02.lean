/- THE LIBRARY's swapRangeCmpFunc AND rotateCmpFunc, over elements of k cells, for whatever program has their bodies. -/
import Derived.Test.YtjhoecfhmndcgaaGreatV01
import Derived.Test.YtjhoecfhmndcgaaGreatProg
import Derived.Shelf.SlSortCmp.KitK
import Derived.Sort.WalkB2
import Derived.Sort.WalkB12
import Derived.Deep.LoopGhost
import Derived.Lib.Hide
namespace Go.Proofs.YtjhoecfhmndcgaaGreat.So
open Go.Shelf Go.RowKit Go.Lib Go.Sort Go.Proofs
set_option linter.unusedVariables false
set_option linter.unusedSimpArgs false
set_option linter.unusedSectionVars false
variable {P : Program} {α : Type} [Inhabited α]
/-- what is asked of a program: its types, its functions -/
structure PG (P : Program) : Prop where
  mixed : P.follows .mixedOrders = true
  t0 : P.underlying 0 = some (TypeDesc.tuple #[])
  a0 : ∀ w, (isAgg 0).run P w = .ok false w
  z0 : ∀ w, (Go.sizeOf 0).run P w = .ok 1 w
  v0 : ∀ w, (zeroValue 0).run P w = .ok (Value.tuple #[]) w
  t3 : P.underlying 3 = some (TypeDesc.int IntKind.i64)
  a3 : ∀ w, (isAgg 3).run P w = .ok false w
  z3 : ∀ w, (Go.sizeOf 3).run P w = .ok 1 w
  v3 : ∀ w, (zeroValue 3).run P w = .ok (Value.int IntKind.i64 0) w
  t4 : P.underlying 4 = some TypeDesc.bool
  a4 : ∀ w, (isAgg 4).run P w = .ok false w
  z4 : ∀ w, (Go.sizeOf 4).run P w = .ok 1 w
  v4 : ∀ w, (zeroValue 4).run P w = .ok (Value.bool false) w
  t22 : P.underlying 24 = some (TypeDesc.slice 29)
  a22 : ∀ w, (isAgg 24).run P w = .ok false w
  z22 : ∀ w, (Go.sizeOf 24).run P w = .ok 1 w
  v22 : ∀ w, (zeroValue 24).run P w = .ok (Value.slice none 0 0) w
  t25 : P.underlying 68 = some (TypeDesc.func #[29, 29] #[3] false)
  a25 : ∀ w, (isAgg 68).run P w = .ok false w
  z25 : ∀ w, (Go.sizeOf 68).run P w = .ok 1 w
  v25 : ∀ w, (zeroValue 68).run P w = .ok (Value.nilFunc) w
  t39 : P.underlying 95 = some (TypeDesc.int IntKind.u64)
  a39 : ∀ w, (isAgg 95).run P w = .ok false w
  z39 : ∀ w, (Go.sizeOf 95).run P w = .ok 1 w
  v39 : ∀ w, (zeroValue 95).run P w = .ok (Value.int IntKind.u64 0) w
  fsw : P.funcs[126]? = some Tryz.f126
  fro : P.funcs[94]? = some Tryz.f94
  fme : P.funcs[69]? = some Tryz.f69
theorem pg : PG Tryz.prog := {
  mixed := by kernel_rfl
  t0 := Tryz.underlying0
  a0 := Tryz.isAgg0
  z0 := Tryz.sizeOf0
  v0 := Tryz.zeroValue0
  t3 := Tryz.underlying3
  a3 := Tryz.isAgg3
  z3 := Tryz.sizeOf3
  v3 := Tryz.zeroValue3
  t4 := Tryz.underlying4
  a4 := Tryz.isAgg4
  z4 := Tryz.sizeOf4
  v4 := Tryz.zeroValue4
  t22 := Tryz.underlying24
  a22 := Tryz.isAgg24
  z22 := Tryz.sizeOf24
  v22 := Tryz.zeroValue24
  t25 := Tryz.underlying68
  a25 := Tryz.isAgg68
  z25 := Tryz.sizeOf68
  v25 := Tryz.zeroValue68
  t39 := Tryz.underlying95
  a39 := Tryz.isAgg95
  z39 := Tryz.sizeOf95
  v39 := Tryz.zeroValue95
  fsw := Tryz.func126
  fro := Tryz.func94
  fme := Tryz.func69 }
set_option maxHeartbeats 4000000 in
set_option maxRecDepth 1000000 in
theorem swap_any (L : PG P) (k : Nat) (aE : ∀ w, (isAgg 29).run P w = .ok true w) (zE : ∀ w, (Go.sizeOf 29).run P w = .ok k w) (enc : α → List Value) (g : Nat) (cb : Array Value) (blk off cap a b n : Nat) (d0 d : Array α) (w0 w : World)
    (R : RowK enc k w0 blk off d0) (hs : d0.size = d.size) (S : SWK enc k w0 blk off d w) (hab : a + n ≤ b) (hb : b + n ≤ d.size) (hsz : d.size < 4611686018427387904) :
    Calls P 126 #[.slice (some ⟨blk, off, none⟩) d.size cap, .int .i64 a, .int .i64 b, .int .i64 n, .func (.func g) #[] cb] w fun e w' =>
      e = .returned (.tuple #[]) ∧ ∃ d' : Array α, d'.size = d.size ∧ vw d' = exF (vw d) a b n ∧ (∀ lo hi, lo ≤ a → b + n ≤ hi → hi ≤ d.size → PermIn lo hi d d') ∧ SWK enc k w0 blk off d' w' := by
  have mixed := L.mixed; have t0 := L.t0; have a0 := L.a0; have z0 := L.z0; have v0 := L.v0; have t3 := L.t3; have a3 := L.a3; have z3 := L.z3; have v3 := L.v3; have t4 := L.t4; have a4 := L.a4; have z4 := L.z4; have v4 := L.v4; have t22 := L.t22; have a22 := L.a22; have z22 := L.z22; have v22 := L.v22; have t25 := L.t25; have a25 := L.a25; have z25 := L.z25; have v25 := L.v25; have t39 := L.t39; have a39 := L.a39; have z39 := L.z39; have v39 := L.v39
  have FG := L.fsw
  clear L
  have S0 : Aside (SWK enc k w0 blk off d w) := S
  clear S
  go_enter FG, Tryz.ntmps126
  go_wp2
  go_loopg [10] n (fun kx s10 wr => ∃ (i : Nat) (dk : Array α), s10 = .int .i64 i ∧ i ≤ n ∧ n - i ≤ kx ∧ dk.size = d.size ∧ Aside (SWK enc k w0 blk off dk wr) ∧ Hid (vw dk = exF (vw d) a b i) ∧ Hid (∀ lo hi, lo ≤ a → b + n ≤ hi → hi ≤ d.size → PermIn lo hi d dk))
  case atStart => exact ⟨0, d, rfl, Nat.zero_le _, Nat.le_refl _, rfl, S0, (ex_zero _ _ _).symm, fun lo hi _ _ _ => permIn_refl _ _ _⟩
  case round =>
    clear S0
    obtain ⟨i, dk, rfl, hin, hkx, hds, S1, HV, HP⟩ := hrel
    by_cases hlt : i < n
    · have hltz : (i : Int) < (n : Int) := by omega
      go_wp2_with fail
      have eaqa : ((a : Int) + (i : Int)).toNat = a + i := by omega
      have paqa : (0 : Int) ≤ (a : Int) + (i : Int) := by omega
      have baqa : (a : Int) + (i : Int) < (d.size : Int) := by omega
      have raqa : IntKind.i64.wrap ((a : Int) + (i : Int)) = (a : Int) + (i : Int) := by rw [IntKind.wrap_i64]; omega
      have eaqb : ((b : Int) + (i : Int)).toNat = b + i := by omega
      have paqb : (0 : Int) ≤ (b : Int) + (i : Int) := by omega
      have baqb : (b : Int) + (i : Int) < (d.size : Int) := by omega
      have raqb : IntKind.i64.wrap ((b : Int) + (i : Int)) = (b : Int) + (i : Int) := by rw [IntKind.wrap_i64]; omega
      have S2 : Aside (SWK enc k w0 blk off (swp dk (a + i) (b + i)) ((wr.drew.setCells blk (off + (a + i) * k) (enc dk[b + i]!)).setCells blk (off + (b + i) * k) (enc dk[a + i]!))) := S1.out.swapped R (a + i) (b + i) (by omega) (by omega)
      have lqa := S1.out.ld1 R (by omega) P (a + i) (by omega)
      have lqb := S1.out.ld1 R (by omega) P (b + i) (by omega)
      have sqa := S1.out.st1 R (by omega) P (a + i) (by omega) dk[b + i]!
      have sqb := S1.out.st2 R (by omega) P (a + i) (b + i) (by omega) (by omega) dk[b + i]! dk[a + i]!
      have nqa : (enc dk[a + i]!).length = k := R.hk _
      have nqb : (enc dk[b + i]!).length = k := R.hk _
      generalize enc dk[a + i]! = cIq at S2 lqa sqb nqa
      generalize enc dk[b + i]! = cJq at S2 lqb sqa sqb nqb
      clear S1
      go_wp2_with fail
      go_big_region_o
      clear lqa lqb sqa sqb
      generalize (wr.drew.setCells blk (off + (a + i) * k) cJq).setCells blk (off + (b + i) * k) cIq = w2 at S2 ⊢
      go_wp2
      go_roundg (n - (i + 1))
      case measure => omega
      case rel =>
        refine ⟨i + 1, swp dk (a + i) (b + i), by simp, by omega, Nat.le_refl _, by rw [size_swp]; exact hds, S2, ?_, fun lo hi h1 h2 h3 => permIn_trans _ _ _ _ _ (HP.out lo hi h1 h2 h3) (swp_permIn _ _ _ _ _ (by omega) (by omega) (by omega) (by omega) (by omega))⟩
        show _ = _
        funext t
        rw [ex_step _ (by omega), vw_swp _ (by omega) (by omega), HV.out]
    · have hltz : ¬ (i : Int) < (n : Int) := by omega
      obtain rfl : i = n := by omega
      go_wp2
      go_end0
      exact ⟨rfl, dk, hds, HV.out, HP.out, S1.out⟩
set_option maxHeartbeats 4000000 in
set_option maxRecDepth 1000000 in
theorem rot_any (L : PG P) (k : Nat) (aE : ∀ w, (isAgg 29).run P w = .ok true w) (zE : ∀ w, (Go.sizeOf 29).run P w = .ok k w) (enc : α → List Value) (g : Nat) (cb : Array Value) (blk off cap a m b : Nat) (d0 d : Array α) (w0 w : World)
    (R : RowK enc k w0 blk off d0) (hs : d0.size = d.size) (S : SWK enc k w0 blk off d w) (ham : a < m) (hmb : m < b) (hb : b ≤ d.size) (hsz : d.size < 4611686018427387904) :
    Calls P 94 #[.slice (some ⟨blk, off, none⟩) d.size cap, .int .i64 a, .int .i64 m, .int .i64 b, .func (.func g) #[] cb] w fun e w' =>
      e = .returned (.tuple #[]) ∧ ∃ d' : Array α, d'.size = d.size ∧ vw d' = rotF (vw d) a m b ∧ (∀ lo hi, lo ≤ a → b ≤ hi → hi ≤ d.size → PermIn lo hi d d') ∧ SWK enc k w0 blk off d' w' := by
  have SW := fun (x y n : Nat) (dk : Array α) (W : World) (hs : d0.size = dk.size) (S : SWK enc k w0 blk off dk W) (h1 : x + n ≤ y) (h2 : y + n ≤ dk.size) (h3 : dk.size < 4611686018427387904) => swap_any L k aE zE enc g cb blk off cap x y n d0 dk w0 W R hs S h1 h2 h3
  have mixed := L.mixed; have t0 := L.t0; have a0 := L.a0; have z0 := L.z0; have v0 := L.v0; have t3 := L.t3; have a3 := L.a3; have z3 := L.z3; have v3 := L.v3; have t4 := L.t4; have a4 := L.a4; have z4 := L.z4; have v4 := L.v4; have t22 := L.t22; have a22 := L.a22; have z22 := L.z22; have v22 := L.v22; have t25 := L.t25; have a25 := L.a25; have z25 := L.z25; have v25 := L.v25; have t39 := L.t39; have a39 := L.a39; have z39 := L.z39; have v39 := L.v39
  have FG := L.fro
  have e1 : ∀ args w, (callFunc 126 args).run P w = .ok (.enter 126 args) w := enters_of L.fsw (by kernel_rfl) rfl
  clear L
  have S0 : Aside (SWK enc k w0 blk off d w) := S
  replace SW := Lib.hid SW
  clear S
  have qi : IntKind.i64.wrap ((m : Int) - (a : Int)) = ((m - a : Nat) : Int) := by rw [IntKind.wrap_i64]; omega
  have qj : IntKind.i64.wrap ((b : Int) - (m : Int)) = ((b - m : Nat) : Int) := by rw [IntKind.wrap_i64]; omega
  go_enter FG, Tryz.ntmps94
  go_wp2
  go_loopg [10, 11] (b - a) (fun kx s10 s11 wr => ∃ (i j : Nat) (dk : Array α), s10 = .int .i64 i ∧ s11 = .int .i64 j ∧ 0 < i ∧ 0 < j ∧ a + i ≤ m ∧ m + j ≤ b ∧ i + j ≤ kx ∧ dk.size = d.size ∧ Aside (SWK enc k w0 blk off dk wr) ∧ Hid (rotF (vw dk) (m - i) m (m + j) = rotF (vw d) a m b) ∧ Hid (∀ lo hi, lo ≤ a → b ≤ hi → hi ≤ d.size → PermIn lo hi d dk))
  case atStart => exact ⟨m - a, b - m, d, by go_num, by go_num, by omega, by omega, by omega, by omega, by omega, rfl, S0, by show _ = _; rw [show m - (m - a) = a by omega, show m + (b - m) = b by omega], fun lo hi _ _ _ => permIn_refl _ _ _⟩
  case round =>
    clear S0 qi qj
    obtain ⟨i, j, dk, rfl, rfl, hi0, hj0, hia, hjb, hkx, hds, S1, HV, HP⟩ := hrel
    have zz : ((dk.size : Nat) : Int) = (d.size : Int) := by omega
    have q1 : (m : Int) - (i : Int) = ((m - i : Nat) : Int) := by omega
    rcases Nat.lt_trichotomy i j with hij | hij | hij
    · have z1 : ¬ (i : Int) = (j : Int) := by omega
      have z2 : ¬ (j : Int) < (i : Int) := by omega
      have q2 : (m : Int) + (j : Int) - (i : Int) = ((m + j - i : Nat) : Int) := by omega
      have cc := SW.out (m - i) (m + j - i) i dk wr (by omega) S1.out (by omega) (by omega) (by omega)
      rw [hds] at cc
      go_wp2_with (go_at_call 126; refine cc.mono ?_; rintro e w1 ⟨rfl, d', hz, hv, hp, S2⟩)
      go_roundg (i + (j - i))
      case measure => omega
      case rel =>
        refine ⟨i, j - i, d', rfl, by go_num, hi0, by omega, hia, by omega, Nat.le_refl _, by omega, S2, ?_, fun lo hi h1 h2 h3 => permIn_trans _ _ _ _ _ (HP.out lo hi h1 h2 h3) (hp lo hi (by omega) (by omega) (by omega))⟩
        show _ = _
        rw [← HV.out, hv, ← rot_less (vw dk) (by omega) hij, show m + (j - i) = m + j - i by omega]
    · subst hij
      have cc := SW.out (m - i) m i dk wr (by omega) S1.out (by omega) (by omega) (by omega)
      rw [hds] at cc
      go_wp2_with (go_at_call 126; refine cc.mono ?_; rintro e w1 ⟨rfl, d', hz, hv, hp, S2⟩)
      go_end0
      refine ⟨rfl, d', by omega, ?_, fun lo hi h1 h2 h3 => permIn_trans _ _ _ _ _ (HP.out lo hi h1 h2 h3) (hp lo hi (by omega) (by omega) (by omega)), S2⟩
      rw [← HV.out, hv, rot_same (vw dk) (by omega)]
    · have z1 : ¬ (i : Int) = (j : Int) := by omega
      have z2 : (j : Int) < (i : Int) := by omega
      have cc := SW.out (m - i) m j dk wr (by omega) S1.out (by omega) (by omega) (by omega)
      rw [hds] at cc
      go_wp2_with (go_at_call 126; refine cc.mono ?_; rintro e w1 ⟨rfl, d', hz, hv, hp, S2⟩)
      go_roundg (i - j + j)
      case measure => omega
      case rel =>
        refine ⟨i - j, j, d', by go_num, rfl, by omega, hj0, by omega, hjb, Nat.le_refl _, by omega, S2, ?_, fun lo hi h1 h2 h3 => permIn_trans _ _ _ _ _ (HP.out lo hi h1 h2 h3) (hp lo hi (by omega) (by omega) (by omega))⟩
        show _ = _
        rw [← HV.out, hv, ← rot_more (vw dk) (by omega) hij, show m - (i - j) = m - i + j by omega]
end Go.Proofs.YtjhoecfhmndcgaaGreat.So
