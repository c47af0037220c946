/- Statement PackBits: for every size and place the law returns true. -/
import Derived.Test.YtoogdhnkihdkgaaN2
namespace Go.Proofs.Ytoogdhnkihdkgaa
open Go.RowKit Go.Gf

/-- one bit of k bytes -/
def oneB (k i : Nat) : List Nat := rm k fun j => if j = i / 8 then 2 ^ (7 - i % 8) else 0
theorem oneB_len (k i : Nat) : (oneB k i).length = k := rm_len _ _
theorem oneB_bd (k i : Nat) : ∀ x ∈ oneB k i, x < 256 := rm_mem fun j _ => by
  split
  · exact Nat.lt_of_le_of_lt (Nat.pow_le_pow_right (by decide) (show 7 - i % 8 ≤ 7 by omega)) (by decide)
  · decide
theorem oneB_bit {k i t : Nat} (hi : i < 8 * k) : bit8 (oneB k i) t = decide (t = i) := by
  unfold bit8 oneB
  rw [at_rm]
  by_cases h : t / 8 < k
  · rw [if_pos h]
    by_cases h2 : t / 8 = i / 8
    · rw [if_pos h2, Nat.testBit_two_pow]
      by_cases h3 : t = i
      · subst h3; simp
      · have : ¬ (7 - i % 8 = 7 - t % 8) := by omega
        simp [this, h3]
    · rw [if_neg h2, Nat.zero_testBit]
      have : ¬ t = i := fun e => h2 (by rw [e])
      simp [this]
  · rw [if_neg h, Nat.zero_testBit]
    have : ¬ t = i := by omega
    simp [this]
theorem oneB_pk {k i j : Nat} (hi : i < 8 * k) (hj : j < (pk (oneB k i)).length) : (pk (oneB k i))[j] = if j = i / 10 then 2 ^ (9 - i % 10) else 0 := by
  have e : (pk (oneB k i))[j] = ofB 10 fun t => bit8 (oneB k i) (10 * j + t) := rm_get hj
  rw [e]
  apply Nat.eq_of_testBit_eq
  intro t
  rw [ofB_bit, oneB_bit hi]
  by_cases h : j = i / 10
  · rw [if_pos h, Nat.testBit_two_pow]
    by_cases ht : t < 10
    · have : (10 * j + (10 - 1 - t) = i) ↔ (9 - i % 10 = t) := by omega
      simp [ht, this]
    · have : ¬ 9 - i % 10 = t := by omega
      simp [ht, this]
  · rw [if_neg h, Nat.zero_testBit]
    by_cases ht : t < 10
    · have : ¬ (10 * j + (10 - 1 - t) = i) := by omega
      simp [this]
    · simp [ht]
theorem Ab.of_cells (w1 : World) {C : Array Value} {OB : List Nat} (h : C = (OB.map ub).toArray) : Ab (w1.alloc (.cells C 5)) w1.heap.size OB := by
  subst h
  exact Ab.new w1 OB
theorem u8_bd' {a : Int} (h : (Lit.int .u8 a).wf = true) : 0 ≤ a ∧ a < 256 := by
  simp [Lit.wf, IntKind.min, IntKind.max, IntKind.signed, IntKind.bits] at h; omega
theorem u16_bd' {a : Int} (h : (Lit.int .u16 a).wf = true) : 0 ≤ a ∧ a < 65536 := by
  simp [Lit.wf, IntKind.min, IntKind.max, IntKind.signed, IntKind.bits] at h; omega
set_option maxHeartbeats 4000000 in
theorem bits_law (a0 : Int) (w0 : (Lit.int .u8 a0).wf = true) (a1 : Int) (w1 : (Lit.int .u16 a1).wf = true) (w : World) : Calls Try.prog 6 #[.int .u8 a0, .int .u16 a1] w (Ans w (.bool true)) := by
  obtain ⟨n, rfl⟩ : ∃ n : Nat, a0 = (n : Int) := ⟨a0.toNat, by have := u8_bd' w0; omega⟩
  obtain ⟨m, rfl⟩ : ∃ n : Nat, a1 = (n : Int) := ⟨a1.toNat, by have := u16_bd' w1; omega⟩
  have hn : n < 256 := by have := u8_bd' w0; omega
  have hm : m < 65536 := by have := u16_bd' w1; omega
  clear w0 w1
  obtain ⟨k, hk⟩ : ∃ k : Nat, 1 + (n : Int) % 60 = (k : Int) := ⟨1 + n % 60, by omega⟩
  have hk1 : 0 < k := by omega
  have hk60 : k ≤ 60 := by omega
  have h8k : (8 * (k : Int)) ≠ 0 := by omega
  obtain ⟨i, hi⟩ : ∃ i : Nat, (m : Int) % (8 * (k : Int)) = (i : Int) := ⟨m % (8 * k), by push_cast; rfl⟩
  have hik : i < 8 * k := by
    have : (m : Int) % (8 * (k : Int)) < 8 * (k : Int) := Int.emod_lt_of_pos _ (by omega)
    omega
  have hmk : ∀ w, (Instr.makeSlice 22 (.int .i64 (k : Int)) (.int .i64 (k : Int))).run Try.prog w = .ok (.slice (some ⟨w.heap.size, 0, none⟩) k k) (w.alloc (.cells (madeCells #[.int .u8 0] k) 5)) :=
    run_make_row' (P := Try.prog) 22 5 (.int .u8 0) 1 Try.underlying22 info5 rfl .i64 .i64 k (by omega) (by omega)
  have haw := Lib.hid (pawake_any w)
  obtain ⟨q, hq⟩ : ∃ q : Nat, (i : Int) / 8 = (q : Int) := ⟨i / 8, by omega⟩
  obtain ⟨s, hs⟩ : ∃ s : Nat, 7 - (i : Int) % 8 = (s : Int) := ⟨7 - i % 8, by omega⟩
  have hqk : q < k := by omega
  have hqI : (q : Int) < (k : Int) := by omega
  have hs8 : s < 8 := by omega
  have hw8 : (2 : Int) ^ s % 256 = ((2 ^ s : Nat) : Int) := wrap8 s hs8
  have hmc : (madeCells #[.int .u8 0] k)[q]? = some (.int .u8 0) := by
    rw [made_ub]
    simp [hqk, ub]
  obtain ⟨t, ht⟩ : ∃ t : Nat, (i : Int) / 10 = (t : Int) := ⟨i / 10, by omega⟩
  obtain ⟨r, hr⟩ : ∃ s : Nat, 9 - (i : Int) % 10 = (s : Int) := ⟨9 - i % 10, by omega⟩
  have hr10 : r < 10 := by omega
  have hw16 : IntKind.u16.wrap (2 ^ r) = ((2 ^ r : Nat) : Int) := wrap16 r (by omega)
  have hw16' : (2 : Int) ^ r % 65536 = ((2 ^ r : Nat) : Int) := hw16
  have heq : Hid ((madeCells #[.int .u8 0] k).setIfInBounds q (.int .u8 (2 ^ s)) = ((oneB k i).map ub).toArray) := by
    unfold Hid oneB
    rw [show i / 8 = q by omega, show 7 - i % 8 = s by omega, made_ub, List.setIfInBounds_toArray, rm_zero, ← rm_set (f := fun _ => 0), List.map_set]
    congr 3
  have hL : Hid ((oneB k i).length = k) := oneB_len k i
  have hbd : Hid (∀ x ∈ oneB k i, x < 256) := oneB_bd k i
  have hPl : Hid ((pk (oneB k i)).length = symN k) := by unfold Hid; rw [pk_len, oneB_len]
  have hPj : Hid (∀ j (h : j < (pk (oneB k i)).length), (pk (oneB k i))[j] = if j = t then 2 ^ r else 0) := fun j h => by
    rw [oneB_pk hik h, show i / 10 = t by omega, show 9 - i % 10 = r by omega]
  have hPb : Hid (∀ {A : Option Addr} {c : Nat} {w : World}, Sl w w.heap.size A (pk (oneB k i)) → Calls Try.prog 10 #[.slice A (pk (oneB k i)).length c, .int .i64 (k : Int)] w (RowB w (oneB k i) 0)) := fun {A c w} h => by
    obtain ⟨p1, p2⟩ := upk_back hbd.out
    rw [hL.out] at p1 p2
    have := pak_unpack (n := (k : Int)) (c := c) h (by rw [hPl.out]; unfold symN; omega)
    rwa [p1, p2] at this
  have hPp : Hid (∀ {A : Option Addr} {c : Nat} {w : World}, Sb w w.heap.size A (oneB k i) → Calls Try.prog 9 #[.slice A k c] w (RowP w (pk (oneB k i)))) := fun {A c w} h => by
    have := pak_pack (c := c) h (by rw [hL.out]; omega)
    rwa [hL.out] at this
  have hsy : Hid (∀ w, Calls Try.prog 14 #[.int .i64 (k : Int)] w fun e w' => e = .returned (.int .i64 ((symN k : Nat) : Int)) ∧ w = w') := fun w => by
    have := paksymbols_any (k : Int) w
    rwa [show clampN (k : Int) = k by unfold clampN; omega] at this
  have hPm : (pk (oneB k i)).length ≤ 1000 := by rw [hPl.out]; unfold symN; omega
  generalize pk (oneB k i) = PK at *
  generalize oneB k i = OB at *
  generalize symN k = SN at *
  go_enter Try.func6, Try.ntmps6
  go_wp2_with (first
    | (go_at_call 8; (with_reducible refine haw.out.mono ?_); rintro e w1 ⟨rfl, hb⟩; have hb1 := Lib.hid (hb.alloc hb.size (.cells ((madeCells #[.int .u8 0] k).setIfInBounds q (.int .u8 (2 ^ s))) 5)); have hA : Ab (w1.alloc (.cells ((madeCells #[.int .u8 0] k).setIfInBounds q (.int .u8 (2 ^ s))) 5)) w1.heap.size OB := Ab.of_cells w1 heq.out; have hA1 := Lib.hid hA; have hc1 := Lib.hid (hPp.out (c := k) (hA.sb hbd.out)); clear hb hA haw)
    | (go_at_call 9; (with_reducible refine hc1.out.mono ?_); rintro e w2 ⟨v, rfl, ho, hb⟩; obtain ⟨X, cx, rfl, hcx, hX⟩ := ho.sl; have hb2 := Lib.hid (hb1.out.trans (hb.mono hb1.out.size)); have hA2 := Lib.hid (hA1.out.below hb hA1.out.lt); replace hX := Lib.hid hX; clear hb ho hc1))
  go_loop [9] (fun q => ∃ j : Nat, j ≤ PK.length ∧ q = .int .i64 j) (fun q => PK.length - (intOf q).toNat)
  case atStart => exact ⟨0, Nat.zero_le _, rfl⟩
  case round =>
    obtain ⟨j, hj, rfl⟩ := hrel
    by_cases hlt : j < PK.length
    · have hd : decide ((j : Int) < (PK.length : Int)) = true := by rw [decide_eq_true_eq]; omega
      have hjI : (j : Int) < (PK.length : Int) := by omega
      obtain ⟨a, rfl, hab, hcell⟩ := hX.out.at_ hlt
      rw [hPj.out j hlt] at hcell
      by_cases hjt : j = t
      · rw [if_pos hjt] at hcell
        have hd2 : ((j : Int) == (t : Int)) = true := by simp [hjt]
        have hd3 : decide ((j : Int) = (t : Int)) = true := by simp [hjt]
        have hd4 : decide (j = t) = true := by simp [hjt]
        clear hjt
        go_wp2_with fail
        go_round
        case rel => exact ⟨j + 1, by omega, by go_num⟩
        case measure => simp [intOf]; omega
      · rw [if_neg hjt] at hcell
        have hd2 : ((j : Int) == (t : Int)) = false := by simp; omega
        have hd3 : decide ((j : Int) = (t : Int)) = false := by simp; omega
        have hd4 : decide (j = t) = false := by simp [hjt]
        clear hjt
        go_wp2_with fail
        go_round
        case rel => exact ⟨j + 1, by omega, by go_num⟩
        case measure => simp [intOf]; omega
    · obtain rfl : j = PK.length := by omega
      have hd : decide (((PK.length : Nat) : Int) < (PK.length : Int)) = false := by rw [decide_eq_false_iff_not]; omega
      have hc2 := Lib.hid (hPb.out (c := cx) hX.out)
      obtain ⟨S, hS⟩ : ∃ S, Hid (bstr OB = S) := ⟨_, Lib.hid rfl⟩
      have hse := str_eq S
      have hPlI : ((PK.length : Nat) : Int) = (SN : Int) := by rw [hPl.out]
      go_wp2_with (first
        | (go_at_call 10; (with_reducible refine hc2.out.mono ?_); rintro e w3 ⟨Y, cy, rfl, hcy, hY, hb⟩; have hb3 := Lib.hid (hb2.out.trans (hb.mono hb2.out.size)); have hA3 := hA2.out.below hb hA2.out.lt; have t1 := str_run hY cy; have t2 := str_run (hA3.sb hbd.out) k; rw [hS.out] at t1 t2; rw [hL.out] at t2; replace hA3 := Lib.hid hA3; clear hb hc2)
        | (go_at_call 14; (with_reducible refine (hsy.out _).mono ?_); rintro e w4 ⟨rfl, rfl⟩))
      go_ret
      exact ⟨rfl, hb3.out⟩
end Go.Proofs.Ytoogdhnkihdkgaa
namespace Go.Proofs.Ytoogdhnkihdkgaa.packBits
open Go.ChangeShapes Go.WideShapes Go.ChangeAt Go.RowKit Go.Gf
set_option linter.unusedVariables false

theorem own : ownKnob Try.prog.godebug = none := by kernel_rfl

theorem walk (a0 : Int) (w0 : (Lit.int .u8 a0).wf = true) (a1 : Int) (w1 : (Lit.int .u16 a1).wf = true) (w : World)  :
    Calls Try.prog 6 #[.int .u8 a0, .int .u16 a1] w fun e w' => e = .returned (.bool true) ∧ Below w.heap.size w w' := bits_law a0 w0 a1 w1 w 

set_option maxRecDepth 100000 in
theorem lifted (os : Os) (started : os.Started) (H : Type) (enc : TypeId × Value → H) :
    ReturnsInHanded {} Try.checked os 6 .any (Rows.packBitsSpec.pre6 enc Try.prog Try.f6 Rows.packBitsRow.domain false) (Rows.packBitsSpec.post enc Try.prog Try.f6 false true false false) := by
  refine returnsInHanded_of_change (C := Try.checked) own started (by kernel_rfl) Try.func6
    (ChangeSpec.witness6 (enc := enc) (C := Try.checked) false ⟨#[], #[.int .u8 0, .int .u16 0], []⟩ 8 (by kernel_rfl) (by kernel_rfl) (by kernel_rfl) (by kernel_rfl)) ?_
  intro W base args ds gs before hval0 hW hcnd _
  have hval : ∀ (j : Nat) t v, Try.f6.params[j]? = some t → args[j]? = some v → Value.okWide Try.prog W .any base t v := hval0
  have hW' := hW
  obtain ⟨p, q, hA0, hV, rfl, hfz, hnd⟩ := hW
  have hA : DataW.TrodAll enc Try.prog W 0 (fun _ => true) true Try.f6.params.toList args.toList ds p := hA0
  rw [Try.params6] at hA hval
  obtain ⟨v0, vs0, d0, ds0, p0, q0, hargs, rfl, rfl, h0, r0⟩ := trodAll_cons hA
  obtain ⟨v1, vs1, d1, ds1, p1, q1, rfl, rfl, rfl, h1, r1⟩ := trodAll_cons r0
  obtain ⟨rfl, rfl, rfl⟩ := trodAll_nil r1
  obtain rfl : args = #[v0, v1] := by cases args; simp_all
  obtain ⟨rfl, rfl⟩ := trodVars_none hV
  obtain ⟨a0, rfl, rfl, rfl, w0⟩ := open_int Try.underlying5 (hval 0 5 v0 rfl rfl) h0
  obtain ⟨a1, rfl, rfl, rfl, w1⟩ := open_int Try.underlying34 (hval 1 34 v1 rfl rfl) h1
  clear hA0 hval0
  refine (walk a0 w0 a1 w1 W ).mono fun e W' ⟨he, hg⟩ => ?_
  subst he
  exact ⟨_, rfl, Cl.post_below (pv := []) hW' (fun _ _ _ => (trodAll_cons_mk (shut_bool Try.underlying4 _) trodAll_mk0)) (fun sp hsp => (trodAll_cons_mk (shut_int Try.underlying5 w0) (trodAll_cons_mk (shut_int Try.underlying34 w1) trodAll_mk0))) (fun _ _ => rfl) rfl
    hg (ok_one (by kernel_rfl) rfl (okWide_bool_mk Try.underlying4 _))⟩

theorem over : Rows.packBitsRow.holds Try.pinned (OpenSpec.ofChange Rows.packBitsSpec) :=
  OpenClaim.holds_of_wide 6 Try.f6 rfl rfl rfl rfl rfl rfl rfl ⟨rfl, rfl, rfl, rfl, rfl⟩ rfl rfl rfl rfl rfl (by kernel_rfl) Try.func6 (by kernel_rfl)
    (of_decide_eq_true (by kernel_rfl)) (by unfold Func.isWrapper; first | (rw [if_pos (by decide +kernel)]; kernel_rfl) | (rw [if_neg (by decide +kernel)]; exact ⟨rfl, rfl⟩))
    (fun os started H enc _ => lifted os started H enc)

/-- THE STATEMENT -/
theorem proved : Rows.PackBitsSaid := over
end Go.Proofs.Ytoogdhnkihdkgaa.packBits
