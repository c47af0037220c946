/- Statement PackKnown: the law returns true. -/
import Derived.Test.YtoogdhnkihdkgaaBn
namespace Go.Proofs.Ytoogdhnkihdkgaa
open Go.RowKit Go.Gf

theorem lit_pack (A : Option Addr) (c k : Nat) (xs ys : List Nat) (w : World) (h : Sb w w.heap.size A xs) (hk : xs.length = k) (hl : k ≤ 1000) (hp : pk xs = ys) : Calls Try.prog 9 #[.slice A k c] w (RowP w ys) := by
  subst hk hp
  exact pak_pack h (by omega)
theorem lit_unpack (A : Option Addr) (c k : Nat) (xs ys : List Nat) (n : Int) (f : Nat) (w : World) (h : Sl w w.heap.size A xs) (hk : xs.length = k) (hl : k ≤ 1000) (hp : upkW xs n = ys) (hf : upkE xs n = f) : Calls Try.prog 10 #[.slice A k c, .int .i64 n] w (RowB w ys f) := by
  subst hk hp hf
  exact pak_unpack h (by omega)
theorem lit_symbols (n : Int) (k : Int) (h : ((symN (clampN n) : Nat) : Int) = k) : ∀ w, Calls Try.prog 14 #[.int .i64 n] w fun e w' => e = .returned (.int .i64 k) ∧ w = w' := fun w => by
  subst h
  exact paksymbols_any n w
theorem lit_bytes (n : Int) (k : Int) (h : ((bytN (clampN n) : Nat) : Int) = k) : ∀ w, Calls Try.prog 16 #[.int .i64 n] w fun e w' => e = .returned (.int .i64 k) ∧ w = w' := fun w => by
  subst h
  exact pakbytes_any n w
theorem lit_same {A B : Option Addr} {ca cb k l : Nat} {xs ys : List Nat} {w : World} {b : Bool} (ha : Sl w w.heap.size A xs) (hb : Sl w w.heap.size B ys) (hk : xs.length = k) (hl : ys.length = l) (hla : k ≤ 1000) (hlb : l ≤ 1000) (h : decide (xs = ys) = b) :
    Calls Try.prog 12 #[.slice A k ca, .slice B l cb] w (Ans w (.bool b)) := by
  subst hk hl
  exact ans_same ha hb (by omega) (by omega) h
set_option maxHeartbeats 4000000 in
theorem known_law (w : World) : Calls Try.prog 4 #[] w (Ans w (.bool true)) := by
  have haw := Lib.hid (pawake_any w)
  have s1 := Lib.hid (lit_symbols (-3) 0 (by decide))
  have s2 := Lib.hid (lit_symbols 1 1 (by decide))
  have s3 := Lib.hid (lit_symbols 10 8 (by decide))
  have t1 := Lib.hid (lit_bytes 1 1 (by decide))
  have t2 := Lib.hid (lit_bytes 4 5 (by decide))
  have t3 := Lib.hid (lit_bytes 4611686018427387904 1374389534720 (by decide))
  have t4 := Lib.hid (lit_bytes 1099511627776 1374389534720 (by decide))
  go_enter Try.func4, Try.ntmps4
  go_wp2_with (first
    | (go_at_call 8; (with_reducible refine haw.out.mono ?_); rintro e w1 ⟨rfl, hb⟩; have hb1 := Lib.hid (hb.trans ((below_alloc w1 (.cells #[.int .u8 128, .int .u8 64, .int .u8 1] 5)).mono hb.size)); have hc1 := Lib.hid (lit_pack _ 3 3 [128, 64, 1] [513, 0, 64] _ (sb_new w1 (.cells #[.int .u8 128, .int .u8 64, .int .u8 1] 5) [128, 64, 1] w1.heap.size rfl rfl (by decide)) rfl (by decide) (by decide +kernel)); clear hb haw)
    | (go_at_call 9; (with_reducible refine hc1.out.mono ?_); rintro e w2 ⟨v, rfl, ho, hb⟩; obtain ⟨X, cx, rfl, hcx, hX⟩ := ho.sl; have hb2' := hb1.out.trans (hb.mono hb1.out.size); have hb2 := Lib.hid (hb2'.trans ((below_alloc w2 (.cells #[.int .u16 1, .int .u16 2] 34)).mono hb2'.size)); have hX2 := Lib.hid (hX.far (below_alloc w2 (.cells #[.int .u16 1, .int .u16 2] 34))); have hc2 := Lib.hid (lit_unpack _ 2 2 [1, 2] [] 3 3 _ (sl_new w2 (.cells #[.int .u16 1, .int .u16 2] 34) [1, 2] w2.heap.size rfl rfl (by decide)) rfl (by decide) (by decide +kernel) (by decide +kernel)); clear hb hb2' ho hX hc1)
    | (go_at_call 10; (with_reducible refine hc2.out.mono ?_); rintro e w3 ⟨Y, cy, rfl, hcy, hY, hb⟩; have hb3' := hb2.out.trans (hb.mono hb2.out.size); have hb3 := Lib.hid (hb3'.trans ((below_alloc w3 (.cells #[.int .u16 1024, .int .u16 0, .int .u16 0, .int .u16 0] 34)).mono hb3'.size)); have hX3 := Lib.hid ((hX2.out.far hb).far (below_alloc w3 (.cells #[.int .u16 1024, .int .u16 0, .int .u16 0, .int .u16 0] 34))); have hc3 := Lib.hid (lit_unpack _ 4 4 [1024, 0, 0, 0] [] 1 1 _ (sl_new w3 (.cells #[.int .u16 1024, .int .u16 0, .int .u16 0, .int .u16 0] 34) [1024, 0, 0, 0] w3.heap.size rfl rfl (by decide)) rfl (by decide) (by decide +kernel) (by decide +kernel)); clear hb hb3' hY hc2)
    | (go_at_call 10; (with_reducible refine hc3.out.mono ?_); rintro e w4 ⟨Z, cz, rfl, hcz, hZ, hb⟩; have hb4 := Lib.hid (hb3.out.trans (hb.mono hb3.out.size)); have hX4 := Lib.hid (hX3.out.far hb); have hc4 := Lib.hid (lit_unpack none 0 0 [] [] (-1) 3 w4 (Sl.nil _ _ _) rfl (by decide) (by decide +kernel) (by decide +kernel)); clear hb hZ hc3)
    | (go_at_call 10; (with_reducible refine hc4.out.mono ?_); rintro e w5 ⟨U, cu, rfl, hcu, hU, hb⟩; have hb5' := hb4.out.trans (hb.mono hb4.out.size); have hb5 := Lib.hid (hb5'.trans ((below_alloc w5 (.cells #[.int .u16 1023] 34)).mono hb5'.size)); have hX5 := Lib.hid ((hX4.out.far hb).far (below_alloc w5 (.cells #[.int .u16 1023] 34))); have hc5 := Lib.hid (lit_unpack _ 1 1 [1023] [255] 1 0 _ (sl_new w5 (.cells #[.int .u16 1023] 34) [1023] w5.heap.size rfl rfl (by decide)) rfl (by decide) (by decide +kernel) (by decide +kernel)); clear hb hb5' hU hc4)
    | (go_at_call 10; (with_reducible refine hc5.out.mono ?_); rintro e w6 ⟨D, cd, rfl, hcd, hD, hb⟩; have hb6' := hb5.out.trans (hb.mono hb5.out.size); have hb6 := Lib.hid (hb6'.trans ((below_alloc w6 (.cells #[.int .u16 513, .int .u16 0, .int .u16 64] 34)).mono hb6'.size)); have hX6 := Lib.hid ((hX5.out.far hb).far (below_alloc w6 (.cells #[.int .u16 513, .int .u16 0, .int .u16 64] 34))); have hD6 := Lib.hid (hD.far (below_alloc w6 (.cells #[.int .u16 513, .int .u16 0, .int .u16 64] 34))); have hc6 := Lib.hid (lit_same (ca := cx) (cb := 3) (k := 3) (l := 3) (b := true) hX6.out (sl_new w6 (.cells #[.int .u16 513, .int .u16 0, .int .u16 64] 34) [513, 0, 64] w6.heap.size rfl rfl (by decide)) rfl rfl (by decide) (by decide) (decide_eq_true rfl)); clear hb hb6' hD hc5)
    | (go_at_call 12; (with_reducible refine hc6.out.mono ?_); rintro e w7 ⟨rfl, hb⟩; have hb7 := Lib.hid (hb6.out.trans (hb.mono hb6.out.size)); obtain ⟨a, rfl, _, hcell⟩ := (hD6.out.far hb).at_ (i := 0) (by decide); rw [add_zero'] at hcell; have hc7 := Lib.hid (lit_pack none 0 0 [] [] w7 (Sb.nil _ _ _) rfl (by decide) (by decide +kernel)); clear hb hc6 hD6)
    | (go_at_call 14; (with_reducible refine (s1.out _).mono ?_); rintro e w1 ⟨rfl, rfl⟩)
    | (go_at_call 16; (with_reducible refine (t1.out _).mono ?_); rintro e w1 ⟨rfl, rfl⟩)
    | (go_at_call 16; (with_reducible refine (t2.out _).mono ?_); rintro e w1 ⟨rfl, rfl⟩)
    | (go_at_call 14; (with_reducible refine (s2.out _).mono ?_); rintro e w1 ⟨rfl, rfl⟩)
    | (go_at_call 14; (with_reducible refine (s3.out _).mono ?_); rintro e w1 ⟨rfl, rfl⟩)
    | (go_at_call 16; (with_reducible refine (t3.out _).mono ?_); rintro e w1 ⟨rfl, rfl⟩)
    | (go_at_call 16; (with_reducible refine (t4.out _).mono ?_); rintro e w1 ⟨rfl, rfl⟩)
    | (go_at_call 9; (with_reducible refine hc7.out.mono ?_); rintro e w8 ⟨v, rfl, ho, hb⟩; obtain ⟨P, cp, rfl, hcp, hP⟩ := ho.sl; have hb8 := Lib.hid (hb7.out.trans (hb.mono hb7.out.size)); clear hb ho hP))
  go_ret
  exact ⟨rfl, hb8.out⟩
end Go.Proofs.Ytoogdhnkihdkgaa
namespace Go.Proofs.Ytoogdhnkihdkgaa.packKnown
open Go.ChangeShapes Go.WideShapes Go.ChangeAt Go.RowKit Go.Gf
set_option linter.unusedVariables false

theorem own : ownKnob Try.prog.godebug = none := by kernel_rfl

theorem walk  (w : World)  :
    Calls Try.prog 4 #[] w fun e w' => e = .returned (.bool true) ∧ Below w.heap.size w w' := known_law  w 

set_option maxRecDepth 100000 in
theorem lifted (os : Os) (started : os.Started) (H : Type) (enc : TypeId × Value → H) :
    ReturnsInHanded {} Try.checked os 4 .any (Rows.packKnownSpec.pre6 enc Try.prog Try.f4 Rows.packKnownRow.domain false) (Rows.packKnownSpec.post enc Try.prog Try.f4 false true false false) := by
  refine returnsInHanded_of_change (C := Try.checked) own started (by kernel_rfl) Try.func4
    (ChangeSpec.witness6 (enc := enc) (C := Try.checked) false ⟨#[], #[], []⟩ 8 (by kernel_rfl) (by kernel_rfl) (by kernel_rfl) (by kernel_rfl)) ?_
  intro W base args ds gs before hval0 hW hcnd _
  have hval : ∀ (j : Nat) t v, Try.f4.params[j]? = some t → args[j]? = some v → Value.okWide Try.prog W .any base t v := hval0
  have hW' := hW
  obtain ⟨p, q, hA0, hV, rfl, hfz, hnd⟩ := hW
  have hA : DataW.TrodAll enc Try.prog W 0 (fun _ => true) true Try.f4.params.toList args.toList ds p := hA0
  rw [Try.params4] at hA hval
  obtain ⟨hargs, rfl, rfl⟩ := trodAll_nil hA
  obtain rfl : args = #[] := by cases args; simp_all
  obtain ⟨rfl, rfl⟩ := trodVars_none hV
  clear hA0 hval0
  refine (walk  W ).mono fun e W' ⟨he, hg⟩ => ?_
  subst he
  exact ⟨_, rfl, Cl.post_below (pv := []) hW' (fun _ _ _ => (trodAll_cons_mk (shut_bool Try.underlying4 _) trodAll_mk0)) (fun sp hsp => rfl) (fun _ _ => rfl) rfl
    hg (ok_one (by kernel_rfl) rfl (okWide_bool_mk Try.underlying4 _))⟩

theorem over : Rows.packKnownRow.holds Try.pinned (OpenSpec.ofChange Rows.packKnownSpec) :=
  OpenClaim.holds_of_wide 4 Try.f4 rfl rfl rfl rfl rfl rfl rfl ⟨rfl, rfl, rfl, rfl, rfl⟩ rfl rfl rfl rfl rfl (by kernel_rfl) Try.func4 (by kernel_rfl)
    (of_decide_eq_true (by kernel_rfl)) (by unfold Func.isWrapper; first | (rw [if_pos (by decide +kernel)]; kernel_rfl) | (rw [if_neg (by decide +kernel)]; exact ⟨rfl, rfl⟩))
    (fun os started H enc _ => lifted os started H enc)

/-- THE STATEMENT -/
theorem proved : Rows.PackKnownSaid := over
end Go.Proofs.Ytoogdhnkihdkgaa.packKnown
