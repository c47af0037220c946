/- Statement WeaveKnown: the law returns true. -/
import Derived.Test.YtpanmjohmgjigaaVj
namespace Go.Proofs.Ytpanmjohmgjigaa
open Go.RowKit Go.Gf

theorem sw_one (w : World) (o1 o2 : Obj) (xs : List Nat) (n : Nat) (hn : xs.length = n) (h1 : o1 = .cells (xs.map uv).toArray 37) (h2 : o2 = .cells #[.slice (some ⟨w.heap.size, 0, none⟩) n n] 23) (hx : ∀ x ∈ xs, x < 65536) :
    Sw ((w.alloc o1).alloc o2) ((w.alloc o1).alloc o2).heap.size (some ⟨w.heap.size + 1, 0, none⟩) [xs] ∧ Below w.heap.size w ((w.alloc o1).alloc o2) := by
  subst hn
  have s1 := sl_new w o1 xs w.heap.size rfl h1 hx
  have b1 := below_alloc w o1
  exact ⟨sw_new (w.alloc o1) o2 (w.heap.size + 1) [(some ⟨w.heap.size, 0, none⟩, xs.length, xs)] (World.size_alloc _ _) h2 (by
    intro v hv
    simp only [List.mem_cons, List.not_mem_nil, or_false] at hv
    subst hv
    exact ⟨Nat.le_refl _, s1⟩), b1.trans ((below_alloc _ _).mono b1.size)⟩
theorem sw_two (w : World) (o1 o2 o3 : Obj) (xs ys : List Nat) (n m : Nat) (hn : xs.length = n) (hm : ys.length = m) (h1 : o1 = .cells (xs.map uv).toArray 37) (h2 : o2 = .cells (ys.map uv).toArray 37)
    (h3 : o3 = .cells #[.slice (some ⟨w.heap.size, 0, none⟩) n n, .slice (some ⟨w.heap.size + 1, 0, none⟩) m m] 23) (hx : ∀ x ∈ xs, x < 65536) (hy : ∀ x ∈ ys, x < 65536) :
    Sw (((w.alloc o1).alloc o2).alloc o3) (((w.alloc o1).alloc o2).alloc o3).heap.size (some ⟨w.heap.size + 1 + 1, 0, none⟩) [xs, ys] ∧ Below w.heap.size w (((w.alloc o1).alloc o2).alloc o3) := by
  subst hn hm
  have s1 := sl_new w o1 xs w.heap.size rfl h1 hx
  have b1 := below_alloc w o1
  have s2 := sl_new (w.alloc o1) o2 ys (w.heap.size + 1) (World.size_alloc _ _) h2 hy
  have b2 := below_alloc (w.alloc o1) o2
  have b12 := b1.trans (b2.mono b1.size)
  exact ⟨sw_new ((w.alloc o1).alloc o2) o3 (w.heap.size + 1 + 1) [(some ⟨w.heap.size, 0, none⟩, xs.length, xs), (some ⟨w.heap.size + 1, 0, none⟩, ys.length, ys)] (by rw [World.size_alloc, World.size_alloc]) h3 (by
    intro v hv
    simp only [List.mem_cons, List.not_mem_nil, or_false] at hv
    rcases hv with rfl | rfl
    · exact ⟨Nat.le_refl _, s1.far b2⟩
    · exact ⟨Nat.le_refl _, s2⟩), b12.trans ((below_alloc _ _).mono b12.size)⟩
theorem sw_nils (w : World) (o : Obj) (n : Nat) (h : o = .cells (madeCells #[.slice none 0 0] n) 23) : Sw (w.alloc o) (w.alloc o).heap.size (some ⟨w.heap.size, 0, none⟩) ((List.range n).map fun _ => []) ∧ Below w.heap.size w (w.alloc o) := by
  subst h
  exact ⟨(OwnW.start w n).sw, below_alloc _ _⟩
set_option maxHeartbeats 4000000 in
theorem wknown_law (w : World) : Calls Try.prog 5 #[] w (Tells w (.bool true)) := by
  have haw := Lib.hid (wawake_any w)
  have hB1 := Lib.hid (fun w => burst_lit (W := 4) (f := 3) (n := 5) (r := 2) (w := w) (by decide) (by decide +kernel))
  have hB2 := Lib.hid (fun w => burst_lit (W := 4) (f := 3) (n := 0) (r := 0) (w := w) (by decide) (by decide +kernel))
  have hB3 := Lib.hid (fun w => burst_lit (W := 1) (f := 9) (n := 7) (r := 7) (w := w) (by decide) (by decide +kernel))
  have hmk : ∀ w, (Instr.makeSlice 22 (.int .i64 5) (.int .i64 5)).run Try.prog w = .ok (.slice (some ⟨w.heap.size, 0, none⟩) 5 5) (w.alloc (.cells (madeCells #[.slice none 0 0] 5) 23)) :=
    run_make_row' (P := Try.prog) 22 23 (.slice none 0 0) 24 Try.underlying22 info23w rfl .i64 .i64 5 (by omega) (by omega)
  go_enter Try.func5, Try.ntmps5
  go_wp2_with fail
  refine haw.out.mono ?_
  rintro e w1 ⟨rfl, hb⟩
  have hb1 := Lib.hid hb
  clear hb haw
  go_wp2_with fail
  have hc := Lib.hid (out_lit (W := 0) (n := 0) (A := none) (c := 0) (ws := []) (ys := []) (e := 1) (Sw.nil w1 _ _) rfl (by decide) (by decide) (by decide +kernel) (by decide +kernel))
  refine hc.out.mono ?_
  rintro e w2 ⟨v1, rfl, _, hb⟩
  have hb2 := Lib.hid (hb1.out.trans (hb.mono hb1.out.size))
  clear hb hb1 hc
  go_wp2_with fail
  have hs := sw_one w2 (.cells #[.int .u16 1] 37) (.cells #[.slice (some ⟨w2.heap.size, 0, none⟩) 1 1] 23) [1] 1 rfl rfl rfl (by decide)
  have hb2a := Lib.hid (hb2.out.trans (hs.2.mono hb2.out.size))
  have hc := Lib.hid (out_lit (W := 2) (n := 1) (c := 1) (ws := [[1]]) (ys := []) (e := 1) hs.1 rfl (by decide) (by decide) (by decide +kernel) (by decide +kernel))
  refine hc.out.mono ?_
  rintro e w3 ⟨v2, rfl, _, hb⟩
  have hb3 := Lib.hid (hb2a.out.trans (hb.mono hb2a.out.size))
  clear hb hb2 hb2a hc hs
  go_wp2_with fail
  have hs := sw_two w3 (.cells #[.int .u16 1] 37) (.cells #[.int .u16 1, .int .u16 2] 37) (.cells #[.slice (some ⟨w3.heap.size, 0, none⟩) 1 1, .slice (some ⟨w3.heap.size + 1, 0, none⟩) 2 2] 23) [1] [1, 2] 1 2 rfl rfl rfl rfl rfl (by decide) (by decide)
  have hb3a := Lib.hid (hb3.out.trans (hs.2.mono hb3.out.size))
  have hc := Lib.hid (out_lit (W := 2) (n := 2) (c := 2) (ws := [[1], [1, 2]]) (ys := []) (e := 3) hs.1 rfl (by decide) (by decide) (by decide +kernel) (by decide +kernel))
  refine hc.out.mono ?_
  rintro e w4 ⟨v3, rfl, _, hb⟩
  have hb4 := Lib.hid (hb3a.out.trans (hb.mono hb3a.out.size))
  clear hb hb3 hb3a hc hs
  go_wp2_with fail
  have hs := sw_one w4 (.cells #[] 37) (.cells #[.slice (some ⟨w4.heap.size, 0, none⟩) 0 0] 23) [] 0 rfl rfl rfl (by decide)
  have hb4a := Lib.hid (hb4.out.trans (hs.2.mono hb4.out.size))
  have hc := Lib.hid (out_lit (W := 1) (n := 1) (c := 1) (ws := [[]]) (ys := []) (e := 3) hs.1 rfl (by decide) (by decide) (by decide +kernel) (by decide +kernel))
  refine hc.out.mono ?_
  rintro e w5 ⟨v4, rfl, _, hb⟩
  have hb5 := Lib.hid (hb4a.out.trans (hb.mono hb4a.out.size))
  clear hb hb4 hb4a hc hs
  go_wp2_with fail
  have hs := sw_nils w5 _ 5 rfl
  have hb5a := Lib.hid (hb5.out.trans (hs.2.mono hb5.out.size))
  have hc := Lib.hid (out_lit (W := 5) (n := 5) (c := 5) (ws := [[], [], [], [], []]) (ys := []) (e := 1) hs.1 rfl (by decide) (by decide) (by decide +kernel) (by decide +kernel))
  refine hc.out.mono ?_
  rintro e w6 ⟨v5, rfl, _, hb⟩
  have hb6 := Lib.hid (hb5a.out.trans (hb.mono hb5a.out.size))
  clear hb hb5 hb5a hc hs hmk
  go_wp2_with fail
  have hs := sl_new w6 (.cells #[.int .u16 1, .int .u16 2, .int .u16 3] 37) [1, 2, 3] w6.heap.size rfl rfl (by decide)
  have hb6a := Lib.hid (hb6.out.trans ((below_alloc w6 (.cells #[.int .u16 1, .int .u16 2, .int .u16 3] 37)).mono hb6.out.size))
  have hc := Lib.hid (in_lit (W := 2) (n := 3) (c := 3) (ys := []) (e := 3) hs rfl (by decide) (by decide +kernel) (by decide +kernel))
  refine hc.out.mono ?_
  intro e w7 hr
  obtain ⟨A7, c7, rfl, _, _, hb⟩ := hr.sw
  have hb7 := Lib.hid (hb6a.out.trans (hb.mono hb6a.out.size))
  clear hb hb6 hb6a hc hs hr
  go_wp2_with fail
  have hc := Lib.hid (in_lit (W := 2) (n := 0) (A := none) (c := 0) (xs := []) (ys := []) (e := 3) (Sl.nil w7 _ _) rfl (by decide) (by decide +kernel) (by decide +kernel))
  refine hc.out.mono ?_
  intro e w8 hr
  obtain ⟨A8, c8, rfl, _, _, hb⟩ := hr.sw
  have hb8 := Lib.hid (hb7.out.trans (hb.mono hb7.out.size))
  clear hb hb7 hc hr
  go_wp2_with fail
  have hs := sl_new w8 (.cells #[.int .u16 1, .int .u16 2, .int .u16 3, .int .u16 4, .int .u16 5] 37) [1, 2, 3, 4, 5] w8.heap.size rfl rfl (by decide)
  have hb8a := Lib.hid (hb8.out.trans ((below_alloc w8 (.cells #[.int .u16 1, .int .u16 2, .int .u16 3, .int .u16 4, .int .u16 5] 37)).mono hb8.out.size))
  have hc := Lib.hid (in_lit (W := 5) (n := 5) (c := 5) (ys := []) (e := 1) hs rfl (by decide) (by decide +kernel) (by decide +kernel))
  refine hc.out.mono ?_
  intro e w9 hr
  obtain ⟨A9, c9, rfl, _, _, hb⟩ := hr.sw
  have hb9 := Lib.hid (hb8a.out.trans (hb.mono hb8a.out.size))
  clear hb hb8 hb8a hc hs hr
  go_wp2_with (first
    | (go_at_call 16; (with_reducible refine (hB1.out _).mono ?_); rintro e w10 ⟨rfl, rfl⟩)
    | (go_at_call 16; (with_reducible refine (hB2.out _).mono ?_); rintro e w11 ⟨rfl, rfl⟩)
    | (go_at_call 16; (with_reducible refine (hB3.out _).mono ?_); rintro e w12 ⟨rfl, rfl⟩))
  go_ret
  exact ⟨rfl, hb9.out⟩
end Go.Proofs.Ytpanmjohmgjigaa
namespace Go.Proofs.Ytpanmjohmgjigaa.weaveKnown
open Go.ChangeShapes Go.WideShapes Go.ChangeAt Go.RowKit Go.Gf
set_option linter.unusedVariables false

theorem own : ownKnob Try.prog.godebug = none := by kernel_rfl

theorem walk  (w : World)  :
    Calls Try.prog 5 #[] w fun e w' => e = .returned (.bool true) ∧ Below w.heap.size w w' := wknown_law  w 

set_option maxRecDepth 100000 in
theorem lifted (os : Os) (started : os.Started) (H : Type) (enc : TypeId × Value → H) :
    ReturnsInHanded {} Try.checked os 5 .any (Rows.weaveKnownSpec.pre6 enc Try.prog Try.f5 Rows.weaveKnownRow.domain false) (Rows.weaveKnownSpec.post enc Try.prog Try.f5 false true false false) := by
  refine returnsInHanded_of_change (C := Try.checked) own started (by kernel_rfl) Try.func5
    (ChangeSpec.witness6 (enc := enc) (C := Try.checked) false ⟨#[], #[], []⟩ 8 (by kernel_rfl) (by kernel_rfl) (by kernel_rfl) (by kernel_rfl)) ?_
  intro W base args ds gs before hval0 hW hcnd _
  have hval : ∀ (j : Nat) t v, Try.f5.params[j]? = some t → args[j]? = some v → Value.okWide Try.prog W .any base t v := hval0
  have hW' := hW
  obtain ⟨p, q, hA0, hV, rfl, hfz, hnd⟩ := hW
  have hA : DataW.TrodAll enc Try.prog W 0 (fun _ => true) true Try.f5.params.toList args.toList ds p := hA0
  rw [Try.params5] at hA hval
  obtain ⟨hargs, rfl, rfl⟩ := trodAll_nil hA
  obtain rfl : args = #[] := by cases args; simp_all
  obtain ⟨rfl, rfl⟩ := trodVars_none hV
  clear hA0 hval0
  refine (walk  W ).mono fun e W' ⟨he, hg⟩ => ?_
  subst he
  exact ⟨_, rfl, Cl.post_below (pv := []) hW' (fun _ _ _ => (trodAll_cons_mk (shut_bool Try.underlying4 _) trodAll_mk0)) (fun sp hsp => rfl) (fun _ _ => rfl) rfl
    hg (ok_one (by kernel_rfl) rfl (okWide_bool_mk Try.underlying4 _))⟩

theorem over : Rows.weaveKnownRow.holds Try.pinned (OpenSpec.ofChange Rows.weaveKnownSpec) :=
  OpenClaim.holds_of_wide 5 Try.f5 rfl rfl rfl rfl rfl rfl rfl ⟨rfl, rfl, rfl, rfl, rfl⟩ rfl rfl rfl rfl rfl (by kernel_rfl) Try.func5 (by kernel_rfl)
    (of_decide_eq_true (by kernel_rfl)) (by unfold Func.isWrapper; first | (rw [if_pos (by decide +kernel)]; kernel_rfl) | (rw [if_neg (by decide +kernel)]; exact ⟨rfl, rfl⟩))
    (fun os started H enc _ => lifted os started H enc)

/-- THE STATEMENT -/
theorem proved : Rows.WeaveKnownSaid := over
end Go.Proofs.Ytpanmjohmgjigaa.weaveKnown
