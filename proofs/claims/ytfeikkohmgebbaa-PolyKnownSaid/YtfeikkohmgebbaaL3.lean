/- Statement PolyKnown: the law returns true. -/
import Derived.Test.YtfeikkohmgebbaaAw
import Derived.Test.YtfeikkohmgebbaaSq
namespace Go.Proofs.Ytfeikkohmgebbaa
open Go.RowKit Go.Gf
attribute [local go_sem ↓] exec_load_tb Cl.quiet_since
attribute [local go_sem] tbAt_ptr tbIn_ptr

/-- noughts but for place i -/
def lone (n i : Nat) : List Nat := (List.replicate n 0).set i 1
theorem lone_len (n i : Nat) : (lone n i).length = n := by simp [lone]
theorem lone_bd (n i : Nat) : ∀ x ∈ lone n i, x < 1024 := by
  intro x hx
  rcases List.mem_or_eq_of_mem_set hx with h | h
  · rw [(List.mem_replicate.1 h).2]; decide
  · rw [h]; decide
theorem lone_tr (n : Nat) (h : 0 < n) : tr (lone n (n - 1)) = lone n (n - 1) := by
  refine tr_of (lone_bd _ _) fun _ => ?_
  rw [lone_len, at_get (by rw [lone_len]; omega)]
  simp [lone]
theorem long_obj (n i : Nat) : Obj.cells ((madeCells #[.int .u16 0] n).setIfInBounds i (.int .u16 1)) 23 = .cells ((lone n i).map uv).toArray 23 := by
  rw [made_uv]
  simp only [lone, List.map_set, List.map_replicate, uv]
  rw [← List.setIfInBounds_toArray]
  rfl

set_option maxRecDepth 20000 in
set_option maxHeartbeats 8000000 in
theorem known_core (w : World) (n m : Nat) (hn : Hid (n = 3000)) (hm : Hid (m = 1097)) (n1 : (2999 : Int) < (n : Int)) (m1 : (1096 : Int) < (m : Int))
    (hmk1 : ∀ w, (Instr.makeSlice 22 (.int .i64 3000) (.int .i64 3000)).run Try.prog w = .ok (.slice (some ⟨w.heap.size, 0, none⟩) n n) (w.alloc (.cells (madeCells #[.int .u16 0] n) 23)))
    (hmk2 : ∀ w, (Instr.makeSlice 22 (.int .i64 1097) (.int .i64 1097)).run Try.prog w = .ok (.slice (some ⟨w.heap.size, 0, none⟩) m m) (w.alloc (.cells (madeCells #[.int .u16 0] m) 23)))
    (hc1 : ∀ w : World, (w.alloc (.cells (madeCells #[.int .u16 0] n) 23)).cell? ⟨w.heap.size, 2999, none⟩ = some (.int .u16 0)) (hf1 : ∀ w : World, (w.alloc (.cells (madeCells #[.int .u16 0] n) 23)).frozen? ⟨w.heap.size, 2999, none⟩ = false)
    (hc2 : ∀ (w : World) (g : Nat), w.heap.size = g → (w.alloc (.cells (madeCells #[.int .u16 0] m) 23)).cell? ⟨g, 1096, none⟩ = some (.int .u16 0)) (hf2 : ∀ (w : World) (g : Nat), w.heap.size = g → (w.alloc (.cells (madeCells #[.int .u16 0] m) 23)).frozen? ⟨g, 1096, none⟩ = false)
    (hl1 : Hid (∀ x ∈ lone n 2999, x < 65536)) (hl2 : Hid (∀ x ∈ lone m 1096, x < 65536))
    (k1 : Hid (decide (tr [0, 1024] ≠ []) = false)) (k2 : Hid (decide (tr [1, 1] ≠ []) = true)) (k3 : Hid (qq [5] [1, 1] = [])) (k4 : Hid (rr [5] [1, 1] = [5]))
    (hl3 : Hid ((lone n 2999).length ≤ 1000000)) (hl4 : Hid ((lone m 1096).length ≤ 1000000)) (k5 : Hid (pmul (lone n 2999) (lone n 2999) = [])) (k6 : (((pmul (lone n 2999) (lone m 1096)).length : Int) == 4096) = true) (k7 : Hid (padd [7, 3] [7, 3, 0] = []))
    (k8 : Hid (slope [9, 8, 7, 6] = [8, 0, 6])) (k9 : Hid (ev ((5 : Int).toNat % 1024) [] = 0)) (k10 : Hid (ev ((0 : Int).toNat % 1024) [4, 9] = 4)) (k11 : Hid (tr [0, 1024] = [])) :
    Calls Try.prog 5 #[] w (Leaves w (.bool true)) := by
  have hz := zero27
  go_enter Try.func5, Try.ntmps5
  go_wp2_with fail
  have hW : Hid (Below w.heap.size w w) := Lib.hid (Below.refl _ _)
  have hc := awake_any w
  replace hc := Lib.hid hc
  refine hc.out.mono ?_
  rintro e w1 ⟨rfl, hb⟩
  clear hc
  have hW := Lib.hid (hW.out.trans (hb.mono hW.out.size))
  clear hb
  go_wp2_with fail
  refine (make_any _).mono ?_
  rintro e w2 ⟨cs, rfl, hl, hb⟩
  have hb0 := hW.out.trans (hb.mono hW.out.size)
  clear hb hW
  go_wp2_with (refine wpList_store_row rfl 28 _ _ rfl w2.heap.size (cells cs) rfl rfl 28 (cells ZT) (heap_alloc_new w2 _) (rsize hl) (zsize hl) (cells_one cs) ?_)
  have hS := St.start (cs := cs) hb0 (cells ZT)
  have hb : Below w2.heap.size w2 ((w2.alloc (Obj.cells (cells ZT) 28)).setRow w2.heap.size (cells cs)) := below_setRow ((Below.refl _ _).alloc (Nat.le_refl _) _) (Nat.le_refl _) _
  clear hb0 hb
  generalize hg : w2.heap.size = g at hS ⊢
  skip
  have hgz : ((w2.alloc (Obj.cells (cells ZT) 28)).setRow g (cells cs)).heap.size = g + 1 := by simp [World.setRow, hg]
  generalize (w2.alloc (Obj.cells (cells ZT) 28)).setRow g (cells cs) = w3 at *
  clear hg hz
  have hi := hS.is hl.1
  have ho := hS.of
  go_wp2_with fail
  have ha := (sl_new w3 (.cells #[.int .u16 1, .int .u16 2] 23) [1, 2] (g + 1) hgz rfl (by decide)).far (below_alloc (w3.alloc (.cells #[.int .u16 1, .int .u16 2] 23)) (.cells #[.int .u16 0, .int .u16 1024] 23))
  have hb := sl_new (w3.alloc (.cells #[.int .u16 1, .int .u16 2] 23)) (.cells #[.int .u16 0, .int .u16 1024] 23) [0, 1024] (g + 1 + 1) (by simp [hgz]) rfl (by decide)
  have hb := (below_alloc w3 (.cells #[.int .u16 1, .int .u16 2] 23)).trans ((below_alloc (w3.alloc (.cells #[.int .u16 1, .int .u16 2] 23)) (.cells #[.int .u16 0, .int .u16 1024] 23)).mono (below_alloc w3 (.cells #[.int .u16 1, .int .u16 2] 23)).size)
  have hS := hS.next hb
  have hi := hS.is hl.1
  have ho := hS.of
  clear hb
  replace ha := Lib.hid ha
  replace hb := Lib.hid hb
  generalize ((w3.alloc (.cells #[.int .u16 1, .int .u16 2] 23)).alloc (.cells #[.int .u16 0, .int .u16 1024] 23)) = w4 at *
  clear hgz
  have hc := row_div (ok := false) (ca := 2) (cb := 2) hl ha.out hb.out (by decide) (by decide) (by decide) k1.out
  replace hc := Lib.hid hc
  clear ha
  clear hb
  refine hc.out.mono ?_
  rintro e w5 ⟨A1, c1, A2, c2, rfl, _, _, _, _, hb⟩
  clear hc
  have hS := hS.next hb
  have hi := hS.is hl.1
  have ho := hS.of
  clear hb
  go_wp2_with fail
  have ha := (sl_new w5 (.cells #[.int .u16 5] 23) [5] (w5.heap.size) rfl rfl (by decide)).far (below_alloc (w5.alloc (.cells #[.int .u16 5] 23)) (.cells #[.int .u16 1, .int .u16 1] 23))
  have hb := sl_new (w5.alloc (.cells #[.int .u16 5] 23)) (.cells #[.int .u16 1, .int .u16 1] 23) [1, 1] (w5.heap.size + 1) (by simp) rfl (by decide)
  have hb := (below_alloc w5 (.cells #[.int .u16 5] 23)).trans ((below_alloc (w5.alloc (.cells #[.int .u16 5] 23)) (.cells #[.int .u16 1, .int .u16 1] 23)).mono (below_alloc w5 (.cells #[.int .u16 5] 23)).size)
  have hS := hS.next hb
  have hi := hS.is hl.1
  have ho := hS.of
  clear hb
  replace ha := Lib.hid ha
  replace hb := Lib.hid hb
  generalize ((w5.alloc (.cells #[.int .u16 5] 23)).alloc (.cells #[.int .u16 1, .int .u16 1] 23)) = w6 at *
  have hc := row_div (ok := true) (ca := 1) (cb := 2) hl ha.out hb.out (by decide) (by decide) (by decide) k2.out
  rw [k3.out] at hc
  rw [k4.out] at hc
  replace hc := Lib.hid hc
  clear ha
  clear hb
  refine hc.out.mono ?_
  rintro e w7 ⟨A3, c3, A4, c4, rfl, _, _, _, hr, hb⟩
  clear hc
  have hS := hS.next hb
  have hi := hS.is hl.1
  have ho := hS.of
  clear hb
  replace hr := Lib.hid hr
  go_wp2_with fail
  have hsl := (sl_new w7 (.cells ((madeCells #[.int .u16 0] n).setIfInBounds 2999 (.int .u16 1)) 23) (lone n 2999) w7.heap.size rfl (long_obj n 2999) hl1.out).far (below_alloc (w7.alloc (.cells ((madeCells #[.int .u16 0] n).setIfInBounds 2999 (.int .u16 1)) 23)) (.cells ((madeCells #[.int .u16 0] m).setIfInBounds 1096 (.int .u16 1)) 23))
  have hsu := sl_new (w7.alloc (.cells ((madeCells #[.int .u16 0] n).setIfInBounds 2999 (.int .u16 1)) 23)) (.cells ((madeCells #[.int .u16 0] m).setIfInBounds 1096 (.int .u16 1)) 23) (lone m 1096) (w7.heap.size + 1) (by simp) (long_obj m 1096) hl2.out
  have hb := (below_alloc w7 (.cells ((madeCells #[.int .u16 0] n).setIfInBounds 2999 (.int .u16 1)) 23)).trans ((below_alloc (w7.alloc (.cells ((madeCells #[.int .u16 0] n).setIfInBounds 2999 (.int .u16 1)) 23)) (.cells ((madeCells #[.int .u16 0] m).setIfInBounds 1096 (.int .u16 1)) 23)).mono (below_alloc w7 (.cells ((madeCells #[.int .u16 0] n).setIfInBounds 2999 (.int .u16 1)) 23)).size)
  have zb : ((w7.alloc (.cells ((madeCells #[.int .u16 0] n).setIfInBounds 2999 (.int .u16 1)) 23)).alloc (.cells ((madeCells #[.int .u16 0] m).setIfInBounds 1096 (.int .u16 1)) 23)).heap.size = w7.heap.size + 1 + 1 := by simp
  have hS := hS.next hb
  have hi := hS.is hl.1
  have ho := hS.of
  replace hr := Lib.hid (hr.out.far hb)
  clear hb
  replace hsu := Lib.hid hsu
  replace hsl := Lib.hid hsl
  generalize ((w7.alloc (.cells ((madeCells #[.int .u16 0] n).setIfInBounds 2999 (.int .u16 1)) 23)).alloc (.cells ((madeCells #[.int .u16 0] m).setIfInBounds 1096 (.int .u16 1)) 23)) = w8 at *
  have ha := sl_new w8 (.cells #[.int .u16 5] 23) [5] (w7.heap.size + 1 + 1) zb rfl (by decide)
  have hb := below_alloc w8 (.cells #[.int .u16 5] 23)
  have hS := hS.next hb
  have hi := hS.is hl.1
  have ho := hS.of
  replace hr := Lib.hid (hr.out.far hb)
  replace hsu := Lib.hid (hsu.out.far hb)
  replace hsl := Lib.hid (hsl.out.far hb)
  clear hb
  replace ha := Lib.hid ha
  generalize (w8.alloc (.cells #[.int .u16 5] 23)) = w9 at *
  clear zb
  have hc := val_same (ca := c4) (cb := 1) (b := true) hr.out ha.out (by decide) (by decide) (decide_eq_true rfl)
  replace hc := Lib.hid hc
  clear hr
  clear ha
  refine hc.out.mono ?_
  rintro e w10 ⟨rfl, hb⟩
  clear hc
  have hS := hS.next hb
  have hi := hS.is hl.1
  have ho := hS.of
  replace hsu := Lib.hid (hsu.out.far hb)
  replace hsl := Lib.hid (hsl.out.far hb)
  clear hb
  go_wp2_with fail
  have hc := row_mul (ca := n) (cb := n) hl hsl.out hsl.out hl3.out hl3.out (by rw [lone_len]; exact Nat.le_refl _) (by rw [lone_len]; exact Nat.le_refl _)
  rw [k5.out] at hc
  rw [lone_len] at hc
  replace hc := Lib.hid hc
  refine hc.out.mono ?_
  rintro e w11 ⟨Ap, rfl, hp, hb⟩
  clear hc
  have hS := hS.next hb
  have hi := hS.is hl.1
  have ho := hS.of
  replace hsu := Lib.hid (hsu.out.far hb)
  replace hsl := Lib.hid (hsl.out.far hb)
  clear hb
  replace hp := Lib.hid hp
  go_wp2_with fail
  clear hp
  have hc := row_mul (ca := n) (cb := m) hl hsl.out hsu.out hl3.out hl4.out (by rw [lone_len]; exact Nat.le_refl _) (by rw [lone_len]; exact Nat.le_refl _)
  rw [lone_len] at hc
  rw [lone_len] at hc
  replace hc := Lib.hid hc
  clear hsl
  clear hsu
  refine hc.out.mono ?_
  rintro e w12 ⟨Ap, rfl, hp, hb⟩
  clear hc
  have hS := hS.next hb
  have hi := hS.is hl.1
  have ho := hS.of
  clear hb
  replace hp := Lib.hid hp
  go_wp2_with fail
  clear hp
  have ha := (sl_new w12 (.cells #[.int .u16 7, .int .u16 3] 23) [7, 3] (w12.heap.size) rfl rfl (by decide)).far (below_alloc (w12.alloc (.cells #[.int .u16 7, .int .u16 3] 23)) (.cells #[.int .u16 7, .int .u16 3, .int .u16 0] 23))
  have hb := sl_new (w12.alloc (.cells #[.int .u16 7, .int .u16 3] 23)) (.cells #[.int .u16 7, .int .u16 3, .int .u16 0] 23) [7, 3, 0] (w12.heap.size + 1) (by simp) rfl (by decide)
  have hb := (below_alloc w12 (.cells #[.int .u16 7, .int .u16 3] 23)).trans ((below_alloc (w12.alloc (.cells #[.int .u16 7, .int .u16 3] 23)) (.cells #[.int .u16 7, .int .u16 3, .int .u16 0] 23)).mono (below_alloc w12 (.cells #[.int .u16 7, .int .u16 3] 23)).size)
  have hS := hS.next hb
  have hi := hS.is hl.1
  have ho := hS.of
  clear hb
  replace ha := Lib.hid ha
  replace hb := Lib.hid hb
  generalize ((w12.alloc (.cells #[.int .u16 7, .int .u16 3] 23)).alloc (.cells #[.int .u16 7, .int .u16 3, .int .u16 0] 23)) = w13 at *
  have hc := row_add (ca := 2) (cb := 3) ha.out hb.out (by decide) (by decide)
  rw [k7.out] at hc
  replace hc := Lib.hid hc
  clear ha
  clear hb
  refine hc.out.mono ?_
  rintro e w14 ⟨Ap, rfl, hp, hb⟩
  clear hc
  have hS := hS.next hb
  have hi := hS.is hl.1
  have ho := hS.of
  clear hb
  replace hp := Lib.hid hp
  go_wp2_with fail
  clear hp
  have ha := sl_new w14 (.cells #[.int .u16 9, .int .u16 8, .int .u16 7, .int .u16 6] 23) [9, 8, 7, 6] (w14.heap.size) rfl rfl (by decide)
  have hb := below_alloc w14 (.cells #[.int .u16 9, .int .u16 8, .int .u16 7, .int .u16 6] 23)
  have hS := hS.next hb
  have hi := hS.is hl.1
  have ho := hS.of
  clear hb
  replace ha := Lib.hid ha
  generalize (w14.alloc (.cells #[.int .u16 9, .int .u16 8, .int .u16 7, .int .u16 6] 23)) = w15 at *
  have hc := row_slope (ca := 4) ha.out (by decide)
  rw [k8.out] at hc
  replace hc := Lib.hid hc
  clear ha
  refine hc.out.mono ?_
  rintro e w16 ⟨Ap, rfl, hp, hb⟩
  clear hc
  have hS := hS.next hb
  have hi := hS.is hl.1
  have ho := hS.of
  clear hb
  replace hp := Lib.hid hp
  go_wp2_with fail
  have ha := sl_new w16 (.cells #[.int .u16 8, .int .u16 0, .int .u16 6] 23) [8, 0, 6] (w16.heap.size) rfl rfl (by decide)
  have hb := below_alloc w16 (.cells #[.int .u16 8, .int .u16 0, .int .u16 6] 23)
  have hS := hS.next hb
  have hi := hS.is hl.1
  have ho := hS.of
  replace hp := Lib.hid (hp.out.far hb)
  clear hb
  replace ha := Lib.hid ha
  generalize (w16.alloc (.cells #[.int .u16 8, .int .u16 0, .int .u16 6] 23)) = w17 at *
  have hc := val_same (ca := ([8, 0, 6]).length) (cb := 3) (b := true) hp.out ha.out (by decide) (by decide) (decide_eq_true rfl)
  replace hc := Lib.hid hc
  clear hp
  clear ha
  refine hc.out.mono ?_
  rintro e w18 ⟨rfl, hb⟩
  clear hc
  have hS := hS.next hb
  have hi := hS.is hl.1
  have ho := hS.of
  clear hb
  go_wp2_with fail
  have hc := val_at (A := none) (xs := []) (ca := 0) (x := 5) hl (Sl.nil w18 _ _) (by decide) (by decide) (by decide)
  rw [k9.out] at hc
  replace hc := Lib.hid hc
  refine hc.out.mono ?_
  rintro e w19 ⟨rfl, hb⟩
  clear hc
  have hS := hS.next hb
  have hi := hS.is hl.1
  have ho := hS.of
  clear hb
  go_wp2_with fail
  have ha := sl_new w19 (.cells #[.int .u16 4, .int .u16 9] 23) [4, 9] (w19.heap.size) rfl rfl (by decide)
  have hb := below_alloc w19 (.cells #[.int .u16 4, .int .u16 9] 23)
  have hS := hS.next hb
  have hi := hS.is hl.1
  have ho := hS.of
  clear hb
  replace ha := Lib.hid ha
  generalize (w19.alloc (.cells #[.int .u16 4, .int .u16 9] 23)) = w20 at *
  have hc := val_at (ca := 2) (x := 0) hl ha.out (by decide) (by decide) (by decide)
  rw [k10.out] at hc
  replace hc := Lib.hid hc
  clear ha
  refine hc.out.mono ?_
  rintro e w21 ⟨rfl, hb⟩
  clear hc
  have hS := hS.next hb
  have hi := hS.is hl.1
  have ho := hS.of
  clear hb
  go_wp2_with fail
  have ha := sl_new w21 (.cells #[.int .u16 0, .int .u16 1024] 23) [0, 1024] (w21.heap.size) rfl rfl (by decide)
  have hb := below_alloc w21 (.cells #[.int .u16 0, .int .u16 1024] 23)
  have hS := hS.next hb
  have hi := hS.is hl.1
  have ho := hS.of
  clear hb
  replace ha := Lib.hid ha
  generalize (w21.alloc (.cells #[.int .u16 0, .int .u16 1024] 23)) = w22 at *
  have hc := row_trim (ca := 2) ha.out (by decide)
  rw [k11.out] at hc
  replace hc := Lib.hid hc
  clear ha
  refine hc.out.mono ?_
  rintro e w23 ⟨Ap, rfl, hp, hb⟩
  clear hc
  have hS := hS.next hb
  have hi := hS.is hl.1
  have ho := hS.of
  clear hb
  replace hp := Lib.hid hp
  go_wp2_with fail
  go_ret
  exact ⟨rfl, hS.below⟩

theorem known_law (w : World) : Calls Try.prog 5 #[] w (Leaves w (.bool true)) := by
  obtain ⟨n, hn⟩ : ∃ n, n = 3000 := ⟨_, rfl⟩
  obtain ⟨m, hm⟩ : ∃ m, m = 1097 := ⟨_, rfl⟩
  have e1 : tr (lone n 2999) = lone n 2999 := by
    have := lone_tr n (by omega)
    rwa [show n - 1 = 2999 by omega] at this
  have e2 : tr (lone m 1096) = lone m 1096 := by
    have := lone_tr m (by omega)
    rwa [show m - 1 = 1096 by omega] at this
  have f1 := lone_len n 2999
  have f2 := lone_len m 1096
  have q1 := run_make_row' (P := Try.prog) 22 23 (.int .u16 0) 2 Try.underlying22 info22 rfl .i64 .i64 n (by omega) (by omega)
  have q2 := run_make_row' (P := Try.prog) 22 23 (.int .u16 0) 2 Try.underlying22 info22 rfl .i64 .i64 m (by omega) (by omega)
  rw [show ((n : Nat) : Int) = 3000 by omega] at q1
  rw [show ((m : Nat) : Int) = 1097 by omega] at q2
  refine known_core w n m (Lib.hid hn) (Lib.hid hm) (by omega) (by omega) q1 q2 ?_ ?_ ?_ ?_ (Lib.hid fun x hx => by have := lone_bd _ _ x hx; omega) (Lib.hid fun x hx => by have := lone_bd _ _ x hx; omega)
    (Lib.hid (by decide +kernel)) (Lib.hid (by decide +kernel)) (Lib.hid (by decide +kernel)) (Lib.hid (by decide +kernel)) (Lib.hid (by omega)) (Lib.hid (by omega)) (Lib.hid ?_) ?_ (Lib.hid (by decide +kernel)) (Lib.hid (by decide +kernel)) (Lib.hid (by decide +kernel)) (Lib.hid (by decide +kernel)) (Lib.hid (by decide +kernel))
  · intro w
    have h := (Arr.new w (List.replicate n 0)).cell (i := 2999) (by simp; omega)
    rw [made_uv]
    simpa using h
  · intro w
    have h := (Arr.new w (List.replicate n 0)).frozen 2999
    rw [made_uv]
    exact h
  · intro w g hg
    subst hg
    have h := (Arr.new w (List.replicate m 0)).cell (i := 1096) (by simp; omega)
    rw [made_uv]
    simpa using h
  · intro w g hg
    subst hg
    have h := (Arr.new w (List.replicate m 0)).frozen 1096
    rw [made_uv]
    exact h
  · unfold pmul
    rw [if_pos]
    rw [e1, f1]; omega
  · have hne1 : tr (lone n 2999) ≠ [] := by rw [e1]; intro h; rw [h] at f1; simp at f1; omega
    have hne2 : tr (lone m 1096) ≠ [] := by rw [e2]; intro h; rw [h] at f2; simp at f2; omega
    have := pmul_len (p := lone n 2999) (q := lone m 1096) (by rw [e1, e2, f1, f2]; omega) hne1 hne2
    rw [e1, e2, f1, f2] at this
    rw [this, beq_iff_eq]; omega
end Go.Proofs.Ytfeikkohmgebbaa
namespace Go.Proofs.Ytfeikkohmgebbaa.polyKnown
open Go.ChangeShapes Go.WideShapes Go.ChangeAt Go.RowKit Go.Gf
set_option linter.unusedVariables false

theorem own : ownKnob Try.prog.godebug = none := by kernel_rfl

theorem walk  (w : World)  :
    Calls Try.prog 5 #[] w fun e w' => e = .returned (.bool true) ∧ Below w.heap.size w w' := known_law  w 

set_option maxRecDepth 100000 in
theorem lifted (os : Os) (started : os.Started) (H : Type) (enc : TypeId × Value → H) :
    ReturnsInHanded {} Try.checked os 5 .any (Rows.polyKnownSpec.pre6 enc Try.prog Try.f5 Rows.polyKnownRow.domain false) (Rows.polyKnownSpec.post enc Try.prog Try.f5 false true false false) := by
  refine returnsInHanded_of_change (C := Try.checked) own started (by kernel_rfl) Try.func5
    (ChangeSpec.witness6 (enc := enc) (C := Try.checked) false ⟨#[], #[], []⟩ 8 (by kernel_rfl) (by kernel_rfl) (by kernel_rfl) (by kernel_rfl)) ?_
  intro W base args ds gs before hval0 hW hcnd _
  have hval : ∀ (j : Nat) t v, Try.f5.params[j]? = some t → args[j]? = some v → Value.okWide Try.prog W .any base t v := hval0
  have hW' := hW
  obtain ⟨p, q, hA0, hV, rfl, hfz, hnd⟩ := hW
  have hA : DataW.TrodAll enc Try.prog W 0 (fun _ => true) true Try.f5.params.toList args.toList ds p := hA0
  rw [Try.params5] at hA hval
  obtain ⟨hargs, rfl, rfl⟩ := trodAll_nil hA
  obtain rfl : args = #[] := by cases args; simp_all
  obtain ⟨rfl, rfl⟩ := trodVars_none hV
  clear hA0 hval0
  refine (walk  W ).mono fun e W' ⟨he, hg⟩ => ?_
  subst he
  exact ⟨_, rfl, Cl.post_below (pv := []) hW' (fun _ _ _ => (trodAll_cons_mk (shut_bool Try.underlying4 _) trodAll_mk0)) (fun sp hsp => rfl) (fun _ _ => rfl) rfl
    hg (ok_one (by kernel_rfl) rfl (okWide_bool_mk Try.underlying4 _))⟩

theorem over : Rows.polyKnownRow.holds Try.pinned (OpenSpec.ofChange Rows.polyKnownSpec) :=
  OpenClaim.holds_of_wide 5 Try.f5 rfl rfl rfl rfl rfl rfl rfl ⟨rfl, rfl, rfl, rfl, rfl⟩ rfl rfl rfl rfl rfl (by kernel_rfl) Try.func5 (by kernel_rfl)
    (of_decide_eq_true (by kernel_rfl)) (by unfold Func.isWrapper; first | (rw [if_pos (by decide +kernel)]; kernel_rfl) | (rw [if_neg (by decide +kernel)]; exact ⟨rfl, rfl⟩))
    (fun os started H enc _ => lifted os started H enc)

/-- THE STATEMENT -/
theorem proved : Rows.PolyKnownSaid := over
end Go.Proofs.Ytfeikkohmgebbaa.polyKnown
