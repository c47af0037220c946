/- Cells by hand. -/
import Derived.Test.YtedpbidijgjkeaaYt
namespace Go.Proofs.Ytedpbidijgjkeaa
open Go.RowKit Go.Gf Go.Fl
set_option linter.unusedVariables false
set_option linter.unusedSimpArgs false

section
variable {w : World} {F : Nat → Prop} {p : Addr} {ps : List (Int × Int)} {ss : List Nat} {st : Int}
theorem c_progL (h : Page w F p ps ss 0) (hF : ∀ b, w.heap.size ≤ b → F b) (xs : List Nat) {n : Nat} (hn : xs.length = n) (hl : xs.length = ps.length) (hx : ∀ x ∈ xs, x < 1024) (hm : xs.length ≤ 65536) (keep : Int) (hk : -9223372036854775808 ≤ keep ∧ keep ≤ 9223372036854775807) :
    Calls Try.prog 9 #[.pointer (some p), .slice (some ⟨w.heap.size, 0, none⟩) n n, .int .i64 keep] (w.alloc (.cells (xs.map uv).toArray 27)) fun e w' => e = .returned (.int .i64 0) ∧ Cl.Keeps (fun b => ¬ F b) w w' ∧ ∃ ss', Page w' F p (progP ps xs keep) ss' (progS n keep) ∧ (0 < keep → ss' = xs) := by
  have hA := below_alloc' w (.cells (xs.map uv).toArray 27)
  have hs : (w.alloc (.cells (xs.map uv).toArray 27)).heap.size = w.heap.size + 1 := World.size_alloc _ _
  refine (c_prog ((h.only (F' := fun b => F b ∧ b ≠ w.heap.size) (fun b h1 h2 => ⟨h2, by omega⟩)).below hA) (fun b hb => ⟨hF b (by omega), by omega⟩) (c := n) hn (Nat.le_refl n) ((Arr.new w xs).sl (fun x hx' => Nat.lt_of_lt_of_le (hx x hx') (by decide))) (fun a e hf => ?_) hl hm hx keep hk).mono ?_
  · injection e with e
    subst e
    exact hf.2 rfl
  · rintro e w' ⟨rfl, hk', ss', hp, hss⟩
    refine ⟨rfl, ⟨hk'.os.trans hA.os, hk'.tape.trans hA.tape, hk'.output.trans hA.output, Nat.le_trans hA.size hk'.size, fun b hb hnf => (hk'.block b (Nat.lt_of_lt_of_le hb hA.size) (fun h => hnf h.1)).trans (hA.block b hb)⟩, ss', ?_, hss⟩
    rw [hn] at hp
    exact hp.only fun b _ h => h.1
theorem c_sizeL (h : Page w F p ps ss 0) (xs : List Nat) {n : Nat} {keep : Int} (hn : n ≠ ps.length) : Calls Try.prog 9 #[.pointer (some p), .slice (some ⟨w.heap.size, 0, none⟩) n n, .int .i64 keep] (w.alloc (.cells (xs.map uv).toArray 27)) (Ans w (.int .i64 3)) :=
  (c_size (h.below (below_alloc' w _)) hn).mono fun e w' h => ⟨h.1, (below_alloc' w _).trans (h.2.mono (below_alloc' w _).size)⟩
theorem c_argL (h : Page w F p ps ss 0) (xs : List Nat) {n : Nat} {keep : Int} (hn : xs.length = n) (hl : xs.length = ps.length) (hm : xs.length ≤ 65536) (hx6 : ∀ x ∈ xs, x < 65536) (hx : ∃ x ∈ xs, 1024 ≤ x) : Calls Try.prog 9 #[.pointer (some p), .slice (some ⟨w.heap.size, 0, none⟩) n n, .int .i64 keep] (w.alloc (.cells (xs.map uv).toArray 27)) (Ans w (.int .i64 1)) := by
  subst hn
  exact (c_arg (h.below (below_alloc' w _)) ((Arr.new w xs).sl hx6) hl hm hx).mono fun e w' h => ⟨h.1, (below_alloc' w _).trans (h.2.mono (below_alloc' w _).size)⟩
theorem c_orderL (h : Page w F p ps ss st) (hst : st ≠ 0) (xs : List Nat) {n : Nat} {keep : Int} : Calls Try.prog 9 #[.pointer (some p), .slice (some ⟨w.heap.size, 0, none⟩) n n, .int .i64 keep] (w.alloc (.cells (xs.map uv).toArray 27)) (Ans w (.int .i64 5)) :=
  (c_order (h.below (below_alloc' w _)) hst).mono fun e w' h => ⟨h.1, (below_alloc' w _).trans (h.2.mono (below_alloc' w _).size)⟩
end
/-- block g is as it was -/
structure Still (w0 w : World) (g : Nat) : Prop where
  eq : w.heap[g]? = w0.heap[g]?
  lt : g < w.heap.size
theorem Still.keeps {w0 w w' : World} {g : Nat} {F : Nat → Prop} (h : Still w0 w g) (hk : Cl.Keeps F w w') (hg : F g) : Still w0 w' g := ⟨(hk.block g h.lt hg).trans h.eq, Nat.lt_of_lt_of_le h.lt hk.size⟩
theorem Still.below {w0 w w' : World} {g : Nat} (h : Still w0 w g) (hb : Below w.heap.size w w') : Still w0 w' g := ⟨(hb.block g h.lt).trans h.eq, Nat.lt_of_lt_of_le h.lt hb.size⟩
theorem Still.cell {w0 w : World} {g i : Nat} {v : Value} (h : Still w0 w g) (hc : w0.cell? ⟨g, i, none⟩ = some v) : w.cell? ⟨g, i, none⟩ = some v := (World.cell?_of_block h.eq).trans hc
def farP (j : Nat) : List (Int × Int) := [(0, 0), (-31 + 62 * (j : Int), -27), (-31, -25)]
theorem far_mov (j : Nat) : movP (farP j) 1 62 0 = farP (j + 1) := by
  unfold movP farP ptAt
  simp
  omega
theorem far_ok (j : Nat) : movB (farP j) 1 1 62 0 = decide (j + 1 ≤ 16) := by
  unfold movB farP ptAt
  rw [decide_eq_decide]
  simp
  omega
theorem is_one' : Is 4607182418800017408 (((1 : Int) : Int) : Rat) := ⟨false, 4503599627370496, -52, by decide +kernel, by decide +kernel⟩
theorem is_m1 : Is 13830554455654793216 (((-1 : Int) : Int) : Rat) := ⟨true, 4503599627370496, -52, by decide +kernel, by decide +kernel⟩
theorem is_63 : Is 4634063279075885056 (((63 : Int) : Int) : Rat) := ⟨false, 8866461766385664, -47, by decide +kernel, by decide +kernel⟩
theorem is_half' : Is 4602678819172646912 (1 / 2) := ⟨false, 4503599627370496, -53, by decide +kernel, by decide +kernel⟩
theorem half_no (n : Int) : (1 / 2 : Rat) ≠ (n : Rat) := by
  intro e
  have : ((1 : Int) : Rat) = ((2 * n : Int) : Rat) := by
    rw [Rat.intCast_mul, ← e]; decide +kernel
  have := Rat.intCast_inj.1 this
  omega
set_option maxRecDepth 20000 in
set_option maxHeartbeats 8000000 in
theorem known_law (w : World) : Calls Try.prog 3 #[] w (Ans w (.bool true)) := by
  have ca := Lib.hid awake_any
  go_enter Try.func3, Try.ntmps3
  go_wp2_with fail
  refine (ca.out _).mono ?_
  rintro e w1 ⟨rfl, hb1⟩
  have hb1 := Lib.hid hb1
  go_wp2_with fail
  refine (c_new 3 3 rfl (by decide) (fun b => w1.heap.size ≤ b) (fun b hb => hb)).mono ?_
  rintro e w2 ⟨p, rfl, hb, hp⟩
  have hp2 := Lib.hid (show Page w2 (fun b => w1.heap.size ≤ b) p [(0, 0), (0, 0), (0, 0)] [] 0 from hp)
  have hb2 := Lib.hid (hb1.out.trans (hb.mono hb1.out.size))
  have hz2 := Lib.hid (show w1.heap.size ≤ w2.heap.size from hb.size)
  have hlow : Hid (∀ b, w1.heap.size ≤ b → w.heap.size ≤ b) := fun b h => Nat.le_trans hb1.out.size h
  clear hp hb
  go_wp2_with fail
  refine (c_sizeL hp2.out [1, 2] (by decide)).mono ?_
  rintro e w3 ⟨rfl, hb⟩
  have hp3 := Lib.hid (hp2.out.below hb)
  have hb3 := Lib.hid (hb2.out.trans (hb.mono hb2.out.size))
  have hz3 := Lib.hid (Nat.le_trans hz2.out hb.size)
  clear hb hp2 hb2 hz2
  go_wp2_with fail
  refine (c_argL hp3.out [1, 2, 1024] (n := 3) rfl rfl (by decide) (by decide) ⟨1024, by decide, by decide⟩).mono ?_
  rintro e w4 ⟨rfl, hb⟩
  have hp4 := Lib.hid (hp3.out.below hb)
  have hb4 := Lib.hid (hb3.out.trans (hb.mono hb3.out.size))
  have hz4 := Lib.hid (Nat.le_trans hz3.out hb.size)
  clear hb hp3 hb3 hz3
  go_wp2_with fail
  refine (c_progL hp4.out (fun b h => Nat.le_trans hz4.out h) [1, 2, 3] (n := 3) rfl rfl (by decide) (by decide) 0 (by decide)).mono ?_
  rintro e w5 ⟨rfl, hk, ss5, hp, _⟩
  rw [show progP [(0, 0), (0, 0), (0, 0)] [1, 2, 3] 0 = [(0, 0), (0, 0), (0, 0)] by decide +kernel, show progS 3 0 = 0 from rfl] at hp
  have hp5 := Lib.hid (show Page w5 (fun b => w1.heap.size ≤ b) p [(0, 0), (0, 0), (0, 0)] ss5 0 from hp)
  have hb5 := Lib.hid (Cl.Keeps.low hb4.out (fun b h => hlow.out b h) hk)
  have hz5 := Lib.hid (Nat.le_trans hz4.out hk.size)
  clear hk hp hp4 hb4 hz4
  go_wp2_with fail
  refine (c_state hp5.out).mono ?_
  rintro e w6 ⟨rfl, hb⟩
  have hp6 := Lib.hid (hp5.out.below hb)
  have hb6 := Lib.hid (hb5.out.trans (hb.mono hb5.out.size))
  have hz6 := Lib.hid (Nat.le_trans hz5.out hb.size)
  clear hb hp5 hb5 hz5
  go_wp2_with fail
  refine (c_progL hp6.out (fun b h => Nat.le_trans hz6.out h) [528, 2, 3] (n := 3) rfl rfl (by decide) (by decide) 2 (by decide)).mono ?_
  rintro e w7 ⟨rfl, hk, ss7, hp, _⟩
  rw [show progP [(0, 0), (0, 0), (0, 0)] [528, 2, 3] 2 = [(1, 1), (-31, -27), (0, 0)] by decide +kernel, show progS 3 2 = 2 from rfl] at hp
  have hp7 := Lib.hid (show Page w7 (fun b => w1.heap.size ≤ b) p [(1, 1), (-31, -27), (0, 0)] ss7 2 from hp)
  have hb7 := Lib.hid (Cl.Keeps.low hb6.out (fun b h => hlow.out b h) hk)
  have hz7 := Lib.hid (Nat.le_trans hz6.out hk.size)
  clear hk hp hp6 hb6 hz6
  go_wp2_with fail
  refine (c_state hp7.out).mono ?_
  rintro e w8 ⟨rfl, hb⟩
  have hp8 := Lib.hid (hp7.out.below hb)
  have hb8 := Lib.hid (hb7.out.trans (hb.mono hb7.out.size))
  have hz8 := Lib.hid (Nat.le_trans hz7.out hb.size)
  clear hb hp7 hb7 hz7
  go_wp2_with fail
  refine (c_drift hp8.out (fun b h => Nat.le_trans hz8.out h) is_two' is_zero' (by decide) (by decide) 0).mono ?_
  rintro e w9 ⟨rfl, hk, hp⟩
  rw [show movB [(1, 1), (-31, -27), (0, 0)] 2 0 2 0 = false by decide +kernel] at hp ⊢
  rw [if_neg (by decide)] at hp
  have hp9 := Lib.hid (show Page w9 (fun b => w1.heap.size ≤ b) p [(1, 1), (-31, -27), (0, 0)] ss7 2 from hp)
  have hb9 := Lib.hid (Cl.Keeps.low hb8.out (fun b h => hlow.out b h) hk)
  have hz9 := Lib.hid (Nat.le_trans hz8.out hk.size)
  clear hk hp hp8 hb8 hz8
  go_wp2_with fail
  refine (c_orderL hp9.out (by decide) [528, 2, 3]).mono ?_
  rintro e w10 ⟨rfl, hb⟩
  have hp10 := Lib.hid (hp9.out.below hb)
  have hb10 := Lib.hid (hb9.out.trans (hb.mono hb9.out.size))
  have hz10 := Lib.hid (Nat.le_trans hz9.out hb.size)
  clear hb hp9 hb9 hz9
  go_wp2_with fail
  refine (c_sense hp10.out (n := 3) rfl).mono ?_
  rintro e w11 ⟨B, d, rfl, hid, hb, hpt⟩
  rcases hpt with hpt | ⟨g, rfl, hg, hX, hP⟩
  · cases hpt
  have hg1 := hX.lt
  obtain ⟨x0, y0, hc0, hx0, hy0⟩ := hP 0 (by decide)
  obtain ⟨x2, y2, hc2, hx2, hy2⟩ := hP 2 (by decide)
  have o1 : (FloatKind.f64.format.order x0 4607182418800017408 == some .eq) = true := by rw [ord_eq_i hx0 is_one']; decide
  have o2 : (FloatKind.f64.format.order y0 4607182418800017408 == some .eq) = true := by rw [ord_eq_i hy0 is_one']; decide
  have o3 : (FloatKind.f64.format.order x2 0 == some .eq) = true := by rw [ord_eq_i hx2 is_zero']; decide
  have o4 : (FloatKind.f64.format.order y2 0 == some .eq) = true := by rw [ord_eq_i hy2 is_zero']; decide
  have hp11 := Lib.hid ((hp10.out.only (F' := fun b => w1.heap.size ≤ b ∧ b ≠ g) (fun b h1 h2 => ⟨h2, by omega⟩)).below hb)
  have hb11 := Lib.hid (hb10.out.trans (hb.mono hb10.out.size))
  have hz11 := Lib.hid (Nat.le_trans hz10.out hb.size)
  have sSg11 : Hid (Still w11 w11 g) := ⟨rfl, hg1⟩
  replace hc0 := Lib.hid hc0
  replace hc2 := Lib.hid hc2
  clear hP hX hx0 hy0 hx2 hy2 hg hg1 hb hp10 hb10 hz10
  go_wp2_with fail
  refine (c_erase hp11.out (fun b h => by have q0 := hz11.out; have := sSg11.out.lt; exact ⟨by omega, by omega⟩)).mono ?_
  rintro e w12 ⟨rfl, hk, ss12, hp⟩
  have hp12 := Lib.hid (show Page w12 (fun b => w1.heap.size ≤ b ∧ b ≠ g) p [(0, 0), (0, 0), (0, 0)] ss12 0 from hp)
  have hb12 := Lib.hid (Cl.Keeps.low hb11.out (fun b h => hlow.out b h.1) hk)
  have hz12 := Lib.hid (Nat.le_trans hz11.out hk.size)
  have sSg12 := Lib.hid (sSg11.out.keeps hk (fun h => h.2 rfl))
  clear hk hp hp11 hb11 hz11 sSg11
  go_wp2_with fail
  refine (c_progL hp12.out (fun b h => by have q0 := hz12.out; have := sSg12.out.lt; exact ⟨by omega, by omega⟩) [528, 2, 3] (n := 3) rfl rfl (by decide) (by decide) 99 (by decide)).mono ?_
  rintro e w13 ⟨rfl, hk, ss13, hp, hss⟩
  obtain rfl := hss (by decide)
  rw [show progP [(0, 0), (0, 0), (0, 0)] [528, 2, 3] 99 = [(1, 1), (-31, -27), (-31, -25)] by decide +kernel, show progS 3 99 = 1 from rfl] at hp
  clear hss
  have hp13 := Lib.hid (show Page w13 (fun b => w1.heap.size ≤ b ∧ b ≠ g) p [(1, 1), (-31, -27), (-31, -25)] [528, 2, 3] 1 from hp)
  have hb13 := Lib.hid (Cl.Keeps.low hb12.out (fun b h => hlow.out b h.1) hk)
  have hz13 := Lib.hid (Nat.le_trans hz12.out hk.size)
  have sSg13 := Lib.hid (sSg12.out.keeps hk (fun h => h.2 rfl))
  clear hk hp hp12 hb12 hz12 sSg12
  go_wp2_with fail
  refine (c_drift hp13.out (fun b h => by have q0 := hz13.out; have := sSg13.out.lt; exact ⟨by omega, by omega⟩) is_m1 is_m1 (by decide) (by decide) 0).mono ?_
  rintro e w14 ⟨rfl, hk, hp⟩
  rw [show movB [(1, 1), (-31, -27), (-31, -25)] 1 0 (-1) (-1) = true by decide +kernel] at hp ⊢
  rw [if_pos rfl, show movP [(1, 1), (-31, -27), (-31, -25)] (Int.toNat 0) (-1) (-1) = [(0, 0), (-31, -27), (-31, -25)] by decide +kernel] at hp
  have hp14 := Lib.hid (show Page w14 (fun b => w1.heap.size ≤ b ∧ b ≠ g) p [(0, 0), (-31, -27), (-31, -25)] [528, 2, 3] 1 from hp)
  have hb14 := Lib.hid (Cl.Keeps.low hb13.out (fun b h => hlow.out b h.1) hk)
  have hz14 := Lib.hid (Nat.le_trans hz13.out hk.size)
  have sSg14 := Lib.hid (sSg13.out.keeps hk (fun h => h.2 rfl))
  clear hk hp hp13 hb13 hz13 sSg13
  go_wp2_with fail
  refine (c_wrong hp14.out (l := [0]) (n := 1) (by rw [if_pos rfl]; decide +kernel) rfl).mono ?_
  rintro e w15 ⟨A15, c15, rfl, hb, hw⟩
  rcases hw with hw | ⟨a, rfl, ha1, ha2, hw⟩
  · cases hw
  have hwc : w15.cell? (a.add 0) = some (.int .i64 0) := hw 0 (by decide)
  rw [add_zero'] at hwc
  obtain ⟨h, hah⟩ : ∃ h, a.block = h := ⟨_, rfl⟩
  rw [hah] at ha1 ha2
  have hp15 := Lib.hid ((hp14.out.only (F' := fun b => w1.heap.size ≤ b ∧ b ≠ g ∧ b ≠ h) (fun b h1 h2 => ⟨h2.1, h2.2, by omega⟩)).below hb)
  have hb15 := Lib.hid (hb14.out.trans (hb.mono hb14.out.size))
  have hz15 := Lib.hid (Nat.le_trans hz14.out hb.size)
  have sSg15 := Lib.hid (sSg14.out.below hb)
  have sSh15 : Hid (Still w15 w15 h) := ⟨rfl, ha2⟩
  replace hwc := Lib.hid hwc
  replace hah := Lib.hid hah
  clear hw ha1 ha2 hb hp14 hb14 hz14 sSg14
  go_wp2_with fail
  refine (c_part hp15.out is_half' is_zero half_no (by decide +kernel) (by decide +kernel) 0).mono ?_
  rintro e w16 ⟨rfl, hb⟩
  have hp16 := Lib.hid (hp15.out.below hb)
  have hb16 := Lib.hid (hb15.out.trans (hb.mono hb15.out.size))
  have hz16 := Lib.hid (Nat.le_trans hz15.out hb.size)
  have sSg16 := Lib.hid (sSg15.out.below hb)
  have sSh16 := Lib.hid (sSh15.out.below hb)
  clear hb hp15 hb15 hz15 sSg15 sSh15
  go_wp2_with fail
  refine (c_drift hp16.out (fun b h => by have q0 := hz16.out; have := sSg16.out.lt; have := sSh16.out.lt; exact ⟨by omega, by omega, by omega⟩) is_63 is_zero' (by decide) (by decide) 0).mono ?_
  rintro e w17 ⟨rfl, hk, hp⟩
  rw [show movB [(0, 0), (-31, -27), (-31, -25)] 1 0 63 0 = false by decide +kernel] at hp ⊢
  rw [if_neg (by decide)] at hp
  have hp17 := Lib.hid (show Page w17 (fun b => w1.heap.size ≤ b ∧ b ≠ g ∧ b ≠ h) p [(0, 0), (-31, -27), (-31, -25)] [528, 2, 3] 1 from hp)
  have hb17 := Lib.hid (Cl.Keeps.low hb16.out (fun b h => hlow.out b h.1) hk)
  have hz17 := Lib.hid (Nat.le_trans hz16.out hk.size)
  have sSg17 := Lib.hid (sSg16.out.keeps hk (fun h => h.2.1 rfl))
  have sSh17 := Lib.hid (sSh16.out.keeps hk (fun h => h.2.2 rfl))
  clear hk hp hp16 hb16 hz16 sSg16 sSh16
  go_wp2_with fail
  refine (c_drift hp17.out (fun b h => by have q0 := hz17.out; have := sSg17.out.lt; have := sSh17.out.lt; exact ⟨by omega, by omega, by omega⟩) is_two' is_zero' (by decide) (by decide) 3).mono ?_
  rintro e w18 ⟨rfl, hk, hp⟩
  rw [show movB [(0, 0), (-31, -27), (-31, -25)] 1 3 2 0 = false by decide +kernel] at hp ⊢
  rw [if_neg (by decide)] at hp
  have hp18 := Lib.hid (show Page w18 (fun b => w1.heap.size ≤ b ∧ b ≠ g ∧ b ≠ h) p [(0, 0), (-31, -27), (-31, -25)] [528, 2, 3] 1 from hp)
  have hb18 := Lib.hid (Cl.Keeps.low hb17.out (fun b h => hlow.out b h.1) hk)
  have hz18 := Lib.hid (Nat.le_trans hz17.out hk.size)
  have sSg18 := Lib.hid (sSg17.out.keeps hk (fun h => h.2.1 rfl))
  have sSh18 := Lib.hid (sSh17.out.keeps hk (fun h => h.2.2 rfl))
  clear hk hp hp17 hb17 hz17 sSg17 sSh17
  go_wp2_with fail
  refine (c_drift hp18.out (fun b h => by have q0 := hz18.out; have := sSg18.out.lt; have := sSh18.out.lt; exact ⟨by omega, by omega, by omega⟩) is_two' is_zero' (by decide) (by decide) (-1)).mono ?_
  rintro e w19 ⟨rfl, hk, hp⟩
  rw [show movB [(0, 0), (-31, -27), (-31, -25)] 1 (-1) 2 0 = false by decide +kernel] at hp ⊢
  rw [if_neg (by decide)] at hp
  have hp19 := Lib.hid (show Page w19 (fun b => w1.heap.size ≤ b ∧ b ≠ g ∧ b ≠ h) p [(0, 0), (-31, -27), (-31, -25)] [528, 2, 3] 1 from hp)
  have hb19 := Lib.hid (Cl.Keeps.low hb18.out (fun b h => hlow.out b h.1) hk)
  have hz19 := Lib.hid (Nat.le_trans hz18.out hk.size)
  have sSg19 := Lib.hid (sSg18.out.keeps hk (fun h => h.2.1 rfl))
  have sSh19 := Lib.hid (sSh18.out.keeps hk (fun h => h.2.2 rfl))
  clear hk hp hp18 hb18 hz18 sSg18 sSh18
  go_wp2_with fail
  go_loopw [18] (fun q wr => ∃ j : Nat, j ≤ 16 ∧ q = .int .i64 j ∧ Hid (Page wr (fun b => w1.heap.size ≤ b ∧ b ≠ g ∧ b ≠ h) p (farP j) [528, 2, 3] 1) ∧ Hid (Below w.heap.size w wr) ∧ Hid (w1.heap.size ≤ wr.heap.size) ∧ Hid (Still w11 wr g) ∧ Hid (Still w15 wr h)) (fun q _ => 16 - (intOf q).toNat)
  case atStart => exact ⟨0, by decide, rfl, hp19, hb19, hz19, sSg19, sSh19⟩
  case round =>
    clear hp19 hb19 hz19 sSg19 sSh19
    obtain ⟨j, hj, rfl, hp, hb, hz, sg, sh⟩ := hrel
    have hj40 : (j : Int) < 40 := by omega
    have hjd : decide ((j : Int) < 40) = true := decide_eq_true hj40
    have hup : ∀ b, wr.heap.size ≤ b → (w1.heap.size ≤ b ∧ b ≠ g ∧ b ≠ h) := fun b hb' => by
      have := hz.out
      have := sg.out.lt
      have := sh.out.lt
      exact ⟨by omega, by omega, by omega⟩
    go_wp2_with fail
    refine (c_drift hp.out hup is_62 is_zero' (by decide) (by decide) 1).mono ?_
    rintro e w20 ⟨rfl, hk, hp'⟩
    rw [far_ok] at hp' ⊢
    have hb20 := Lib.hid (Cl.Keeps.low hb.out (fun b h => hlow.out b h.1) hk)
    have hz20 := Lib.hid (Nat.le_trans hz.out hk.size)
    have sg20 := Lib.hid (sg.out.keeps hk (fun h => h.2.1 rfl))
    have sh20 := Lib.hid (sh.out.keeps hk (fun h => h.2.2 rfl))
    by_cases hj16 : j + 1 ≤ 16
    · rw [decide_eq_true hj16] at hp' ⊢
      rw [if_pos rfl, show (Int.toNat 1) = 1 from rfl, far_mov] at hp'
      have hp20 := Lib.hid hp'
      clear hp' hk hp hb hz sg sh hup
      go_wp2_with fail
      go_roundw
      case rel => exact ⟨j + 1, hj16, by go_num, hp20, hb20, hz20, sg20, sh20⟩
      case measure => simp [intOf]; omega
    · obtain rfl : j = 16 := by omega
      rw [decide_eq_false hj16] at hp' ⊢
      rw [if_neg (by decide)] at hp'
      have hp20 := Lib.hid hp'
      have d0 := sg20.out.cell hc0.out
      have d2 := sg20.out.cell hc2.out
      clear hp' hk hp hb hz sg sh hup
      go_wp2_with fail
      refine (c_state hp20.out).mono ?_
      rintro e w21 ⟨rfl, hb⟩
      have hb21 := Lib.hid (hb20.out.trans (hb.mono hb20.out.size))
      have sg21 := Lib.hid (sg20.out.below hb)
      have sh21 := Lib.hid (sh20.out.below hb)
      have hwc21 : w21.cell? a = some (.int .i64 0) := (World.cell?_of_block (by rw [hah.out]; exact sh21.out.eq)).trans hwc.out
      clear hb hb20
      go_wp2_with fail
      refine (c_new_neg (-1) (by decide) (by decide) (fun _ => True) (fun _ _ => trivial)).mono ?_
      rintro e w22 ⟨p2, rfl, hb, hp22⟩
      have hb22 := Lib.hid (hb21.out.trans (hb.mono hb21.out.size))
      clear hb
      go_wp2_with fail
      refine (c_sense hp22 (n := 0) rfl).mono ?_
      rintro e w23 ⟨B23, d23, rfl, hd23, hb, _⟩
      have hb23 := Lib.hid (hb22.out.trans (hb.mono hb22.out.size))
      clear hb
      go_wp2_with fail
      go_ret
      exact ⟨rfl, hb23.out⟩
end Go.Proofs.Ytedpbidijgjkeaa
