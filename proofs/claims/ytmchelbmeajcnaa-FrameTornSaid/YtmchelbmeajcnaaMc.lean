/- The program's frame: what a page says, as symbols. -/
import Derived.Test.YtmchelbmeajcnaaMb
import Derived.Test.YtmchelbmeajcnaaKv
import Derived.Test.YtmchelbmeajcnaaPb
namespace Go.Proofs.Ytmchelbmeajcnaa
open Go.RowKit Go.Gf
set_option linter.unusedVariables false
set_option linter.unusedSimpArgs false
set_option maxRecDepth 20000
attribute [local go_sem ↓] Cl.quiet_since

/-- block g holds a head -/
structure Hed (w : World) (g : Nat) (k l q : Int) : Prop where
  lt : g < w.heap.size
  c0 : w.cell? ⟨g, 0, none⟩ = some (.int .i64 k)
  c1 : w.cell? ⟨g, 1, none⟩ = some (.int .i64 l)
  c2 : w.cell? ⟨g, 2, none⟩ = some (.int .i64 q)
theorem Hed.keep {w w' : World} {g : Nat} {k l q : Int} (h : Hed w g k l q) (hb : Below w.heap.size w w') : Hed w' g k l q :=
  ⟨Nat.lt_of_lt_of_le h.lt hb.size, (hb.cell h.lt).trans h.c0, (hb.cell h.lt).trans h.c1, (hb.cell h.lt).trans h.c2⟩
theorem Hed.new (w : World) (k l q : Int) : Hed (w.alloc (.cells #[.int .i64 k, .int .i64 l, .int .i64 q] 25)) w.heap.size k l q := by
  have h : (w.alloc (.cells #[.int .i64 k, .int .i64 l, .int .i64 q] 25)).heap[w.heap.size]? = some (.cells #[.int .i64 k, .int .i64 l, .int .i64 q] 25) := by
    show (w.heap.push _)[w.heap.size]? = _
    rw [Array.getElem?_push, if_pos rfl]
  exact ⟨by rw [World.size_alloc]; omega, Ge.cell_of h 0, Ge.cell_of h 1, Ge.cell_of h 2⟩
theorem cell_block {w w' : World} {g i : Nat} (h : w'.heap[g]? = w.heap[g]?) : w'.cell? ⟨g, i, none⟩ = w.cell? ⟨g, i, none⟩ := by
  simp only [World.cell?, h]
theorem Hed.grown {w w' : World} {g n : Nat} {k l q : Int} (h : Hed w g k l q) (hg : w.grownBy w' (some n)) (hne : g ≠ n) : Hed w' g k l q := by
  have hb := hg.block g h.lt (by intro e; injection e with e; exact hne e)
  exact ⟨Nat.lt_of_lt_of_le h.lt hg.size, (cell_block hb).trans h.c0, (cell_block hb).trans h.c1, (cell_block hb).trans h.c2⟩
theorem below_grown {w0 w w' : World} {n : Nat} (h : Below w0.heap.size w0 w) (hg : w.grownBy w' (some n)) (hn : w0.heap.size ≤ n) : Below w0.heap.size w0 w' :=
  ⟨hg.os.trans h.os, hg.tape.trans h.tape, hg.output.trans h.output, Nat.le_trans h.size hg.size, fun b hb => (hg.block b (Nat.lt_of_lt_of_le hb h.size) (by intro e; injection e with e; omega)).trans (h.block b hb)⟩
/-- the page before its data are laid -/
def sayF (k l q j : Nat) : Nat := if j < 8 then at_ (headL k l q) j else 0
theorem sayF_eq {k l q N : Nat} (hk : k < 1024) (hl : l < 1048576) (hq : q < 1099511627776) (j : Nat) : putF (putF (putF (fun _ => 0) 0 1 k 1) 1 2 l 2) 3 4 q 4 j = sayF k l q j := by
  unfold sayF
  by_cases h : j < 8
  · rw [if_pos h]
    rcases (by omega : j = 0 ∨ j = 1 ∨ j = 2 ∨ j = 3 ∨ j = 4 ∨ j = 5 ∨ j = 6 ∨ j = 7) with rfl | rfl | rfl | rfl | rfl | rfl | rfl | rfl
    all_goals
      simp [putF, headL, at_]
      try omega
  · rw [if_neg h]
    unfold putF
    rw [if_neg (by omega), if_neg (by omega), if_neg (by omega)]
theorem splice_say {N k l q : Nat} {d : List Nat} (h : d.length = 10 * (N - 8) / 8) (h8 : 8 ≤ N) : splice ((rm N (sayF k l q)).map uv) 8 ((pk d).map uv) = (sayL N k l q d).map uv := by
  have hp := pk_size h
  rw [say_eq h]
  have e : rm N (sayF k l q) = headL k l q ++ rm (N - 8) (fun _ => 0) := by
    refine ext_at (by rw [rm_len, List.length_append, headL_len, rm_len]; omega) fun j hj => ?_
    rw [rm_len] at hj
    rw [at_rm, if_pos hj, at_append, headL_len]
    unfold sayF
    by_cases h1 : j < 8
    · rw [if_pos h1, if_pos h1]
    · rw [if_neg h1, if_neg h1, at_rm]
      split <;> rfl
  rw [e]
  unfold splice
  rw [List.map_append, List.map_append]
  rw [List.take_left' (by rw [List.length_map]; rfl)]
  rw [List.drop_eq_nil_of_le (by rw [List.length_append, List.length_map, List.length_map, List.length_map, headL_len, rm_len, hp]; omega)]
  rw [List.append_nil]
set_option maxHeartbeats 4000000 in
theorem plain_any {B P : Int} {W K N k l q : Nat} {A : Option Addr} {c : Nat} {d : List Nat} {w : World} (hN : W * K = N) (h9 : 8 < N) (hN6 : N ≤ 256) (hk : k < 1024) (hl : l < 1048576) (hq : q < 1099511627776) (hs : Sb w w.heap.size A d) (hd : d.length = 10 * (N - 8) / 8) :
    Calls Try.prog 34 #[.agg #[.int .i64 B, .int .i64 P, .int .i64 (W : Int), .int .i64 (K : Int)], .agg #[.int .i64 (k : Int), .int .i64 (l : Int), .int .i64 (q : Int)], .slice A d.length c] w
      fun e w' => ∃ g, e = .returned (.slice (some ⟨g, 0, none⟩) N N) ∧ w.heap.size ≤ g ∧ Arr w' g (sayL N k l q d) ∧ Below w.heap.size w w' := by
  have H := Lib.hid hs
  replace hd := Lib.hid hd
  have hNI : (W : Int) * (K : Int) = (N : Int) := by rw [← hN]; push_cast; rfl
  obtain ⟨wa, hwa⟩ : ∃ wa, wa = w.alloc (.cells #[.int .i64 B, .int .i64 P, .int .i64 (W : Int), .int .i64 (K : Int)] 23) := ⟨_, rfl⟩
  obtain ⟨wb, hwb⟩ : ∃ wb, wb = wa.alloc (.cells #[.int .i64 (k : Int), .int .i64 (l : Int), .int .i64 (q : Int)] 25) := ⟨_, rfl⟩
  have hba : Below w.heap.size w wa := by rw [hwa]; exact Ge.below_alloc w _
  have hbb : Below w.heap.size w wb := hba.trans (by rw [hwb]; exact (Ge.below_alloc wa _).mono hba.size)
  have hX : Ge.Box wb w.heap.size B P W K := by
    have : Ge.Box wa w.heap.size B P W K := by rw [hwa]; exact Ge.Box.new w B P W K
    exact this.keep (by rw [hwb]; exact Ge.below_alloc wa _)
  have hH : Hed wb (w.heap.size + 1) k l q := by
    have := Hed.new wa k l q
    rw [← hwb] at this
    rwa [show wa.heap.size = w.heap.size + 1 by rw [hwa, World.size_alloc]] at this
  have hsz : wb.heap.size = w.heap.size + 2 := by rw [hwb, World.size_alloc, hwa, World.size_alloc]
  have hmk := run_make_row' (P := Try.prog) 35 29 (.int .u16 0) 2 Try.underlying35 info22 rfl .i64 .i64 N (by omega) (by omega)
  go_enter Try.func34, Try.ntmps34
  go_wp2_with fail
  rw [← hwa, ← hwb]
  have hg2 : w.heap.size + 1 + 1 = wb.heap.size := by rw [hsz]
  rw [hg2]
  have hA := Arr.new wb (List.replicate N 0)
  rw [← made_uv, rm_zero] at hA
  have hH2 := hH.keep (Ge.below_alloc wb (.cells (madeCells #[.int .u16 0] N) 29))
  have hb2 := hbb.trans ((Ge.below_alloc wb (.cells (madeCells #[.int .u16 0] N) 29)).mono hbb.size)
  have hhg : w.heap.size + 1 < wb.heap.size := by omega
  have hgg : w.heap.size ≤ wb.heap.size := hbb.size
  generalize wb.alloc (.cells (madeCells #[.int .u16 0] N) 29) = w2 at *
  generalize wb.heap.size = g at *
  generalize w.heap.size + 1 = h at *
  clear hmk hs hX hH hsz hg2 hwa hwb hba hbb
  replace hb2 := Lib.hid hb2
  refine Cl.region_way (fun _ => True) 4 [(0, .r), (1, .r), (2, .r), (3, .r), (4, .z)] (by kernel_rfl) (by kernel_rfl) ?_
  intro w3 hk3
  have hb3 := Lib.hid (hb2.out.trans ((Cl.Keeps.below hk3).mono hb2.out.size))
  have hH3 := hH2.keep (Cl.Keeps.below hk3)
  have hA3 : Arr w3 g _ := (hk3.block g hA.lt trivial).trans hA
  have hC3 : ∀ y : Cl.Since (fun _ => True) w3, y.w.cell? ⟨h, 0, none⟩ = some (.int .i64 (k : Int)) := fun y => (hH3.keep (Cl.Keeps.below y.keeps)).c0
  have hput := Lib.hid (fput_any w3 g N 0 1 N _ k hA3 (by omega) (by omega) (by omega) (by omega))
  replace hH3 := Lib.hid hH3
  clear hk3 hA3 hA hH2 hb2
  iterate 4 (refine Cl.way_r rfl ?_; go_big_quiet_step (fail); refine wpQuiet_nil ?_)
  refine Cl.way_z rfl ?_
  go_wp2_with (go_at_call 60; (with_reducible refine hput.out.mono ?_); rintro e w4 ⟨rfl, ha4, hg4⟩)
  refine Cl.Calm.normal ?_
  go_wp2_with fail
  have hH4 := Lib.hid (hH3.out.grown hg4 (by omega))
  have hb4 := Lib.hid (below_grown hb3.out hg4 hgg)
  clear hput hg4 hH3 hb3 hC3
  refine Cl.region_way (fun _ => True) 4 [(0, .r), (1, .r), (2, .r), (3, .r), (4, .z)] (by kernel_rfl) (by kernel_rfl) ?_
  intro w3 hk3
  have hb3 := Lib.hid (hb4.out.trans ((Cl.Keeps.below hk3).mono hb4.out.size))
  have hH3 := hH4.out.keep (Cl.Keeps.below hk3)
  have hA3 : Arr w3 g _ := (hk3.block g ha4.lt trivial).trans ha4
  have hC3 : ∀ y : Cl.Since (fun _ => True) w3, y.w.cell? ⟨h, 1, none⟩ = some (.int .i64 (l : Int)) := fun y => (hH3.keep (Cl.Keeps.below y.keeps)).c1
  have hput := Lib.hid (fput_any w3 g N 1 2 (N - 1) _ l hA3 (by omega) (by omega) (by omega) (by omega))
  replace hH3 := Lib.hid hH3
  clear hk3 hA3 ha4 hH4 hb4
  iterate 4 (refine Cl.way_r rfl ?_; go_big_quiet_step (fail); refine wpQuiet_nil ?_)
  refine Cl.way_z rfl ?_
  go_wp2_with (go_at_call 60; (with_reducible refine hput.out.mono ?_); rintro e w4 ⟨rfl, ha4, hg4⟩)
  refine Cl.Calm.normal ?_
  go_wp2_with fail
  have hH4 := Lib.hid (hH3.out.grown hg4 (by omega))
  have hb4 := Lib.hid (below_grown hb3.out hg4 hgg)
  clear hput hg4 hH3 hb3 hC3
  refine Cl.region_way (fun _ => True) 4 [(0, .r), (1, .r), (2, .r), (3, .r), (4, .z)] (by kernel_rfl) (by kernel_rfl) ?_
  intro w3 hk3
  have hb3 := Lib.hid (hb4.out.trans ((Cl.Keeps.below hk3).mono hb4.out.size))
  have hH3 := hH4.out.keep (Cl.Keeps.below hk3)
  have hA3 : Arr w3 g _ := (hk3.block g ha4.lt trivial).trans ha4
  have hC3 : ∀ y : Cl.Since (fun _ => True) w3, y.w.cell? ⟨h, 2, none⟩ = some (.int .i64 (q : Int)) := fun y => (hH3.keep (Cl.Keeps.below y.keeps)).c2
  have hput := Lib.hid (fput_any w3 g N 3 4 (N - 3) _ q hA3 (by omega) (by omega) (by omega) (by omega))
  replace hH3 := Lib.hid hH3
  clear hk3 hA3 ha4 hH4 hb4
  iterate 4 (refine Cl.way_r rfl ?_; go_big_quiet_step (fail); refine wpQuiet_nil ?_)
  refine Cl.way_z rfl ?_
  go_wp2_with (go_at_call 60; (with_reducible refine hput.out.mono ?_); rintro e w4 ⟨rfl, ha4, hg4⟩)
  refine Cl.Calm.normal ?_
  go_wp2_with fail
  have hH4 := Lib.hid (hH3.out.grown hg4 (by omega))
  have hb4 := Lib.hid (below_grown hb3.out hg4 hgg)
  clear hput hg4 hH3 hb3 hC3
  refine Cl.region_way (fun _ => True) 4 [(0, .r), (1, .r), (2, .r), (3, .c), (4, .z)] (by kernel_rfl) (by kernel_rfl) ?_
  intro w3 hk3
  have hb3 := Lib.hid (hb4.out.trans ((Cl.Keeps.below hk3).mono hb4.out.size))
  have hs3 := H.out.far hb3.out
  have hA3 : Arr w3 g _ := (hk3.block g ha4.lt trivial).trans ha4
  have hpk := Lib.hid (pak_pack hs3 (by have := hd.out; omega) (c := c))
  clear hk3 ha4 hH4 hb4 H hs3
  iterate 3 (refine Cl.way_r rfl ?_; go_big_quiet_step (fail); refine wpQuiet_nil ?_)
  refine Cl.way_c rfl ?_
  go_wp2_with (go_at_call 61; (with_reducible refine hpk.out.mono ?_); rintro e w5 ⟨v5, rfl, ho5, hb5⟩)
  refine Cl.way_on (Cl.Keeps.of_below hb5) ?_
  obtain ⟨A5, c5, rfl, hc5, hs5⟩ := ho5.sl
  have hA5 : Arr w5 g (rm N (sayF k l q)) := by
    have := (hb5.block g hA3.lt).trans hA3
    rwa [rm_congr (g := sayF k l q) (fun j _ => sayF_eq (N := N) hk hl hq j)] at this
  have hbw5 := hb3.out.trans (hb5.mono hb3.out.size)
  have hp := pk_size hd.out
  have hpos : 0 < (pk d).length := by omega
  obtain ⟨a5, rfl, hab5, hcell5⟩ := hs5.2.resolve_left (by intro e; rw [e] at hpos; exact absurd hpos (by decide))
  have hsp := Lib.hid (splice_say (k := k) (l := l) (q := q) hd.out (by omega))
  replace hA5 := Lib.hid hA5
  replace hp := Lib.hid hp
  replace hcell5 := Lib.hid hcell5
  replace hbw5 := Lib.hid hbw5
  clear hb3 hA3 hpk hb5 ho5 hs5
  refine Cl.way_z rfl ?_
  refine wpList_copy_splice rfl (.tmp 30) (.tmp 32) 35 35 rfl 29 Try.underlying35 size23 (some ⟨g, 8, none⟩) (some a5) (N - 8) (N - 8) (pk d).length c5 rfl rfl g 8 ((rm N (sayF k l q)).map uv) 29 hA5.out ((pk d).map uv) (by rw [List.length_map, hp.out]; exact (Nat.min_self _).symm) (by
    intro _
    refine ⟨rfl, a5, rfl, fun j v hv => ?_⟩
    rw [List.getElem?_map] at hv
    rcases Nat.lt_or_ge j (pk d).length with hj | hj
    · rw [List.getElem?_eq_getElem hj] at hv
      injection hv with hv
      rw [← hv]; exact hcell5.out j hj
    · rw [List.getElem?_eq_none hj] at hv; cases hv) (by rw [List.length_map, List.length_map, rm_len, hp.out]; omega) (by intro v hv; obtain ⟨x, _, rfl⟩ := List.mem_map.1 hv; rfl) w.heap.size w hbw5.out hgg ?_
  intro w6 hA6 hb6
  rw [hsp.out] at hA6
  replace hb6 := Lib.hid hb6
  clear hsp hA5 hcell5 hbw5
  go_wp2_with fail
  refine Cl.Calm.normal ?_
  go_wp2_with fail
  go_ret
  exact ⟨g, rfl, hgg, hA6.out, hb6.out⟩
end Go.Proofs.Ytmchelbmeajcnaa
