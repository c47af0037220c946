/- The program's frame: what a page says, as symbols. · The program's frame: a page's rows, encoded and woven; Make. · What a page's points say: plain; the program's frame: the words mended. · The program's frame: what symbols say; Read. · A block that begins with so many values, of any type, and may be written. · The reference's Make: the document's own page. -/
import Derived.Test.YtjhoecfhmndcgaaGreatV25
import Derived.Test.YtjhoecfhmndcgaaGreatV24
import Derived.Test.YtjhoecfhmndcgaaGreatV27
import Derived.Test.YtjhoecfhmndcgaaGreatV32
import Derived.Test.YtjhoecfhmndcgaaGreatV30
import Derived.Test.YtjhoecfhmndcgaaGreatV31
import Derived.Test.YtjhoecfhmndcgaaGreatV23
import Derived.Test.YtjhoecfhmndcgaaGreatV16
namespace Go.Proofs.YtjhoecfhmndcgaaGreat
open Go.RowKit Go.Gf
set_option linter.unusedVariables false
set_option linter.unusedSimpArgs false
set_option maxRecDepth 20000
attribute [local go_sem ↓] Cl.quiet_since

/-- block g holds a head -/
structure Hed (w : World) (g : Nat) (k l q : Int) : Prop where
  lt : g < w.heap.size
  c0 : w.cell? ⟨g, 0, none⟩ = some (.int .i64 k)
  c1 : w.cell? ⟨g, 1, none⟩ = some (.int .i64 l)
  c2 : w.cell? ⟨g, 2, none⟩ = some (.int .i64 q)
theorem Hed.keep {w w' : World} {g : Nat} {k l q : Int} (h : Hed w g k l q) (hb : Below w.heap.size w w') : Hed w' g k l q :=
  ⟨Nat.lt_of_lt_of_le h.lt hb.size, (hb.cell h.lt).trans h.c0, (hb.cell h.lt).trans h.c1, (hb.cell h.lt).trans h.c2⟩
theorem Hed.new (w : World) (k l q : Int) : Hed (w.alloc (.cells #[.int .i64 k, .int .i64 l, .int .i64 q] 27)) w.heap.size k l q := by
  have h : (w.alloc (.cells #[.int .i64 k, .int .i64 l, .int .i64 q] 27)).heap[w.heap.size]? = some (.cells #[.int .i64 k, .int .i64 l, .int .i64 q] 27) := by
    show (w.heap.push _)[w.heap.size]? = _
    rw [Array.getElem?_push, if_pos rfl]
  exact ⟨by rw [World.size_alloc]; omega, Ge.cell_of h 0, Ge.cell_of h 1, Ge.cell_of h 2⟩
theorem cell_block {w w' : World} {g i : Nat} (h : w'.heap[g]? = w.heap[g]?) : w'.cell? ⟨g, i, none⟩ = w.cell? ⟨g, i, none⟩ := by
  simp only [World.cell?, h]
theorem Hed.grown {w w' : World} {g n : Nat} {k l q : Int} (h : Hed w g k l q) (hg : w.grownBy w' (some n)) (hne : g ≠ n) : Hed w' g k l q := by
  have hb := hg.block g h.lt (by intro e; injection e with e; exact hne e)
  exact ⟨Nat.lt_of_lt_of_le h.lt hg.size, (cell_block hb).trans h.c0, (cell_block hb).trans h.c1, (cell_block hb).trans h.c2⟩
theorem below_grown {w0 w w' : World} {n : Nat} (h : Below w0.heap.size w0 w) (hg : w.grownBy w' (some n)) (hn : w0.heap.size ≤ n) : Below w0.heap.size w0 w' :=
  ⟨hg.os.trans h.os, hg.tape.trans h.tape, hg.output.trans h.output, Nat.le_trans h.size hg.size, fun b hb => (hg.block b (Nat.lt_of_lt_of_le hb h.size) (by intro e; injection e with e; omega)).trans (h.block b hb)⟩
/-- the page before its data are laid -/
def sayF (k l q j : Nat) : Nat := if j < 8 then at_ (headL k l q) j else 0
theorem sayF_eq {k l q N : Nat} (hk : k < 1024) (hl : l < 1048576) (hq : q < 1099511627776) (j : Nat) : putF (putF (putF (fun _ => 0) 0 1 k 1) 1 2 l 2) 3 4 q 4 j = sayF k l q j := by
  unfold sayF
  by_cases h : j < 8
  · rw [if_pos h]
    rcases (by omega : j = 0 ∨ j = 1 ∨ j = 2 ∨ j = 3 ∨ j = 4 ∨ j = 5 ∨ j = 6 ∨ j = 7) with rfl | rfl | rfl | rfl | rfl | rfl | rfl | rfl
    all_goals
      simp [putF, headL, at_]
      try omega
  · rw [if_neg h]
    unfold putF
    rw [if_neg (by omega), if_neg (by omega), if_neg (by omega)]
theorem splice_say {N k l q : Nat} {d : List Nat} (h : d.length = 10 * (N - 8) / 8) (h8 : 8 ≤ N) : splice ((rm N (sayF k l q)).map uv) 8 ((pk d).map uv) = (sayL N k l q d).map uv := by
  have hp := pk_size h
  rw [say_eq h]
  have e : rm N (sayF k l q) = headL k l q ++ rm (N - 8) (fun _ => 0) := by
    refine ext_at (by rw [rm_len, List.length_append, headL_len, rm_len]; omega) fun j hj => ?_
    rw [rm_len] at hj
    rw [at_rm, if_pos hj, at_append, headL_len]
    unfold sayF
    by_cases h1 : j < 8
    · rw [if_pos h1, if_pos h1]
    · rw [if_neg h1, if_neg h1, at_rm]
      split <;> rfl
  rw [e]
  unfold splice
  rw [List.map_append, List.map_append]
  rw [List.take_left' (by rw [List.length_map]; rfl)]
  rw [List.drop_eq_nil_of_le (by rw [List.length_append, List.length_map, List.length_map, List.length_map, headL_len, rm_len, hp]; omega)]
  rw [List.append_nil]
set_option maxHeartbeats 4000000 in
theorem plain_any {B P : Int} {W K N k l q : Nat} {A : Option Addr} {c : Nat} {d : List Nat} {w : World} (hN : W * K = N) (h9 : 8 < N) (hN6 : N ≤ 256) (hk : k < 1024) (hl : l < 1048576) (hq : q < 1099511627776) (hs : Sb w w.heap.size A d) (hd : d.length = 10 * (N - 8) / 8) :
    Calls Tryz.prog 93 #[.agg #[.int .i64 B, .int .i64 P, .int .i64 (W : Int), .int .i64 (K : Int)], .agg #[.int .i64 (k : Int), .int .i64 (l : Int), .int .i64 (q : Int)], .slice A d.length c] w
      fun e w' => ∃ g, e = .returned (.slice (some ⟨g, 0, none⟩) N N) ∧ w.heap.size ≤ g ∧ Arr w' g (sayL N k l q d) ∧ Below w.heap.size w w' := by
  have H := Lib.hid hs
  replace hd := Lib.hid hd
  have hNI : (W : Int) * (K : Int) = (N : Int) := by rw [← hN]; push_cast; rfl
  obtain ⟨wa, hwa⟩ : ∃ wa, wa = w.alloc (.cells #[.int .i64 B, .int .i64 P, .int .i64 (W : Int), .int .i64 (K : Int)] 34) := ⟨_, rfl⟩
  obtain ⟨wb, hwb⟩ : ∃ wb, wb = wa.alloc (.cells #[.int .i64 (k : Int), .int .i64 (l : Int), .int .i64 (q : Int)] 27) := ⟨_, rfl⟩
  have hba : Below w.heap.size w wa := by rw [hwa]; exact Ge.below_alloc w _
  have hbb : Below w.heap.size w wb := hba.trans (by rw [hwb]; exact (Ge.below_alloc wa _).mono hba.size)
  have hX : Ge.Box wb w.heap.size B P W K := by
    have : Ge.Box wa w.heap.size B P W K := by rw [hwa]; exact Ge.Box.new w B P W K
    exact this.keep (by rw [hwb]; exact Ge.below_alloc wa _)
  have hH : Hed wb (w.heap.size + 1) k l q := by
    have := Hed.new wa k l q
    rw [← hwb] at this
    rwa [show wa.heap.size = w.heap.size + 1 by rw [hwa, World.size_alloc]] at this
  have hsz : wb.heap.size = w.heap.size + 2 := by rw [hwb, World.size_alloc, hwa, World.size_alloc]
  have hmk := run_make_row' (P := Tryz.prog) 41 46 (.int .u16 0) 2 Tryz.underlying41 info22 rfl .i64 .i64 N (by omega) (by omega)
  go_enter Tryz.func93, Tryz.ntmps93
  go_wp2_with fail
  rw [← hwa, ← hwb]
  have hg2 : w.heap.size + 1 + 1 = wb.heap.size := by rw [hsz]
  rw [hg2]
  have hA := Arr.new wb (List.replicate N 0)
  rw [← made_uv, rm_zero] at hA
  have hH2 := hH.keep (Ge.below_alloc wb (.cells (madeCells #[.int .u16 0] N) 46))
  have hb2 := hbb.trans ((Ge.below_alloc wb (.cells (madeCells #[.int .u16 0] N) 46)).mono hbb.size)
  have hhg : w.heap.size + 1 < wb.heap.size := by omega
  have hgg : w.heap.size ≤ wb.heap.size := hbb.size
  generalize wb.alloc (.cells (madeCells #[.int .u16 0] N) 46) = w2 at *
  generalize wb.heap.size = g at *
  generalize w.heap.size + 1 = h at *
  clear hmk hs hX hH hsz hg2 hwa hwb hba hbb
  replace hb2 := Lib.hid hb2
  refine Cl.region_way (fun _ => True) 4 [(0, .r), (1, .r), (2, .r), (3, .r), (4, .z)] (by kernel_rfl) (by kernel_rfl) ?_
  intro w3 hk3
  have hb3 := Lib.hid (hb2.out.trans ((Cl.Keeps.below hk3).mono hb2.out.size))
  have hH3 := hH2.keep (Cl.Keeps.below hk3)
  have hA3 : Arr w3 g _ := (hk3.block g hA.lt trivial).trans hA
  have hC3 : ∀ y : Cl.Since (fun _ => True) w3, y.w.cell? ⟨h, 0, none⟩ = some (.int .i64 (k : Int)) := fun y => (hH3.keep (Cl.Keeps.below y.keeps)).c0
  have hput := Lib.hid (fput_any w3 g N 0 1 N _ k hA3 (by omega) (by omega) (by omega) (by omega))
  replace hH3 := Lib.hid hH3
  clear hk3 hA3 hA hH2 hb2
  iterate 4 (refine Cl.way_r rfl ?_; go_big_quiet_step (fail); refine wpQuiet_nil ?_)
  refine Cl.way_z rfl ?_
  go_wp2_with (go_at_call 124; (with_reducible refine hput.out.mono ?_); rintro e w4 ⟨rfl, ha4, hg4⟩)
  refine Cl.Calm.normal ?_
  go_wp2_with fail
  have hH4 := Lib.hid (hH3.out.grown hg4 (by omega))
  have hb4 := Lib.hid (below_grown hb3.out hg4 hgg)
  clear hput hg4 hH3 hb3 hC3
  refine Cl.region_way (fun _ => True) 4 [(0, .r), (1, .r), (2, .r), (3, .r), (4, .z)] (by kernel_rfl) (by kernel_rfl) ?_
  intro w3 hk3
  have hb3 := Lib.hid (hb4.out.trans ((Cl.Keeps.below hk3).mono hb4.out.size))
  have hH3 := hH4.out.keep (Cl.Keeps.below hk3)
  have hA3 : Arr w3 g _ := (hk3.block g ha4.lt trivial).trans ha4
  have hC3 : ∀ y : Cl.Since (fun _ => True) w3, y.w.cell? ⟨h, 1, none⟩ = some (.int .i64 (l : Int)) := fun y => (hH3.keep (Cl.Keeps.below y.keeps)).c1
  have hput := Lib.hid (fput_any w3 g N 1 2 (N - 1) _ l hA3 (by omega) (by omega) (by omega) (by omega))
  replace hH3 := Lib.hid hH3
  clear hk3 hA3 ha4 hH4 hb4
  iterate 4 (refine Cl.way_r rfl ?_; go_big_quiet_step (fail); refine wpQuiet_nil ?_)
  refine Cl.way_z rfl ?_
  go_wp2_with (go_at_call 124; (with_reducible refine hput.out.mono ?_); rintro e w4 ⟨rfl, ha4, hg4⟩)
  refine Cl.Calm.normal ?_
  go_wp2_with fail
  have hH4 := Lib.hid (hH3.out.grown hg4 (by omega))
  have hb4 := Lib.hid (below_grown hb3.out hg4 hgg)
  clear hput hg4 hH3 hb3 hC3
  refine Cl.region_way (fun _ => True) 4 [(0, .r), (1, .r), (2, .r), (3, .r), (4, .z)] (by kernel_rfl) (by kernel_rfl) ?_
  intro w3 hk3
  have hb3 := Lib.hid (hb4.out.trans ((Cl.Keeps.below hk3).mono hb4.out.size))
  have hH3 := hH4.out.keep (Cl.Keeps.below hk3)
  have hA3 : Arr w3 g _ := (hk3.block g ha4.lt trivial).trans ha4
  have hC3 : ∀ y : Cl.Since (fun _ => True) w3, y.w.cell? ⟨h, 2, none⟩ = some (.int .i64 (q : Int)) := fun y => (hH3.keep (Cl.Keeps.below y.keeps)).c2
  have hput := Lib.hid (fput_any w3 g N 3 4 (N - 3) _ q hA3 (by omega) (by omega) (by omega) (by omega))
  replace hH3 := Lib.hid hH3
  clear hk3 hA3 ha4 hH4 hb4
  iterate 4 (refine Cl.way_r rfl ?_; go_big_quiet_step (fail); refine wpQuiet_nil ?_)
  refine Cl.way_z rfl ?_
  go_wp2_with (go_at_call 124; (with_reducible refine hput.out.mono ?_); rintro e w4 ⟨rfl, ha4, hg4⟩)
  refine Cl.Calm.normal ?_
  go_wp2_with fail
  have hH4 := Lib.hid (hH3.out.grown hg4 (by omega))
  have hb4 := Lib.hid (below_grown hb3.out hg4 hgg)
  clear hput hg4 hH3 hb3 hC3
  refine Cl.region_way (fun _ => True) 4 [(0, .r), (1, .r), (2, .r), (3, .c), (4, .z)] (by kernel_rfl) (by kernel_rfl) ?_
  intro w3 hk3
  have hb3 := Lib.hid (hb4.out.trans ((Cl.Keeps.below hk3).mono hb4.out.size))
  have hs3 := H.out.far hb3.out
  have hA3 : Arr w3 g _ := (hk3.block g ha4.lt trivial).trans ha4
  have hpk := Lib.hid (pak_pack hs3 (by have := hd.out; omega) (c := c))
  clear hk3 ha4 hH4 hb4 H hs3
  iterate 3 (refine Cl.way_r rfl ?_; go_big_quiet_step (fail); refine wpQuiet_nil ?_)
  refine Cl.way_c rfl ?_
  go_wp2_with (go_at_call 125; (with_reducible refine hpk.out.mono ?_); rintro e w5 ⟨v5, rfl, ho5, hb5⟩)
  refine Cl.way_on (Cl.Keeps.of_below hb5) ?_
  obtain ⟨A5, c5, rfl, hc5, hs5⟩ := ho5.sl
  have hA5 : Arr w5 g (rm N (sayF k l q)) := by
    have := (hb5.block g hA3.lt).trans hA3
    rwa [rm_congr (g := sayF k l q) (fun j _ => sayF_eq (N := N) hk hl hq j)] at this
  have hbw5 := hb3.out.trans (hb5.mono hb3.out.size)
  have hp := pk_size hd.out
  have hpos : 0 < (pk d).length := by omega
  obtain ⟨a5, rfl, hab5, hcell5⟩ := hs5.2.resolve_left (by intro e; rw [e] at hpos; exact absurd hpos (by decide))
  have hsp := Lib.hid (splice_say (k := k) (l := l) (q := q) hd.out (by omega))
  replace hA5 := Lib.hid hA5
  replace hp := Lib.hid hp
  replace hcell5 := Lib.hid hcell5
  replace hbw5 := Lib.hid hbw5
  clear hb3 hA3 hpk hb5 ho5 hs5
  refine Cl.way_z rfl ?_
  refine wpList_copy_splice rfl (.tmp 30) (.tmp 32) 41 41 rfl 46 Tryz.underlying41 size23 (some ⟨g, 8, none⟩) (some a5) (N - 8) (N - 8) (pk d).length c5 rfl rfl g 8 ((rm N (sayF k l q)).map uv) 46 hA5.out ((pk d).map uv) (by rw [List.length_map, hp.out]; exact (Nat.min_self _).symm) (by
    intro _
    refine ⟨rfl, a5, rfl, fun j v hv => ?_⟩
    rw [List.getElem?_map] at hv
    rcases Nat.lt_or_ge j (pk d).length with hj | hj
    · rw [List.getElem?_eq_getElem hj] at hv
      injection hv with hv
      rw [← hv]; exact hcell5.out j hj
    · rw [List.getElem?_eq_none hj] at hv; cases hv) (by rw [List.length_map, List.length_map, rm_len, hp.out]; omega) (by intro v hv; obtain ⟨x, _, rfl⟩ := List.mem_map.1 hv; rfl) w.heap.size w hbw5.out hgg ?_
  intro w6 hA6 hb6
  rw [hsp.out] at hA6
  replace hb6 := Lib.hid hb6
  clear hsp hA5 hcell5 hbw5
  go_wp2_with fail
  refine Cl.Calm.normal ?_
  go_wp2_with fail
  go_ret
  exact ⟨g, rfl, hgg, hA6.out, hb6.out⟩
end Go.Proofs.YtjhoecfhmndcgaaGreat
namespace Go.Proofs.YtjhoecfhmndcgaaGreat
open Go.RowKit Go.Gf
set_option linter.unusedVariables false
set_option linter.unusedSimpArgs false
set_option maxRecDepth 20000
attribute [local go_sem ↓] exec_load_tb Cl.quiet_since
attribute [local go_sem] tbAt_ptr tbIn_ptr

/-- block g is n slices, none of which lies in it, that hold the rows ws -/
structure RowsI (w : World) (g n : Nat) (f : Nat → Value) (ws : Nat → List Nat) : Prop where
  vs : Vs w g n f
  row : ∀ j, j < n → ∃ A c, f j = .slice A (ws j).length c ∧ (ws j).length ≤ c ∧ Sl w w.heap.size A (ws j) ∧ ((ws j) = [] ∨ ∀ a, A = some a → a.block ≠ g)
theorem RowsI.keep {w w' : World} {g n : Nat} {f : Nat → Value} {ws : Nat → List Nat} (h : RowsI w g n f ws) (hb : Below w.heap.size w w') : RowsI w' g n f ws :=
  ⟨h.vs.keep (hb.block g h.vs.lt), fun j hj => by
    obtain ⟨A, c, h1, h2, h3, h4⟩ := h.row j hj
    exact ⟨A, c, h1, h2, h3.far hb, h4⟩⟩
theorem RowsI.congr {w : World} {g n : Nat} {f : Nat → Value} {ws ws' : Nat → List Nat} (h : RowsI w g n f ws) (e : ∀ j, j < n → ws j = ws' j) : RowsI w g n f ws' :=
  ⟨h.vs, fun j hj => by rw [← e j hj]; exact h.row j hj⟩
theorem Sl.setOther {w : World} {g i B : Nat} {A : Option Addr} {xs : List Nat} {v : Value} (h : Sl w B A xs) (hne : xs = [] ∨ ∀ a, A = some a → a.block ≠ g) : Sl (w.setCell ⟨g, i, none⟩ v) B A xs := by
  refine ⟨h.1, ?_⟩
  rcases h.2 with e | ⟨a, rfl, hb, hc⟩
  · exact Or.inl e
  · rcases hne with e | hne
    · exact Or.inl e
    · refine Or.inr ⟨a, rfl, hb, fun k hk => ?_⟩
      have hg : (w.setCell ⟨g, i, none⟩ v).heap[(a.add k).block]? = w.heap[(a.add k).block]? := by
        rw [add_block]
        simp only [World.setCell]
        rw [Array.getElem?_modify, if_neg (fun e => hne a rfl e.symm)]
      rw [World.cell?_of_block hg]
      exact hc k hk
/-- one row laid anew -/
theorem RowsI.lay {w : World} {g n : Nat} {f : Nat → Value} {ws : Nat → List Nat} (h : RowsI w g n f ws) {p : Nat} (hp : p < n) {A : Option Addr} {c : Nat} {ys : List Nat} (hc : ys.length ≤ c) (hs : Sl w w.heap.size A ys) (hA : ys = [] ∨ ∀ a, A = some a → a.block ≠ g) :
    RowsI (w.setCell ⟨g, p, none⟩ (.slice A ys.length c)) g n (fun j => if j = p then .slice A ys.length c else f j) (fun j => if j = p then ys else ws j) := by
  refine ⟨h.vs.set_ p _, fun j hj => ?_⟩
  rw [World.size_setCell]
  by_cases e : j = p
  · simp only [if_pos e]
    exact ⟨A, c, rfl, hc, hs.setOther hA, hA⟩
  · simp only [if_neg e]
    obtain ⟨A', c', h1, h2, h3, h4⟩ := h.row j hj
    exact ⟨A', c', h1, h2, h3.setOther h4, h4⟩
theorem RowsI.sw {w : World} {g n : Nat} {f : Nat → Value} {ws : Nat → List Nat} (h : RowsI w g n f ws) : Sw w w.heap.size (some ⟨g, 0, none⟩) ((List.range n).map ws) := by
  refine Or.inr ⟨_, rfl, h.vs.lt, fun i hi => ?_⟩
  have hi' : i < n := by simpa using hi
  have e : (⟨g, 0, none⟩ : Addr).add i = ⟨g, i, none⟩ := by unfold Addr.add; split <;> simp_all
  rw [e, h.vs.cell hi']
  simp only [List.getElem_map, List.getElem_range]
  obtain ⟨A, c, h1, h2, h3, _⟩ := h.row i hi'
  exact ⟨A, c, by rw [h1], h2, h3⟩
theorem OwnW.rowsI {w0 w : World} {g n : Nat} {f : Nat → Value} {ws : Nat → List Nat} (h : OwnW w0 w g n f ws) : RowsI w g n f ws :=
  ⟨h.vs, fun j hj => by
    obtain ⟨A, c, h1, h2, h3⟩ := (h.own j hj).sl
    refine ⟨A, c, h1, h2, h3, Or.inr fun a e hab => ?_⟩
    have := h.off j hj
    rw [h1, e] at this
    exact this (congrArg some hab)⟩
theorem setCell_block (w : World) {g i b : Nat} (v : Value) (h : b ≠ g) : (w.setCell ⟨g, i, none⟩ v).heap[b]? = w.heap[b]? := by
  simp only [World.setCell]
  rw [Array.getElem?_modify, if_neg (fun e => h e.symm)]
theorem Ge.Box.other {w : World} {b g i : Nat} {B P W K : Int} (h : Ge.Box w b B P W K) (v : Value) (hne : b ≠ g) : Ge.Box (w.setCell ⟨g, i, none⟩ v) b B P W K :=
  ⟨by rw [World.size_setCell]; exact h.lt, (cell_block (setCell_block w v hne)).trans h.c0, (cell_block (setCell_block w v hne)).trans h.c1, (cell_block (setCell_block w v hne)).trans h.c2, (cell_block (setCell_block w v hne)).trans h.c3⟩
/-- In, of symbols as many as W rows have -/
theorem in_row {W K N : Nat} {A : Option Addr} {c : Nat} {s : List Nat} {w : World} (hN : W * K = N) (hW : 1 ≤ W ∧ W ≤ 4) (hK : 1 ≤ K) (hs : Sl w w.heap.size A s) (hl : s.length = N) (h6 : N ≤ 1000000) :
    Calls Tryz.prog 84 #[.int .i64 (W : Int), .slice A s.length c] w fun e w' => ∃ g f, e = .returned (.tuple #[.slice (some ⟨g, 0, none⟩) W W, .int .i64 0]) ∧ w.heap.size ≤ g ∧ RowsI w' g W f (fun j => (dealt W s).getD j []) ∧ Below w.heap.size w w' := by
  have hmay : mayB (W : Int) = true := by
    unfold mayB
    rw [Bool.and_eq_true, decide_eq_true_eq, decide_eq_true_eq]; omega
  have hE : inE (W : Int) s = 0 := inE_ok hmay (by
    rw [Int.toNat_natCast, hl, ← hN, Nat.mul_mod_right]
    have : 1 ≤ W * K := Nat.mul_le_mul hW.1 hK
    omega)
  have hR : inW (W : Int) s = dealt W s := by unfold inW; rw [hE, if_pos rfl, Int.toNat_natCast]
  have hin := in_any (W : Int) A c s w hs (by omega)
  rw [hE, hR] at hin
  refine hin.mono ?_
  rintro e w1 ⟨h1, hb1⟩
  have hdl := dealt_len W s
  rcases h1 with ⟨h1, _⟩ | ⟨g, f, rfl, ho⟩
  · rw [h1] at hdl; simp at hdl; omega
  rw [hdl] at ho ⊢
  exact ⟨g, f, rfl, ho.at0, ho.rowsI, hb1⟩
theorem OwnS.low {w0 w1 w : World} {v : Value} {ys : List Nat} (h : OwnS w1 w v ys) (hs : w0.heap.size ≤ w1.heap.size) : OwnS w0 w v ys := by
  obtain ⟨⟨h1, h2⟩, h3⟩ := h
  refine ⟨⟨h1, ?_⟩, h3⟩
  rcases h2 with h2 | ⟨g, cap, cur, e, hg, hr⟩
  · exact Or.inl h2
  · exact Or.inr ⟨g, cap, cur, e, Nat.le_trans hs hg, hr⟩
/-- why there is no page, by its number -/
def mkE (B P W K k l q : Int) (n : Nat) : Nat := if Ge.mayG B P W K = false ∨ mkB k l q = false then 1 else if (n : Int) ≠ Ge.sizG B P W K then 3 else 0
/-- the page -/
def mkW (B P W K k l q : Int) (d : List Nat) : List Nat := if mkE B P W K k l q d.length = 0 then pageL W.toNat (sayL (W * K).toNat k.toNat l.toNat q.toNat d) else []
theorem mkE_arg {B P W K k l q : Int} {n : Nat} (h : Ge.mayG B P W K = false ∨ mkB k l q = false) : mkE B P W K k l q n = 1 := by unfold mkE; rw [if_pos h]
theorem mkE_size {B P W K k l q : Int} {n : Nat} (h : Ge.mayG B P W K = true) (h2 : mkB k l q = true) (h3 : (n : Int) ≠ Ge.sizG B P W K) : mkE B P W K k l q n = 3 := by
  unfold mkE
  rw [if_neg (by rw [h, h2]; simp), if_pos h3]
theorem mkE_ok {B P W K k l q : Int} {n : Nat} (h : Ge.mayG B P W K = true) (h2 : mkB k l q = true) (h3 : (n : Int) = Ge.sizG B P W K) : mkE B P W K k l q n = 0 := by
  unfold mkE
  rw [if_neg (by rw [h, h2]; simp), if_neg (by simp [h3])]
theorem mkB_of {k l q : Int} (h : mkB k l q = true) : ∃ k' l' q' : Nat, k = (k' : Int) ∧ l = (l' : Int) ∧ q = (q' : Int) ∧ 1 ≤ k' ∧ k' < 1024 ∧ l' < 1048576 ∧ q' < 1099511627776 := by
  unfold mkB at h
  rw [decide_eq_true_eq] at h
  exact ⟨k.toNat, l.toNat, q.toNat, by omega, by omega, by omega, by omega, by omega, by omega, by omega⟩
/-- a geometry that may be, in natural numbers -/
theorem mayG_of {B P W K : Int} (h : Ge.mayG B P W K = true) : ∃ W' K' N : Nat, W = (W' : Int) ∧ K = (K' : Int) ∧ W' * K' = N ∧ 1 ≤ W' ∧ W' ≤ 4 ∧ 1 ≤ K' ∧ K' ≤ 64 ∧ 8 < N ∧ N ≤ 256 ∧ Ge.sizG B P W K = ((10 * (N - 8) / 8 : Nat) : Int) ∧ Ge.celG B P W K = ((W' * (K' + 16) : Nat) : Int) := by
  obtain ⟨_, _, _, _, h5, h6, h7, h8, h9⟩ := Ge.may_of h
  have hp := Ge.prod_le h5 h6 h7 h8
  obtain ⟨W', rfl⟩ : ∃ W' : Nat, W = (W' : Int) := ⟨W.toNat, by omega⟩
  obtain ⟨K', rfl⟩ : ∃ K' : Nat, K = (K' : Int) := ⟨K.toNat, by omega⟩
  have hc : (W' : Int) * (K' : Int) = ((W' * K' : Nat) : Int) := by push_cast; rfl
  refine ⟨W', K', W' * K', rfl, rfl, rfl, by omega, by omega, by omega, by omega, by omega, by omega, ?_, ?_⟩
  · unfold Ge.sizG
    rw [if_pos h, hc]
    unfold Ge.bytG
    rw [hc] at hp h9
    generalize W' * K' = N at *
    omega
  · unfold Ge.celG
    rw [if_pos h]
    push_cast
    rfl
end Go.Proofs.YtjhoecfhmndcgaaGreat
namespace Go.Proofs.YtjhoecfhmndcgaaGreat
open Go.RowKit Go.Gf Go.Fl
set_option linter.unusedVariables false
set_option linter.unusedSimpArgs false
set_option maxRecDepth 20000
attribute [local go_sem ↓] exec_load_tb Cl.quiet_since
attribute [local go_sem] tbAt_ptr tbIn_ptr

/-- the symbols of codeword j, of W with n each -/
def rowS (W n : Nat) (ss : List Nat) (j : Nat) : List Nat := rm n fun q => at_ ss (q * W + j)
/-- how many of its symbols are wrong, or have a point that is nought, where ys was meant -/
def nbW (W n : Nat) (ss : List Nat) (z : Nat → Bool) (j : Nat) (ys : List Nat) : Nat := bc (fun q => z (q * W + j) || decide (at_ (rowS W n ss j) q ≠ at_ ys q)) n
/-- it is read as ys -/
def GoodR (W n : Nat) (ss : List Nat) (z : Nat → Bool) (j : Nat) (ys : List Nat) : Prop := Near (rowS W n ss j) ys ∧ nbW W n ss z j ys ≤ 8
section
variable {W n j : Nat} {ss ys zs : List Nat} {z : Nat → Bool}
theorem rowS_len : (rowS W n ss j).length = n := rm_len _ _
theorem rowS_bd (h : ∀ y ∈ ss, y < 1024) : ∀ y ∈ rowS W n ss j, y < 1024 := rm_mem fun q _ => at_lt h (by decide)
theorem good_unique (hn : n ≤ 1023) (h : GoodR W n ss z j ys) (k : GoodR W n ss z j zs) : ys = zs := near_unique (by rw [rowS_len]; exact hn) h.1 k.1
theorem near_len (h : Near (rowS W n ss j) ys) : ys.length = n := by
  obtain ⟨h1, _⟩ := h
  rw [rowS_len] at h1
  exact h1
end
/-- the words, each without its last sixteen symbols, woven -/
def sayW (W K : Nat) (ws : Nat → List Nat) : List Nat := wvOf ((List.range W).map fun j => (ws j).take K)
/-- the program's decoder, where a word is near -/
theorem dec_yes {cs : List Nat} (hcs : Tab cs) {A : Option Addr} {c : Nat} {xs ys : List Nat} {w : World} (hs : Sl w w.heap.size A xs) (h1 : 17 ≤ xs.length) (h2 : xs.length ≤ 1023) (hx : ∀ x ∈ xs, x < 1024) (hn : Near xs ys) :
    Calls Tryz.prog 118 #[.agg (cells cs), .slice A xs.length c] w fun e w' => ∃ A' c', e = .returned (.tuple #[.slice A' ys.length c', .int .i64 ((dl ys xs : Nat) : Int), .int .i64 0]) ∧ ys.length ≤ c' ∧ SlF w' w.heap.size A' ys ∧ Below w.heap.size w w' := by
  refine (decode_any cs hcs A c xs w hs (by omega)).mono ?_
  rintro e w' ⟨zs, n, f, A', c', hd, rfl, hc, hs', hb⟩
  rcases mdec_cases hd h1 h2 hx with ⟨rfl, hnr, rfl⟩ | ⟨_, _, _, hno⟩
  · obtain rfl := near_unique h2 hnr hn
    exact ⟨A', c', rfl, hc, hs', hb⟩
  · exact absurd hn (hno ys)
theorem dec_no {cs : List Nat} (hcs : Tab cs) {A : Option Addr} {c : Nat} {xs : List Nat} {w : World} (hs : Sl w w.heap.size A xs) (h1 : 17 ≤ xs.length) (h2 : xs.length ≤ 1023) (hx : ∀ x ∈ xs, x < 1024) (hn : ∀ c, ¬ Near xs c) :
    Calls Tryz.prog 118 #[.agg (cells cs), .slice A xs.length c] w fun e w' => ∃ A' c', e = .returned (.tuple #[.slice A' 0 c', .int .i64 0, .int .i64 4]) ∧ Below w.heap.size w w' := by
  refine (decode_any cs hcs A c xs w hs (by omega)).mono ?_
  rintro e w' ⟨zs, n, f, A', c', hd, rfl, hc, hs', hb⟩
  rcases mdec_cases hd h1 h2 hx with ⟨_, hnr, _⟩ | ⟨rfl, rfl, rfl, hno⟩
  · exact absurd hnr (hn zs)
  · exact ⟨A', c', rfl, hb⟩
end Go.Proofs.YtjhoecfhmndcgaaGreat
namespace Go.Proofs.YtjhoecfhmndcgaaGreat
open Go.RowKit Go.Gf Go.Fl
set_option linter.unusedVariables false
set_option linter.unusedSimpArgs false
set_option maxRecDepth 20000
attribute [local go_sem ↓] exec_load_tb Cl.quiet_since
attribute [local go_sem] tbAt_ptr tbIn_ptr

theorem isAggM (w : World) : (isAgg 27).run Tryz.prog w = .ok true w := by kernel_rfl
theorem sizeOfM (w : World) : (sizeOf 27).run Tryz.prog w = .ok 3 w := by kernel_rfl
theorem load_mark {w : World} {g : Nat} {k l q : Int} (h : Hed w g k l q) : (loadVar 27 ⟨g, 0, none⟩).run Tryz.prog w = .ok (.agg #[.int .i64 k, .int .i64 l, .int .i64 q]) w := by
  have h0 := h.c0
  have h1 := h.c1
  have h2 := h.c2
  have ha := isAggM w
  have hs := sizeOfM w
  unfold loadVar
  simp only [Sem.run_bind, ha, hs, Result.andThen_ok, if_true]
  simp [go_sem, h0, h1, h2]
theorem results_m3 {fn : Func} {t u v g : Nat} {w : World} {k l q : Int} {tmps : Array Value} (h : fn.results = #[.cell t 27, .tmp u, .tmp v]) (hp : tmps.getD t undef = .pointer (some ⟨g, 0, none⟩)) (hm : Hed w g k l q) :
    (results fn tmps).run Tryz.prog w = .ok (.tuple #[.agg #[.int .i64 k, .int .i64 l, .int .i64 q], tmps.getD u undef, tmps.getD v undef]) w := by
  have := load_mark hm
  have hp' : tmps[t]?.getD undef = .pointer (some ⟨g, 0, none⟩) := by simpa using hp
  simp [results, h, hp', asAddr, this]
theorem results_m4 {fn : Func} {t u v x g : Nat} {w : World} {k l q : Int} {tmps : Array Value} (h : fn.results = #[.cell t 27, .tmp u, .tmp v, .tmp x]) (hp : tmps.getD t undef = .pointer (some ⟨g, 0, none⟩)) (hm : Hed w g k l q) :
    (results fn tmps).run Tryz.prog w = .ok (.tuple #[.agg #[.int .i64 k, .int .i64 l, .int .i64 q], tmps.getD u undef, tmps.getD v undef, tmps.getD x undef]) w := by
  have := load_mark hm
  have hp' : tmps[t]?.getD undef = .pointer (some ⟨g, 0, none⟩) := by simpa using hp
  simp [results, h, hp', asAddr, this]
/-- the data of symbols, and what head they have, if a page may say them -/
def sayK (s : List Nat) : Nat := at_ s 0
def sayN (s : List Nat) : Nat := at_ s 1 * 1024 + at_ s 2
def sayQ (s : List Nat) : Nat := at_ s 3 * 1073741824 + at_ s 4 * 1048576 + at_ s 5 * 1024 + at_ s 6
def sayD (N : Nat) (s : List Nat) : List Nat := upk (s.drop 8) (10 * (N - 8) / 8)
/-- is it what a page says? -/
def sayB (N : Nat) (s : List Nat) : Bool := decide (1 ≤ sayK s) && decide (sayL N (sayK s) (sayN s) (sayQ s) (sayD N s) = s)
theorem say_of {N : Nat} {s : List Nat} (hs : ∀ x ∈ s, x < 1024) : sayK s < 1024 ∧ sayN s < 1048576 ∧ sayQ s < 1099511627776 := by
  have a := at_lt' hs
  have a0 := a 0
  have a1 := a 1
  have a2 := a 2
  have a3 := a 3
  have a4 := a 4
  have a5 := a 5
  have a6 := a 6
  unfold sayK sayN sayQ
  omega
theorem sayB_say {N k l q : Nat} {d : List Nat} (h : sayV N k l q d) : sayB N (sayL N k l q d) = true ∧ sayK (sayL N k l q d) = k ∧ sayN (sayL N k l q d) = l ∧ sayQ (sayL N k l q d) = q ∧ sayD N (sayL N k l q d) = d := by
  obtain ⟨e1, e2, e3, e4⟩ := say_back h rfl
  refine ⟨?_, e1.symm, e2.symm, e3.symm, e4.symm⟩
  unfold sayB
  rw [Bool.and_eq_true, decide_eq_true_eq, decide_eq_true_eq]
  unfold sayK sayN sayQ sayD
  rw [← e1, ← e2, ← e3, ← e4]
  exact ⟨h.1, rfl⟩
theorem numL_one (s : List Nat) : numL s 1 = at_ s 0 := by show 0 * 1024 + at_ s 0 = _; omega
theorem numL_two (s : List Nat) : numL s 2 = at_ s 0 * 1024 + at_ s 1 := by show (0 * 1024 + at_ s 0) * 1024 + at_ s 1 = _; omega
theorem numL_four (s : List Nat) : numL s 4 = at_ s 0 * 1073741824 + at_ s 1 * 1048576 + at_ s 2 * 1024 + at_ s 3 := by
  show (((0 * 1024 + at_ s 0) * 1024 + at_ s 1) * 1024 + at_ s 2) * 1024 + at_ s 3 = _
  omega
theorem Sl.part {w : World} {B : Nat} {a : Addr} {xs : List Nat} (h : Sl w B (some a) xs) (i n : Nat) (hi : i + n ≤ xs.length) : Sl w B (some (a.add i)) ((xs.drop i).take n) := by
  refine ⟨fun x hx => h.1 x (List.mem_of_mem_drop (List.mem_of_mem_take hx)), ?_⟩
  rcases h.2 with e | ⟨b, e, hb, hc⟩
  · left; rw [e]; simp
  · injection e with e
    subst e
    refine Or.inr ⟨_, rfl, by rw [add_block]; exact hb, fun j hj => ?_⟩
    have hj' : j < n := by simp at hj; omega
    have := hc (i + j) (by omega)
    rw [List.getElem_take, List.getElem_drop]
    rw [show (a.add i).add j = a.add (i + j) by unfold Addr.add; split <;> split <;> split <;> simp_all <;> omega]
    exact this
set_option maxHeartbeats 4000000 in
theorem equal_any {A B : Option Addr} {ca cb : Nat} {xs ys : List Nat} {w : World} (ha : Sl w w.heap.size A xs) (hb : Sl w w.heap.size B ys) (hx : xs.length ≤ 1000000) (hy : ys.length ≤ 1000000) :
    Calls Tryz.prog 92 #[.slice A xs.length ca, .slice B ys.length cb] w fun e w' => e = .returned (.bool (decide (xs = ys))) ∧ Below w.heap.size w w' := by
  have HA := Lib.hid ha
  have HB := Lib.hid hb
  clear ha hb
  by_cases hl : xs.length = ys.length
  · have hq : Hid (∀ k, k < xs.length → at_ xs k ≠ at_ ys k → decide (xs = ys) = false) := fun k hk h => decide_eq_false fun e => h (by rw [e])
    have hq2 : Hid ((∀ k, k < xs.length → at_ xs k = at_ ys k) → decide (xs = ys) = true) := fun h => decide_eq_true (ext_at hl h)
    generalize decide (xs = ys) = D at *
    obtain ⟨n, hn⟩ : ∃ n, ys.length = n := ⟨_, rfl⟩
    rw [hn] at hl hy ⊢
    have hX := Lib.hid hl
    have hY := Lib.hid hn
    rw [hl] at hq hq2 ⊢
    clear hl hn hx
    have hne : ((n : Int) != (n : Int)) = false := by simp
    go_enter Tryz.func92, Tryz.ntmps92
    go_wp2_with fail
    go_loopw [13] (fun p wr => ∃ q : Nat, q ≤ n ∧ p = .int .i64 q ∧ Hid (∀ k, k < q → at_ xs k = at_ ys k) ∧ Below w.heap.size w wr) (fun p _ => n - (intOf p).toNat)
    case atStart => exact ⟨0, Nat.zero_le _, rfl, Lib.hid (fun k h => absurd h (by omega)), Below.refl _ _⟩
    case round =>
      obtain ⟨q, hq', rfl, hK, hB⟩ := hrel
      by_cases hlt : q < n
      · have hqI : (q : Int) < (n : Int) := by omega
        have hd : decide (q < n) = true := decide_eq_true hlt
        obtain ⟨a, rfl, hab, hca⟩ := (HA.out.below hB).at_ (i := q) (by rw [hX.out]; exact hlt)
        obtain ⟨b, rfl, hbb, hcb⟩ := (HB.out.below hB).at_ (i := q) (by rw [hY.out]; exact hlt)
        rw [← at_get (by rw [hX.out]; exact hlt)] at hca
        rw [← at_get (by rw [hY.out]; exact hlt)] at hcb
        have hno := Lib.hid (hq.out q hlt)
        have hyes : Hid (at_ xs q = at_ ys q → ∀ k, k < q + 1 → at_ xs k = at_ ys k) := fun e k hk => by
          by_cases h : k = q
          · rw [h]; exact e
          · exact hK.out k (by omega)
        obtain ⟨s, hs⟩ : ∃ s, at_ xs q = s := ⟨_, rfl⟩
        obtain ⟨t, ht⟩ : ∃ t, at_ ys q = t := ⟨_, rfl⟩
        rw [hs] at hca hno hyes
        rw [ht] at hcb hno hyes
        have hst : ((s : Int) != (t : Int)) = !decide (s = t) := by
          rw [Bool.eq_iff_iff, bne_iff_ne]
          simp
          omega
        have hBd : ∀ k, Below w.heap.size w (wr.drewN k) := fun k => below_drewN hB k
        replace hBd := Lib.hid hBd
        clear hB hs ht
        by_cases e : s = t
        · subst e
          have hst : ((s : Int) != (s : Int)) = false := by simp
          have hy' := Lib.hid (hyes.out rfl)
          clear hno hyes
          go_wp2_with fail
          go_quiet (fail)
          go_wp2_with fail
          go_roundw
          case rel => exact ⟨q + 1, by omega, by go_num, hy', by first | exact hBd.out _ | exact hBd.out 0⟩
          case measure => simp [intOf]; omega
        · have hst : ((s : Int) != (t : Int)) = true := by rw [bne_iff_ne]; omega
          have hD := Lib.hid (hno.out e)
          clear hno hyes
          go_wp2_with fail
          go_quiet (fail)
          go_wp2_with fail
          go_ret
          refine ⟨by rw [hD.out]; rfl, ?_⟩
          first | exact hBd.out _ | exact hBd.out 0
      · obtain rfl : q = n := by omega
        have hd : decide (q < q) = false := decide_eq_false (Nat.lt_irrefl _)
        have hD := Lib.hid (hq2.out hK.out)
        replace hB := Lib.hid hB
        go_wp2_with fail
        go_ret
        exact ⟨by rw [hD.out]; rfl, hB.out⟩
  · have hd : decide (xs = ys) = false := decide_eq_false fun e => hl (by rw [e])
    have hne : ((xs.length : Int) != (ys.length : Int)) = true := by simp; exact_mod_cast hl
    rw [hd]
    go_enter Tryz.func92, Tryz.ntmps92
    go_wp2_with fail
    go_ret
    exact ⟨rfl, Below.refl _ _⟩
end Go.Proofs.YtjhoecfhmndcgaaGreat
namespace Go.Proofs.YtjhoecfhmndcgaaGreat
open Go.RowKit Go.Gf
/-- block g begins with the n values that f says, and may be written -/
def PreV (w : World) (T : TypeId) (g n : Nat) (f : Nat → Value) : Prop := ∃ cur, w.heap[g]? = some (.cells cur T (0, 0)) ∧ ∀ i, i < n → cur[i]? = some (f i)
section
variable {w w' : World} {T : TypeId} {g n : Nat} {f : Nat → Value}
theorem PreV.lt (h : PreV w T g n f) : g < w.heap.size := by
  obtain ⟨cur, h, _⟩ := h
  rcases Nat.lt_or_ge g w.heap.size with hlt | hge
  · exact hlt
  · rw [Array.getElem?_eq_none hge] at h; cases h
theorem PreV.cell (h : PreV w T g n f) {i : Nat} (hi : i < n) : w.cell? ⟨g, i, none⟩ = some (f i) := by
  obtain ⟨cur, h, hc⟩ := h
  rw [cell_of_row w g i _ T (0, 0) h]
  exact hc i hi
theorem PreV.frozen (h : PreV w T g n f) (i : Nat) : w.frozen? ⟨g, i, none⟩ = false := by
  obtain ⟨cur, h, hc⟩ := h
  simp [World.frozen?, h]
theorem PreV.set_ (h : PreV w T g n f) (i : Nat) (v : Value) : PreV (w.setCell ⟨g, i, none⟩ v) T g n (fun j => if j = i then v else f j) := by
  obtain ⟨cur, h, hc⟩ := h
  refine ⟨cur.setIfInBounds i v, ?_, fun j hj => ?_⟩
  · simp only [World.setCell]
    rw [Array.getElem?_modify, h]
    simp
  · have := hc j hj
    have hlt : j < cur.size := (Array.getElem?_eq_some_iff.1 this).1
    rw [Array.getElem?_setIfInBounds]
    by_cases e : i = j
    · subst e; simp [hlt]
    · rw [if_neg e]
      show _ = some (if j = i then v else f j)
      rw [if_neg (Ne.symm e)]; exact this
theorem PreV.congr (h : PreV w T g n f) {f' : Nat → Value} (e : ∀ j, j < n → f j = f' j) : PreV w T g n f' := by
  obtain ⟨cur, h, hc⟩ := h
  exact ⟨cur, h, fun i hi => by rw [← e i hi]; exact hc i hi⟩
theorem PreV.keep (h : PreV w T g n f) (hb : w'.heap[g]? = w.heap[g]?) : PreV w' T g n f := by
  obtain ⟨cur, h, hc⟩ := h
  exact ⟨cur, hb.trans h, hc⟩
theorem PreV.below (h : PreV w T g n f) (hb : Below w.heap.size w w') : PreV w' T g n f := h.keep (hb.block g h.lt)
end
end Go.Proofs.YtjhoecfhmndcgaaGreat
namespace Go.Proofs.YtjhoecfhmndcgaaGreat
open Go.RowKit Go.Gf
set_option linter.unusedVariables false
set_option linter.unusedSimpArgs false
set_option maxRecDepth 20000
attribute [local go_sem ↓] exec_load_tb Cl.quiet_since
attribute [local go_sem] tbAt_ptr tbIn_ptr

theorem refin_row {W K N : Nat} {A : Option Addr} {c : Nat} {s : List Nat} {w : World} (hN : W * K = N) (hW : 1 ≤ W ∧ W ≤ 4) (hK : 1 ≤ K) (hs : Sl w w.heap.size A s) (hl : s.length = N) (h6 : N ≤ 1000000) :
    Calls Tryz.prog 33 #[.int .i64 (W : Int), .slice A s.length c] w fun e w' => ∃ g f, e = .returned (.tuple #[.slice (some ⟨g, 0, none⟩) W W, .int .i64 0]) ∧ w.heap.size ≤ g ∧ RowsI w' g W f (fun j => (dealt W s).getD j []) ∧ Below w.heap.size w w' := by
  have hmay : mayB (W : Int) = true := by
    unfold mayB
    rw [Bool.and_eq_true, decide_eq_true_eq, decide_eq_true_eq]; omega
  have hE : inE (W : Int) s = 0 := inE_ok hmay (by
    rw [Int.toNat_natCast, hl, ← hN, Nat.mul_mod_right]
    have : 1 ≤ W * K := Nat.mul_le_mul hW.1 hK
    omega)
  have hR : inW (W : Int) s = dealt W s := by unfold inW; rw [hE, if_pos rfl, Int.toNat_natCast]
  have hin := refin_any (W : Int) A c s w hs (by omega)
  rw [hE, hR] at hin
  refine hin.mono ?_
  rintro e w1 ⟨h1, hb1⟩
  have hdl := dealt_len W s
  rcases h1 with ⟨h1, _⟩ | ⟨g, f, rfl, ho⟩
  · rw [h1] at hdl; simp at hdl; omega
  rw [hdl] at ho ⊢
  exact ⟨g, f, rfl, ho.at0, ho.rowsI, hb1⟩
theorem and_ten (n : Nat) (h : n < 1099511627776) : bits .and .i64 (n : Int) 1023 = ((n % 1024 : Nat) : Int) := by
  show IntKind.i64.wrap ((BitVec.ofInt 64 (n : Int) &&& BitVec.ofInt 64 ((1023 : Nat) : Int)).toNat : Int) = _
  rw [BitVec.toNat_and, ofInt_u64 n (by omega), ofInt_u64 1023 (by omega), Nat.and_two_pow_sub_one_eq_mod n 10]
  rw [IntWalk.i64_in _ (by omega)]
set_option maxHeartbeats 2000000 in
theorem rhead_any {k l q : Nat} {w : World} (hk : k < 1024) (hl : l < 1048576) (hq : q < 1099511627776) :
    Calls Tryz.prog 31 #[.agg #[.int .i64 (k : Int), .int .i64 (l : Int), .int .i64 (q : Int)]] w (RowP w (headL k l q)) := by
  have a1 := and_ten l (by omega)
  have a2 := and_ten (q / 1073741824) (by omega)
  have a3 := and_ten (q / 1048576) (by omega)
  have a4 := and_ten (q / 1024) (by omega)
  have a5 := and_ten q (by omega)
  go_enter Tryz.func31, Tryz.ntmps31
  go_wp2_with fail
  go_ret
  have hq2 : ((q / 1073741824 : Nat) : Int) = (q : Int) / 1073741824 := by omega
  have hq3 : ((q / 1048576 : Nat) : Int) = (q : Int) / 1048576 := by omega
  have hq4 : ((q / 1024 : Nat) : Int) = (q : Int) / 1024 := by omega
  rw [hq2] at a2
  rw [hq3] at a3
  rw [hq4] at a4
  rw [a2, a3, a4]
  have e1 : IntKind.u16.wrap ((q / 1073741824 % 1024 : Nat) : Int) = ((q / 1073741824 : Nat) : Int) := by
    show ((q / 1073741824 % 1024 : Nat) : Int) % 65536 = _
    omega
  have e2 : IntKind.u16.wrap ((q / 1048576 % 1024 : Nat) : Int) = ((q / 1048576 % 1024 : Nat) : Int) := by
    show ((q / 1048576 % 1024 : Nat) : Int) % 65536 = _
    omega
  have e3 : IntKind.u16.wrap ((q / 1024 % 1024 : Nat) : Int) = ((q / 1024 % 1024 : Nat) : Int) := by
    show ((q / 1024 % 1024 : Nat) : Int) % 65536 = _
    omega
  rw [e1, e2, e3]
  obtain ⟨w1, hw1⟩ : ∃ w1, w1 = w.alloc (.cells #[.int .i64 (k : Int), .int .i64 (l : Int), .int .i64 (q : Int)] 27) := ⟨_, rfl⟩
  rw [← hw1]
  have hb1 : Below w.heap.size w w1 := by rw [hw1]; exact Ge.below_alloc w _
  have hz : w1.heap.size = w.heap.size + 1 := by rw [hw1, World.size_alloc]
  have hA := Arr.new w1 (headL k l q)
  have hE : ((headL k l q).map uv).toArray = #[.int .u16 (k : Int), .int .u16 ((l : Int) / 1024), .int .u16 ((l : Int) % 1024), .int .u16 ((q / 1073741824 : Nat) : Int), .int .u16 ((q / 1048576 % 1024 : Nat) : Int), .int .u16 ((q / 1024 % 1024 : Nat) : Int), .int .u16 ((q : Int) % 1024), .int .u16 0] := by
    simp [headL, uv]
  rw [hE, hz] at hA
  have hb2 := hb1.trans ((Ge.below_alloc w1 (.cells #[.int .u16 (k : Int), .int .u16 ((l : Int) / 1024), .int .u16 ((l : Int) % 1024), .int .u16 ((q / 1073741824 : Nat) : Int), .int .u16 ((q / 1048576 % 1024 : Nat) : Int), .int .u16 ((q / 1024 % 1024 : Nat) : Int), .int .u16 ((q : Int) % 1024), .int .u16 0] 46)).mono hb1.size)
  refine ⟨.slice (some ⟨w.heap.size + 1, 0, none⟩) 8 8, rfl, ?_, hb2⟩
  have hO : Own w _ (w.heap.size + 1) 8 (at_ (headL k l q)) := ⟨by omega, hb2, by
    have e := rm_at (headL k l q)
    rw [headL_len] at e
    rw [e]
    exact hA⟩
  have := hO.owns (fun j _ => Nat.lt_trans (at_lt (head_bd hk hl hq) (by decide)) (by decide)) (by decide)
  have e := rm_at (headL k l q)
  rw [headL_len] at e
  rwa [e] at this
/-- numbers don't lie where slices do -/
theorem RowsI.ne {w : World} {g n B : Nat} {f : Nat → Value} {ws : Nat → List Nat} {A : Option Addr} {ys : List Nat} (h : RowsI w g n f ws) (hs : Sl w B A ys) (hy : ys ≠ []) : ∀ a, A = some a → a.block ≠ g := by
  intro a e hg
  rcases hs.2 with e2 | ⟨a', e2, hb, hc⟩
  · exact hy e2
  · rw [e] at e2
    injection e2 with e2
    subst e2
    have h0 : 0 < ys.length := List.length_pos_iff.2 hy
    have := hc 0 h0
    have hv := h.vs
    unfold Vs at hv
    unfold World.cell? at this
    rw [add_block, hg, hv] at this
    dsimp only at this
    split at this
    · cases this
    · rw [List.getElem?_toArray, List.getElem?_map] at this
      obtain ⟨j, hj, hj2⟩ := Option.map_eq_some_iff.1 this
      have hjn : j < n := by
        have := List.mem_of_getElem? hj
        exact List.mem_range.1 this
      obtain ⟨A', c', h1, _⟩ := h.row j hjn
      rw [h1] at hj2
      cases hj2
set_option maxHeartbeats 8000000 in
theorem make_rf {B P W K k l q : Int} {A : Option Addr} {c : Nat} {d : List Nat} {w : World} (hs : Sb w w.heap.size A d) (hl : d.length ≤ 1000000) :
    Calls Tryz.prog 14 #[.agg #[.int .i64 B, .int .i64 P, .int .i64 W, .int .i64 K], .agg #[.int .i64 k, .int .i64 l, .int .i64 q], .slice A d.length c] w (RowV w (mkW B P W K k l q d) (mkE B P W K k l q d.length)) := by
  have H := Lib.hid hs
  obtain ⟨wb, hwb⟩ : ∃ wb, wb = w.alloc (.cells #[.int .i64 B, .int .i64 P, .int .i64 W, .int .i64 K] 34) := ⟨_, rfl⟩
  obtain ⟨wc, hwc⟩ : ∃ wc, wc = wb.alloc (.cells #[.int .i64 k, .int .i64 l, .int .i64 q] 27) := ⟨_, rfl⟩
  have hzb : wb.heap.size = w.heap.size + 1 := by rw [hwb, World.size_alloc]
  have hbb : Below w.heap.size w wb := by rw [hwb]; exact Ge.below_alloc w _
  have hbc' : Below wb.heap.size wb wc := by rw [hwc]; exact Ge.below_alloc wb _
  have hbc : Below w.heap.size w wc := hbb.trans (hbc'.mono hbb.size)
  have hX : Ge.Box wc w.heap.size B P W K := by
    have := Ge.Box.new w B P W K
    rw [← hwb] at this
    exact this.keep hbc'
  have hH : Hed wc (w.heap.size + 1) k l q := by
    have := Hed.new wb k l q
    rwa [← hwc, hzb] at this
  have hmay := Lib.hid (Ge.refmay_any B P W K wc)
  cases hM : Ge.mayG B P W K
  · rw [hM] at hmay
    have hE := mkE_arg (k := k) (l := l) (q := q) (n := d.length) (Or.inl hM)
    have hR : mkW B P W K k l q d = [] := by unfold mkW; rw [hE]; rfl
    rw [hE, hR]
    obtain ⟨x1, x2, x3, x4, x5⟩ := hX
    rw [hwc, hwb] at hmay x2 x3 x4 x5 hbc
    replace hbc := Lib.hid hbc
    clear hwb hwc hzb hbc' hbb hH hE hR
    go_enter Tryz.func14, Tryz.ntmps14
    go_wp2_with (go_at_call 11; (with_reducible refine hmay.out.mono ?_); rintro e w1 ⟨rfl, hb1⟩)
    go_ret2
    exact RowV.nil (hbc.out.trans (hb1.mono hbc.out.size))
  · rw [hM] at hmay
    obtain ⟨x1, x2, x3, x4, x5⟩ := id hX
    rw [hwc, hwb] at hmay x2 x3 x4 x5
    obtain ⟨b1, d1⟩ : ∃ b, decide (k < 1) = b := ⟨_, rfl⟩
    obtain ⟨b2, d2⟩ : ∃ b, decide (1023 < k) = b := ⟨_, rfl⟩
    obtain ⟨b3, d3⟩ : ∃ b, decide (l < 0) = b := ⟨_, rfl⟩
    obtain ⟨b4, d4⟩ : ∃ b, decide (1048576 ≤ l) = b := ⟨_, rfl⟩
    obtain ⟨b5, d5⟩ : ∃ b, decide (q < 0) = b := ⟨_, rfl⟩
    obtain ⟨b6, d6⟩ : ∃ b, decide (1099511627776 ≤ q) = b := ⟨_, rfl⟩
    have hm : Hid (mkB k l q = !(b1 || b2 || b3 || b4 || b5 || b6)) := by
      unfold Hid mkB
      rw [← d1, ← d2, ← d3, ← d4, ← d5, ← d6, Bool.eq_iff_iff]
      simp only [Bool.not_eq_true', Bool.or_eq_false_iff, decide_eq_true_eq, decide_eq_false_iff_not]
      omega
    cases hB : mkB k l q
    · have hE := mkE_arg (B := B) (P := P) (W := W) (K := K) (n := d.length) (Or.inr hB)
      have hR : mkW B P W K k l q d = [] := by unfold mkW; rw [hE]; rfl
      rw [hE, hR]
      rw [hB] at hm
      clear hE hR hM hB
      cases b1
      cases b2
      cases b3
      cases b4
      cases b5
      cases b6
      · exact absurd hm.out (by decide)
      all_goals
        go_enter Tryz.func14, Tryz.ntmps14
        go_wp2_with (go_at_call 11; (with_reducible refine hmay.out.mono ?_); rintro e w1 ⟨rfl, hb1⟩; rw [← hwb, ← hwc] at hb1; have hX1 := hX.keep hb1; have hH1 := hH.keep hb1; have hbw1 := hbc.trans (hb1.mono hbc.size); obtain ⟨k1, k2, k3, k4⟩ := hH1)
        go_ret2
        exact RowV.nil hbw1
    · rw [hB] at hm
      have hb0 : b1 = false ∧ b2 = false ∧ b3 = false ∧ b4 = false ∧ b5 = false ∧ b6 = false := by
        have := hm.out
        revert this
        cases b1 <;> cases b2 <;> cases b3 <;> cases b4 <;> cases b5 <;> cases b6 <;> simp
      obtain ⟨rfl, rfl, rfl, rfl, rfl, rfl⟩ := hb0
      clear hm
      by_cases hsize : (d.length : Int) = Ge.sizG B P W K
      · obtain ⟨k', l', q', hk', hl', hq', hk1, hk2, hl2, hq2⟩ := mkB_of hB
        obtain ⟨W', K', N, rfl, rfl, hN, hW1, hW4, hK1, hK64, h8, h256, hsg, _⟩ := mayG_of hM
        have hE := mkE_ok hM hB hsize
        have hR : mkW B P (W' : Int) (K' : Int) k l q d = pageL W' (sayL N k' l' q' d) := by
          unfold mkW
          rw [hE, if_pos rfl, show ((W' : Int) * (K' : Int)).toNat = N by rw [← hN, ← Int.natCast_mul, Int.toNat_natCast], hk', hl', hq']
          rfl
        rw [hE, hR]
        have hd : d.length = 10 * (N - 8) / 8 := by rw [hsg] at hsize; exact Int.ofNat.inj hsize
        have hne : ((d.length : Int) != Ge.sizG B P (W' : Int) (K' : Int)) = false := by simp [hsize]
        have hsl := Lib.hid (say_len (k := k') (l := l') (q := q') hd (by omega))
        have hsb := Lib.hid (say_bd (N := N) (d := d) hk2 hl2 hq2)
        have hse := Lib.hid (say_eq (k := k') (l := l') (q := q') hd)
        have hpl := Lib.hid (pk_size hd)
        have hNI : (W' : Int) * (K' : Int) = (N : Int) := by rw [← hN]; push_cast; rfl
        replace hd := Lib.hid hd
        replace hk' := Lib.hid hk'
        replace hl' := Lib.hid hl'
        replace hq' := Lib.hid hq'
        clear hE hR hM hsize hsg
        go_enter Tryz.func14, Tryz.ntmps14
        go_wp2_with (first
          | (go_at_call 11; (with_reducible refine hmay.out.mono ?_); rintro e w1 ⟨rfl, hb1⟩; rw [← hwb, ← hwc] at hb1; have hX1 := hX.keep hb1; have hH1 := hH.keep hb1; have hbw1 := hbc.trans (hb1.mono hbc.size); obtain ⟨k1, k2, k3, k4⟩ := id hH1; obtain ⟨n1, n2, n3, n4, n5⟩ := id hX1; have hsz := Lib.hid (Ge.refsize_any B P (W' : Int) (K' : Int) w1))
          | (go_at_call 15; (with_reducible refine hsz.out.mono ?_); rintro e w2 ⟨rfl, hb2⟩; have hX2 := hX1.keep hb2; have hH2 := hH1.keep hb2; have hbw2 := hbw1.trans (hb2.mono hbw1.size); obtain ⟨l1, l2, l3, l4⟩ := id hH2; obtain ⟨u1, u2, u3, u4, u5⟩ := id hX2; have hhd := rhead_any (w := w2) hk2 hl2 hq2; rw [← hk'.out, ← hl'.out, ← hq'.out] at hhd; replace hhd := Lib.hid hhd)
          | (go_at_call 31; (with_reducible refine hhd.out.mono ?_); rintro e w3 ⟨v3, rfl, ho3, hb3⟩; have hbw3 := hbw2.trans (hb3.mono hbw2.size); have hX3 := hX2.keep hb3; have hpk := Lib.hid (refpack_any A c d w3 (H.out.far hbw3) hl))
          | (go_at_call 32; (with_reducible refine hpk.out.mono ?_); rintro e w4 ⟨g4, rfl, hg4, hA4, hb4⟩; have hbw4 := hbw3.trans (hb4.mono hbw3.size); have hX4 := hX3.keep hb4; have ho4 := ho3.keep hb4; have hb24 := hb3.trans (hb4.mono hb3.size); have hs4 := Lib.hid (hA4.sl (fun x hx => by have := pk_bd d x hx; omega)))
          | (refine app_law (w0 := w2) rfl (.tmp 53) (.tmp 55) rfl v3 (headL k' l' q') rfl ho4 hb24 (some ⟨g4, 0, none⟩) (pk d).length (pk d) (pk d).length rfl rfl hs4.out (by intro e; have := hpl.out; rw [e] at this; simp at this; omega) (by rw [headL_len, hpl.out]; omega) ?_))
        intro v5 w5 ho5 hb5 hb25 hz5
        clear hz5
        rw [← hse.out] at ho5
        have hX5 := hX2.keep hb5
        have hbw5 := hbw2.trans (hb5.mono hbw2.size)
        obtain ⟨A5, c5, rfl, hc5, hs5⟩ := ho5.sl
        rw [hsl.out] at hc5 ⊢
        obtain ⟨y1, y2, y3, y4, y5⟩ := id hX5
        have hin := Lib.hid (refin_row (c := c5) hN ⟨hW1, hW4⟩ hK1 hs5 hsl.out (by omega))
        rw [hsl.out] at hin
        replace hX5 := Lib.hid hX5
        replace hbw5 := Lib.hid hbw5
        clear hX4 hX3 hX2 hX1 hX hH hH1 hH2 hb1 hb2 hb3 hb4 hb24 hb5 hb25 ho4 ho3 ho5 hA4 hs4 hpk hhd hsz hmay hwb hwc hzb hbb hbc' hbc hbw1 hbw2 hbw3 hbw4 k1 k2 k3 k4 n1 n2 n3 n4 n5 l1 l2 l3 l4 u1 u2 u3 u4 u5 x1 x2 x3 x4 x5
        go_wp2_with fail
        go_loop [8] (fun p => p = .slice A5 N c5) (fun _ => 0)
        case atStart => rfl
        case round =>
          obtain rfl := hrel
          go_wp2_with (go_at_call 33; (with_reducible refine hin.out.mono ?_); rintro e w6 ⟨g, f, rfl, hat, hR6, hb6⟩)
          have hX6 := Lib.hid (hX5.out.keep hb6)
          have hbw6 := Lib.hid (hbw5.out.trans (hb6.mono hbw5.out.size))
          have hgx : w.heap.size < g := by have := hX5.out.lt; omega
          obtain ⟨S, hS⟩ : ∃ S, sayL N k' l' q' d = S := ⟨_, rfl⟩
          rw [hS] at hR6 hsl hsb ⊢
          have hne : ∀ j, j < W' → (dealt W' S).getD j [] ∈ dealt W' S := fun j hj => getD_mem (by rw [dealt_len]; exact hj)
          have hrl : Hid (∀ j, j < W' → ((dealt W' S).getD j []).length = K') := fun j hj => dealt_all (by rw [hsl.out, hN]) (by omega) _ (hne j hj)
          have hrb : Hid (∀ j, j < W' → ∀ y ∈ (dealt W' S).getD j [], y < 1024) := fun j hj => dealt_bd (by decide) hsb.out _ (hne j hj)
          have hR6' := Lib.hid hR6
          clear hin hs5 hb6 hX5 hbw5 hat y1 y2 y3 y4 y5 hne hR6
          go_loopw [11] (fun p wr => ∃ i : Nat, i ≤ W' ∧ p = .int .i64 i ∧ (∃ f, RowsI wr g W' f (fun j => if j < i then enc ((dealt W' S).getD j []) else (dealt W' S).getD j [])) ∧ Ge.Box wr w.heap.size B P W' K' ∧ Below w.heap.size w wr) (fun p _ => W' - (intOf p).toNat)
          case atStart => exact ⟨0, Nat.zero_le _, rfl, ⟨f, hR6'.out.congr fun j _ => by rw [if_neg (by omega)]⟩, hX6.out, hbw6.out⟩
          case round =>
            clear hR6' hX6 hbw6
            obtain ⟨i, hi, rfl, ⟨f', hR⟩, hX, hB'⟩ := hrel
            have hx2 := hX.c2
            by_cases hlt : i < W'
            · have hiI : (i : Int) < (W' : Int) := by omega
              have hdi : decide (i < W') = true := decide_eq_true hlt
              obtain ⟨D, cD, hfi, hcD, hsD, hDne⟩ := hR.row i hlt
              rw [if_neg (by omega)] at hfi hcD hsD
              have hcl := hR.vs.cell hlt
              rw [hfi] at hcl
              have hrli := hrl.out i hlt
              have hec := Lib.hid (refenc_any D cD _ wr hsD (by omega))
              have hee : encE ((dealt W' S).getD i []) = 0 := encE_ok (by omega) (fun k hk => hrb.out i hlt _ (List.getElem_mem hk))
              have hew : encW ((dealt W' S).getD i []) = enc ((dealt W' S).getD i []) := by unfold encW; rw [hee, if_pos rfl]
              rw [hee, hew] at hec
              generalize hrow : (dealt W' S).getD i [] = row at *
              replace hrli := Lib.hid hrli
              have hxl : Hid (enc row ≠ []) := by
                intro e
                have := enc_len row
                rw [e] at this; simp at this
              go_wp2_with (go_at_call 34; (with_reducible refine hec.out.mono ?_); rintro e w2 ⟨A2, c2, rfl, hc2, hs2, hb2⟩; have hR2 := hR.keep hb2; obtain ⟨V2, hcl2⟩ : ∃ V, w2.cell? ⟨g, i, none⟩ = some V := ⟨_, hR2.vs.cell hlt⟩; have hfz2 := hR2.vs.frozen i)
              go_roundw
              case measure => simp [intOf]; omega
              case rel =>
                have hR3 := hR2.lay hlt hc2 hs2 (Or.inr (hR2.ne hs2 hxl.out))
                refine ⟨i + 1, by omega, by go_num, ⟨_, hR3.congr fun j hj => ?_⟩, (hX.keep hb2).other _ (by omega), (hB'.trans (hb2.mono hB'.size)).setCell (show w.heap.size ≤ g by omega) _⟩
                show (if j = i then enc row else if j < i then enc ((dealt W' S).getD j []) else (dealt W' S).getD j []) = if j < i + 1 then enc ((dealt W' S).getD j []) else (dealt W' S).getD j []
                by_cases e : j = i
                · rw [if_pos e, if_pos (by omega), e, hrow]
                · rw [if_neg e]
                  by_cases h : j < i
                  · rw [if_pos h, if_pos (by omega)]
                  · rw [if_neg h, if_neg (by omega)]
            · obtain rfl : i = W' := by omega
              have hd : decide (i < i) = false := decide_eq_false (Nat.lt_irrefl _)
              have hws : ((List.range i).map fun j => if j < i then enc ((dealt i S).getD j []) else (dealt i S).getD j []) = rowsL i S := by
                apply List.ext_getElem
                · rw [List.length_map, List.length_range, rowsL_len]
                · intro j h1 h2
                  have hj : j < i := by simpa using h1
                  simp only [List.getElem_map, List.getElem_range]
                  rw [if_pos hj, ← rowsL_getD hj, List.getD_eq_getElem?_getD, List.getElem?_eq_getElem h2, Option.getD_some]
              have hsw := hR.sw
              rw [hws] at hsw
              have hlen := rowsL_len (W := i) (s := S)
              have hall := rowsL_all (W := i) (n := K') (s := S) (by rw [hsl.out, hN]) (by omega)
              have hE : outE (i : Int) (rowsL i S) = 0 := outE_ok (by unfold mayB; rw [Bool.and_eq_true, decide_eq_true_eq, decide_eq_true_eq]; omega) (by rw [hlen]) (unl_false fun k hk => by rw [hall _ (List.getElem_mem hk), wvN_all hall (by intro e; rw [e] at hlen; simp at hlen; omega)]) (by rw [wvN_all hall (by intro e; rw [e] at hlen; simp at hlen; omega)]; omega)
              have hO : outW (i : Int) (rowsL i S) = pageL i S := by unfold outW; rw [hE, if_pos rfl]; rfl
              have hout := refout_any (i : Int) (some ⟨g, 0, none⟩) i (rowsL i S) wr hsw (by omega) (fun x hx => by rw [hall x hx]; omega)
              rw [hE, hO, hlen] at hout
              replace hout := Lib.hid hout
              replace hB' := Lib.hid hB'
              clear hsw hR hX hlen hall hE hO hws
              go_wp2_with (go_at_call 35; (with_reducible refine hout.out.mono ?_); rintro e w2 ⟨v2, rfl, ho2, hb2⟩)
              go_ret2
              refine ⟨v2, rfl, ?_, hB'.out.trans (hb2.mono hB'.out.size)⟩
              rw [hS]
              exact ho2.low hB'.out.size
      · have hE := mkE_size hM hB hsize
        have hR : mkW B P W K k l q d = [] := by unfold mkW; rw [hE]; rfl
        rw [hE, hR]
        have hne : ((d.length : Int) != Ge.sizG B P W K) = true := by simp [hsize]
        clear hE hR hM hsize
        go_enter Tryz.func14, Tryz.ntmps14
        go_wp2_with (first
          | (go_at_call 11; (with_reducible refine hmay.out.mono ?_); rintro e w1 ⟨rfl, hb1⟩; rw [← hwb, ← hwc] at hb1; have hX1 := hX.keep hb1; have hH1 := hH.keep hb1; have hbw1 := hbc.trans (hb1.mono hbc.size); obtain ⟨k1, k2, k3, k4⟩ := id hH1; obtain ⟨n1, n2, n3, n4, n5⟩ := id hX1; have hsz := Lib.hid (Ge.refsize_any B P W K w1))
          | (go_at_call 15; (with_reducible refine hsz.out.mono ?_); rintro e w2 ⟨rfl, hb2⟩; have hX2 := hX1.keep hb2; have hH2 := hH1.keep hb2; have hbw2 := hbw1.trans (hb2.mono hbw1.size); obtain ⟨l1, l2, l3, l4⟩ := id hH2; obtain ⟨u1, u2, u3, u4, u5⟩ := id hX2))
        go_ret2
        exact RowV.nil hbw2
end Go.Proofs.YtjhoecfhmndcgaaGreat
