/- Statement WeaveBursts: for every number of words, place and number of symbols the law returns true. -/
import Derived.Test.YtpanmjohmgjigaaVj
namespace Go.Proofs.Ytpanmjohmgjigaa
open Go.RowKit Go.Gf

theorem info3 : (Try.prog.info? 3).map (fun i => (i.zero, i.size, i.bytes)) = some (some (.int .i64 0), 1, 8) := by kernel_rfl
/-- block g is just the n numbers that f says, and may be written -/
def Is64 (w : World) (g n : Nat) (f : Nat → Nat) : Prop := w.heap[g]? = some (.cells ((List.range n).map fun j => Value.int .i64 ((f j : Nat) : Int)).toArray 3 (0, 0))
section
variable {w w' : World} {g n : Nat} {f : Nat → Nat}
theorem Is64.lt (h : Is64 w g n f) : g < w.heap.size := by
  rcases Nat.lt_or_ge g w.heap.size with hlt | hge
  · exact hlt
  · unfold Is64 at h; rw [Array.getElem?_eq_none hge] at h; cases h
theorem Is64.cell (h : Is64 w g n f) {i : Nat} (hi : i < n) : w.cell? ⟨g, i, none⟩ = some (.int .i64 ((f i : Nat) : Int)) := by
  rw [cell_of_row w g i _ 3 (0, 0) h]
  simp [hi]
theorem Is64.frozen (h : Is64 w g n f) (i : Nat) : w.frozen? ⟨g, i, none⟩ = false := by
  unfold Is64 at h
  simp [World.frozen?, h]
theorem Is64.set_ (h : Is64 w g n f) (i v : Nat) : Is64 (w.setCell ⟨g, i, none⟩ (.int .i64 (v : Int))) g n (fun j => if j = i then v else f j) := by
  unfold Is64 at h ⊢
  simp only [World.setCell]
  rw [Array.getElem?_modify, h]
  have e : (List.map (fun j => Value.int .i64 ((f j : Nat) : Int)) (List.range n)).set i (.int .i64 (v : Int)) = List.map (fun j => Value.int .i64 (((if j = i then v else f j : Nat)) : Int)) (List.range n) := by
    apply List.ext_getElem
    · simp
    · intro j h1 h2
      rw [List.getElem_set]
      simp only [List.getElem_map, List.getElem_range]
      by_cases e : i = j
      · rw [if_pos e, if_pos e.symm]
      · rw [if_neg e, if_neg (Ne.symm e)]
  rw [← e]
  simp
theorem Is64.congr (h : Is64 w g n f) {f' : Nat → Nat} (e : ∀ j, j < n → f j = f' j) : Is64 w g n f' := by
  unfold Is64 at h ⊢
  rw [h]
  congr 3
  exact List.map_congr_left fun j hj => by rw [e j (List.mem_range.1 hj)]
theorem Is64.start (w : World) (n : Nat) : Is64 (w.alloc (.cells (madeCells #[.int .i64 0] n) 3)) w.heap.size n (fun _ => 0) := by
  have h := heap_alloc_new w (.cells (madeCells #[.int .i64 0] n) 3)
  unfold Is64
  rw [h]
  congr 2
  unfold madeCells
  apply Array.ext
  · simp
  · intro i h1 h2
    simp [Nat.mod_one]
end
/-- where word j stands in the rounds that begin at place f -/
def pos (V f j : Nat) : Nat := (j + (V - f % V)) % V
theorem pos_lt {V : Nat} (hV : 0 < V) (f j : Nat) : pos V f j < V := Nat.mod_lt _ hV
theorem pos_eq {V f i j : Nat} (hV : 0 < V) (hj : j < V) : pos V f j = i % V ↔ j = (f + i) % V := by
  unfold pos
  have hf := Nat.mod_lt f hV
  have hi := Nat.mod_lt i hV
  rw [Nat.add_mod f i V]
  generalize f % V = a at *
  generalize i % V = b at *
  rcases Nat.lt_or_ge j a with h | h
  · rw [Nat.mod_eq_of_lt (show j + (V - a) < V by omega)]
    rcases Nat.lt_or_ge (a + b) V with h2 | h2
    · rw [Nat.mod_eq_of_lt h2]; omega
    · rw [Nat.mod_eq_sub_mod h2, Nat.mod_eq_of_lt (by omega)]; omega
  · rw [Nat.mod_eq_sub_mod (show V ≤ j + (V - a) by omega), Nat.mod_eq_of_lt (show j + (V - a) - V < V by omega)]
    rcases Nat.lt_or_ge (a + b) V with h2 | h2
    · rw [Nat.mod_eq_of_lt h2]; omega
    · rw [Nat.mod_eq_sub_mod h2, Nat.mod_eq_of_lt (by omega)]; omega
theorem burst_zero {V : Nat} (hV : 0 < V) : burst V 0 = 0 := by unfold burst; exact Nat.div_eq_of_lt (by omega)
theorem burst_step {V i : Nat} (hV : 0 < V) : burst V (i + 1) = i / V + 1 ∧ burst V i ≤ i / V + 1 := by
  unfold burst
  refine ⟨?_, ?_⟩
  · rw [show i + 1 + V - 1 = i + V by omega, Nat.add_div_right _ hV]
  · refine Nat.le_trans (Nat.div_le_div_right (show i + V - 1 ≤ i + V by omega)) ?_
    rw [Nat.add_div_right _ hV]
    exact Nat.le_refl _
set_option maxHeartbeats 4000000 in
theorem bursts_any (V f m : Nat) (hV : 1 ≤ V) (hV4 : V ≤ 4) (hf : f < 65536) (hm : m < 500) (w : World) : Calls Try.prog 15 #[.int .i64 (V : Int), .int .i64 (f : Int), .int .i64 (m : Int)] w (Tells w (.bool true)) := by
  have hmk : ∀ w, (Instr.makeSlice 48 (.int .i64 (V : Int)) (.int .i64 (V : Int))).run Try.prog w = .ok (.slice (some ⟨w.heap.size, 0, none⟩) V V) (w.alloc (.cells (madeCells #[.int .i64 0] V) 3)) :=
    run_make_row' (P := Try.prog) 48 3 (.int .i64 0) 8 Try.underlying48 info3 rfl .i64 .i64 V (by omega) (by omega)
  have hV0 : (V : Int) ≠ 0 := by omega
  have hS0 : Hid (Is64 (w.alloc (.cells (madeCells #[.int .i64 0] V) 3)) w.heap.size V (fun j => cn V (pos V f j) 0)) :=
    (Is64.start w V).congr fun j _ => by rw [cn_zero (pos_lt (by omega) f j)]
  have hb0 := Lib.hid (burst_zero (V := V) (by omega))
  have hst : Hid (∀ i, burst V (i + 1) = i / V + 1 ∧ burst V i ≤ i / V + 1) := fun i => burst_step (by omega)
  have hB1 : Hid (∀ w, Calls Try.prog 16 #[.int .i64 (V : Int), .int .i64 (f : Int), .int .i64 (m : Int)] w fun e w' => e = .returned (.int .i64 ((burst V m : Nat) : Int)) ∧ w = w') := fun w => burst_lit (by omega) (by unfold burstI; rw [if_pos (by omega), Int.toNat_natCast, Int.toNat_natCast])
  have hB2 : Hid (∀ w, Calls Try.prog 16 #[.int .i64 0, .int .i64 (f : Int), .int .i64 (m : Int)] w fun e w' => e = .returned (.int .i64 0) ∧ w = w') := fun w => burst_lit (by omega) (by unfold burstI; rw [if_neg (by omega)])
  have hB3 : Hid (∀ w, Calls Try.prog 16 #[.int .i64 (V : Int), .int .i64 (-1), .int .i64 (m : Int)] w fun e w' => e = .returned (.int .i64 0) ∧ w = w') := fun w => burst_lit (by omega) (by unfold burstI; rw [if_neg (by omega)])
  have hB4 : Hid (∀ w, Calls Try.prog 16 #[.int .i64 (V : Int), .int .i64 (f : Int), .int .i64 (-1)] w fun e w' => e = .returned (.int .i64 0) ∧ w = w') := fun w => burst_lit (by omega) (by unfold burstI; rw [if_neg (by omega)])
  have hB5 : Hid (∀ w, Calls Try.prog 16 #[.int .i64 5, .int .i64 (f : Int), .int .i64 (m : Int)] w fun e w' => e = .returned (.int .i64 0) ∧ w = w') := fun w => burst_lit (by omega) (by unfold burstI; rw [if_neg (by omega)])
  have hbl : Hid (∀ i, burst V i ≤ i) := fun i => by
    unfold burst
    rcases Nat.eq_zero_or_pos i with h | h
    · subst h; rw [Nat.div_eq_of_lt (by omega)]; exact Nat.le_refl _
    · rw [Nat.div_le_iff_le_mul_add_pred (by omega)]
      have : i ≤ V * i := Nat.le_mul_of_pos_left _ (by omega)
      omega
  go_enter Try.func15, Try.ntmps15
  go_wp2_with fail
  go_loopw [8, 9] (fun b q wr => ∃ i : Nat, i ≤ m ∧ q = .int .i64 i ∧ b = .int .i64 ((burst V i : Nat) : Int) ∧ Is64 wr w.heap.size V (fun j => cn V (pos V f j) i) ∧ Below w.heap.size w wr) (fun _ q _ => m - (intOf q).toNat)
  case atStart => exact ⟨0, Nat.zero_le _, rfl, by rw [hb0.out]; rfl, hS0.out, below_alloc _ _⟩
  case round =>
    clear hS0 hmk
    obtain ⟨i, hi, rfl, rfl, HS, HB⟩ := hrel
    by_cases hlt : i < m
    · have hiI : (i : Int) < (m : Int) := by omega
      have hd : decide (i < m) = true := decide_eq_true hlt
      have hp := Nat.mod_lt (f + i) (show 0 < V by omega)
      obtain ⟨p, hpp⟩ : ∃ p, (f + i) % V = p := ⟨_, rfl⟩
      have hpI : ((f : Int) + (i : Int)) % (V : Int) = (p : Int) := by
        rw [← hpp, Int.natCast_emod, Int.natCast_add]
      rw [hpp] at hp
      have hpV : (p : Int) < (V : Int) := by omega
      have hpo : pos V f p = i % V := (pos_eq (by omega) hp).2 hpp.symm
      obtain ⟨hs1, hs2⟩ := hst.out i
      have hqi : i / V ≤ i := Nat.div_le_self _ _
      have hc := HS.cell hp
      rw [hpo, cn_at (by omega)] at hc
      obtain ⟨q, hqq⟩ : ∃ q, i / V = q := ⟨_, rfl⟩
      rw [hqq] at hc hs1 hs2 hqi
      have hfz := HS.frozen p
      have HS' := (HS.set_ p (q + 1)).congr (f' := fun j => cn V (pos V f j) (i + 1)) (fun j hj => by
        show (if j = p then q + 1 else cn V (pos V f j) i) = cn V (pos V f j) (i + 1)
        rw [cn_step (pos_lt (by omega) f j)]
        by_cases e : j = p
        · rw [if_pos e, e, if_pos hpo, hpo, cn_at (by omega), hqq]
        · rw [if_neg e, if_neg (fun e2 => e (((pos_eq (by omega) hj).1 e2).trans hpp))])
      have hc2 := HS'.cell hp
      have hcv : cn V (pos V f p) (i + 1) = q + 1 := by rw [cn_step (pos_lt (by omega) f p), if_pos hpo, hpo, cn_at (by omega), hqq]
      rw [hcv] at hc2
      obtain ⟨b, hbb⟩ : ∃ b, burst V i = b := ⟨_, rfl⟩
      rw [hbb] at hs2 ⊢
      replace HS' := Lib.hid HS'
      have HB' := Lib.hid (HB.setCell (p := ⟨w.heap.size, p, none⟩) (Nat.le_refl _) (.int .i64 ((q + 1 : Nat) : Int)))
      have hs1' := Lib.hid hs1
      clear HS HB hcv hpo hpp hqq hbb hs1
      go_wp2_with fail
      go_roundw
      case rel => exact ⟨i + 1, by omega, by go_num, by rw [hs1'.out]; go_num, HS'.out, HB'.out⟩
      case measure => simp [intOf]; omega
    · obtain rfl : i = m := by omega
      have hd : decide (i < i) = false := decide_eq_false (Nat.lt_irrefl _)
      have haw := Lib.hid (wawake_any wr)
      replace HB := Lib.hid HB
      generalize burst V i = b at *
      go_wp2_with (first
        | (go_at_call 8; (with_reducible refine haw.out.mono ?_); rintro e w1 ⟨rfl, hb⟩; have HB1 := Lib.hid (HB.out.trans (hb.mono HB.out.size)); clear hb)
        | (go_at_call 16; (with_reducible refine (hB1.out _).mono ?_); rintro e w2 ⟨rfl, rfl⟩)
        | (go_at_call 16; (with_reducible refine (hB2.out _).mono ?_); rintro e w2 ⟨rfl, rfl⟩)
        | (go_at_call 16; (with_reducible refine (hB3.out _).mono ?_); rintro e w2 ⟨rfl, rfl⟩)
        | (go_at_call 16; (with_reducible refine (hB4.out _).mono ?_); rintro e w2 ⟨rfl, rfl⟩)
        | (go_at_call 16; (with_reducible refine (hB5.out _).mono ?_); rintro e w2 ⟨rfl, rfl⟩))
      go_ret
      exact ⟨rfl, HB1.out⟩
theorem u8_rg {a : Int} (h : (Lit.int .u8 a).wf = true) : 0 ≤ a ∧ a < 256 := by
  simp [Lit.wf, IntKind.min, IntKind.max, IntKind.signed, IntKind.bits] at h; omega
set_option maxHeartbeats 2000000 in
theorem wbursts_law (a0 : Int) (w0 : (Lit.int .u8 a0).wf = true) (a1 : Int) (w1 : (Lit.int .u16 a1).wf = true) (a2 : Int) (w2 : (Lit.int .u16 a2).wf = true) (w : World) : Calls Try.prog 4 #[.int .u8 a0, .int .u16 a1, .int .u16 a2] w (Tells w (.bool true)) := by
  obtain ⟨n, rfl⟩ : ∃ n : Nat, a0 = (n : Int) := ⟨a0.toNat, by have := u8_rg w0; omega⟩
  obtain ⟨f, rfl⟩ : ∃ n : Nat, a1 = (n : Int) := ⟨a1.toNat, by have := u16_range w1; omega⟩
  obtain ⟨m, rfl⟩ : ∃ n : Nat, a2 = (n : Int) := ⟨a2.toNat, by have := u16_range w2; omega⟩
  have hn : n < 256 := by have := u8_rg w0; omega
  have hf : f < 65536 := by have := u16_range w1; omega
  have hm : m < 65536 := by have := u16_range w2; omega
  clear w0 w1 w2
  obtain ⟨V, hV⟩ : ∃ V : Nat, 1 + (n : Int) % 4 = (V : Int) := ⟨1 + n % 4, by omega⟩
  obtain ⟨k, hk⟩ : ∃ k : Nat, (m : Int) % 500 = (k : Int) := ⟨m % 500, by omega⟩
  have haw := Lib.hid (wawake_any w)
  have hc := Lib.hid (fun w => bursts_any V f k (by omega) (by omega) hf (by omega) w)
  go_enter Try.func4, Try.ntmps4
  go_wp2_with (first
    | (go_at_call 8; (with_reducible refine haw.out.mono ?_); rintro e w1 ⟨rfl, hb⟩; have HB1 := Lib.hid hb; clear hb)
    | (go_at_call 15; (with_reducible refine (hc.out _).mono ?_); rintro e w2 ⟨rfl, hb⟩; have HB2 := Lib.hid (HB1.out.trans (hb.mono HB1.out.size)); clear hb))
  go_ret
  exact ⟨rfl, HB2.out⟩
end Go.Proofs.Ytpanmjohmgjigaa
namespace Go.Proofs.Ytpanmjohmgjigaa.weaveBursts
open Go.ChangeShapes Go.WideShapes Go.ChangeAt Go.RowKit Go.Gf
set_option linter.unusedVariables false

theorem own : ownKnob Try.prog.godebug = none := by kernel_rfl

theorem walk (a0 : Int) (w0 : (Lit.int .u8 a0).wf = true) (a1 : Int) (w1 : (Lit.int .u16 a1).wf = true) (a2 : Int) (w2 : (Lit.int .u16 a2).wf = true) (w : World)  :
    Calls Try.prog 4 #[.int .u8 a0, .int .u16 a1, .int .u16 a2] w fun e w' => e = .returned (.bool true) ∧ Below w.heap.size w w' := wbursts_law a0 w0 a1 w1 a2 w2 w 

set_option maxRecDepth 100000 in
theorem lifted (os : Os) (started : os.Started) (H : Type) (enc : TypeId × Value → H) :
    ReturnsInHanded {} Try.checked os 4 .any (Rows.weaveBurstsSpec.pre6 enc Try.prog Try.f4 Rows.weaveBurstsRow.domain false) (Rows.weaveBurstsSpec.post enc Try.prog Try.f4 false true false false) := by
  refine returnsInHanded_of_change (C := Try.checked) own started (by kernel_rfl) Try.func4
    (ChangeSpec.witness6 (enc := enc) (C := Try.checked) false ⟨#[], #[.int .u8 0, .int .u16 0, .int .u16 0], []⟩ 8 (by kernel_rfl) (by kernel_rfl) (by kernel_rfl) (by kernel_rfl)) ?_
  intro W base args ds gs before hval0 hW hcnd _
  have hval : ∀ (j : Nat) t v, Try.f4.params[j]? = some t → args[j]? = some v → Value.okWide Try.prog W .any base t v := hval0
  have hW' := hW
  obtain ⟨p, q, hA0, hV, rfl, hfz, hnd⟩ := hW
  have hA : DataW.TrodAll enc Try.prog W 0 (fun _ => true) true Try.f4.params.toList args.toList ds p := hA0
  rw [Try.params4] at hA hval
  obtain ⟨v0, vs0, d0, ds0, p0, q0, hargs, rfl, rfl, h0, r0⟩ := trodAll_cons hA
  obtain ⟨v1, vs1, d1, ds1, p1, q1, rfl, rfl, rfl, h1, r1⟩ := trodAll_cons r0
  obtain ⟨v2, vs2, d2, ds2, p2, q2, rfl, rfl, rfl, h2, r2⟩ := trodAll_cons r1
  obtain ⟨rfl, rfl, rfl⟩ := trodAll_nil r2
  obtain rfl : args = #[v0, v1, v2] := by cases args; simp_all
  obtain ⟨rfl, rfl⟩ := trodVars_none hV
  obtain ⟨a0, rfl, rfl, rfl, w0⟩ := open_int Try.underlying5 (hval 0 5 v0 rfl rfl) h0
  obtain ⟨a1, rfl, rfl, rfl, w1⟩ := open_int Try.underlying37 (hval 1 37 v1 rfl rfl) h1
  obtain ⟨a2, rfl, rfl, rfl, w2⟩ := open_int Try.underlying37 (hval 2 37 v2 rfl rfl) h2
  clear hA0 hval0
  refine (walk a0 w0 a1 w1 a2 w2 W ).mono fun e W' ⟨he, hg⟩ => ?_
  subst he
  exact ⟨_, rfl, Cl.post_below (pv := []) hW' (fun _ _ _ => (trodAll_cons_mk (shut_bool Try.underlying4 _) trodAll_mk0)) (fun sp hsp => (trodAll_cons_mk (shut_int Try.underlying5 w0) (trodAll_cons_mk (shut_int Try.underlying37 w1) (trodAll_cons_mk (shut_int Try.underlying37 w2) trodAll_mk0)))) (fun _ _ => rfl) rfl
    hg (ok_one (by kernel_rfl) rfl (okWide_bool_mk Try.underlying4 _))⟩

theorem over : Rows.weaveBurstsRow.holds Try.pinned (OpenSpec.ofChange Rows.weaveBurstsSpec) :=
  OpenClaim.holds_of_wide 4 Try.f4 rfl rfl rfl rfl rfl rfl rfl ⟨rfl, rfl, rfl, rfl, rfl⟩ rfl rfl rfl rfl rfl (by kernel_rfl) Try.func4 (by kernel_rfl)
    (of_decide_eq_true (by kernel_rfl)) (by unfold Func.isWrapper; first | (rw [if_pos (by decide +kernel)]; kernel_rfl) | (rw [if_neg (by decide +kernel)]; exact ⟨rfl, rfl⟩))
    (fun os started H enc _ => lifted os started H enc)

/-- THE STATEMENT -/
theorem proved : Rows.WeaveBurstsSaid := over
end Go.Proofs.Ytpanmjohmgjigaa.weaveBursts
