/- The device: its operations, by their names: Program, Erase, Mark. · The device: Marked, Sense, and what is no operation but for Worst. · The device: the block of a number, how often it was erased, whether it is broken; Drift. · The device: how many symbols of one codeword are wrong at the most. · The device: a block's pages, made blank. · The fates of a device, in memory of their own. · The device while it is made: what of it lies where. -/
import Derived.Test.YtjhoecfhmndcgaaGreatV42
import Derived.Laws.ResultCell
import Derived.Laws.Rows
import Derived.Test.YtjhoecfhmndcgaaGreatV40
namespace Go.Proofs.YtjhoecfhmndcgaaGreat
open Go.RowKit Go.Gf Go.Fl
set_option linter.unusedVariables false
set_option linter.unusedSimpArgs false
/-- an operation on a page that there is: its answer, and what it makes -/
def stepD (M : Dev) (k : Int) (b p : Nat) (xs : List Nat) : Int × Dev :=
  if M.dark = true then (8, M) else opR M (faultE M k b p) (carryR { M with ops := M.ops + 1 } k b p xs (fateOf M))
/-- an operation on a page that there is not -/
def stepN (M : Dev) : Int × Dev := if M.dark = true then (8, M) else (1, { M with ops := M.ops + 1, rf := M.rf + 1 })
theorem progE_zero {M : Dev} {b p : Nat} (hp : p < M.P) (h : progE M b p = 0) : (M.pg b p).st = 0 := by
  unfold progE at h
  split at h
  · cases h
  · split at h
    · cases h
    · rename_i h1
      have h2 : nextB M b p = true := by simpa using h1
      unfold nextB at h2
      rw [Bool.and_eq_true] at h2
      have := List.all_eq_true.1 h2.1 p (List.mem_range.2 hp)
      exact of_decide_eq_true this (Nat.le_refl _)
theorem keeps_sl {w w' : World} {F : Nat → Prop} {A : Option Addr} {xs : List Nat} (h : Sl w w.heap.size A xs) (hA : ∀ a, A = some a → a.block < w.heap.size ∧ ¬ F a.block) (hk : Cl.Keeps (fun b => ¬ F b) w w') : Sl w' w'.heap.size A xs :=
  h.block hk.size fun a e hl => hk.block _ hl (hA a e).2
/-- how great a device's numbers may be -/
structure Fine (M : Dev) : Prop where
  ops : M.ops < 1000000000
  rf : M.rf < 1000000000
  er : ∀ b, M.er b < 1000000
/-- symbols that are handed in: as many as a page has cells -/
structure Given (w : World) (F : Nat → Prop) (A : Option Addr) (n c : Nat) (xs : List Nat) (M : Dev) : Prop where
  sl : Sl w w.heap.size A xs
  out : ∀ a, A = some a → a.block < w.heap.size ∧ ¬ F a.block
  len : xs.length = n
  all : n = M.n
  cap : n ≤ c
  sym : ∀ x ∈ xs, x < 1024
theorem operate_any {w : World} {F : Nat → Prop} {L : Lay} {M : Dev} (h : Rep w F L M) (hF : ∀ b, w.heap.size ≤ b → F b) (hf : Fine M) (k : Int) {b p : Nat} (hb : b < M.B) (hp : p < M.P) (A : Option Addr) (n c : Nat) {xs : List Nat} (hs : k = 2 → Given w F A n c xs M) :
    Calls Tryz.prog 37 #[.pointer (some ⟨L.g, 0, none⟩), .agg #[.int .i64 k, .int .i64 (b : Int), .int .i64 (p : Int), .slice A n c]] w fun e w' => e = .returned (.int .i64 (stepD M k b p xs).1) ∧ Cl.Keeps (fun b' => ¬ F b') w w' ∧ Rep w' F L (stepD M k b p xs).2 := by
  obtain ⟨o, h⟩ := h
  unfold stepD
  by_cases hd : M.dark = true
  · rw [if_pos hd]
    exact op_dark h hd k b p A n c
  · rw [if_neg hd]
    refine op_any h hF (by simpa using hd) hf.ops hf.rf k b p A n c (faultE M k b p) (carryR { M with ops := M.ops + 1 } k b p xs (fateOf M)) (fun w' hk hr => ?_) (fun hE w' F' hk hFF hF' hr => ?_)
    · exact fault_yes hr k (M := { M with ops := M.ops + 1 }) hb hp A n c (xs := xs) fun e => ⟨keeps_sl (hs e).sl (hs e).out hk, (hs e).len, (hs e).all, (hs e).sym⟩
    · refine carry_any hr hF' k (M := { M with ops := M.ops + 1 }) hb hp (hf.er b) A n c (xs := xs) (fun e => ?_) (fateOf M) (fate_bounds h)
      have he := hs e
      subst e
      refine ⟨progE_zero hp hE, keeps_sl he.sl he.out hk, fun a ea => ⟨Nat.lt_of_lt_of_le (he.out a ea).1 hk.size, fun hh => (he.out a ea).2 (hFF _ hh)⟩, he.len, he.all, he.cap, he.sym⟩
theorem operate_no {w : World} {F : Nat → Prop} {L : Lay} {M : Dev} (h : Rep w F L M) (hF : ∀ b, w.heap.size ≤ b → F b) (hf : Fine M) (k b p : Int) (hn : ¬ (0 ≤ b ∧ b < (M.B : Int) ∧ 0 ≤ p ∧ p < (M.P : Int))) (A : Option Addr) (n c : Nat) :
    Calls Tryz.prog 37 #[.pointer (some ⟨L.g, 0, none⟩), .agg #[.int .i64 k, .int .i64 b, .int .i64 p, .slice A n c]] w fun e w' => e = .returned (.int .i64 (stepN M).1) ∧ Cl.Keeps (fun b' => ¬ F b') w w' ∧ Rep w' F L (stepN M).2 := by
  obtain ⟨o, h⟩ := h
  unfold stepN
  by_cases hd : M.dark = true
  · rw [if_pos hd]
    exact op_dark h hd k b p A n c
  · rw [if_neg hd]
    exact op_any h hF (by simpa using hd) hf.ops hf.rf k b p A n c 1 (0, M) (fun w' hk hr => fault_no hr k b p A n c (isN_no (M := M) hn)) (fun hE => absurd hE (by decide))
/-- what an operation of the device leaves -/
def Did (w : World) (F : Nat → Prop) (c : Addr) (r : Int × Dev) (e : Ending) (w' : World) : Prop := e = .returned (.int .i64 r.1) ∧ Cl.Keeps (fun b => ¬ F b) w w' ∧ Chip w' F c r.2
section
variable {w : World} {F : Nat → Prop} {a : Addr} {M : Dev}
set_option maxHeartbeats 1000000 in
theorem d_program (h : Chip w F a M) (hF : ∀ b, w.heap.size ≤ b → F b) (hf : Fine M) {b p : Nat} (hb : b < M.B) (hp : p < M.P) {A : Option Addr} {n c : Nat} {xs : List Nat} (hs : Given w F A n c xs M) :
    Calls Tryz.prog 16 #[.pointer (some a), .int .i64 (b : Int), .int .i64 (p : Int), .slice A n c] w (Did w F a (stepD M 2 b p xs)) := by
  obtain ⟨L, rfl, h⟩ := h
  have ho := Lib.hid (operate_any h hF hf 2 hb hp A n c (xs := xs) fun _ => hs)
  clear h hF hf hs hb hp
  generalize stepD M 2 b p xs = R at *
  go_enter Tryz.func16, Tryz.ntmps16
  go_wp2_with (go_at_call 37; (with_reducible refine ho.out.mono ?_); rintro e w2 ⟨rfl, hk2, hr2⟩)
  go_ret
  exact ⟨rfl, hk2, L, rfl, hr2⟩
theorem d_erase (h : Chip w F a M) (hF : ∀ b, w.heap.size ≤ b → F b) (hf : Fine M) {b : Nat} (hb : b < M.B) (hp : 0 < M.P) :
    Calls Tryz.prog 20 #[.pointer (some a), .int .i64 (b : Int)] w (Did w F a (stepD M 3 b 0 [])) := by
  obtain ⟨L, rfl, h⟩ := h
  have ho := operate_any h hF hf 3 hb hp none 0 0 (xs := []) fun e => absurd e (by decide)
  rw [Int.natCast_zero] at ho
  replace ho := Lib.hid ho
  clear h hF hf hb hp
  generalize stepD M 3 b 0 [] = R at *
  go_enter Tryz.func20, Tryz.ntmps20
  go_wp2_with (go_at_call 37; (with_reducible refine ho.out.mono ?_); rintro e w2 ⟨rfl, hk2, hr2⟩)
  go_ret
  exact ⟨rfl, hk2, L, rfl, hr2⟩
end
end Go.Proofs.YtjhoecfhmndcgaaGreat
namespace Go.Proofs.YtjhoecfhmndcgaaGreat
open Go.RowKit Go.Gf Go.Fl
set_option linter.unusedVariables false
set_option linter.unusedSimpArgs false
attribute [local go_sem ↓] Cl.quiet_after Cl.quiet_since
theorem carryR_geo (M : Dev) (k : Int) (b p : Nat) (xs : List Nat) (x : Int × Int × Int) : (carryR M k b p xs x).2.B = M.B ∧ (carryR M k b p xs x).2.P = M.P ∧ (carryR M k b p xs x).2.W = M.W ∧ (carryR M k b p xs x).2.K = M.K ∧ (carryR M k b p xs x).2.ft = M.ft := by
  unfold carryR
  split
  · exact ⟨rfl, rfl, rfl, rfl, rfl⟩
  · split
    · unfold erasR
      split
      · exact ⟨rfl, rfl, rfl, rfl, rfl⟩
      · split <;> exact ⟨rfl, rfl, rfl, rfl, rfl⟩
    · split
      · dsimp only
        split <;> exact ⟨rfl, rfl, rfl, rfl, rfl⟩
      · exact ⟨rfl, rfl, rfl, rfl, rfl⟩
theorem stepD_geo (M : Dev) (k : Int) (b p : Nat) (xs : List Nat) : (stepD M k b p xs).2.B = M.B ∧ (stepD M k b p xs).2.P = M.P ∧ (stepD M k b p xs).2.W = M.W ∧ (stepD M k b p xs).2.K = M.K ∧ (stepD M k b p xs).2.ft = M.ft := by
  unfold stepD opR
  split
  · exact ⟨rfl, rfl, rfl, rfl, rfl⟩
  · split
    · split
      · exact carryR_geo _ _ _ _ _ _
      · exact carryR_geo _ _ _ _ _ _
    · split <;> exact ⟨rfl, rfl, rfl, rfl, rfl⟩
theorem n_pos {M : Dev} (h : Ge.mayG M.B M.P M.W M.K = true) : 0 < M.n := by
  have h1 := Ge.may_of h
  have := Nat.mul_le_mul (show 1 ≤ M.W by omega) (show 17 ≤ M.K + 16 by omega)
  unfold Dev.n
  omega
section
variable {w : World} {F : Nat → Prop} {a : Addr} {M : Dev}
set_option maxHeartbeats 2000000 in
theorem d_sense_no (h : Chip w F a M) (hF : ∀ b, w.heap.size ≤ b → F b) (hf : Fine M) {b p : Int} (hn : ¬ (0 ≤ b ∧ b < (M.B : Int) ∧ 0 ≤ p ∧ p < (M.P : Int))) :
    Calls Tryz.prog 40 #[.pointer (some a), .int .i64 b, .int .i64 p] w fun e w' => e = .returned (.tuple #[.slice none 0 0, .int .i64 (stepN M).1]) ∧ Cl.Keeps (fun b' => ¬ F b') w w' ∧ Chip w' F a (stepN M).2 := by
  obtain ⟨L, rfl, h⟩ := h
  have ho := Lib.hid (operate_no h hF hf 1 b p hn none 0 0)
  have h0 : (stepN M).1 ≠ 0 := by unfold stepN; split <;> (dsimp only; decide)
  clear h hF hf hn
  generalize stepN M = R at *
  obtain ⟨R1, R2⟩ := R
  dsimp only at *
  have e1 : (R1 != 0) = true := by simpa using h0
  go_enter Tryz.func40, Tryz.ntmps40
  go_wp2_with (go_at_call 37; (with_reducible refine ho.out.mono ?_); rintro e w2 ⟨rfl, hk2, hr2⟩; replace hr2 := Lib.hid hr2; replace hk2 := Lib.hid hk2)
  go_ret2
  exact ⟨by rfl, hk2.out, L, rfl, hr2.out⟩
set_option maxHeartbeats 2000000 in
theorem d_sense (h : Chip w F a M) (hF : ∀ b, w.heap.size ≤ b → F b) (hf : Fine M) {b p : Nat} (hb : b < M.B) (hp : p < M.P) (h0 : (stepD M 1 b p []).1 = 0) {n : Nat} (hn : M.n = n) :
    Calls Tryz.prog 40 #[.pointer (some a), .int .i64 (b : Int), .int .i64 (p : Int)] w fun e w' => ∃ A c, e = .returned (.tuple #[.slice A n c, .int .i64 0]) ∧ n ≤ c ∧ Cl.Keeps (fun b' => ¬ F b') w w' ∧ Chip w' (fun b' => F b' ∧ ∀ q, A = some q → b' ≠ q.block) a (stepD M 1 b p []).2 ∧ Pts w' w.heap.size A ((stepD M 1 b p []).2.pg b p).ps := by
  obtain ⟨L, rfl, h⟩ := h
  have ho := Lib.hid (operate_any h hF hf 1 hb hp none 0 0 (xs := []) fun e => absurd e (by decide))
  obtain ⟨hB, hP, hW, hK, _⟩ := stepD_geo M 1 b p []
  obtain ⟨hb64, hp32⟩ : b < 64 ∧ p < 32 := by obtain ⟨o, h⟩ := h; have := Ge.may_of h.geo; omega
  have hbI : (b : Int) < (M.B : Int) := by omega
  have hpI : (p : Int) < (M.P : Int) := by omega
  clear h hF hf
  generalize stepD M 1 b p [] = R at *
  obtain ⟨R1, R2⟩ := R
  dsimp only at *
  subst h0
  have hn2 : R2.n = n := by unfold Dev.n; rw [hW, hK]; exact hn
  replace hn2 := Lib.hid hn2
  clear hn hW hK
  go_enter Tryz.func40, Tryz.ntmps40
  go_wp2_with (first
    | (go_at_call 37; (with_reducible refine ho.out.mono ?_); rintro e w2 ⟨rfl, hk2, o, hr2⟩; have g4 := hr2.g4; have k0 := hr2.k0 b (by rw [hB]; exact hb); have pp := hr2.pp b (by rw [hB]; exact hb) p (by rw [hP]; exact hp); rw [hB] at g4; rw [hP] at k0; have hse := Lib.hid (c_sense (hr2.pg b (by rw [hB]; exact hb) p (by rw [hP]; exact hp)) (n := n) (by rw [hr2.len b (by rw [hB]; exact hb) p (by rw [hP]; exact hp)]; exact hn2.out)); replace hr2 := Lib.hid hr2; replace hk2 := Lib.hid hk2)
    | (go_at_call 62; (with_reducible refine hse.out.mono ?_); rintro e w3 ⟨A, c, rfl, hnc, hb3, hpt⟩; replace hb3 := Lib.hid hb3; replace hpt := Lib.hid hpt))
  go_ret2
  refine ⟨A, c, rfl, hnc, hk2.out.trans (Cl.Keeps.of_below hb3.out), ⟨L, rfl, o, (hr2.out.below hb3.out).only fun b' hb' h1 h2 => ⟨h1, fun q hq e => ?_⟩⟩, ?_⟩
  · rcases hpt.out with hpt | ⟨g, rfl, hg, _, _⟩
    · have h3 := hr2.out.len b (by rw [hB]; exact hb) p (by rw [hP]; exact hp)
      rw [hpt] at h3
      have := n_pos hr2.out.geo
      simp at h3
      omega
    · injection hq with hq
      subst hq
      exact h2 (by rw [e]; exact hr2.out.new _ hg)
  · rcases hpt.out with hpt | ⟨g, rfl, hg, hpt⟩
    · exact Or.inl hpt
    · exact Or.inr ⟨g, rfl, Nat.le_trans hk2.out.size hg, hpt⟩
theorem d_power (h : Chip w F a M) (hF : ∀ b, w.heap.size ≤ b → F b) :
    Calls Tryz.prog 22 #[.pointer (some a)] w fun e w' => e = .returned (.tuple #[]) ∧ Cl.Keeps (fun b' => ¬ F b') w w' ∧ Chip w' F a { M with dark := false } := by
  obtain ⟨L, rfl, o, h⟩ := h
  have g8 := h.g8
  have gf := h.gf 8
  have hend : Hid (Rep (w.setCell ⟨L.g, 8, none⟩ (.bool false)) F L { M with dark := false }) := Lib.hid ⟨o, h.setDark false⟩
  have hke : Hid (Cl.Keeps (fun b' => ¬ F b') w (w.setCell ⟨L.g, 8, none⟩ (.bool false))) := keeps_put (Cl.Keeps.refl _ _) (fun e => e h.gt.1)
  clear h
  go_enter Tryz.func22, Tryz.ntmps22
  go_wp2_with fail
  go_end0
  exact ⟨rfl, hke.out, L, rfl, hend.out⟩
theorem d_ops (h : Chip w F a M) : Calls Tryz.prog 18 #[.pointer (some a)] w (AnsY w (.int .i64 (M.ops : Int))) := by
  obtain ⟨L, rfl, o, h⟩ := h
  have g6 := h.g6
  clear h
  go_enter Tryz.func18, Tryz.ntmps18
  go_wp2_with fail
  go_ret
  exact ⟨rfl, Below.refl _ _⟩
end
end Go.Proofs.YtjhoecfhmndcgaaGreat
namespace Go.Proofs.YtjhoecfhmndcgaaGreat
open Go.RowKit Go.Gf Go.Fl
set_option linter.unusedVariables false
set_option linter.unusedSimpArgs false
attribute [local go_sem ↓] Cl.quiet_after Cl.quiet_since
section
variable {w : World} {F : Nat → Prop} {o : Nat → Nat} {L : Lay} {M : Dev}
end
theorem field_pages (x y z u : Value) (w : World) : (Instr.field 79 (.agg #[x, y, z, u]) 0).run Tryz.prog w = .ok x w := by
  simp [Instr.field, run_underlying Tryz.underlying79, asAgg, part, Tryz.isAgg76]
theorem field_erases (x y z u : Value) (w : World) : (Instr.field 79 (.agg #[x, y, z, u]) 1).run Tryz.prog w = .ok y w := by
  simp [Instr.field, run_underlying Tryz.underlying79, asAgg, part, Tryz.isAgg3]
theorem field_broken (x y z u : Value) (w : World) : (Instr.field 79 (.agg #[x, y, z, u]) 3).run Tryz.prog w = .ok u w := by
  simp [Instr.field, run_underlying Tryz.underlying79, asAgg, part, Tryz.isAgg4]
section
attribute [local go_sem] field_pages field_erases field_broken
variable {w : World} {F : Nat → Prop} {a : Addr} {M : Dev}
end
end Go.Proofs.YtjhoecfhmndcgaaGreat
namespace Go.Proofs.YtjhoecfhmndcgaaGreat
open Go.RowKit Go.Gf Go.Fl
set_option linter.unusedVariables false
set_option linter.unusedSimpArgs false
attribute [local go_sem ↓] Cl.quiet_after Cl.quiet_since
end Go.Proofs.YtjhoecfhmndcgaaGreat
namespace Go.Proofs.YtjhoecfhmndcgaaGreat
open Go.RowKit Go.Gf Go.Fl
set_option linter.unusedVariables false
set_option linter.unusedSimpArgs false
attribute [local go_sem ↓] Cl.quiet_after Cl.quiet_since
theorem info74 : (Tryz.prog.info? 108).map (fun i => (i.zero, i.size, i.bytes)) = some (some (.pointer none), 1, 8) := by kernel_rfl
/-- n pointers to nothing -/
def zPY (n : Nat) : Array Value := madeCells #[.pointer none] n
theorem zP_size (n : Nat) : (zPY n).size = n := size_madeCells _ _
theorem run_makeP (w : World) (n : Nat) (hn : n ≤ 65536) : (Instr.makeSlice 76 (.int .i64 (n : Int)) (.int .i64 (n : Int))).run Tryz.prog w = .ok (.slice (some ⟨w.heap.size, 0, none⟩) n n) (w.alloc (.cells (zPY n) 108)) := by
  have hi0 := info74
  obtain ⟨i, hi, hrest⟩ := Option.map_eq_some_iff.1 hi0
  simp only [Prod.mk.injEq] at hrest
  obtain ⟨i1, i2, i3⟩ := hrest
  have h := run_make (P := Tryz.prog) w 76 108 i _ Tryz.underlying76 hi i1 .i64 .i64 (n : Int) (n : Int) (by omega) (Int.le_refl _) (by rw [i3]; omega) (by omega)
  rw [i2, Int.toNat_natCast, Nat.mul_one] at h
  exact h
/-- a row of P pages, of which m are made; t the blocks' tags -/
structure RowY (w : World) (lo k P n m : Nat) (pa : Nat → Addr) (t : Nat → Nat) : Prop where
  new : ∀ b, w.heap.size ≤ b → t b = 9
  kl : lo ≤ k ∧ k < w.heap.size
  kt : t k = 2
  kr : ∃ cs, w.heap[k]? = some (.cells cs 108 (0, 0)) ∧ P ≤ cs.size
  pp : ∀ j, j < m → w.cell? ⟨k, j, none⟩ = some (.pointer (some (pa j)))
  pg : ∀ j, j < m → Page w (fun b => lo ≤ b ∧ t b = 10 + j) (pa j) (List.replicate n (0, 0)) [] 0
theorem RowY.below {w w' : World} {lo k P n m : Nat} {pa : Nat → Addr} {t : Nat → Nat} (h : RowY w lo k P n m pa t) (hb : Below w.heap.size w w') : RowY w' lo k P n m pa t where
  new := fun b hb' => h.new b (Nat.le_trans hb.size hb')
  kl := ⟨h.kl.1, Nat.lt_of_lt_of_le h.kl.2 hb.size⟩
  kt := h.kt
  kr := by obtain ⟨cs, h1, h2⟩ := h.kr; exact ⟨cs, (hb.block k h.kl.2).trans h1, h2⟩
  pp := fun j hj => (hb.cell (p := ⟨k, j, none⟩) h.kl.2).trans (h.pp j hj)
  pg := fun j hj => (h.pg j hj).below hb
theorem RowY.step {w w' : World} {lo k P n m : Nat} {pa : Nat → Addr} {t : Nat → Nat} (h : RowY w lo k P n m pa t) (hm : m < P) (hb : Below w.heap.size w w') {p : Addr} (hp : Page w' (fun b => w.heap.size ≤ b) p (List.replicate n (0, 0)) [] 0) :
    (∃ v, w'.cell? ⟨k, m, none⟩ = some v) ∧ w'.frozen? ⟨k, m, none⟩ = false ∧ ∃ pa' t', RowY (w'.setCell ⟨k, m, none⟩ (.pointer (some p))) lo k P n (m + 1) pa' t' := by
  have h' := h.below hb
  obtain ⟨cs, hcs, hsz⟩ := h'.kr
  have hcell : w'.cell? ⟨k, m, none⟩ = some (cs[m]'(by omega)) := by rw [cell_of hcs, Array.getElem?_eq_getElem (by omega)]
  have hs : (w'.setCell ⟨k, m, none⟩ (.pointer (some p))).heap.size = w'.heap.size := by simp [World.setCell]
  have ot : ∀ b, b ≠ k → (w'.setCell ⟨k, m, none⟩ (.pointer (some p))).heap[b]? = w'.heap[b]? := fun b hb => Below.heap_setCell _ _ _ _ (by show b ≠ k; exact hb)
  refine ⟨⟨_, hcell⟩, frozen_new hcs m, fun j => if j = m then p else pa j, fun b => if w.heap.size ≤ b ∧ b < w'.heap.size then 10 + m else t b, ?_⟩
  exact {
    new := fun b hb' => by
      rw [hs] at hb'
      show (if w.heap.size ≤ b ∧ b < w'.heap.size then 10 + m else t b) = 9
      rw [if_neg (by omega)]
      exact h'.new b hb'
    kl := ⟨h'.kl.1, by rw [hs]; exact h'.kl.2⟩
    kt := by
      show (if w.heap.size ≤ k ∧ k < w'.heap.size then 10 + m else t k) = 2
      rw [if_neg (by have := h.kl.2; omega)]
      exact h.kt
    kr := by
      refine ⟨cs.setIfInBounds m (.pointer (some p)), ?_, by simpa using hsz⟩
      simp only [World.setCell]
      rw [Array.getElem?_modify, hcs]
      simp
    pp := fun j hj => by
      show _ = some (Value.pointer (some (if j = m then p else pa j)))
      by_cases e : j = m
      · subst e
        rw [if_pos rfl]
        exact World.cell?_setCell_same _ _ _ hcell
      · rw [if_neg e]
        exact (World.cell?_setCell_other _ _ _ _ (by intro e'; injection e'; omega)).trans (h'.pp j (by omega))
    pg := fun j hj => by
      show Page _ (fun b => lo ≤ b ∧ (if w.heap.size ≤ b ∧ b < w'.heap.size then 10 + m else t b) = 10 + j) (if j = m then p else pa j) _ _ _
      by_cases e : j = m
      · subst e
        rw [if_pos rfl]
        refine (hp.block (by rw [hs]; exact Nat.le_refl _) fun b hb' hF => ot b (fun e => ?_)).only fun b hb' hF => ⟨?_, ?_⟩
        · have := h.kl.2; omega
        · have := h.kl; omega
        · rw [hs] at hb'
          rw [if_pos ⟨hF, hb'⟩]
      · rw [if_neg e]
        refine ((h'.pg j (by omega)).block (by rw [hs]; exact Nat.le_refl _) fun b hb' hF => ot b (fun e => ?_)).only fun b hb' hF => ⟨hF.1, ?_⟩
        · have := h.kt; rw [← e] at this; omega
        · rw [if_neg (fun hh => ?_)]
          · exact hF.2
          · have := h.new b hh.1
            omega }
set_option maxRecDepth 20000 in
set_option maxHeartbeats 4000000 in
theorem blank_anyY (B P W K : Nat) (hg : Ge.mayG B P W K = true) (w : World) :
    Calls Tryz.prog 29 #[.agg #[.int .i64 (B : Int), .int .i64 (P : Int), .int .i64 (W : Int), .int .i64 (K : Int)]] w fun e w' => ∃ k pa t, e = .returned (.slice (some ⟨k, 0, none⟩) P P) ∧ Below w.heap.size w w' ∧ RowY w' w.heap.size k P (W * (K + 16)) P pa t := by
  have hP := Ge.may_of hg
  have hA := below_alloc' w (.cells #[.int .i64 (B : Int), .int .i64 (P : Int), .int .i64 (W : Int), .int .i64 (K : Int)] 34)
  have hx := Ge.Box.new w (B : Int) (P : Int) (W : Int) (K : Int)
  generalize hw1 : w.alloc (.cells #[.int .i64 (B : Int), .int .i64 (P : Int), .int .i64 (W : Int), .int .i64 (K : Int)] 34) = w1 at *
  have hmk := run_makeP w1 P (by omega)
  have hA1 := below_alloc' w1 (.cells (zPY P) 108)
  have hx1 := hx
  have hnew := heap_alloc_new w1 (.cells (zPY P) 108)
  have hsz := World.size_alloc w1 (.cells (zPY P) 108)
  have hA2 := hA.trans (hA1.mono hA.size)
  obtain ⟨n, hn⟩ : ∃ n, W * (K + 16) = n := ⟨_, rfl⟩
  have hn6 : n ≤ 65536 := by rw [← hn]; have := Nat.mul_le_mul (show W ≤ 4 by omega) (show K + 16 ≤ 80 by omega); omega
  have hce : Ge.celG B P W K = (n : Int) := by
    unfold Ge.celG
    rw [if_pos hg, ← hn]
    simp
  have cc := Lib.hid (Ge.cells_lit hce)
  have hrow : RowY (w1.alloc (.cells (zPY P) 108)) w.heap.size w1.heap.size P n 0 (fun _ => ⟨0, 0, none⟩) (fun b => if b = w1.heap.size then 2 else 9) := {
    new := fun b hb => if_neg (by rw [hsz] at hb; omega)
    kl := ⟨hA.size, by rw [hsz]; omega⟩
    kt := if_pos rfl
    kr := ⟨zPY P, hnew, by rw [zP_size]; exact Nat.le_refl _⟩
    pp := fun j hj => absurd hj (by omega)
    pg := fun j hj => absurd hj (by omega) }
  have hrow0 : Hid (∃ pa t, RowY (w1.alloc (.cells (zPY P) 108)) w.heap.size w1.heap.size P n 0 pa t) := ⟨_, _, hrow⟩
  have c1 := hx.c1
  rw [hn]
  generalize hw2 : w1.alloc (.cells (zPY P) 108) = w2 at *
  replace hA2 := Lib.hid hA2
  have hA3 := Lib.hid hA1
  replace hx1 := Lib.hid hx1
  obtain ⟨k, hk⟩ : ∃ k, Hid (w1.heap.size = k) := ⟨_, Lib.hid rfl⟩
  rw [hk.out] at hmk hrow0
  clear hA hA1 hx hnew hsz hrow hce hn
  go_enter Tryz.func29, Tryz.ntmps29
  go_wp2_with (simp only [hmk])
  go_loopw [10] (fun q wr => ∃ i : Nat, i ≤ P ∧ q = .int .i64 i ∧ Below w.heap.size w wr ∧ Below w1.heap.size w1 wr ∧ ∃ pa t, RowY wr w.heap.size k P n i pa t) (fun q _ => P - (intOf q).toNat)
  case atStart => exact ⟨0, Nat.zero_le _, rfl, hA2.out, hA3.out, hrow0.out⟩
  case round =>
    obtain ⟨i, hi, rfl, hB, hB2, hR⟩ := hrel
    by_cases hin : i < P
    · have hiI : (i : Int) < (P : Int) := by omega
      have hdi : decide (i < P) = true := decide_eq_true hin
      have hi32 : i < 32 := by omega
      obtain ⟨pa, t, hR⟩ := hR
      have hxr := hx1.out.keep hB2
      obtain ⟨_, c0, c1, c2, c3⟩ := hxr
      replace hR := Lib.hid hR
      replace hB := Lib.hid hB
      replace hB2 := Lib.hid hB2
      have hcn := Lib.hid (fun w => c_new (w := w) n (n : Int) rfl hn6 (fun b => w.heap.size ≤ b) (fun b hb => hb))
      go_wp2_with (first
        | (go_at_call 48; (with_reducible refine (cc.out _).mono ?_); rintro e w3 ⟨rfl, hb3⟩)
        | (go_at_call 47; (with_reducible refine (hcn.out _).mono ?_); rintro e w4 ⟨p, rfl, hb4, hp⟩; obtain ⟨⟨v, hv⟩, hfz, hR2⟩ := (hR.out.below hb3).step hin hb4 hp; have hb34 := hb3.trans (hb4.mono hb3.size); have hB' := hB.out.trans (hb34.mono hB.out.size); have hB2' := hB2.out.trans (hb34.mono hB2.out.size); have hkl := hR.out.kl; clear hb3 hb4 hp))
      go_roundw
      case rel => exact ⟨i + 1, by omega, by go_num, hB'.setCell (p := ⟨k, i, none⟩) hkl.1 _, hB2'.setCell (p := ⟨k, i, none⟩) (by rw [← hk.out]; exact Nat.le_refl _) _, hR2⟩
      case measure => simp [intOf]; omega
    · obtain rfl : i = P := by omega
      have hdi : decide (i < i) = false := decide_eq_false (Nat.lt_irrefl _)
      replace hR := Lib.hid hR
      replace hB := Lib.hid hB
      go_wp2_with fail
      go_ret
      obtain ⟨pa, t, hR⟩ := hR.out
      exact ⟨k, pa, t, rfl, hB.out, hR⟩
end Go.Proofs.YtjhoecfhmndcgaaGreat
namespace Go.Proofs.YtjhoecfhmndcgaaGreat
open Go.RowKit
set_option linter.unusedVariables false
set_option linter.unusedSimpArgs false
theorem own_s3 {w0 w : World} {v : Value} {ts : List (Int × Int × Int)} (h : Ft.OwnT w0 w v ts) : ∃ A c, v = .slice A ts.length c ∧ ts.length ≤ c ∧ Ft.S3 w w.heap.size A ts ∧ ∀ a, A = some a → w0.heap.size ≤ a.block := by
  have h1 := h
  obtain ⟨A, c, rfl, hc, hS⟩ := h.s3
  obtain ⟨hl, h2⟩ := h1
  refine ⟨A, c, rfl, hc, hS, fun a ha => ?_⟩
  rcases h2 with ⟨e, h0⟩ | ⟨g, cap, cur, e, hg, _⟩
  · injection e with e1
    rw [ha] at e1
    cases e1
  · injection e with e1
    rw [ha] at e1
    injection e1 with e1
    rw [e1]
    exact hg
set_option maxHeartbeats 2000000 in
theorem fates_new {w : World} {A : Option Addr} {c n : Nat} {ts : List (Int × Int × Int)} (hs : Ft.S3 w w.heap.size A ts) (hn : ts.length = n) (hm : Ft.mayF ts = true) :
    Calls Tryz.prog 30 #[.slice A n c] w fun e w' => ∃ p, e = .returned (.tuple #[.pointer (some p), .int .i64 0]) ∧ Below w.heap.size w w' ∧ FtIn w' (fun b => w.heap.size ≤ b) p ts := by
  have hl : n ≤ 1000000 := by have := (Ft.mayF_iff.1 hm).1; omega
  have h256 : ¬ 256 < n := by have := (Ft.mayF_iff.1 hm).1; omega
  have hI : ¬ (256 : Int) < (n : Int) := by omega
  have hd : decide (256 < n) = false := decide_eq_false h256
  have hhas := Lib.hid (Ft.contains_any A c n ts w hs hn hl)
  have hA : A = none → n = 0 := fun e => by rw [e] at hs; rw [← hn, hs.none_nil]; rfl
  have hbad := (Ft.mayF_iff.1 hm).2.1
  rw [hbad] at hhas
  replace hbad := Lib.hid hbad
  replace hs := Lib.hid hs
  replace hm := Lib.hid hm
  go_enter Tryz.func30, Tryz.ntmps30
  go_wp2_with (go_at_call 49; (with_reducible refine hhas.out.mono ?_))
  rintro e w1 ⟨rfl, hB⟩
  have hsz := hB.size
  have hcl := Lib.hid (Ft.clone_any (c := c) (hs.out.far hB) hn hl hA)
  replace hB := Lib.hid hB
  clear hhas hs
  go_wp2_with (go_at_call 51; (with_reducible refine hcl.out.mono ?_))
  rintro e w2 ⟨v, rfl, hB2, hO⟩
  have hso := Lib.hid (Ft.sort_any hO (by omega) hB2.size)
  have hB2 := Lib.hid (hB.out.trans (hB2.mono hB.out.size))
  clear hcl hO hB
  go_wp2_with (go_at_call 52; (with_reducible refine hso.out.mono ?_))
  rintro e w3 ⟨rfl, ss, hp, hr, hO, hB3⟩
  obtain ⟨A', c', rfl, hc', hS, hown⟩ := own_s3 hO
  have hmay := Ft.mayF_sorted hp hr (by omega) hbad.out
  have htw := Lib.hid (Ft.twice_any A' c' ss.length ss w3 hS rfl (by rw [hp.length_eq]; omega))
  have hB3 := Lib.hid (hB2.out.trans (hB3.mono hsz))
  replace hS := Lib.hid hS
  replace hr := Lib.hid hr
  replace hp := Lib.hid hp
  replace hown := Lib.hid hown
  clear hB2 hso hO
  obtain ⟨k, hk⟩ : ∃ k, Hid (ss.length = k) := ⟨_, Lib.hid rfl⟩
  rw [hk.out] at hc' htw ⊢
  cases htws : Ft.twT ss
  · rw [htws] at htw
    clear hmay
    go_wp2_with (go_at_call 54; (with_reducible refine htw.out.mono ?_); rintro e w4 ⟨rfl, hb4⟩; have hb5 := Lib.hid (hb4.mono (Nat.le_trans hB3.out.size (Nat.le_refl _))); have hb4 := Lib.hid hb4)
    go_ret2
    have hA := Ft.below_alloc w4 (.cells #[.slice A' k c'] 117)
    have h45 := hB3.out.trans hb5.out
    refine ⟨_, rfl, h45.trans (hA.mono h45.size), ?_⟩
    refine ⟨_, A', c', ss, rfl, by rw [World.size_alloc]; exact Nat.lt_succ_self _, h45.size, ?_, (hS.out.far hb4.out).far hA, fun a ha _ => Nat.le_trans hsz (hown.out a ha), by rw [hk.out]; exact hc', hp.out, hr.out⟩
    rw [Ft.cell_new, hk.out]
    rfl
  · rw [hm.out, htws] at hmay
    cases hmay
end Go.Proofs.YtjhoecfhmndcgaaGreat
namespace Go.Proofs.YtjhoecfhmndcgaaGreat
open Go.RowKit
set_option linter.unusedVariables false
set_option linter.unusedSimpArgs false
theorem info68 : (Tryz.prog.info? 79).map (fun i => (i.zero, i.size, i.bytes)) = some (some (.agg #[.slice none 0 0, .int .i64 0, .bool false, .bool false]), 4, 40) := by kernel_rfl
/-- n blocks of nothing -/
def zB (n : Nat) : Array Value := madeCells #[.slice none 0 0, .int .i64 0, .bool false, .bool false] (n * 4)
theorem zB_size (n : Nat) : (zB n).size = n * 4 := size_madeCells _ _
theorem zB_at {n i q : Nat} (h : i < n) (hq : q < 4) : (zB n)[i * 4 + q]? = (#[.slice none 0 0, .int .i64 0, .bool false, .bool false] : Array Value)[q]? := by
  unfold zB madeCells
  have e : (i * 4 + q) % 4 = q := by omega
  rcases (by omega : q = 0 ∨ q = 1 ∨ q = 2 ∨ q = 3) with rfl | rfl | rfl | rfl
  · simp [show i * 4 < n * 4 by omega]
  · simp [show i * 4 + 1 < n * 4 by omega, e]
  · simp [show i * 4 + 2 < n * 4 by omega, e]
  · simp [show i * 4 + 3 < n * 4 by omega, e]
theorem run_makeB (w : World) (n : Nat) (hn : n ≤ 65536) : (Instr.makeSlice 72 (.int .i64 (n : Int)) (.int .i64 (n : Int))).run Tryz.prog w = .ok (.slice (some ⟨w.heap.size, 0, none⟩) n n) (w.alloc (.cells (zB n) 79)) := by
  have hi0 := info68
  obtain ⟨i, hi, hrest⟩ := Option.map_eq_some_iff.1 hi0
  simp only [Prod.mk.injEq] at hrest
  obtain ⟨i1, i2, i3⟩ := hrest
  have h := run_make (P := Tryz.prog) w 72 79 i _ Tryz.underlying72 hi i1 .i64 .i64 (n : Int) (n : Int) (by omega) (Int.le_refl _) (by rw [i3]; omega) (by omega)
  rw [i2, Int.toNat_natCast] at h
  exact h
/-- the device's own block, ahead of its fates -/
def headC (kb cb B P W K : Nat) : Array Value := #[.int .i64 (B : Int), .int .i64 (P : Int), .int .i64 (W : Int), .int .i64 (K : Int), .slice (some ⟨kb, 0, none⟩) B cb, .pointer none, .int .i64 0, .int .i64 0, .bool false]
/-- a device with m blocks' pages, without fates -/
structure Part (w : World) (lo : Nat) (o : Nat → Nat) (g kb cb B P W K m : Nat) (md : Nat → Bool) (kp cp : Nat → Nat) (pa : Nat → Nat → Addr) : Prop where
  new : ∀ b, w.heap.size ≤ b → o b = 9
  gl : lo ≤ g ∧ g < w.heap.size
  gt : o g = 0
  gh : w.heap[g]? = some (.cells (headC kb cb B P W K) 75 (0, 0))
  kl : lo ≤ kb ∧ kb < w.heap.size
  kt : o kb = 1
  kr : ∃ cs, w.heap[kb]? = some (.cells cs 79 (0, 0)) ∧ B * 4 ≤ cs.size
  k0 : ∀ i, i < m → w.cell? ⟨kb, i * 4, none⟩ = some (.slice (some ⟨kp i, 0, none⟩) P (cp i))
  k1 : ∀ i, i < B → w.cell? ⟨kb, i * 4 + 1, none⟩ = some (.int .i64 0)
  k2 : ∀ i, i < B → w.cell? ⟨kb, i * 4 + 2, none⟩ = some (.bool (md i))
  k3 : ∀ i, i < B → w.cell? ⟨kb, i * 4 + 3, none⟩ = some (.bool false)
  pl : ∀ i, i < m → lo ≤ kp i ∧ kp i < w.heap.size
  pt : ∀ i, i < m → o (kp i) = 2
  pc : ∀ i, i < m → P ≤ cp i
  pp : ∀ i, i < m → ∀ j, j < P → w.cell? ⟨kp i, j, none⟩ = some (.pointer (some (pa i j)))
  pg : ∀ i, i < m → ∀ j, j < P → Page w (fun b => lo ≤ b ∧ o b = tg P i j) (pa i j) (List.replicate (W * (K + 16)) (0, 0)) [] 0
section
variable {w w' : World} {lo g kb cb B P W K m : Nat} {o : Nat → Nat} {md : Nat → Bool} {kp cp : Nat → Nat} {pa : Nat → Nat → Addr}
theorem Part.below (h : Part w lo o g kb cb B P W K m md kp cp pa) (hb : Below w.heap.size w w') : Part w' lo o g kb cb B P W K m md kp cp pa where
  new := fun b hb' => h.new b (Nat.le_trans hb.size hb')
  gl := ⟨h.gl.1, Nat.lt_of_lt_of_le h.gl.2 hb.size⟩
  gt := h.gt
  gh := (hb.block g h.gl.2).trans h.gh
  kl := ⟨h.kl.1, Nat.lt_of_lt_of_le h.kl.2 hb.size⟩
  kt := h.kt
  kr := by obtain ⟨cs, h1, h2⟩ := h.kr; exact ⟨cs, (hb.block kb h.kl.2).trans h1, h2⟩
  k0 := fun i hi => (hb.cell (p := ⟨kb, i * 4, none⟩) h.kl.2).trans (h.k0 i hi)
  k1 := fun i hi => (hb.cell (p := ⟨kb, i * 4 + 1, none⟩) h.kl.2).trans (h.k1 i hi)
  k2 := fun i hi => (hb.cell (p := ⟨kb, i * 4 + 2, none⟩) h.kl.2).trans (h.k2 i hi)
  k3 := fun i hi => (hb.cell (p := ⟨kb, i * 4 + 3, none⟩) h.kl.2).trans (h.k3 i hi)
  pl := fun i hi => ⟨(h.pl i hi).1, Nat.lt_of_lt_of_le (h.pl i hi).2 hb.size⟩
  pt := h.pt
  pc := h.pc
  pp := fun i hi j hj => (hb.cell (p := ⟨kp i, j, none⟩) (h.pl i hi).2).trans (h.pp i hi j hj)
  pg := fun i hi j hj => (h.pg i hi j hj).below hb
theorem Part.cellk (h : Part w lo o g kb cb B P W K m md kp cp pa) {i q : Nat} (hi : i < B) (hq : q < 4) : (∃ v, w.cell? ⟨kb, i * 4 + q, none⟩ = some v) ∧ w.frozen? ⟨kb, i * 4 + q, none⟩ = false := by
  obtain ⟨cs, h1, h2⟩ := h.kr
  exact ⟨⟨cs[i * 4 + q]'(by omega), by rw [cell_of h1, Array.getElem?_eq_getElem (by omega)]⟩, frozen_new h1 _⟩
theorem kr_set {cs : Array Value} {q n : Nat} {v : Value} (h : w.heap[kb]? = some (.cells cs 79 (0, 0))) (hn : n ≤ cs.size) : ∃ cs', (w.setCell ⟨kb, q, none⟩ v).heap[kb]? = some (.cells cs' 79 (0, 0)) ∧ n ≤ cs'.size := by
  refine ⟨cs.setIfInBounds q v, ?_, by simpa using hn⟩
  simp only [World.setCell]
  rw [Array.getElem?_modify, h]
  simp
/-- one block more has its pages -/
theorem Part.put (h : Part w lo o g kb cb B P W K m md kp cp pa) (hm : m < B) (hb : Below w.heap.size w w') {k : Nat} {pa1 : Nat → Addr} {t : Nat → Nat} (hr : RowY w' w.heap.size k P (W * (K + 16)) P pa1 t) :
    ∃ o' kp' cp' pa', Part (w'.setCell ⟨kb, m * 4, none⟩ (.slice (some ⟨k, 0, none⟩) P P)) lo o' g kb cb B P W K (m + 1) md kp' cp' pa' := by
  have h' := h.below hb
  obtain ⟨cs, hcs, hsz⟩ := h'.kr
  have hcell : w'.cell? ⟨kb, m * 4, none⟩ = some (cs[m * 4]'(by omega)) := by rw [cell_of hcs, Array.getElem?_eq_getElem (by omega)]
  have hs : (w'.setCell ⟨kb, m * 4, none⟩ (.slice (some ⟨k, 0, none⟩) P P)).heap.size = w'.heap.size := by simp [World.setCell]
  have ot : ∀ b, b ≠ kb → (w'.setCell ⟨kb, m * 4, none⟩ (.slice (some ⟨k, 0, none⟩) P P)).heap[b]? = w'.heap[b]? := fun b hb => Below.heap_setCell _ _ _ _ (by show b ≠ kb; exact hb)
  have oc : ∀ i, i ≠ m * 4 → (w'.setCell ⟨kb, m * 4, none⟩ (.slice (some ⟨k, 0, none⟩) P P)).cell? ⟨kb, i, none⟩ = w'.cell? ⟨kb, i, none⟩ := fun i hi => World.cell?_setCell_other _ _ _ _ (by intro e; injection e; omega)
  have hkl := h.kl
  have hlo : lo ≤ w.heap.size := by omega
  let o' : Nat → Nat := fun b => if w.heap.size ≤ b ∧ b < w'.heap.size then (if 10 ≤ t b ∧ t b < 10 + P then tg P m (t b - 10) else if t b = 2 then 2 else 9) else o b
  have o1 : ∀ b, b < w.heap.size → o' b = o b := fun b hb => if_neg (by omega)
  have o2 : ∀ b, w.heap.size ≤ b → b < w'.heap.size → o' b = (if 10 ≤ t b ∧ t b < 10 + P then tg P m (t b - 10) else if t b = 2 then 2 else 9) := fun b h1 h2 => if_pos ⟨h1, h2⟩
  have hkk : k ≠ kb := by have := hr.kl; omega
  refine ⟨o', fun i => if i = m then k else kp i, fun i => if i = m then P else cp i, fun i j => if i = m then pa1 j else pa i j, ?_⟩
  exact {
    new := fun b hb' => by
      rw [hs] at hb'
      show (if w.heap.size ≤ b ∧ b < w'.heap.size then _ else o b) = 9
      rw [if_neg (by omega)]
      exact h'.new b hb'
    gl := ⟨h'.gl.1, by rw [hs]; exact h'.gl.2⟩
    gt := (o1 g h.gl.2).trans h.gt
    gh := (ot g (fun e => by have h1 := h.gt; rw [e, h.kt] at h1; cases h1)).trans h'.gh
    kl := ⟨h'.kl.1, by rw [hs]; exact h'.kl.2⟩
    kt := (o1 kb h.kl.2).trans h.kt
    kr := kr_set hcs hsz
    k0 := fun i hi => by
      show _ = some (Value.slice (some ⟨if i = m then k else kp i, 0, none⟩) P (if i = m then P else cp i))
      by_cases e : i = m
      · subst e
        rw [if_pos rfl, if_pos rfl]
        exact World.cell?_setCell_same _ _ _ hcell
      · rw [if_neg e, if_neg e]
        exact (oc _ (by omega)).trans (h'.k0 i (by omega))
    k1 := fun i hi => (oc _ (by omega)).trans (h'.k1 i hi)
    k2 := fun i hi => (oc _ (by omega)).trans (h'.k2 i hi)
    k3 := fun i hi => (oc _ (by omega)).trans (h'.k3 i hi)
    pl := fun i hi => by
      show lo ≤ (if i = m then k else kp i) ∧ (if i = m then k else kp i) < _
      rw [hs]
      by_cases e : i = m
      · rw [if_pos e]; have := hr.kl; omega
      · rw [if_neg e]; exact h'.pl i (by omega)
    pt := fun i hi => by
      show o' (if i = m then k else kp i) = 2
      by_cases e : i = m
      · rw [if_pos e, o2 k hr.kl.1 hr.kl.2, hr.kt]
        rfl
      · rw [if_neg e, o1 _ (h.pl i (by omega)).2]; exact h.pt i (by omega)
    pc := fun i hi => by
      show P ≤ (if i = m then P else cp i)
      by_cases e : i = m
      · rw [if_pos e]; exact Nat.le_refl _
      · rw [if_neg e]; exact h.pc i (by omega)
    pp := fun i hi j hj => by
      show (w'.setCell _ _).cell? ⟨if i = m then k else kp i, j, none⟩ = some (Value.pointer (some (if i = m then pa1 j else pa i j)))
      by_cases e : i = m
      · rw [if_pos e, if_pos e]
        exact (World.cell?_of_block (a := ⟨k, j, none⟩) (ot k hkk)).trans (hr.pp j hj)
      · rw [if_neg e, if_neg e]
        exact (World.cell?_of_block (a := ⟨kp i, j, none⟩) (ot _ (fun e2 => by have h1 := h.pt i (by omega); rw [show kp i = kb from e2, h.kt] at h1; cases h1))).trans (h'.pp i (by omega) j hj)
    pg := fun i hi j hj => by
      show Page _ _ (if i = m then pa1 j else pa i j) _ _ _
      by_cases e : i = m
      · subst e
        rw [if_pos rfl]
        refine ((hr.pg j hj).block (by rw [hs]; exact Nat.le_refl _) fun b hb' hF => ot b (by omega)).only fun b hb' hF => ⟨by omega, ?_⟩
        rw [hs] at hb'
        rw [o2 b hF.1 hb', hF.2, if_pos (by omega), show 10 + j - 10 = j by omega]
      · rw [if_neg e]
        refine ((h'.pg i (by omega) j hj).block (by rw [hs]; exact Nat.le_refl _) fun b hb' hF => ot b (fun e2 => ?_)).only fun b hb' hF => ⟨hF.1, ?_⟩
        · have h1 := hF.2
          rw [show b = kb from e2, h.kt] at h1
          unfold tg at h1
          omega
        · rcases Nat.lt_or_ge b w.heap.size with hlt | hge
          · exact (o1 b hlt).trans hF.2
          · have h1 := h.new b hge
            have h2 := hF.2
            unfold tg at h2
            omega }
end
end Go.Proofs.YtjhoecfhmndcgaaGreat
