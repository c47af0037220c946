/- The device: its operations, by their names: Program, Erase, Mark. -/
import Derived.Test.YtnndhbppgmnefaaDh
namespace Go.Proofs.Ytnndhbppgmnefaa
open Go.RowKit Go.Gf Go.Fl
set_option linter.unusedVariables false
set_option linter.unusedSimpArgs false
/-- an operation on a page that there is: its answer, and what it makes -/
def stepD (M : Dev) (k : Int) (b p : Nat) (xs : List Nat) : Int × Dev :=
  if M.dark = true then (8, M) else opR M (faultE M k b p) (carryR { M with ops := M.ops + 1 } k b p xs (fateOf M))
/-- an operation on a page that there is not -/
def stepN (M : Dev) : Int × Dev := if M.dark = true then (8, M) else (1, { M with ops := M.ops + 1, rf := M.rf + 1 })
theorem progE_zero {M : Dev} {b p : Nat} (hp : p < M.P) (h : progE M b p = 0) : (M.pg b p).st = 0 := by
  unfold progE at h
  split at h
  · cases h
  · split at h
    · cases h
    · rename_i h1
      have h2 : nextB M b p = true := by simpa using h1
      unfold nextB at h2
      rw [Bool.and_eq_true] at h2
      have := List.all_eq_true.1 h2.1 p (List.mem_range.2 hp)
      exact of_decide_eq_true this (Nat.le_refl _)
theorem keeps_sl {w w' : World} {F : Nat → Prop} {A : Option Addr} {xs : List Nat} (h : Sl w w.heap.size A xs) (hA : ∀ a, A = some a → a.block < w.heap.size ∧ ¬ F a.block) (hk : Cl.Keeps (fun b => ¬ F b) w w') : Sl w' w'.heap.size A xs :=
  h.block hk.size fun a e hl => hk.block _ hl (hA a e).2
/-- how great a device's numbers may be -/
structure Fine (M : Dev) : Prop where
  ops : M.ops < 1000000000
  rf : M.rf < 1000000000
  er : ∀ b, M.er b < 1000000
/-- symbols that are handed in: as many as a page has cells -/
structure Given (w : World) (F : Nat → Prop) (A : Option Addr) (n c : Nat) (xs : List Nat) (M : Dev) : Prop where
  sl : Sl w w.heap.size A xs
  out : ∀ a, A = some a → a.block < w.heap.size ∧ ¬ F a.block
  len : xs.length = n
  all : n = M.n
  cap : n ≤ c
  sym : ∀ x ∈ xs, x < 1024
theorem operate_any {w : World} {F : Nat → Prop} {L : Lay} {M : Dev} (h : Rep w F L M) (hF : ∀ b, w.heap.size ≤ b → F b) (hf : Fine M) (k : Int) {b p : Nat} (hb : b < M.B) (hp : p < M.P) (A : Option Addr) (n c : Nat) {xs : List Nat} (hs : k = 2 → Given w F A n c xs M) :
    Calls Try.prog 29 #[.pointer (some ⟨L.g, 0, none⟩), .agg #[.int .i64 k, .int .i64 (b : Int), .int .i64 (p : Int), .slice A n c]] w fun e w' => e = .returned (.int .i64 (stepD M k b p xs).1) ∧ Cl.Keeps (fun b' => ¬ F b') w w' ∧ Rep w' F L (stepD M k b p xs).2 := by
  obtain ⟨o, h⟩ := h
  unfold stepD
  by_cases hd : M.dark = true
  · rw [if_pos hd]
    exact op_dark h hd k b p A n c
  · rw [if_neg hd]
    refine op_any h hF (by simpa using hd) hf.ops hf.rf k b p A n c (faultE M k b p) (carryR { M with ops := M.ops + 1 } k b p xs (fateOf M)) (fun w' hk hr => ?_) (fun hE w' F' hk hFF hF' hr => ?_)
    · exact fault_yes hr k (M := { M with ops := M.ops + 1 }) hb hp A n c (xs := xs) fun e => ⟨keeps_sl (hs e).sl (hs e).out hk, (hs e).len, (hs e).all, (hs e).sym⟩
    · refine carry_any hr hF' k (M := { M with ops := M.ops + 1 }) hb hp (hf.er b) A n c (xs := xs) (fun e => ?_) (fateOf M) (fate_bounds h)
      have he := hs e
      subst e
      refine ⟨progE_zero hp hE, keeps_sl he.sl he.out hk, fun a ea => ⟨Nat.lt_of_lt_of_le (he.out a ea).1 hk.size, fun hh => (he.out a ea).2 (hFF _ hh)⟩, he.len, he.all, he.cap, he.sym⟩
theorem operate_no {w : World} {F : Nat → Prop} {L : Lay} {M : Dev} (h : Rep w F L M) (hF : ∀ b, w.heap.size ≤ b → F b) (hf : Fine M) (k b p : Int) (hn : ¬ (0 ≤ b ∧ b < (M.B : Int) ∧ 0 ≤ p ∧ p < (M.P : Int))) (A : Option Addr) (n c : Nat) :
    Calls Try.prog 29 #[.pointer (some ⟨L.g, 0, none⟩), .agg #[.int .i64 k, .int .i64 b, .int .i64 p, .slice A n c]] w fun e w' => e = .returned (.int .i64 (stepN M).1) ∧ Cl.Keeps (fun b' => ¬ F b') w w' ∧ Rep w' F L (stepN M).2 := by
  obtain ⟨o, h⟩ := h
  unfold stepN
  by_cases hd : M.dark = true
  · rw [if_pos hd]
    exact op_dark h hd k b p A n c
  · rw [if_neg hd]
    exact op_any h hF (by simpa using hd) hf.ops hf.rf k b p A n c 1 (0, M) (fun w' hk hr => fault_no hr k b p A n c (isN_no (M := M) hn)) (fun hE => absurd hE (by decide))
/-- what an operation of the device leaves -/
def Did (w : World) (F : Nat → Prop) (c : Addr) (r : Int × Dev) (e : Ending) (w' : World) : Prop := e = .returned (.int .i64 r.1) ∧ Cl.Keeps (fun b => ¬ F b) w w' ∧ Chip w' F c r.2
section
variable {w : World} {F : Nat → Prop} {a : Addr} {M : Dev}
set_option maxHeartbeats 1000000 in
theorem d_program (h : Chip w F a M) (hF : ∀ b, w.heap.size ≤ b → F b) (hf : Fine M) {b p : Nat} (hb : b < M.B) (hp : p < M.P) {A : Option Addr} {n c : Nat} {xs : List Nat} (hs : Given w F A n c xs M) :
    Calls Try.prog 10 #[.pointer (some a), .int .i64 (b : Int), .int .i64 (p : Int), .slice A n c] w (Did w F a (stepD M 2 b p xs)) := by
  obtain ⟨L, rfl, h⟩ := h
  have ho := Lib.hid (operate_any h hF hf 2 hb hp A n c (xs := xs) fun _ => hs)
  clear h hF hf hs hb hp
  generalize stepD M 2 b p xs = R at *
  go_enter Try.func10, Try.ntmps10
  go_wp2_with (go_at_call 29; (with_reducible refine ho.out.mono ?_); rintro e w2 ⟨rfl, hk2, hr2⟩)
  go_ret
  exact ⟨rfl, hk2, L, rfl, hr2⟩
theorem d_erase (h : Chip w F a M) (hF : ∀ b, w.heap.size ≤ b → F b) (hf : Fine M) {b : Nat} (hb : b < M.B) (hp : 0 < M.P) :
    Calls Try.prog 11 #[.pointer (some a), .int .i64 (b : Int)] w (Did w F a (stepD M 3 b 0 [])) := by
  obtain ⟨L, rfl, h⟩ := h
  have ho := operate_any h hF hf 3 hb hp none 0 0 (xs := []) fun e => absurd e (by decide)
  rw [Int.natCast_zero] at ho
  replace ho := Lib.hid ho
  clear h hF hf hb hp
  generalize stepD M 3 b 0 [] = R at *
  go_enter Try.func11, Try.ntmps11
  go_wp2_with (go_at_call 29; (with_reducible refine ho.out.mono ?_); rintro e w2 ⟨rfl, hk2, hr2⟩)
  go_ret
  exact ⟨rfl, hk2, L, rfl, hr2⟩
theorem d_erase_no (h : Chip w F a M) (hF : ∀ b, w.heap.size ≤ b → F b) (hf : Fine M) {b : Int} (hn : ¬ (0 ≤ b ∧ b < (M.B : Int))) :
    Calls Try.prog 11 #[.pointer (some a), .int .i64 b] w (Did w F a (stepN M)) := by
  obtain ⟨L, rfl, h⟩ := h
  have ho := Lib.hid (operate_no h hF hf 3 b 0 (fun e => hn ⟨e.1, e.2.1⟩) none 0 0)
  clear h hF hf hn
  generalize stepN M = R at *
  go_enter Try.func11, Try.ntmps11
  go_wp2_with (go_at_call 29; (with_reducible refine ho.out.mono ?_); rintro e w2 ⟨rfl, hk2, hr2⟩)
  go_ret
  exact ⟨rfl, hk2, L, rfl, hr2⟩
theorem d_mark (h : Chip w F a M) (hF : ∀ b, w.heap.size ≤ b → F b) (hf : Fine M) {b : Nat} (hb : b < M.B) (hp : 0 < M.P) :
    Calls Try.prog 15 #[.pointer (some a), .int .i64 (b : Int)] w (Did w F a (stepD M 4 b 0 [])) := by
  obtain ⟨L, rfl, h⟩ := h
  have ho := operate_any h hF hf 4 hb hp none 0 0 (xs := []) fun e => absurd e (by decide)
  rw [Int.natCast_zero] at ho
  replace ho := Lib.hid ho
  clear h hF hf hb hp
  generalize stepD M 4 b 0 [] = R at *
  go_enter Try.func15, Try.ntmps15
  go_wp2_with (go_at_call 29; (with_reducible refine ho.out.mono ?_); rintro e w2 ⟨rfl, hk2, hr2⟩)
  go_ret
  exact ⟨rfl, hk2, L, rfl, hr2⟩
end
end Go.Proofs.Ytnndhbppgmnefaa
