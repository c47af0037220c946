/- Slices of slices of 16-bit numbers, and copying into a row of one's own. -/
import Derived.Test.YtjhoecfhmndcgaaGreatV16
import Derived.Laws.CopyOwn
namespace Go.Proofs.YtjhoecfhmndcgaaGreat
open Go.RowKit Go.Gf

theorem size23 : (Tryz.prog.info? 46).map (·.size) = some 1 := by kernel_rfl
theorem elem22 : Tryz.prog.elem 41 = 46 := by kernel_rfl
theorem sizeOf23 (w : World) : (sizeOf 46).run Tryz.prog w = .ok 1 w := by kernel_rfl
theorem add_zero' (a : Addr) : a.add 0 = a := by unfold Addr.add; rw [if_pos rfl]
/-- s[:h] -/
theorem slice_head (A : Option Addr) (n c h : Nat) (hc : h ≤ c) (w : World) : (Instr.slice 41 (.slice A n c) none (some (.int .i64 (h : Int))) none).run Tryz.prog w = .ok (.slice A h c) w := by
  rw [run_slice_h (P := Tryz.prog) w 41 A n c (by rw [elem22]; exact Tryz.underlying41) .i64 (h : Int) (by omega) (by omega), elem22, sizeOf23]
  simp only [Result.andThen_ok, sliced, Int.toNat_natCast, Nat.sub_zero, Nat.zero_mul]
  congr 2
  split
  · rfl
  · cases A <;> simp [add_zero']
/-- s[i:] of a row of one's own -/
theorem slice_tail (g n c i : Nat) (hi : i < c) (hn : i ≤ n) (w : World) : (Instr.slice 41 (.slice (some ⟨g, 0, none⟩) n c) (some (.int .i64 (i : Int))) none none).run Tryz.prog w = .ok (.slice (some ⟨g, i, none⟩) (n - i) (c - i)) w := by
  rw [run_slice_l (P := Tryz.prog) w 41 (some ⟨g, 0, none⟩) n c (by rw [elem22]; exact Tryz.underlying41) .i64 (i : Int) (by omega) (by omega), elem22, sizeOf23]
  simp only [Result.andThen_ok, sliced, Int.toNat_natCast, Nat.mul_one]
  congr 2
  rw [if_neg (by omega)]
  by_cases h0 : i = 0
  · subst h0; simp [add_zero']
  · simp [Addr.add, h0]
theorem Sl.take {w : World} {B : Nat} {A : Option Addr} {xs : List Nat} (h : Sl w B A xs) (k : Nat) : Sl w B A (xs.take k) := by
  refine ⟨fun x hx => h.1 x (List.mem_of_mem_take hx), ?_⟩
  rcases h.2 with e | ⟨a, e, hb, hc⟩
  · left; rw [e]; simp
  · refine Or.inr ⟨a, e, hb, fun i hi => ?_⟩
    have h1 : i < xs.length := by simp at hi; omega
    rw [List.getElem_take]; exact hc i h1
theorem splice_own (xs : List Nat) (n : Nat) (h : xs.length ≤ n) : splice (((List.replicate n 0).map uv)) 0 (xs.map uv) = (rm n (at_ xs)).map uv := by
  unfold splice
  apply List.ext_getElem
  · simp [rm]; omega
  · intro j h1 h2
    simp only [List.take_zero, List.nil_append, Nat.zero_add, List.length_map]
    rw [List.getElem_append]
    by_cases hj : j < xs.length
    · simp [hj, rm, at_]
    · simp [hj, rm, at_]
end Go.Proofs.YtjhoecfhmndcgaaGreat
