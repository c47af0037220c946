/- The program's In, walked. -/
import Derived.Test.YtpanmjohmgjigaaVd
namespace Go.Proofs.Ytpanmjohmgjigaa
open Go.RowKit Go.Gf

theorem RowsV.nil (w : World) (n : Nat) : RowsV w [] n (.returned (.tuple #[.slice none 0 0, .int .i64 (n : Int)])) w := ⟨Or.inl ⟨rfl, rfl⟩, Below.refl _ _⟩
set_option maxHeartbeats 4000000 in
theorem in_any (W : Int) (A : Option Addr) (c : Nat) (xs : List Nat) (w : World) (h : Sl w w.heap.size A xs) (hl : xs.length ≤ 1000000) :
    Calls Try.prog 11 #[.int .i64 W, .slice A xs.length c] w (RowsV w (inW W xs) (inE W xs)) := by
  have H := Lib.hid h
  clear h
  have hc := Lib.hid (may_any W w)
  by_cases h1 : mayB W = true
  · rw [h1] at hc
    obtain ⟨V, rfl⟩ : ∃ V : Nat, W = (V : Int) := ⟨W.toNat, by unfold mayB at h1; rw [Bool.and_eq_true, decide_eq_true_eq, decide_eq_true_eq] at h1; omega⟩
    have hV4 := mayB_nat h1
    have hV0 : (V : Int) ≠ 0 := by omega
    obtain ⟨r, hr⟩ : ∃ r, xs.length % V = r := ⟨_, rfl⟩
    have hrI : (xs.length : Int) % (V : Int) = (r : Int) := by rw [← hr]; exact (Int.natCast_emod _ _).symm
    by_cases h2 : r ≠ 0 ∨ xs.length = 0
    · have hE := Lib.hid (inE_size (s := xs) h1 (by rw [Int.toNat_natCast, hr]; exact h2))
      have hR : Hid (inW (V : Int) xs = []) := by unfold Hid inW; rw [hE.out]; rfl
      rw [hE.out, hR.out]
      by_cases h3 : r = 0
      · have d1 : ((xs.length : Int) % (V : Int) != 0) = false := by rw [hrI]; simp [h3]
        have d2 : ((xs.length : Int) == 0) = true := by rw [beq_iff_eq]; omega
        clear h1 h2 h3 hE hR hr hrI
        go_enter Try.func11, Try.ntmps11
        go_wp2_with (go_at_call 17; (with_reducible refine hc.out.mono ?_); rintro e w1 ⟨rfl, rfl⟩)
        go_ret2
        exact RowsV.nil _ _
      · have d1 : ((xs.length : Int) % (V : Int) != 0) = true := by rw [hrI]; simp; omega
        clear h1 h2 h3 hE hR hr hrI
        go_enter Try.func11, Try.ntmps11
        go_wp2_with (go_at_call 17; (with_reducible refine hc.out.mono ?_); rintro e w1 ⟨rfl, rfl⟩)
        go_ret2
        exact RowsV.nil _ _
    · have hE := Lib.hid (inE_ok (s := xs) h1 (by rw [Int.toNat_natCast, hr]; exact h2))
      have hR : Hid (inW (V : Int) xs = dealt V xs) := by unfold Hid inW; rw [hE.out]; rfl
      rw [hE.out, hR.out]
      have d1 : ((xs.length : Int) % (V : Int) != 0) = false := by rw [hrI]; simp; omega
      have d2 : ((xs.length : Int) == 0) = false := by rw [beq_eq_false_iff_ne]; omega
      obtain ⟨n, hn⟩ : ∃ n, xs.length / V = n := ⟨_, rfl⟩
      have hnl : n ≤ xs.length := by rw [← hn]; exact Nat.div_le_self _ _
      have hnI : (xs.length : Int) / (V : Int) = (n : Int) := by rw [← hn]; exact (Int.natCast_ediv _ _).symm
      have hwn : wrap64 ((xs.length : Int) / (V : Int)) = (n : Int) := by rw [hnI]; exact IntWalk.wrap64_in _ (by omega)
      have hVn : Hid (V * n ≤ xs.length) := by rw [← hn]; exact Lib.hid (Nat.mul_div_le _ _)
      have hlt2 : Hid (∀ i, i < xs.length → i % V < V ∧ i / V < n) := fun i hi => by
        have : xs.length = V * n := by rw [← hn]; have := Nat.div_add_mod xs.length V; omega
        exact divmod_lt (by omega) (by omega)
      have hmk : ∀ w, (Instr.makeSlice 22 (.int .i64 (V : Int)) (.int .i64 (V : Int))).run Try.prog w = .ok (.slice (some ⟨w.heap.size, 0, none⟩) V V) (w.alloc (.cells (madeCells #[.slice none 0 0] V) 23)) :=
        run_make_row' (P := Try.prog) 22 23 (.slice none 0 0) 24 Try.underlying22 info23w rfl .i64 .i64 V (by omega) (by omega)
      have hmk2 : ∀ w, (Instr.makeSlice 23 (.int .i64 (n : Int)) (.int .i64 (n : Int))).run Try.prog w = .ok (.slice (some ⟨w.heap.size, 0, none⟩) n n) (w.alloc (.cells (madeCells #[.int .u16 0] n) 37)) :=
        run_make_row' (P := Try.prog) 23 37 (.int .u16 0) 2 Try.underlying23 info22 rfl .i64 .i64 n (by omega) (by omega)
      replace hn := Lib.hid hn
      clear h1 h2 hE hR hr hrI hnI
      go_enter Try.func11, Try.ntmps11
      go_wp2_with (go_at_call 17; (with_reducible refine hc.out.mono ?_); rintro e w1 ⟨rfl, rfl⟩)
      go_loopw [31] (fun q wr => ∃ i : Nat, i ≤ V ∧ q = .int .i64 i ∧ Made w wr V n i) (fun q _ => V - (intOf q).toNat)
      case atStart => exact ⟨0, Nat.zero_le _, rfl, Made.start w V n⟩
      case round =>
        obtain ⟨i, hi, rfl, HM⟩ := hrel
        clear hmk
        by_cases hlt : i < V
        · have hiI : (i : Int) < (V : Int) := by omega
          have hd : decide (i < V) = true := decide_eq_true hlt
          have hcl := (HM.vs.alloc (.cells (madeCells #[.int .u16 0] n) 37)).cell hlt
          have hfz := (HM.vs.alloc (.cells (madeCells #[.int .u16 0] n) 37)).frozen i
          have HM' := Lib.hid HM.step
          clear HM
          rw [if_neg (Nat.lt_irrefl _)] at hcl
          go_wp2_with fail
          go_roundw
          case rel => exact ⟨i + 1, by omega, by go_num, HM'.out⟩
          case measure => simp [intOf]; omega
        · obtain rfl : i = V := by omega
          have hd : decide (i < i) = false := decide_eq_false (Nat.lt_irrefl _)
          have HD := Lib.hid (HM.dealt xs)
          clear HM hmk2
          go_wp2_with fail
          go_loopw [45] (fun q wr => ∃ t : Nat, t ≤ xs.length ∧ q = .int .i64 t ∧ Dealt w wr i n xs t) (fun q _ => xs.length - (intOf q).toNat)
          case atStart => exact ⟨0, Nat.zero_le _, rfl, HD.out⟩
          case round =>
            clear HD
            obtain ⟨t, ht, rfl, HT⟩ := hrel
            by_cases hlt : t < xs.length
            · have htI : (t : Int) < (xs.length : Int) := by omega
              have hd : decide (t < xs.length) = true := decide_eq_true hlt
              have HT' := HT.step
              obtain ⟨hp, hq⟩ := hlt2.out t hlt
              have hpc := place_any i t (by omega) (by omega) wr
              have hvc := HT.vs.cell hp
              have hrr := HT.rows (t % i) hp
              obtain ⟨a, rfl, hab, hcell⟩ := (H.out.below HT.be).at_ hlt
              obtain ⟨p, hpp⟩ : ∃ p, t % i = p := ⟨_, rfl⟩
              obtain ⟨q, hqq⟩ : ∃ q, t / i = q := ⟨_, rfl⟩
              rw [hpp] at hpc hp hvc hrr HT'
              rw [hqq] at hpc hq HT'
              rw [at_get hlt] at HT'
              have hrc := hrr.cell (i := q) (by rw [rm_len]; exact hq)
              have hrf := hrr.frozen q
              have hpI : (p : Int) < (i : Int) := by omega
              have hqI : (q : Int) < (n : Int) := by omega
              rw [show rowV w.heap.size n p = .slice (some ⟨w.heap.size + 1 + p, 0, none⟩) n n from rfl] at hvc
              replace hpc := Lib.hid hpc
              replace HT' := Lib.hid HT'
              clear HT hrr hpp hqq
              go_wp2_with (go_at_call 19; (with_reducible refine hpc.out.mono ?_); rintro e w1 ⟨rfl, nd, rfl⟩)
              go_roundw
              case rel => exact ⟨t + 1, by omega, by go_num, HT'.out.drewN _⟩
              case measure => simp [intOf]; omega
            · obtain rfl : t = xs.length := by omega
              have hd : decide (xs.length < xs.length) = false := decide_eq_false (Nat.lt_irrefl _)
              have HR := Lib.hid (HT.done hn.out.symm hVn.out H.out.1 (by omega))
              clear HT
              go_wp2_with fail
              go_ret2
              exact HR.out
  · have e1 : mayB W = false := by simpa using h1
    have hE := Lib.hid (inE_arg (s := xs) e1)
    have hR : Hid (inW W xs = []) := by unfold Hid inW; rw [hE.out]; rfl
    rw [hE.out, hR.out]
    rw [e1] at hc
    clear hE hR h1 e1
    go_enter Try.func11, Try.ntmps11
    go_wp2_with (go_at_call 17; (with_reducible refine hc.out.mono ?_); rintro e w1 ⟨rfl, rfl⟩)
    go_ret2
    exact RowsV.nil _ _
end Go.Proofs.Ytpanmjohmgjigaa
