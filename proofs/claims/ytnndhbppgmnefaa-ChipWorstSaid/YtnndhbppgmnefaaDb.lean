/- The device: why an operation ends in an error of its own: the pages' order, what a block refuses. -/
import Derived.Test.YtnndhbppgmnefaaDa
namespace Go.Proofs.Ytnndhbppgmnefaa
open Go.RowKit Go.Gf Go.Fl
set_option linter.unusedVariables false
set_option linter.unusedSimpArgs false
theorem dbeyond_any (x : Nat) (w : World) : Calls Try.prog 80 #[.int .u16 (x : Int)] w fun e w' => e = .returned (.bool (decide (1024 ≤ x))) ∧ w = w' := by
  have h : decide ((1024 : Int) ≤ (x : Int)) = decide (1024 ≤ x) := by rw [decide_eq_decide]; omega
  go_enter Try.func80, Try.ntmps80
  go_wp2_with fail
  go_ret
  exact ⟨rfl, rfl⟩
set_option maxHeartbeats 2000000 in
theorem dindex_any (A : Option Addr) (c : Nat) (xs : List Nat) (w : World) (h : Sl w w.heap.size A xs) (hl : xs.length ≤ 1000000) (n : Nat) (hn : xs.length = n) :
    Calls Try.prog 93 #[.slice A n c, .func (.func 80) #[] #[]] w fun e w' => (∃ k : Int, e = .returned (.int .i64 k) ∧ anyC xs = decide (0 ≤ k)) ∧ w = w' := by
  subst hn
  have H := Lib.hid h
  clear h
  have hno : Hid ((∀ k (h : k < xs.length), xs[k] < 1024) → anyC xs = false) := anyC_none
  have hyes : Hid (∀ {k : Nat} (hk : k < xs.length), 1024 ≤ xs[k] → anyC xs = true) := anyC_some
  generalize anyC xs = T at *
  go_enter Try.func93, Try.ntmps93
  go_wp2_with fail
  go_loop [8] (fun n => ∃ k : Nat, k ≤ xs.length ∧ Hid (∀ j (h : j < xs.length), j < k → xs[j] < 1024) ∧ n = .int .i64 k) (fun n => xs.length - (intOf n).toNat)
  case atStart => exact ⟨0, Nat.zero_le _, Lib.hid (fun j _ h => absurd h (by omega)), rfl⟩
  case round =>
    obtain ⟨k, hk, HK, rfl⟩ := hrel
    by_cases hlt : k < xs.length
    · obtain ⟨a, rfl, hab, hcell⟩ := H.out.at_ hlt
      have hx := H.out.1 xs[k] (List.getElem_mem hlt)
      have hc := dbeyond_any xs[k] w
      by_cases hb : 1024 ≤ xs[k]
      · obtain rfl := hyes.out hlt hb
        rw [decide_eq_true hb] at hc
        replace hc := Lib.hid hc
        clear hb
        go_wp2_with (go_at_call 80; (with_reducible refine hc.out.mono ?_); rintro e w1 ⟨rfl, rfl⟩)
        go_ret
        exact ⟨⟨_, rfl, by rw [eq_comm, decide_eq_true_eq]; omega⟩, rfl⟩
      · rw [decide_eq_false hb] at hc
        replace hc := Lib.hid hc
        have HK' : Hid (∀ j (h : j < xs.length), j < k + 1 → xs[j] < 1024) := fun j hj hjk => by
          rcases Nat.lt_or_ge j k with h1 | h1
          · exact HK.out j hj h1
          · obtain rfl : j = k := by omega
            omega
        clear hb HK
        go_wp2_with (go_at_call 80; (with_reducible refine hc.out.mono ?_); rintro e w1 ⟨rfl, rfl⟩)
        go_round
        case rel => exact ⟨k + 1, by omega, HK', by go_num⟩
        case measure => simp [intOf]; omega
    · obtain rfl : k = xs.length := by omega
      obtain rfl := hno.out (fun j hj => HK.out j hj hj)
      clear HK
      go_wp2_with fail
      go_ret
      exact ⟨⟨-1, rfl, by decide⟩, rfl⟩
set_option maxHeartbeats 1000000 in
theorem dcontains_any (A : Option Addr) (c : Nat) (xs : List Nat) (w : World) (h : Sl w w.heap.size A xs) (hl : xs.length ≤ 1000000) (n : Nat) (hn : xs.length = n) :
    Calls Try.prog 79 #[.slice A n c, .func (.func 80) #[] #[]] w fun e w' => e = .returned (.bool (anyC xs)) ∧ w = w' := by
  have hc := Lib.hid (dindex_any A c xs w h hl n hn)
  clear h hn
  generalize anyC xs = T at *
  go_enter Try.func79, Try.ntmps79
  go_wp2_with (go_at_call 93; (with_reducible refine hc.out.mono ?_); rintro e w1 ⟨⟨k, rfl, hk⟩, rfl⟩)
  go_ret
  exact ⟨by rw [hk]; rfl, rfl⟩
/-- an error that is counted -/
def refB (e : Int) : Bool := decide (e = 1) || decide (e = 3) || decide (e = 9) || decide (e = 5)
theorem refusal_any (e : Int) (w : World) : Calls Try.prog 46 #[.int .i64 e] w fun e' w' => e' = .returned (.bool (refB e)) ∧ w = w' := by
  go_enter Try.func46, Try.ntmps46
  go_wp2_with fail
  all_goals (go_ret; first | exact ⟨rfl, rfl⟩ | (refine ⟨congrArg (fun b => Ending.returned (.bool b)) ?_, rfl⟩; rename_i hh; unfold refB; show true = _; rw [hh]; rfl))
/-- are all from page p on blank, and the one ahead not? -/
def blankFrom (M : Dev) (b p : Nat) : Bool := (List.range M.P).all fun j => decide (p ≤ j → (M.pg b j).st = 0)
def nextB (M : Dev) (b p : Nat) : Bool := blankFrom M b p && (decide (p = 0) || decide ((M.pg b (p - 1)).st ≠ 0))
theorem blankFrom_no {M : Dev} {b p j : Nat} (hj : j < M.P) (hp : p ≤ j) (h : (M.pg b j).st ≠ 0) : blankFrom M b p = false := by
  rw [Bool.eq_false_iff]
  intro e
  have := List.all_eq_true.1 e j (List.mem_range.2 hj)
  exact h (of_decide_eq_true this hp)
theorem blankFrom_yes {M : Dev} {b p : Nat} (h : ∀ j, j < M.P → p ≤ j → (M.pg b j).st = 0) : blankFrom M b p = true :=
  List.all_eq_true.2 fun j hj => decide_eq_true (h j (List.mem_range.1 hj))
theorem elem65 : Try.prog.elem 65 = 74 := by kernel_rfl
/-- s[m:] -/
theorem slice_pages (A : Option Addr) (n c m : Nat) (hm : m ≤ n) (w : World) : (Instr.slice 65 (.slice A n c) (some (.int .i64 (m : Int))) none none).run Try.prog w = .ok (sliced A m n c 1) w := by
  rw [run_slice_l (P := Try.prog) w 65 A n c (by rw [elem65]; exact Try.underlying65) .i64 (m : Int) (by omega) (by omega), elem65, Try.sizeOf74]
  simp only [Result.andThen_ok, Int.toNat_natCast]
set_option maxHeartbeats 2000000 in
theorem next_any {w : World} {F : Nat → Prop} {o : Nat → Nat} {L : Lay} {M : Dev} (h : RepO w F o L M) {b p : Nat} (hb : b < M.B) (hp : p < M.P) (x y z : Value) :
    Calls Try.prog 81 #[.agg #[.slice (some ⟨L.kp b, 0, none⟩) M.P (L.cp b), x, y, z], .int .i64 (p : Int)] w (Ans w (.bool (nextB M b p))) := by
  have hcap := h.pc b hb
  have hsl := slice_pages (some ⟨L.kp b, 0, none⟩) M.P (L.cp b) p (by omega)
  have hPc : M.P ≤ 32 := by have := Ge.may_of h.geo; omega
  obtain ⟨a, ha, hcell, hab⟩ : ∃ a, sliced (some ⟨L.kp b, 0, none⟩) p M.P (L.cp b) 1 = .slice (some a) (M.P - p) (L.cp b - p) ∧ (∀ i, i < M.P - p → w.cell? (a.add i) = some (.pointer (some (L.pa b (p + i))))) ∧ a.block < w.heap.size := by
    refine ⟨(⟨L.kp b, 0, none⟩ : Addr).add p, ?_, fun i hi => ?_, ?_⟩
    · unfold sliced
      rw [if_neg (by omega), Nat.mul_one]
      rfl
    · rw [add_add2]
      have e : (⟨L.kp b, 0, none⟩ : Addr).add (p + i) = ⟨L.kp b, p + i, none⟩ := by unfold Addr.add; split <;> simp_all
      rw [e]
      exact h.pp b hb (p + i) (by omega)
    · rw [add_block]; exact h.pl b hb
  rw [ha] at hsl
  have hA := below_alloc' w (.cells #[.slice (some ⟨L.kp b, 0, none⟩) M.P (L.cp b), x, y, z] 68)
  have b0 := cell_new w #[.slice (some ⟨L.kp b, 0, none⟩) M.P (L.cp b), x, y, z] 68 0
  have b0 : (w.alloc (.cells #[.slice (some ⟨L.kp b, 0, none⟩) M.P (L.cp b), x, y, z] 68)).cell? ⟨w.heap.size, 0, none⟩ = some (.slice (some ⟨L.kp b, 0, none⟩) M.P (L.cp b)) := b0
  have hbl : w.heap.size < (w.alloc (.cells #[.slice (some ⟨L.kp b, 0, none⟩) M.P (L.cp b), x, y, z] 68)).heap.size := by rw [World.size_alloc]; omega
  have hno : Hid (∀ {j : Nat}, j < M.P → p ≤ j → (M.pg b j).st ≠ 0 → blankFrom M b p = false) := fun h1 h2 h3 => blankFrom_no h1 h2 h3
  have hyes : Hid ((∀ j, j < M.P → p ≤ j → (M.pg b j).st = 0) → blankFrom M b p = true) := blankFrom_yes
  have hs0 := h.pp b hb
  replace hcell := Lib.hid hcell
  replace h := Lib.hid h
  replace hs0 := Lib.hid hs0
  obtain ⟨n, hn⟩ : ∃ n, M.P = n := ⟨_, rfl⟩
  unfold nextB
  rw [hn] at hsl hcap hPc hp b0 hbl
  rw [hn] at hA ⊢
  obtain ⟨m, hm⟩ : ∃ m, n - p = m := ⟨_, rfl⟩
  rw [hm] at hsl
  have hmp : Hid (m + p = n) := Lib.hid (by omega)
  generalize hw1 : w.alloc (.cells #[.slice (some ⟨L.kp b, 0, none⟩) n (L.cp b), x, y, z] 68) = w1 at *
  replace hn := Lib.hid hn
  have hbw : w.heap.size < w1.heap.size := hbl
  generalize blankFrom M b p = T at *
  replace hA := Lib.hid hA
  clear hm
  have hmle : Hid (m ≤ 32) := Lib.hid (by have := hmp.out; omega)
  go_enter Try.func81, Try.ntmps81
  go_wp2_with (simp only [hsl])
  go_loopw [12] (fun q wr => ∃ i : Nat, i ≤ m ∧ q = .int .i64 i ∧ Below w.heap.size w wr ∧ Below w1.heap.size w1 wr ∧ Hid (∀ j, p ≤ j → j < p + i → (M.pg b j).st = 0)) (fun q _ => m - (intOf q).toNat)
  case atStart => exact ⟨0, Nat.zero_le _, rfl, hA.out, Below.refl _ _, Lib.hid (fun j h1 h2 => absurd h2 (by omega))⟩
  case round =>
    obtain ⟨i, hi, rfl, hB, hB1, hlo⟩ := hrel
    have hmr := hmp.out
    have hm32 := hmle.out
    by_cases hin : i < m
    · have hiI : (i : Int) < (m : Int) := by omega
      have hdi : decide (i < m) = true := decide_eq_true hin
      have hcl : wr.cell? (a.add i) = some (.pointer (some (L.pa b (p + i)))) := (hB.cell (by rw [add_block]; exact hab)).trans (hcell.out i (by rw [hn.out]; omega))
      have hpi : p + i < M.P := by rw [hn.out]; omega
      have hst := Lib.hid (c_state ((h.out.pg b hb (p + i) hpi).below hB))
      by_cases hz : (M.pg b (p + i)).st = 0
      · rw [hz] at hst
        have hlo' : Hid (∀ j, p ≤ j → j < p + (i + 1) → (M.pg b j).st = 0) := fun j h1 h2 => by
          rcases Nat.lt_or_ge j (p + i) with h3 | h3
          · exact hlo.out j h1 h3
          · rw [show j = p + i by omega]; exact hz
        clear hlo hz hmr
        replace hB := Lib.hid hB
        replace hB1 := Lib.hid hB1
        go_wp2_with (go_at_call 94; (with_reducible refine hst.out.mono ?_); rintro e w2 ⟨rfl, hb2⟩; have hB' := Lib.hid (hB.out.trans (hb2.mono hB.out.size)); have hB1' := Lib.hid (hB1.out.trans (hb2.mono hB1.out.size)); clear hb2)
        go_roundw
        case rel => exact ⟨i + 1, by omega, by go_num, hB'.out, hB1'.out, hlo'⟩
        case measure => simp [intOf]; omega
      · have hT := hno.out hpi (by omega) hz
        have e1 : ((M.pg b (p + i)).st != 0) = true := by simpa using hz
        generalize (M.pg b (p + i)).st = S at *
        clear hlo hz hmr hno hyes
        replace hB := Lib.hid hB
        go_wp2_with (go_at_call 94; (with_reducible refine hst.out.mono ?_); rintro e w2 ⟨rfl, hb2⟩; have hB' := Lib.hid (hB.out.trans (hb2.mono hB.out.size)); clear hb2)
        go_ret
        exact ⟨by rw [hT]; rfl, hB'.out⟩
    · obtain rfl : i = m := by omega
      have hdi : decide (i < i) = false := decide_eq_false (Nat.lt_irrefl _)
      have hT := hyes.out (fun j h1 h2 => hlo.out j h2 (by rw [hn.out] at h1; omega))
      have c0 := (hB1.cell (p := ⟨w.heap.size, 0, none⟩) hbw).trans b0
      clear hlo hno hyes hmr
      replace hB1 := Lib.hid hB1
      subst hT
      by_cases hp0 : p = 0
      · subst hp0
        replace hB := Lib.hid hB
        go_wp2_with fail
        go_ret
        exact ⟨rfl, hB.out⟩
      · obtain ⟨q, rfl⟩ : ∃ q, p = q + 1 := ⟨p - 1, by omega⟩
        have e2 : ((q : Int) + 1 == 0) = false := by simp; omega
        have e3 : (((q + 1 : Nat) : Int) == 0) = false := by simp; omega
        have hq : q < M.P := by rw [hn.out]; omega
        have hqn : q < n := by omega
        have hqI : (q : Int) < (n : Int) := by omega
        have hcl : wr.cell? ⟨L.kp b, q, none⟩ = some (.pointer (some (L.pa b q))) := (hB.cell (p := ⟨L.kp b, q, none⟩) (h.out.pl b hb)).trans (hs0.out q hq)
        have hst := Lib.hid (c_state ((h.out.pg b hb q hq).below hB))
        have hw : wrap64 ((q : Int) + 1 - 1) = (q : Int) := by rw [IntWalk.wrap64_in _ (by omega)]; omega
        have e4 : decide (q + 1 = 0) = false := by simp
        have e5 : q + 1 - 1 = q := rfl
        have e6 : ((M.pg b q).st != 0) = decide ((M.pg b q).st ≠ 0) := by rw [Bool.eq_iff_iff]; simp
        have e7 : Hid (((M.pg b q).st != 0) = (true && (decide (q + 1 = 0) || decide ((M.pg b (q + 1 - 1)).st ≠ 0)))) := Lib.hid (by rw [e4, e5, e6]; rfl)
        clear e6
        obtain ⟨S, hS⟩ : ∃ S, (M.pg b q).st = S := ⟨_, rfl⟩
        rw [hS] at hst
        have e8 : Hid ((S != 0) = (true && (decide (q + 1 = 0) || decide ((M.pg b (q + 1 - 1)).st ≠ 0)))) := Lib.hid (by rw [← hS]; exact e7.out)
        clear e7 hS
        replace hB := Lib.hid hB
        go_wp2_with (go_at_call 94; (with_reducible refine hst.out.mono ?_); rintro e w2 ⟨rfl, hb2⟩; have hB' := Lib.hid (hB.out.trans (hb2.mono hB.out.size)); clear hb2)
        go_ret
        exact ⟨congrArg (fun b => Ending.returned (.bool b)) e8.out, hB'.out⟩
/-- why a page can't be programmed, if as many symbols as it has cells are handed in -/
def progE (M : Dev) (b p : Nat) : Int := if M.md b = true then 9 else if nextB M b p = false then 5 else if M.bk b = true then 6 else 0
def erasE (M : Dev) (b : Nat) : Int := if M.md b = true then 9 else if M.bk b = true then 7 else 0
theorem anyC_ok {xs : List Nat} (h : ∀ x ∈ xs, x < 1024) : anyC xs = false := anyC_none fun k hk => h _ (List.getElem_mem hk)
set_option maxHeartbeats 2000000 in
theorem progfault_any {w : World} {F : Nat → Prop} {o : Nat → Nat} {L : Lay} {M : Dev} (h : RepO w F o L M) {b p : Nat} (hb : b < M.B) (hp : p < M.P) {A : Option Addr} {xs : List Nat} {c n : Nat} (hs : Sl w w.heap.size A xs) (hn : xs.length = n) (hl : n ≤ 1000000) (hx : ∀ x ∈ xs, x < 1024) (x : Value) :
    Calls Try.prog 59 #[.agg #[.slice (some ⟨L.kp b, 0, none⟩) M.P (L.cp b), x, .bool (M.md b), .bool (M.bk b)], .int .i64 (p : Int), .slice A n c, .int .i64 (n : Int)] w (Ans w (.int .i64 (progE M b p))) := by
  have hA := below_alloc' w (.cells #[.slice (some ⟨L.kp b, 0, none⟩) M.P (L.cp b), x, .bool (M.md b), .bool (M.bk b)] 68)
  have bc := cell_new w #[.slice (some ⟨L.kp b, 0, none⟩) M.P (L.cp b), x, .bool (M.md b), .bool (M.bk b)] 68
  have b0 := bc 0
  have b1 := bc 1
  have b2 := bc 2
  have b3 := bc 3
  clear bc
  simp only [List.getElem?_toArray, List.getElem?_cons_zero, List.getElem?_cons_succ] at b0 b1 b2 b3
  have hbl : w.heap.size < (w.alloc (.cells #[.slice (some ⟨L.kp b, 0, none⟩) M.P (L.cp b), x, .bool (M.md b), .bool (M.bk b)] 68)).heap.size := by rw [World.size_alloc]; omega
  have hany := anyC_ok hx
  have hcc := dcontains_any A c xs (w.alloc (.cells #[.slice (some ⟨L.kp b, 0, none⟩) M.P (L.cp b), x, .bool (M.md b), .bool (M.bk b)] 68)) ((hs.below hA).more hA.size) (by omega) n hn
  have hnx := next_any (h.below hA) hb hp x (.bool (M.md b)) (.bool (M.bk b))
  rw [hany] at hcc
  unfold progE
  generalize nextB M b p = N at *
  generalize M.md b = D at *
  generalize M.bk b = K at *
  generalize hw1 : w.alloc (.cells #[.slice (some ⟨L.kp b, 0, none⟩) M.P (L.cp b), x, .bool D, .bool K] 68) = w1 at *
  have d1 : ((n : Int) != (n : Int)) = false := by simp
  replace hA := Lib.hid hA
  replace hcc := Lib.hid hcc
  replace hnx := Lib.hid hnx
  clear h hs hx hany
  cases D
  · cases N
    · go_enter Try.func59, Try.ntmps59
      go_wp2_with (first
        | (go_at_call 79; (with_reducible refine hcc.out.mono ?_); rintro e w2 ⟨rfl, rfl⟩)
        | (go_at_call 81; (with_reducible refine hnx.out.mono ?_); rintro e w2 ⟨rfl, hb2⟩; have hB := Lib.hid (hA.out.trans (hb2.mono hA.out.size)); have c3 := (hb2.cell (p := ⟨w.heap.size, 3, none⟩) hbl).trans b3; clear hb2))
      go_ret
      exact ⟨rfl, hB.out⟩
    · cases K
      all_goals
        go_enter Try.func59, Try.ntmps59
        go_wp2_with (first
          | (go_at_call 79; (with_reducible refine hcc.out.mono ?_); rintro e w2 ⟨rfl, rfl⟩)
          | (go_at_call 81; (with_reducible refine hnx.out.mono ?_); rintro e w2 ⟨rfl, hb2⟩; have hB := Lib.hid (hA.out.trans (hb2.mono hA.out.size)); have c3 := (hb2.cell (p := ⟨w.heap.size, 3, none⟩) hbl).trans b3; clear hb2))
        go_ret
        exact ⟨rfl, hB.out⟩
  · go_enter Try.func59, Try.ntmps59
    go_wp2_with (first
      | (go_at_call 79; (with_reducible refine hcc.out.mono ?_); rintro e w2 ⟨rfl, rfl⟩))
    go_ret
    exact ⟨rfl, hA.out⟩
theorem erasefault_any (w : World) (M : Dev) (b : Nat) (x y : Value) :
    Calls Try.prog 60 #[.agg #[x, y, .bool (M.md b), .bool (M.bk b)]] w (Ans w (.int .i64 (erasE M b))) := by
  have hA := below_alloc' w (.cells #[x, y, .bool (M.md b), .bool (M.bk b)] 68)
  have bc := cell_new w #[x, y, .bool (M.md b), .bool (M.bk b)] 68
  have b2 := bc 2
  have b3 := bc 3
  clear bc
  simp only [List.getElem?_toArray, List.getElem?_cons_zero, List.getElem?_cons_succ] at b2 b3
  unfold erasE
  generalize M.md b = D at *
  generalize M.bk b = K at *
  generalize hw1 : w.alloc (.cells #[x, y, .bool D, .bool K] 68) = w1 at *
  replace hA := Lib.hid hA
  cases D <;> cases K
  all_goals
    go_enter Try.func60, Try.ntmps60
    go_wp2_with fail
    go_ret
    exact ⟨rfl, hA.out⟩
end Go.Proofs.Ytnndhbppgmnefaa
