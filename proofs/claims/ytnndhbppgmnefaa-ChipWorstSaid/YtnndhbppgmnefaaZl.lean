/- Slices of structs of three whole numbers, as lists of triples; whether fates may be, by the reference. -/
import Derived.Test.YtnndhbppgmnefaaProg
import Derived.Test.YtnndhbppgmnefaaWb
import Derived.Test.YtnndhbppgmnefaaCl
import Derived.Below
import Derived.WalkKit
import Derived.WalkSpells
import Derived.WalkLawsBesides
import Derived.Lib.Hide
import Derived.IntWalk
import Derived.KernelRfl
import Derived.Sort.Grow
import Derived.Maps.AppendAt
import Derived.Laws.AppendOwn
import Derived.Deep.Slices
import Derived.Lib.SliceRun
namespace Go.Proofs.Ytnndhbppgmnefaa.Ft
open Go.RowKit
set_option linter.unusedVariables false
set_option linter.unusedSimpArgs false

def Ans (w : World) (v : Value) (e : Ending) (w' : World) : Prop := e = .returned v ∧ Below w.heap.size w w'
def tAt (ts : List (Int × Int × Int)) (i : Nat) : Int × Int × Int := ts.getD i (0, 0, 0)
theorem add_block (a : Addr) (n : Nat) : (a.add n).block = a.block := by unfold Addr.add; split <;> rfl
theorem below_alloc (w : World) (o : Obj) : Below w.heap.size w (w.alloc o) := (Below.refl _ _).alloc (Nat.le_refl _) _
theorem below_drewN {B : Nat} {w w1 : World} (h : Below B w w1) (n : Nat) : Below B w (w1.drewN n) := ⟨h.os, h.tape, h.output, h.size, h.block⟩
/-- the slice with address A holds the triples ts, below block B -/
def S3 (w : World) (B : Nat) (A : Option Addr) (ts : List (Int × Int × Int)) : Prop :=
  ts = [] ∨ ∃ a, A = some a ∧ a.block < B ∧ ∀ i, i < ts.length → w.cell? (a.add (i * 3)) = some (.int .i64 (tAt ts i).1) ∧ w.cell? (a.add (i * 3 + 1)) = some (.int .i64 (tAt ts i).2.1) ∧ w.cell? (a.add (i * 3 + 2)) = some (.int .i64 (tAt ts i).2.2)
theorem S3.nil (w : World) (B : Nat) (A : Option Addr) : S3 w B A [] := Or.inl rfl
theorem S3.keep {w w' : World} {B : Nat} {A : Option Addr} {ts : List (Int × Int × Int)} (h : S3 w B A ts) (hk : ∀ p : Addr, p.block < B → w'.cell? p = w.cell? p) : S3 w' B A ts := by
  rcases h with e | ⟨a, e, h1, h2⟩
  · exact Or.inl e
  · refine Or.inr ⟨a, e, h1, fun i hi => ?_⟩
    rw [hk _ (by rw [add_block]; exact h1), hk _ (by rw [add_block]; exact h1), hk _ (by rw [add_block]; exact h1)]
    exact h2 i hi
theorem S3.more {w : World} {B B' : Nat} {A : Option Addr} {ts : List (Int × Int × Int)} (h : S3 w B A ts) (hB : B ≤ B') : S3 w B' A ts := by
  rcases h with e | ⟨a, e, h1, h2⟩
  · exact Or.inl e
  · exact Or.inr ⟨a, e, by omega, h2⟩
theorem S3.below {w w' : World} {B : Nat} {A : Option Addr} {ts : List (Int × Int × Int)} (h : S3 w B A ts) (hb : Below B w w') : S3 w' B A ts := h.keep fun _ hp => hb.cell hp
theorem S3.far {w w' : World} {A : Option Addr} {ts : List (Int × Int × Int)} (h : S3 w w.heap.size A ts) (hb : Below w.heap.size w w') : S3 w' w'.heap.size A ts := (h.below hb).more hb.size
theorem add_more (a : Addr) (k m : Nat) (hm : m ≠ 0) : a.add (k + m) = ⟨(a.add k).block, (a.add k).off + m, none⟩ := by
  unfold Addr.add
  by_cases hk : k = 0
  · subst hk
    rw [if_neg (by omega), if_pos rfl, Nat.zero_add]
  · rw [if_neg (by omega), if_neg hk]
    simp [Nat.add_assoc]
theorem S3.at_ {w : World} {B : Nat} {A : Option Addr} {ts : List (Int × Int × Int)} {i : Nat} (h : S3 w B A ts) (hi : i < ts.length) : ∃ a, A = some a ∧ a.block < B ∧ w.cell? (a.add (i * 3)) = some (.int .i64 (tAt ts i).1) ∧
    w.cell? ⟨(a.add (i * 3)).block, (a.add (i * 3)).off + 1, none⟩ = some (.int .i64 (tAt ts i).2.1) ∧ w.cell? ⟨(a.add (i * 3)).block, (a.add (i * 3)).off + 2, none⟩ = some (.int .i64 (tAt ts i).2.2) := by
  rcases h with e | ⟨a, e, h1, h2⟩
  · rw [e] at hi; exact absurd hi (by simp)
  · obtain ⟨g0, g1, g2⟩ := h2 i hi
    rw [add_more a _ 1 (by decide)] at g1
    rw [add_more a _ 2 (by decide)] at g2
    exact ⟨a, e, h1, g0, g1, g2⟩
/-- one fate that may be -/
def okT (x : Int × Int × Int) : Bool := decide (0 ≤ x.1 ∧ x.1 ≤ 1099511627776 ∧ (x.2.1 = 1 ∨ x.2.1 = 2) ∧ 0 ≤ x.2.2)
def newT (ts : List (Int × Int × Int)) (i : Nat) : Bool := okT (tAt ts i) && (List.range i).all fun k => decide ((tAt ts k).1 ≠ (tAt ts i).1)
def mayF (ts : List (Int × Int × Int)) : Bool := decide (ts.length ≤ 256) && (List.range ts.length).all fun i => newT ts i
theorem mayF_not {ts : List (Int × Int × Int)} {i : Nat} (hi : i < ts.length) (h : newT ts i = false) : mayF ts = false := by
  unfold mayF
  rw [Bool.and_eq_false_iff]
  right
  rw [Bool.eq_false_iff]
  intro e
  have := (List.all_eq_true.1 e) i (List.mem_range.2 hi)
  rw [h] at this
  cases this
theorem mayF_yes {ts : List (Int × Int × Int)} (hl : ts.length ≤ 256) (h : ∀ i, i < ts.length → newT ts i = true) : mayF ts = true := by
  unfold mayF
  rw [decide_eq_true hl, Bool.true_and]
  exact List.all_eq_true.2 fun i hi => h i (List.mem_range.1 hi)
theorem newT_ok {ts : List (Int × Int × Int)} {i : Nat} (h1 : okT (tAt ts i) = true) (h2 : ∀ k, k < i → (tAt ts k).1 ≠ (tAt ts i).1) : newT ts i = true := by
  unfold newT
  rw [h1, Bool.true_and]
  exact List.all_eq_true.2 fun k hk => decide_eq_true (h2 k (List.mem_range.1 hk))
theorem newT_bad {ts : List (Int × Int × Int)} {i : Nat} (h1 : okT (tAt ts i) = false) : newT ts i = false := by unfold newT; rw [h1]; rfl
theorem newT_twice {ts : List (Int × Int × Int)} {i k : Nat} (hk : k < i) (h : (tAt ts k).1 = (tAt ts i).1) : newT ts i = false := by
  unfold newT
  rw [Bool.and_eq_false_iff]
  right
  rw [Bool.eq_false_iff]
  intro e
  have := (List.all_eq_true.1 e) k (List.mem_range.2 hk)
  exact absurd h (of_decide_eq_true this)
end Go.Proofs.Ytnndhbppgmnefaa.Ft
/- Whether fates may be, by the reference. -/
namespace Go.Proofs.Ytnndhbppgmnefaa.Ft
open Go.RowKit
set_option linter.unusedVariables false
set_option linter.unusedSimpArgs false

theorem cell_of {w : World} {g : Nat} {cs : Array Value} {t : TypeId} (h : w.heap[g]? = some (.cells cs t)) (i : Nat) : w.cell? ⟨g, i, none⟩ = cs[i]? := by simp [World.cell?, h]
theorem cell_new (w : World) (cs : Array Value) (t : TypeId) (i : Nat) : (w.alloc (.cells cs t)).cell? ⟨w.heap.size, i, none⟩ = cs[i]? := cell_of (heap_alloc_new w (.cells cs t)) i
end Go.Proofs.Ytnndhbppgmnefaa.Ft
/- What orders fates, and what may not befall: the program's small functions. -/
namespace Go.Proofs.Ytnndhbppgmnefaa.Ft
open Go.RowKit
set_option linter.unusedVariables false
set_option linter.unusedSimpArgs false

def cmpI (x y : Int) : Int := if x < y then -1 else if y < x then 1 else 0
theorem cmpI_lt (x y : Int) : cmpI x y < 0 ↔ x < y := by unfold cmpI; split <;> (try split) <;> omega
theorem cmpI_eq (x y : Int) : cmpI x y = 0 ↔ x = y := by unfold cmpI; split <;> (try split) <;> omega
theorem isnan_any (x : Int) (w : World) : Calls Try.prog 76 #[.int .i64 x] w fun e w' => e = .returned (.bool false) ∧ w = w' := by
  have h : (x != x) = false := by simp
  go_enter Try.func76, Try.ntmps76
  go_wp2_with fail
  go_ret
  exact ⟨rfl, rfl⟩
set_option maxHeartbeats 1000000 in
theorem cmp_any (x y : Int) (w : World) : Calls Try.prog 56 #[.int .i64 x, .int .i64 y] w fun e w' => e = .returned (.int .i64 (cmpI x y)) ∧ w = w' := by
  have hx := Lib.hid (isnan_any x w)
  have hy := Lib.hid (isnan_any y w)
  rcases Int.lt_trichotomy x y with h | h | h
  · have e : cmpI x y = -1 := by unfold cmpI; rw [if_pos h]
    rw [e]
    go_enter Try.func56, Try.ntmps56
    go_wp2_with (go_at_call 76; (first | (with_reducible refine hx.out.mono ?_) | (with_reducible refine hy.out.mono ?_)); rintro e w1 ⟨rfl, rfl⟩)
    go_ret
    exact ⟨rfl, rfl⟩
  · have e : cmpI x y = 0 := by unfold cmpI; rw [if_neg (by omega), if_neg (by omega)]
    rw [e]
    have h1 : ¬ x < y := by omega
    have h2 : ¬ y < x := by omega
    clear h e
    go_enter Try.func56, Try.ntmps56
    go_wp2_with (go_at_call 76; (first | (with_reducible refine hx.out.mono ?_) | (with_reducible refine hy.out.mono ?_)); rintro e w1 ⟨rfl, rfl⟩)
    go_ret
    exact ⟨rfl, rfl⟩
  · have e : cmpI x y = 1 := by unfold cmpI; rw [if_neg (by omega), if_pos h]
    rw [e]
    have h1 : ¬ x < y := by omega
    go_enter Try.func56, Try.ntmps56
    go_wp2_with (go_at_call 76; (first | (with_reducible refine hx.out.mono ?_) | (with_reducible refine hy.out.mono ?_)); rintro e w1 ⟨rfl, rfl⟩)
    go_ret
    exact ⟨rfl, rfl⟩
set_option maxHeartbeats 1000000 in
theorem earlier_any (x y : Int × Int × Int) (W : World) : Calls Try.prog 42 #[.agg #[.int .i64 x.1, .int .i64 x.2.1, .int .i64 x.2.2], .agg #[.int .i64 y.1, .int .i64 y.2.1, .int .i64 y.2.2]] W fun e w' => e = .returned (.int .i64 (cmpI x.1 y.1)) ∧ ∃ q os', w' = Sort.grow (W.drewN q) os' := by
  have hcon := fun W' => Lib.hid (cmp_any x.1 y.1 W')
  generalize cmpI x.1 y.1 = r at *
  go_enter Try.func42, Try.ntmps42
  go_wp2_with (go_at_call 56; (with_reducible refine (hcon _).out.mono ?_); rintro e w1 ⟨rfl, rfl⟩)
  go_ret
  exact ⟨rfl, 0, _, by rw [Sort.alloc_eq_grow, Sort.alloc_eq_grow, Sort.grow_grow]; rfl⟩
theorem against_any (x : Int × Int × Int) (n : Int) (W : World) : Calls Try.prog 78 #[.agg #[.int .i64 x.1, .int .i64 x.2.1, .int .i64 x.2.2], .int .i64 n] W (Ans W (.int .i64 (cmpI x.1 n))) := by
  have hcon := fun W' => Lib.hid (cmp_any x.1 n W')
  generalize cmpI x.1 n = r at *
  go_enter Try.func78, Try.ntmps78
  go_wp2_with (go_at_call 56; (with_reducible refine (hcon _).out.mono ?_); rintro e w1 ⟨rfl, rfl⟩)
  go_ret
  exact ⟨rfl, below_alloc _ _⟩
set_option maxHeartbeats 1000000 in
theorem never_any (x : Int × Int × Int) (W : World) : Calls Try.prog 39 #[.agg #[.int .i64 x.1, .int .i64 x.2.1, .int .i64 x.2.2]] W (Ans W (.bool (!okT x))) := by
  obtain ⟨P, Q, R⟩ := x
  have hb := fun T => Lib.hid (below_alloc W (.cells #[.int .i64 P, .int .i64 Q, .int .i64 R] T))
  rcases Int.lt_or_le P 0 with h1 | h1
  · rw [show okT (P, Q, R) = false from decide_eq_false (by intro h; omega)]
    go_enter Try.func39, Try.ntmps39
    go_wp2_with fail
    go_ret
    exact ⟨rfl, (hb _).out⟩
  rcases Int.lt_or_le 1099511627776 P with h2 | h2
  · rw [show okT (P, Q, R) = false from decide_eq_false (by intro h; omega)]
    go_enter Try.func39, Try.ntmps39
    go_wp2_with fail
    go_ret
    exact ⟨rfl, (hb _).out⟩
  rcases Int.lt_or_le R 0 with h3 | h3
  · rw [show okT (P, Q, R) = false from decide_eq_false (by intro h; have := h.2.2.2; dsimp only at this; omega)]
    rcases (by omega : Q = 1 ∨ Q ≠ 1) with rfl | h4
    · go_enter Try.func39, Try.ntmps39
      go_wp2_with fail
      go_ret
      exact ⟨rfl, (hb _).out⟩
    · have e4 : (Q != 1) = true := by simpa using h4
      rcases (by omega : Q = 2 ∨ Q ≠ 2) with rfl | h5
      · go_enter Try.func39, Try.ntmps39
        go_wp2_with fail
        go_ret
        exact ⟨rfl, (hb _).out⟩
      · have e5 : (Q != 2) = true := by simpa using h5
        go_enter Try.func39, Try.ntmps39
        go_wp2_with fail
        go_ret
        exact ⟨rfl, (hb _).out⟩
  · have d1 : decide (P < 0) = false := decide_eq_false (by omega)
    have d2 : decide (1099511627776 < P) = false := decide_eq_false (by omega)
    have d3 : decide (R < 0) = false := decide_eq_false (by omega)
    rcases (by omega : Q = 1 ∨ Q ≠ 1) with rfl | h4
    · rw [show okT (P, 1, R) = true from decide_eq_true ⟨h1, h2, Or.inl rfl, h3⟩]
      go_enter Try.func39, Try.ntmps39
      go_wp2_with fail
      go_ret
      exact ⟨rfl, (hb _).out⟩
    · have e4 : (Q != 1) = true := by simpa using h4
      rcases (by omega : Q = 2 ∨ Q ≠ 2) with rfl | h5
      · rw [show okT (P, 2, R) = true from decide_eq_true ⟨h1, h2, Or.inr rfl, h3⟩]
        clear h4 e4
        go_enter Try.func39, Try.ntmps39
        go_wp2_with fail
        go_ret
        exact ⟨rfl, (hb _).out⟩
      · rw [show okT (P, Q, R) = false from decide_eq_false (fun h => by
                                                                              rcases h.2.2.1 with h | h
                                                                              · exact h4 h
                                                                              · exact h5 h)]
        have e5 : (Q != 2) = true := by simpa using h5
        go_enter Try.func39, Try.ntmps39
        go_wp2_with fail
        go_ret
        exact ⟨rfl, (hb _).out⟩
end Go.Proofs.Ytnndhbppgmnefaa.Ft
/- Whether one of a row may not befall, and whether two side by side befall one operation. -/
namespace Go.Proofs.Ytnndhbppgmnefaa.Ft
open Go.RowKit
set_option linter.unusedVariables false
set_option linter.unusedSimpArgs false

/-- one of them may not be -/
def badT (ts : List (Int × Int × Int)) : Bool := (List.range ts.length).any fun i => !okT (tAt ts i)
theorem bad_none {ts : List (Int × Int × Int)} (h : ∀ k, k < ts.length → okT (tAt ts k) = true) : badT ts = false := by
  rw [Bool.eq_false_iff]
  intro e
  obtain ⟨i, hi, h2⟩ := List.any_eq_true.1 e
  rw [h i (List.mem_range.1 hi)] at h2
  cases h2
theorem bad_some {ts : List (Int × Int × Int)} {k : Nat} (hk : k < ts.length) (h : okT (tAt ts k) = false) : badT ts = true :=
  List.any_eq_true.2 ⟨k, List.mem_range.2 hk, by rw [h]; rfl⟩
theorem ok_of_bad {ts : List (Int × Int × Int)} (h : badT ts = false) {k : Nat} (hk : k < ts.length) : okT (tAt ts k) = true := by
  cases e : okT (tAt ts k)
  · rw [bad_some hk e] at h; cases h
  · rfl
set_option maxHeartbeats 2000000 in
theorem index_any (A : Option Addr) (c n : Nat) (ts : List (Int × Int × Int)) (w : World) (h : S3 w w.heap.size A ts) (hn : ts.length = n) (hl : n ≤ 1000000) :
    Calls Try.prog 53 #[.slice A n c, .func (.func 39) #[] #[]] w fun e w' => (∃ k : Int, e = .returned (.int .i64 k) ∧ badT ts = decide (0 ≤ k)) ∧ Below w.heap.size w w' := by
  have H := Lib.hid h
  clear h
  have hno : Hid ((∀ k, k < n → okT (tAt ts k) = true) → badT ts = false) := fun h => bad_none (by rw [hn]; exact h)
  have hyes : Hid (∀ {k : Nat} (hk : k < n), okT (tAt ts k) = false → badT ts = true) := fun hk h => bad_some (by rw [hn]; exact hk) h
  replace hn := Lib.hid hn
  generalize badT ts = T at *
  go_enter Try.func53, Try.ntmps53
  go_wp2_with fail
  go_loopw [8] (fun q wr => ∃ k : Nat, k ≤ n ∧ Hid (∀ j, j < k → okT (tAt ts j) = true) ∧ q = .int .i64 k ∧ Below w.heap.size w wr) (fun q _ => n - (intOf q).toNat)
  case atStart => exact ⟨0, Nat.zero_le _, Lib.hid (fun j h => absurd h (by omega)), rfl, Below.refl _ _⟩
  case round =>
    obtain ⟨k, hk, HK, rfl, hB⟩ := hrel
    by_cases hlt : k < n
    · have hltI : (k : Int) < (n : Int) := by omega
      obtain ⟨a, rfl, hab, c0, c1, c2⟩ := (H.out.below hB).at_ (i := k) (by rw [hn.out]; exact hlt)
      obtain ⟨X, hX⟩ : ∃ X, Hid (tAt ts k = X) := ⟨_, Lib.hid rfl⟩
      rw [hX.out] at c0 c1 c2
      have hc := never_any X wr
      cases hb : okT X
      · obtain rfl := hyes.out hlt (by rw [hX.out]; exact hb)
        rw [hb] at hc
        replace hc := Lib.hid hc
        replace hB := Lib.hid hB
        clear hb
        go_wp2_with (go_at_call 39; (with_reducible refine hc.out.mono ?_); rintro e w1 ⟨rfl, hb1⟩; have hb1 := Lib.hid (hB.out.trans (hb1.mono hB.out.size)))
        go_ret
        exact ⟨⟨_, rfl, by rw [eq_comm, decide_eq_true_eq]; omega⟩, hb1.out⟩
      · rw [hb] at hc
        replace hc := Lib.hid hc
        have HK' : Hid (∀ j, j < k + 1 → okT (tAt ts j) = true) := fun j hjk => by
          rcases Nat.lt_or_ge j k with h1 | h1
          · exact HK.out j h1
          · obtain rfl : j = k := by omega
            rw [hX.out]; exact hb
        replace hB := Lib.hid hB
        clear hb HK
        go_wp2_with (go_at_call 39; (with_reducible refine hc.out.mono ?_); rintro e w1 ⟨rfl, hb1⟩; have hb1 := Lib.hid (hB.out.trans (hb1.mono hB.out.size)))
        go_round
        case rel => exact ⟨k + 1, by omega, HK', by go_num, hb1.out⟩
        case measure => simp [intOf]; omega
    · obtain rfl : k = n := by omega
      obtain rfl := hno.out (fun j hj => HK.out j hj)
      clear HK
      go_wp2_with fail
      go_ret
      exact ⟨⟨-1, rfl, by decide⟩, hB⟩
set_option maxHeartbeats 1000000 in
theorem contains_any (A : Option Addr) (c n : Nat) (ts : List (Int × Int × Int)) (w : World) (h : S3 w w.heap.size A ts) (hn : ts.length = n) (hl : n ≤ 1000000) :
    Calls Try.prog 38 #[.slice A n c, .func (.func 39) #[] #[]] w (Ans w (.bool (badT ts))) := by
  have hc := Lib.hid (index_any A c n ts w h hn hl)
  clear h hn
  generalize badT ts = T at *
  go_enter Try.func38, Try.ntmps38
  go_wp2_with (go_at_call 53; (with_reducible refine hc.out.mono ?_); rintro e w1 ⟨⟨k, rfl, hk⟩, hb⟩; have hb := Lib.hid hb)
  go_ret
  exact ⟨by rw [hk]; rfl, hb.out⟩
/-- two side by side befall one operation -/
def twT (ts : List (Int × Int × Int)) : Bool := (List.range (ts.length - 1)).any fun i => decide ((tAt ts (i + 1)).1 = (tAt ts i).1)
theorem tw_none {ts : List (Int × Int × Int)} (h : ∀ k, k + 1 < ts.length → (tAt ts (k + 1)).1 ≠ (tAt ts k).1) : twT ts = false := by
  rw [Bool.eq_false_iff]
  intro e
  obtain ⟨i, hi, h2⟩ := List.any_eq_true.1 e
  exact h i (by have := List.mem_range.1 hi; omega) (of_decide_eq_true h2)
theorem tw_some {ts : List (Int × Int × Int)} {k : Nat} (hk : k + 1 < ts.length) (h : (tAt ts (k + 1)).1 = (tAt ts k).1) : twT ts = true :=
  List.any_eq_true.2 ⟨k, List.mem_range.2 (by omega), decide_eq_true h⟩
set_option maxHeartbeats 2000000 in
theorem twice_any (A : Option Addr) (c n : Nat) (ts : List (Int × Int × Int)) (w : World) (h : S3 w w.heap.size A ts) (hn : ts.length = n) (hl : n ≤ 1000000) :
    Calls Try.prog 43 #[.slice A n c] w (Ans w (.bool (twT ts))) := by
  have H := Lib.hid h
  clear h
  have hno : Hid ((∀ k, k + 1 < n → (tAt ts (k + 1)).1 ≠ (tAt ts k).1) → twT ts = false) := fun h => tw_none (by rw [hn]; exact h)
  have hyes : Hid (∀ {k : Nat} (hk : k + 1 < n), (tAt ts (k + 1)).1 = (tAt ts k).1 → twT ts = true) := fun hk h => tw_some (by rw [hn]; exact hk) h
  replace hn := Lib.hid hn
  generalize twT ts = T at *
  go_enter Try.func43, Try.ntmps43
  go_wp2_with fail
  go_loopw [3] (fun q wr => ∃ k : Nat, (k < n ∨ k = 0) ∧ Hid (∀ j, j < k → (tAt ts (j + 1)).1 ≠ (tAt ts j).1) ∧ q = .int .i64 ((k + 1 : Nat) : Int) ∧ Below w.heap.size w wr) (fun q _ => n + 1 - (intOf q).toNat)
  case atStart => exact ⟨0, Or.inr rfl, Lib.hid (fun j h => absurd h (by omega)), rfl, Below.refl _ _⟩
  case round =>
    obtain ⟨k, hk, HK, rfl, hB⟩ := hrel
    obtain ⟨m, hm⟩ : ∃ m, m = k + 1 := ⟨_, rfl⟩
    rw [← hm]
    by_cases hlt : m < n
    · have hltI : (m : Int) < (n : Int) := by omega
      have hm1 : (m : Int) - 1 = (k : Int) := by omega
      have hkI : (k : Int) < (n : Int) := by omega
      have hkn : k < n := by omega
      obtain ⟨a, rfl, hab, c0, _, _⟩ := (H.out.below hB).at_ (i := m) (by rw [hn.out]; exact hlt)
      obtain ⟨a', e, _, d0, _, _⟩ := (H.out.below hB).at_ (i := k) (by rw [hn.out]; omega)
      injection e with e
      subst e
      obtain ⟨X, hX⟩ : ∃ X, Hid ((tAt ts m).1 = X) := ⟨_, Lib.hid rfl⟩
      obtain ⟨Y, hY⟩ : ∃ Y, Hid ((tAt ts k).1 = Y) := ⟨_, Lib.hid rfl⟩
      rw [hX.out] at c0
      rw [hY.out] at d0
      by_cases hXY : X = Y
      · obtain rfl := hyes.out (k := k) (by omega) (by rw [← hm, hX.out, hY.out]; exact hXY)
        have e1 : (X == Y) = true := by simpa using hXY
        replace hB := Lib.hid hB
        replace hm := Lib.hid hm
        clear hXY HK
        go_wp2_with fail
        go_quiet (fail)
        go_wp2_with fail
        go_ret
        exact ⟨rfl, (below_drewN hB.out _)⟩
      · have e1 : (X == Y) = false := by simpa using hXY
        have HK' : Hid (∀ j, j < m → (tAt ts (j + 1)).1 ≠ (tAt ts j).1) := fun j hj => by
          rcases Nat.lt_or_ge j k with h1 | h1
          · exact HK.out j h1
          · obtain rfl : j = k := by omega
            rw [← hm, hX.out, hY.out]; exact hXY
        replace hB := Lib.hid hB
        replace hm := Lib.hid hm
        clear hXY HK
        go_wp2_with fail
        go_quiet (fail)
        go_wp2_with fail
        go_round
        case rel => exact ⟨m, Or.inl hlt, HK', by go_num, below_drewN hB.out _⟩
        case measure => simp [intOf]; omega
    · have hnI : ¬ (m : Int) < (n : Int) := by omega
      obtain rfl := hno.out (fun j hj => HK.out j (by omega))
      replace hm := Lib.hid hm
      clear HK
      go_wp2_with fail
      go_ret
      exact ⟨rfl, hB⟩
end Go.Proofs.Ytnndhbppgmnefaa.Ft
/- Slices of triples of one's own, and append of one. -/
namespace Go.Proofs.Ytnndhbppgmnefaa.Ft
open Go.RowKit
set_option linter.unusedVariables false
set_option linter.unusedSimpArgs false

def flat3 : List (Int × Int × Int) → List Value
  | [] => []
  | x :: xs => .int .i64 x.1 :: .int .i64 x.2.1 :: .int .i64 x.2.2 :: flat3 xs
theorem flat3_len (ts : List (Int × Int × Int)) : (flat3 ts).length = ts.length * 3 := by
  induction ts with
  | nil => rfl
  | cons x xs ih => simp [flat3, ih]; omega
theorem flat3_app (a b : List (Int × Int × Int)) : flat3 (a ++ b) = flat3 a ++ flat3 b := by
  induction a with
  | nil => rfl
  | cons x xs ih => simp [flat3, ih]
theorem flat3_at (ts : List (Int × Int × Int)) : ∀ i, i < ts.length → (flat3 ts)[i * 3]? = some (.int .i64 (tAt ts i).1) ∧ (flat3 ts)[i * 3 + 1]? = some (.int .i64 (tAt ts i).2.1) ∧ (flat3 ts)[i * 3 + 2]? = some (.int .i64 (tAt ts i).2.2) := by
  induction ts with
  | nil => intro i h; exact absurd h (by simp)
  | cons x xs ih =>
    intro i hi
    cases i with
    | zero => exact ⟨rfl, rfl, rfl⟩
    | succ i =>
      have := ih i (by simpa using hi)
      have e : tAt (x :: xs) (i + 1) = tAt xs i := by unfold tAt; rfl
      rw [e, show (i + 1) * 3 = i * 3 + 3 by omega]
      exact this
theorem flat3_one (ts : List (Int × Int × Int)) : ∀ u ∈ flat3 ts, u.oneCell' = true := by
  induction ts with
  | nil => intro u h; cases h
  | cons x xs ih =>
    intro u h
    rcases List.mem_cons.1 h with rfl | h
    · rfl
    · rcases List.mem_cons.1 h with rfl | h
      · rfl
      · rcases List.mem_cons.1 h with rfl | h
        · rfl
        · exact ih u h
/-- a slice of triples of one's own (or nil), made since w0 -/
def OwnT (w0 w : World) (v : Value) (ts : List (Int × Int × Int)) : Prop := w.ownsRow w0.heap.size 26 3 v ts.length (flat3 ts)
section
variable {w0 w w' : World} {v : Value} {ts : List (Int × Int × Int)}
theorem OwnT.nil (w0 w : World) : OwnT w0 w (.slice none 0 0) [] := ⟨rfl, Or.inl ⟨rfl, rfl⟩⟩
theorem OwnT.block (h : OwnT w0 w v ts) : ∀ k, v.ownBlock = some k → w0.heap.size ≤ k := by
  intro k hk
  obtain ⟨_, h⟩ := h
  rcases h with ⟨rfl, _⟩ | ⟨g, cap, cur, rfl, hg, _⟩
  · cases hk
  · simp [Value.ownBlock] at hk; omega
theorem OwnT.alloc (h : OwnT w0 w v ts) (o : Obj) : OwnT w0 (w.alloc o) v ts := World.ownsRow.alloc h o
theorem OwnT.below (h : OwnT w0 w v ts) (hb : Below w.heap.size w w') : OwnT w0 w' v ts := by
  obtain ⟨hl, h⟩ := h
  refine ⟨hl, ?_⟩
  rcases h with h | ⟨g, cap, cur, rfl, hg, hh, hr⟩
  · exact Or.inl h
  · refine Or.inr ⟨g, cap, cur, rfl, hg, ?_, hr⟩
    have hlt : g < w.heap.size := by
      rcases Nat.lt_or_ge g w.heap.size with hlt | hge
      · exact hlt
      · rw [Array.getElem?_eq_none hge] at hh; cases hh
    exact (hb.block g hlt).trans hh
theorem OwnT.s3 (h : OwnT w0 w v ts) : ∃ A c, v = .slice A ts.length c ∧ ts.length ≤ c ∧ S3 w w.heap.size A ts := by
  obtain ⟨hl, h2⟩ := h
  rcases h2 with ⟨rfl, h0⟩ | ⟨g, cap, cur, rfl, hg, hh, hn, hcap, hcs, htk⟩
  · obtain rfl : ts = [] := List.eq_nil_of_length_eq_zero h0
    exact ⟨none, 0, rfl, Nat.le_refl _, S3.nil _ _ _⟩
  · have hlt : g < w.heap.size := by
      rcases Nat.lt_or_ge g w.heap.size with hlt | hge
      · exact hlt
      · rw [Array.getElem?_eq_none hge] at hh; cases hh
    refine ⟨_, cap, rfl, hn, Or.inr ⟨_, rfl, hlt, fun j hj => ?_⟩⟩
    have e : ∀ k, (⟨g, 0, none⟩ : Addr).add k = ⟨g, k, none⟩ := fun k => by unfold Addr.add; split <;> simp_all
    have c : ∀ k, k < ts.length * 3 → w.cell? ⟨g, k, none⟩ = (flat3 ts)[k]? := fun k hk => by
      have e2 : (cur.toList.take (ts.length * 3))[k]? = (flat3 ts)[k]? := by rw [htk]
      rw [List.getElem?_take, if_pos hk, Array.getElem?_toList] at e2
      rw [cell_of hh, e2]
    obtain ⟨f0, f1, f2⟩ := flat3_at ts j hj
    rw [e, e, e, c _ (by omega), c _ (by omega), c _ (by omega)]
    exact ⟨f0, f1, f2⟩
end
theorem info30 : (Try.prog.info? 26).map (fun i => (i.zero, i.size, i.bytes)) = some (some (.agg #[.int .i64 0, .int .i64 0, .int .i64 0]), 3, 24) := by kernel_rfl
/-- append of one triple, which lies in a block of its own -/
theorem app_one {w0 w : World} {ops : Array Oper} {rest : List Oper} {o : Oper} {a : Act} {Q : Exit → Act → World → Prop} (hgd : o.guard = none) (s x : Operand)
    (ho : o.op = .call { callee := .builtin .append, args := #[s, x], argTypes := #[27, 27] }) (v : Value) (ts : List (Int × Int × Int)) (hs : a.eval s = v) (hown : OwnT w0 w v ts) (hb : w0.heap.size ≤ w.heap.size)
    (g : Nat) (hx : a.eval x = .slice (some ⟨g, 0, none⟩) 1 1) (y : Int × Int × Int) (hy : ∀ j u, (flat3 [y])[j]? = some u → w.cell? ⟨g, j, none⟩ = some u) (h63 : ts.length ≤ 1000000)
    (h : ∀ v' w', OwnT w0 w' v' (ts ++ [y]) → w.grownBy w' v.ownBlock → wpList Try.prog ops Q rest (a.put o.dst v') w') :
    wpList Try.prog ops Q (o :: rest) a w := by
  have hi0 := info30
  obtain ⟨i, hi, hrest⟩ := Option.map_eq_some_iff.1 hi0
  simp only [Prod.mk.injEq] at hrest
  obtain ⟨i1, i2, i3⟩ := hrest
  refine wpList_append_own_at w hgd s x 27 ho w0.heap.size 26 i (.agg #[.int .i64 0, .int .i64 0, .int .i64 0]) 3 24 Try.underlying27 hi i1 i2 i3 rfl (by decide) v ts.length (flat3 ts) hs hown ⟨g, 0, none⟩ 1 1 (flat3 [y]) hx (by rw [flat3_len]; rfl) (fun j u hu => ?_) (flat3_one [y]) (by unfold maxLen; omega) (by omega) hb (fun v' w' h1 h2 _ _ => ?_)
  · have e : (⟨g, 0, none⟩ : Addr).add j = ⟨g, j, none⟩ := by unfold Addr.add; split <;> simp_all
    rw [e]
    exact hy j u hu
  · refine h v' w' ?_ h2
    unfold OwnT
    rw [List.length_append, flat3_app]
    exact h1
end Go.Proofs.Ytnndhbppgmnefaa.Ft
/- A copy of a row of fates; to sort nothing. -/
namespace Go.Proofs.Ytnndhbppgmnefaa.Ft
open Go.RowKit Go.Deep
set_option linter.unusedVariables false
set_option linter.unusedSimpArgs false

set_option maxHeartbeats 1000000 in
theorem insert_none (w : World) (g : Nat) : Calls Try.prog 66 #[.slice none 0 0, .int .i64 0, .int .i64 0, .func (.func g) #[] #[]] w fun e w' => e = .returned (.tuple #[]) ∧ w = w' := by
  go_enter Try.func66, Try.ntmps66
  go_wp2_with fail
  refine wp_loop_rounds 1 ?_
  rw [rounds_succ]
  go_wp2_with fail
  go_end0
  exact ⟨rfl, rfl⟩
set_option maxHeartbeats 1000000 in
theorem pdq_none (l : Int) (w : World) (g : Nat) : Calls Try.prog 54 #[.slice none 0 0, .int .i64 0, .int .i64 0, .int .i64 l, .func (.func g) #[] #[]] w fun e w' => e = .returned (.tuple #[]) ∧ w = w' := by
  have hi := Lib.hid (insert_none w g)
  go_enter Try.func54, Try.ntmps54
  go_wp2_with fail
  refine wp_loop_rounds 1 ?_
  rw [rounds_succ]
  go_wp2_with (go_at_call 66; (with_reducible refine hi.out.mono ?_); rintro e w1 ⟨rfl, rfl⟩)
  (try simp only [Exit.inBlock, Exit.then]); refine bodyPost_ret (results_none rfl _ _ _) rfl ?_
  exact ⟨rfl, rfl⟩
set_option maxRecDepth 20000 in
theorem len64_none (w : World) : Calls Try.prog 75 #[.int .u64 0] w fun e w' => (∃ l : Int, e = .returned (.int .i64 l)) ∧ w = w' := by
  go_enter Try.func75, Try.ntmps75
  go_wp2_with fail
  go_ret
  exact ⟨⟨_, rfl⟩, rfl⟩
theorem len_none (w : World) : Calls Try.prog 55 #[.int .u64 0] w fun e w' => (∃ l : Int, e = .returned (.int .i64 l)) ∧ w = w' := by
  have hi := Lib.hid (len64_none w)
  go_enter Try.func55, Try.ntmps55
  go_wp2_with (go_at_call 75; (with_reducible refine hi.out.mono ?_); rintro e w1 ⟨⟨l, rfl⟩, rfl⟩)
  go_ret
  exact ⟨⟨l, rfl⟩, rfl⟩
theorem sort_none (w : World) (g : Nat) : Calls Try.prog 41 #[.slice none 0 0, .func (.func g) #[] #[]] w fun e w' => e = .returned (.tuple #[]) ∧ w = w' := by
  have hl := Lib.hid (len_none w)
  have hi := fun l => Lib.hid (pdq_none l w g)
  go_enter Try.func41, Try.ntmps41
  go_wp2_with (first
    | (go_at_call 55; (with_reducible refine hl.out.mono ?_); rintro e w1 ⟨⟨l, rfl⟩, rfl⟩)
    | (go_at_call 54; (with_reducible refine (hi l).out.mono ?_); rintro e w1 ⟨rfl, rfl⟩))
  go_end0
  exact ⟨rfl, rfl⟩
theorem rows3 {w : World} {B : Nat} {a : Addr} {ts : List (Int × Int × Int)} (h : S3 w B (some a) ts) : ∀ (j : Nat) (u : Value), (flat3 ts)[j]? = some u → w.cell? (a.add j) = some u := by
  intro j u hu
  have hj : j < ts.length * 3 := by
    rcases Nat.lt_or_ge j (ts.length * 3) with h | h
    · exact h
    · rw [List.getElem?_eq_none (by rw [flat3_len]; exact h)] at hu; cases hu
  rcases h with e | ⟨a', e, _, hc⟩
  · rw [e] at hj; simp at hj
  · injection e with e
    subst e
    have hi : j / 3 < ts.length := by omega
    obtain ⟨c0, c1, c2⟩ := hc (j / 3) hi
    obtain ⟨f0, f1, f2⟩ := flat3_at ts (j / 3) hi
    rcases (by omega : j = j / 3 * 3 ∨ j = j / 3 * 3 + 1 ∨ j = j / 3 * 3 + 2) with e | e | e
    · rw [e, c0, ← f0, ← e, hu]
    · rw [e, c1, ← f1, ← e, hu]
    · rw [e, c2, ← f2, ← e, hu]
set_option maxHeartbeats 1000000 in
/-- a copy: a row of one's own -/
theorem clone_any {w : World} {A : Option Addr} {c n : Nat} {ts : List (Int × Int × Int)} (h : S3 w w.heap.size A ts) (hn : ts.length = n) (hs : n ≤ 1000000) (hA : A = none → n = 0) :
    Calls Try.prog 40 #[.slice A n c] w fun e w' => ∃ v, e = .returned v ∧ Below w.heap.size w w' ∧ OwnT w w' v ts := by
  have q32 : ∀ (w : World) (a : Option Addr) (n c n' c' : Nat), (binOp .eql 27 (.slice a n c) (.slice none n' c')).run Try.prog w = .ok (.bool a.isNone) w := fun w a n c n' c' => Lib.run_eql_slice_nil w 27 26 a n c n' c' Try.underlying27
  cases A with
  | none =>
    obtain rfl := hA rfl
    obtain rfl : ts = [] := List.eq_nil_of_length_eq_zero hn
    go_enter Try.func40, Try.ntmps40
    go_wp2_with fail
    go_ret
    exact ⟨_, rfl, Below.refl _ _, OwnT.nil _ _⟩
  | some a =>
    have hA1 := below_alloc w (.cells #[] 26)
    have hcell := Lib.hid (rows3 (h.below hA1))
    have hi0 := info30
    obtain ⟨i, hi, hrest⟩ := Option.map_eq_some_iff.1 hi0
    simp only [Prod.mk.injEq] at hrest
    obtain ⟨i1, i2, i3⟩ := hrest
    have hown : (w.alloc (.cells #[] 26)).ownsRow w.heap.size 26 3 (.slice (some ⟨w.heap.size, 0, none⟩) 0 0) 0 [] :=
      ⟨rfl, Or.inr ⟨w.heap.size, 0, #[], rfl, Nat.le_refl _, heap_alloc_new w _, Nat.le_refl _, Nat.zero_le _, rfl, rfl⟩⟩
    replace hown := Lib.hid hown
    replace hA1 := Lib.hid hA1
    have hv1 := Lib.hid (flat3_one ts)
    have hvl := Lib.hid (flat3_len ts)
    replace hn := Lib.hid hn
    clear hi0 h hA
    go_enter Try.func40, Try.ntmps40
    go_wp2_with (first
      | (refine wpList_append_own_at _ rfl (.tmp 5) (.tmp 6) 27 rfl w.heap.size 26 i (.agg #[.int .i64 0, .int .i64 0, .int .i64 0]) 3 24 Try.underlying27 hi i1 i2 i3 rfl (by decide) (.slice (some ⟨w.heap.size, 0, none⟩) 0 0) 0 [] rfl hown.out a n c (flat3 ts) rfl (by rw [hvl.out, hn.out]) hcell.out hv1.out (by unfold maxLen; omega) (by omega) (hA1.out.size) ?_))
    intro v' w' h1 h2 _ _
    have h1' := Lib.hid h1
    have hb' := Lib.hid (hA1.out.grown h2 hA1.out.size (fun k hk => by simp [Value.ownBlock] at hk; omega))
    clear h1 h2
    go_wp2_with fail
    go_ret
    refine ⟨v', rfl, hb'.out, ?_⟩
    have h1 := h1'.out
    unfold OwnT
    rw [hn.out]
    simpa using h1
end Go.Proofs.Ytnndhbppgmnefaa.Ft
/- Where the fates from an operation on begin. -/
namespace Go.Proofs.Ytnndhbppgmnefaa.Ft
open Go.RowKit Go.Deep
set_option linter.unusedVariables false
set_option linter.unusedSimpArgs false

set_option maxHeartbeats 2000000 in
theorem search_any (A : Option Addr) (c n : Nat) (ts : List (Int × Int × Int)) (x : Int) (w : World) (h : S3 w w.heap.size A ts) (hn : ts.length = n) (hl : n ≤ 1000000)
    (hso : ∀ i j, i < j → j < n → (tAt ts i).1 ≤ (tAt ts j).1) :
    Calls Try.prog 77 #[.slice A n c, .int .i64 x, .func (.func 78) #[] #[]] w fun e w' => ∃ (m : Nat) (b : Bool), e = .returned (.tuple #[.int .i64 (m : Int), .bool b]) ∧ m ≤ n ∧ (∀ t, t < m → (tAt ts t).1 < x) ∧ (∀ t, m ≤ t → t < n → x ≤ (tAt ts t).1) ∧ Below w.heap.size w w' := by
  have H := Lib.hid h
  clear h
  replace hn := Lib.hid hn
  replace hso := Lib.hid hso
  go_enter Try.func77, Try.ntmps77
  go_wp2_with fail
  go_loopw [9, 10] (fun q r wr => ∃ lo hi : Nat, lo ≤ hi ∧ hi ≤ n ∧ Hid ((∀ t, t < lo → (tAt ts t).1 < x) ∧ (∀ t, hi ≤ t → t < n → x ≤ (tAt ts t).1)) ∧ q = .int .i64 lo ∧ r = .int .i64 hi ∧ Below w.heap.size w wr) (fun q r _ => (intOf r).toNat - (intOf q).toNat)
  case atStart => exact ⟨0, n, Nat.zero_le _, Nat.le_refl _, Lib.hid ⟨fun t h => absurd h (by omega), fun t h h2 => absurd h (by omega)⟩, rfl, rfl, Below.refl _ _⟩
  case round =>
    obtain ⟨lo, hi, hlh, hin, HK, rfl, rfl, hB⟩ := hrel
    by_cases hlt : lo < hi
    · have hltI : (lo : Int) < (hi : Int) := by omega
      have hdl : decide (lo < hi) = true := decide_eq_true hlt
      obtain ⟨m, hm⟩ : ∃ m, (lo + hi) / 2 = m := ⟨_, rfl⟩
      have hmn : m < n := by omega
      have hmI : (m : Int) < (n : Int) := by omega
      obtain ⟨a, rfl, hab, c0, c1, c2⟩ := (H.out.below hB).at_ (i := m) (by rw [hn.out]; exact hmn)
      obtain ⟨X, hX⟩ : ∃ X, Hid (tAt ts m = X) := ⟨_, Lib.hid rfl⟩
      rw [hX.out] at c0 c1 c2
      have hc := Lib.hid (against_any X x wr)
      have e1 : ((lo : Int) + (hi : Int)) / 2 = (m : Int) := by omega
      have e2 : IntKind.i64.wrap ((lo : Int) + (hi : Int)) = (lo : Int) + (hi : Int) := by simp [IntKind.wrap, IntKind.bits, IntKind.signed]; omega
      have e3 : IntKind.u64.wrap ((lo : Int) + (hi : Int)) = (lo : Int) + (hi : Int) := by simp [IntKind.wrap, IntKind.bits, IntKind.signed]; omega
      have e4 : IntKind.i64.wrap (m : Int) = (m : Int) := by simp [IntKind.wrap, IntKind.bits, IntKind.signed]; omega
      replace hB := Lib.hid hB
      by_cases hXx : X.1 < x
      · have hq : cmpI X.1 x < 0 := (cmpI_lt _ _).2 hXx
        have HK' : Hid ((∀ t, t < m + 1 → (tAt ts t).1 < x) ∧ (∀ t, hi ≤ t → t < n → x ≤ (tAt ts t).1)) := by
          refine ⟨fun t ht => ?_, HK.out.2⟩
          rcases (by omega : t < m ∨ t = m) with h1 | rfl
          · have := hso.out t m h1 hmn
            rw [hX.out] at this
            omega
          · rw [hX.out]; exact hXx
        generalize cmpI X.1 x = K at *
        clear hXx HK
        go_wp2_with (go_at_call 78; (with_reducible refine hc.out.mono ?_); rintro e w1 ⟨rfl, hb1⟩; have hb1 := Lib.hid (hB.out.trans (hb1.mono hB.out.size)))
        go_round
        case rel => exact ⟨m + 1, hi, by omega, hin, HK', by go_num, rfl, hb1.out⟩
        case measure => simp [intOf]; omega
      · have hq : ¬ cmpI X.1 x < 0 := fun h => hXx ((cmpI_lt _ _).1 h)
        have HK' : Hid ((∀ t, t < lo → (tAt ts t).1 < x) ∧ (∀ t, m ≤ t → t < n → x ≤ (tAt ts t).1)) := by
          refine ⟨HK.out.1, fun t ht htn => ?_⟩
          rcases (by omega : m < t ∨ t = m) with h1 | rfl
          · have := hso.out m t h1 htn
            rw [hX.out] at this
            omega
          · rw [hX.out]; omega
        generalize cmpI X.1 x = K at *
        clear hXx HK
        go_wp2_with (go_at_call 78; (with_reducible refine hc.out.mono ?_); rintro e w1 ⟨rfl, hb1⟩; have hb1 := Lib.hid (hB.out.trans (hb1.mono hB.out.size)))
        go_round
        case rel => exact ⟨lo, m, by omega, by omega, HK', rfl, rfl, hb1.out⟩
        case measure => simp [intOf]; omega
    · obtain rfl : lo = hi := by omega
      have hdl : decide (lo < lo) = false := decide_eq_false hlt
      replace hB := Lib.hid hB
      by_cases hln : lo < n
      · have hlI : (lo : Int) < (n : Int) := by omega
        obtain ⟨a, rfl, hab, c0, c1, c2⟩ := (H.out.below hB.out).at_ (i := lo) (by rw [hn.out]; exact hln)
        generalize tAt ts lo = X at c0 c1 c2
        have hc := Lib.hid (against_any X x wr)
        generalize cmpI X.1 x = K at *
        go_wp2_with (go_at_call 78; (with_reducible refine hc.out.mono ?_); rintro e w1 ⟨rfl, hb1⟩; have hb1 := Lib.hid (hB.out.trans (hb1.mono hB.out.size)))
        go_ret2
        exact ⟨lo, _, rfl, hin, HK.out.1, HK.out.2, hb1.out⟩
      · have hlI : ¬ (lo : Int) < (n : Int) := by omega
        have hd : decide (lo < n) = false := decide_eq_false hln
        go_wp2_with fail
        go_ret2
        exact ⟨lo, Or.inl rfl, hin, HK.out.1, HK.out.2, hB.out⟩
end Go.Proofs.Ytnndhbppgmnefaa.Ft
