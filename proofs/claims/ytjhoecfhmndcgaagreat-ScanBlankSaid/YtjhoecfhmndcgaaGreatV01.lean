/- TWO SORTED RUNS MERGED WITHOUT MORE MEMORY (as the library's stable sort does it), plain: what is exchanged, what is turned round, what is sorted then. -/
import Derived.Sort.LotA
import Derived.Sort.Lot0
namespace Go.Proofs.YtjhoecfhmndcgaaGreat.So
open Go.Sort
set_option linter.unusedVariables false
set_option linter.unusedSimpArgs false
set_option linter.unusedSectionVars false
variable {α : Type} [Inhabited α]
/-- an array as a function -/
def vw (d : Array α) : Nat → α := fun t => d[t]!
/-- two runs of n exchanged -/
def exF (F : Nat → α) (a b n t : Nat) : α := if a ≤ t ∧ t < a + n then F (t + (b - a)) else if b ≤ t ∧ t < b + n then F (t - (b - a)) else F t
/-- [a, m) and [m, b) turned round -/
def rotF (F : Nat → α) (a m b t : Nat) : α := if a ≤ t ∧ t < a + (b - m) then F (t + (m - a)) else if a + (b - m) ≤ t ∧ t < b then F (t - (b - m)) else F t
theorem vw_swp (d : Array α) {i j : Nat} (hi : i < d.size) (hj : j < d.size) (t : Nat) : vw (swp d i j) t = if t = j then vw d i else if t = i then vw d j else vw d t := by
  unfold vw
  by_cases h1 : t = j
  · subst h1; rw [if_pos rfl, swp_right d i t hj]
  · rw [if_neg h1]
    by_cases h2 : t = i
    · subst h2; rw [if_pos rfl, swp_left d t j hi h1]
    · rw [if_neg h2, swp_other d i j t h2 h1]
theorem ex_zero (F : Nat → α) (a b : Nat) : exF F a b 0 = F := by
  funext t; unfold exF
  rw [if_neg (by omega), if_neg (by omega)]
theorem ex_step (F : Nat → α) {a b n : Nat} (h : a + n < b) (t : Nat) : exF F a b (n + 1) t = if t = b + n then exF F a b n (a + n) else if t = a + n then exF F a b n (b + n) else exF F a b n t := by
  unfold exF
  repeat' split
  all_goals first | rfl | (congr 1; omega) | (exfalso; omega)
theorem rot_more (F : Nat → α) {m i j : Nat} (hi : i ≤ m) (h : j < i) : rotF (exF F (m - i) m j) (m - i + j) m (m + j) = rotF F (m - i) m (m + j) := by
  funext t; unfold rotF exF
  repeat' split
  all_goals first | rfl | (congr 1; omega) | (exfalso; omega)
theorem rot_less (F : Nat → α) {m i j : Nat} (hi : i ≤ m) (h : i < j) : rotF (exF F (m - i) (m + j - i) i) (m - i) m (m + j - i) = rotF F (m - i) m (m + j) := by
  funext t; unfold rotF exF
  repeat' split
  all_goals first | rfl | (congr 1; omega) | (exfalso; omega)
theorem rot_same (F : Nat → α) {m i : Nat} (hi : i ≤ m) : exF F (m - i) m i = rotF F (m - i) m (m + i) := by
  funext t; unfold rotF exF
  repeat' split
  all_goals first | rfl | (congr 1; omega) | (exfalso; omega)
theorem rot_left (F : Nat → α) {a m : Nat} (h : a = m) (b : Nat) : rotF F a m b = F := by
  funext t; unfold rotF
  repeat' split
  all_goals first | rfl | (congr 1; omega) | (exfalso; omega)
theorem rot_right (F : Nat → α) {m b : Nat} (h : m = b) (a : Nat) : rotF F a m b = F := by
  funext t; unfold rotF
  repeat' split
  all_goals first | rfl | (congr 1; omega) | (exfalso; omega)
/-- one goes up, step by step: k steps -/
def upF (F : Nat → α) (a k t : Nat) : α := if a ≤ t ∧ t < k then F (t + 1) else if t = k then F a else F t
theorem up_zero (F : Nat → α) (a : Nat) : upF F a a = F := by
  funext t; unfold upF
  repeat' split
  all_goals first | rfl | (congr 1; omega) | (exfalso; omega)
theorem up_step (F : Nat → α) {a k : Nat} (h : a ≤ k) (t : Nat) : upF F a (k + 1) t = if t = k + 1 then upF F a k k else if t = k then upF F a k (k + 1) else upF F a k t := by
  unfold upF
  repeat' split
  all_goals first | rfl | (congr 1; omega) | (exfalso; omega)
/-- one goes down -/
def dnF (F : Nat → α) (m k t : Nat) : α := if k < t ∧ t ≤ m then F (t - 1) else if t = k then F m else F t
theorem dn_zero (F : Nat → α) (m : Nat) : dnF F m m = F := by
  funext t; unfold dnF
  repeat' split
  all_goals first | rfl | (congr 1; omega) | (exfalso; omega)
theorem dn_step (F : Nat → α) {m k : Nat} (h : k + 1 ≤ m) (t : Nat) : dnF F m k t = if t = k then dnF F m (k + 1) (k + 1) else if t = k + 1 then dnF F m (k + 1) k else dnF F m (k + 1) t := by
  unfold dnF
  repeat' split
  all_goals first | rfl | (congr 1; omega) | (exfalso; omega)
/-- sorted between a and b -/
def So (lt : α → α → Bool) (F : Nat → α) (a b : Nat) : Prop := ∀ i j, a ≤ i → i < j → j < b → lt (F j) (F i) = false
section
variable {lt : α → α → Bool} (hO : SWO lt)
include hO
theorem asy {x y : α} (h : lt x y = true) : lt y x = false := by
  cases e : lt y x with
  | false => rfl
  | true => have := hO.trans x y x h e; rw [hO.irrefl] at this; cases this
theorem lt_le {x y z : α} (h : lt x y = true) (h2 : lt z y = false) : lt x z = true := by
  cases e : lt x z with
  | true => rfl
  | false => have := hO.ntrans x z y e h2; rw [this] at h; cases h
theorem le_lt {x y z : α} (h : lt y x = false) (h2 : lt y z = true) : lt x z = true := by
  cases e : lt x z with
  | true => rfl
  | false => have := hO.ntrans y x z h e; rw [this] at h2; cases h2
theorem So.le {F : Nat → α} {a b i j : Nat} (h : So lt F a b) (ha : a ≤ i) (hij : i ≤ j) (hj : j < b) : lt (F j) (F i) = false := by
  rcases Nat.lt_or_ge i j with h1 | h1
  · exact h i j ha h1 hj
  · obtain rfl : i = j := by omega
    exact hO.irrefl _
theorem up_so {F : Nat → α} {a b i : Nat} (hi : a < i) (hib : i ≤ b) (h1 : ∀ t, a < t → t < i → lt (F t) (F a) = true) (h2 : ∀ t, i ≤ t → t < b → lt (F t) (F a) = false) (hs : So lt F (a + 1) b) : So lt (upF F a (i - 1)) a b := by
  intro p q hp hpq hq
  unfold upF
  by_cases c1 : q < i - 1
  · rw [if_pos (by omega), if_pos (by omega)]
    exact hs _ _ (by omega) (by omega) (by omega)
  · rw [if_neg (by omega)]
    by_cases c2 : q = i - 1
    · rw [if_pos c2, if_pos (by omega)]
      exact asy hO (h1 _ (by omega) (by omega))
    · rw [if_neg c2]
      by_cases c3 : p < i - 1
      · rw [if_pos (by omega)]
        exact So.le hO hs (by omega) (by omega) hq
      · rw [if_neg (by omega)]
        by_cases c4 : p = i - 1
        · rw [if_pos c4]; exact h2 _ (by omega) hq
        · rw [if_neg c4]; exact hs _ _ (by omega) hpq hq
theorem dn_so {F : Nat → α} {a m i : Nat} (hi : a ≤ i) (him : i ≤ m) (h1 : ∀ t, a ≤ t → t < i → lt (F m) (F t) = false) (h2 : ∀ t, i ≤ t → t < m → lt (F m) (F t) = true) (hs : So lt F a m) : So lt (dnF F m i) a (m + 1) := by
  intro p q hp hpq hq
  unfold dnF
  by_cases c1 : i < q
  · rw [if_pos (by omega)]
    by_cases c2 : i < p
    · rw [if_pos (by omega)]
      exact hs _ _ (by omega) (by omega) (by omega)
    · rw [if_neg (by omega)]
      by_cases c3 : p = i
      · rw [if_pos c3]; exact asy hO (h2 _ (by omega) (by omega))
      · rw [if_neg c3]; exact So.le hO hs (by omega) (by omega) (by omega)
  · rw [if_neg (by omega)]
    by_cases c2 : q = i
    · rw [if_pos c2, if_neg (by omega), if_neg (by omega)]; exact h1 _ hp (by omega)
    · rw [if_neg c2, if_neg (by omega), if_neg (by omega)]; exact hs _ _ hp hpq (by omega)
/-- what the search for the place told: lesser places are no more, greater ones are -/
theorem look_no {F : Nat → α} {a m b p s0 c : Nat} (ha : So lt F a m) (hb : So lt F m b) (h0 : a ≤ s0) (hp : p - s0 < b) (hc : c < m) (hpc : m + c ≤ p) (h : lt (F (p - c)) (F c) = false) : ∀ t, s0 ≤ t → t ≤ c → lt (F (p - t)) (F t) = false := by
  intro t h1 h2
  have e1 := So.le hO ha (i := t) (j := c) (by omega) h2 hc
  have e2 := So.le hO hb (i := p - c) (j := p - t) (by omega) (by omega) (by omega)
  exact hO.ntrans _ _ _ (hO.ntrans _ _ _ e2 h) e1
theorem look_yes {F : Nat → α} {a m b p r0 c : Nat} (ha : So lt F a m) (hb : So lt F m b) (h0 : r0 ≤ m) (hp : m + r0 ≤ p + 1) (hac : a ≤ c) (hpc : p - c < b) (h : lt (F (p - c)) (F c) = true) : ∀ t, c ≤ t → t < r0 → lt (F (p - t)) (F t) = true := by
  intro t h1 h2
  have e1 := So.le hO ha (i := c) (j := t) hac h1 (by omega)
  have e2 := So.le hO hb (i := p - t) (j := p - c) (by omega) (by omega) hpc
  exact le_lt hO e2 (lt_le hO h e1)
end
/-- the four runs behind the turning, and that none of the second half is less than one of the first -/
structure Half (lt : α → α → Bool) (G : Nat → α) (a s mid e b : Nat) : Prop where
  s1 : So lt G a s
  s2 : So lt G s mid
  s3 : So lt G mid e
  s4 : So lt G e b
  cross : ∀ x y, a ≤ x → x < mid → mid ≤ y → y < b → lt (G y) (G x) = false
theorem rot_half {lt : α → α → Bool} (hO : SWO lt) {F : Nat → α} {a m b mid s s0 r0 : Nat} (ha : So lt F a m) (hb : So lt F m b) (ham : a < m) (hmb : m < b) (h1 : a < mid) (h2 : mid < b) (hs : s0 ≤ s) (hr : s ≤ r0)
    (hr0 : r0 = m ∨ r0 = mid) (hrm : r0 ≤ m) (hrd : r0 ≤ mid) (hs0 : s0 = a ∨ s0 + b = mid + m) (hsa : a ≤ s0) (hsb : mid + m ≤ s0 + b)
    (no : ∀ t, s0 ≤ t → t < s → lt (F (mid + m - 1 - t)) (F t) = false) (yes : ∀ t, s ≤ t → t < r0 → lt (F (mid + m - 1 - t)) (F t) = true) : Half lt (rotF F s m (mid + m - s)) a s mid (mid + m - s) b where
  s1 p q hp hpq hq := by
    unfold rotF
    rw [if_neg (by omega), if_neg (by omega), if_neg (by omega), if_neg (by omega)]
    exact ha _ _ hp hpq (by omega)
  s2 p q hp hpq hq := by
    unfold rotF
    rw [if_pos (by omega), if_pos (by omega)]
    exact hb _ _ (by omega) (by omega) (by omega)
  s3 p q hp hpq hq := by
    unfold rotF
    rw [if_neg (by omega), if_pos (by omega), if_neg (by omega), if_pos (by omega)]
    exact ha _ _ (by omega) (by omega) (by omega)
  s4 p q hp hpq hq := by
    unfold rotF
    rw [if_neg (by omega), if_neg (by omega), if_neg (by omega), if_neg (by omega)]
    exact hb _ _ (by omega) hpq hq
  cross x y hx hxm hy hyb := by
    unfold rotF
    by_cases c1 : x < s
    · rw [if_neg (c := s ≤ x ∧ _) (by omega), if_neg (c := s + _ ≤ x ∧ _) (by omega)]
      by_cases c2 : y < mid + m - s
      · rw [if_neg (by omega), if_pos (by omega)]
        exact So.le hO ha hx (by omega) (by omega)
      · rw [if_neg (by omega), if_neg (by omega)]
        -- the last of the first run, and the first behind the second's
        rcases Nat.lt_or_ge s0 s with c3 | c3
        · have e := no (s - 1) (by omega) (by omega)
          rw [show mid + m - 1 - (s - 1) = mid + m - s by omega] at e
          have e1 := So.le hO ha (i := x) (j := s - 1) hx (by omega) (by omega)
          have e2 := So.le hO hb (i := mid + m - s) (j := y) (by omega) (by omega) hyb
          exact hO.ntrans _ _ _ (hO.ntrans _ _ _ e2 e) e1
        · exfalso; omega
    · rw [if_pos (c := s ≤ x ∧ _) (by omega)]
      by_cases c2 : y < mid + m - s
      · rw [if_neg (by omega), if_pos (by omega)]
        rcases Nat.lt_or_ge s r0 with c3 | c3
        · have e := asy hO (yes s (Nat.le_refl _) c3)
          have e1 := So.le hO hb (i := x + (m - s)) (j := mid + m - 1 - s) (by omega) (by omega) (by omega)
          have e2 := So.le hO ha (i := s) (j := y - (mid + m - s - m)) (by omega) (by omega) (by omega)
          exact hO.ntrans _ _ _ (hO.ntrans _ _ _ e2 e) e1
        · exfalso; omega
      · rw [if_neg (by omega), if_neg (by omega)]
        exact So.le hO hb (by omega) (by omega) hyb
/-- both halves sorted: all is -/
theorem half_done {lt : α → α → Bool} (hO : SWO lt) {d d1 d2 : Array α} {a mid b s e : Nat} (h : Half lt (vw d) a s mid e b) (ham : a ≤ mid) (hmb : mid ≤ b) (hb : b ≤ d.size) (p1 : PermIn a mid d d1) (p2 : PermIn mid b d1 d2) (q1 : SortedIn lt a mid d1) (q2 : SortedIn lt mid b d2) :
    PermIn a b d d2 ∧ SortedIn lt a b d2 := by
  have z1 : d1.size = d.size := p1.1
  refine ⟨permIn_trans _ _ _ _ _ (permIn_mono _ _ _ _ _ _ (Nat.le_refl _) hmb hb p1) (permIn_mono _ _ _ _ _ _ ham (Nat.le_refl _) (by omega) p2), fun i j hi hij hj => ?_⟩
  have low : ∀ t, t < mid → d2[t]! = d1[t]! := fun t ht => p2.2.1 t (Or.inl ht)
  rcases Nat.lt_or_ge j mid with c1 | c1
  · rw [low j c1, low i (by omega)]; exact q1 i j hi hij c1
  · rcases Nat.lt_or_ge i mid with c2 | c2
    · rw [low i c2]
      -- any two across
      have k1 : ∀ y, mid ≤ y → y < b → ∀ x, a ≤ x → x < mid → lt d1[y]! d1[x]! = false := fun y h1 h2 => by
        rw [p1.2.1 y (Or.inr h1)]
        exact permIn_all d d1 a mid (fun v => lt d[y]! v = false) (by omega) p1 (fun x h3 h4 => h.cross x y h3 h4 h1 h2)
      exact permIn_all d1 d2 mid b (fun v => lt v d1[i]! = false) (by omega) p2 (fun y h1 h2 => k1 y h1 h2 i hi c2) j c1 hj
    · exact q2 i j c2 hij hj
theorem Half.left {lt : α → α → Bool} {G : Nat → α} {a s mid e b : Nat} (h : Half lt G a s mid e b) (h1 : a ≤ s) (h2 : s ≤ mid) (hn : ¬ (a < s ∧ s < mid)) : So lt G a mid := by
  rcases Nat.lt_or_ge a s with c | c
  · have := h.s1; rwa [show s = mid by omega] at this
  · have := h.s2; rwa [show s = a by omega] at this
theorem Half.right {lt : α → α → Bool} {G : Nat → α} {a s mid e b : Nat} (h : Half lt G a s mid e b) (h1 : mid ≤ e) (h2 : e ≤ b) (hn : ¬ (mid < e ∧ e < b)) : So lt G mid b := by
  rcases Nat.lt_or_ge mid e with c | c
  · have := h.s3; rwa [show e = b by omega] at this
  · have := h.s4; rwa [show e = mid by omega] at this
/-- all runs of length s are sorted -/
def Runs (lt : α → α → Bool) (s n : Nat) (d : Array α) (a : Nat) : Prop := ∀ x, s ∣ x → a ≤ x → SortedIn lt x (min n (x + s)) d
/-- all runs of length s ahead of a are -/
def RunsTo (lt : α → α → Bool) (s n : Nat) (d : Array α) (a : Nat) : Prop := ∀ x, s ∣ x → x < a → SortedIn lt x (min n (x + s)) d
omit [Inhabited α] in
theorem dvd_gap {s x y : Nat} (hx : s ∣ x) (hy : s ∣ y) (h : x < y) : x + s ≤ y := by
  have := Nat.le_of_dvd (by omega) (Nat.dvd_sub hy hx)
  omega
theorem So.keep {lt : α → α → Bool} {a b x y : Nat} {d d' : Array α} (h : SortedIn lt x y d) (hp : PermIn a b d d') (ho : y ≤ a ∨ b ≤ x) : SortedIn lt x y d' := by
  intro i j hi hij hj
  rw [hp.2.1 i (by omega), hp.2.1 j (by omega)]
  exact h i j hi hij hj
theorem runs_all {lt : α → α → Bool} {s n : Nat} {d : Array α} (h : Runs lt s n d 0) (hs : n ≤ s) : SortedIn lt 0 n d := by
  have := h 0 (Nat.dvd_zero _) (Nat.le_refl _)
  rwa [Nat.zero_add, Nat.min_eq_left hs] at this
/-- one run more -/
theorem RunsTo.step {lt : α → α → Bool} {s n a : Nat} {d d' : Array α} (h : RunsTo lt s n d a) (hd : s ∣ a) (hp : PermIn a (min n (a + s)) d d') (hs : SortedIn lt a (min n (a + s)) d') : RunsTo lt s n d' (a + s) := by
  intro x hx hxa
  rcases Nat.lt_trichotomy x a with c | c | c
  · exact So.keep (h x hx c) hp (Or.inl (by have := dvd_gap hx hd c; omega))
  · subst c; exact hs
  · have := dvd_gap hd hx c; omega
theorem Runs.step {lt : α → α → Bool} {s n a a' b : Nat} {d d' : Array α} (h : Runs lt s n d a) (ha : a ≤ a') (hb : b ≤ a') (hp : PermIn a b d d') : Runs lt s n d' a' := fun x hx hxa => So.keep (h x hx (by omega)) hp (Or.inr (by omega))
theorem RunsTo.end_ {lt : α → α → Bool} {s n a : Nat} {d : Array α} (h : RunsTo lt s n d a) (ha : n ≤ a) : Runs lt s n d 0 := by
  intro x hx _
  rcases Nat.lt_or_ge x a with c | c
  · exact h x hx c
  · intro i j hi hij hj; omega
end Go.Proofs.YtjhoecfhmndcgaaGreat.So
