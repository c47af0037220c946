/- Regions that draw their order and hold calls that make memory, whose answers hang on where they lie: one walk serves every order, if the calls wait for one another (no program is named here). -/
import Derived.Below
import Derived.BigQuiet
import Derived.OrdersHeld
import Derived.StillTail
namespace Go.Cl
open Go.RowKit

/-- behind w, with the blocks that K names left as they were -/
structure Keeps (K : Nat → Prop) (w w' : World) : Prop where
  os : w'.os = w.os
  tape : w'.tape = w.tape
  output : w'.output = w.output
  size : w.heap.size ≤ w'.heap.size
  block : ∀ b, b < w.heap.size → K b → w'.heap[b]? = w.heap[b]?
theorem Keeps.refl (K : Nat → Prop) (w : World) : Keeps K w w := ⟨rfl, rfl, rfl, Nat.le_refl _, fun _ _ _ => rfl⟩
theorem Keeps.trans {K : Nat → Prop} {a b c : World} (h : Keeps K a b) (k : Keeps K b c) : Keeps K a c :=
  ⟨k.os.trans h.os, k.tape.trans h.tape, k.output.trans h.output, Nat.le_trans h.size k.size, fun i hi hk => (k.block i (Nat.lt_of_lt_of_le hi h.size) hk).trans (h.block i hi hk)⟩
theorem Keeps.drew (K : Nat → Prop) (w : World) : Keeps K w { w with drawn := w.drawn + 1 } := ⟨rfl, rfl, rfl, Nat.le_refl _, fun _ _ _ => rfl⟩
theorem Keeps.of_below {K : Nat → Prop} {w w' : World} (h : Below w.heap.size w w') : Keeps K w w' := ⟨h.os, h.tape, h.output, h.size, fun b hb _ => h.block b hb⟩
theorem Keeps.below {w w' : World} (h : Keeps (fun _ => True) w w') : Below w.heap.size w w' := ⟨h.os, h.tape, h.output, h.size, fun b hb => h.block b hb trivial⟩
/-- a world behind w₀ -/
structure Since (K : Nat → Prop) (w₀ : World) where
  w : World
  keeps : Keeps K w₀ w
instance (K : Nat → Prop) (w₀ : World) : Nonempty (Since K w₀) := ⟨⟨w₀, Keeps.refl _ _⟩⟩

section
variable {P : Program} {ops : Array Oper} {Q : Exit → Act → World → Prop} {md : Region.Mode} {K : Nat → Prop}

/-- whatever order is picked from here on; each operation before number n keeps what is to be kept -/
def wpAnyR (P : Program) (md : Region.Mode) (ops : Array Oper) (Q : Exit → Act → World → Prop) (K : Nat → Prop) (n : Nat) : Nat → Array Bool → Act → World → Prop
  | 0, listed, a, w => Region.ready md ops listed = [] ∧ Q .normal a w
  | fuel + 1, listed, a, w => (Region.ready md ops listed = [] → Q .normal a w) ∧
    ∀ i ∈ Region.ready md ops listed, wpOp P ops Q i (fun a' w' => (i < n → Keeps K w w') ∧ wpAnyR P md ops Q K n fuel (listed.setIfInBounds i true) a' w') a w
theorem wpAny_of_R {n : Nat} : ∀ (fuel : Nat) (listed : Array Bool) (a : Act) (w : World), wpAnyR P md ops Q K n fuel listed a w → wpAny P md ops Q fuel listed a w
  | 0, _, _, _, h => h
  | fuel + 1, _, _, _, h => ⟨h.1, fun i hi => wpOp_mono (fun a' w' h' => wpAny_of_R fuel _ a' w' h'.2) (h.2 i hi)⟩
/-- number n waits for all others, or there is none -/
def lastB (md : Region.Mode) (ops : Array Oper) (n : Nat) : Bool := n == ops.size || (decide (n < ops.size) && Region.sinkB md ops n && Region.chainB md ops n)
theorem lastB_ready {n i : Nat} {listed : Array Bool} (hl : lastB md ops n = true) (inv : HeadInv md ops n listed) (hi : i < n) (hun : listed.getD i true = false) : ∀ t ∈ Region.ready md ops listed, t < n := by
  intro t ht
  simp only [lastB, Bool.or_eq_true, beq_iff_eq, Bool.and_eq_true, decide_eq_true_eq] at hl
  rcases hl with h | ⟨⟨h1, h2⟩, h3⟩
  · obtain ⟨_, ot, hot, _⟩ := mem_ready.1 ht
    have := (Array.getElem?_eq_some_iff.1 hot).1
    omega
  · rcases Nat.lt_or_ge t n with h | h
    · exact h
    · exact absurd ht (tail_waits h2 h3 h1 inv _ i rfl hi hun t h)

theorem wpAnyR_first {n i : Nat} {oi : Oper} {v : Value} {w₀ : World} (hl : lastB md ops n = true) (hin : i < n) (hi : ops[i]? = some oi) (hsel : ∀ (j : Nat) (o : Oper) cs b, ops[j]? = some o → o.op ≠ .select cs b)
    (hQ : ∀ c a w, Q (.panic c) (a.put oi.dst v) w → Q (.panic c) a w) :
    ∀ (fuel : Nat) (listed : Array Bool) (a : Act) (w : World), HeadInv md ops n listed →
      (∀ j oj, ops[j]? = some oj → j ≠ i → listed.getD j true = false → (∀ e ∈ oj.after, Region.binds md e = true → e.on ≠ i) → oi.apart ops oj = true) →
      i ∈ Region.ready md ops listed → YieldsIf P ops (Keeps K w₀) oi v a → Keeps K w₀ w →
      wpAnyR P md ops Q K n fuel (listed.setIfInBounds i true) (a.put oi.dst v) w → wpAnyR P md ops Q K n (fuel + 1) listed a w := by
  intro fuel
  induction fuel with
  | zero =>
    intro listed a w inv _ hr hy hS H
    refine ⟨fun h => (by rw [h] at hr; cases hr), fun j hj => ?_⟩
    by_cases hji : j = i
    · subst hji; exact hy.wpOp hi hS ⟨fun _ => Keeps.refl _ _, H⟩
    · have := ready_mono hj hji
      rw [H.1] at this
      cases this
  | succ fuel ih =>
    intro listed a w inv hfree hr hy hS H
    refine ⟨fun h => (by rw [h] at hr; cases hr), fun j hj => ?_⟩
    by_cases hji : j = i
    · subst hji; exact hy.wpOp hi hS ⟨fun _ => Keeps.refl _ _, H⟩
    · have hjn := lastB_ready hl inv hin (mem_ready.1 hr).1 j hj
      have h1 := H.2 j (ready_mono hj hji)
      obtain ⟨hjun, oj, hoj, hall⟩ := mem_ready.1 hj
      have hnot : ∀ e ∈ oj.after, Region.binds md e = true → e.on ≠ i := fun e he hb heq => by
        have h1 := hall e he hb
        have h0 := (mem_ready.1 hr).1
        rw [heq] at h1
        rcases Nat.lt_or_ge i listed.size with h' | h'
        · simp [h'] at h0 h1; rw [h0] at h1; cases h1
        · simp [Array.getElem?_eq_none h'] at h1
      have h2 := wpOp_putIf hoj (hfree j oj hoj hji hjun hnot) (fun cs b => hsel i oi cs b hi) (fun cs b => hsel j oj cs b hoj) hQ hy h1
      have hfree' : ∀ k ok, ops[k]? = some ok → k ≠ i → (listed.setIfInBounds j true).getD k true = false →
          (∀ e ∈ ok.after, Region.binds md e = true → e.on ≠ i) → oi.apart ops ok = true := fun k ok hk hki hun hno => by
        refine hfree k ok hk hki ?_ hno
        by_cases hjk : j = k
        · subst hjk; exact hjun
        · rw [getD_set_ne true hjk] at hun; exact hun
      refine wpOp_mono (fun a' w' h3 => ⟨h3.2.1, ih (listed.setIfInBounds j true) a' w' (inv.set hj hjn) hfree' (ready_mono hr (Ne.symm hji)) h3.1 (hS.trans (h3.2.1 hjn)) ?_⟩) h2
      rw [Array.setIfInBounds_comm _ _ hji]
      exact h3.2.2

/-- an operation that can be no call of a function, and leaves no frame behind -/
def plainOp (o : Op) : Bool := match o with
  | .move _ | .assign _ | .pick .. | .load .. | .binOp .. | .unOp .. | .convert .. | .slice .. | .fieldAddr .. | .field .. | .indexAddr .. | .index .. | .extract .. | .lookup .. | .build .. | .nilCheck _ => true
  | .call c => match c.callee with
    | .builtin .len | .builtin .cap | .builtin .max | .builtin .min | .builtin .real | .builtin .imag | .builtin .complex => true
    | _ => false
  | _ => false
theorem v_value {s : Sem Value} {w w' : World} {n : Next} (h : (do pure (Next.value (← s)) : Sem Next).run P w = .ok n w') : ∃ v, n = .value v := by
  simp only [Sem.run_bind] at h
  cases hr : s.run P w with
  | ok v w1 => rw [hr] at h; simp only [Result.andThen_ok, Sem.run_pure] at h; injection h with h1 h2; exact ⟨v, h1.symm⟩
  | halt x w1 => rw [hr] at h; simp only [Result.andThen_halt] at h; cases h
theorem nil_value {ρ : Operand → Value} {x : Operand} {w w' : World} {n : Next} (h : (execOp ρ { dst := none, op := .nilCheck x, type := 0, pos := "", after := #[], guard := none }).run P w = .ok n w') : ∃ v, n = .value v := by
  unfold execOp at h
  dsimp only at h
  split at h
  · simp [runtimePanic] at h
  · simp [runtimePanic] at h
  · simp [runtimePanic] at h
  · split at h
    · simp [runtimePanic] at h
    · simp only [Sem.run_bind] at h
      cases h1 : program.run P w with
      | halt x w1 => rw [h1] at h; simp only [Result.andThen_halt] at h; cases h
      | ok u w1 =>
        rw [h1] at h
        simp only [Result.andThen_ok] at h
        cases h2 : (nilAhead (u.types.size + Made.depth) _ _ _).run P w1 with
        | halt x w2 => rw [h2] at h; simp only [Result.andThen_halt] at h; cases h
        | ok u2 w2 =>
          rw [h2] at h
          simp only [Result.andThen_ok] at h
          split at h
          · simp [unsupported] at h
          · simp only [Sem.run_pure] at h; injection h with h1 h2; exact ⟨_, h1.symm⟩
    · simp only [Sem.run_pure] at h; injection h with h1 h2; exact ⟨_, h1.symm⟩
  · simp only [Sem.run_pure] at h; injection h with h1 h2; exact ⟨_, h1.symm⟩
theorem plainOp_value {ρ : Operand → Value} {o : Oper} (ho : plainOp o.op = true) {w w' : World} {n : Next} (h : (execOp ρ o).run P w = .ok n w') : ∃ v, n = .value v := by
  unfold execOp at h
  unfold plainOp at ho
  split at ho
  any_goals (rename_i hx; rw [hx] at h; first | exact v_value h | (simp only [Sem.run_pure] at h; injection h with h1 h2; exact ⟨_, h1.symm⟩))
  · rename_i hx
    rw [hx] at h
    simp only [Sem.run_bind] at h
    cases hr : (asBool (ρ _)).run P w with
    | ok v w1 => rw [hr] at h; simp only [Result.andThen_ok, Sem.run_pure] at h; injection h with h1 h2; exact ⟨_, h1.symm⟩
    | halt x w1 => rw [hr] at h; simp only [Result.andThen_halt] at h; cases h
  · rename_i hx
    rw [hx] at h
    exact nil_value h
  · rename_i hx
    rw [hx] at h
    split at ho
    all_goals first
      | exact absurd ho (by decide)
      | (rename_i hc
         simp only [resolve, hc, Sem.run_bind, Sem.run_pure, Result.andThen_ok, invoke, builtin] at h
         exact v_value (by simpa only [Sem.run_bind, Sem.run_pure] using h))
  · cases ho

/-- behind a call that is carried out: it keeps what is to be kept, and the walk goes on -/
def wayQ (K : Nat → Prop) (w : World) (N : Act → World → Prop) (Q : Exit → Act → World → Prop) : Exit → Act → World → Prop
  | .normal, a', w' => Keeps K w w' ∧ N a' w'
  | e, a', w' => Q e a' w'
/-- what becomes of an operation in the walk: it only reads what is kept; it is carried out, and keeps that; it is the last one, and need not -/
inductive Step where
  | r | c | z
/-- the walk of one order -/
def wpWay (P : Program) (ops : Array Oper) (Q : Exit → Act → World → Prop) (K : Nat → Prop) : List (Nat × Step) → Act → World → Prop
  | [], a, w => Q .normal a w
  | (i, .r) :: rest, a, w => wpQuiet P ops (fun w' => ∃ x : Since K w, w' = x.w) (fun a' => wpWay P ops Q K rest a' w) (ops[i]?.toList) a
  | (i, .c) :: rest, a, w => wpList P ops (wayQ K w (wpWay P ops Q K rest) Q) (ops[i]?.toList) a w
  | (i, .z) :: _, a, w => wpList P ops Q (ops[i]?.toList) a w
def wayFrom (md : Region.Mode) (ops : Array Oper) (n : Nat) : List (Nat × Step) → Array Bool → Bool
  | [], listed => (Region.ready md ops listed).isEmpty
  | (i, .r) :: rest, listed => decide (i < n) && (Region.ready md ops listed).contains i && Region.free md ops listed i && (match ops[i]? with | some o => plainOp o.op | none => false) && wayFrom md ops n rest (listed.setIfInBounds i true)
  | (i, .c) :: rest, listed => decide (i < n) && Region.ready md ops listed == [i] && wayFrom md ops n rest (listed.setIfInBounds i true)
  | (i, .z) :: rest, listed => i == n && Region.ready md ops listed == [i] && (Region.ready md ops (listed.setIfInBounds i true)).isEmpty && rest.isEmpty
/-- does that order serve for all? -/
def wayB (md : Region.Mode) (ops : Array Oper) (n : Nat) (π : List (Nat × Step)) : Bool := Region.noSelect ops && π.length == ops.size && lastB md ops n && wayFrom md ops n π (Array.replicate ops.size false)

theorem wpOp_of_list {i : Nat} {a : Act} {w : World} {M : Act → World → Prop} {Q' : Exit → Act → World → Prop} (hn : ∀ a' w', Q' .normal a' w' → M a' w') (hp : ∀ e a' w', e ≠ .normal → Q' e a' w' → Q e a' w')
    (hl : LetsOut Q' → LetsOut Q) (h : wpList P ops Q' (ops[i]?.toList) a w) : wpOp P ops Q i M a w := by
  unfold wpOp
  cases h0 : ops[i]? with
  | none =>
    rw [h0] at h
    exact hn a w h
  | some o =>
    rw [h0] at h
    simp only [Option.toList, wpList] at h
    dsimp only
    split
    · rename_i hw
      rw [if_pos hw] at h
      rcases h with h | ⟨h1, h2⟩
      · refine Or.inl ?_
        unfold Oper.wp at h ⊢
        generalize (execOp a.eval o).run P w = r at *
        cases r with
        | ok n w' =>
          cases n <;> simp only [Oper.upon] at h ⊢
          case value u => exact hn _ _ h
          case skip => exact hn _ _ h
          case defer d => exact hn _ _ h
          case enter f args =>
            refine Calls.mono h fun e w'' he => ?_
            cases e with
            | returned u => exact hn _ _ he
            | panicked c => exact hp _ _ _ (by intro h; cases h) he
            | outgrown => exact hl he
          case row row args => exact Rows.mono h fun u w'' he => hn _ _ he
        | halt x w' =>
          cases x <;> simp only [Oper.upon] at h ⊢
          case panic u => exact hp _ _ _ (by intro h; cases h) h
      · exact Or.inr ⟨h1, hl h2⟩
    · rename_i hw
      rw [if_neg hw] at h
      exact hn _ _ h

theorem wpAnyR_way {n : Nat} (hl : lastB md ops n = true) (hs : Region.noSelect ops = true) (hQ : ∀ c a d v w, Q (.panic c) (Act.put a d v) w → Q (.panic c) a w) : ∀ (π : List (Nat × Step)) (listed : Array Bool) (a : Act) (w : World),
    HeadInv md ops n listed → wayFrom md ops n π listed = true → wpWay P ops Q K π a w → wpAnyR P md ops Q K n π.length listed a w
  | [], listed, a, w, _, hB, h => ⟨by simpa [wayFrom] using hB, h⟩
  | (i, .r) :: rest, listed, a, w, inv, hB, h => by
    simp only [wayFrom, Bool.and_eq_true, decide_eq_true_eq] at hB
    obtain ⟨⟨⟨⟨hin, hr⟩, hf⟩, hp⟩, hB'⟩ := hB
    have hr' : i ∈ Region.ready md ops listed := by simpa using hr
    cases h0 : ops[i]? with
    | none => rw [h0] at hp; cases hp
    | some o =>
      rw [h0] at hp
      replace hp : plainOp o.op = true := hp
      rw [wpWay, h0] at h
      simp only [Option.toList, wpQuiet] at h
      have key : ∃ v, YieldsIf P ops (Keeps K w) o v a ∧ wpWay P ops Q K rest (a.put o.dst v) w := by
        by_cases hw : Region.wanted o (yielded ops a.tmps) = true
        · rw [if_pos hw] at h
          obtain ⟨v, h1, h2⟩ := h
          refine ⟨v, Or.inl ⟨hw, fun w' hk => ?_⟩, h2⟩
          have h3 := h1 w' ⟨⟨w', hk⟩, rfl⟩
          unfold Oper.quietAt at h3
          cases hrun : (execOp a.eval o).run P w' with
          | ok n w'' =>
            obtain ⟨u, rfl⟩ := plainOp_value hp hrun
            rw [hrun] at h3
            obtain ⟨rfl, rfl⟩ := h3
            rfl
          | halt x w'' => rw [hrun] at h3; exact h3.elim
        · rw [if_neg hw] at h
          exact ⟨undef, Or.inr ⟨by simpa using hw, rfl⟩, h⟩
      obtain ⟨v, hy, hK⟩ := key
      exact wpAnyR_first hl hin h0 (Region.noSelect_spec hs) (fun c a w => hQ c a _ _ w) rest.length listed a w inv (Region.free_spec h0 hf) hr' hy (Keeps.refl _ _)
        (wpAnyR_way hl hs hQ rest _ _ w (inv.set hr' hin) hB' hK)
  | (i, .c) :: rest, listed, a, w, inv, hB, h => by
    simp only [wayFrom, Bool.and_eq_true, beq_iff_eq, decide_eq_true_eq] at hB
    obtain ⟨⟨hin, hr⟩, hB'⟩ := hB
    refine ⟨fun h0 => (by rw [h0] at hr; cases hr), fun j hj => ?_⟩
    have hj0 := hj
    rw [hr] at hj
    obtain rfl : j = i := by simpa using hj
    rw [wpWay] at h
    exact wpOp_of_list (Q' := wayQ K w (wpWay P ops Q K rest) Q) (fun a' w' h' => ⟨fun _ => h'.1, wpAnyR_way hl hs hQ rest _ a' w' (inv.set hj0 hin) hB' h'.2⟩) (fun e a' w' he h' => by cases e <;> first | exact absurd rfl he | exact h') (fun h' => h') h
  | (i, .z) :: rest, listed, a, w, inv, hB, h => by
    simp only [wayFrom, Bool.and_eq_true, beq_iff_eq, List.isEmpty_iff] at hB
    obtain ⟨⟨⟨hin, hr⟩, hlast⟩, rfl⟩ := hB
    refine ⟨fun h0 => (by rw [h0] at hr; cases hr), fun j hj => ?_⟩
    rw [hr] at hj
    obtain rfl : j = i := by simpa using hj
    rw [wpWay] at h
    exact wpOp_of_list (fun a' w' h' => ⟨fun h0 => absurd h0 (by omega), hlast, h'⟩) (fun e a' w' he h' => h') (fun h' => h') h

/-- Q, but nothing panics -/
def Calm (Q : Exit → Act → World → Prop) : Exit → Act → World → Prop
  | .panic _, _, _ => False
  | e, a, w => Q e a w
theorem Calm.normal {a : Act} {w : World} (h : Q .normal a w) : Calm Q .normal a w := h
theorem Calm.imp : ∀ (e : Exit) (a : Act) (w : World), Calm Q e a w → Q e a w := fun e a w h => by
  cases e <;> first | exact h | exact (h : False).elim
/-- A REGION THAT DRAWS ITS ORDER, BY THE WALK OF ONE -/
theorem region_way {id : Nat} {a : Act} {w : World} {l : List Oper} (K : Nat → Prop) (n : Nat) (π : List (Nat × Step)) (hm : P.follows .mixedOrders = true)
    (hB : wayB .any l.toArray n π = true) (h : ∀ w₁, Keeps K w w₁ → wpWay P l.toArray (Calm Q) K π a w₁) : (Code.region id l.toArray true).wp P Q a w := by
  refine Code.wp_mono Calm.imp ?_
  simp only [wayB, Bool.and_eq_true, beq_iff_eq] at hB
  obtain ⟨⟨⟨h1, h2⟩, h3⟩, h4⟩ := hB
  refine wp_region_any hm (wpAny_of_R (K := K) (n := n) _ _ _ _ ?_)
  have := wpAnyR_way (K := K) h3 h1 (fun _ _ _ _ _ h => h) π _ a _ ⟨by simp, fun j oj hj hl => (by rw [getD_replicate_false] at hl; cases hl), fun t _ ht => by simp only [Array.getD, Array.size_replicate]; rw [dif_pos ht]; simp⟩ h4 (h _ (Keeps.drew K w))
  rw [h2] at this
  exact this
theorem way_r {i : Nat} {rest : List (Nat × Step)} {a : Act} {w : World} {l : List Oper} {o : Oper} (ho : l[i]? = some o) (h : wpQuiet P l.toArray (fun w' => ∃ x : Since K w, w' = x.w) (fun a' => wpWay P l.toArray Q K rest a' w) [o] a) : wpWay P l.toArray Q K ((i, .r) :: rest) a w := by
  rw [wpWay, List.getElem?_toArray, ho]; exact h
theorem way_c {i : Nat} {rest : List (Nat × Step)} {a : Act} {w : World} {l : List Oper} {o : Oper} (ho : l[i]? = some o) (h : wpList P l.toArray (wayQ K w (wpWay P l.toArray Q K rest) Q) [o] a w) : wpWay P l.toArray Q K ((i, .c) :: rest) a w := by
  rw [wpWay, List.getElem?_toArray, ho]; exact h
theorem way_z {i : Nat} {rest : List (Nat × Step)} {a : Act} {w : World} {l : List Oper} {o : Oper} (ho : l[i]? = some o) (h : wpList P l.toArray Q [o] a w) : wpWay P l.toArray Q K ((i, .z) :: rest) a w := by
  rw [wpWay, List.getElem?_toArray, ho]; exact h
theorem way_on {a : Act} {w w' : World} {N : Act → World → Prop} (hk : Keeps K w w') (h : N a w') : wayQ K w N Q .normal a w' := ⟨hk, h⟩
theorem way_end {a : Act} {w : World} (h : Q .normal a w) : wpWay P ops (Calm Q) K [] a w := h
/-- one operation, asked of each world of the class by its name -/
theorem quiet_since (P : Program) (o : Oper) (a : Act) (K : Nat → Prop) (w₀ : World) (N : Act → Prop) :
    o.quiet P a (fun w' => ∃ x : Since K w₀, w' = x.w) N = ∃ v, (∀ x : Since K w₀, o.quietAt P a (fun w' => ∃ x : Since K w₀, w' = x.w) x.w v) ∧ N (a.put o.dst v) :=
  propext ⟨fun ⟨v, h, k⟩ => ⟨v, fun x => h _ ⟨x, rfl⟩, k⟩, fun ⟨v, h, k⟩ => ⟨v, fun _ hw => by obtain ⟨x, rfl⟩ := hw; exact h x, k⟩⟩
end
end Go.Cl
