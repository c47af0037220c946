/- Calls that make memory: what a law's row asks of old memory; and regions that draw their order and hold such calls: one walk, in the class of worlds behind one (no program is named here). -/
import Derived.Below
import Derived.ChangeSame
import Derived.BigQuiet
namespace Go.Cl
open Go.RowKit Go.WideShapes Go.ChangeShapes

section
variable {H : Type} {enc : TypeId × Value → H} {P : Program} {f : Func} {s : ChangeSpec} {apart fresh handsOn again : Bool} {W W' : World} {args : Array Value} {v : Value} {ds gs : List (DataW H)} {before pa pv : List MemPlace}
/-- the row's post, of a call that leaves all that was there as it was -/
theorem post_below (hW : DataW.Whole enc P f.params.toList s.vars apart W args.toList ds gs before)
    (hres : ∀ (b : Nat) (sp : Nat → Bool) (hd : Bool), DataW.TrodAll enc P W' b sp hd f.resultTypes.toList (v.resultList f.resultTypes.size) (s.fn H (ds ++ gs)).results [])
    (hargs : ∀ sp : Nat → Bool, (∀ p ∈ before, sp p.block = true) → DataW.TrodAll enc P W' 0 sp true f.params.toList args.toList (s.fn H (ds ++ gs)).args pa)
    (hvars : ∀ sp : Nat → Bool, (∀ p ∈ before, sp p.block = true) → DataW.TrodVars enc P W' sp s.vars (s.fn H (ds ++ gs)).vars pv)
    (hps : before = pa ++ pv) (hb : Below W.heap.size W W')
    (hok : ∀ (j : Nat) (t : TypeId) (r : Value), f.resultTypes[j]? = some t → (v.resultList f.resultTypes.size)[j]? = some r → Value.okWide P W' .any 0 t r) :
    s.post enc P f apart fresh handsOn again W args v W' := by
  subst hps
  have old : ∀ p ∈ pa ++ pv, p.block < W.heap.size := fun p hp => hW.lt p hp
  have sees : ∀ p ∈ pa ++ pv, (fun b => decide (b < W.heap.size)) p.block = true := fun p hp => by simpa using old p hp
  have kept : W.keptBut W' fun p => p ∈ pa ++ pv ∧ (p ∈ ([] : List MemPlace) ∨ p ∈ pa ++ pv) := hb.frame _
  have hW2 := hW
  obtain ⟨_, _, _, _, _, hz, hn⟩ := hW2
  refine ⟨ds, gs, pa ++ pv, [], pa, pv, hW, hres _ _ _, hargs _ sees, hvars _ sees, World.keptBut_mono (fun p hp => ⟨hp.1, ?_⟩) kept, fun _ => ⟨hok, _, _, ([] ++ pa) ++ pv, ⟨[] ++ pa, pv, trodAll_append (hargs _ (fun _ _ => rfl)) (hres _ _ _), hvars _ (fun _ _ => rfl), rfl, ?_, ?_⟩, ?_⟩⟩
  · exact Or.inr (List.mem_append.1 hp.1)
  · intro b off hp
    have hin : MemPlace.cell b off ∈ pa ++ pv := by simpa using hp
    have e := hb.frozen (p := ⟨b, off, none⟩) (old _ hin)
    rw [e]
    exact hz b off hin
  · intro ha
    simpa using hn ha
  · intro p hp _
    simpa using hp
end

/-- a world behind w₀ that leaves what is below block B as it was -/
structure After (B : Nat) (w₀ : World) where
  w : World
  below : Below B w₀ w
instance (B : Nat) (w₀ : World) : Nonempty (After B w₀) := ⟨⟨w₀, Below.refl _ _⟩⟩

section
variable {P : Program} {B : Nat} {w₀ : World}
/-- a region that draws its order, in the class of the worlds behind one -/
theorem region_after {id : Nat} {Q : Exit → Act → World → Prop} {a : Act} {l : List Oper} (B : Nat) (hm : P.follows .mixedOrders = true) (hB : Region.lexB .any l.toArray = true)
    (h : wpQuiet P l.toArray (fun w' => ∃ x : After B w₀, w' = x.w) (fun a' => ∀ w', (∃ x : After B w₀, w' = x.w) → Q .normal a' w') l a) : (Code.region id l.toArray true).wp P Q a w₀ :=
  wp_region_quiet (C := fun w' => ∃ x : After B w₀, w' = x.w) hm hB ⟨⟨w₀.drew, (Below.refl _ _).drew⟩, rfl⟩ (by simpa using h)
/-- the operations of a code's region -/
def opsAt (id : Nat) : Code → Option (Array Oper)
  | .region i ops _ => if i = id then some ops else none
  | .seq a b => match opsAt id a with
    | some x => some x
    | none => opsAt id b
  | .cond _ a b => match opsAt id a with
    | some x => some x
    | none => opsAt id b
  | .block _ b => opsAt id b
  | .loop b => opsAt id b
  | .scope b => opsAt id b
  | _ => none
theorem region_after_at {id : Nat} {Q : Exit → Act → World → Prop} {a : Act} {l : List Oper} (B : Nat) {c : Code} (hm : P.follows .mixedOrders = true) (hB : (opsAt id c).map (Region.lexB .any) = some true) (ho : opsAt id c = some l.toArray)
    (h : wpQuiet P l.toArray (fun w' => ∃ x : After B w₀, w' = x.w) (fun a' => ∀ w', (∃ x : After B w₀, w' = x.w) → Q .normal a' w') l a) : (Code.region id l.toArray true).wp P Q a w₀ :=
  region_after B hm (by rw [ho] at hB; simpa using hB) h
/-- one operation, asked of each world of the class by its name -/
theorem quiet_after (P : Program) (o : Oper) (a : Act) (B : Nat) (w₀ : World) (K : Act → Prop) :
    o.quiet P a (fun w' => ∃ x : After B w₀, w' = x.w) K = ∃ v, (∀ x : After B w₀, o.quietAt P a (fun w' => ∃ x : After B w₀, w' = x.w) x.w v) ∧ K (a.put o.dst v) :=
  propext ⟨fun ⟨v, h, k⟩ => ⟨v, fun x => h _ ⟨x, rfl⟩, k⟩, fun ⟨v, h, k⟩ => ⟨v, fun _ hw => by obtain ⟨x, rfl⟩ := hw; exact h x, k⟩⟩
/-- a call in such a region, of a function that makes memory -/
theorem after_of {f : FuncId} {args : Array Value} {x : After B w₀} {v : Value} (hB : B ≤ w₀.heap.size) (h : Calls P f args x.w fun e w' => e = .returned v ∧ Below x.w.heap.size x.w w') :
    Calls P f args x.w fun e w'' => e = .returned v ∧ ∃ y : After B w₀, w'' = y.w :=
  h.mono fun _ w' ⟨he, hb⟩ => ⟨he, ⟨w', x.below.trans (hb.mono (Nat.le_trans hB x.below.size))⟩, rfl⟩
/-- .. of one that leaves the world alone -/
theorem after_same {f : FuncId} {args : Array Value} {x : After B w₀} {v : Value} (h : Calls P f args x.w fun e w' => e = .returned v ∧ x.w = w') :
    Calls P f args x.w fun e w'' => e = .returned v ∧ ∃ y : After B w₀, w'' = y.w :=
  h.mono fun _ _ ⟨he, hw⟩ => ⟨he, x, hw.symm⟩
end
end Go.Cl
