/- A row of fates of one's own is sorted by their operations. -/
import Derived.Test.YtfohnffhcfiliaaZl
import Derived.Test.YtfohnffhcfiliaaZt
namespace Go.Proofs.Ytfohnffhcfiliaa
open Go.RowKit Go.Deep
set_option linter.unusedVariables false
set_option linter.unusedSimpArgs false

def enc3 (x : Int × Int × Int) : List Value := [.int .i64 x.1, .int .i64 x.2.1, .int .i64 x.2.2]
theorem tAt_arr (ts : List (Int × Int × Int)) (i : Nat) (hi : i < ts.length) : ts.toArray[i]! = tAt ts i := by
  unfold tAt
  rw [getElem!_pos ts.toArray i (by simpa using hi)]
  simp [List.getD, List.getElem?_eq_getElem hi]
theorem flatK3 (ts : List (Int × Int × Int)) : Sort.flatK enc3 3 ts.toArray = (flat3 ts).toArray := by
  refine Sort.ext_get! (by simp [flat3_len]) fun t ht => ?_
  have ht' : t < ts.length * 3 := by simpa using ht
  rw [Sort.get_flatK _ _ _ t (by simpa using ht'), tAt_arr ts _ (by omega)]
  obtain ⟨f0, f1, f2⟩ := flat3_at ts (t / 3) (by omega)
  have key : ∀ u, (flat3 ts)[t]? = some u → (flat3 ts).toArray[t]! = u := fun u hu => by
    have hb : t < (flat3 ts).length := by rw [flat3_len]; exact ht'
    rw [List.getElem?_eq_getElem hb] at hu
    injection hu with hu
    rw [getElem!_pos (flat3 ts).toArray t (by simpa using hb)]
    simpa using hu
  rcases (by omega : t = t / 3 * 3 ∨ t = t / 3 * 3 + 1 ∨ t = t / 3 * 3 + 2) with e | e | e
  · rw [show t % 3 = 0 by omega, key _ (by rw [← f0, ← e])]; rfl
  · rw [show t % 3 = 1 by omega, key _ (by rw [← f1, ← e])]; rfl
  · rw [show t % 3 = 2 by omega, key _ (by rw [← f2, ← e])]; rfl
theorem heap_sorted3 {w : World} {g n : Nat} {os : Array Obj} {cur : Array Value} {e : TypeId} {fr : Nat × Nat} (d : Array Value) (hb : w.heap[g]? = some (.cells cur e fr)) :
    (Sort.grow (Sort.putRow id (Sort.ahead w n) g 0 d) os).heap[g]? = some (.cells (Sort.putCells id 0 d cur) e fr) := by
  have hg : g < w.heap.size := (Array.getElem?_eq_some_iff.1 hb).1
  rw [Sort.heap_grow_old _ _ (by simpa [Sort.putRow, Sort.mapBlock, Sort.ahead] using hg)]
  simp [Sort.putRow, Sort.mapBlock, Sort.ahead, Array.getElem?_modify, hb, Sort.onCells]
theorem below_sorted3 {w : World} {g n B : Nat} {os : Array Obj} (d : Array Value) (hg : B ≤ g) (hB : B ≤ w.heap.size) : Below B w (Sort.grow (Sort.putRow id (Sort.ahead w n) g 0 d) os) := by
  refine ⟨rfl, rfl, rfl, by simp [Sort.putRow, Sort.mapBlock, Sort.ahead], fun k hk => ?_⟩
  rw [Sort.heap_grow_old _ _ (by simp [Sort.putRow, Sort.mapBlock, Sort.ahead]; omega)]
  have : g ≠ k := by omega
  simp [Sort.putRow, Sort.mapBlock, Sort.ahead, Array.getElem?_modify, this]
theorem take_put3 (cur : Array Value) (vs : List Value) (h : vs.length ≤ cur.size) : (Sort.putCells id 0 vs.toArray cur).toList.take vs.length = vs := by
  apply List.ext_getElem?
  intro j
  by_cases hj : j < vs.length
  · rw [List.getElem?_take_of_lt hj, Array.getElem?_toList]
    simp [Sort.putCells, hj, show j < cur.size by omega]
  · rw [List.getElem?_take_eq_none (by omega), List.getElem?_eq_none (by omega)]
theorem swo3 : Sort.SWO (ltOf fun x y : Int × Int × Int => cmpI x.1 y.1) where
  irrefl x := by unfold ltOf; rw [decide_eq_false_iff_not, cmpI_lt]; omega
  trans x y z h1 h2 := by unfold ltOf at *; rw [decide_eq_true_eq, cmpI_lt] at *; omega
  ntrans x y z h1 h2 := by unfold ltOf at *; rw [decide_eq_false_iff_not, cmpI_lt] at *; omega
/-- in the order of their operations -/
def Rises (ts : List (Int × Int × Int)) : Prop := ∀ i j, i < j → j < ts.length → (tAt ts i).1 ≤ (tAt ts j).1
set_option maxHeartbeats 1000000 in
theorem sort_any {w0 w : World} {v : Value} {ts : List (Int × Int × Int)} (h : OwnT w0 w v ts) (hl : ts.length ≤ 1000000) (hB : w0.heap.size ≤ w.heap.size) :
    Calls Try.prog 14 #[v, .func (.func 15) #[] #[]] w fun e w' => e = .returned (.tuple #[]) ∧ ∃ ss : List (Int × Int × Int), ss.Perm ts ∧ Rises ss ∧ OwnT w0 w' v ss ∧ Below w0.heap.size w w' := by
  obtain ⟨_, h2⟩ := h
  rcases h2 with ⟨rfl, h0⟩ | ⟨g, cap, cur, rfl, hg, hh, hn, hcap, hcs, htk⟩
  · obtain rfl : ts = [] := List.eq_nil_of_length_eq_zero h0
    exact (sort_none w 15).mono fun e w' ⟨he, hw⟩ => ⟨he, [], List.Perm.refl _, fun i j _ h => absurd h (by simp), OwnT.nil _ _, by rw [hw]; exact Below.refl _ _⟩
  · have hlt : g < w.heap.size := (Array.getElem?_eq_some_iff.1 hh).1
    have hH : Sort.HoldsK enc3 3 w g 0 ts.toArray := by
      intro j hj
      rw [flatK3] at hj ⊢
      have hj' : j < (flat3 ts).length := by simpa using hj
      have hj3 : j < ts.length * 3 := by rwa [flat3_len] at hj'
      refine ⟨?_, by simp [World.frozen?, hh]⟩
      rw [Nat.zero_add, cell_of hh]
      have e2 : (cur.toList.take (ts.length * 3))[j]? = (flat3 ts)[j]? := by rw [htk]
      rw [List.getElem?_take, if_pos hj3, Array.getElem?_toList] at e2
      rw [e2, List.getElem?_eq_getElem hj', getElem!_pos (flat3 ts).toArray j (by simpa using hj')]
      simp
    have eg : ∀ args w, (callFunc 15 args).run Try.prog w = .ok (.enter 15 args) w := enters_of Try.func15 (by kernel_rfl) rfl
    have hcon := AnyQ.slices_SortFunc Try.sortF 3 Try.isAgg30 Try.sizeOf30 enc3 (fun _ => rfl) (fun x v hv => by simp [enc3] at hv; rcases hv with rfl | rfl | rfl <;> rfl) (fun x y => cmpI x.1 y.1) swo3 15 #[] g 0 cap ts.toArray w eg (fun _ _ _ _ x y => earlier_any x y _) hH hlt (by simp; omega)
    change Calls Try.prog 14 _ _ _ at hcon
    rw [show ts.toArray.size = ts.length by simp] at hcon
    refine hcon.mono ?_
    rintro e w' ⟨rfl, d', n, os, hp, hs, rfl⟩
    obtain ⟨ss, rfl⟩ : ∃ ss : List (Int × Int × Int), d' = ss.toArray := ⟨d'.toList, by simp⟩
    obtain ⟨hz, _, hpm⟩ := hp
    have hz : ss.length = ts.length := by simpa using hz
    have hperm : ss.Perm ts := by
      have e1 : (ss.toArray.extract 0 ts.length).toList = ss := by simp [← hz]
      have e2 : (ts.toArray.extract 0 ts.length).toList = ts := by simp
      rw [e1, e2] at hpm
      exact hpm
    refine ⟨rfl, ss, hperm, fun i j hij hj => ?_, ⟨flat3_len ss, Or.inr ⟨g, cap, _, ?_, hg, heap_sorted3 _ hh, by omega, hcap, by simp [Sort.putCells, hcs], ?_⟩⟩, below_sorted3 _ hg hB⟩
    · have := hs i j (Nat.zero_le _) hij (by omega)
      rw [tAt_arr ss i (by omega), tAt_arr ss j hj] at this
      unfold ltOf at this
      rw [decide_eq_false_iff_not, cmpI_lt] at this
      omega
    · rw [hz]
    · rw [flatK3, ← flat3_len ss]
      exact take_put3 cur (flat3 ss) (by rw [flat3_len, hcs]; omega)
end Go.Proofs.Ytfohnffhcfiliaa
