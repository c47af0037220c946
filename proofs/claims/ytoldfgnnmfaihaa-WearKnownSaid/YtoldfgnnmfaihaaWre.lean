/- The document's example. -/
import Derived.Test.YtoldfgnnmfaihaaWrc
namespace Go.Proofs.Ytoldfgnnmfaihaa.We
open Go.RowKit
set_option linter.unusedVariables false
set_option linter.unusedSimpArgs false

/-- a new row of values -/
theorem SF.made (w : World) (l : List Value) (T : TypeId) (f : Nat → Value) (hf : ∀ i, i < l.length → l[i]? = some (f i)) : SF (w.alloc (.cells l.toArray T)) (w.alloc (.cells l.toArray T)).heap.size (some ⟨w.heap.size, 0, none⟩) l.length f := by
  refine Or.inr ⟨_, rfl, by rw [World.size_alloc]; exact Nat.lt_succ_self _, fun i hi => ?_⟩
  have e : (⟨w.heap.size, 0, none⟩ : Addr).add i = ⟨w.heap.size, i, none⟩ := by unfold Addr.add; split <;> simp_all
  rw [e, cell_new, List.getElem?_toArray]
  exact hf i hi
def ints (l : List Int) (i : Nat) : Int := l.getD i 0
def bools (l : List Bool) (i : Nat) : Bool := l.getD i false
theorem SF.ints (w : World) (l : List Int) (T : TypeId) (n : Nat) (hn : l.length = n) : SF (w.alloc (.cells (l.map (Value.int .i64)).toArray T)) (w.alloc (.cells (l.map (Value.int .i64)).toArray T)).heap.size (some ⟨w.heap.size, 0, none⟩) n (iF (We.ints l)) := by
  have := SF.made w (l.map (Value.int .i64)) T (iF (We.ints l)) (fun i hi => by
    rw [List.length_map] at hi
    rw [List.getElem?_map, List.getElem?_eq_getElem hi]
    simp [iF, We.ints, List.getD_eq_getElem?_getD, hi])
  rwa [List.length_map, hn] at this
theorem SF.bools (w : World) (l : List Bool) (T : TypeId) (n : Nat) (hn : l.length = n) : SF (w.alloc (.cells (l.map Value.bool).toArray T)) (w.alloc (.cells (l.map Value.bool).toArray T)).heap.size (some ⟨w.heap.size, 0, none⟩) n (bF (We.bools l)) := by
  have := SF.made w (l.map Value.bool) T (bF (We.bools l)) (fun i hi => by
    rw [List.length_map] at hi
    rw [List.getElem?_map, List.getElem?_eq_getElem hi]
    simp [bF, We.bools, List.getD_eq_getElem?_getD, hi])
  rwa [List.length_map, hn] at this
/-- Pick of rows made side by side -/
theorem pick_made (w : World) (e : List Int) (m : List Bool) (T U : TypeId) (n k : Nat) (hn : e.length = n) (hk : m.length = k) (r : Option Nat) (hr : fst (bools m) (lo (ints e)) (mn n k) = r) (h62 : n ≤ 65536) :
    Calls Try.prog 9 #[.slice (some ⟨w.heap.size, 0, none⟩) n n, .slice (some ⟨w.heap.size + 1, 0, none⟩) k k] ((w.alloc (.cells (e.map (Value.int .i64)).toArray T)).alloc (.cells (m.map Value.bool).toArray U)) (Ans w (.tuple #[.int .i64 ((r.getD 0 : Nat) : Int), .bool r.isSome])) := by
  have hz : (w.alloc (.cells (e.map (Value.int .i64)).toArray T)).heap.size = w.heap.size + 1 := World.size_alloc _ _
  have hA := below_alloc w (.cells (e.map (Value.int .i64)).toArray T)
  have hA2 := below_alloc (w.alloc (.cells (e.map (Value.int .i64)).toArray T)) (.cells (m.map Value.bool).toArray U)
  have h := pick_any (some ⟨w.heap.size, 0, none⟩) n n (ints e) (some ⟨(w.alloc (.cells (e.map (Value.int .i64)).toArray T)).heap.size, 0, none⟩) k k (bools m) _ ((SF.ints w e T n hn).far hA2) (SF.bools (w.alloc (.cells (e.map (Value.int .i64)).toArray T)) m U k hk) (by omega)
  rw [hr, hz] at h
  exact h.mono fun _ _ ⟨h1, h2⟩ => ⟨h1, below_trans (below_trans hA hA2) h2⟩
theorem gap_made (w : World) (e : List Int) (m : List Bool) (T U : TypeId) (n k : Nat) (hn : e.length = n) (hk : m.length = k) (r : Int) (hr : wrap64 (gapF (ints e) (bools m) (mn n k)) = r) (h62 : n ≤ 65536) :
    Calls Try.prog 13 #[.slice (some ⟨w.heap.size, 0, none⟩) n n, .slice (some ⟨w.heap.size + 1, 0, none⟩) k k] ((w.alloc (.cells (e.map (Value.int .i64)).toArray T)).alloc (.cells (m.map Value.bool).toArray U)) (Ans w (.int .i64 r)) := by
  have hz : (w.alloc (.cells (e.map (Value.int .i64)).toArray T)).heap.size = w.heap.size + 1 := World.size_alloc _ _
  have hA := below_alloc w (.cells (e.map (Value.int .i64)).toArray T)
  have hA2 := below_alloc (w.alloc (.cells (e.map (Value.int .i64)).toArray T)) (.cells (m.map Value.bool).toArray U)
  have h := gap_any (some ⟨w.heap.size, 0, none⟩) n n (ints e) (some ⟨(w.alloc (.cells (e.map (Value.int .i64)).toArray T)).heap.size, 0, none⟩) k k (bools m) _ ((SF.ints w e T n hn).far hA2) (SF.bools (w.alloc (.cells (e.map (Value.int .i64)).toArray T)) m U k hk) (by omega)
  rw [hr, hz] at h
  exact h.mono fun _ _ ⟨h1, h2⟩ => ⟨h1, below_trans (below_trans hA hA2) h2⟩
theorem victim_made (w : World) (v e : List Int) (m : List Bool) (T T' U : TypeId) (n n' k : Nat) (hv : v.length = n) (hn : e.length = n') (hk : m.length = k) (r : Option Nat) (hr : fst (bools m) (lx (ints v) (ints e)) (mn (mn n n') k) = r) (h62 : n ≤ 65536) :
    Calls Try.prog 11 #[.slice (some ⟨w.heap.size, 0, none⟩) n n, .slice (some ⟨w.heap.size + 1, 0, none⟩) n' n', .slice (some ⟨w.heap.size + 2, 0, none⟩) k k] (((w.alloc (.cells (v.map (Value.int .i64)).toArray T)).alloc (.cells (e.map (Value.int .i64)).toArray T')).alloc (.cells (m.map Value.bool).toArray U)) (Ans w (.tuple #[.int .i64 ((r.getD 0 : Nat) : Int), .bool r.isSome])) := by
  have hA := below_alloc w (.cells (v.map (Value.int .i64)).toArray T)
  have f1 := SF.ints w v T n hv
  have z1 : (w.alloc (.cells (v.map (Value.int .i64)).toArray T)).heap.size = w.heap.size + 1 := World.size_alloc _ _
  generalize w.alloc (.cells (v.map (Value.int .i64)).toArray T) = w1 at *
  have hA2 := below_alloc w1 (.cells (e.map (Value.int .i64)).toArray T')
  have f2 := SF.ints w1 e T' n' hn
  have z2 : (w1.alloc (.cells (e.map (Value.int .i64)).toArray T')).heap.size = w.heap.size + 2 := by rw [World.size_alloc, z1]
  rw [z1] at f2
  replace f1 := f1.far hA2
  generalize w1.alloc (.cells (e.map (Value.int .i64)).toArray T') = w2 at *
  have hA3 := below_alloc w2 (.cells (m.map Value.bool).toArray U)
  have f3 := SF.bools w2 m U k hk
  rw [z2] at f3
  have h := victim_any _ n n (ints v) _ n' n' (ints e) _ k k (bools m) _ (f1.far hA3) (f2.far hA3) f3 (by omega)
  rw [hr] at h
  exact h.mono fun _ _ ⟨h1, h2⟩ => ⟨h1, below_trans (below_trans (below_trans hA hA2) hA3) h2⟩
set_option maxHeartbeats 1000000 in
theorem awake_any (w : World) : Calls Try.prog 8 #[] w (Ans w (.bool true)) := by
  have h1 := Lib.hid (pick_made w [3, 1, 1] [true, true, true] 3 4 3 3 rfl rfl (some 1) (by decide) (by omega))
  have h2 := Lib.hid (fun w1 => gap_made w1 [3, 1] [true, true] 3 4 2 2 rfl rfl 2 (by decide +kernel) (by omega))
  go_enter Try.func8, Try.ntmps8
  go_wp2_with (first
    | (go_at_call 9; (refine h1.out.mono ?_); rintro e w1 ⟨rfl, hb1⟩; have hb1 := Lib.hid hb1; dsimp only)
    | (go_at_call 13; (refine (h2.out _).mono ?_); rintro e w2 ⟨rfl, hb2⟩; have hb2 := Lib.hid (below_trans hb1.out hb2)))
  go_ret
  exact ⟨rfl, hb2.out⟩
end Go.Proofs.Ytoldfgnnmfaihaa.We
