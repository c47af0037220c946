/- A row of fates of one's own is sorted by their operations. · Fates in order and as they were handed in (plain). · What befalls: what the program's fates answer, said of triples; the awake of chapter 9. -/
import Derived.Test.YtjhoecfhmndcgaaGreatV38
import Derived.Test.YtjhoecfhmndcgaaGreatV39
import Derived.Laws.ResultCell
import Derived.Laws.Rows
namespace Go.Proofs.YtjhoecfhmndcgaaGreat.Ft
open Go.RowKit Go.Deep
set_option linter.unusedVariables false
set_option linter.unusedSimpArgs false

def enc3 (x : Int × Int × Int) : List Value := [.int .i64 x.1, .int .i64 x.2.1, .int .i64 x.2.2]
theorem tAt_arr (ts : List (Int × Int × Int)) (i : Nat) (hi : i < ts.length) : ts.toArray[i]! = tAt ts i := by
  unfold tAt
  rw [getElem!_pos ts.toArray i (by simpa using hi)]
  simp [List.getD, List.getElem?_eq_getElem hi]
theorem flatK3 (ts : List (Int × Int × Int)) : Sort.flatK enc3 3 ts.toArray = (flat3 ts).toArray := by
  refine Sort.ext_get! (by simp [flat3_len]) fun t ht => ?_
  have ht' : t < ts.length * 3 := by simpa using ht
  rw [Sort.get_flatK _ _ _ t (by simpa using ht'), tAt_arr ts _ (by omega)]
  obtain ⟨f0, f1, f2⟩ := flat3_at ts (t / 3) (by omega)
  have key : ∀ u, (flat3 ts)[t]? = some u → (flat3 ts).toArray[t]! = u := fun u hu => by
    have hb : t < (flat3 ts).length := by rw [flat3_len]; exact ht'
    rw [List.getElem?_eq_getElem hb] at hu
    injection hu with hu
    rw [getElem!_pos (flat3 ts).toArray t (by simpa using hb)]
    simpa using hu
  rcases (by omega : t = t / 3 * 3 ∨ t = t / 3 * 3 + 1 ∨ t = t / 3 * 3 + 2) with e | e | e
  · rw [show t % 3 = 0 by omega, key _ (by rw [← f0, ← e])]; rfl
  · rw [show t % 3 = 1 by omega, key _ (by rw [← f1, ← e])]; rfl
  · rw [show t % 3 = 2 by omega, key _ (by rw [← f2, ← e])]; rfl
theorem heap_sorted3 {w : World} {g n : Nat} {os : Array Obj} {cur : Array Value} {e : TypeId} {fr : Nat × Nat} (d : Array Value) (hb : w.heap[g]? = some (.cells cur e fr)) :
    (Sort.grow (Sort.putRow id (Sort.ahead w n) g 0 d) os).heap[g]? = some (.cells (Sort.putCells id 0 d cur) e fr) := by
  have hg : g < w.heap.size := (Array.getElem?_eq_some_iff.1 hb).1
  rw [Sort.heap_grow_old _ _ (by simpa [Sort.putRow, Sort.mapBlock, Sort.ahead] using hg)]
  simp [Sort.putRow, Sort.mapBlock, Sort.ahead, Array.getElem?_modify, hb, Sort.onCells]
theorem below_sorted3 {w : World} {g n B : Nat} {os : Array Obj} (d : Array Value) (hg : B ≤ g) (hB : B ≤ w.heap.size) : Below B w (Sort.grow (Sort.putRow id (Sort.ahead w n) g 0 d) os) := by
  refine ⟨rfl, rfl, rfl, by simp [Sort.putRow, Sort.mapBlock, Sort.ahead], fun k hk => ?_⟩
  rw [Sort.heap_grow_old _ _ (by simp [Sort.putRow, Sort.mapBlock, Sort.ahead]; omega)]
  have : g ≠ k := by omega
  simp [Sort.putRow, Sort.mapBlock, Sort.ahead, Array.getElem?_modify, this]
theorem take_put3 (cur : Array Value) (vs : List Value) (h : vs.length ≤ cur.size) : (Sort.putCells id 0 vs.toArray cur).toList.take vs.length = vs := by
  apply List.ext_getElem?
  intro j
  by_cases hj : j < vs.length
  · rw [List.getElem?_take_of_lt hj, Array.getElem?_toList]
    simp [Sort.putCells, hj, show j < cur.size by omega]
  · rw [List.getElem?_take_eq_none (by omega), List.getElem?_eq_none (by omega)]
theorem swo3 : Sort.SWO (ltOf fun x y : Int × Int × Int => cmpI x.1 y.1) where
  irrefl x := by unfold ltOf; rw [decide_eq_false_iff_not, cmpI_lt]; omega
  trans x y z h1 h2 := by unfold ltOf at *; rw [decide_eq_true_eq, cmpI_lt] at *; omega
  ntrans x y z h1 h2 := by unfold ltOf at *; rw [decide_eq_false_iff_not, cmpI_lt] at *; omega
/-- in the order of their operations -/
def Rises (ts : List (Int × Int × Int)) : Prop := ∀ i j, i < j → j < ts.length → (tAt ts i).1 ≤ (tAt ts j).1
set_option maxHeartbeats 1000000 in
theorem sort_any {w0 w : World} {v : Value} {ts : List (Int × Int × Int)} (h : OwnT w0 w v ts) (hl : ts.length ≤ 1000000) (hB : w0.heap.size ≤ w.heap.size) :
    Calls Tryz.prog 52 #[v, .func (.func 53) #[] #[]] w fun e w' => e = .returned (.tuple #[]) ∧ ∃ ss : List (Int × Int × Int), ss.Perm ts ∧ Rises ss ∧ OwnT w0 w' v ss ∧ Below w0.heap.size w w' := by
  obtain ⟨_, h2⟩ := h
  rcases h2 with ⟨rfl, h0⟩ | ⟨g, cap, cur, rfl, hg, hh, hn, hcap, hcs, htk⟩
  · obtain rfl : ts = [] := List.eq_nil_of_length_eq_zero h0
    exact (sort_none w 53).mono fun e w' ⟨he, hw⟩ => ⟨he, [], List.Perm.refl _, fun i j _ h => absurd h (by simp), OwnT.nil _ _, by rw [hw]; exact Below.refl _ _⟩
  · have hlt : g < w.heap.size := (Array.getElem?_eq_some_iff.1 hh).1
    have hH : Sort.HoldsK enc3 3 w g 0 ts.toArray := by
      intro j hj
      rw [flatK3] at hj ⊢
      have hj' : j < (flat3 ts).length := by simpa using hj
      have hj3 : j < ts.length * 3 := by rwa [flat3_len] at hj'
      refine ⟨?_, by simp [World.frozen?, hh]⟩
      rw [Nat.zero_add, cell_of hh]
      have e2 : (cur.toList.take (ts.length * 3))[j]? = (flat3 ts)[j]? := by rw [htk]
      rw [List.getElem?_take, if_pos hj3, Array.getElem?_toList] at e2
      rw [e2, List.getElem?_eq_getElem hj', getElem!_pos (flat3 ts).toArray j (by simpa using hj')]
      simp
    have eg : ∀ args w, (callFunc 53 args).run Tryz.prog w = .ok (.enter 53 args) w := enters_of Tryz.func53 (by kernel_rfl) rfl
    have hcon := AnyQ.slices_SortFunc Tryz.sortF 3 Tryz.isAgg61 Tryz.sizeOf61 enc3 (fun _ => rfl) (fun x v hv => by simp [enc3] at hv; rcases hv with rfl | rfl | rfl <;> rfl) (fun x y => cmpI x.1 y.1) swo3 53 #[] g 0 cap ts.toArray w eg (fun _ _ _ _ x y => earlier_any x y _) hH hlt (by simp; omega)
    change Calls Tryz.prog 52 _ _ _ at hcon
    rw [show ts.toArray.size = ts.length by simp] at hcon
    refine hcon.mono ?_
    rintro e w' ⟨rfl, d', n, os, hp, hs, rfl⟩
    obtain ⟨ss, rfl⟩ : ∃ ss : List (Int × Int × Int), d' = ss.toArray := ⟨d'.toList, by simp⟩
    obtain ⟨hz, _, hpm⟩ := hp
    have hz : ss.length = ts.length := by simpa using hz
    have hperm : ss.Perm ts := by
      have e1 : (ss.toArray.extract 0 ts.length).toList = ss := by simp [← hz]
      have e2 : (ts.toArray.extract 0 ts.length).toList = ts := by simp
      rw [e1, e2] at hpm
      exact hpm
    refine ⟨rfl, ss, hperm, fun i j hij hj => ?_, ⟨flat3_len ss, Or.inr ⟨g, cap, _, ?_, hg, heap_sorted3 _ hh, by omega, hcap, by simp [Sort.putCells, hcs], ?_⟩⟩, below_sorted3 _ hg hB⟩
    · have := hs i j (Nat.zero_le _) hij (by omega)
      rw [tAt_arr ss i (by omega), tAt_arr ss j hj] at this
      unfold ltOf at this
      rw [decide_eq_false_iff_not, cmpI_lt] at this
      omega
    · rw [hz]
    · rw [flatK3, ← flat3_len ss]
      exact take_put3 cur (flat3 ss) (by rw [flat3_len, hcs]; omega)
end Go.Proofs.YtjhoecfhmndcgaaGreat.Ft
namespace Go.Proofs.YtjhoecfhmndcgaaGreat.Ft
set_option linter.unusedVariables false
set_option linter.unusedSimpArgs false

/-- the last of the first i that befalls operation n -/
def atF (ts : List (Int × Int × Int)) (n : Int) : Nat → Int × Int × Int
  | 0 => (0, 0, 0)
  | i + 1 => if (tAt ts i).1 = n then tAt ts i else atF ts n i
def isF (ts : List (Int × Int × Int)) (n : Int) : Nat → Bool
  | 0 => false
  | i + 1 => if (tAt ts i).1 = n then true else isF ts n i
theorem tAt_eq {ts : List (Int × Int × Int)} {i : Nat} (h : i < ts.length) : tAt ts i = ts[i] := by
  unfold tAt; simp [List.getD, List.getElem?_eq_getElem h]
theorem tAt_mem {ts : List (Int × Int × Int)} {i : Nat} (h : i < ts.length) : tAt ts i ∈ ts := by
  rw [tAt_eq h]; exact List.getElem_mem h
theorem mem_tAt {ts : List (Int × Int × Int)} {x : Int × Int × Int} (h : x ∈ ts) : ∃ i, i < ts.length ∧ tAt ts i = x := by
  obtain ⟨i, hi, rfl⟩ := List.getElem_of_mem h
  exact ⟨i, hi, tAt_eq hi⟩
theorem keys_nodup {ts : List (Int × Int × Int)} : (ts.map (·.1)).Nodup ↔ ∀ i k, k < i → i < ts.length → (tAt ts k).1 ≠ (tAt ts i).1 := by
  unfold List.Nodup
  rw [List.pairwise_iff_getElem]
  constructor
  · intro h i k hki hi
    have := h k i (by simp; omega) (by simpa using hi) hki
    rw [List.getElem_map, List.getElem_map] at this
    rw [tAt_eq hi, tAt_eq (by omega)]
    exact this
  · intro h k i hk hi hki
    have := h i k hki (by simpa using hi)
    rw [List.getElem_map, List.getElem_map]
    rw [tAt_eq (by simpa using hk), tAt_eq (by simpa using hi)] at this
    exact this
theorem mayF_iff {ts : List (Int × Int × Int)} : mayF ts = true ↔ ts.length ≤ 256 ∧ badT ts = false ∧ (ts.map (·.1)).Nodup := by
  rw [keys_nodup]
  constructor
  · intro h
    unfold mayF at h
    rw [Bool.and_eq_true] at h
    obtain ⟨h1, h2⟩ := h
    have h3 : ∀ i, i < ts.length → newT ts i = true := fun i hi => (List.all_eq_true.1 h2) i (List.mem_range.2 hi)
    refine ⟨of_decide_eq_true h1, bad_none fun k hk => ?_, fun i k hki hi => ?_⟩
    · have := h3 k hk
      unfold newT at this
      rw [Bool.and_eq_true] at this
      exact this.1
    · have := h3 i hi
      unfold newT at this
      rw [Bool.and_eq_true] at this
      exact of_decide_eq_true ((List.all_eq_true.1 this.2) k (List.mem_range.2 hki))
  · rintro ⟨h1, h2, h3⟩
    exact mayF_yes h1 fun i hi => newT_ok (ok_of_bad h2 hi) fun k hk => h3 i k hk hi
theorem mayF_sorted {ts ss : List (Int × Int × Int)} (hp : ss.Perm ts) (hr : Rises ss) (hl : ts.length ≤ 256) (hb : badT ts = false) : mayF ts = !twT ss := by
  have hk : (ss.map (·.1)).Nodup ↔ (ts.map (·.1)).Nodup := (hp.map _).nodup_iff
  cases e : twT ss
  · rw [Bool.not_false, mayF_iff, ← hk, keys_nodup]
    refine ⟨hl, hb, fun i k hki hi => ?_⟩
    have hne : ∀ j, j + 1 < ss.length → (tAt ss j).1 < (tAt ss (j + 1)).1 := fun j hj => by
      have h1 := hr j (j + 1) (by omega) hj
      rcases Int.lt_or_eq_of_le h1 with h2 | h2
      · exact h2
      · rw [tw_some hj h2.symm] at e; cases e
    have h1 := hne k (by omega)
    rcases (by omega : k + 1 = i ∨ k + 1 < i) with rfl | h2
    · omega
    · have := hr (k + 1) i h2 hi
      omega
  · rw [Bool.not_true, Bool.eq_false_iff]
    intro h
    have hn := hk.2 (mayF_iff.1 h).2.2
    rw [keys_nodup] at hn
    obtain ⟨j, hj, h2⟩ := List.any_eq_true.1 e
    have := List.mem_range.1 hj
    exact hn (j + 1) j (by omega) (by omega) (of_decide_eq_true h2).symm
theorem at_none {ts : List (Int × Int × Int)} {x : Int} (h : ∀ y ∈ ts, y.1 ≠ x) : ∀ i, i ≤ ts.length → atF ts x i = (0, 0, 0) ∧ isF ts x i = false
  | 0, _ => ⟨rfl, rfl⟩
  | i + 1, hi => by
    have := h _ (tAt_mem (i := i) hi)
    unfold atF isF
    rw [if_neg this, if_neg this]
    exact at_none h i (by omega)
theorem at_some {ts : List (Int × Int × Int)} {x : Int} {y : Int × Int × Int} (hm : mayF ts = true) (hy : y ∈ ts) (hx : y.1 = x) : atF ts x ts.length = y ∧ isF ts x ts.length = true := by
  obtain ⟨k, hk, rfl⟩ := mem_tAt hy
  have hn := keys_nodup.1 (mayF_iff.1 hm).2.2
  have key : ∀ i, i ≤ ts.length → k < i → atF ts x i = tAt ts k ∧ isF ts x i = true := by
    intro i
    induction i with
    | zero => intro _ h; omega
    | succ i ih =>
      intro hi hki
      unfold atF isF
      by_cases e : i = k
      · subst e
        rw [if_pos hx, if_pos hx]
        exact ⟨rfl, rfl⟩
      · have : (tAt ts i).1 ≠ x := fun h => hn i k (by omega) (by omega) (by rw [hx, h])
        rw [if_neg this, if_neg this]
        exact ih (by omega) (by omega)
  exact key _ (Nat.le_refl _) hk
end Go.Proofs.YtjhoecfhmndcgaaGreat.Ft
namespace Go.Proofs.YtjhoecfhmndcgaaGreat.Ft
open Go.RowKit
set_option linter.unusedVariables false
set_option linter.unusedSimpArgs false

/-- THE FATES (the program's own way to keep them: sorted) -/
def Fts (w : World) (p : Addr) (ts : List (Int × Int × Int)) : Prop := ∃ g A c, ∃ ss : List (Int × Int × Int), p = ⟨g, 0, none⟩ ∧ g < w.heap.size ∧ w.cell? ⟨g, 0, none⟩ = some (.slice A ss.length c) ∧ S3 w w.heap.size A ss ∧ ss.length ≤ c ∧ ss.Perm ts ∧ Rises ss
section
variable {w w' : World} {p : Addr} {ts : List (Int × Int × Int)}
theorem Fts.below (h : Fts w p ts) (hb : Below w.heap.size w w') : Fts w' p ts := by
  obtain ⟨g, A, c, ss, rfl, h1, h2, h3, h4⟩ := h
  exact ⟨g, A, c, ss, rfl, Nat.lt_of_lt_of_le h1 hb.size, (hb.cell h1).trans h2, h3.far hb, h4⟩
theorem size30 : (Tryz.prog.info? 61).map (·.size) = some 3 := by kernel_rfl
theorem elem22 : Tryz.prog.elem 62 = 61 := by kernel_rfl
theorem add_zero' (a : Addr) : a.add 0 = a := by unfold Addr.add; rw [if_pos rfl]
theorem add_add' (a : Addr) (k m : Nat) : (a.add k).add m = a.add (k + m) := by
  by_cases hm : m = 0
  · subst hm; rw [add_zero', Nat.add_zero]
  · rw [add_more a k m hm]
    unfold Addr.add
    rw [if_neg hm]
/-- s[m:] -/
theorem slice_from (A : Option Addr) (n c m : Nat) (hm : m ≤ n) (w : World) : (Instr.slice 62 (.slice A n c) (some (.int .i64 (m : Int))) none none).run Tryz.prog w = .ok (sliced A m n c 3) w := by
  rw [run_slice_l (P := Tryz.prog) w 62 A n c (by rw [elem22]; exact Tryz.underlying62) .i64 (m : Int) (by omega) (by omega), elem22, Tryz.sizeOf61]
  simp only [Result.andThen_ok, Int.toNat_natCast]
theorem S3.drop {w : World} {B : Nat} {A : Option Addr} {ss : List (Int × Int × Int)} {n c : Nat} (h : S3 w B A ss) (hn : ss.length = n) (hc : n ≤ c) (m : Nat) (hm : m ≤ n) : ∃ A', sliced A m n c 3 = .slice A' (n - m) (c - m) ∧ S3 w B A' (ss.drop m) := by
  unfold sliced
  refine ⟨_, rfl, ?_⟩
  by_cases e : m = n
  · subst e
    left
    rw [← hn, List.drop_length]
  · rw [if_neg (by omega)]
    rcases h with e0 | ⟨a, rfl, hb, hcl⟩
    · rw [e0] at hn; simp at hn; omega
    · refine Or.inr ⟨_, rfl, by rw [add_block]; exact hb, fun i hi => ?_⟩
      have hi' : m + i < ss.length := by simp at hi; omega
      obtain ⟨c0, c1, c2⟩ := hcl (m + i) hi'
      have et : tAt (ss.drop m) i = tAt ss (m + i) := by
        unfold tAt; simp [List.getD, List.getElem?_drop]
      rw [et, add_add', add_add', add_add', show m * 3 + i * 3 = (m + i) * 3 by omega, show m * 3 + (i * 3 + 1) = (m + i) * 3 + 1 by omega, show m * 3 + (i * 3 + 2) = (m + i) * 3 + 2 by omega]
      exact ⟨c0, c1, c2⟩
set_option maxHeartbeats 1000000 in
/-- the fates from an operation on -/
theorem from_any (h : Fts w p ts) (hm : mayF ts = true) (x : Int) :
    Calls Tryz.prog 76 #[.pointer (some p), .int .i64 x] w fun e w' => ∃ (ss : List (Int × Int × Int)) (A : Option Addr) (c m k : Nat), e = .returned (.slice A k c) ∧ ss.length - m = k ∧ Below w.heap.size w w' ∧ S3 w' w'.heap.size A (ss.drop m) ∧ m ≤ ss.length ∧ ss.Perm ts ∧ Rises ss ∧ (∀ t, t < m → (tAt ss t).1 < x) ∧ (∀ t, m ≤ t → t < ss.length → x ≤ (tAt ss t).1) := by
  obtain ⟨g, A, c, ss, rfl, hg, hcell, hS, hnc, hp, hr⟩ := h
  have hl : ss.length ≤ 1000000 := by rw [hp.length_eq]; have := (mayF_iff.1 hm).1; omega
  obtain ⟨n, hn⟩ : ∃ n, ss.length = n := ⟨_, rfl⟩
  unfold Rises at hr
  rw [hn] at hcell hnc hl hr
  have hc := Lib.hid (search_any A c n ss x w hS hn hl hr)
  replace hS := Lib.hid hS
  replace hn := Lib.hid hn
  replace hr := Lib.hid hr
  replace hp := Lib.hid hp
  go_enter Tryz.func76, Tryz.ntmps76
  go_wp2_with (go_at_call 106; (with_reducible refine hc.out.mono ?_))
  rintro e w1 ⟨m, b, rfl, hmn, h1, h2, hb⟩
  have hcell1 := (hb.cell (p := ⟨g, 0, none⟩) hg).trans hcell
  have hsl := slice_from A n c m hmn w1
  obtain ⟨A', hA', hS'⟩ := (hS.out.far hb).drop hn.out hnc m hmn
  rw [hA'] at hsl
  have hmI : (m : Int) ≤ (n : Int) := by omega
  have hS2 := Lib.hid hS'
  have hb2 := Lib.hid hb
  have h12 := Lib.hid h1
  have h22 := Lib.hid h2
  clear hb hcell h1 h2 hS hc hS' hA'
  go_wp2_with fail
  go_ret
  exact ⟨ss, A', _, m, _, rfl, by rw [hn.out], hb2.out, hS2.out, by rw [hn.out]; exact hmn, hp.out, (by unfold Rises; rw [hn.out]; exact hr.out), h12.out, by rw [hn.out]; exact h22.out⟩
theorem heap3 {w1 : World} {g : Nat} {T : TypeId} {fr : Nat × Nat} {a b c : Value} (h : w1.heap[g]? = some (.cells #[a, b, c] T fr)) (x y z : Value) :
    (((w1.setCell ⟨g, 0, none⟩ x).setCell ⟨g, 1, none⟩ y).setCell ⟨g, 2, none⟩ z).heap[g]? = some (.cells #[x, y, z] T fr) := by
  simp [Sort.setCell_eq, Sort.mapBlock, Array.getElem?_modify, h, Sort.onCells]
theorem below3 {w1 : World} {g : Nat} (x y z : Value) : Below g w1 (((w1.setCell ⟨g, 0, none⟩ x).setCell ⟨g, 1, none⟩ y).setCell ⟨g, 2, none⟩ z) := by
  refine ⟨rfl, rfl, rfl, by simp [Sort.setCell_eq, Sort.mapBlock], fun k hk => ?_⟩
  have : g ≠ k := by omega
  simp [Sort.setCell_eq, Sort.mapBlock, Array.getElem?_modify, this]
theorem ret_fate {W : World} {g : Nat} {T : TypeId} {fr : Nat × Nat} {x y z v : Value} (h : W.heap[g]? = some (.cells #[x, y, z] T fr)) (tmps : Array Value) (h4 : tmps.getD 4 undef = .pointer (some ⟨g, 0, none⟩)) (h5 : tmps.getD 5 undef = v) :
    (results Tryz.f58 tmps).run Tryz.prog W = .ok (.tuple #[.agg #[x, y, z], v]) W := by
  rw [results_cell_tmp (fn := Tryz.f58) (p := 4) (u := 5) (ty := 61) rfl, h4, h5]
  simp [asAddr, run_loadVar_row W g T 61 _ fr _ h Tryz.underlying61 rfl size30]
set_option maxHeartbeats 1000000 in
theorem c_at (h : Fts w p ts) (hm : mayF ts = true) (n : Int) {x : Int × Int × Int} (hx : atF ts n ts.length = x) {b : Bool} (hb : isF ts n ts.length = b) :
    Calls Tryz.prog 58 #[.pointer (some p), .int .i64 n] w (Ans w (.tuple #[.agg #[.int .i64 x.1, .int .i64 x.2.1, .int .i64 x.2.2], .bool b])) := by
  have hA := below_alloc w (.cells #[.int .i64 0, .int .i64 0, .int .i64 0] 61)
  have hc := Lib.hid (from_any (h.below hA) hm n)
  replace hA := Lib.hid hA
  replace hm := Lib.hid hm
  replace hx := Lib.hid hx
  replace hb := Lib.hid hb
  clear h
  go_enter Tryz.func58, Tryz.ntmps58
  go_wp2_with (go_at_call 76; (with_reducible refine hc.out.mono ?_))
  clear hc
  rintro e w1 ⟨ss, A, c, m, k, rfl, hk, hB, hS, hms, hp, hr, h1, h2⟩
  have hB1 := hA.out.trans (hB.mono hA.out.size)
  have hgl : w.heap.size < (w.alloc (.cells #[.int .i64 0, .int .i64 0, .int .i64 0] 61)).heap.size := by rw [World.size_alloc]; omega
  have hb0 := (hB.block w.heap.size hgl).trans (heap_alloc_new w (.cells #[.int .i64 0, .int .i64 0, .int .i64 0] 61))
  have hbox : ∀ i, w1.cell? ⟨w.heap.size, i, none⟩ = (#[.int .i64 0, .int .i64 0, .int .i64 0] : Array Value)[i]? := cell_of hb0
  have hbf : ∀ i, w1.frozen? ⟨w.heap.size, i, none⟩ = false := fun i => by simp [World.frozen?, hb0]
  have b0 := hbox 0
  have b1 := hbox 1
  have b2 := hbox 2
  have f0 := hbf 0
  have f1 := hbf 1
  have f2 := hbf 2
  have hgl1 : w.heap.size < w1.heap.size := Nat.lt_of_lt_of_le hgl hB.size
  clear hbox hbf
  by_cases hk0 : k = 0
  · subst hk0
    have hno : ∀ y ∈ ts, y.1 ≠ n := fun y hy => by
      obtain ⟨t, ht, rfl⟩ := mem_tAt (hp.mem_iff.2 hy)
      have := h1 t (by omega)
      omega
    have h0 := at_none hno ts.length (Nat.le_refl _)
    rw [hx.out, hb.out] at h0
    obtain ⟨rfl, rfl⟩ := h0
    go_wp2_with fail
    exact bodyPost_ret (ret_fate (heap3 hb0 _ _ _) _ rfl rfl) rfl ⟨rfl, hB1.trans (below3 _ _ _)⟩
  · have hm1 : m < ss.length := by omega
    have h0 := h2 m (Nat.le_refl _) hm1
    obtain ⟨a, rfl, hab, c0, c1, c2⟩ := hS.at_ (i := 0) (by rw [List.length_drop]; omega)
    have et : tAt (ss.drop m) 0 = tAt ss m := by unfold tAt; simp [List.getD, List.getElem?_drop]
    rw [et] at c0 c1 c2
    rw [Nat.zero_mul, add_zero'] at c0 c1 c2
    obtain ⟨y, hy⟩ : ∃ y, tAt ss m = y := ⟨_, rfl⟩
    have hmem : y ∈ ts := hp.mem_iff.1 (by rw [← hy]; exact tAt_mem hm1)
    rw [hy] at c0 c1 c2 h0
    have hkI : ¬ (k : Int) = 0 := by omega
    have hkI1 : (0 : Int) < (k : Int) := by omega
    have hk1 : 0 < k := by omega
    have hke : ((k : Int) == 0) = false := by simpa using hkI
    have hke2 : (k == 0) = false := by simpa using hk0
    by_cases hyn : y.1 = n
    · have h3 := at_some hm.out hmem hyn
      rw [hx.out, hb.out] at h3
      obtain ⟨rfl, rfl⟩ := h3
      have e1 : (x.1 != n) = false := by simpa using hyn
      clear h1 h2 hyn h0 hr
      go_wp2_with fail
      exact bodyPost_ret (ret_fate (heap3 hb0 _ _ _) _ rfl rfl) rfl ⟨rfl, hB1.trans (below3 _ _ _)⟩
    · have hno : ∀ z ∈ ts, z.1 ≠ n := fun z hz e => by
        obtain ⟨t, ht, rfl⟩ := mem_tAt (hp.mem_iff.2 hz)
        rcases Nat.lt_or_ge t m with h | h
        · have := h1 t h; omega
        · rcases (by omega : t = m ∨ m < t) with rfl | h
          · rw [hy] at e; exact hyn e
          · have := hr m t h ht
            rw [hy] at this
            omega
      have h3 := at_none hno ts.length (Nat.le_refl _)
      rw [hx.out, hb.out] at h3
      obtain ⟨rfl, rfl⟩ := h3
      have e1 : (y.1 != n) = true := by simpa using hyn
      clear h1 h2 hyn h0 hr
      go_wp2_with fail
      exact bodyPost_ret (ret_fate (heap3 hb0 _ _ _) _ rfl rfl) rfl ⟨rfl, hB1.trans (below3 _ _ _)⟩

theorem S3.none_nil {w : World} {B : Nat} {ts : List (Int × Int × Int)} (h : S3 w B none ts) : ts = [] := by
  rcases h with e | ⟨a, e, _⟩
  · exact e
  · cases e
end
/-- a row made in the text -/
theorem S3.new (w : World) (cs : Array Value) (ts : List (Int × Int × Int)) (t : TypeId) (h : ∀ i, i < ts.length → cs[i * 3]? = some (.int .i64 (tAt ts i).1) ∧ cs[i * 3 + 1]? = some (.int .i64 (tAt ts i).2.1) ∧ cs[i * 3 + 2]? = some (.int .i64 (tAt ts i).2.2)) :
    S3 (w.alloc (.cells cs t)) (w.alloc (.cells cs t)).heap.size (some ⟨w.heap.size, 0, none⟩) ts := by
  refine Or.inr ⟨_, rfl, by rw [World.size_alloc]; show w.heap.size < _; omega, fun i hi => ?_⟩
  have e : ∀ k, (⟨w.heap.size, 0, none⟩ : Addr).add k = ⟨w.heap.size, k, none⟩ := fun k => by unfold Addr.add; split <;> simp_all
  obtain ⟨h0, h1, h2⟩ := h i hi
  rw [e, e, e, cell_new, cell_new, cell_new]
  exact ⟨h0, h1, h2⟩
end Go.Proofs.YtjhoecfhmndcgaaGreat.Ft
