/- Whether two rows of words are the same; rows made in the text; awake. -/
import Derived.Test.YtpanmjohmgjigaaVh
namespace Go.Proofs.Ytpanmjohmgjigaa
open Go.RowKit Go.Gf
attribute [local go_sem ↓] Cl.quiet_since

/-- an answer; old memory is as it was -/
def Tells (w : World) (v : Value) (e : Ending) (w' : World) : Prop := e = .returned v ∧ Below w.heap.size w w'
theorem drawn_below {w w' : World} (h : Drawn w w') : Below w.heap.size w w' := by
  obtain ⟨n, rfl⟩ := h
  exact ⟨rfl, rfl, rfl, Nat.le_refl _, fun _ _ => rfl⟩
theorem tell_same {A B : Option Addr} {ca cb : Nat} {xs ys : List Nat} {w : World} {b : Bool} (ha : Sl w w.heap.size A xs) (hb : Sl w w.heap.size B ys) (hla : xs.length ≤ 1000000) (hlb : ys.length ≤ 1000000) (h : decide (xs = ys) = b) :
    Calls Try.prog 13 #[.slice A xs.length ca, .slice B ys.length cb] w (Tells w (.bool b)) := (refsame_any A B ca cb xs ys w ha hb hla hlb).mono fun _ _ h' => by
  obtain ⟨he, hd⟩ := h'
  exact ⟨by rw [← h]; exact he, drawn_below hd⟩
theorem lists_eq {a b : List (List Nat)} (hl : a.length = b.length) (h : ∀ j (ha : j < a.length) (hb : j < b.length), a[j] = b[j]) : a = b :=
  List.ext_getElem hl fun j h1 h2 => h j h1 h2
set_option maxHeartbeats 4000000 in
theorem same_any (A B : Option Addr) (ca cb : Nat) (xs ys : List (List Nat)) (w : World) (ha : Sw w w.heap.size A xs) (hb : Sw w w.heap.size B ys) (hla : xs.length ≤ 1000000) (hlb : ys.length ≤ 1000000)
    (hxa : ∀ x ∈ xs, x.length ≤ 1000000) (hxb : ∀ x ∈ ys, x.length ≤ 1000000) :
    Calls Try.prog 14 #[.slice A xs.length ca, .slice B ys.length cb] w (Tells w (.bool (decide (xs = ys)))) := by
  have HA := Lib.hid ha
  have HB := Lib.hid hb
  have HXA := Lib.hid hxa
  have HXB := Lib.hid hxb
  clear ha hb hxa hxb
  by_cases hle : xs.length = ys.length
  · obtain ⟨n, hn⟩ : ∃ n, ys.length = n := ⟨_, rfl⟩
    have hxl : xs.length = n := by omega
    have d1 : ((n : Int) != (n : Int)) = false := by simp
    have d2 : (n != n) = false := by simp
    have hno : Hid (∀ k (h1 : k < xs.length) (h2 : k < ys.length), xs[k] ≠ ys[k] → decide (xs = ys) = false) := fun k h1 h2 hne => by
      rw [decide_eq_false_iff_not]
      intro e
      subst e
      exact hne rfl
    have hyes : Hid ((∀ k (h1 : k < xs.length) (h2 : k < ys.length), xs[k] = ys[k]) → decide (xs = ys) = true) := fun h => by
      rw [decide_eq_true_eq]
      exact lists_eq hle h
    generalize decide (xs = ys) = T at *
    have HNX := Lib.hid hxl
    have HNY := Lib.hid hn
    rw [hn, hxl]
    clear hle hn hxl
    go_enter Try.func14, Try.ntmps14
    go_wp2_with fail
    go_loopw [5] (fun q wr => ∃ k : Nat, k ≤ n ∧ q = .int .i64 k ∧ Hid (∀ j (h1 : j < xs.length) (h2 : j < ys.length), j < k → xs[j] = ys[j]) ∧ Below w.heap.size w wr) (fun q _ => n - (intOf q).toNat)
    case atStart => exact ⟨0, Nat.zero_le _, rfl, Lib.hid (fun j _ _ h => absurd h (by omega)), Below.refl _ _⟩
    case round =>
      obtain ⟨k, hk, rfl, HK, HW⟩ := hrel
      by_cases hlt : k < n
      · have hkI : (k : Int) < (n : Int) := by omega
        have hd : decide (k < n) = true := decide_eq_true hlt
        have hkx : k < xs.length := by rw [HNX.out]; exact hlt
        have hky : k < ys.length := by rw [HNY.out]; exact hlt
        obtain ⟨b, hb⟩ : ∃ b, decide (xs[k] = ys[k]) = b := ⟨_, rfl⟩
        obtain ⟨X, hX⟩ : ∃ X, Hid (xs[k].length = X) := ⟨_, Lib.hid rfl⟩
        obtain ⟨Y, hY⟩ : ∃ Y, Hid (ys[k].length = Y) := ⟨_, Lib.hid rfl⟩
        have hc : Hid (∀ {D E : Option Addr} {cd ce : Nat} {w1 : World}, Sl w1 w1.heap.size D xs[k] → Sl w1 w1.heap.size E ys[k] → Calls Try.prog 13 #[.slice D X cd, .slice E Y ce] w1 (Tells w1 (.bool b))) := fun {D E cd ce w1} h1 h2 => by
          have := tell_same (ca := cd) (cb := ce) h1 h2 (HXA.out _ (List.getElem_mem hkx)) (HXB.out _ (List.getElem_mem hky)) hb
          rwa [hX.out, hY.out] at this
        obtain ⟨a, D, cD, rfl, _⟩ := HA.out.at_ hkx
        obtain ⟨a', E, cE, rfl, _⟩ := HB.out.at_ hky
        obtain ⟨_, D, cD, e, hab, hc1, _, hs1⟩ := (HA.out.below HW).at_ hkx
        injection e with e
        subst e
        obtain ⟨_, E, cE, e, hab', hc2, _, hs2⟩ := (HB.out.below HW).at_ hky
        injection e with e
        subst e
        rw [hX.out] at hc1
        rw [hY.out] at hc2
        replace hb := Lib.hid hb
        replace HW := Lib.hid HW
        replace hc1 := Lib.hid hc1
        replace hc2 := Lib.hid hc2
        replace hs1 := Lib.hid hs1
        replace hs2 := Lib.hid hs2
        go_wp2_with fail
        refine Cl.region_way (fun _ => True) 10 [(0, .r), (1, .r), (2, .r), (3, .r), (4, .r), (5, .r), (6, .r), (7, .r), (8, .c), (9, .r)] (by kernel_rfl) (by kernel_rfl) ?_
        intro w1 hks
        have hbk := Cl.Keeps.below hks
        have hb1 := Lib.hid (HW.out.trans (hbk.mono HW.out.size))
        have hcA : ∀ y : Cl.Since (fun _ => True) w1, y.w.cell? (a.add k) = some (.slice D X cD) := fun y => by
          rw [(Cl.Keeps.below y.keeps).cell (by rw [add_block]; have := hb1.out.size; omega), hbk.cell (by rw [add_block]; have := HW.out.size; omega)]
          exact hc1.out
        have hcB : ∀ y : Cl.Since (fun _ => True) w1, y.w.cell? (a'.add k) = some (.slice E Y cE) := fun y => by
          rw [(Cl.Keeps.below y.keeps).cell (by rw [add_block]; have := hb1.out.size; omega), hbk.cell (by rw [add_block]; have := HW.out.size; omega)]
          exact hc2.out
        have hcc := Lib.hid (hc.out (cd := cD) (ce := cE) ((hs1.out.more HW.out.size).far hbk) ((hs2.out.more HW.out.size).far hbk))
        clear hks
        iterate 8 (refine Cl.way_r rfl ?_; go_big_quiet_step (fail); refine wpQuiet_nil ?_)
        clear hcA hcB
        refine Cl.way_c rfl ?_
        go_wp2_with (go_at_call 13; (with_reducible refine hcc.out.mono ?_); rintro e w2 ⟨rfl, hb2⟩)
        refine Cl.way_on (Cl.Keeps.of_below hb2) ?_
        have hb3 := Lib.hid (hb1.out.trans (hb2.mono hb1.out.size))
        clear hb2 hbk hcc hb1
        refine Cl.way_r rfl ?_
        go_big_quiet_step (fail)
        refine wpQuiet_nil ?_
        refine Cl.way_end ?_
        cases b
        · have hT := Lib.hid (hno.out k hkx hky (by have := hb.out; rwa [decide_eq_false_iff_not] at this))
          go_wp2_with fail
          go_ret
          rw [hT.out]
          exact ⟨rfl, hb3.out⟩
        · have HK' : Hid (∀ j (h1 : j < xs.length) (h2 : j < ys.length), j < k + 1 → xs[j] = ys[j]) := fun j h1 h2 hj => by
            rcases Nat.lt_or_ge j k with h | h
            · exact HK.out j h1 h2 h
            · obtain rfl : j = k := by omega
              have := hb.out
              rwa [decide_eq_true_eq] at this
          clear HK
          go_wp2_with fail
          go_roundw
          case rel => exact ⟨k + 1, by omega, by go_num, HK', hb3.out⟩
          case measure => simp [intOf]; omega
      · obtain rfl : k = n := by omega
        have hd : decide (k < k) = false := decide_eq_false (Nat.lt_irrefl _)
        have hT := Lib.hid (hyes.out fun j h1 h2 => HK.out j h1 h2 (by rw [← HNX.out]; exact h1))
        replace HW := Lib.hid HW
        go_wp2_with fail
        go_ret
        rw [hT.out]
        exact ⟨rfl, HW.out⟩
  · have hT : Hid (decide (xs = ys) = false) := by
      unfold Hid
      rw [decide_eq_false_iff_not]
      intro e
      subst e
      exact hle rfl
    rw [hT.out]
    have d1 : ((xs.length : Int) != (ys.length : Int)) = true := by simp; omega
    have d2 : (xs.length != ys.length) = true := by simp [hle]
    clear hle
    go_enter Try.func14, Try.ntmps14
    go_wp2_with fail
    go_ret
    exact ⟨rfl, Below.refl _ _⟩
/-- rows made in the text -/
theorem sw_new (w : World) (o : Obj) (g : Nat) (vs : List (Option Addr × Nat × List Nat)) (hg : w.heap.size = g) (ho : o = .cells (vs.map fun v => Value.slice v.1 v.2.2.length v.2.1).toArray 23)
    (h : ∀ v ∈ vs, v.2.2.length ≤ v.2.1 ∧ Sl w w.heap.size v.1 v.2.2) : Sw (w.alloc o) (w.alloc o).heap.size (some ⟨g, 0, none⟩) (vs.map (·.2.2)) := by
  subst hg ho
  have hn := heap_alloc_new w (.cells (vs.map fun v => Value.slice v.1 v.2.2.length v.2.1).toArray 23)
  refine Or.inr ⟨_, rfl, by rw [World.size_alloc]; exact Nat.lt_succ_self _, fun i hi => ?_⟩
  rw [List.length_map] at hi
  have e : (⟨w.heap.size, 0, none⟩ : Addr).add i = ⟨w.heap.size, i, none⟩ := by unfold Addr.add; split <;> simp_all
  obtain ⟨h1, h2⟩ := h _ (List.getElem_mem hi)
  refine ⟨vs[i].1, vs[i].2.1, ?_, by rw [List.getElem_map]; exact h1, by rw [List.getElem_map]; exact h2.far (below_alloc _ _)⟩
  rw [e, cell_of_row _ _ i _ 23 (0, 0) hn]
  simp [hi]
end Go.Proofs.Ytpanmjohmgjigaa
