/- Slices of slices of 16-bit numbers: how they are read as lists of lists, opened among the arguments, and read again behind a call that leaves old memory alone. · The program's package weave: may, place, unlike, Burst. · The program's Out. · The program's In. -/
import Derived.Test.YtmchelbmeajcnaaSi
import Derived.Test.YtmchelbmeajcnaaAg
import Derived.Test.YtmchelbmeajcnaaSq
import Derived.Test.YtmchelbmeajcnaaWy
import Derived.Deep.Slices
namespace Go.Proofs.Ytmchelbmeajcnaa
open Go.ChangeShapes Go.WideShapes Go.ChangeAt Go.RowKit Go.Deep

/-- the slice with address A holds the rows ws, all in blocks below B -/
def Sw (w : World) (B : Nat) (A : Option Addr) (ws : List (List Nat)) : Prop :=
  ws = [] ∨ ∃ a, A = some a ∧ a.block < B ∧ ∀ i (h : i < ws.length), ∃ D c, w.cell? (a.add i) = some (.slice D ws[i].length c) ∧ ws[i].length ≤ c ∧ Sl w B D ws[i]
theorem Sw.nil (w : World) (B : Nat) (A : Option Addr) : Sw w B A [] := Or.inl rfl
theorem Sw.keep {w w' : World} {B : Nat} {A : Option Addr} {ws : List (List Nat)} (h : Sw w B A ws) (hk : ∀ p : Addr, p.block < B → w'.cell? p = w.cell? p) : Sw w' B A ws := by
  rcases h with e | ⟨a, e, h1, h2⟩
  · exact Or.inl e
  · refine Or.inr ⟨a, e, h1, fun i hi => ?_⟩
    obtain ⟨D, c, g1, g2, g3⟩ := h2 i hi
    exact ⟨D, c, (hk _ (by rw [add_block]; exact h1)).trans g1, g2, g3.keep hk⟩
theorem Sw.more {w : World} {B B' : Nat} {A : Option Addr} {ws : List (List Nat)} (h : Sw w B A ws) (hB : B ≤ B') : Sw w B' A ws := by
  rcases h with e | ⟨a, e, h1, h2⟩
  · exact Or.inl e
  · refine Or.inr ⟨a, e, by omega, fun i hi => ?_⟩
    obtain ⟨D, c, g1, g2, g3⟩ := h2 i hi
    exact ⟨D, c, g1, g2, g3.more hB⟩
theorem Sw.below {w w' : World} {B : Nat} {A : Option Addr} {ws : List (List Nat)} (h : Sw w B A ws) (hb : Below B w w') : Sw w' B A ws := h.keep fun _ hp => hb.cell hp
theorem Sw.far {w w' : World} {A : Option Addr} {ws : List (List Nat)} (h : Sw w w.heap.size A ws) (hb : Below w.heap.size w w') : Sw w' w'.heap.size A ws := (h.below hb).more hb.size
theorem Sw.drawn {w wr : World} {B : Nat} {A : Option Addr} {ws : List (List Nat)} (h : Sw w B A ws) (hd : Drawn w wr) : Sw wr B A ws := by
  obtain ⟨n, rfl⟩ := hd; exact h
theorem Sw.at_ {w : World} {B : Nat} {A : Option Addr} {ws : List (List Nat)} {i : Nat} (h : Sw w B A ws) (hi : i < ws.length) :
    ∃ a D c, A = some a ∧ a.block < B ∧ w.cell? (a.add i) = some (.slice D ws[i].length c) ∧ ws[i].length ≤ c ∧ Sl w B D ws[i] := by
  rcases h with e | ⟨a, e, h1, h2⟩
  · rw [e] at hi; exact absurd hi (by simp)
  · obtain ⟨D, c, g⟩ := h2 i hi
    exact ⟨a, D, c, e, h1, g⟩
section
variable {H : Type} {enc : TypeId × Value → H} {P : Program} {W : World}
theorem open_slc {t e : TypeId} {c : Value} {fuel : Nat} {d : DataW H} {p : List MemPlace} (ht : P.underlying t = some (.slice e)) (he : P.underlying e = some (.int .u16)) (hc : P.cellsOf e = 1)
    (hf : DataW.trod enc P W 0 (fun _ => true) true fuel t [c] = some (d, p)) :
    ∃ (A : Option Addr) (xs : List Nat) (n : Nat), c = .slice A xs.length n ∧ xs.length ≤ n ∧ n ≤ maxLen ∧ Sl W W.heap.size A xs ∧
      ∀ (W' : World), Below W.heap.size W W' → ∀ sp : Nat → Bool, (∀ q ∈ p, sp q.block = true) → ∃ m, DataW.trod enc P W' 0 sp true m t [c] = some (d, p) := by
  rcases open_ints ht he hc hf with ⟨h1, h2⟩ | ⟨a, len', cap', zs, h1, hb, hl, hm, hz, hx, hcell, hw⟩
  · simp at h1
    subst h1
    simp only [Prod.mk.injEq] at h2
    obtain ⟨rfl, rfl⟩ := h2
    exact ⟨none, [], 0, rfl, Nat.le_refl _, Nat.zero_le _, Sl.nil _ _ _, fun W' _ sp _ => (shut_slice_nil ht : DataW.Trod enc P W' 0 sp true t (.slice none 0 0) .nil [])⟩
  · simp at h1
    subst h1
    simp only [Prod.mk.injEq] at hx
    obtain ⟨rfl, rfl⟩ := hx
    simp only [if_true] at hz
    have hlen : ((zs.take len').map Int.toNat).length = len' := by simp; omega
    have hrange : ∀ i, i < zs.length → 0 ≤ zs.getD i 0 ∧ zs.getD i 0 < 65536 := fun i hi => by
      have : zs.getD i 0 = zs[i] := by simp [List.getD, hi]
      rw [this]; exact u16_range (hw _ (List.getElem_mem hi))
    have hlt : 0 < zs.length → a.block < W.heap.size := fun hp => by
      have e := hcell 0 hp
      rcases Nat.lt_or_ge a.block W.heap.size with h | h
      · exact h
      · have e2 : (a.add 0).block = a.block := add_block a 0
        unfold World.cell? at e
        rw [Array.getElem?_eq_none (by rw [e2]; exact h)] at e
        cases e
    refine ⟨some a, (zs.take len').map Int.toNat, cap', by rw [hlen], by rw [hlen]; exact hl, hm, ⟨?_, ?_⟩, ?_⟩
    · intro x hx
      obtain ⟨n, hn, rfl⟩ := List.mem_map.1 hx
      have := u16_range (hw n (List.mem_of_mem_take hn))
      omega
    · by_cases h0 : len' = 0
      · left; subst h0; simp
      · right
        refine ⟨a, rfl, hlt (by omega), fun i hi => ?_⟩
        rw [hlen] at hi
        have hiz : i < zs.length := by omega
        rw [hcell i hiz]
        have hr := hrange i hiz
        have e1 : zs.getD i 0 = zs[i] := by simp [List.getD, hiz]
        rw [e1] at hr ⊢
        simp only [uv, List.getElem_map, List.getElem_take]
        rw [Int.toNat_of_nonneg hr.1]
    · intro W' hB sp hsp
      refine ⟨0 + 2, ?_⟩
      have hz' : zs.length = (if sp a.block then cap' else len') := by
        by_cases hp : 0 < zs.length
        · have : sp a.block = true := hsp (.cell a.block (a.off + 0)) (List.mem_map.2 ⟨0, List.mem_range.2 hp, rfl⟩)
          rw [if_pos this]; exact hz
        · split <;> omega
      exact shut_ints 0 ht he hc hb hl hm hz' (fun i hi => by rw [hB.cell (by rw [add_block]; exact hlt (by omega))]; exact hcell i hi) hw
theorem open_slw {r : Reach} {b0 : Nat} {t e k : TypeId} {v : Value} {d : DataW H} {p : List MemPlace} (ht : P.underlying t = some (.slice e)) (he : P.underlying e = some (.slice k)) (hk : P.underlying k = some (.int .u16)) (hce : P.cellsOf e = 1) (hck : P.cellsOf k = 1)
    (hv : Value.okWide P W r b0 t v) (h : DataW.Trod enc P W 0 (fun _ => true) true t v d p) :
    ∃ (A : Option Addr) (ws : List (List Nat)) (c : Nat), v = .slice A ws.length c ∧ ws.length ≤ c ∧ c ≤ maxLen ∧ Sw W W.heap.size A ws ∧ (∀ x ∈ ws, x.length ≤ maxLen) ∧
      ∀ (W' : World), Below W.heap.size W W' → ∀ sp : Nat → Bool, (∀ q ∈ p, sp q.block = true) → DataW.Trod enc P W' 0 sp true t v d p := by
  obtain ⟨A, len, cap, rfl⟩ := okWide_slice ht hv
  obtain ⟨fuel, hf⟩ := h
  rcases open_slice ht hf with ⟨h1, h2⟩ | ⟨a, len', cap', m, n, D, Pl, h1, hb, hl, hm, hmm, hx, hel⟩
  · simp [Value.cells] at h1
    obtain ⟨rfl, rfl, rfl⟩ := h1
    simp only [Prod.mk.injEq] at h2
    obtain ⟨rfl, rfl⟩ := h2
    exact ⟨none, [], 0, rfl, Nat.le_refl _, Nat.zero_le _, Sw.nil _ _ _, by simp, fun W' _ sp _ => shut_slice_nil ht⟩
  · simp [Value.cells] at h1
    obtain ⟨rfl, rfl, rfl⟩ := h1
    simp only [if_true] at hmm
    subst hmm
    simp only [Prod.mk.injEq] at hx
    obtain ⟨rfl, rfl⟩ := hx
    rw [hce] at hel
    have each : ∀ i, i < m → ∃ q : Option Addr × List Nat × Nat, W.cell? (a.add i) = some (.slice q.1 q.2.1.length q.2.2) ∧ q.2.1.length ≤ q.2.2 ∧ q.2.2 ≤ maxLen ∧ Sl W W.heap.size q.1 q.2.1 ∧
        ∀ (W' : World), Below W.heap.size W W' → ∀ sp : Nat → Bool, (∀ z ∈ Pl i, sp z.block = true) → ∃ m, DataW.trod enc P W' 0 sp true m e [.slice q.1 q.2.1.length q.2.2] = some (D i, Pl i) := by
      intro i hi
      obtain ⟨cs', g1, g2⟩ := hel i hi
      rw [Nat.mul_one] at g1
      obtain ⟨_, hlen, _⟩ := World.cells?_some g1
      match cs', hlen with
      | [c0], _ =>
        obtain ⟨A0, xs, n0, rfl, k1, k2, k3, k4⟩ := open_slc he hk hck g2
        exact ⟨(A0, xs, n0), cell_of_cells?_one g1, k1, k2, k3, k4⟩
    obtain ⟨q, hq⟩ := choose_lt each
    have hlt : 0 < m → a.block < W.heap.size := fun hp => by
      have := World.block_lt_of_cell? W _ (hq 0 hp).1
      rwa [add_block] at this
    have hlen : ((List.range len).map fun i => (q i).2.1).length = len := by simp
    refine ⟨some a, (List.range len).map fun i => (q i).2.1, m, by rw [hlen], by rw [hlen]; exact hl, hm, ?_, ?_, ?_⟩
    · by_cases h0 : len = 0
      · left; subst h0; rfl
      · right
        refine ⟨a, rfl, hlt (by omega), fun i hi => ?_⟩
        rw [hlen] at hi
        obtain ⟨g1, g2, g3, g4, _⟩ := hq i (by omega)
        simp only [List.getElem_map, List.getElem_range]
        exact ⟨_, _, g1, g2, g4⟩
    · intro x hx
      obtain ⟨i, hi, rfl⟩ := List.mem_map.1 hx
      have hi' := List.mem_range.1 hi
      obtain ⟨_, g2, g3, _⟩ := hq i (by omega)
      omega
    · intro W' hB sp hsp
      have hel' : ∀ i, i < m → ∃ cs n, W'.cells? 0 (a.add (i * P.cellsOf e)) (P.cellsOf e) = some cs ∧ DataW.trod enc P W' 0 sp true n e cs = some (D i, Pl i) := fun i hi => by
        obtain ⟨g1, _, _, _, g5⟩ := hq i hi
        have hbk : (a.add i).block < W.heap.size := by rw [add_block]; exact hlt (by omega)
        obtain ⟨mm, hmm⟩ := g5 W' hB sp (fun z hz => hsp z (List.mem_append_right _ (List.mem_flatMap.2 ⟨i, List.mem_range.2 hi, hz⟩)))
        refine ⟨_, mm, ?_, hmm⟩
        rw [hce, Nat.mul_one]
        exact cells?_one (Nat.zero_le _) ((hB.cell hbk).trans g1)
      by_cases hp : 0 < m
      · have hs : sp a.block = true := hsp (.cell a.block (a.off + 0)) (List.mem_append_left _ (List.mem_map.2 ⟨0, List.mem_range.2 (by rw [hce]; omega), rfl⟩))
        obtain ⟨nn, hn⟩ := shut_slice_whole_cells (enc := enc) (w := W') (base := 0) (spare := sp) (held := true) ht hb hl hm hs D Pl hel'
        exact ⟨nn, hn⟩
      · have hm0 : m = 0 := by omega
        subst hm0
        have hl0 : len = 0 := by omega
        subst hl0
        cases hs : sp a.block
        · obtain ⟨nn, hn⟩ := shut_slice_cells (enc := enc) (w := W') (base := 0) (spare := sp) (held := true) ht hb (Nat.le_refl 0) hm hs D Pl (fun i hi => absurd hi (Nat.not_lt_zero _))
          exact ⟨nn, hn⟩
        · obtain ⟨nn, hn⟩ := shut_slice_whole_cells (enc := enc) (w := W') (base := 0) (spare := sp) (held := true) ht hb (Nat.le_refl 0) hm hs D Pl hel'
          exact ⟨nn, hn⟩
end
end Go.Proofs.Ytmchelbmeajcnaa
namespace Go.Proofs.Ytmchelbmeajcnaa
open Go.RowKit Go.Gf

def mayB (W : Int) : Bool := decide (1 ≤ W) && decide (W ≤ 4)
theorem may_any (W : Int) (w : World) : Calls Try.prog 78 #[.int .i64 W] w fun e w' => e = .returned (.bool (mayB W)) ∧ w = w' := by
  obtain ⟨b1, h1⟩ : ∃ b, decide (1 ≤ W) = b := ⟨_, rfl⟩
  obtain ⟨b2, h2⟩ : ∃ b, decide (W ≤ 4) = b := ⟨_, rfl⟩
  have hm : Hid (mayB W = (b1 && b2)) := by unfold Hid mayB; rw [h1, h2]
  generalize mayB W = M at hm
  cases b1
  · go_enter Try.func78, Try.ntmps78
    go_wp2_with fail
    go_ret
    rw [hm.out]
    exact ⟨rfl, rfl⟩
  · go_enter Try.func78, Try.ntmps78
    go_wp2_with fail
    go_ret
    rw [hm.out]
    exact ⟨rfl, rfl⟩
theorem place_any (W i : Nat) (hW : 0 < W) (hi : i ≤ 1000000) (w : World) : Calls Try.prog 79 #[.int .i64 (W : Int), .int .i64 (i : Int)] w fun e w' => e = .returned (.tuple #[.int .i64 ((i % W : Nat) : Int), .int .i64 ((i / W : Nat) : Int)]) ∧ Drawn w w' := by
  have h0 : (W : Int) ≠ 0 := by omega
  have h1 : wrap64 ((i : Int) / (W : Int)) = ((i / W : Nat) : Int) := by
    rw [← Int.natCast_ediv]
    have : i / W ≤ i := Nat.div_le_self _ _
    generalize i / W = q at this
    exact IntWalk.wrap64_in _ (by omega)
  go_enter Try.func79, Try.ntmps79
  go_wp2
  go_quiet (fail)
  go_wp2
  go_ret2
  refine ⟨?_, _, rfl⟩
  show Ending.returned (.tuple #[.int .i64 ((i : Int) % (W : Int)), .int .i64 (wrap64 ((i : Int) / (W : Int)))]) = _
  rw [h1]
  rfl
/-- how long the first row is -/
def wvN (ws : List (List Nat)) : Nat := (ws.getD 0 []).length
/-- has one row another length than the first? -/
def unl (ws : List (List Nat)) : Bool := ws.any fun x => decide (x.length ≠ wvN ws)
theorem unl_true {ws : List (List Nat)} {k : Nat} (hk : k < ws.length) (h : ws[k].length ≠ wvN ws) : unl ws = true := by
  unfold unl
  exact List.any_eq_true.2 ⟨_, List.getElem_mem hk, by simpa using h⟩
theorem unl_false {ws : List (List Nat)} (h : ∀ k (hk : k < ws.length), ws[k].length = wvN ws) : unl ws = false := by
  unfold unl
  rw [List.any_eq_false]
  intro x hx
  obtain ⟨k, hk, rfl⟩ := List.getElem_of_mem hx
  have := h k hk
  simpa using this
theorem wvN_get {ws : List (List Nat)} (h : 0 < ws.length) : ws[0].length = wvN ws := by simp [wvN, h]
set_option maxHeartbeats 2000000 in
theorem unlike_any (A : Option Addr) (c : Nat) (ws : List (List Nat)) (w : World) (h : Sw w w.heap.size A ws) (hl : ws.length ≤ 1000000) : Calls Try.prog 84 #[.slice A ws.length c] w fun e w' => e = .returned (.bool (unl ws)) ∧ w = w' := by
  have H := Lib.hid h
  have h1 : Hid (∀ k (hk : k < ws.length), ws[k].length ≠ wvN ws → unl ws = true) := fun k hk h => unl_true hk h
  have h2 : Hid ((∀ k (hk : k < ws.length), ws[k].length = wvN ws) → unl ws = false) := fun h => unl_false h
  clear h
  generalize unl ws = U at *
  go_enter Try.func84, Try.ntmps84
  go_wp2
  go_loop [7] (fun n => ∃ k : Nat, k ≤ ws.length ∧ Hid (∀ j (h : j < ws.length), j < k → ws[j].length = wvN ws) ∧ n = .int .i64 k) (fun n => ws.length - (intOf n).toNat)
  case atStart => exact ⟨0, Nat.zero_le _, Lib.hid (fun j _ h => absurd h (by omega)), rfl⟩
  case round =>
    obtain ⟨k, hk, HK, rfl⟩ := hrel
    by_cases hlt : k < ws.length
    · have h0 : 0 < ws.length := by omega
      have hkI : (k : Int) < (ws.length : Int) := by omega
      have hd : decide (k < ws.length) = true := decide_eq_true hlt
      obtain ⟨a, D, cD, rfl, hab, hc1, hn1, hs1⟩ := H.out.at_ hlt
      obtain ⟨a', E, cE, e, _, hc2, hn2, hs2⟩ := H.out.at_ h0
      injection e with e
      subst e
      rw [wvN_get h0, add_zero'] at hc2
      by_cases hu : ws[k].length = wvN ws
      · have HK' : Hid (∀ j (h : j < ws.length), j < k + 1 → ws[j].length = wvN ws) := fun j hj hjk => by
          rcases Nat.lt_or_ge j k with h1 | h1
          · exact HK.out j hj h1
          · obtain rfl : j = k := by omega
            exact hu
        have hne : ((ws[k].length : Int) != (wvN ws : Int)) = false := by simp [hu]
        have hne2 : (ws[k].length != wvN ws) = false := by simp [hu]
        obtain ⟨L, hL⟩ : ∃ L, Hid (ws[k].length = L) := ⟨_, Lib.hid rfl⟩
        rw [hL.out] at hc1 hne hne2
        clear hu HK h1 h2 hs1 hs2 hn1 hn2
        go_wp2_with fail
        go_round
        case rel => exact ⟨k + 1, by omega, HK', by go_num⟩
        case measure => simp [intOf]; omega
      · have hU := Lib.hid (h1.out k hlt hu)
        have hne : ((ws[k].length : Int) != (wvN ws : Int)) = true := by simp; omega
        have hne2 : (ws[k].length != wvN ws) = true := by simp [hu]
        obtain ⟨L, hL⟩ : ∃ L, Hid (ws[k].length = L) := ⟨_, Lib.hid rfl⟩
        rw [hL.out] at hc1 hne hne2
        clear hu HK h1 h2 hs1 hs2 hn1 hn2
        go_wp2_with fail
        go_ret
        rw [hU.out]
        exact ⟨rfl, rfl⟩
    · obtain rfl : k = ws.length := by omega
      have hU := Lib.hid (h2.out (fun j hj => HK.out j hj hj))
      have hd : decide (ws.length < ws.length) = false := decide_eq_false (Nat.lt_irrefl _)
      clear h1 h2 HK
      go_wp2_with fail
      go_ret
      rw [hU.out]
      exact ⟨rfl, rfl⟩
/-- how often n in a row come to one of W, at most -/
def burst (W n : Nat) : Nat := (n + W - 1) / W
theorem burst_div {W n : Nat} (hW : 0 < W) : burst W n = n / W + if n % W = 0 then 0 else 1 := by
  unfold burst
  have h := Nat.div_add_mod n W
  have hm := Nat.mod_lt n hW
  generalize n / W = q at *
  generalize n % W = r at *
  split
  · rw [show n + W - 1 = (W - 1) + W * q by omega, Nat.add_mul_div_left _ _ hW, Nat.div_eq_of_lt (by omega)]
    omega
  · rw [show n + W - 1 = (r - 1) + W * (q + 1) by rw [Nat.mul_add]; omega, Nat.add_mul_div_left _ _ hW, Nat.div_eq_of_lt (by omega)]
    omega
def burstI (W f n : Int) : Int := if 1 ≤ W ∧ W ≤ 4 ∧ 0 ≤ f ∧ 0 ≤ n then ((burst W.toNat n.toNat : Nat) : Int) else 0
end Go.Proofs.Ytmchelbmeajcnaa
namespace Go.Proofs.Ytmchelbmeajcnaa
open Go.RowKit Go.Gf

/-- a row of one's own and an error's number -/
def RowV (w : World) (ys : List Nat) (n : Nat) (e : Ending) (w' : World) : Prop := ∃ v, e = .returned (.tuple #[v, .int .i64 (n : Int)]) ∧ OwnS w w' v ys ∧ Below w.heap.size w w'
theorem RowV.nil {w w' : World} {n : Nat} (hb : Below w.heap.size w w') : RowV w [] n (.returned (.tuple #[.slice none 0 0, .int .i64 (n : Int)])) w' := ⟨_, rfl, OwnS.nil _ _, hb⟩
theorem Own.owns {w wr : World} {g n : Nat} {f : Nat → Nat} (h : Own w wr g n f) (hf : ∀ j, j < n → f j < 65536) (hn : n ≤ 1000000) : OwnS w wr (.slice (some ⟨g, 0, none⟩) n n) (rm n f) := by
  refine ⟨⟨by simp, Or.inr ⟨g, n, ((rm n f).map uv).toArray, by rw [rm_len], h.1, h.2.2, by rw [rm_len]; exact Nat.le_refl _, by unfold maxLen; omega, by simp [rm_len], by simp [List.take_of_length_le]⟩⟩, rm_mem hf⟩
/-- the symbol at place i of W woven words -/
def wvF (ws : List (List Nat)) (W i : Nat) : Nat := at_ (ws.getD (i % W) []) (i / W)
def wvOf (ws : List (List Nat)) : List Nat := rm (ws.length * wvN ws) (wvF ws ws.length)
def outE (W : Int) (ws : List (List Nat)) : Nat := if mayB W = false ∨ (ws.length : Int) ≠ W then 1 else if unl ws = true ∨ wvN ws = 0 then 3 else 0
def outW (W : Int) (ws : List (List Nat)) : List Nat := if outE W ws = 0 then wvOf ws else []
theorem outE_arg {W : Int} {ws : List (List Nat)} (h : mayB W = false ∨ (ws.length : Int) ≠ W) : outE W ws = 1 := by unfold outE; rw [if_pos h]
theorem outE_size {W : Int} {ws : List (List Nat)} (h : mayB W = true) (h2 : (ws.length : Int) = W) (h3 : unl ws = true ∨ wvN ws = 0) : outE W ws = 3 := by
  unfold outE
  rw [if_neg (by rw [h]; simp [h2]), if_pos h3]
theorem outE_ok {W : Int} {ws : List (List Nat)} (h : mayB W = true) (h2 : (ws.length : Int) = W) (h3 : unl ws = false) (h4 : wvN ws ≠ 0) : outE W ws = 0 := by
  unfold outE
  rw [if_neg (by rw [h]; simp [h2]), if_neg (by rw [h3]; simp [h4])]
theorem unl_len {ws : List (List Nat)} (h : unl ws = false) {k : Nat} (hk : k < ws.length) : ws[k].length = wvN ws := by
  rcases Classical.em (ws[k].length = wvN ws) with e | e
  · exact e
  · rw [unl_true hk e] at h; cases h
theorem wvF_get {ws : List (List Nat)} {W i : Nat} (h1 : i % W < ws.length) (h2 : i / W < ws[i % W].length) : wvF ws W i = (ws[i % W])[i / W] := by
  unfold wvF
  rw [List.getD_eq_getElem?_getD, List.getElem?_eq_getElem h1, Option.getD_some, at_get h2]
theorem wvF_lt {ws : List (List Nat)} (h : ∀ x ∈ ws, ∀ y ∈ x, y < 65536) (W i : Nat) : wvF ws W i < 65536 := by
  unfold wvF
  rcases Nat.lt_or_ge (i % W) ws.length with hk | hk
  · rw [List.getD_eq_getElem?_getD, List.getElem?_eq_getElem hk, Option.getD_some]
    exact at_lt (h _ (List.getElem_mem hk)) (by decide)
  · rw [List.getD_eq_getElem?_getD, List.getElem?_eq_none hk, Option.getD_none]
    exact at_lt (by simp) (by decide)
theorem Sw.bd {w : World} {B : Nat} {A : Option Addr} {ws : List (List Nat)} (h : Sw w B A ws) : ∀ x ∈ ws, ∀ y ∈ x, y < 65536 := by
  intro x hx
  obtain ⟨k, hk, rfl⟩ := List.getElem_of_mem hx
  obtain ⟨a, D, c, _, _, _, _, hs⟩ := h.at_ hk
  exact hs.1
theorem mayB_nat {V : Nat} (h : mayB (V : Int) = true) : 1 ≤ V ∧ V ≤ 4 := by
  unfold mayB at h
  rw [Bool.and_eq_true, decide_eq_true_eq, decide_eq_true_eq] at h
  omega
theorem divmod_lt {V n i : Nat} (hV : 0 < V) (hi : i < V * n) : i % V < V ∧ i / V < n := ⟨Nat.mod_lt _ hV, Nat.div_lt_of_lt_mul hi⟩
set_option maxHeartbeats 4000000 in
theorem out_any (W : Int) (A : Option Addr) (c : Nat) (ws : List (List Nat)) (w : World) (h : Sw w w.heap.size A ws) (hl : ws.length ≤ 1000000) (hx : ∀ x ∈ ws, x.length ≤ 100000) :
    Calls Try.prog 59 #[.int .i64 W, .slice A ws.length c] w (RowV w (outW W ws) (outE W ws)) := by
  have H := Lib.hid h
  have HX := Lib.hid hx
  clear h hx
  have hc := Lib.hid (may_any W w)
  have hu := Lib.hid (unlike_any A c ws w H.out hl)
  by_cases h1 : mayB W = true
  · rw [h1] at hc
    by_cases h2 : (ws.length : Int) = W
    · subst h2
      obtain ⟨V, hV⟩ : ∃ V, ws.length = V := ⟨_, rfl⟩
      have hV4 : 1 ≤ V ∧ V ≤ 4 := by rw [← hV]; exact mayB_nat h1
      have hne : ((V : Int) != (V : Int)) = false := by simp
      have hne2 : (V != V) = false := by simp
      cases h3 : unl ws
      · obtain ⟨a, D0, c0, rfl, ha0, hc0, hn0, hs0⟩ := H.out.at_ (i := 0) (by omega)
        rw [wvN_get (by omega), add_zero'] at hc0
        obtain ⟨n, hn⟩ : ∃ n, Hid (wvN ws = n) := ⟨_, Lib.hid rfl⟩
        rw [hn.out] at hc0
        rw [h3] at hu
        have hn1 : n ≤ 100000 := by
          have := HX.out _ (List.getElem_mem (show 0 < ws.length by omega))
          rw [wvN_get (by omega), hn.out] at this
          exact this
        by_cases h4 : n = 0
        · have hz : ((n : Int) == 0) = true := by simp [h4]
          have hE := Lib.hid (outE_size (ws := ws) h1 rfl (Or.inr (by rw [hn.out]; exact h4)))
          have hR : Hid (outW (ws.length : Int) ws = []) := by unfold Hid outW; rw [hE.out]; rfl
          rw [hE.out, hR.out]
          clear hE hR hs0
          rw [hV] at hu hc ⊢
          clear h1 h3 hn h4
          go_enter Try.func59, Try.ntmps59
          go_wp2_with (first
            | (go_at_call 78; (with_reducible refine hc.out.mono ?_); rintro e w1 ⟨rfl, rfl⟩)
            | (go_at_call 84; (with_reducible refine hu.out.mono ?_); rintro e w1 ⟨rfl, rfl⟩))
          go_ret2
          exact RowV.nil (Below.refl _ _)
        · have hz : ((n : Int) == 0) = false := by rw [beq_eq_false_iff_ne]; omega
          have hE := Lib.hid (outE_ok (ws := ws) h1 rfl h3 (by rw [hn.out]; exact h4))
          have hR : Hid (outW (ws.length : Int) ws = wvOf ws) := by unfold Hid outW; rw [hE.out]; rfl
          rw [hE.out, hR.out]
          obtain ⟨N, hN⟩ : ∃ N, N = V * n := ⟨_, rfl⟩
          have hNI : (V : Int) * (n : Int) = (N : Int) := by rw [hN]; push_cast; rfl
          have hN4 : N ≤ 400000 := by
            have : V * n ≤ 4 * 100000 := Nat.mul_le_mul hV4.2 hn1
            omega
          have hR2 : Hid (wvOf ws = rm N (wvF ws V)) := by unfold Hid wvOf; rw [hn.out, hV, hN]
          rw [hR2.out]
          have HL : Hid (∀ k (h : k < ws.length), ws[k].length = n) := fun k hk => by rw [← hn.out]; exact unl_len h3 hk
          have hin : Hid (∀ i, i < N → i % V < V ∧ i / V < n) := fun i hi => divmod_lt (by omega) (by rw [← hN]; exact hi)
          have hF := Lib.hid (wvF_lt H.out.bd V)
          have hmk := run_make_row' (P := Try.prog) 35 29 (.int .u16 0) 2 Try.underlying35 info22 rfl .i64 .i64 N (by omega) (by omega)
          have HH := Lib.hid hV
          clear hE hR hs0 hR2
          rw [hV] at hu hc ⊢
          clear h1 h3 hn h4 hN
          go_enter Try.func59, Try.ntmps59
          go_wp2_with (first
            | (go_at_call 78; (with_reducible refine hc.out.mono ?_); rintro e w1 ⟨rfl, rfl⟩)
            | (go_at_call 84; (with_reducible refine hu.out.mono ?_); rintro e w1 ⟨rfl, rfl⟩))
          go_loopw [39] (fun q wr => ∃ i : Nat, i ≤ N ∧ q = .int .i64 i ∧ Own w wr w.heap.size N (fun j => if j < i then wvF ws V j else 0)) (fun q _ => N - (intOf q).toNat)
          case atStart => exact ⟨0, Nat.zero_le _, rfl, (own_start w N).congr (fun j _ => by rw [if_neg (by omega)])⟩
          case round =>
            obtain ⟨i, hi, rfl, HO⟩ := hrel
            clear hmk hc0
            by_cases hlt : i < N
            · have hiI : (i : Int) < (N : Int) := by omega
              have hd : decide (i < N) = true := decide_eq_true hlt
              obtain ⟨hp, hq⟩ := hin.out i hlt
              have hpc := place_any V i (by omega) (by omega) wr
              have hFi := hF.out i
              have hpl : i % V < ws.length := by rw [HH.out]; exact hp
              obtain ⟨_, D, cD, e, hab, hcw, hcn, hcs⟩ := (H.out.below HO.2.1).at_ hpl
              injection e with e
              subst e
              have hll := HL.out _ hpl
              obtain ⟨d, rfl, hdb, hcd⟩ := hcs.at_ (i := i / V) (by rw [hll]; exact hq)
              rw [← wvF_get hpl (by rw [hll]; exact hq)] at hcd
              rw [hll] at hcw
              obtain ⟨F, hFF⟩ : ∃ F, Hid (wvF ws V i = F) := ⟨_, Lib.hid rfl⟩
              rw [hFF.out] at hcd hFi
              obtain ⟨p, hpp⟩ : ∃ p, i % V = p := ⟨_, rfl⟩
              obtain ⟨q, hqq⟩ : ∃ q, i / V = q := ⟨_, rfl⟩
              rw [hpp] at hpc hp hcw
              rw [hqq] at hpc hq hcd
              have hpI : (p : Int) < (V : Int) := by omega
              have hqI : (q : Int) < (n : Int) := by omega
              have hc1 := HO.cell hlt
              have hf1 := HO.2.2.frozen i
              have HO' := Lib.hid ((HO.set_ i F).congr (f' := fun j => if j < i + 1 then wvF ws V j else 0) (by
                intro j hj
                show (if j = i then F else if j < i then wvF ws V j else 0) = if j < i + 1 then wvF ws V j else 0
                by_cases e : j = i
                · subst e; rw [if_pos rfl, if_pos (by omega), hFF.out]
                · rw [if_neg e]
                  by_cases h : j < i
                  · rw [if_pos h, if_pos (by omega)]
                  · rw [if_neg h, if_neg (by omega)]))
              replace hpc := Lib.hid hpc
              clear HO hpl hll hpp hqq hcs hcn hi
              go_wp2_with (go_at_call 79; (with_reducible refine hpc.out.mono ?_); rintro e w1 ⟨rfl, nd, rfl⟩)
              go_roundw
              case rel => exact ⟨i + 1, by omega, by go_num, HO'.out.drewN _⟩
              case measure => simp [intOf]; omega
            · obtain rfl : i = N := by omega
              have hd : decide (i < i) = false := decide_eq_false (Nat.lt_irrefl _)
              have HR := Lib.hid ((HO.congr (f' := wvF ws V) (fun j hj => by rw [if_pos hj])).owns (fun j _ => hF.out j) (by omega))
              have HB := Lib.hid HO.2.1
              clear HO
              go_wp2_with fail
              go_ret2
              exact ⟨_, rfl, HR.out, HB.out⟩
      · have hE := Lib.hid (outE_size (ws := ws) h1 rfl (Or.inl h3))
        have hR : Hid (outW (ws.length : Int) ws = []) := by unfold Hid outW; rw [hE.out]; rfl
        rw [hE.out, hR.out]
        rw [h3] at hu
        clear hE hR
        rw [hV] at hu hc ⊢
        clear h1 h3
        go_enter Try.func59, Try.ntmps59
        go_wp2_with (first
          | (go_at_call 78; (with_reducible refine hc.out.mono ?_); rintro e w1 ⟨rfl, rfl⟩)
          | (go_at_call 84; (with_reducible refine hu.out.mono ?_); rintro e w1 ⟨rfl, rfl⟩))
        go_ret2
        exact RowV.nil (Below.refl _ _)
    · have hE := Lib.hid (outE_arg (Or.inr h2))
      have hR : Hid (outW W ws = []) := by unfold Hid outW; rw [hE.out]; rfl
      rw [hE.out, hR.out]
      have hne : ((ws.length : Int) != W) = true := by simp [h2]
      clear hE hR h1 h2
      go_enter Try.func59, Try.ntmps59
      go_wp2_with (go_at_call 78; (with_reducible refine hc.out.mono ?_); rintro e w1 ⟨rfl, rfl⟩)
      go_ret2
      exact RowV.nil (Below.refl _ _)
  · have e1 : mayB W = false := by simpa using h1
    have hE := Lib.hid (outE_arg (ws := ws) (Or.inl e1))
    have hR : Hid (outW W ws = []) := by unfold Hid outW; rw [hE.out]; rfl
    rw [hE.out, hR.out]
    rw [e1] at hc
    clear hE hR h1 e1
    go_enter Try.func59, Try.ntmps59
    go_wp2_with (go_at_call 78; (with_reducible refine hc.out.mono ?_); rintro e w1 ⟨rfl, rfl⟩)
    go_ret2
    exact RowV.nil (Below.refl _ _)
end Go.Proofs.Ytmchelbmeajcnaa
namespace Go.Proofs.Ytmchelbmeajcnaa
open Go.RowKit Go.Gf

theorem info23w : (Try.prog.info? 35).map (fun i => (i.zero, i.size, i.bytes)) = some (some (.slice none 0 0), 1, 24) := by kernel_rfl
/-- block g is just the n values that f says, slices, and may be written -/
def Vs (w : World) (g n : Nat) (f : Nat → Value) : Prop := w.heap[g]? = some (.cells ((List.range n).map f).toArray 35 (0, 0))
section
variable {w w' : World} {g n : Nat} {f : Nat → Value}
theorem Vs.lt (h : Vs w g n f) : g < w.heap.size := by
  rcases Nat.lt_or_ge g w.heap.size with hlt | hge
  · exact hlt
  · unfold Vs at h; rw [Array.getElem?_eq_none hge] at h; cases h
theorem Vs.cell (h : Vs w g n f) {i : Nat} (hi : i < n) : w.cell? ⟨g, i, none⟩ = some (f i) := by
  rw [cell_of_row w g i _ 35 (0, 0) h]
  simp [hi]
theorem Vs.frozen (h : Vs w g n f) (i : Nat) : w.frozen? ⟨g, i, none⟩ = false := by
  unfold Vs at h
  simp [World.frozen?, h]
theorem Vs.set_ (h : Vs w g n f) (i : Nat) (v : Value) : Vs (w.setCell ⟨g, i, none⟩ v) g n (fun j => if j = i then v else f j) := by
  unfold Vs at h ⊢
  simp only [World.setCell]
  rw [Array.getElem?_modify, h]
  have e : (List.map f (List.range n)).set i v = List.map (fun j => if j = i then v else f j) (List.range n) := by
    apply List.ext_getElem
    · simp
    · intro j h1 h2
      rw [List.getElem_set]
      simp only [List.getElem_map, List.getElem_range]
      by_cases e : i = j
      · rw [if_pos e, if_pos e.symm]
      · rw [if_neg e, if_neg (Ne.symm e)]
  rw [← e]
  simp
theorem Vs.congr (h : Vs w g n f) {f' : Nat → Value} (e : ∀ j, j < n → f j = f' j) : Vs w g n f' := by
  unfold Vs at h ⊢
  rw [h]
  congr 3
  exact List.map_congr_left fun j hj => e j (List.mem_range.1 hj)
theorem Vs.keep (h : Vs w g n f) (hb : w'.heap[g]? = w.heap[g]?) : Vs w' g n f := hb.trans h
theorem Vs.alloc (h : Vs w g n f) (o : Obj) : Vs (w.alloc o) g n f := (Below.heap_alloc w o g h.lt).trans h
theorem Vs.start (w : World) (n : Nat) : Vs (w.alloc (.cells (madeCells #[.slice none 0 0] n) 35)) w.heap.size n (fun _ => .slice none 0 0) := by
  have h := heap_alloc_new w (.cells (madeCells #[.slice none 0 0] n) 35)
  unfold Vs
  rw [h]
  congr 2
  unfold madeCells
  apply Array.ext
  · simp
  · intro i h1 h2
    simp [Nat.mod_one]
end
/-- an error's number, and the words dealt out -/
def inE (W : Int) (s : List Nat) : Nat := if mayB W = false then 1 else if s.length % W.toNat ≠ 0 ∨ s.length = 0 then 3 else 0
def dealt (W : Nat) (s : List Nat) : List (List Nat) := (List.range W).map fun j => rm (s.length / W) fun q => at_ s (q * W + j)
def inW (W : Int) (s : List Nat) : List (List Nat) := if inE W s = 0 then dealt W.toNat s else []
theorem dealt_len (W : Nat) (s : List Nat) : (dealt W s).length = W := by simp [dealt]
theorem dealt_get {W : Nat} {s : List Nat} {j : Nat} (h : j < (dealt W s).length) : (dealt W s)[j] = rm (s.length / W) fun q => at_ s (q * W + j) := by simp [dealt]
/-- slices of one's own (or nil), in a block of one's own, no two of which share memory, that hold the rows ws -/
structure OwnW (w0 w : World) (g n : Nat) (f : Nat → Value) (ws : Nat → List Nat) : Prop where
  at0 : w0.heap.size ≤ g
  vs : Vs w g n f
  own : ∀ j, j < n → OwnS w0 w (f j) (ws j)
  off : ∀ j, j < n → (f j).ownBlock ≠ some g
  apart : ∀ i j, i < n → j < n → i ≠ j → ∀ k, (f i).ownBlock = some k → (f j).ownBlock ≠ some k
theorem OwnW.sw {w0 w : World} {g n : Nat} {f : Nat → Value} {ws : Nat → List Nat} (h : OwnW w0 w g n f ws) : Sw w w.heap.size (some ⟨g, 0, none⟩) ((List.range n).map ws) := by
  refine Or.inr ⟨_, rfl, h.vs.lt, fun i hi => ?_⟩
  have hi' : i < n := by simpa using hi
  have e : (⟨g, 0, none⟩ : Addr).add i = ⟨g, i, none⟩ := by unfold Addr.add; split <;> simp_all
  rw [e, h.vs.cell hi']
  simp only [List.getElem_map, List.getElem_range]
  obtain ⟨A, c, h1, h2, h3⟩ := (h.own i hi').sl
  exact ⟨A, c, by rw [h1], h2, h3⟩
/-- slices of one's own, and an error's number -/
def RowsV (w : World) (ws : List (List Nat)) (n : Nat) (e : Ending) (w' : World) : Prop :=
  (ws = [] ∧ e = .returned (.tuple #[.slice none 0 0, .int .i64 (n : Int)]) ∨ ∃ g f, e = .returned (.tuple #[.slice (some ⟨g, 0, none⟩) ws.length ws.length, .int .i64 (n : Int)]) ∧ OwnW w w' g ws.length f (fun j => ws.getD j [])) ∧ Below w.heap.size w w'
theorem list_range_getD (ws : List (List Nat)) : (List.range ws.length).map (fun j => ws.getD j []) = ws := by
  apply List.ext_getElem
  · simp
  · intro i h1 h2
    simp [List.getD_eq_getElem?_getD, List.getElem?_eq_getElem h2]
theorem RowsV.sw {w w' : World} {ws : List (List Nat)} {n : Nat} {e : Ending} (h : RowsV w ws n e w') : ∃ A c, e = .returned (.tuple #[.slice A ws.length c, .int .i64 (n : Int)]) ∧ ws.length ≤ c ∧ Sw w' w'.heap.size A ws ∧ Below w.heap.size w w' := by
  obtain ⟨h, hb⟩ := h
  rcases h with ⟨rfl, he⟩ | ⟨g, f, he, ho⟩
  · exact ⟨none, 0, he, Nat.le_refl _, Sw.nil _ _ _, hb⟩
  · refine ⟨_, _, he, Nat.le_refl _, ?_, hb⟩
    have := ho.sw
    rwa [list_range_getD] at this
theorem inE_arg {W : Int} {s : List Nat} (h : mayB W = false) : inE W s = 1 := by unfold inE; rw [if_pos h]
theorem inE_size {W : Int} {s : List Nat} (h : mayB W = true) (h2 : s.length % W.toNat ≠ 0 ∨ s.length = 0) : inE W s = 3 := by unfold inE; rw [if_neg (by rw [h]; simp), if_pos h2]
theorem inE_ok {W : Int} {s : List Nat} (h : mayB W = true) (h2 : ¬ (s.length % W.toNat ≠ 0 ∨ s.length = 0)) : inE W s = 0 := by unfold inE; rw [if_neg (by rw [h]; simp), if_neg h2]
/-- the row's value, of W rows of n, behind block h -/
def rowV (h n j : Nat) : Value := .slice (some ⟨h + 1 + j, 0, none⟩) n n
/-- i of the W rows are made -/
structure Made (w wr : World) (W n i : Nat) : Prop where
  be : Below w.heap.size w wr
  size : wr.heap.size = w.heap.size + 1 + i
  vs : Vs wr w.heap.size W (fun j => if j < i then rowV w.heap.size n j else .slice none 0 0)
  rows : ∀ j, j < i → Arr wr (w.heap.size + 1 + j) (rm n fun _ => 0)
theorem Made.start (w : World) (W n : Nat) : Made w (w.alloc (.cells (madeCells #[.slice none 0 0] W) 35)) W n 0 :=
  ⟨(Below.refl _ _).alloc (Nat.le_refl _) _, by rw [World.size_alloc], (Vs.start w W).congr fun j _ => by rw [if_neg (by omega)], fun j h => absurd h (by omega)⟩
theorem Made.step {w wr : World} {W n i : Nat} (h : Made w wr W n i) : Made w ((wr.alloc (.cells (madeCells #[.int .u16 0] n) 29)).setCell ⟨w.heap.size, i, none⟩ (.slice (some ⟨wr.heap.size, 0, none⟩) n n)) W n (i + 1) := by
  have hs := h.size
  refine ⟨(h.be.alloc h.be.size _).setCell (Nat.le_refl _) _, ?_, ?_, ?_⟩
  · rw [World.size_setCell, World.size_alloc, hs]; omega
  · refine ((h.vs.alloc _).set_ i _).congr fun j _ => ?_
    show (if j = i then Value.slice (some ⟨wr.heap.size, 0, none⟩) n n else if j < i then rowV w.heap.size n j else .slice none 0 0) = if j < i + 1 then rowV w.heap.size n j else .slice none 0 0
    by_cases e : j = i
    · rw [if_pos e, if_pos (by omega), e, hs]; rfl
    · rw [if_neg e]
      by_cases h2 : j < i
      · rw [if_pos h2, if_pos (by omega)]
      · rw [if_neg h2, if_neg (by omega)]
  · intro j hj
    have key : Arr (wr.alloc (.cells (madeCells #[.int .u16 0] n) 29)) (w.heap.size + 1 + j) (rm n fun _ => 0) := by
      by_cases e : j = i
      · rw [e, ← hs, made_uv, rm_zero]
        exact Arr.new wr _
      · exact (h.rows j (by omega)).alloc _
    unfold Arr at key ⊢
    simp only [World.setCell]
    rw [Array.getElem?_modify, if_neg (by omega)]
    exact key
/-- i of the symbols are dealt out -/
structure Dealt (w wr : World) (W n : Nat) (s : List Nat) (i : Nat) : Prop where
  be : Below w.heap.size w wr
  size : wr.heap.size = w.heap.size + 1 + W
  vs : Vs wr w.heap.size W (rowV w.heap.size n)
  rows : ∀ j, j < W → Arr wr (w.heap.size + 1 + j) (rm n fun q => if q * W + j < i then at_ s (q * W + j) else 0)
theorem Made.dealt {w wr : World} {W n : Nat} (s : List Nat) (h : Made w wr W n W) : Dealt w wr W n s 0 :=
  ⟨h.be, h.size, h.vs.congr fun j hj => by rw [if_pos hj], fun j hj => by
    have := h.rows j hj
    rwa [rm_congr (n := n) (f := fun _ => 0) (g := fun q => if q * W + j < 0 then at_ s (q * W + j) else 0) (fun q _ => by rw [if_neg (by omega)])] at this⟩
theorem Dealt.drewN {w wr : World} {W n : Nat} {s : List Nat} {i : Nat} (h : Dealt w wr W n s i) (k : Nat) : Dealt w (wr.drewN k) W n s i := ⟨below_drewN h.be k, h.size, h.vs, h.rows⟩
theorem divmod_eq {W q j i : Nat} (hj : j < W) : q * W + j = i ↔ j = i % W ∧ q = i / W := by
  constructor
  · intro e
    subst e
    rw [Nat.add_comm, Nat.mul_comm, Nat.add_mul_mod_self_left, Nat.mod_eq_of_lt hj, Nat.add_mul_div_left _ _ (by omega), Nat.div_eq_of_lt hj]
    omega
  · rintro ⟨h1, h2⟩
    rw [h1, h2, Nat.mul_comm]
    exact Nat.div_add_mod i W
theorem Dealt.step {w wr : World} {W n : Nat} {s : List Nat} {i : Nat} (h : Dealt w wr W n s i) :
    Dealt w (wr.setCell ⟨w.heap.size + 1 + i % W, i / W, none⟩ (.int .u16 ((at_ s i : Nat) : Int))) W n s (i + 1) := by
  refine ⟨h.be.setCell (by show w.heap.size ≤ w.heap.size + 1 + i % W; omega) _, by rw [World.size_setCell]; exact h.size, ?_, ?_⟩
  · refine h.vs.keep ?_
    simp only [World.setCell]
    rw [Array.getElem?_modify, if_neg (by omega)]
  · intro j hj
    by_cases e : j = i % W
    · have := (h.rows j hj).set_ (i / W) (at_ s i)
      rw [rm_set] at this
      rw [← e]
      rw [rm_congr (g := fun q => if q * W + j < i + 1 then at_ s (q * W + j) else 0)] at this
      · exact this
      · intro q hq
        show (if q = i / W then at_ s i else if q * W + j < i then at_ s (q * W + j) else 0) = if q * W + j < i + 1 then at_ s (q * W + j) else 0
        have hd := divmod_eq (W := W) (q := q) (j := j) (i := i) hj
        by_cases e2 : q = i / W
        · rw [if_pos e2]
          have := hd.2 ⟨e, e2⟩
          rw [if_pos (by omega), this]
        · rw [if_neg e2]
          have hne : q * W + j ≠ i := fun h => e2 (hd.1 h).2
          by_cases h3 : q * W + j < i
          · rw [if_pos h3, if_pos (by omega)]
          · rw [if_neg h3, if_neg (by omega)]
    · have := h.rows j hj
      rw [rm_congr (g := fun q => if q * W + j < i + 1 then at_ s (q * W + j) else 0)] at this
      · unfold Arr at this ⊢
        simp only [World.setCell]
        rw [Array.getElem?_modify, if_neg (by omega)]
        exact this
      · intro q hq
        have hne : q * W + j ≠ i := fun h => e (divmod_eq hj |>.1 h).1
        by_cases h3 : q * W + j < i
        · rw [if_pos h3, if_pos (by omega)]
        · rw [if_neg h3, if_neg (by omega)]
theorem dealt_at {W : Nat} {s : List Nat} {j : Nat} (h : j < W) : (dealt W s).getD j [] = rm (s.length / W) fun q => at_ s (q * W + j) := by
  have hl : j < (dealt W s).length := by rw [dealt_len]; exact h
  rw [List.getD_eq_getElem?_getD, List.getElem?_eq_getElem hl, Option.getD_some, dealt_get]
theorem Dealt.done {w wr : World} {W n : Nat} {s : List Nat} {i : Nat} (h : Dealt w wr W n s i) (hn : n = s.length / W) (hi : W * n ≤ i) (hs : ∀ x ∈ s, x < 65536) (h6 : n ≤ 1000000) : RowsV w (dealt W s) 0 (.returned (.tuple #[.slice (some ⟨w.heap.size, 0, none⟩) W W, .int .i64 0])) wr := by
  refine ⟨Or.inr ⟨w.heap.size, rowV w.heap.size n, by rw [dealt_len]; rfl, ?_⟩, h.be⟩
  rw [dealt_len]
  refine ⟨Nat.le_refl _, h.vs, fun j hj => ?_, fun j hj => ?_, fun a b ha hb hne k hk => ?_⟩
  · rw [dealt_at hj, ← hn]
    have e : (rm n fun q => at_ s (q * W + j)) = rm n fun q => if q * W + j < i then at_ s (q * W + j) else 0 := rm_congr fun q hq => by
      have : (q + 1) * W ≤ n * W := Nat.mul_le_mul_right W hq
      rw [Nat.add_mul, Nat.mul_comm n W] at this
      rw [if_pos (by omega)]
    rw [e]
    refine Own.owns ⟨by omega, h.be, h.rows j hj⟩ (fun q _ => ?_) h6
    show (if q * W + j < i then at_ s (q * W + j) else 0) < 65536
    split
    · exact at_lt hs (by decide)
    · decide
  · simp [rowV, Value.ownBlock]; omega
  · simp [rowV, Value.ownBlock] at hk ⊢
    omega
end Go.Proofs.Ytmchelbmeajcnaa
