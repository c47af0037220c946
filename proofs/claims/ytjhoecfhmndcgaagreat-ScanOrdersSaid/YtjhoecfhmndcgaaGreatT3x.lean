/- ScanOrders walked, for whatever has scan's contracts. · A law of chapter 18, as its shell asks for it, for whatever has scan's contracts: mkT.sh's THM is '(Sc.orders_row Sc.the_scan)'. -/
import Derived.Test.YtjhoecfhmndcgaaGreatWScf
import Derived.Test.YtjhoecfhmndcgaaGreatV33
namespace Go.Proofs.YtjhoecfhmndcgaaGreat.Sc
open Go.RowKit Go.Gf Go.Fl
set_option linter.unusedVariables false
set_option linter.unusedSimpArgs false
set_option maxRecDepth 20000
attribute [local go_sem ↓] Cl.quiet_since
def rowO (x : Nat → Nat → Nat) (i : Nat) : Fnd := ⟨(i : Int), 1, (x i 0 : Int), (x i 1 : Int), ((x i 2 % 9 : Nat) : Int)⟩
def rowsO (x : Nat → Nat → Nat) (i : Nat) : List Fnd := (List.range i).map (rowO x)
theorem rowsO_len (x : Nat → Nat → Nat) (i : Nat) : (rowsO x i).length = i := by unfold rowsO; simp
theorem rowsO_succ (x : Nat → Nat → Nat) (i : Nat) : rowsO x (i + 1) = rowsO x i ++ [rowO x i] := by unfold rowsO; rw [List.range_succ, List.map_append]; rfl
theorem rows_pos (x : Nat → Nat → Nat) (i : Nat) : ∀ v ∈ rowsO x i, 0 ≤ v.sq := by
  intro v hv
  unfold rowsO at hv
  obtain ⟨j, _, rfl⟩ := List.mem_map.1 hv
  exact Int.natCast_nonneg _
theorem rowsO_at {x : Nat → Nat → Nat} {i j : Nat} (h : j < i) : fA (rowsO x i) j = rowO x j := by
  rw [fA_get (by rw [rowsO_len]; exact h)]
  unfold rowsO
  simp
/-- the first i of those that q says -/
def listQ (q : Nat → Fnd) (i : Nat) : List Fnd := (List.range i).map q
theorem listQ_len (q : Nat → Fnd) (i : Nat) : (listQ q i).length = i := by unfold listQ; simp
theorem listQ_succ (q : Nat → Fnd) (i : Nat) : listQ q (i + 1) = listQ q i ++ [q i] := by unfold listQ; rw [List.range_succ, List.map_append]; rfl
theorem listQ_at {q : Nat → Fnd} {i j : Nat} (h : j < i) : fA (listQ q i) j = q j := by
  rw [fA_get (by rw [listQ_len]; exact h)]
  unfold listQ
  simp
theorem listQ_mem {q : Nat → Fnd} {n : Nat} {v : Fnd} : v ∈ listQ q n ↔ ∃ i, i < n ∧ q i = v := by
  unfold listQ
  rw [List.mem_map]
  exact ⟨fun ⟨i, h1, h2⟩ => ⟨i, List.mem_range.1 h1, h2⟩, fun ⟨i, h1, h2⟩ => ⟨i, List.mem_range.2 h1, h2⟩⟩
theorem rows_ties (x : Nat → Nat → Nat) (n : Nat) : ∀ u ∈ rowsO x n, ∀ v ∈ rowsO x n, u.lp = v.lp → u.sq = v.sq → u.pg = v.pg → u = v := by
  intro u hu v hv _ _ e
  obtain ⟨i, _, rfl⟩ := listQ_mem.1 (show u ∈ listQ (rowO x) n from hu)
  obtain ⟨j, _, rfl⟩ := listQ_mem.1 (show v ∈ listQ (rowO x) n from hv)
  have : i = j := Int.ofNat.inj e
  rw [this]
theorem gtL_le {l : List Fnd} {z : Int} : gtL l ≤ z ↔ -1 ≤ z ∧ ∀ u ∈ l, u.sq ≤ z := by
  have key : ∀ (l : List Fnd) (a : Int), l.foldl (fun a x => max a x.sq) a ≤ z ↔ a ≤ z ∧ ∀ u ∈ l, u.sq ≤ z := by
    intro l
    induction l with
    | nil => intro a; simp
    | cons y ys ih =>
      intro a
      rw [List.foldl_cons, ih]
      simp only [List.mem_cons, forall_eq_or_imp]
      constructor
      · rintro ⟨h1, h2⟩; exact ⟨by omega, by omega, h2⟩
      · rintro ⟨h1, h2, h3⟩; exact ⟨by omega, h3⟩
  exact key l (-1)
theorem gtL_same {l l' : List Fnd} (h : ∀ u, u ∈ l ↔ u ∈ l') : gtL l = gtL l' := by
  have a1 := (gtL_le (l := l) (z := gtL l)).1 (Int.le_refl _)
  have a2 := (gtL_le (l := l') (z := gtL l')).1 (Int.le_refl _)
  have b1 : gtL l' ≤ gtL l := gtL_le.2 ⟨a1.1, fun u hu => a1.2 u ((h u).2 hu)⟩
  have b2 : gtL l ≤ gtL l' := gtL_le.2 ⟨a2.1, fun u hu => a2.2 u ((h u).1 hu)⟩
  omega
/-- a row of one's own, by what it holds -/
def RB (w0 w : World) (A : Option Addr) (n : Nat) (q : Nat → Fnd) : Prop := n = 0 ∨ ∃ g, A = some ⟨g, 0, none⟩ ∧ w0.heap.size ≤ g ∧ PreV w 29 g (n * 5) (fun i => fC (q (i / 5)) (i % 5))
theorem own_row {w0 w : World} {A : Option Addr} {n c : Nat} {q : Nat → Fnd} (h : OwnF w0 w A n c (listQ q n)) : RB w0 w A n q := by
  rcases h.2 with ⟨e, h0⟩ | ⟨g, cap, cur, e, hg, hh, hr, hcap, hcs, htk⟩
  · exact Or.inl h0
  · cases e
    refine Or.inr ⟨g, rfl, hg, cur, hh, fun i hi => ?_⟩
    have hd : i / 5 < n := by omega
    have hm : i % 5 < 5 := Nat.mod_lt _ (by decide)
    have e2 : (cur.toList.take (n * 5))[i]? = (flat5 (listQ q n))[i]? := by rw [htk]
    have e3 := flat5_at (listQ q n) (i / 5) (by rw [listQ_len]; exact hd) (i % 5) hm
    rw [show i / 5 * 5 + i % 5 = i by omega, listQ_at hd] at e3
    rw [List.getElem?_take, if_pos hi, Array.getElem?_toList, e3] at e2
    exact e2
theorem fs_blk {w : World} {A : Option Addr} {l : List Fnd} {n : Nat} (h : FS w w.heap.size A l) (hl : l.length = n) : ∀ a, A = some a → n = 0 ∨ a.block < w.heap.size := by
  intro a e
  rcases h with h | ⟨a', e', h1, _⟩
  · left; rw [← hl, h]; rfl
  · right; rw [e] at e'; cases e'; exact h1
/-- those of the one row are those of the other -/
theorem turn_mem (x : Nat → Nat → Nat) (T n : Nat) : ∀ v, (∃ i, i < n ∧ rowO x ((i + T) % n) = v) ↔ (∃ i, i < n ∧ rowO x i = v) := by
  intro v
  constructor
  · rintro ⟨i, hi, rfl⟩
    exact ⟨(i + T) % n, Nat.mod_lt _ (by omega), rfl⟩
  · rintro ⟨i, hi, rfl⟩
    have hT : T % n < n := Nat.mod_lt _ (by omega)
    refine ⟨(i + (n - T % n)) % n, Nat.mod_lt _ (by omega), ?_⟩
    have e : ((i + (n - T % n)) % n + T) % n = i := by
      rw [Nat.mod_add_mod]
      have h2 : T = n * (T / n) + T % n := (Nat.div_add_mod T n).symm
      have h3 : i + (n - T % n) + T = i + n + n * (T / n) := by omega
      rw [h3, Nat.add_mul_mod_self_left, Nat.add_mod_right, Nat.mod_eq_of_lt hi]
    rw [e]
theorem pv5 {w : World} {g n i j : Nat} {q : Nat → Fnd} (h : PreV w 29 g (n * 5) (fun i => fC (q (i / 5)) (i % 5))) (hi : i < n) (hj : j < 5) : w.cell? ⟨g, i * 5 + j, none⟩ = some (fC (q i) j) := by
  have := h.cell (i := i * 5 + j) (by omega)
  rw [this]
  show some (fC (q ((i * 5 + j) / 5)) ((i * 5 + j) % 5)) = _
  rw [show (i * 5 + j) / 5 = i by omega, show (i * 5 + j) % 5 = j by omega]
/-- five cells stored: one of the row is another one -/
theorem pv5_set {w : World} {g n : Nat} {q : Nat → Fnd} (h : PreV w 29 g (n * 5) (fun i => fC (q (i / 5)) (i % 5))) (i : Nat) (y : Fnd) :
    PreV (((((w.setCell ⟨g, i * 5, none⟩ (.int .i64 y.pg)).setCell ⟨g, i * 5 + 1, none⟩ (.int .i64 y.kd)).setCell ⟨g, i * 5 + 2, none⟩ (.int .i64 y.lp)).setCell ⟨g, i * 5 + 3, none⟩ (.int .i64 y.sq)).setCell ⟨g, i * 5 + 4, none⟩ (.int .i64 y.wr)) 29 g (n * 5) (fun j => fC (if j / 5 = i then y else q (j / 5)) (j % 5)) := by
  refine (((((h.set_ (i * 5) (.int .i64 y.pg)).set_ (i * 5 + 1) (.int .i64 y.kd)).set_ (i * 5 + 2) (.int .i64 y.lp)).set_ (i * 5 + 3) (.int .i64 y.sq)).set_ (i * 5 + 4) (.int .i64 y.wr)).congr fun j _ => ?_
  by_cases e : j / 5 = i
  · rw [if_pos e]
    have hj : j = i * 5 + j % 5 := by omega
    have h5 : j % 5 = 0 ∨ j % 5 = 1 ∨ j % 5 = 2 ∨ j % 5 = 3 ∨ j % 5 = 4 := by omega
    rcases h5 with h5 | h5 | h5 | h5 | h5 <;> rw [h5] at hj ⊢ <;> subst hj <;> simp [fC]
  · rw [if_neg e]
    have n0 : ¬ j = i * 5 := by omega
    have n1 : ¬ j = i * 5 + 1 := by omega
    have n2 : ¬ j = i * 5 + 2 := by omega
    have n3 : ¬ j = i * 5 + 3 := by omega
    have n4 : ¬ j = i * 5 + 4 := by omega
    simp [n0, n1, n2, n3, n4]
theorem swap_mem {q : Nat → Fnd} {n i K : Nat} (hi : i < n) (hK : K < n) (v : Fnd) : (∃ t, t < n ∧ (if t = K then q i else if t = i then q K else q t) = v) ↔ ∃ t, t < n ∧ q t = v := by
  constructor
  · rintro ⟨t, ht, rfl⟩
    split
    · exact ⟨i, hi, rfl⟩
    · split
      · exact ⟨K, hK, rfl⟩
      · exact ⟨t, ht, rfl⟩
  · rintro ⟨t, ht, rfl⟩
    by_cases h1 : t = i
    · subst h1
      exact ⟨K, hK, by rw [if_pos rfl]⟩
    · by_cases h2 : t = K
      · subst h2
        by_cases h3 : i = t
        · exact absurd h3.symm h1
        · exact ⟨i, hi, by rw [if_neg h3, if_pos rfl]⟩
      · exact ⟨t, ht, by rw [if_neg h2, if_neg h1]⟩
theorem keep5 {w : World} {g : Nat} (a0 a1 a2 a3 a4 : Nat) (v0 v1 v2 v3 v4 : Value) : ∀ b, b ≠ g → (((((w.setCell ⟨g, a0, none⟩ v0).setCell ⟨g, a1, none⟩ v1).setCell ⟨g, a2, none⟩ v2).setCell ⟨g, a3, none⟩ v3).setCell ⟨g, a4, none⟩ v4).heap[b]? = w.heap[b]? := fun b hb => by
  rw [setCell_block _ _ hb, setCell_block _ _ hb, setCell_block _ _ hb, setCell_block _ _ hb, setCell_block _ _ hb]
theorem size5 {w : World} {g : Nat} (a0 a1 a2 a3 a4 : Nat) (v0 v1 v2 v3 v4 : Value) : (((((w.setCell ⟨g, a0, none⟩ v0).setCell ⟨g, a1, none⟩ v1).setCell ⟨g, a2, none⟩ v2).setCell ⟨g, a3, none⟩ v3).setCell ⟨g, a4, none⟩ v4).heap.size = w.heap.size := by simp only [World.size_setCell]
theorem keeps_by {w w' : World} {g : Nat} (h1 : w'.os = w.os) (h2 : w'.tape = w.tape) (h3 : w'.output = w.output) (hs : w'.heap.size = w.heap.size) (hk : ∀ b, b ≠ g → w'.heap[b]? = w.heap[b]?) : Cl.Keeps (fun b => ¬ b = g) w w' :=
  ⟨h1, h2, h3, Nat.le_of_eq hs.symm, fun b _ hb => hk b hb⟩
/-- what lies elsewhere stays as it was -/
theorem rest5 {w w5 w6 : World} {g : Nat} {A : Option Addr} {l : List Fnd} (hg : w.heap.size ≤ g) (h : FS w5 w5.heap.size A l ∧ Below w.heap.size w w5) (hA : ∀ a, A = some a → a.block ≠ g) (hs : w6.heap.size = w5.heap.size) (hk : ∀ b, b ≠ g → w6.heap[b]? = w5.heap[b]?) (h1 : w6.os = w5.os) (h2 : w6.tape = w5.tape) (h3 : w6.output = w5.output) :
    FS w6 w6.heap.size A l ∧ Below w.heap.size w w6 :=
  ⟨h.1.keep (Nat.le_of_eq hs.symm) fun a e _ => hk _ (hA a e), h1.trans h.2.os, h2.trans h.2.tape, h3.trans h.2.output, by rw [hs]; exact h.2.size, fun b hb => (hk b (by omega)).trans (h.2.block b hb)⟩
theorem rb_fs {w0 w : World} {A : Option Addr} {n : Nat} {q : Nat → Fnd} (h : RB w0 w A n q) : FS w w.heap.size A (listQ q n) := by
  rcases h with h | ⟨g, rfl, _, P⟩
  · subst h; exact Or.inl rfl
  · refine Or.inr ⟨_, rfl, P.lt, fun i hi j hj => ?_⟩
    rw [listQ_len] at hi
    have e : ∀ k, (⟨g, 0, none⟩ : Addr).add k = ⟨g, k, none⟩ := fun k => by unfold Addr.add; split <;> simp_all
    rw [e, pv5 P hi hj, listQ_at hi]
theorem LatIs.self {m : List Fnd} (h : m.Pairwise (fun x y => x.lp < y.lp)) : LatIs m m := ⟨fun x hx => hx, fun x hx => ⟨x, hx, rfl, Or.inr ⟨rfl, Int.le_refl _⟩⟩, h⟩
/-- what the law holds: one list, the other one in a row of its own -/
structure OS (w w3 wr : World) (A : Option Addr) (l : List Fnd) (A2 : Option Addr) (n : Nat) (q : Nat → Fnd) : Prop where
  fl : FS wr wr.heap.size A l
  rb : RB w3 wr A2 n q
  same : ∀ v, (∃ i, i < n ∧ q i = v) ↔ v ∈ l
  b : Below w.heap.size w wr
set_option maxHeartbeats 8000000 in
theorem orders_law (C : SC) (L : Option Addr) (n c : Nat) (x : Nat → Nat → Nat) (T : Nat) (hT : T < 256) (w : World) (hs : We.RF w w.heap.size L 3 n .u8 (fun i j => (x i j : Int))) (hx : ∀ i j, x i j < 256) :
    Calls Tryz.prog 7 #[.slice L n c, .int .u8 (T : Int)] w (We.Ans w (.bool true)) := by
  have ha := Lib.hid (awake_any C w)
  have H := Lib.hid hs
  have C' := Lib.hid C
  clear C hs
  by_cases h60 : (60 : Int) < (n : Int)
  · go_enter Tryz.func7, Tryz.ntmps7
    go_wp2_with (go_at_call 8; (with_reducible refine ha.out.mono ?_); clear ha; rintro e w1 ⟨rfl, hB⟩; replace hB := Lib.hid hB)
    go_ret
    exact ⟨rfl, hB.out⟩
  go_enter Tryz.func7, Tryz.ntmps7
  go_wp2_with (go_at_call 8; (with_reducible refine ha.out.mono ?_); clear ha; rintro e w1 ⟨rfl, hB⟩; replace hB := Lib.hid hB)
  have H1 := Lib.hid (H.out.far hB.out)
  clear H
  go_loopw [5, 7] (fun p q wr => ∃ (i c : Nat) (A : Option Addr), p = .slice A i c ∧ q = .int .i64 (i : Int) ∧ i ≤ n ∧ Hid (OwnF w1 wr A i c (rowsO x i)) ∧ Hid (Below w1.heap.size w1 wr)) (fun _ q _ => n - (intOf q).toNat)
  case atStart => exact ⟨0, 0, none, rfl, rfl, Nat.zero_le _, Lib.hid (OwnF.nil w1 w1), Lib.hid (Below.refl _ _)⟩
  case round =>
    obtain ⟨i, c', A, rfl, rfl, hi', hO, hB1⟩ := hrel
    by_cases hin : i < n
    · obtain ⟨a, rfl, hab, _⟩ := (H1.out.below hB1.out).at0 hin (by decide)
      have d1 : decide ((i : Int) < (n : Int)) = true := decide_eq_true (by omega)
      have hinI : (i : Int) < (n : Int) := by omega
      have hi1 : wrap64 ((i : Int) + 1) = ((i + 1 : Nat) : Int) := by rw [IntWalk.wrap64_in _ (by omega)]; omega
      have hi6 : i ≤ 1000000 := by omega
      go_wp2_with fail
      refine Cl.region_tree (fun b => b < w1.heap.size) 26 (.r 0 <| .r 1 <| .r 2 <| .r 3 <| .r 4 <| .r 5 <| .r 6 <| .r 7 <| .r 8 <| .r 9 <| .r 10 <| .r 11 <| .r 12 <| .r 13 <| .r 14 <| .r 15 <| .r 16 <| .r 17 <| .r 18 <| .r 19 <| .r 20 <| .r 21 <| .r 22 <| .c 23 <| .c 24 <| .r 25 <| .e) (by kernel_rfl) (by kernel_rfl) ?_
      intro w2 hk2
      have O2 := Lib.hid (hO.out.keep fun g _ hl => hk2.block g hl trivial)
      have B2 := Lib.hid (hB1.out.trans (hk2.below.mono hB1.out.size))
      obtain ⟨a', e', _, c0, cj⟩ := (H1.out.below B2.out).at0 hin (by decide)
      cases e'
      have c1 := cj 0 (by decide)
      have c2 := cj 1 (by decide)
      have hpb : (a.add (i * 3)).block < w2.heap.size ∧ (a.add (i * 3)).block < w1.heap.size := by rw [We.add_block]; have := B2.out.size; exact ⟨by omega, hab⟩
      have t0 : ∀ z : Cl.Since (fun b => b < w1.heap.size) w2, z.w.cell? (a.add (i * 3)) = some (.int .u8 (x i 0 : Int)) := fun z => (z.cell (p := a.add (i * 3)) hpb.1 hpb.2).trans c0
      have t1 : ∀ z : Cl.Since (fun b => b < w1.heap.size) w2, z.w.cell? ⟨(a.add (i * 3)).block, (a.add (i * 3)).off + 1, none⟩ = some (.int .u8 (x i 1 : Int)) := fun z => (z.cell (p := ⟨(a.add (i * 3)).block, (a.add (i * 3)).off + 1, none⟩) hpb.1 hpb.2).trans c1
      have t2 : ∀ z : Cl.Since (fun b => b < w1.heap.size) w2, z.w.cell? ⟨(a.add (i * 3)).block, (a.add (i * 3)).off + 2, none⟩ = some (.int .u8 (x i 2 : Int)) := fun z => (z.cell (p := ⟨(a.add (i * 3)).block, (a.add (i * 3)).off + 2, none⟩) hpb.1 hpb.2).trans c2
      have b0 := hx i 0
      have b1 := hx i 1
      have b2 := hx i 2
      clear c0 c1 c2 cj hk2 hO hB1 hpb
      obtain ⟨X0, h0⟩ : ∃ X, x i 0 = X := ⟨_, rfl⟩
      obtain ⟨X1, h1⟩ : ∃ X, x i 1 = X := ⟨_, rfl⟩
      obtain ⟨X2, h2⟩ : ∃ X, x i 2 = X := ⟨_, rfl⟩
      obtain ⟨X3, h3⟩ : ∃ X, X2 % 9 = X := ⟨_, rfl⟩
      have hrow := Lib.hid (show rowO x i = ⟨(i : Int), 1, (X0 : Int), (X1 : Int), (X3 : Int)⟩ by unfold rowO; rw [h0, h1, h2, h3])
      rw [h0] at t0 b0; rw [h1] at t1 b1; rw [h2] at t2 b2
      have f1 : (X2 : Int).tmod 9 = (X3 : Int) := by rw [← h3]; rfl
      have f2 : (X2 : Int) % 9 = (X3 : Int) := by rw [← h3]; rfl
      have b3 : X3 < 9 := by rw [← h3]; exact Nat.mod_lt _ (by decide)
      clear h0 h1 h2 h3
      iterate 23 (refine Cl.tree_r rfl ?_; go_big_quiet_step (fail); refine wpQuiet_nil ?_)
      clear t0 t1 t2
      refine Cl.tree_c rfl ?_
      go_wp2_with fail
      refine Cl.way_on (Cl.Keeps.of_below (We.below_alloc _ _) |> fun k => Cl.keeps_of k fun b hb => trivial) ?_
      refine Cl.tree_c rfl ?_
      go_wp2_with (refine app_fnd (w0 := w1) rfl (.tmp 24) (.tmp 47) rfl A i c' (rowsO x i) rfl (O2.out.grow _) (by rw [World.size_alloc]; have := B2.out.size; omega) w2.heap.size rfl ⟨(i : Int), 1, (X0 : Int), (X1 : Int), (X3 : Int)⟩ (one_cells w2 ⟨(i : Int), 1, (X0 : Int), (X1 : Int), (X3 : Int)⟩ _) hi6 ?_)
      intro A' c'' w3 hO3 hb3
      rw [← hrow.out, ← rowsO_succ] at hO3
      have B3 := Lib.hid (((We.below_trans B2.out (We.below_alloc w2 (.cells #[.int .i64 (i : Int), .int .i64 1, .int .i64 (X0 : Int), .int .i64 (X1 : Int), .int .i64 (X3 : Int)] 29)))).trans hb3)
      replace hO3 := Lib.hid hO3
      go_wp2_with fail
      refine Cl.way_on ⟨hb3.os, hb3.tape, hb3.output, hb3.size, fun b _ hb => hb3.block b hb⟩ ?_
      clear hb3 O2 B2 hrow b0 b1 b2 b3 f1 f2
      refine Cl.tree_r rfl ?_
      go_big_quiet_step (fail)
      refine wpQuiet_nil ?_
      refine Cl.tree_e ?_
      go_wp2_with fail
      go_roundw
      case rel => exact ⟨i + 1, c'', A', rfl, by first | rw [hi1] | go_num, by omega, hO3, B3⟩
      case measure => (try rw [hi1]); simp [intOf]; omega
    · obtain rfl : i = n := by omega
      have d1 : decide ((i : Int) < (i : Int)) = false := decide_eq_false (by omega)
      go_wp2_with fail
      have fl := Lib.hid hO.out.fs
      have hlen := Lib.hid (rowsO_len x i)
      have BB := Lib.hid (We.below_trans hB.out hB1.out)
      have hi60 : i ≤ 60 := by omega
      clear hO hB1 hi' hin H1 hB d1 h60
      obtain ⟨w3, hw3⟩ : ∃ w3, w3 = wr := ⟨_, rfl⟩
      rw [← hw3] at fl BB ⊢
      clear hw3
      go_loopw [6, 8] (fun p q ws => ∃ (k c2 : Nat) (A2 : Option Addr), p = .slice A2 k c2 ∧ q = .int .i64 (k : Int) ∧ k ≤ i ∧ Hid (OwnF w3 ws A2 k c2 (listQ (fun t => rowO x ((t + T) % i)) k)) ∧ Hid (Below w3.heap.size w3 ws)) (fun _ q _ => i - (intOf q).toNat)
      case atStart => exact ⟨0, 0, none, rfl, rfl, Nat.zero_le _, Lib.hid (OwnF.nil w3 w3), Lib.hid (Below.refl _ _)⟩
      case round =>
        obtain ⟨k, c2, A2, rfl, rfl, hk', hO, hB1⟩ := hrel
        by_cases hki : k < i
        · have hR : (k + T) % i < i := Nat.mod_lt _ (by omega)
          have f1 : ((k : Int) + (T : Int)).tmod (i : Int) = (((k + T) % i : Nat) : Int) := by rw [← Int.natCast_add]; rfl
          have f2 : ((k : Int) + (T : Int)) % (i : Int) = (((k + T) % i : Nat) : Int) := by rw [← Int.natCast_add]; exact (Int.natCast_emod _ _).symm
          have hsu := listQ_succ (fun t => rowO x ((t + T) % i)) k
          obtain ⟨R, hR'⟩ : ∃ R, (k + T) % i = R := ⟨_, rfl⟩
          simp only [hR'] at hR f1 f2 hsu
          have d1 : decide ((k : Int) < (i : Int)) = true := decide_eq_true (by omega)
          have hkI : (k : Int) < (i : Int) := by omega
          have hRI : (R : Int) < (i : Int) := by omega
          have n1 : ¬ i = 0 := by omega
          have n2 : ((i : Int) == 0) = false := by simp; omega
          have n3 : ¬ (i : Int) = 0 := by omega
          have hk1 : wrap64 ((k : Int) + 1) = ((k + 1 : Nat) : Int) := by rw [IntWalk.wrap64_in _ (by omega)]; omega
          have hk6 : k ≤ 1000000 := by omega
          have hRl : R < (rowsO x i).length := by rw [hlen.out]; exact hR
          have fr := fl.out.below hB1.out
          obtain ⟨a5, rfl⟩ := fr.some_ hRl
          have e0 := rowsO_at (x := x) hR
          have c0 := fr.c0 hRl
          have c1 := fr.c1 hRl
          have c2' := fr.c2 hRl
          have c3 := fr.c3 hRl
          have c4 := fr.c4 hRl
          rw [e0] at c0 c1 c2' c3 c4
          obtain ⟨⟨p0, p1, p2, p3, p4⟩, hy⟩ : ∃ X, rowO x R = X := ⟨_, rfl⟩
          rw [hy] at c0 c1 c2' c3 c4 hsu
          simp only at c0 c1 c2' c3 c4
          replace hsu := Lib.hid hsu
          replace hR := Lib.hid hR
          replace hRl := Lib.hid hRl
          clear e0 hy hR'
          go_wp2_with (refine app_fnd (w0 := w3) rfl (.tmp 55) (.tmp 66) rfl A2 k c2 (listQ (fun t => rowO x ((t + T) % i)) k) rfl (hO.out.grow _) (by rw [World.size_alloc]; have := hB1.out.size; omega) wr.heap.size rfl ⟨p0, p1, p2, p3, p4⟩ (one_cells wr ⟨p0, p1, p2, p3, p4⟩ _) hk6 ?_; intro A' c'' w4 hO4 hb4; (rw [← hsu.out] at hO4); have B4 := Lib.hid ((We.below_trans hB1.out (We.below_alloc wr (.cells #[.int .i64 p0, .int .i64 p1, .int .i64 p2, .int .i64 p3, .int .i64 p4] 29))).trans hb4); replace hO4 := Lib.hid hO4; clear hb4)
          go_roundw
          case rel => exact ⟨k + 1, c'', A', rfl, by first | rw [hk1] | go_num, by omega, hO4, B4⟩
          case measure => (try rw [hk1]); simp [intOf]; omega
        · obtain rfl : k = i := by omega
          have d1 : decide ((k : Int) < (k : Int)) = false := decide_eq_false (by omega)
          have hB := Lib.hid (We.below_trans BB.out hB1.out)
          have fl4 := Lib.hid ((fl.out.below hB1.out).more hB1.out.size)
          have hR := Lib.hid (own_row hO.out)
          have hbl := Lib.hid (fun a' (e : A = some a') => fs_blk (n := k) fl.out hlen.out a' e)
          have hsame := Lib.hid (turn_mem x T k)
          have hw3 := Lib.hid BB.out.size
          clear BB fl hB1 hO hk' hki
          go_wp2_with fail
          have hdv := Lib.hid (show k / 2 * 2 ≤ k by omega)
          have g1 : (k : Int).tdiv 2 = ((k / 2 : Nat) : Int) := rfl
          have g2 : (k : Int) / 2 = ((k / 2 : Nat) : Int) := rfl
          obtain ⟨Hf, hHf⟩ : ∃ h, k / 2 = h := ⟨_, rfl⟩
          rw [hHf] at hdv g1 g2
          have hHk : Hf ≤ k := by rw [← hHf]; exact Nat.div_le_self _ _
          clear hHf
          have S := Lib.hid (show OS w w3 wr A (rowsO x k) A2 k (fun t => rowO x ((t + T) % k)) from ⟨fl4.out, hR.out, fun v => by rw [hsame.out v]; exact (listQ_mem (q := rowO x)).symm, hB.out⟩)
          clear fl4 hR hsame hB d1
          go_loopw [9] (fun p ws => ∃ (i : Nat) (q : Nat → Fnd), p = .int .i64 (i : Int) ∧ i ≤ Hf ∧ Hid (OS w w3 ws A (rowsO x k) A2 k q)) (fun p _ => Hf - (intOf p).toNat)
          case atStart => exact ⟨0, _, rfl, Nat.zero_le _, S⟩
          case round =>
            obtain ⟨i, q, rfl, hi', S1⟩ := hrel
            clear S
            by_cases hiH : i < Hf
            · obtain ⟨K, hK⟩ : ∃ K, k - 1 - i = K := ⟨_, rfl⟩
              have hdv' := hdv.out
              have hKk : K < k := by omega
              have hik : i < k := by omega
              have hKi : i < K := by omega
              have hd : decide ((i : Int) < (Hf : Int)) = true := decide_eq_true (by omega)
              have hiHI : (i : Int) < (Hf : Int) := by omega
              have e1 : wrap64 ((k : Int) - 1) = (k : Int) - 1 := by rw [IntWalk.wrap64_in _ (by omega)]
              have e2 : wrap64 ((k : Int) - 1 - (i : Int)) = (K : Int) := by rw [IntWalk.wrap64_in _ (by omega)]; omega
              have e3 : (k : Int) - 1 - (i : Int) = (K : Int) := by omega
              have hKI : (K : Int) < (k : Int) := by omega
              have hikI : (i : Int) < (k : Int) := by omega
              have hi1 : wrap64 ((i : Int) + 1) = ((i + 1 : Nat) : Int) := by rw [IntWalk.wrap64_in _ (by omega)]; omega
              clear hK
              obtain ⟨g, rfl, hg, P⟩ : ∃ g, A2 = some ⟨g, 0, none⟩ ∧ w3.heap.size ≤ g ∧ PreV wr 29 g (k * 5) (fun i => fC (q (i / 5)) (i % 5)) := by
                rcases S1.out.rb with h | h
                · omega
                · exact h
              replace hg := Lib.hid hg
              replace P := Lib.hid P
              obtain ⟨⟨p0, p1, p2, p3, p4⟩, hp⟩ : ∃ X, q K = X := ⟨_, rfl⟩
              obtain ⟨⟨r0, r1, r2, r3, r4⟩, hr⟩ : ∃ X, q i = X := ⟨_, rfl⟩
              go_wp2_with fail
              refine Cl.region_tree (fun b => b ≠ g) 23 (.r 0 <| .r 1 <| .r 2 <| .r 3 <| .r 4 <| .r 5 <| .r 6 <| .r 7 <| .r 8 <| .r 9 <| .r 10 <| .r 11 <| .r 12 <| .r 13 <| .r 14 <| .r 16 <| .r 17 <| .r 18 <| .b 15 19 (.c 19 <| .r 20 <| .c 21 <| .r 22 <| .z 23) (.c 15 <| .r 20 <| .c 21 <| .r 22 <| .z 23)) (by kernel_rfl) (by kernel_rfl) ?_
              intro w5 hk5
              have P5 := Lib.hid (P.out.below hk5.below)
              have S5 := Lib.hid (show FS w5 w5.heap.size A (rowsO x k) ∧ Below w.heap.size w w5 from ⟨S1.out.fl.far hk5.below, We.below_trans S1.out.b hk5.below⟩)
              have hsm := Lib.hid S1.out.same
              have hgw5 := Lib.hid P5.out.lt
              have hAg := Lib.hid (show ∀ a', A = some a' → a'.block ≠ g from fun a' e => by rcases hbl.out a' e with h | h; (· omega); (· have := hg.out; omega))
              have tq0 : w5.cell? ⟨g, K * 5, none⟩ = some (.int .i64 p0) := by have h := pv5 P5.out (i := K) (j := 0) (by omega) (by decide); rw [hp] at h; exact h
              have tq1 : w5.cell? ⟨g, K * 5 + 1, none⟩ = some (.int .i64 p1) := by have h := pv5 P5.out (i := K) (j := 1) (by omega) (by decide); rw [hp] at h; exact h
              have tq2 : w5.cell? ⟨g, K * 5 + 2, none⟩ = some (.int .i64 p2) := by have h := pv5 P5.out (i := K) (j := 2) (by omega) (by decide); rw [hp] at h; exact h
              have tq3 : w5.cell? ⟨g, K * 5 + 3, none⟩ = some (.int .i64 p3) := by have h := pv5 P5.out (i := K) (j := 3) (by omega) (by decide); rw [hp] at h; exact h
              have tq4 : w5.cell? ⟨g, K * 5 + 4, none⟩ = some (.int .i64 p4) := by have h := pv5 P5.out (i := K) (j := 4) (by omega) (by decide); rw [hp] at h; exact h
              have uq0 : w5.cell? ⟨g, i * 5, none⟩ = some (.int .i64 r0) := by have h := pv5 P5.out (i := i) (j := 0) (by omega) (by decide); rw [hr] at h; exact h
              have uq1 : w5.cell? ⟨g, i * 5 + 1, none⟩ = some (.int .i64 r1) := by have h := pv5 P5.out (i := i) (j := 1) (by omega) (by decide); rw [hr] at h; exact h
              have uq2 : w5.cell? ⟨g, i * 5 + 2, none⟩ = some (.int .i64 r2) := by have h := pv5 P5.out (i := i) (j := 2) (by omega) (by decide); rw [hr] at h; exact h
              have uq3 : w5.cell? ⟨g, i * 5 + 3, none⟩ = some (.int .i64 r3) := by have h := pv5 P5.out (i := i) (j := 3) (by omega) (by decide); rw [hr] at h; exact h
              have uq4 : w5.cell? ⟨g, i * 5 + 4, none⟩ = some (.int .i64 r4) := by have h := pv5 P5.out (i := i) (j := 4) (by omega) (by decide); rw [hr] at h; exact h
              replace hp := Lib.hid hp
              replace hr := Lib.hid hr
              clear hk5 P S1
              have as0 : w5.cell? ⟨g, i * 5, none⟩ = some ((fun i => fC (q (i / 5)) (i % 5)) (i * 5)) := by have h := (P5.out).cell (i := i * 5) (by omega); simpa using h
              have af0 : w5.frozen? ⟨g, i * 5, none⟩ = false := (P5.out).frozen _
              have as1 : ∀ v0 : Value, (w5.setCell ⟨g, i * 5, none⟩ v0).cell? ⟨g, i * 5 + 1, none⟩ = some ((fun i => fC (q (i / 5)) (i % 5)) (i * 5 + 1)) := fun v0 => by have h := ((P5.out.set_ (i * 5) v0)).cell (i := i * 5 + 1) (by omega); simpa using h
              have af1 : ∀ v0 : Value, (w5.setCell ⟨g, i * 5, none⟩ v0).frozen? ⟨g, i * 5 + 1, none⟩ = false := fun v0 => ((P5.out.set_ (i * 5) v0)).frozen _
              have as2 : ∀ v0 v1 : Value, ((w5.setCell ⟨g, i * 5, none⟩ v0).setCell ⟨g, i * 5 + 1, none⟩ v1).cell? ⟨g, i * 5 + 2, none⟩ = some ((fun i => fC (q (i / 5)) (i % 5)) (i * 5 + 2)) := fun v0 v1 => by have h := (((P5.out.set_ (i * 5) v0).set_ (i * 5 + 1) v1)).cell (i := i * 5 + 2) (by omega); simpa using h
              have af2 : ∀ v0 v1 : Value, ((w5.setCell ⟨g, i * 5, none⟩ v0).setCell ⟨g, i * 5 + 1, none⟩ v1).frozen? ⟨g, i * 5 + 2, none⟩ = false := fun v0 v1 => (((P5.out.set_ (i * 5) v0).set_ (i * 5 + 1) v1)).frozen _
              have as3 : ∀ v0 v1 v2 : Value, (((w5.setCell ⟨g, i * 5, none⟩ v0).setCell ⟨g, i * 5 + 1, none⟩ v1).setCell ⟨g, i * 5 + 2, none⟩ v2).cell? ⟨g, i * 5 + 3, none⟩ = some ((fun i => fC (q (i / 5)) (i % 5)) (i * 5 + 3)) := fun v0 v1 v2 => by have h := ((((P5.out.set_ (i * 5) v0).set_ (i * 5 + 1) v1).set_ (i * 5 + 2) v2)).cell (i := i * 5 + 3) (by omega); simpa using h
              have af3 : ∀ v0 v1 v2 : Value, (((w5.setCell ⟨g, i * 5, none⟩ v0).setCell ⟨g, i * 5 + 1, none⟩ v1).setCell ⟨g, i * 5 + 2, none⟩ v2).frozen? ⟨g, i * 5 + 3, none⟩ = false := fun v0 v1 v2 => ((((P5.out.set_ (i * 5) v0).set_ (i * 5 + 1) v1).set_ (i * 5 + 2) v2)).frozen _
              have as4 : ∀ v0 v1 v2 v3 : Value, ((((w5.setCell ⟨g, i * 5, none⟩ v0).setCell ⟨g, i * 5 + 1, none⟩ v1).setCell ⟨g, i * 5 + 2, none⟩ v2).setCell ⟨g, i * 5 + 3, none⟩ v3).cell? ⟨g, i * 5 + 4, none⟩ = some ((fun i => fC (q (i / 5)) (i % 5)) (i * 5 + 4)) := fun v0 v1 v2 v3 => by have h := (((((P5.out.set_ (i * 5) v0).set_ (i * 5 + 1) v1).set_ (i * 5 + 2) v2).set_ (i * 5 + 3) v3)).cell (i := i * 5 + 4) (by omega); simpa using h
              have af4 : ∀ v0 v1 v2 v3 : Value, ((((w5.setCell ⟨g, i * 5, none⟩ v0).setCell ⟨g, i * 5 + 1, none⟩ v1).setCell ⟨g, i * 5 + 2, none⟩ v2).setCell ⟨g, i * 5 + 3, none⟩ v3).frozen? ⟨g, i * 5 + 4, none⟩ = false := fun v0 v1 v2 v3 => (((((P5.out.set_ (i * 5) v0).set_ (i * 5 + 1) v1).set_ (i * 5 + 2) v2).set_ (i * 5 + 3) v3)).frozen _
              iterate 18 (refine Cl.tree_r rfl ?_; go_big_quiet_step (fail); refine wpQuiet_nil ?_)
              refine Cl.tree_b rfl rfl ?_ ?_
              · skip
                go_wp2_with fail
                refine Cl.way_on (Cl.Keeps.refl _ _) ?_
                refine Cl.tree_c rfl ?_
                go_wp2_with fail
                refine Cl.way_on (Cl.Keeps.refl _ _) ?_
                refine Cl.tree_r rfl ?_
                go_big_quiet_step (fail)
                refine wpQuiet_nil ?_
                refine Cl.tree_c rfl ?_
                go_wp2_with fail
                have P6 := Lib.hid (pv5_set P5.out i ⟨p0, p1, p2, p3, p4⟩)
                have S6 := Lib.hid (rest5 (w6 := (((((w5.setCell ⟨g, i * 5, none⟩ (.int .i64 p0)).setCell ⟨g, i * 5 + 1, none⟩ (.int .i64 p1)).setCell ⟨g, i * 5 + 2, none⟩ (.int .i64 p2)).setCell ⟨g, i * 5 + 3, none⟩ (.int .i64 p3)).setCell ⟨g, i * 5 + 4, none⟩ (.int .i64 p4))) (Nat.le_trans hw3.out hg.out) S5.out hAg.out (size5 (i * 5) (i * 5 + 1) (i * 5 + 2) (i * 5 + 3) (i * 5 + 4) (.int .i64 p0) (.int .i64 p1) (.int .i64 p2) (.int .i64 p3) (.int .i64 p4)) (keep5 (i * 5) (i * 5 + 1) (i * 5 + 2) (i * 5 + 3) (i * 5 + 4) (.int .i64 p0) (.int .i64 p1) (.int .i64 p2) (.int .i64 p3) (.int .i64 p4)) rfl rfl rfl)
                refine Cl.way_on (keeps_by rfl rfl rfl (size5 (i * 5) (i * 5 + 1) (i * 5 + 2) (i * 5 + 3) (i * 5 + 4) (.int .i64 p0) (.int .i64 p1) (.int .i64 p2) (.int .i64 p3) (.int .i64 p4)) (keep5 (i * 5) (i * 5 + 1) (i * 5 + 2) (i * 5 + 3) (i * 5 + 4) (.int .i64 p0) (.int .i64 p1) (.int .i64 p2) (.int .i64 p3) (.int .i64 p4))) ?_
                clear P5 S5 hgw5 tq0 uq0 as0 af0 tq1 uq1 as1 af1 tq2 uq2 as2 af2 tq3 uq3 as3 af3 tq4 uq4 as4 af4
                generalize (((((w5.setCell ⟨g, i * 5, none⟩ (.int .i64 p0)).setCell ⟨g, i * 5 + 1, none⟩ (.int .i64 p1)).setCell ⟨g, i * 5 + 2, none⟩ (.int .i64 p2)).setCell ⟨g, i * 5 + 3, none⟩ (.int .i64 p3)).setCell ⟨g, i * 5 + 4, none⟩ (.int .i64 p4)) = w6 at *
                refine Cl.tree_r rfl ?_
                go_big_quiet_step (fail)
                refine wpQuiet_nil ?_
                refine Cl.tree_z rfl ?_
                have bs0 : w6.cell? ⟨g, K * 5, none⟩ = some ((fun j => fC (if j / 5 = i then ⟨p0, p1, p2, p3, p4⟩ else q (j / 5)) (j % 5)) (K * 5)) := by have h := (P6.out).cell (i := K * 5) (by omega); simpa using h
                have bf0 : w6.frozen? ⟨g, K * 5, none⟩ = false := (P6.out).frozen _
                have bs1 : ∀ v0 : Value, (w6.setCell ⟨g, K * 5, none⟩ v0).cell? ⟨g, K * 5 + 1, none⟩ = some ((fun j => fC (if j / 5 = i then ⟨p0, p1, p2, p3, p4⟩ else q (j / 5)) (j % 5)) (K * 5 + 1)) := fun v0 => by have h := ((P6.out.set_ (K * 5) v0)).cell (i := K * 5 + 1) (by omega); simpa using h
                have bf1 : ∀ v0 : Value, (w6.setCell ⟨g, K * 5, none⟩ v0).frozen? ⟨g, K * 5 + 1, none⟩ = false := fun v0 => ((P6.out.set_ (K * 5) v0)).frozen _
                have bs2 : ∀ v0 v1 : Value, ((w6.setCell ⟨g, K * 5, none⟩ v0).setCell ⟨g, K * 5 + 1, none⟩ v1).cell? ⟨g, K * 5 + 2, none⟩ = some ((fun j => fC (if j / 5 = i then ⟨p0, p1, p2, p3, p4⟩ else q (j / 5)) (j % 5)) (K * 5 + 2)) := fun v0 v1 => by have h := (((P6.out.set_ (K * 5) v0).set_ (K * 5 + 1) v1)).cell (i := K * 5 + 2) (by omega); simpa using h
                have bf2 : ∀ v0 v1 : Value, ((w6.setCell ⟨g, K * 5, none⟩ v0).setCell ⟨g, K * 5 + 1, none⟩ v1).frozen? ⟨g, K * 5 + 2, none⟩ = false := fun v0 v1 => (((P6.out.set_ (K * 5) v0).set_ (K * 5 + 1) v1)).frozen _
                have bs3 : ∀ v0 v1 v2 : Value, (((w6.setCell ⟨g, K * 5, none⟩ v0).setCell ⟨g, K * 5 + 1, none⟩ v1).setCell ⟨g, K * 5 + 2, none⟩ v2).cell? ⟨g, K * 5 + 3, none⟩ = some ((fun j => fC (if j / 5 = i then ⟨p0, p1, p2, p3, p4⟩ else q (j / 5)) (j % 5)) (K * 5 + 3)) := fun v0 v1 v2 => by have h := ((((P6.out.set_ (K * 5) v0).set_ (K * 5 + 1) v1).set_ (K * 5 + 2) v2)).cell (i := K * 5 + 3) (by omega); simpa using h
                have bf3 : ∀ v0 v1 v2 : Value, (((w6.setCell ⟨g, K * 5, none⟩ v0).setCell ⟨g, K * 5 + 1, none⟩ v1).setCell ⟨g, K * 5 + 2, none⟩ v2).frozen? ⟨g, K * 5 + 3, none⟩ = false := fun v0 v1 v2 => ((((P6.out.set_ (K * 5) v0).set_ (K * 5 + 1) v1).set_ (K * 5 + 2) v2)).frozen _
                have bs4 : ∀ v0 v1 v2 v3 : Value, ((((w6.setCell ⟨g, K * 5, none⟩ v0).setCell ⟨g, K * 5 + 1, none⟩ v1).setCell ⟨g, K * 5 + 2, none⟩ v2).setCell ⟨g, K * 5 + 3, none⟩ v3).cell? ⟨g, K * 5 + 4, none⟩ = some ((fun j => fC (if j / 5 = i then ⟨p0, p1, p2, p3, p4⟩ else q (j / 5)) (j % 5)) (K * 5 + 4)) := fun v0 v1 v2 v3 => by have h := (((((P6.out.set_ (K * 5) v0).set_ (K * 5 + 1) v1).set_ (K * 5 + 2) v2).set_ (K * 5 + 3) v3)).cell (i := K * 5 + 4) (by omega); simpa using h
                have bf4 : ∀ v0 v1 v2 v3 : Value, ((((w6.setCell ⟨g, K * 5, none⟩ v0).setCell ⟨g, K * 5 + 1, none⟩ v1).setCell ⟨g, K * 5 + 2, none⟩ v2).setCell ⟨g, K * 5 + 3, none⟩ v3).frozen? ⟨g, K * 5 + 4, none⟩ = false := fun v0 v1 v2 v3 => (((((P6.out.set_ (K * 5) v0).set_ (K * 5 + 1) v1).set_ (K * 5 + 2) v2).set_ (K * 5 + 3) v3)).frozen _
                go_wp2_with fail
                refine Cl.Calm.normal ?_
                have P7 := Lib.hid (pv5_set (q := fun t => if t = i then ⟨p0, p1, p2, p3, p4⟩ else q t) P6.out K ⟨r0, r1, r2, r3, r4⟩)
                have S7 := Lib.hid (rest5 (w6 := (((((w6.setCell ⟨g, K * 5, none⟩ (.int .i64 r0)).setCell ⟨g, K * 5 + 1, none⟩ (.int .i64 r1)).setCell ⟨g, K * 5 + 2, none⟩ (.int .i64 r2)).setCell ⟨g, K * 5 + 3, none⟩ (.int .i64 r3)).setCell ⟨g, K * 5 + 4, none⟩ (.int .i64 r4))) (Nat.le_trans hw3.out hg.out) S6.out hAg.out (size5 (K * 5) (K * 5 + 1) (K * 5 + 2) (K * 5 + 3) (K * 5 + 4) (.int .i64 r0) (.int .i64 r1) (.int .i64 r2) (.int .i64 r3) (.int .i64 r4)) (keep5 (K * 5) (K * 5 + 1) (K * 5 + 2) (K * 5 + 3) (K * 5 + 4) (.int .i64 r0) (.int .i64 r1) (.int .i64 r2) (.int .i64 r3) (.int .i64 r4)) rfl rfl rfl)
                clear P6 S6 bs0 bf0 bs1 bf1 bs2 bf2 bs3 bf3 bs4 bf4
                generalize (((((w6.setCell ⟨g, K * 5, none⟩ (.int .i64 r0)).setCell ⟨g, K * 5 + 1, none⟩ (.int .i64 r1)).setCell ⟨g, K * 5 + 2, none⟩ (.int .i64 r2)).setCell ⟨g, K * 5 + 3, none⟩ (.int .i64 r3)).setCell ⟨g, K * 5 + 4, none⟩ (.int .i64 r4)) = w7 at *
                have S8 := Lib.hid (show OS w w3 w7 A (rowsO x k) (some ⟨g, 0, none⟩) k (fun t => if t = K then q i else if t = i then q K else q t) from ⟨S7.out.1, Or.inr ⟨g, rfl, hg.out, by rw [hp.out, hr.out]; exact P7.out⟩, fun v => (swap_mem hik hKk v).trans (hsm.out v), S7.out.2⟩)
                clear P7 S7
                go_wp2_with fail
                go_roundw
                case rel => exact ⟨i + 1, _, by first | rw [hi1] | go_num, by omega, S8⟩
                case measure => (try rw [hi1]); simp [intOf]; omega
              · skip
                go_wp2_with fail
                refine Cl.way_on (Cl.Keeps.refl _ _) ?_
                refine Cl.tree_c rfl ?_
                go_wp2_with fail
                refine Cl.way_on (Cl.Keeps.refl _ _) ?_
                refine Cl.tree_r rfl ?_
                go_big_quiet_step (fail)
                refine wpQuiet_nil ?_
                refine Cl.tree_c rfl ?_
                go_wp2_with fail
                have P6 := Lib.hid (pv5_set P5.out i ⟨p0, p1, p2, p3, p4⟩)
                have S6 := Lib.hid (rest5 (w6 := (((((w5.setCell ⟨g, i * 5, none⟩ (.int .i64 p0)).setCell ⟨g, i * 5 + 1, none⟩ (.int .i64 p1)).setCell ⟨g, i * 5 + 2, none⟩ (.int .i64 p2)).setCell ⟨g, i * 5 + 3, none⟩ (.int .i64 p3)).setCell ⟨g, i * 5 + 4, none⟩ (.int .i64 p4))) (Nat.le_trans hw3.out hg.out) S5.out hAg.out (size5 (i * 5) (i * 5 + 1) (i * 5 + 2) (i * 5 + 3) (i * 5 + 4) (.int .i64 p0) (.int .i64 p1) (.int .i64 p2) (.int .i64 p3) (.int .i64 p4)) (keep5 (i * 5) (i * 5 + 1) (i * 5 + 2) (i * 5 + 3) (i * 5 + 4) (.int .i64 p0) (.int .i64 p1) (.int .i64 p2) (.int .i64 p3) (.int .i64 p4)) rfl rfl rfl)
                refine Cl.way_on (keeps_by rfl rfl rfl (size5 (i * 5) (i * 5 + 1) (i * 5 + 2) (i * 5 + 3) (i * 5 + 4) (.int .i64 p0) (.int .i64 p1) (.int .i64 p2) (.int .i64 p3) (.int .i64 p4)) (keep5 (i * 5) (i * 5 + 1) (i * 5 + 2) (i * 5 + 3) (i * 5 + 4) (.int .i64 p0) (.int .i64 p1) (.int .i64 p2) (.int .i64 p3) (.int .i64 p4))) ?_
                clear P5 S5 hgw5 tq0 uq0 as0 af0 tq1 uq1 as1 af1 tq2 uq2 as2 af2 tq3 uq3 as3 af3 tq4 uq4 as4 af4
                generalize (((((w5.setCell ⟨g, i * 5, none⟩ (.int .i64 p0)).setCell ⟨g, i * 5 + 1, none⟩ (.int .i64 p1)).setCell ⟨g, i * 5 + 2, none⟩ (.int .i64 p2)).setCell ⟨g, i * 5 + 3, none⟩ (.int .i64 p3)).setCell ⟨g, i * 5 + 4, none⟩ (.int .i64 p4)) = w6 at *
                refine Cl.tree_r rfl ?_
                go_big_quiet_step (fail)
                refine wpQuiet_nil ?_
                refine Cl.tree_z rfl ?_
                have bs0 : w6.cell? ⟨g, K * 5, none⟩ = some ((fun j => fC (if j / 5 = i then ⟨p0, p1, p2, p3, p4⟩ else q (j / 5)) (j % 5)) (K * 5)) := by have h := (P6.out).cell (i := K * 5) (by omega); simpa using h
                have bf0 : w6.frozen? ⟨g, K * 5, none⟩ = false := (P6.out).frozen _
                have bs1 : ∀ v0 : Value, (w6.setCell ⟨g, K * 5, none⟩ v0).cell? ⟨g, K * 5 + 1, none⟩ = some ((fun j => fC (if j / 5 = i then ⟨p0, p1, p2, p3, p4⟩ else q (j / 5)) (j % 5)) (K * 5 + 1)) := fun v0 => by have h := ((P6.out.set_ (K * 5) v0)).cell (i := K * 5 + 1) (by omega); simpa using h
                have bf1 : ∀ v0 : Value, (w6.setCell ⟨g, K * 5, none⟩ v0).frozen? ⟨g, K * 5 + 1, none⟩ = false := fun v0 => ((P6.out.set_ (K * 5) v0)).frozen _
                have bs2 : ∀ v0 v1 : Value, ((w6.setCell ⟨g, K * 5, none⟩ v0).setCell ⟨g, K * 5 + 1, none⟩ v1).cell? ⟨g, K * 5 + 2, none⟩ = some ((fun j => fC (if j / 5 = i then ⟨p0, p1, p2, p3, p4⟩ else q (j / 5)) (j % 5)) (K * 5 + 2)) := fun v0 v1 => by have h := (((P6.out.set_ (K * 5) v0).set_ (K * 5 + 1) v1)).cell (i := K * 5 + 2) (by omega); simpa using h
                have bf2 : ∀ v0 v1 : Value, ((w6.setCell ⟨g, K * 5, none⟩ v0).setCell ⟨g, K * 5 + 1, none⟩ v1).frozen? ⟨g, K * 5 + 2, none⟩ = false := fun v0 v1 => (((P6.out.set_ (K * 5) v0).set_ (K * 5 + 1) v1)).frozen _
                have bs3 : ∀ v0 v1 v2 : Value, (((w6.setCell ⟨g, K * 5, none⟩ v0).setCell ⟨g, K * 5 + 1, none⟩ v1).setCell ⟨g, K * 5 + 2, none⟩ v2).cell? ⟨g, K * 5 + 3, none⟩ = some ((fun j => fC (if j / 5 = i then ⟨p0, p1, p2, p3, p4⟩ else q (j / 5)) (j % 5)) (K * 5 + 3)) := fun v0 v1 v2 => by have h := ((((P6.out.set_ (K * 5) v0).set_ (K * 5 + 1) v1).set_ (K * 5 + 2) v2)).cell (i := K * 5 + 3) (by omega); simpa using h
                have bf3 : ∀ v0 v1 v2 : Value, (((w6.setCell ⟨g, K * 5, none⟩ v0).setCell ⟨g, K * 5 + 1, none⟩ v1).setCell ⟨g, K * 5 + 2, none⟩ v2).frozen? ⟨g, K * 5 + 3, none⟩ = false := fun v0 v1 v2 => ((((P6.out.set_ (K * 5) v0).set_ (K * 5 + 1) v1).set_ (K * 5 + 2) v2)).frozen _
                have bs4 : ∀ v0 v1 v2 v3 : Value, ((((w6.setCell ⟨g, K * 5, none⟩ v0).setCell ⟨g, K * 5 + 1, none⟩ v1).setCell ⟨g, K * 5 + 2, none⟩ v2).setCell ⟨g, K * 5 + 3, none⟩ v3).cell? ⟨g, K * 5 + 4, none⟩ = some ((fun j => fC (if j / 5 = i then ⟨p0, p1, p2, p3, p4⟩ else q (j / 5)) (j % 5)) (K * 5 + 4)) := fun v0 v1 v2 v3 => by have h := (((((P6.out.set_ (K * 5) v0).set_ (K * 5 + 1) v1).set_ (K * 5 + 2) v2).set_ (K * 5 + 3) v3)).cell (i := K * 5 + 4) (by omega); simpa using h
                have bf4 : ∀ v0 v1 v2 v3 : Value, ((((w6.setCell ⟨g, K * 5, none⟩ v0).setCell ⟨g, K * 5 + 1, none⟩ v1).setCell ⟨g, K * 5 + 2, none⟩ v2).setCell ⟨g, K * 5 + 3, none⟩ v3).frozen? ⟨g, K * 5 + 4, none⟩ = false := fun v0 v1 v2 v3 => (((((P6.out.set_ (K * 5) v0).set_ (K * 5 + 1) v1).set_ (K * 5 + 2) v2).set_ (K * 5 + 3) v3)).frozen _
                go_wp2_with fail
                refine Cl.Calm.normal ?_
                have P7 := Lib.hid (pv5_set (q := fun t => if t = i then ⟨p0, p1, p2, p3, p4⟩ else q t) P6.out K ⟨r0, r1, r2, r3, r4⟩)
                have S7 := Lib.hid (rest5 (w6 := (((((w6.setCell ⟨g, K * 5, none⟩ (.int .i64 r0)).setCell ⟨g, K * 5 + 1, none⟩ (.int .i64 r1)).setCell ⟨g, K * 5 + 2, none⟩ (.int .i64 r2)).setCell ⟨g, K * 5 + 3, none⟩ (.int .i64 r3)).setCell ⟨g, K * 5 + 4, none⟩ (.int .i64 r4))) (Nat.le_trans hw3.out hg.out) S6.out hAg.out (size5 (K * 5) (K * 5 + 1) (K * 5 + 2) (K * 5 + 3) (K * 5 + 4) (.int .i64 r0) (.int .i64 r1) (.int .i64 r2) (.int .i64 r3) (.int .i64 r4)) (keep5 (K * 5) (K * 5 + 1) (K * 5 + 2) (K * 5 + 3) (K * 5 + 4) (.int .i64 r0) (.int .i64 r1) (.int .i64 r2) (.int .i64 r3) (.int .i64 r4)) rfl rfl rfl)
                clear P6 S6 bs0 bf0 bs1 bf1 bs2 bf2 bs3 bf3 bs4 bf4
                generalize (((((w6.setCell ⟨g, K * 5, none⟩ (.int .i64 r0)).setCell ⟨g, K * 5 + 1, none⟩ (.int .i64 r1)).setCell ⟨g, K * 5 + 2, none⟩ (.int .i64 r2)).setCell ⟨g, K * 5 + 3, none⟩ (.int .i64 r3)).setCell ⟨g, K * 5 + 4, none⟩ (.int .i64 r4)) = w7 at *
                have S8 := Lib.hid (show OS w w3 w7 A (rowsO x k) (some ⟨g, 0, none⟩) k (fun t => if t = K then q i else if t = i then q K else q t) from ⟨S7.out.1, Or.inr ⟨g, rfl, hg.out, by rw [hp.out, hr.out]; exact P7.out⟩, fun v => (swap_mem hik hKk v).trans (hsm.out v), S7.out.2⟩)
                clear P7 S7
                go_wp2_with fail
                go_roundw
                case rel => exact ⟨i + 1, _, by first | rw [hi1] | go_num, by omega, S8⟩
                case measure => (try rw [hi1]); simp [intOf]; omega
            · obtain rfl : i = Hf := by omega
              have hd : decide ((i : Int) < (i : Int)) = false := decide_eq_false (by omega)
              have hq := Lib.hid (rb_fs S1.out.rb)
              have hqm := Lib.hid (show ∀ v, v ∈ rowsO x k ↔ v ∈ listQ q k from fun v => by rw [listQ_mem]; exact (S1.out.same v).symm)
              have fl := Lib.hid S1.out.fl
              have hB := Lib.hid S1.out.b
              have hgt := Lib.hid (gtL_same hqm.out)
              have hties := Lib.hid (rows_ties x k)
              have hql := Lib.hid (listQ_len q k)
              have hpos := Lib.hid (rows_pos x k)
              have hpoq := Lib.hid (show ∀ v ∈ listQ q k, 0 ≤ v.sq from fun v hv => rows_pos x k v ((hqm.out v).2 hv))
              clear S1 hi' hiH
              generalize rowsO x k = l at *
              generalize listQ q k = l' at *
              have hc := Lib.hid (C'.out.latest (c := c') fl.out hlen.out (by omega))
              go_upto_region 19 with (go_at_call 9; first | ((with_reducible refine hc.out.mono ?_); clear hc; rintro e w8 ⟨A8, c8, m, rfl, hb8, hm, f8, _⟩; have fl8 := Lib.hid (FS.far fl.out hb8); have fq8 := FS.far hq.out hb8; have hB8 := Lib.hid (We.below_trans hB.out hb8); have hd2 := Lib.hid (C'.out.latest (c := c2) fq8 hql.out (by omega)); replace fq8 := Lib.hid fq8; replace hm := Lib.hid hm; replace f8 := Lib.hid f8; clear fl hq hB hb8) | ((with_reducible refine hd2.out.mono ?_); clear hd2; rintro e w9 ⟨A9, c9, m', rfl, hb9, hm', f9, _⟩; have fl9 := Lib.hid (FS.far fl8.out hb9); have fq9 := Lib.hid (FS.far fq8.out hb9); have fm9 := Lib.hid (FS.far f8.out hb9); have hB9 := Lib.hid (We.below_trans hB8.out hb9); replace f9 := Lib.hid f9; have hmm := hm.out.uniq hm' hqm.out hties.out; clear fl8 fq8 hB8 hb9 f8 hm'))
              subst hmm
              rename_i hml
              obtain ⟨N, hN⟩ : ∃ N, m.length = N := ⟨_, rfl⟩
              rw [hN] at hml ⊢
              replace hN := Lib.hid hN
              have hmu := Lib.hid (LatIs.self hm.out.ord)
              have hc1 := Lib.hid (C'.out.greatest (c := c') fl9.out hlen.out (by omega) hpos.out)
              clear hm hties hqm hbl
              go_wp2_with (go_at_call 10; (with_reducible refine hc1.out.mono ?_); clear hc1; rintro e w10 ⟨rfl, hb10⟩; have fq10 := FS.far fq9.out hb10; have fm10 := Lib.hid (FS.far fm9.out hb10); have f10 := Lib.hid (FS.far f9.out hb10); have hB10 := Lib.hid (We.below_trans hB9.out hb10); have hc2 := C'.out.greatest (c := c2) fq10 hql.out (by omega) hpoq.out; (rw [← hgt.out] at hc2); replace hc2 := Lib.hid hc2; clear fq10 fl9 fq9 fm9 f9 hB9 hb10; (generalize gtL l = gg at *))
              go_wp2_with (go_at_call 10; (with_reducible refine hc2.out.mono ?_); clear hc2; rintro e w11 ⟨rfl, hb11⟩; have S := Lib.hid (show LS w w11 A8 m A9 m from ⟨FS.far fm10.out hb11, FS.far f10.out hb11, We.below_trans hB10.out hb11⟩); clear fm10 f10 hB10 hb11)
              go_loopw [12] (fun p ws => ∃ t : Nat, p = .int .i64 (t : Int) ∧ t ≤ N ∧ Hid (LS w ws A8 m A9 m)) (fun p _ => N - (intOf p).toNat)
              case atStart => exact ⟨0, rfl, Nat.zero_le _, S⟩
              case round =>
                obtain ⟨t, rfl, ht', S1⟩ := hrel
                clear S
                by_cases htN : t < N
                · have htm := Lib.hid (show t < m.length by rw [hN.out]; exact htN)
                  have htI : (t : Int) < (N : Int) := by omega
                  have d5 : decide ((t : Int) < (N : Int)) = true := decide_eq_true htI
                  have ht1 : wrap64 ((t : Int) + 1) = ((t + 1 : Nat) : Int) := by rw [IntWalk.wrap64_in _ (by omega)]; omega
                  obtain ⟨a8, rfl⟩ := S1.out.fl.some_ htm.out
                  obtain ⟨a9, rfl⟩ := S1.out.fm.some_ htm.out
                  obtain ⟨⟨p0, p1, p2, p3, p4⟩, hx⟩ : ∃ X, fA m t = X := ⟨_, rfl⟩
                  go_wp2_with fail
                  refine Cl.region_way (fun _ => True) 8 [(0, .r), (1, .r), (2, .r), (3, .r), (4, .r), (5, .r), (6, .r), (7, .r), (8, .z)] (by kernel_rfl) (by kernel_rfl) ?_
                  intro w5 hk5
                  have S4 := Lib.hid (LS.keep S1.out hk5.below)
                  have q := Lib.hid (fun z : Cl.Since (fun _ => True) w5 => LS.keep S4.out z.keeps.below)
                  have t0 : ∀ z : Cl.Since (fun _ => True) w5, z.w.cell? (a8.add (t * 5)) = some (.int .i64 p0) := fun z => by have := (q.out z).fl.c0 htm.out; rw [hx] at this; exact this
                  have t1 : ∀ z : Cl.Since (fun _ => True) w5, z.w.cell? ⟨(a8.add (t * 5)).block, (a8.add (t * 5)).off + 1, none⟩ = some (.int .i64 p1) := fun z => by have := (q.out z).fl.c1 htm.out; rw [hx] at this; exact this
                  have t2 : ∀ z : Cl.Since (fun _ => True) w5, z.w.cell? ⟨(a8.add (t * 5)).block, (a8.add (t * 5)).off + 2, none⟩ = some (.int .i64 p2) := fun z => by have := (q.out z).fl.c2 htm.out; rw [hx] at this; exact this
                  have t3 : ∀ z : Cl.Since (fun _ => True) w5, z.w.cell? ⟨(a8.add (t * 5)).block, (a8.add (t * 5)).off + 3, none⟩ = some (.int .i64 p3) := fun z => by have := (q.out z).fl.c3 htm.out; rw [hx] at this; exact this
                  have t4 : ∀ z : Cl.Since (fun _ => True) w5, z.w.cell? ⟨(a8.add (t * 5)).block, (a8.add (t * 5)).off + 4, none⟩ = some (.int .i64 p4) := fun z => by have := (q.out z).fl.c4 htm.out; rw [hx] at this; exact this
                  have u0 : ∀ z : Cl.Since (fun _ => True) w5, z.w.cell? (a9.add (t * 5)) = some (.int .i64 p0) := fun z => by have := (q.out z).fm.c0 htm.out; rw [hx] at this; exact this
                  have u1 : ∀ z : Cl.Since (fun _ => True) w5, z.w.cell? ⟨(a9.add (t * 5)).block, (a9.add (t * 5)).off + 1, none⟩ = some (.int .i64 p1) := fun z => by have := (q.out z).fm.c1 htm.out; rw [hx] at this; exact this
                  have u2 : ∀ z : Cl.Since (fun _ => True) w5, z.w.cell? ⟨(a9.add (t * 5)).block, (a9.add (t * 5)).off + 2, none⟩ = some (.int .i64 p2) := fun z => by have := (q.out z).fm.c2 htm.out; rw [hx] at this; exact this
                  have u3 : ∀ z : Cl.Since (fun _ => True) w5, z.w.cell? ⟨(a9.add (t * 5)).block, (a9.add (t * 5)).off + 3, none⟩ = some (.int .i64 p3) := fun z => by have := (q.out z).fm.c3 htm.out; rw [hx] at this; exact this
                  have u4 : ∀ z : Cl.Since (fun _ => True) w5, z.w.cell? ⟨(a9.add (t * 5)).block, (a9.add (t * 5)).off + 4, none⟩ = some (.int .i64 p4) := fun z => by have := (q.out z).fm.c4 htm.out; rw [hx] at this; exact this
                  clear hk5 S1 q hx
                  iterate 8 (refine Cl.way_r rfl ?_; go_big_quiet_step (fail); refine wpQuiet_nil ?_)
                  refine Cl.way_z rfl ?_
                  clear t0 t1 t2 t3 t4 u0 u1 u2 u3 u4
                  go_wp2_with fail
                  refine Cl.Calm.normal ?_
                  go_wp2_with fail
                  go_roundw
                  case rel => exact ⟨t + 1, by first | rw [ht1] | go_num, by omega, S4⟩
                  case measure => (try rw [ht1]); simp [intOf]; omega
                · obtain rfl : t = N := by omega
                  have d5 : decide ((t : Int) < (t : Int)) = false := decide_eq_false (by omega)
                  have hc := Lib.hid (C'.out.latest (c := c8) S1.out.fl hN.out (by omega))
                  have hB := Lib.hid S1.out.b
                  clear S1
                  go_wp2_with (go_at_call 9; (with_reducible refine hc.out.mono ?_); clear hc; rintro e w12 ⟨A12, c12, m2, rfl, hb12, hm2, f12, _⟩; replace hB := Lib.hid (We.below_trans hB.out hb12); obtain rfl : m = m2 := (hmu.out.uniq hm2 (fun _ => Iff.rfl) (fun x hx y hy e _ _ => pw_uniq hmu.out.ord hx hy e)); (rw [hN.out]); clear hb12 hm2 f12)
                  go_ret
                  exact ⟨rfl, hB.out⟩
end Go.Proofs.YtjhoecfhmndcgaaGreat.Sc
namespace Go.Proofs.YtjhoecfhmndcgaaGreat.Sc
open Go.RowKit
set_option linter.unusedVariables false
set_option linter.unusedSimpArgs false
theorem u8_nat {a : Int} (h : (Lit.int .u8 a).wf = true) : ∃ n : Nat, n < 256 ∧ a = (n : Int) := by
  have hr : 0 ≤ a ∧ a < 256 := by simp [Lit.wf, IntKind.min, IntKind.max, IntKind.signed, IntKind.bits] at h; omega
  exact ⟨a.toNat, by omega, (Int.toNat_of_nonneg hr.1).symm⟩
theorem orders_row (C : SC) (A : Option Addr) (n : Nat) (x : Nat → Nat → Int) (c : Nat) (hl : n ≤ c) (hm : c ≤ maxLen) (a : Int) (ha : (Lit.int .u8 a).wf = true) (w : World) (hs : We.RF w w.heap.size A 3 n .u8 x) :
    Calls Tryz.prog 7 #[.slice A n c, .int .u8 a] w (We.Ans w (.bool true)) := by
  obtain ⟨T, hT, rfl⟩ := u8_nat ha
  have hx : ∀ i j, (x i j).toNat < 256 ∧ x i j = (((x i j).toNat : Nat) : Int) := fun i j => by
    obtain ⟨m, h1, h2⟩ := u8_nat (hs.1 i j)
    rw [h2]; exact ⟨by omega, rfl⟩
  have e : x = fun i j => (((x i j).toNat : Nat) : Int) := by funext i j; exact (hx i j).2
  rw [e] at hs
  exact orders_law C A n c (fun i j => (x i j).toNat) T hT w hs fun i j => (hx i j).1
end Go.Proofs.YtjhoecfhmndcgaaGreat.Sc
