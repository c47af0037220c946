/- The device while it is made: what of it lies where. -/
import Derived.Test.YtnndhbppgmnefaaDn
namespace Go.Proofs.Ytnndhbppgmnefaa
open Go.RowKit
set_option linter.unusedVariables false
set_option linter.unusedSimpArgs false
theorem info68 : (Try.prog.info? 68).map (fun i => (i.zero, i.size, i.bytes)) = some (some (.agg #[.slice none 0 0, .int .i64 0, .bool false, .bool false]), 4, 40) := by kernel_rfl
/-- n blocks of nothing -/
def zB (n : Nat) : Array Value := madeCells #[.slice none 0 0, .int .i64 0, .bool false, .bool false] (n * 4)
theorem zB_size (n : Nat) : (zB n).size = n * 4 := size_madeCells _ _
theorem zB_at {n i q : Nat} (h : i < n) (hq : q < 4) : (zB n)[i * 4 + q]? = (#[.slice none 0 0, .int .i64 0, .bool false, .bool false] : Array Value)[q]? := by
  unfold zB madeCells
  have e : (i * 4 + q) % 4 = q := by omega
  rcases (by omega : q = 0 ∨ q = 1 ∨ q = 2 ∨ q = 3) with rfl | rfl | rfl | rfl
  · simp [show i * 4 < n * 4 by omega]
  · simp [show i * 4 + 1 < n * 4 by omega, e]
  · simp [show i * 4 + 2 < n * 4 by omega, e]
  · simp [show i * 4 + 3 < n * 4 by omega, e]
theorem run_makeB (w : World) (n : Nat) (hn : n ≤ 65536) : (Instr.makeSlice 61 (.int .i64 (n : Int)) (.int .i64 (n : Int))).run Try.prog w = .ok (.slice (some ⟨w.heap.size, 0, none⟩) n n) (w.alloc (.cells (zB n) 68)) := by
  have hi0 := info68
  obtain ⟨i, hi, hrest⟩ := Option.map_eq_some_iff.1 hi0
  simp only [Prod.mk.injEq] at hrest
  obtain ⟨i1, i2, i3⟩ := hrest
  have h := run_make (P := Try.prog) w 61 68 i _ Try.underlying61 hi i1 .i64 .i64 (n : Int) (n : Int) (by omega) (Int.le_refl _) (by rw [i3]; omega) (by omega)
  rw [i2, Int.toNat_natCast] at h
  exact h
/-- the device's own block, ahead of its fates -/
def headC (kb cb B P W K : Nat) : Array Value := #[.int .i64 (B : Int), .int .i64 (P : Int), .int .i64 (W : Int), .int .i64 (K : Int), .slice (some ⟨kb, 0, none⟩) B cb, .pointer none, .int .i64 0, .int .i64 0, .bool false]
/-- a device with m blocks' pages, without fates -/
structure Part (w : World) (lo : Nat) (o : Nat → Nat) (g kb cb B P W K m : Nat) (md : Nat → Bool) (kp cp : Nat → Nat) (pa : Nat → Nat → Addr) : Prop where
  new : ∀ b, w.heap.size ≤ b → o b = 9
  gl : lo ≤ g ∧ g < w.heap.size
  gt : o g = 0
  gh : w.heap[g]? = some (.cells (headC kb cb B P W K) 64 (0, 0))
  kl : lo ≤ kb ∧ kb < w.heap.size
  kt : o kb = 1
  kr : ∃ cs, w.heap[kb]? = some (.cells cs 68 (0, 0)) ∧ B * 4 ≤ cs.size
  k0 : ∀ i, i < m → w.cell? ⟨kb, i * 4, none⟩ = some (.slice (some ⟨kp i, 0, none⟩) P (cp i))
  k1 : ∀ i, i < B → w.cell? ⟨kb, i * 4 + 1, none⟩ = some (.int .i64 0)
  k2 : ∀ i, i < B → w.cell? ⟨kb, i * 4 + 2, none⟩ = some (.bool (md i))
  k3 : ∀ i, i < B → w.cell? ⟨kb, i * 4 + 3, none⟩ = some (.bool false)
  pl : ∀ i, i < m → lo ≤ kp i ∧ kp i < w.heap.size
  pt : ∀ i, i < m → o (kp i) = 2
  pc : ∀ i, i < m → P ≤ cp i
  pp : ∀ i, i < m → ∀ j, j < P → w.cell? ⟨kp i, j, none⟩ = some (.pointer (some (pa i j)))
  pg : ∀ i, i < m → ∀ j, j < P → Page w (fun b => lo ≤ b ∧ o b = tg P i j) (pa i j) (List.replicate (W * (K + 16)) (0, 0)) [] 0
section
variable {w w' : World} {lo g kb cb B P W K m : Nat} {o : Nat → Nat} {md : Nat → Bool} {kp cp : Nat → Nat} {pa : Nat → Nat → Addr}
theorem Part.below (h : Part w lo o g kb cb B P W K m md kp cp pa) (hb : Below w.heap.size w w') : Part w' lo o g kb cb B P W K m md kp cp pa where
  new := fun b hb' => h.new b (Nat.le_trans hb.size hb')
  gl := ⟨h.gl.1, Nat.lt_of_lt_of_le h.gl.2 hb.size⟩
  gt := h.gt
  gh := (hb.block g h.gl.2).trans h.gh
  kl := ⟨h.kl.1, Nat.lt_of_lt_of_le h.kl.2 hb.size⟩
  kt := h.kt
  kr := by obtain ⟨cs, h1, h2⟩ := h.kr; exact ⟨cs, (hb.block kb h.kl.2).trans h1, h2⟩
  k0 := fun i hi => (hb.cell (p := ⟨kb, i * 4, none⟩) h.kl.2).trans (h.k0 i hi)
  k1 := fun i hi => (hb.cell (p := ⟨kb, i * 4 + 1, none⟩) h.kl.2).trans (h.k1 i hi)
  k2 := fun i hi => (hb.cell (p := ⟨kb, i * 4 + 2, none⟩) h.kl.2).trans (h.k2 i hi)
  k3 := fun i hi => (hb.cell (p := ⟨kb, i * 4 + 3, none⟩) h.kl.2).trans (h.k3 i hi)
  pl := fun i hi => ⟨(h.pl i hi).1, Nat.lt_of_lt_of_le (h.pl i hi).2 hb.size⟩
  pt := h.pt
  pc := h.pc
  pp := fun i hi j hj => (hb.cell (p := ⟨kp i, j, none⟩) (h.pl i hi).2).trans (h.pp i hi j hj)
  pg := fun i hi j hj => (h.pg i hi j hj).below hb
theorem Part.cellk (h : Part w lo o g kb cb B P W K m md kp cp pa) {i q : Nat} (hi : i < B) (hq : q < 4) : (∃ v, w.cell? ⟨kb, i * 4 + q, none⟩ = some v) ∧ w.frozen? ⟨kb, i * 4 + q, none⟩ = false := by
  obtain ⟨cs, h1, h2⟩ := h.kr
  exact ⟨⟨cs[i * 4 + q]'(by omega), by rw [cell_of h1, Array.getElem?_eq_getElem (by omega)]⟩, frozen_new h1 _⟩
theorem kr_set {cs : Array Value} {q n : Nat} {v : Value} (h : w.heap[kb]? = some (.cells cs 68 (0, 0))) (hn : n ≤ cs.size) : ∃ cs', (w.setCell ⟨kb, q, none⟩ v).heap[kb]? = some (.cells cs' 68 (0, 0)) ∧ n ≤ cs'.size := by
  refine ⟨cs.setIfInBounds q v, ?_, by simpa using hn⟩
  simp only [World.setCell]
  rw [Array.getElem?_modify, h]
  simp
/-- one block more has its pages -/
theorem Part.put (h : Part w lo o g kb cb B P W K m md kp cp pa) (hm : m < B) (hb : Below w.heap.size w w') {k : Nat} {pa1 : Nat → Addr} {t : Nat → Nat} (hr : Row w' w.heap.size k P (W * (K + 16)) P pa1 t) :
    ∃ o' kp' cp' pa', Part (w'.setCell ⟨kb, m * 4, none⟩ (.slice (some ⟨k, 0, none⟩) P P)) lo o' g kb cb B P W K (m + 1) md kp' cp' pa' := by
  have h' := h.below hb
  obtain ⟨cs, hcs, hsz⟩ := h'.kr
  have hcell : w'.cell? ⟨kb, m * 4, none⟩ = some (cs[m * 4]'(by omega)) := by rw [cell_of hcs, Array.getElem?_eq_getElem (by omega)]
  have hs : (w'.setCell ⟨kb, m * 4, none⟩ (.slice (some ⟨k, 0, none⟩) P P)).heap.size = w'.heap.size := by simp [World.setCell]
  have ot : ∀ b, b ≠ kb → (w'.setCell ⟨kb, m * 4, none⟩ (.slice (some ⟨k, 0, none⟩) P P)).heap[b]? = w'.heap[b]? := fun b hb => Below.heap_setCell _ _ _ _ (by show b ≠ kb; exact hb)
  have oc : ∀ i, i ≠ m * 4 → (w'.setCell ⟨kb, m * 4, none⟩ (.slice (some ⟨k, 0, none⟩) P P)).cell? ⟨kb, i, none⟩ = w'.cell? ⟨kb, i, none⟩ := fun i hi => World.cell?_setCell_other _ _ _ _ (by intro e; injection e; omega)
  have hkl := h.kl
  have hlo : lo ≤ w.heap.size := by omega
  let o' : Nat → Nat := fun b => if w.heap.size ≤ b ∧ b < w'.heap.size then (if 10 ≤ t b ∧ t b < 10 + P then tg P m (t b - 10) else if t b = 2 then 2 else 9) else o b
  have o1 : ∀ b, b < w.heap.size → o' b = o b := fun b hb => if_neg (by omega)
  have o2 : ∀ b, w.heap.size ≤ b → b < w'.heap.size → o' b = (if 10 ≤ t b ∧ t b < 10 + P then tg P m (t b - 10) else if t b = 2 then 2 else 9) := fun b h1 h2 => if_pos ⟨h1, h2⟩
  have hkk : k ≠ kb := by have := hr.kl; omega
  refine ⟨o', fun i => if i = m then k else kp i, fun i => if i = m then P else cp i, fun i j => if i = m then pa1 j else pa i j, ?_⟩
  exact {
    new := fun b hb' => by
      rw [hs] at hb'
      show (if w.heap.size ≤ b ∧ b < w'.heap.size then _ else o b) = 9
      rw [if_neg (by omega)]
      exact h'.new b hb'
    gl := ⟨h'.gl.1, by rw [hs]; exact h'.gl.2⟩
    gt := (o1 g h.gl.2).trans h.gt
    gh := (ot g (fun e => by have h1 := h.gt; rw [e, h.kt] at h1; cases h1)).trans h'.gh
    kl := ⟨h'.kl.1, by rw [hs]; exact h'.kl.2⟩
    kt := (o1 kb h.kl.2).trans h.kt
    kr := kr_set hcs hsz
    k0 := fun i hi => by
      show _ = some (Value.slice (some ⟨if i = m then k else kp i, 0, none⟩) P (if i = m then P else cp i))
      by_cases e : i = m
      · subst e
        rw [if_pos rfl, if_pos rfl]
        exact World.cell?_setCell_same _ _ _ hcell
      · rw [if_neg e, if_neg e]
        exact (oc _ (by omega)).trans (h'.k0 i (by omega))
    k1 := fun i hi => (oc _ (by omega)).trans (h'.k1 i hi)
    k2 := fun i hi => (oc _ (by omega)).trans (h'.k2 i hi)
    k3 := fun i hi => (oc _ (by omega)).trans (h'.k3 i hi)
    pl := fun i hi => by
      show lo ≤ (if i = m then k else kp i) ∧ (if i = m then k else kp i) < _
      rw [hs]
      by_cases e : i = m
      · rw [if_pos e]; have := hr.kl; omega
      · rw [if_neg e]; exact h'.pl i (by omega)
    pt := fun i hi => by
      show o' (if i = m then k else kp i) = 2
      by_cases e : i = m
      · rw [if_pos e, o2 k hr.kl.1 hr.kl.2, hr.kt]
        rfl
      · rw [if_neg e, o1 _ (h.pl i (by omega)).2]; exact h.pt i (by omega)
    pc := fun i hi => by
      show P ≤ (if i = m then P else cp i)
      by_cases e : i = m
      · rw [if_pos e]; exact Nat.le_refl _
      · rw [if_neg e]; exact h.pc i (by omega)
    pp := fun i hi j hj => by
      show (w'.setCell _ _).cell? ⟨if i = m then k else kp i, j, none⟩ = some (Value.pointer (some (if i = m then pa1 j else pa i j)))
      by_cases e : i = m
      · rw [if_pos e, if_pos e]
        exact (World.cell?_of_block (a := ⟨k, j, none⟩) (ot k hkk)).trans (hr.pp j hj)
      · rw [if_neg e, if_neg e]
        exact (World.cell?_of_block (a := ⟨kp i, j, none⟩) (ot _ (fun e2 => by have h1 := h.pt i (by omega); rw [show kp i = kb from e2, h.kt] at h1; cases h1))).trans (h'.pp i (by omega) j hj)
    pg := fun i hi j hj => by
      show Page _ _ (if i = m then pa1 j else pa i j) _ _ _
      by_cases e : i = m
      · subst e
        rw [if_pos rfl]
        refine ((hr.pg j hj).block (by rw [hs]; exact Nat.le_refl _) fun b hb' hF => ot b (by omega)).only fun b hb' hF => ⟨by omega, ?_⟩
        rw [hs] at hb'
        rw [o2 b hF.1 hb', hF.2, if_pos (by omega), show 10 + j - 10 = j by omega]
      · rw [if_neg e]
        refine ((h'.pg i (by omega) j hj).block (by rw [hs]; exact Nat.le_refl _) fun b hb' hF => ot b (fun e2 => ?_)).only fun b hb' hF => ⟨hF.1, ?_⟩
        · have h1 := hF.2
          rw [show b = kb from e2, h.kt] at h1
          unfold tg at h1
          omega
        · rcases Nat.lt_or_ge b w.heap.size with hlt | hge
          · exact (o1 b hlt).trans hF.2
          · have h1 := h.new b hge
            have h2 := hF.2
            unfold tg at h2
            omega }
end
end Go.Proofs.Ytnndhbppgmnefaa
