/- The device: what it holds, and where. -/
import Derived.Test.YtnndhbppgmnefaaYc
import Derived.Test.YtnndhbppgmnefaaGl
import Derived.Test.YtnndhbppgmnefaaZc
namespace Go.Proofs.Ytnndhbppgmnefaa
open Go.RowKit Go.Gf Go.Fl
set_option linter.unusedVariables false
set_option linter.unusedSimpArgs false

/-- a page: its points, the symbols that were put there, its state -/
structure Pg where
  ps : List (Int × Int)
  ss : List Nat
  st : Int
/-- a device -/
structure Dev where
  B : Nat
  P : Nat
  W : Nat
  K : Nat
  pg : Nat → Nat → Pg
  er : Nat → Nat
  md : Nat → Bool
  bk : Nat → Bool
  ft : List (Int × Int × Int)
  ops : Nat
  rf : Nat
  dark : Bool
/-- how many cells a page has -/
def Dev.n (M : Dev) : Nat := M.W * (M.K + 16)
/-- where it lies: the device, its blocks, its fates, each block's pages, each page -/
structure Lay where
  g : Nat
  kb : Nat
  cb : Nat
  pf : Addr
  kp : Nat → Nat
  cp : Nat → Nat
  pa : Nat → Nat → Addr
/-- the fates, in blocks of G alone -/
def FtIn (w : World) (G : Nat → Prop) (p : Addr) (ts : List (Int × Int × Int)) : Prop := ∃ g A c, ∃ ss : List (Int × Int × Int), p = ⟨g, 0, none⟩ ∧ g < w.heap.size ∧ G g ∧ w.cell? ⟨g, 0, none⟩ = some (.slice A ss.length c) ∧ Ft.S3 w w.heap.size A ss ∧ (∀ a, A = some a → ss ≠ [] → G a.block) ∧ ss.length ≤ c ∧ ss.Perm ts ∧ Ft.Rises ss
/-- the tag of a page's blocks: its number and 10 -/
def tg (P i j : Nat) : Nat := 10 + (i * P + j)
/-- the blocks of F with a tag -/
def Tg (F : Nat → Prop) (o : Nat → Nat) (t : Nat) : Nat → Prop := fun b => F b ∧ o b = t
/-- THE DEVICE in memory, whose blocks bear the tags o: 0 its own, 1 the row of blocks, 2 the rows of pages, 3 the fates, from 10 on the pages -/
structure RepO (w : World) (F : Nat → Prop) (o : Nat → Nat) (L : Lay) (M : Dev) : Prop where
  new : ∀ b, w.heap.size ≤ b → o b = 9
  gl : L.g < w.heap.size
  gt : F L.g ∧ o L.g = 0
  gf : ∀ i, w.frozen? ⟨L.g, i, none⟩ = false
  g0 : w.cell? ⟨L.g, 0, none⟩ = some (.int .i64 (M.B : Int))
  g1 : w.cell? ⟨L.g, 1, none⟩ = some (.int .i64 (M.P : Int))
  g2 : w.cell? ⟨L.g, 2, none⟩ = some (.int .i64 (M.W : Int))
  g3 : w.cell? ⟨L.g, 3, none⟩ = some (.int .i64 (M.K : Int))
  g4 : w.cell? ⟨L.g, 4, none⟩ = some (.slice (some ⟨L.kb, 0, none⟩) M.B L.cb)
  g5 : w.cell? ⟨L.g, 5, none⟩ = some (.pointer (some L.pf))
  g6 : w.cell? ⟨L.g, 6, none⟩ = some (.int .i64 (M.ops : Int))
  g7 : w.cell? ⟨L.g, 7, none⟩ = some (.int .i64 (M.rf : Int))
  g8 : w.cell? ⟨L.g, 8, none⟩ = some (.bool M.dark)
  kl : L.kb < w.heap.size
  kt : F L.kb ∧ o L.kb = 1
  kf : ∀ i, w.frozen? ⟨L.kb, i, none⟩ = false
  k0 : ∀ i, i < M.B → w.cell? ⟨L.kb, i * 4, none⟩ = some (.slice (some ⟨L.kp i, 0, none⟩) M.P (L.cp i))
  k1 : ∀ i, i < M.B → w.cell? ⟨L.kb, i * 4 + 1, none⟩ = some (.int .i64 (M.er i : Int))
  k2 : ∀ i, i < M.B → w.cell? ⟨L.kb, i * 4 + 2, none⟩ = some (.bool (M.md i))
  k3 : ∀ i, i < M.B → w.cell? ⟨L.kb, i * 4 + 3, none⟩ = some (.bool (M.bk i))
  pl : ∀ i, i < M.B → L.kp i < w.heap.size
  pt : ∀ i, i < M.B → F (L.kp i) ∧ o (L.kp i) = 2
  pc : ∀ i, i < M.B → M.P ≤ L.cp i
  pp : ∀ i, i < M.B → ∀ j, j < M.P → w.cell? ⟨L.kp i, j, none⟩ = some (.pointer (some (L.pa i j)))
  pg : ∀ i, i < M.B → ∀ j, j < M.P → Page w (Tg F o (tg M.P i j)) (L.pa i j) (M.pg i j).ps (M.pg i j).ss (M.pg i j).st
  len : ∀ i, i < M.B → ∀ j, j < M.P → (M.pg i j).ps.length = M.n
  ft : FtIn w (Tg F o 3) L.pf M.ft
  fm : Ft.mayF M.ft = true
  fk : ∀ x ∈ M.ft, x.2.2 ≤ 9223372036854775807
  geo : Ge.mayG M.B M.P M.W M.K = true
def Rep (w : World) (F : Nat → Prop) (L : Lay) (M : Dev) : Prop := ∃ o, RepO w F o L M
/-- THE DEVICE -/
def Chip (w : World) (F : Nat → Prop) (c : Addr) (M : Dev) : Prop := ∃ L : Lay, c = ⟨L.g, 0, none⟩ ∧ Rep w F L M

theorem add_add2 (a : Addr) (k m : Nat) : (a.add k).add m = a.add (k + m) := by
  by_cases hm : m = 0
  · subst hm; rw [add_zero', Nat.add_zero]
  · rw [Ft.add_more a k m hm]
    unfold Addr.add
    rw [if_neg hm]
section
variable {w w' : World} {F : Nat → Prop} {o : Nat → Nat} {L : Lay} {M : Dev}
theorem S3.block {B B' : Nat} {A : Option Addr} {ts : List (Int × Int × Int)} (h : Ft.S3 w B A ts) (hB : B ≤ B') (hb : ∀ a, A = some a → ts ≠ [] → a.block < B → w'.heap[a.block]? = w.heap[a.block]?) : Ft.S3 w' B' A ts := by
  rcases h with e | ⟨a, e, h1, h2⟩
  · exact Or.inl e
  · by_cases hn : ts = []
    · exact Or.inl hn
    · refine Or.inr ⟨a, e, by omega, fun i hi => ?_⟩
      have k := hb a e hn h1
      have c := fun j => World.cell?_of_block (w := w) (w' := w') (a := a.add j) (by rw [add_block]; exact k)
      rw [c, c, c]
      exact h2 i hi
theorem FtIn.block {G : Nat → Prop} {p : Addr} {ts : List (Int × Int × Int)} (h : FtIn w G p ts) (hs : w.heap.size ≤ w'.heap.size) (hb : ∀ b, b < w.heap.size → G b → w'.heap[b]? = w.heap[b]?) : FtIn w' G p ts := by
  obtain ⟨g, A, c, ss, rfl, h1, h2, h3, h4, h5, h6⟩ := h
  exact ⟨g, A, c, ss, rfl, Nat.lt_of_lt_of_le h1 hs, h2, (World.cell?_of_block (hb g h1 h2)).trans h3, S3.block h4 hs (fun a e hn hl => hb _ hl (h5 a e hn)), h5, h6⟩
theorem FtIn.mono {G G' : Nat → Prop} {p : Addr} {ts : List (Int × Int × Int)} (h : FtIn w G p ts) (hg : ∀ b, b < w.heap.size → G b → G' b) : FtIn w G' p ts := by
  obtain ⟨g, A, c, ss, rfl, h1, h2, h3, h4, h5, h6⟩ := h
  refine ⟨g, A, c, ss, rfl, h1, hg g h1 h2, h3, h4, fun a e hn => hg _ ?_ (h5 a e hn), h6⟩
  rcases h4 with e' | ⟨a', e', hl, _⟩
  · exact absurd e' hn
  · rw [e] at e'; injection e' with e'; subst e'; exact hl
/-- nothing of the device has changed -/
theorem RepO.blockt (h : RepO w F o L M) (hs : w.heap.size ≤ w'.heap.size) (hb : ∀ b, b < w.heap.size → F b → o b ≠ 9 → w'.heap[b]? = w.heap[b]?) : RepO w' F o L M := by
  have eg := hb _ h.gl h.gt.1 (by rw [h.gt.2]; decide)
  have ek := hb _ h.kl h.kt.1 (by rw [h.kt.2]; decide)
  have cg : ∀ i, w'.cell? ⟨L.g, i, none⟩ = w.cell? ⟨L.g, i, none⟩ := fun i => World.cell?_of_block eg
  have ck : ∀ i, w'.cell? ⟨L.kb, i, none⟩ = w.cell? ⟨L.kb, i, none⟩ := fun i => World.cell?_of_block ek
  exact {
    new := fun b hb' => h.new b (Nat.le_trans hs hb')
    gl := Nat.lt_of_lt_of_le h.gl hs
    gt := h.gt
    gf := fun i => (frozen_block eg i).trans (h.gf i)
    g0 := (cg 0).trans h.g0
    g1 := (cg 1).trans h.g1
    g2 := (cg 2).trans h.g2
    g3 := (cg 3).trans h.g3
    g4 := (cg 4).trans h.g4
    g5 := (cg 5).trans h.g5
    g6 := (cg 6).trans h.g6
    g7 := (cg 7).trans h.g7
    g8 := (cg 8).trans h.g8
    kl := Nat.lt_of_lt_of_le h.kl hs
    kt := h.kt
    kf := fun i => (frozen_block ek i).trans (h.kf i)
    k0 := fun i hi => (ck _).trans (h.k0 i hi)
    k1 := fun i hi => (ck _).trans (h.k1 i hi)
    k2 := fun i hi => (ck _).trans (h.k2 i hi)
    k3 := fun i hi => (ck _).trans (h.k3 i hi)
    pl := fun i hi => Nat.lt_of_lt_of_le (h.pl i hi) hs
    pt := h.pt
    pc := h.pc
    pp := fun i hi j hj => (World.cell?_of_block (a := ⟨L.kp i, j, none⟩) (hb _ (h.pl i hi) (h.pt i hi).1 (by rw [(h.pt i hi).2]; decide))).trans (h.pp i hi j hj)
    pg := fun i hi j hj => (h.pg i hi j hj).block hs fun b hl hF => hb b hl hF.1 (by rw [hF.2]; unfold tg; omega)
    len := h.len
    ft := h.ft.block hs fun b hl hF => hb b hl hF.1 (by rw [hF.2]; decide)
    fm := h.fm
    fk := h.fk
    geo := h.geo }
theorem RepO.block (h : RepO w F o L M) (hs : w.heap.size ≤ w'.heap.size) (hb : ∀ b, b < w.heap.size → F b → w'.heap[b]? = w.heap[b]?) : RepO w' F o L M := h.blockt hs fun b hl hF _ => hb b hl hF
/-- in other blocks' company -/
theorem RepO.only {F' : Nat → Prop} (h : RepO w F o L M) (hF : ∀ b, b < w.heap.size → F b → o b ≠ 9 → F' b) : RepO w F' o L M :=
  { h with
    gt := ⟨hF _ h.gl h.gt.1 (by rw [h.gt.2]; decide), h.gt.2⟩
    kt := ⟨hF _ h.kl h.kt.1 (by rw [h.kt.2]; decide), h.kt.2⟩
    pt := fun i hi => ⟨hF _ (h.pl i hi) (h.pt i hi).1 (by rw [(h.pt i hi).2]; decide), (h.pt i hi).2⟩
    pg := fun i hi j hj => (h.pg i hi j hj).only fun b hb hh => ⟨hF b hb hh.1 (by rw [hh.2]; unfold tg; omega), hh.2⟩
    ft := h.ft.mono fun b hb hh => ⟨hF b hb hh.1 (by rw [hh.2]; decide), hh.2⟩ }
theorem RepO.below (h : RepO w F o L M) (hb : Below w.heap.size w w') : RepO w' F o L M := h.block hb.size fun b hlt _ => hb.block b hlt
theorem RepO.keep (h : RepO w F o L M) (hk : Cl.Keeps F w w') : RepO w' F o L M := h.block hk.size fun b hlt hF => hk.block b hlt hF
theorem Rep.below (h : Rep w F L M) (hb : Below w.heap.size w w') : Rep w' F L M := by obtain ⟨o, h⟩ := h; exact ⟨o, h.below hb⟩
theorem Rep.keep (h : Rep w F L M) (hk : Cl.Keeps F w w') : Rep w' F L M := by obtain ⟨o, h⟩ := h; exact ⟨o, h.keep hk⟩
theorem Rep.only {F' : Nat → Prop} (h : Rep w F L M) (hF : ∀ b, b < w.heap.size → F b → F' b) : Rep w F' L M := by obtain ⟨o, h⟩ := h; exact ⟨o, h.only fun b hb hh _ => hF b hb hh⟩
theorem Chip.below {c : Addr} (h : Chip w F c M) (hb : Below w.heap.size w w') : Chip w' F c M := by obtain ⟨L, e, h⟩ := h; exact ⟨L, e, h.below hb⟩
theorem Chip.keep {c : Addr} (h : Chip w F c M) (hk : Cl.Keeps F w w') : Chip w' F c M := by obtain ⟨L, e, h⟩ := h; exact ⟨L, e, h.keep hk⟩

/-- a store into the device's own block -/
theorem RepO.own (h : RepO w F o L M) (i : Nat) (v : Value) (M' : Dev) (hB : M'.B = M.B) (hP : M'.P = M.P) (hW : M'.W = M.W) (hK : M'.K = M.K) (hp : M'.pg = M.pg) (he : M'.er = M.er) (hm : M'.md = M.md) (hbr : M'.bk = M.bk) (hft : M'.ft = M.ft)
    (c6 : (w.setCell ⟨L.g, i, none⟩ v).cell? ⟨L.g, 6, none⟩ = some (.int .i64 (M'.ops : Int))) (c7 : (w.setCell ⟨L.g, i, none⟩ v).cell? ⟨L.g, 7, none⟩ = some (.int .i64 (M'.rf : Int))) (c8 : (w.setCell ⟨L.g, i, none⟩ v).cell? ⟨L.g, 8, none⟩ = some (.bool M'.dark)) (hi : 5 < i) : RepO (w.setCell ⟨L.g, i, none⟩ v) F o L M' := by
  obtain ⟨B, P, W, K, pg, er, md, bk, ft, ops, rf, dk⟩ := M
  obtain ⟨B', P', W', K', pg', er', md', bk', ft', ops', rf', dk'⟩ := M'
  dsimp only at hB hP hW hK hp he hm hbr hft
  subst hB hP hW hK hp he hm hbr hft
  have hs : (w.setCell ⟨L.g, i, none⟩ v).heap.size = w.heap.size := by simp [World.setCell]
  have cg : ∀ j, j ≠ i → (w.setCell ⟨L.g, i, none⟩ v).cell? ⟨L.g, j, none⟩ = w.cell? ⟨L.g, j, none⟩ := fun j hj => World.cell?_setCell_other _ _ _ _ (by intro e; injection e; omega)
  have ot : ∀ b, o b ≠ 0 → (w.setCell ⟨L.g, i, none⟩ v).heap[b]? = w.heap[b]? := fun b hb => Below.heap_setCell _ _ _ _ (fun e => hb (by rw [show b = L.g from e]; exact h.gt.2))
  have ek := ot L.kb (by rw [h.kt.2]; decide)
  have ck : ∀ i', (w.setCell ⟨L.g, i, none⟩ v).cell? ⟨L.kb, i', none⟩ = w.cell? ⟨L.kb, i', none⟩ := fun i' => World.cell?_of_block ek
  exact {
    new := fun b hb' => h.new b (by rw [← hs]; exact hb')
    gl := by rw [hs]; exact h.gl
    gt := h.gt
    gf := fun i' => by rw [World.frozen?_setCell]; exact h.gf i'
    g0 := (cg 0 (by omega)).trans h.g0
    g1 := (cg 1 (by omega)).trans h.g1
    g2 := (cg 2 (by omega)).trans h.g2
    g3 := (cg 3 (by omega)).trans h.g3
    g4 := (cg 4 (by omega)).trans h.g4
    g5 := (cg 5 (by omega)).trans h.g5
    g6 := c6
    g7 := c7
    g8 := c8
    kl := by rw [hs]; exact h.kl
    kt := h.kt
    kf := fun i' => (frozen_block ek i').trans (h.kf i')
    k0 := fun i hi => (ck _).trans (h.k0 i hi)
    k1 := fun i hi => (ck _).trans (h.k1 i hi)
    k2 := fun i hi => (ck _).trans (h.k2 i hi)
    k3 := fun i hi => (ck _).trans (h.k3 i hi)
    pl := fun i hi => by rw [hs]; exact h.pl i hi
    pt := h.pt
    pc := h.pc
    pp := fun i hi j hj => (World.cell?_of_block (a := ⟨L.kp i, j, none⟩) (ot _ (by rw [(h.pt i hi).2]; decide))).trans (h.pp i hi j hj)
    pg := fun i hi j hj => (h.pg i hi j hj).block (by rw [hs]; exact Nat.le_refl _) fun b hl hF => ot b (by rw [hF.2]; unfold tg; omega)
    len := h.len
    ft := h.ft.block (by rw [hs]; exact Nat.le_refl _) fun b hl hF => ot b (by rw [hF.2]; decide)
    fm := h.fm
    fk := h.fk
    geo := h.geo }
/-- a store into the row of blocks -/
theorem RepO.row (h : RepO w F o L M) (q : Nat) (v : Value) (M' : Dev) (hB : M'.B = M.B) (hP : M'.P = M.P) (hW : M'.W = M.W) (hK : M'.K = M.K) (hp : M'.pg = M.pg) (hft : M'.ft = M.ft) (hops : M'.ops = M.ops) (hrf : M'.rf = M.rf) (hdk : M'.dark = M.dark)
    (c0 : ∀ i, i < M.B → q ≠ i * 4)
    (c1 : ∀ i, i < M.B → (w.setCell ⟨L.kb, q, none⟩ v).cell? ⟨L.kb, i * 4 + 1, none⟩ = some (.int .i64 (M'.er i : Int)))
    (c2 : ∀ i, i < M.B → (w.setCell ⟨L.kb, q, none⟩ v).cell? ⟨L.kb, i * 4 + 2, none⟩ = some (.bool (M'.md i)))
    (c3 : ∀ i, i < M.B → (w.setCell ⟨L.kb, q, none⟩ v).cell? ⟨L.kb, i * 4 + 3, none⟩ = some (.bool (M'.bk i))) : RepO (w.setCell ⟨L.kb, q, none⟩ v) F o L M' := by
  obtain ⟨B, P, W, K, pg, er, md, bk, ft, ops, rf, dk⟩ := M
  obtain ⟨B', P', W', K', pg', er', md', bk', ft', ops', rf', dk'⟩ := M'
  dsimp only at hB hP hW hK hp hft hops hrf hdk c0 c1 c2 c3
  subst hB hP hW hK hp hft hops hrf hdk
  have hs : (w.setCell ⟨L.kb, q, none⟩ v).heap.size = w.heap.size := by simp [World.setCell]
  have ot : ∀ b, o b ≠ 1 → (w.setCell ⟨L.kb, q, none⟩ v).heap[b]? = w.heap[b]? := fun b hb => Below.heap_setCell _ _ _ _ (fun e => hb (by rw [show b = L.kb from e]; exact h.kt.2))
  have eg := ot L.g (by rw [h.gt.2]; decide)
  have cg : ∀ i', (w.setCell ⟨L.kb, q, none⟩ v).cell? ⟨L.g, i', none⟩ = w.cell? ⟨L.g, i', none⟩ := fun i' => World.cell?_of_block eg
  exact {
    new := fun b hb' => h.new b (by rw [← hs]; exact hb')
    gl := by rw [hs]; exact h.gl
    gt := h.gt
    gf := fun i' => (frozen_block eg i').trans (h.gf i')
    g0 := (cg 0).trans h.g0
    g1 := (cg 1).trans h.g1
    g2 := (cg 2).trans h.g2
    g3 := (cg 3).trans h.g3
    g4 := (cg 4).trans h.g4
    g5 := (cg 5).trans h.g5
    g6 := (cg 6).trans h.g6
    g7 := (cg 7).trans h.g7
    g8 := (cg 8).trans h.g8
    kl := by rw [hs]; exact h.kl
    kt := h.kt
    kf := fun i' => by rw [World.frozen?_setCell]; exact h.kf i'
    k0 := fun i hi => (World.cell?_setCell_other _ _ _ _ (by intro e; injection e with e1 e2; exact c0 i hi e2)).trans (h.k0 i hi)
    k1 := c1
    k2 := c2
    k3 := c3
    pl := fun i hi => by rw [hs]; exact h.pl i hi
    pt := h.pt
    pc := h.pc
    pp := fun i hi j hj => (World.cell?_of_block (a := ⟨L.kp i, j, none⟩) (ot _ (by rw [(h.pt i hi).2]; decide))).trans (h.pp i hi j hj)
    pg := fun i hi j hj => (h.pg i hi j hj).block (by rw [hs]; exact Nat.le_refl _) fun b hl hF => ot b (by rw [hF.2]; unfold tg; omega)
    len := h.len
    ft := h.ft.block (by rw [hs]; exact Nat.le_refl _) fun b hl hF => ot b (by rw [hF.2]; decide)
    fm := h.fm
    fk := h.fk
    geo := h.geo }
/-- the blocks that a page's own functions may use -/
def Own1 (w : World) (F : Nat → Prop) (o : Nat → Nat) (t : Nat) : Nat → Prop := fun b => Tg F o t b ∨ w.heap.size ≤ b
theorem tg_inj {P i j i' j' : Nat} (hj : j < P) (hj' : j' < P) (h : tg P i j = tg P i' j') : i = i' ∧ j = j' := by
  unfold tg at h
  have h : i * P + j = i' * P + j' := by omega
  have e1 : (i * P + j) / P = i := by rw [Nat.mul_comm, Nat.mul_add_div (by omega), Nat.div_eq_of_lt hj]; omega
  have e2 : (i' * P + j') / P = i' := by rw [Nat.mul_comm, Nat.mul_add_div (by omega), Nat.div_eq_of_lt hj']; omega
  have hi : i = i' := by rw [← e1, ← e2, h]
  subst hi
  exact ⟨rfl, by omega⟩
def setPg (f : Nat → Nat → Pg) (i j : Nat) (p : Pg) : Nat → Nat → Pg := fun i' j' => if i' = i ∧ j' = j then p else f i' j'
/-- one page has changed -/
theorem RepO.page (h : RepO w F o L M) (hF : ∀ b, w.heap.size ≤ b → F b) {i j : Nat} (hi : i < M.B) (hj : j < M.P) (hk : Cl.Keeps (fun b => ¬ Own1 w F o (tg M.P i j) b) w w') {q : Pg} (hq : Page w' (Own1 w F o (tg M.P i j)) (L.pa i j) q.ps q.ss q.st) (hl : q.ps.length = M.n) :
    Rep w' F L { M with pg := setPg M.pg i j q } := by
  have ho : ∀ b, b < w.heap.size → o b ≠ tg M.P i j → w'.heap[b]? = w.heap[b]? := fun b hb ht => hk.block b hb (fun e => by
    rcases e with e | e
    · exact ht e.2
    · omega)
  have hs := hk.size
  let o' : Nat → Nat := fun b => if w.heap.size ≤ b ∧ b < w'.heap.size then tg M.P i j else o b
  have o1 : ∀ b, b < w.heap.size → o' b = o b := fun b hb => if_neg (by omega)
  have eg := ho _ h.gl (by rw [h.gt.2]; unfold tg; omega)
  have ek := ho _ h.kl (by rw [h.kt.2]; unfold tg; omega)
  have cg : ∀ i, w'.cell? ⟨L.g, i, none⟩ = w.cell? ⟨L.g, i, none⟩ := fun i => World.cell?_of_block eg
  have ck : ∀ i, w'.cell? ⟨L.kb, i, none⟩ = w.cell? ⟨L.kb, i, none⟩ := fun i => World.cell?_of_block ek
  refine ⟨o', ?_⟩
  exact {
    new := fun b hb' => by
      show (if w.heap.size ≤ b ∧ b < w'.heap.size then tg M.P i j else o b) = 9
      rw [if_neg (by omega)]
      exact h.new b (by omega)
    gl := Nat.lt_of_lt_of_le h.gl hs
    gt := ⟨h.gt.1, (o1 _ h.gl).trans h.gt.2⟩
    gf := fun i => (frozen_block eg i).trans (h.gf i)
    g0 := (cg 0).trans h.g0
    g1 := (cg 1).trans h.g1
    g2 := (cg 2).trans h.g2
    g3 := (cg 3).trans h.g3
    g4 := (cg 4).trans h.g4
    g5 := (cg 5).trans h.g5
    g6 := (cg 6).trans h.g6
    g7 := (cg 7).trans h.g7
    g8 := (cg 8).trans h.g8
    kl := Nat.lt_of_lt_of_le h.kl hs
    kt := ⟨h.kt.1, (o1 _ h.kl).trans h.kt.2⟩
    kf := fun i => (frozen_block ek i).trans (h.kf i)
    k0 := fun i hi => (ck _).trans (h.k0 i hi)
    k1 := fun i hi => (ck _).trans (h.k1 i hi)
    k2 := fun i hi => (ck _).trans (h.k2 i hi)
    k3 := fun i hi => (ck _).trans (h.k3 i hi)
    pl := fun i hi => Nat.lt_of_lt_of_le (h.pl i hi) hs
    pt := fun i hi => ⟨(h.pt i hi).1, (o1 _ (h.pl i hi)).trans (h.pt i hi).2⟩
    pc := h.pc
    pp := fun i hi j hj => (World.cell?_of_block (a := ⟨L.kp i, j, none⟩) (ho _ (h.pl i hi) (by rw [(h.pt i hi).2]; unfold tg; omega))).trans (h.pp i hi j hj)
    pg := fun i' hi' j' hj' => by
      show Page w' (Tg F o' (tg M.P i' j')) (L.pa i' j') (setPg M.pg i j q i' j').ps (setPg M.pg i j q i' j').ss (setPg M.pg i j q i' j').st
      by_cases e : i' = i ∧ j' = j
      · obtain ⟨rfl, rfl⟩ := e
        unfold setPg
        rw [if_pos ⟨rfl, rfl⟩]
        refine hq.only fun b hb hF' => ?_
        rcases Nat.lt_or_ge b w.heap.size with hlt | hge
        · rcases hF' with e | e
          · exact ⟨e.1, (o1 b hlt).trans e.2⟩
          · omega
        · exact ⟨hF b hge, if_pos ⟨hge, hb⟩⟩
      · unfold setPg
        rw [if_neg e]
        have hne : tg M.P i' j' ≠ tg M.P i j := fun ht => e (tg_inj hj' hj ht)
        refine ((h.pg i' hi' j' hj').block hs fun b hl hF' => ho b hl (by rw [hF'.2]; exact hne)).only fun b hb hF' => ?_
        refine ⟨hF'.1, ?_⟩
        show (if w.heap.size ≤ b ∧ b < w'.heap.size then tg M.P i j else o b) = tg M.P i' j'
        rw [if_neg (fun hh => ?_)]
        · exact hF'.2
        · have := h.new b hh.1
          have := hF'.2
          unfold tg at this
          omega
    len := fun i' hi' j' hj' => by
      show (setPg M.pg i j q i' j').ps.length = M.n
      unfold setPg
      split
      · exact hl
      · exact h.len i' hi' j' hj'
    ft := (h.ft.block hs fun b hl hF' => ho b hl (by rw [hF'.2]; unfold tg; omega)).mono fun b hb hF' => by
      refine ⟨hF'.1, ?_⟩
      show (if w.heap.size ≤ b ∧ b < w'.heap.size then tg M.P i j else o b) = 3
      rw [if_neg (fun hh => ?_)]
      · exact hF'.2
      · have := h.new b hh.1
        have := hF'.2
        omega
    fm := h.fm
    fk := h.fk
    geo := h.geo }
/-- a page, for its own functions -/
theorem RepO.own1 (h : RepO w F o L M) {i j : Nat} (hi : i < M.B) (hj : j < M.P) : Page w (Own1 w F o (tg M.P i j)) (L.pa i j) (M.pg i j).ps (M.pg i j).ss (M.pg i j).st := (h.pg i hi j hj).only fun b _ hb => Or.inl hb
theorem Own1.not (hF : ∀ b, w.heap.size ≤ b → F b) {t : Nat} : Cl.Keeps (fun b => ¬ Own1 w F o t b) w w' → Cl.Keeps (fun b => ¬ F b) w w' := fun h => Cl.keeps_of h fun b hb e => hb (by
  rcases e with e | e
  · exact e.1
  · exact hF b e)
/-- what was put on a page that is not whole is not told -/
theorem Page.any_ss {p : Addr} {ps : List (Int × Int)} {ss : List Nat} {st : Int} (h : Page w F p ps ss st) (hst : st ≠ 1) (ss' : List Nat) : Page w F p ps ss' st := by
  obtain ⟨⟨g, k, c, rfl, h1, h2, h3, h4, h5, h6, h7, h8, h9, h10⟩, hbd, hsm⟩ := h
  refine ⟨⟨g, k, c, rfl, h1, h2, h3, h4, h5, h6, h7, h8, h9, fun i hi => ?_⟩, hbd, hsm⟩
  obtain ⟨q, s, hs, _⟩ := h10 i hi
  exact ⟨q, s, hs, fun e => absurd e hst⟩
theorem Rep.eq {M' : Dev} (h : Rep w F L M) (e : M = M') : Rep w F L M' := e ▸ h
def blankPg (n : Nat) : Pg := ⟨List.replicate n (0, 0), [], 0⟩
end
end Go.Proofs.Ytnndhbppgmnefaa
