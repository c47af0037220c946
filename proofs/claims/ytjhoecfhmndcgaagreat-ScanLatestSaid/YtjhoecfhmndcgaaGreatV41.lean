/- The device: what it holds, and where. · The device: why an operation ends in an error of its own: the pages' order, what a block refuses. · The device: the error in which an operation ends, whatever befalls it. -/
import Derived.Test.YtjhoecfhmndcgaaGreatV37
import Derived.Test.YtjhoecfhmndcgaaGreatV07
import Derived.Test.YtjhoecfhmndcgaaGreatV40
namespace Go.Proofs.YtjhoecfhmndcgaaGreat
open Go.RowKit Go.Gf Go.Fl
set_option linter.unusedVariables false
set_option linter.unusedSimpArgs false

/-- a page: its points, the symbols that were put there, its state -/
structure Pg where
  ps : List (Int × Int)
  ss : List Nat
  st : Int
/-- a device -/
structure Dev where
  B : Nat
  P : Nat
  W : Nat
  K : Nat
  pg : Nat → Nat → Pg
  er : Nat → Nat
  md : Nat → Bool
  bk : Nat → Bool
  ft : List (Int × Int × Int)
  ops : Nat
  rf : Nat
  dark : Bool
/-- how many cells a page has -/
def Dev.n (M : Dev) : Nat := M.W * (M.K + 16)
/-- where it lies: the device, its blocks, its fates, each block's pages, each page -/
structure Lay where
  g : Nat
  kb : Nat
  cb : Nat
  pf : Addr
  kp : Nat → Nat
  cp : Nat → Nat
  pa : Nat → Nat → Addr
/-- the fates, in blocks of G alone -/
def FtIn (w : World) (G : Nat → Prop) (p : Addr) (ts : List (Int × Int × Int)) : Prop := ∃ g A c, ∃ ss : List (Int × Int × Int), p = ⟨g, 0, none⟩ ∧ g < w.heap.size ∧ G g ∧ w.cell? ⟨g, 0, none⟩ = some (.slice A ss.length c) ∧ Ft.S3 w w.heap.size A ss ∧ (∀ a, A = some a → ss ≠ [] → G a.block) ∧ ss.length ≤ c ∧ ss.Perm ts ∧ Ft.Rises ss
/-- the tag of a page's blocks: its number and 10 -/
def tg (P i j : Nat) : Nat := 10 + (i * P + j)
/-- the blocks of F with a tag -/
def Tg (F : Nat → Prop) (o : Nat → Nat) (t : Nat) : Nat → Prop := fun b => F b ∧ o b = t
/-- THE DEVICE in memory, whose blocks bear the tags o: 0 its own, 1 the row of blocks, 2 the rows of pages, 3 the fates, from 10 on the pages -/
structure RepO (w : World) (F : Nat → Prop) (o : Nat → Nat) (L : Lay) (M : Dev) : Prop where
  new : ∀ b, w.heap.size ≤ b → o b = 9
  gl : L.g < w.heap.size
  gt : F L.g ∧ o L.g = 0
  gf : ∀ i, w.frozen? ⟨L.g, i, none⟩ = false
  g0 : w.cell? ⟨L.g, 0, none⟩ = some (.int .i64 (M.B : Int))
  g1 : w.cell? ⟨L.g, 1, none⟩ = some (.int .i64 (M.P : Int))
  g2 : w.cell? ⟨L.g, 2, none⟩ = some (.int .i64 (M.W : Int))
  g3 : w.cell? ⟨L.g, 3, none⟩ = some (.int .i64 (M.K : Int))
  g4 : w.cell? ⟨L.g, 4, none⟩ = some (.slice (some ⟨L.kb, 0, none⟩) M.B L.cb)
  g5 : w.cell? ⟨L.g, 5, none⟩ = some (.pointer (some L.pf))
  g6 : w.cell? ⟨L.g, 6, none⟩ = some (.int .i64 (M.ops : Int))
  g7 : w.cell? ⟨L.g, 7, none⟩ = some (.int .i64 (M.rf : Int))
  g8 : w.cell? ⟨L.g, 8, none⟩ = some (.bool M.dark)
  kl : L.kb < w.heap.size
  kt : F L.kb ∧ o L.kb = 1
  kf : ∀ i, w.frozen? ⟨L.kb, i, none⟩ = false
  k0 : ∀ i, i < M.B → w.cell? ⟨L.kb, i * 4, none⟩ = some (.slice (some ⟨L.kp i, 0, none⟩) M.P (L.cp i))
  k1 : ∀ i, i < M.B → w.cell? ⟨L.kb, i * 4 + 1, none⟩ = some (.int .i64 (M.er i : Int))
  k2 : ∀ i, i < M.B → w.cell? ⟨L.kb, i * 4 + 2, none⟩ = some (.bool (M.md i))
  k3 : ∀ i, i < M.B → w.cell? ⟨L.kb, i * 4 + 3, none⟩ = some (.bool (M.bk i))
  pl : ∀ i, i < M.B → L.kp i < w.heap.size
  pt : ∀ i, i < M.B → F (L.kp i) ∧ o (L.kp i) = 2
  pc : ∀ i, i < M.B → M.P ≤ L.cp i
  pp : ∀ i, i < M.B → ∀ j, j < M.P → w.cell? ⟨L.kp i, j, none⟩ = some (.pointer (some (L.pa i j)))
  pg : ∀ i, i < M.B → ∀ j, j < M.P → Page w (Tg F o (tg M.P i j)) (L.pa i j) (M.pg i j).ps (M.pg i j).ss (M.pg i j).st
  len : ∀ i, i < M.B → ∀ j, j < M.P → (M.pg i j).ps.length = M.n
  ft : FtIn w (Tg F o 3) L.pf M.ft
  fm : Ft.mayF M.ft = true
  fk : ∀ x ∈ M.ft, x.2.2 ≤ 9223372036854775807
  geo : Ge.mayG M.B M.P M.W M.K = true
def Rep (w : World) (F : Nat → Prop) (L : Lay) (M : Dev) : Prop := ∃ o, RepO w F o L M
/-- THE DEVICE -/
def Chip (w : World) (F : Nat → Prop) (c : Addr) (M : Dev) : Prop := ∃ L : Lay, c = ⟨L.g, 0, none⟩ ∧ Rep w F L M

theorem add_add2 (a : Addr) (k m : Nat) : (a.add k).add m = a.add (k + m) := by
  by_cases hm : m = 0
  · subst hm; rw [add_zeroY', Nat.add_zero]
  · rw [Ft.add_more a k m hm]
    unfold Addr.add
    rw [if_neg hm]
section
variable {w w' : World} {F : Nat → Prop} {o : Nat → Nat} {L : Lay} {M : Dev}
theorem S3.block {B B' : Nat} {A : Option Addr} {ts : List (Int × Int × Int)} (h : Ft.S3 w B A ts) (hB : B ≤ B') (hb : ∀ a, A = some a → ts ≠ [] → a.block < B → w'.heap[a.block]? = w.heap[a.block]?) : Ft.S3 w' B' A ts := by
  rcases h with e | ⟨a, e, h1, h2⟩
  · exact Or.inl e
  · by_cases hn : ts = []
    · exact Or.inl hn
    · refine Or.inr ⟨a, e, by omega, fun i hi => ?_⟩
      have k := hb a e hn h1
      have c := fun j => World.cell?_of_block (w := w) (w' := w') (a := a.add j) (by rw [add_block]; exact k)
      rw [c, c, c]
      exact h2 i hi
theorem FtIn.block {G : Nat → Prop} {p : Addr} {ts : List (Int × Int × Int)} (h : FtIn w G p ts) (hs : w.heap.size ≤ w'.heap.size) (hb : ∀ b, b < w.heap.size → G b → w'.heap[b]? = w.heap[b]?) : FtIn w' G p ts := by
  obtain ⟨g, A, c, ss, rfl, h1, h2, h3, h4, h5, h6⟩ := h
  exact ⟨g, A, c, ss, rfl, Nat.lt_of_lt_of_le h1 hs, h2, (World.cell?_of_block (hb g h1 h2)).trans h3, S3.block h4 hs (fun a e hn hl => hb _ hl (h5 a e hn)), h5, h6⟩
theorem FtIn.mono {G G' : Nat → Prop} {p : Addr} {ts : List (Int × Int × Int)} (h : FtIn w G p ts) (hg : ∀ b, b < w.heap.size → G b → G' b) : FtIn w G' p ts := by
  obtain ⟨g, A, c, ss, rfl, h1, h2, h3, h4, h5, h6⟩ := h
  refine ⟨g, A, c, ss, rfl, h1, hg g h1 h2, h3, h4, fun a e hn => hg _ ?_ (h5 a e hn), h6⟩
  rcases h4 with e' | ⟨a', e', hl, _⟩
  · exact absurd e' hn
  · rw [e] at e'; injection e' with e'; subst e'; exact hl
/-- nothing of the device has changed -/
theorem RepO.blockt (h : RepO w F o L M) (hs : w.heap.size ≤ w'.heap.size) (hb : ∀ b, b < w.heap.size → F b → o b ≠ 9 → w'.heap[b]? = w.heap[b]?) : RepO w' F o L M := by
  have eg := hb _ h.gl h.gt.1 (by rw [h.gt.2]; decide)
  have ek := hb _ h.kl h.kt.1 (by rw [h.kt.2]; decide)
  have cg : ∀ i, w'.cell? ⟨L.g, i, none⟩ = w.cell? ⟨L.g, i, none⟩ := fun i => World.cell?_of_block eg
  have ck : ∀ i, w'.cell? ⟨L.kb, i, none⟩ = w.cell? ⟨L.kb, i, none⟩ := fun i => World.cell?_of_block ek
  exact {
    new := fun b hb' => h.new b (Nat.le_trans hs hb')
    gl := Nat.lt_of_lt_of_le h.gl hs
    gt := h.gt
    gf := fun i => (frozen_block eg i).trans (h.gf i)
    g0 := (cg 0).trans h.g0
    g1 := (cg 1).trans h.g1
    g2 := (cg 2).trans h.g2
    g3 := (cg 3).trans h.g3
    g4 := (cg 4).trans h.g4
    g5 := (cg 5).trans h.g5
    g6 := (cg 6).trans h.g6
    g7 := (cg 7).trans h.g7
    g8 := (cg 8).trans h.g8
    kl := Nat.lt_of_lt_of_le h.kl hs
    kt := h.kt
    kf := fun i => (frozen_block ek i).trans (h.kf i)
    k0 := fun i hi => (ck _).trans (h.k0 i hi)
    k1 := fun i hi => (ck _).trans (h.k1 i hi)
    k2 := fun i hi => (ck _).trans (h.k2 i hi)
    k3 := fun i hi => (ck _).trans (h.k3 i hi)
    pl := fun i hi => Nat.lt_of_lt_of_le (h.pl i hi) hs
    pt := h.pt
    pc := h.pc
    pp := fun i hi j hj => (World.cell?_of_block (a := ⟨L.kp i, j, none⟩) (hb _ (h.pl i hi) (h.pt i hi).1 (by rw [(h.pt i hi).2]; decide))).trans (h.pp i hi j hj)
    pg := fun i hi j hj => (h.pg i hi j hj).block hs fun b hl hF => hb b hl hF.1 (by rw [hF.2]; unfold tg; omega)
    len := h.len
    ft := h.ft.block hs fun b hl hF => hb b hl hF.1 (by rw [hF.2]; decide)
    fm := h.fm
    fk := h.fk
    geo := h.geo }
theorem RepO.block (h : RepO w F o L M) (hs : w.heap.size ≤ w'.heap.size) (hb : ∀ b, b < w.heap.size → F b → w'.heap[b]? = w.heap[b]?) : RepO w' F o L M := h.blockt hs fun b hl hF _ => hb b hl hF
/-- in other blocks' company -/
theorem RepO.only {F' : Nat → Prop} (h : RepO w F o L M) (hF : ∀ b, b < w.heap.size → F b → o b ≠ 9 → F' b) : RepO w F' o L M :=
  { h with
    gt := ⟨hF _ h.gl h.gt.1 (by rw [h.gt.2]; decide), h.gt.2⟩
    kt := ⟨hF _ h.kl h.kt.1 (by rw [h.kt.2]; decide), h.kt.2⟩
    pt := fun i hi => ⟨hF _ (h.pl i hi) (h.pt i hi).1 (by rw [(h.pt i hi).2]; decide), (h.pt i hi).2⟩
    pg := fun i hi j hj => (h.pg i hi j hj).only fun b hb hh => ⟨hF b hb hh.1 (by rw [hh.2]; unfold tg; omega), hh.2⟩
    ft := h.ft.mono fun b hb hh => ⟨hF b hb hh.1 (by rw [hh.2]; decide), hh.2⟩ }
theorem RepO.below (h : RepO w F o L M) (hb : Below w.heap.size w w') : RepO w' F o L M := h.block hb.size fun b hlt _ => hb.block b hlt
theorem RepO.keep (h : RepO w F o L M) (hk : Cl.Keeps F w w') : RepO w' F o L M := h.block hk.size fun b hlt hF => hk.block b hlt hF
theorem Rep.below (h : Rep w F L M) (hb : Below w.heap.size w w') : Rep w' F L M := by obtain ⟨o, h⟩ := h; exact ⟨o, h.below hb⟩
theorem Rep.keep (h : Rep w F L M) (hk : Cl.Keeps F w w') : Rep w' F L M := by obtain ⟨o, h⟩ := h; exact ⟨o, h.keep hk⟩
theorem Rep.only {F' : Nat → Prop} (h : Rep w F L M) (hF : ∀ b, b < w.heap.size → F b → F' b) : Rep w F' L M := by obtain ⟨o, h⟩ := h; exact ⟨o, h.only fun b hb hh _ => hF b hb hh⟩
theorem Chip.below {c : Addr} (h : Chip w F c M) (hb : Below w.heap.size w w') : Chip w' F c M := by obtain ⟨L, e, h⟩ := h; exact ⟨L, e, h.below hb⟩
theorem Chip.keep {c : Addr} (h : Chip w F c M) (hk : Cl.Keeps F w w') : Chip w' F c M := by obtain ⟨L, e, h⟩ := h; exact ⟨L, e, h.keep hk⟩

/-- a store into the device's own block -/
theorem RepO.own (h : RepO w F o L M) (i : Nat) (v : Value) (M' : Dev) (hB : M'.B = M.B) (hP : M'.P = M.P) (hW : M'.W = M.W) (hK : M'.K = M.K) (hp : M'.pg = M.pg) (he : M'.er = M.er) (hm : M'.md = M.md) (hbr : M'.bk = M.bk) (hft : M'.ft = M.ft)
    (c6 : (w.setCell ⟨L.g, i, none⟩ v).cell? ⟨L.g, 6, none⟩ = some (.int .i64 (M'.ops : Int))) (c7 : (w.setCell ⟨L.g, i, none⟩ v).cell? ⟨L.g, 7, none⟩ = some (.int .i64 (M'.rf : Int))) (c8 : (w.setCell ⟨L.g, i, none⟩ v).cell? ⟨L.g, 8, none⟩ = some (.bool M'.dark)) (hi : 5 < i) : RepO (w.setCell ⟨L.g, i, none⟩ v) F o L M' := by
  obtain ⟨B, P, W, K, pg, er, md, bk, ft, ops, rf, dk⟩ := M
  obtain ⟨B', P', W', K', pg', er', md', bk', ft', ops', rf', dk'⟩ := M'
  dsimp only at hB hP hW hK hp he hm hbr hft
  subst hB hP hW hK hp he hm hbr hft
  have hs : (w.setCell ⟨L.g, i, none⟩ v).heap.size = w.heap.size := by simp [World.setCell]
  have cg : ∀ j, j ≠ i → (w.setCell ⟨L.g, i, none⟩ v).cell? ⟨L.g, j, none⟩ = w.cell? ⟨L.g, j, none⟩ := fun j hj => World.cell?_setCell_other _ _ _ _ (by intro e; injection e; omega)
  have ot : ∀ b, o b ≠ 0 → (w.setCell ⟨L.g, i, none⟩ v).heap[b]? = w.heap[b]? := fun b hb => Below.heap_setCell _ _ _ _ (fun e => hb (by rw [show b = L.g from e]; exact h.gt.2))
  have ek := ot L.kb (by rw [h.kt.2]; decide)
  have ck : ∀ i', (w.setCell ⟨L.g, i, none⟩ v).cell? ⟨L.kb, i', none⟩ = w.cell? ⟨L.kb, i', none⟩ := fun i' => World.cell?_of_block ek
  exact {
    new := fun b hb' => h.new b (by rw [← hs]; exact hb')
    gl := by rw [hs]; exact h.gl
    gt := h.gt
    gf := fun i' => by rw [World.frozen?_setCell]; exact h.gf i'
    g0 := (cg 0 (by omega)).trans h.g0
    g1 := (cg 1 (by omega)).trans h.g1
    g2 := (cg 2 (by omega)).trans h.g2
    g3 := (cg 3 (by omega)).trans h.g3
    g4 := (cg 4 (by omega)).trans h.g4
    g5 := (cg 5 (by omega)).trans h.g5
    g6 := c6
    g7 := c7
    g8 := c8
    kl := by rw [hs]; exact h.kl
    kt := h.kt
    kf := fun i' => (frozen_block ek i').trans (h.kf i')
    k0 := fun i hi => (ck _).trans (h.k0 i hi)
    k1 := fun i hi => (ck _).trans (h.k1 i hi)
    k2 := fun i hi => (ck _).trans (h.k2 i hi)
    k3 := fun i hi => (ck _).trans (h.k3 i hi)
    pl := fun i hi => by rw [hs]; exact h.pl i hi
    pt := h.pt
    pc := h.pc
    pp := fun i hi j hj => (World.cell?_of_block (a := ⟨L.kp i, j, none⟩) (ot _ (by rw [(h.pt i hi).2]; decide))).trans (h.pp i hi j hj)
    pg := fun i hi j hj => (h.pg i hi j hj).block (by rw [hs]; exact Nat.le_refl _) fun b hl hF => ot b (by rw [hF.2]; unfold tg; omega)
    len := h.len
    ft := h.ft.block (by rw [hs]; exact Nat.le_refl _) fun b hl hF => ot b (by rw [hF.2]; decide)
    fm := h.fm
    fk := h.fk
    geo := h.geo }
/-- a store into the row of blocks -/
theorem RepO.row (h : RepO w F o L M) (q : Nat) (v : Value) (M' : Dev) (hB : M'.B = M.B) (hP : M'.P = M.P) (hW : M'.W = M.W) (hK : M'.K = M.K) (hp : M'.pg = M.pg) (hft : M'.ft = M.ft) (hops : M'.ops = M.ops) (hrf : M'.rf = M.rf) (hdk : M'.dark = M.dark)
    (c0 : ∀ i, i < M.B → q ≠ i * 4)
    (c1 : ∀ i, i < M.B → (w.setCell ⟨L.kb, q, none⟩ v).cell? ⟨L.kb, i * 4 + 1, none⟩ = some (.int .i64 (M'.er i : Int)))
    (c2 : ∀ i, i < M.B → (w.setCell ⟨L.kb, q, none⟩ v).cell? ⟨L.kb, i * 4 + 2, none⟩ = some (.bool (M'.md i)))
    (c3 : ∀ i, i < M.B → (w.setCell ⟨L.kb, q, none⟩ v).cell? ⟨L.kb, i * 4 + 3, none⟩ = some (.bool (M'.bk i))) : RepO (w.setCell ⟨L.kb, q, none⟩ v) F o L M' := by
  obtain ⟨B, P, W, K, pg, er, md, bk, ft, ops, rf, dk⟩ := M
  obtain ⟨B', P', W', K', pg', er', md', bk', ft', ops', rf', dk'⟩ := M'
  dsimp only at hB hP hW hK hp hft hops hrf hdk c0 c1 c2 c3
  subst hB hP hW hK hp hft hops hrf hdk
  have hs : (w.setCell ⟨L.kb, q, none⟩ v).heap.size = w.heap.size := by simp [World.setCell]
  have ot : ∀ b, o b ≠ 1 → (w.setCell ⟨L.kb, q, none⟩ v).heap[b]? = w.heap[b]? := fun b hb => Below.heap_setCell _ _ _ _ (fun e => hb (by rw [show b = L.kb from e]; exact h.kt.2))
  have eg := ot L.g (by rw [h.gt.2]; decide)
  have cg : ∀ i', (w.setCell ⟨L.kb, q, none⟩ v).cell? ⟨L.g, i', none⟩ = w.cell? ⟨L.g, i', none⟩ := fun i' => World.cell?_of_block eg
  exact {
    new := fun b hb' => h.new b (by rw [← hs]; exact hb')
    gl := by rw [hs]; exact h.gl
    gt := h.gt
    gf := fun i' => (frozen_block eg i').trans (h.gf i')
    g0 := (cg 0).trans h.g0
    g1 := (cg 1).trans h.g1
    g2 := (cg 2).trans h.g2
    g3 := (cg 3).trans h.g3
    g4 := (cg 4).trans h.g4
    g5 := (cg 5).trans h.g5
    g6 := (cg 6).trans h.g6
    g7 := (cg 7).trans h.g7
    g8 := (cg 8).trans h.g8
    kl := by rw [hs]; exact h.kl
    kt := h.kt
    kf := fun i' => by rw [World.frozen?_setCell]; exact h.kf i'
    k0 := fun i hi => (World.cell?_setCell_other _ _ _ _ (by intro e; injection e with e1 e2; exact c0 i hi e2)).trans (h.k0 i hi)
    k1 := c1
    k2 := c2
    k3 := c3
    pl := fun i hi => by rw [hs]; exact h.pl i hi
    pt := h.pt
    pc := h.pc
    pp := fun i hi j hj => (World.cell?_of_block (a := ⟨L.kp i, j, none⟩) (ot _ (by rw [(h.pt i hi).2]; decide))).trans (h.pp i hi j hj)
    pg := fun i hi j hj => (h.pg i hi j hj).block (by rw [hs]; exact Nat.le_refl _) fun b hl hF => ot b (by rw [hF.2]; unfold tg; omega)
    len := h.len
    ft := h.ft.block (by rw [hs]; exact Nat.le_refl _) fun b hl hF => ot b (by rw [hF.2]; decide)
    fm := h.fm
    fk := h.fk
    geo := h.geo }
/-- the blocks that a page's own functions may use -/
def Own1 (w : World) (F : Nat → Prop) (o : Nat → Nat) (t : Nat) : Nat → Prop := fun b => Tg F o t b ∨ w.heap.size ≤ b
theorem tg_inj {P i j i' j' : Nat} (hj : j < P) (hj' : j' < P) (h : tg P i j = tg P i' j') : i = i' ∧ j = j' := by
  unfold tg at h
  have h : i * P + j = i' * P + j' := by omega
  have e1 : (i * P + j) / P = i := by rw [Nat.mul_comm, Nat.mul_add_div (by omega), Nat.div_eq_of_lt hj]; omega
  have e2 : (i' * P + j') / P = i' := by rw [Nat.mul_comm, Nat.mul_add_div (by omega), Nat.div_eq_of_lt hj']; omega
  have hi : i = i' := by rw [← e1, ← e2, h]
  subst hi
  exact ⟨rfl, by omega⟩
def setPg (f : Nat → Nat → Pg) (i j : Nat) (p : Pg) : Nat → Nat → Pg := fun i' j' => if i' = i ∧ j' = j then p else f i' j'
/-- one page has changed -/
theorem RepO.page (h : RepO w F o L M) (hF : ∀ b, w.heap.size ≤ b → F b) {i j : Nat} (hi : i < M.B) (hj : j < M.P) (hk : Cl.Keeps (fun b => ¬ Own1 w F o (tg M.P i j) b) w w') {q : Pg} (hq : Page w' (Own1 w F o (tg M.P i j)) (L.pa i j) q.ps q.ss q.st) (hl : q.ps.length = M.n) :
    Rep w' F L { M with pg := setPg M.pg i j q } := by
  have ho : ∀ b, b < w.heap.size → o b ≠ tg M.P i j → w'.heap[b]? = w.heap[b]? := fun b hb ht => hk.block b hb (fun e => by
    rcases e with e | e
    · exact ht e.2
    · omega)
  have hs := hk.size
  let o' : Nat → Nat := fun b => if w.heap.size ≤ b ∧ b < w'.heap.size then tg M.P i j else o b
  have o1 : ∀ b, b < w.heap.size → o' b = o b := fun b hb => if_neg (by omega)
  have eg := ho _ h.gl (by rw [h.gt.2]; unfold tg; omega)
  have ek := ho _ h.kl (by rw [h.kt.2]; unfold tg; omega)
  have cg : ∀ i, w'.cell? ⟨L.g, i, none⟩ = w.cell? ⟨L.g, i, none⟩ := fun i => World.cell?_of_block eg
  have ck : ∀ i, w'.cell? ⟨L.kb, i, none⟩ = w.cell? ⟨L.kb, i, none⟩ := fun i => World.cell?_of_block ek
  refine ⟨o', ?_⟩
  exact {
    new := fun b hb' => by
      show (if w.heap.size ≤ b ∧ b < w'.heap.size then tg M.P i j else o b) = 9
      rw [if_neg (by omega)]
      exact h.new b (by omega)
    gl := Nat.lt_of_lt_of_le h.gl hs
    gt := ⟨h.gt.1, (o1 _ h.gl).trans h.gt.2⟩
    gf := fun i => (frozen_block eg i).trans (h.gf i)
    g0 := (cg 0).trans h.g0
    g1 := (cg 1).trans h.g1
    g2 := (cg 2).trans h.g2
    g3 := (cg 3).trans h.g3
    g4 := (cg 4).trans h.g4
    g5 := (cg 5).trans h.g5
    g6 := (cg 6).trans h.g6
    g7 := (cg 7).trans h.g7
    g8 := (cg 8).trans h.g8
    kl := Nat.lt_of_lt_of_le h.kl hs
    kt := ⟨h.kt.1, (o1 _ h.kl).trans h.kt.2⟩
    kf := fun i => (frozen_block ek i).trans (h.kf i)
    k0 := fun i hi => (ck _).trans (h.k0 i hi)
    k1 := fun i hi => (ck _).trans (h.k1 i hi)
    k2 := fun i hi => (ck _).trans (h.k2 i hi)
    k3 := fun i hi => (ck _).trans (h.k3 i hi)
    pl := fun i hi => Nat.lt_of_lt_of_le (h.pl i hi) hs
    pt := fun i hi => ⟨(h.pt i hi).1, (o1 _ (h.pl i hi)).trans (h.pt i hi).2⟩
    pc := h.pc
    pp := fun i hi j hj => (World.cell?_of_block (a := ⟨L.kp i, j, none⟩) (ho _ (h.pl i hi) (by rw [(h.pt i hi).2]; unfold tg; omega))).trans (h.pp i hi j hj)
    pg := fun i' hi' j' hj' => by
      show Page w' (Tg F o' (tg M.P i' j')) (L.pa i' j') (setPg M.pg i j q i' j').ps (setPg M.pg i j q i' j').ss (setPg M.pg i j q i' j').st
      by_cases e : i' = i ∧ j' = j
      · obtain ⟨rfl, rfl⟩ := e
        unfold setPg
        rw [if_pos ⟨rfl, rfl⟩]
        refine hq.only fun b hb hF' => ?_
        rcases Nat.lt_or_ge b w.heap.size with hlt | hge
        · rcases hF' with e | e
          · exact ⟨e.1, (o1 b hlt).trans e.2⟩
          · omega
        · exact ⟨hF b hge, if_pos ⟨hge, hb⟩⟩
      · unfold setPg
        rw [if_neg e]
        have hne : tg M.P i' j' ≠ tg M.P i j := fun ht => e (tg_inj hj' hj ht)
        refine ((h.pg i' hi' j' hj').block hs fun b hl hF' => ho b hl (by rw [hF'.2]; exact hne)).only fun b hb hF' => ?_
        refine ⟨hF'.1, ?_⟩
        show (if w.heap.size ≤ b ∧ b < w'.heap.size then tg M.P i j else o b) = tg M.P i' j'
        rw [if_neg (fun hh => ?_)]
        · exact hF'.2
        · have := h.new b hh.1
          have := hF'.2
          unfold tg at this
          omega
    len := fun i' hi' j' hj' => by
      show (setPg M.pg i j q i' j').ps.length = M.n
      unfold setPg
      split
      · exact hl
      · exact h.len i' hi' j' hj'
    ft := (h.ft.block hs fun b hl hF' => ho b hl (by rw [hF'.2]; unfold tg; omega)).mono fun b hb hF' => by
      refine ⟨hF'.1, ?_⟩
      show (if w.heap.size ≤ b ∧ b < w'.heap.size then tg M.P i j else o b) = 3
      rw [if_neg (fun hh => ?_)]
      · exact hF'.2
      · have := h.new b hh.1
        have := hF'.2
        omega
    fm := h.fm
    fk := h.fk
    geo := h.geo }
/-- a page, for its own functions -/
theorem RepO.own1 (h : RepO w F o L M) {i j : Nat} (hi : i < M.B) (hj : j < M.P) : Page w (Own1 w F o (tg M.P i j)) (L.pa i j) (M.pg i j).ps (M.pg i j).ss (M.pg i j).st := (h.pg i hi j hj).only fun b _ hb => Or.inl hb
theorem Own1.not (hF : ∀ b, w.heap.size ≤ b → F b) {t : Nat} : Cl.Keeps (fun b => ¬ Own1 w F o t b) w w' → Cl.Keeps (fun b => ¬ F b) w w' := fun h => Cl.keeps_of h fun b hb e => hb (by
  rcases e with e | e
  · exact e.1
  · exact hF b e)
/-- what was put on a page that is not whole is not told -/
theorem Page.any_ss {p : Addr} {ps : List (Int × Int)} {ss : List Nat} {st : Int} (h : Page w F p ps ss st) (hst : st ≠ 1) (ss' : List Nat) : Page w F p ps ss' st := by
  obtain ⟨⟨g, k, c, rfl, h1, h2, h3, h4, h5, h6, h7, h8, h9, h10⟩, hbd, hsm⟩ := h
  refine ⟨⟨g, k, c, rfl, h1, h2, h3, h4, h5, h6, h7, h8, h9, fun i hi => ?_⟩, hbd, hsm⟩
  obtain ⟨q, s, hs, _⟩ := h10 i hi
  exact ⟨q, s, hs, fun e => absurd e hst⟩
theorem Rep.eq {M' : Dev} (h : Rep w F L M) (e : M = M') : Rep w F L M' := e ▸ h
def blankPg (n : Nat) : Pg := ⟨List.replicate n (0, 0), [], 0⟩
end
end Go.Proofs.YtjhoecfhmndcgaaGreat
namespace Go.Proofs.YtjhoecfhmndcgaaGreat
open Go.RowKit Go.Gf Go.Fl
set_option linter.unusedVariables false
set_option linter.unusedSimpArgs false
theorem dbeyond_any (x : Nat) (w : World) : Calls Tryz.prog 109 #[.int .u16 (x : Int)] w fun e w' => e = .returned (.bool (decide (1024 ≤ x))) ∧ w = w' := by
  have h : decide ((1024 : Int) ≤ (x : Int)) = decide (1024 ≤ x) := by rw [decide_eq_decide]; omega
  go_enter Tryz.func109, Tryz.ntmps109
  go_wp2_with fail
  go_ret
  exact ⟨rfl, rfl⟩
set_option maxHeartbeats 2000000 in
theorem dindex_any (A : Option Addr) (c : Nat) (xs : List Nat) (w : World) (h : Sl w w.heap.size A xs) (hl : xs.length ≤ 1000000) (n : Nat) (hn : xs.length = n) :
    Calls Tryz.prog 132 #[.slice A n c, .func (.func 109) #[] #[]] w fun e w' => (∃ k : Int, e = .returned (.int .i64 k) ∧ anyC xs = decide (0 ≤ k)) ∧ w = w' := by
  subst hn
  have H := Lib.hid h
  clear h
  have hno : Hid ((∀ k (h : k < xs.length), xs[k] < 1024) → anyC xs = false) := anyC_none
  have hyes : Hid (∀ {k : Nat} (hk : k < xs.length), 1024 ≤ xs[k] → anyC xs = true) := anyC_some
  generalize anyC xs = T at *
  go_enter Tryz.func132, Tryz.ntmps132
  go_wp2_with fail
  go_loop [8] (fun n => ∃ k : Nat, k ≤ xs.length ∧ Hid (∀ j (h : j < xs.length), j < k → xs[j] < 1024) ∧ n = .int .i64 k) (fun n => xs.length - (intOf n).toNat)
  case atStart => exact ⟨0, Nat.zero_le _, Lib.hid (fun j _ h => absurd h (by omega)), rfl⟩
  case round =>
    obtain ⟨k, hk, HK, rfl⟩ := hrel
    by_cases hlt : k < xs.length
    · obtain ⟨a, rfl, hab, hcell⟩ := H.out.at_ hlt
      have hx := H.out.1 xs[k] (List.getElem_mem hlt)
      have hc := dbeyond_any xs[k] w
      by_cases hb : 1024 ≤ xs[k]
      · obtain rfl := hyes.out hlt hb
        rw [decide_eq_true hb] at hc
        replace hc := Lib.hid hc
        clear hb
        go_wp2_with (go_at_call 109; (with_reducible refine hc.out.mono ?_); rintro e w1 ⟨rfl, rfl⟩)
        go_ret
        exact ⟨⟨_, rfl, by rw [eq_comm, decide_eq_true_eq]; omega⟩, rfl⟩
      · rw [decide_eq_false hb] at hc
        replace hc := Lib.hid hc
        have HK' : Hid (∀ j (h : j < xs.length), j < k + 1 → xs[j] < 1024) := fun j hj hjk => by
          rcases Nat.lt_or_ge j k with h1 | h1
          · exact HK.out j hj h1
          · obtain rfl : j = k := by omega
            omega
        clear hb HK
        go_wp2_with (go_at_call 109; (with_reducible refine hc.out.mono ?_); rintro e w1 ⟨rfl, rfl⟩)
        go_round
        case rel => exact ⟨k + 1, by omega, HK', by go_num⟩
        case measure => simp [intOf]; omega
    · obtain rfl : k = xs.length := by omega
      obtain rfl := hno.out (fun j hj => HK.out j hj hj)
      clear HK
      go_wp2_with fail
      go_ret
      exact ⟨⟨-1, rfl, by decide⟩, rfl⟩
set_option maxHeartbeats 1000000 in
theorem dcontains_any (A : Option Addr) (c : Nat) (xs : List Nat) (w : World) (h : Sl w w.heap.size A xs) (hl : xs.length ≤ 1000000) (n : Nat) (hn : xs.length = n) :
    Calls Tryz.prog 108 #[.slice A n c, .func (.func 109) #[] #[]] w fun e w' => e = .returned (.bool (anyC xs)) ∧ w = w' := by
  have hc := Lib.hid (dindex_any A c xs w h hl n hn)
  clear h hn
  generalize anyC xs = T at *
  go_enter Tryz.func108, Tryz.ntmps108
  go_wp2_with (go_at_call 132; (with_reducible refine hc.out.mono ?_); rintro e w1 ⟨⟨k, rfl, hk⟩, rfl⟩)
  go_ret
  exact ⟨by rw [hk]; rfl, rfl⟩
/-- an error that is counted -/
def refB (e : Int) : Bool := decide (e = 1) || decide (e = 3) || decide (e = 9) || decide (e = 5)
theorem refusal_any (e : Int) (w : World) : Calls Tryz.prog 60 #[.int .i64 e] w fun e' w' => e' = .returned (.bool (refB e)) ∧ w = w' := by
  go_enter Tryz.func60, Tryz.ntmps60
  go_wp2_with fail
  all_goals (go_ret; first | exact ⟨rfl, rfl⟩ | (refine ⟨congrArg (fun b => Ending.returned (.bool b)) ?_, rfl⟩; rename_i hh; unfold refB; show true = _; rw [hh]; rfl))
/-- are all from page p on blank, and the one ahead not? -/
def blankFrom (M : Dev) (b p : Nat) : Bool := (List.range M.P).all fun j => decide (p ≤ j → (M.pg b j).st = 0)
def nextB (M : Dev) (b p : Nat) : Bool := blankFrom M b p && (decide (p = 0) || decide ((M.pg b (p - 1)).st ≠ 0))
theorem blankFrom_no {M : Dev} {b p j : Nat} (hj : j < M.P) (hp : p ≤ j) (h : (M.pg b j).st ≠ 0) : blankFrom M b p = false := by
  rw [Bool.eq_false_iff]
  intro e
  have := List.all_eq_true.1 e j (List.mem_range.2 hj)
  exact h (of_decide_eq_true this hp)
theorem blankFrom_yes {M : Dev} {b p : Nat} (h : ∀ j, j < M.P → p ≤ j → (M.pg b j).st = 0) : blankFrom M b p = true :=
  List.all_eq_true.2 fun j hj => decide_eq_true (h j (List.mem_range.1 hj))
theorem elem65 : Tryz.prog.elem 76 = 108 := by kernel_rfl
/-- s[m:] -/
theorem slice_pages (A : Option Addr) (n c m : Nat) (hm : m ≤ n) (w : World) : (Instr.slice 76 (.slice A n c) (some (.int .i64 (m : Int))) none none).run Tryz.prog w = .ok (sliced A m n c 1) w := by
  rw [run_slice_l (P := Tryz.prog) w 76 A n c (by rw [elem65]; exact Tryz.underlying76) .i64 (m : Int) (by omega) (by omega), elem65, Tryz.sizeOf108]
  simp only [Result.andThen_ok, Int.toNat_natCast]
set_option maxHeartbeats 2000000 in
theorem next_any {w : World} {F : Nat → Prop} {o : Nat → Nat} {L : Lay} {M : Dev} (h : RepO w F o L M) {b p : Nat} (hb : b < M.B) (hp : p < M.P) (x y z : Value) :
    Calls Tryz.prog 110 #[.agg #[.slice (some ⟨L.kp b, 0, none⟩) M.P (L.cp b), x, y, z], .int .i64 (p : Int)] w (AnsY w (.bool (nextB M b p))) := by
  have hcap := h.pc b hb
  have hsl := slice_pages (some ⟨L.kp b, 0, none⟩) M.P (L.cp b) p (by omega)
  have hPc : M.P ≤ 32 := by have := Ge.may_of h.geo; omega
  obtain ⟨a, ha, hcell, hab⟩ : ∃ a, sliced (some ⟨L.kp b, 0, none⟩) p M.P (L.cp b) 1 = .slice (some a) (M.P - p) (L.cp b - p) ∧ (∀ i, i < M.P - p → w.cell? (a.add i) = some (.pointer (some (L.pa b (p + i))))) ∧ a.block < w.heap.size := by
    refine ⟨(⟨L.kp b, 0, none⟩ : Addr).add p, ?_, fun i hi => ?_, ?_⟩
    · unfold sliced
      rw [if_neg (by omega), Nat.mul_one]
      rfl
    · rw [add_add2]
      have e : (⟨L.kp b, 0, none⟩ : Addr).add (p + i) = ⟨L.kp b, p + i, none⟩ := by unfold Addr.add; split <;> simp_all
      rw [e]
      exact h.pp b hb (p + i) (by omega)
    · rw [add_block]; exact h.pl b hb
  rw [ha] at hsl
  have hA := below_alloc' w (.cells #[.slice (some ⟨L.kp b, 0, none⟩) M.P (L.cp b), x, y, z] 79)
  have b0 := cell_new w #[.slice (some ⟨L.kp b, 0, none⟩) M.P (L.cp b), x, y, z] 79 0
  have b0 : (w.alloc (.cells #[.slice (some ⟨L.kp b, 0, none⟩) M.P (L.cp b), x, y, z] 79)).cell? ⟨w.heap.size, 0, none⟩ = some (.slice (some ⟨L.kp b, 0, none⟩) M.P (L.cp b)) := b0
  have hbl : w.heap.size < (w.alloc (.cells #[.slice (some ⟨L.kp b, 0, none⟩) M.P (L.cp b), x, y, z] 79)).heap.size := by rw [World.size_alloc]; omega
  have hno : Hid (∀ {j : Nat}, j < M.P → p ≤ j → (M.pg b j).st ≠ 0 → blankFrom M b p = false) := fun h1 h2 h3 => blankFrom_no h1 h2 h3
  have hyes : Hid ((∀ j, j < M.P → p ≤ j → (M.pg b j).st = 0) → blankFrom M b p = true) := blankFrom_yes
  have hs0 := h.pp b hb
  replace hcell := Lib.hid hcell
  replace h := Lib.hid h
  replace hs0 := Lib.hid hs0
  obtain ⟨n, hn⟩ : ∃ n, M.P = n := ⟨_, rfl⟩
  unfold nextB
  rw [hn] at hsl hcap hPc hp b0 hbl
  rw [hn] at hA ⊢
  obtain ⟨m, hm⟩ : ∃ m, n - p = m := ⟨_, rfl⟩
  rw [hm] at hsl
  have hmp : Hid (m + p = n) := Lib.hid (by omega)
  generalize hw1 : w.alloc (.cells #[.slice (some ⟨L.kp b, 0, none⟩) n (L.cp b), x, y, z] 79) = w1 at *
  replace hn := Lib.hid hn
  have hbw : w.heap.size < w1.heap.size := hbl
  generalize blankFrom M b p = T at *
  replace hA := Lib.hid hA
  clear hm
  have hmle : Hid (m ≤ 32) := Lib.hid (by have := hmp.out; omega)
  go_enter Tryz.func110, Tryz.ntmps110
  go_wp2_with (simp only [hsl])
  go_loopw [12] (fun q wr => ∃ i : Nat, i ≤ m ∧ q = .int .i64 i ∧ Below w.heap.size w wr ∧ Below w1.heap.size w1 wr ∧ Hid (∀ j, p ≤ j → j < p + i → (M.pg b j).st = 0)) (fun q _ => m - (intOf q).toNat)
  case atStart => exact ⟨0, Nat.zero_le _, rfl, hA.out, Below.refl _ _, Lib.hid (fun j h1 h2 => absurd h2 (by omega))⟩
  case round =>
    obtain ⟨i, hi, rfl, hB, hB1, hlo⟩ := hrel
    have hmr := hmp.out
    have hm32 := hmle.out
    by_cases hin : i < m
    · have hiI : (i : Int) < (m : Int) := by omega
      have hdi : decide (i < m) = true := decide_eq_true hin
      have hcl : wr.cell? (a.add i) = some (.pointer (some (L.pa b (p + i)))) := (hB.cell (by rw [add_block]; exact hab)).trans (hcell.out i (by rw [hn.out]; omega))
      have hpi : p + i < M.P := by rw [hn.out]; omega
      have hst := Lib.hid (c_state ((h.out.pg b hb (p + i) hpi).below hB))
      by_cases hz : (M.pg b (p + i)).st = 0
      · rw [hz] at hst
        have hlo' : Hid (∀ j, p ≤ j → j < p + (i + 1) → (M.pg b j).st = 0) := fun j h1 h2 => by
          rcases Nat.lt_or_ge j (p + i) with h3 | h3
          · exact hlo.out j h1 h3
          · rw [show j = p + i by omega]; exact hz
        clear hlo hz hmr
        replace hB := Lib.hid hB
        replace hB1 := Lib.hid hB1
        go_wp2_with (go_at_call 133; (with_reducible refine hst.out.mono ?_); rintro e w2 ⟨rfl, hb2⟩; have hB' := Lib.hid (hB.out.trans (hb2.mono hB.out.size)); have hB1' := Lib.hid (hB1.out.trans (hb2.mono hB1.out.size)); clear hb2)
        go_roundw
        case rel => exact ⟨i + 1, by omega, by go_num, hB'.out, hB1'.out, hlo'⟩
        case measure => simp [intOf]; omega
      · have hT := hno.out hpi (by omega) hz
        have e1 : ((M.pg b (p + i)).st != 0) = true := by simpa using hz
        generalize (M.pg b (p + i)).st = S at *
        clear hlo hz hmr hno hyes
        replace hB := Lib.hid hB
        go_wp2_with (go_at_call 133; (with_reducible refine hst.out.mono ?_); rintro e w2 ⟨rfl, hb2⟩; have hB' := Lib.hid (hB.out.trans (hb2.mono hB.out.size)); clear hb2)
        go_ret
        exact ⟨by rw [hT]; rfl, hB'.out⟩
    · obtain rfl : i = m := by omega
      have hdi : decide (i < i) = false := decide_eq_false (Nat.lt_irrefl _)
      have hT := hyes.out (fun j h1 h2 => hlo.out j h2 (by rw [hn.out] at h1; omega))
      have c0 := (hB1.cell (p := ⟨w.heap.size, 0, none⟩) hbw).trans b0
      clear hlo hno hyes hmr
      replace hB1 := Lib.hid hB1
      subst hT
      by_cases hp0 : p = 0
      · subst hp0
        replace hB := Lib.hid hB
        go_wp2_with fail
        go_ret
        exact ⟨rfl, hB.out⟩
      · obtain ⟨q, rfl⟩ : ∃ q, p = q + 1 := ⟨p - 1, by omega⟩
        have e2 : ((q : Int) + 1 == 0) = false := by simp; omega
        have e3 : (((q + 1 : Nat) : Int) == 0) = false := by simp; omega
        have hq : q < M.P := by rw [hn.out]; omega
        have hqn : q < n := by omega
        have hqI : (q : Int) < (n : Int) := by omega
        have hcl : wr.cell? ⟨L.kp b, q, none⟩ = some (.pointer (some (L.pa b q))) := (hB.cell (p := ⟨L.kp b, q, none⟩) (h.out.pl b hb)).trans (hs0.out q hq)
        have hst := Lib.hid (c_state ((h.out.pg b hb q hq).below hB))
        have hw : wrap64 ((q : Int) + 1 - 1) = (q : Int) := by rw [IntWalk.wrap64_in _ (by omega)]; omega
        have e4 : decide (q + 1 = 0) = false := by simp
        have e5 : q + 1 - 1 = q := rfl
        have e6 : ((M.pg b q).st != 0) = decide ((M.pg b q).st ≠ 0) := by rw [Bool.eq_iff_iff]; simp
        have e7 : Hid (((M.pg b q).st != 0) = (true && (decide (q + 1 = 0) || decide ((M.pg b (q + 1 - 1)).st ≠ 0)))) := Lib.hid (by rw [e4, e5, e6]; rfl)
        clear e6
        obtain ⟨S, hS⟩ : ∃ S, (M.pg b q).st = S := ⟨_, rfl⟩
        rw [hS] at hst
        have e8 : Hid ((S != 0) = (true && (decide (q + 1 = 0) || decide ((M.pg b (q + 1 - 1)).st ≠ 0)))) := Lib.hid (by rw [← hS]; exact e7.out)
        clear e7 hS
        replace hB := Lib.hid hB
        go_wp2_with (go_at_call 133; (with_reducible refine hst.out.mono ?_); rintro e w2 ⟨rfl, hb2⟩; have hB' := Lib.hid (hB.out.trans (hb2.mono hB.out.size)); clear hb2)
        go_ret
        exact ⟨congrArg (fun b => Ending.returned (.bool b)) e8.out, hB'.out⟩
/-- why a page can't be programmed, if as many symbols as it has cells are handed in -/
def progE (M : Dev) (b p : Nat) : Int := if M.md b = true then 9 else if nextB M b p = false then 5 else if M.bk b = true then 6 else 0
def erasE (M : Dev) (b : Nat) : Int := if M.md b = true then 9 else if M.bk b = true then 7 else 0
theorem anyC_ok {xs : List Nat} (h : ∀ x ∈ xs, x < 1024) : anyC xs = false := anyC_none fun k hk => h _ (List.getElem_mem hk)
set_option maxHeartbeats 2000000 in
theorem progfault_any {w : World} {F : Nat → Prop} {o : Nat → Nat} {L : Lay} {M : Dev} (h : RepO w F o L M) {b p : Nat} (hb : b < M.B) (hp : p < M.P) {A : Option Addr} {xs : List Nat} {c n : Nat} (hs : Sl w w.heap.size A xs) (hn : xs.length = n) (hl : n ≤ 1000000) (hx : ∀ x ∈ xs, x < 1024) (x : Value) :
    Calls Tryz.prog 77 #[.agg #[.slice (some ⟨L.kp b, 0, none⟩) M.P (L.cp b), x, .bool (M.md b), .bool (M.bk b)], .int .i64 (p : Int), .slice A n c, .int .i64 (n : Int)] w (AnsY w (.int .i64 (progE M b p))) := by
  have hA := below_alloc' w (.cells #[.slice (some ⟨L.kp b, 0, none⟩) M.P (L.cp b), x, .bool (M.md b), .bool (M.bk b)] 79)
  have bc := cell_new w #[.slice (some ⟨L.kp b, 0, none⟩) M.P (L.cp b), x, .bool (M.md b), .bool (M.bk b)] 79
  have b0 := bc 0
  have b1 := bc 1
  have b2 := bc 2
  have b3 := bc 3
  clear bc
  simp only [List.getElem?_toArray, List.getElem?_cons_zero, List.getElem?_cons_succ] at b0 b1 b2 b3
  have hbl : w.heap.size < (w.alloc (.cells #[.slice (some ⟨L.kp b, 0, none⟩) M.P (L.cp b), x, .bool (M.md b), .bool (M.bk b)] 79)).heap.size := by rw [World.size_alloc]; omega
  have hany := anyC_ok hx
  have hcc := dcontains_any A c xs (w.alloc (.cells #[.slice (some ⟨L.kp b, 0, none⟩) M.P (L.cp b), x, .bool (M.md b), .bool (M.bk b)] 79)) ((hs.below hA).more hA.size) (by omega) n hn
  have hnx := next_any (h.below hA) hb hp x (.bool (M.md b)) (.bool (M.bk b))
  rw [hany] at hcc
  unfold progE
  generalize nextB M b p = N at *
  generalize M.md b = D at *
  generalize M.bk b = K at *
  generalize hw1 : w.alloc (.cells #[.slice (some ⟨L.kp b, 0, none⟩) M.P (L.cp b), x, .bool D, .bool K] 79) = w1 at *
  have d1 : ((n : Int) != (n : Int)) = false := by simp
  replace hA := Lib.hid hA
  replace hcc := Lib.hid hcc
  replace hnx := Lib.hid hnx
  clear h hs hx hany
  cases D
  · cases N
    · go_enter Tryz.func77, Tryz.ntmps77
      go_wp2_with (first
        | (go_at_call 108; (with_reducible refine hcc.out.mono ?_); rintro e w2 ⟨rfl, rfl⟩)
        | (go_at_call 110; (with_reducible refine hnx.out.mono ?_); rintro e w2 ⟨rfl, hb2⟩; have hB := Lib.hid (hA.out.trans (hb2.mono hA.out.size)); have c3 := (hb2.cell (p := ⟨w.heap.size, 3, none⟩) hbl).trans b3; clear hb2))
      go_ret
      exact ⟨rfl, hB.out⟩
    · cases K
      all_goals
        go_enter Tryz.func77, Tryz.ntmps77
        go_wp2_with (first
          | (go_at_call 108; (with_reducible refine hcc.out.mono ?_); rintro e w2 ⟨rfl, rfl⟩)
          | (go_at_call 110; (with_reducible refine hnx.out.mono ?_); rintro e w2 ⟨rfl, hb2⟩; have hB := Lib.hid (hA.out.trans (hb2.mono hA.out.size)); have c3 := (hb2.cell (p := ⟨w.heap.size, 3, none⟩) hbl).trans b3; clear hb2))
        go_ret
        exact ⟨rfl, hB.out⟩
  · go_enter Tryz.func77, Tryz.ntmps77
    go_wp2_with (first
      | (go_at_call 108; (with_reducible refine hcc.out.mono ?_); rintro e w2 ⟨rfl, rfl⟩))
    go_ret
    exact ⟨rfl, hA.out⟩
theorem erasefault_any (w : World) (M : Dev) (b : Nat) (x y : Value) :
    Calls Tryz.prog 78 #[.agg #[x, y, .bool (M.md b), .bool (M.bk b)]] w (AnsY w (.int .i64 (erasE M b))) := by
  have hA := below_alloc' w (.cells #[x, y, .bool (M.md b), .bool (M.bk b)] 79)
  have bc := cell_new w #[x, y, .bool (M.md b), .bool (M.bk b)] 79
  have b2 := bc 2
  have b3 := bc 3
  clear bc
  simp only [List.getElem?_toArray, List.getElem?_cons_zero, List.getElem?_cons_succ] at b2 b3
  unfold erasE
  generalize M.md b = D at *
  generalize M.bk b = K at *
  generalize hw1 : w.alloc (.cells #[x, y, .bool D, .bool K] 79) = w1 at *
  replace hA := Lib.hid hA
  cases D <;> cases K
  all_goals
    go_enter Tryz.func78, Tryz.ntmps78
    go_wp2_with fail
    go_ret
    exact ⟨rfl, hA.out⟩
end Go.Proofs.YtjhoecfhmndcgaaGreat
namespace Go.Proofs.YtjhoecfhmndcgaaGreat
open Go.RowKit Go.Gf Go.Fl
set_option linter.unusedVariables false
set_option linter.unusedSimpArgs false
attribute [local go_sem ↓] Cl.quiet_after Cl.quiet_since
/-- block g holds that operation -/
structure OBox (w : World) (g : Nat) (k b p : Int) (A : Option Addr) (n c : Nat) : Prop where
  lt : g < w.heap.size
  c0 : w.cell? ⟨g, 0, none⟩ = some (.int .i64 k)
  c1 : w.cell? ⟨g, 1, none⟩ = some (.int .i64 b)
  c2 : w.cell? ⟨g, 2, none⟩ = some (.int .i64 p)
  c3 : w.cell? ⟨g, 3, none⟩ = some (.slice A n c)
theorem OBox.keep {w w' : World} {g : Nat} {k b p : Int} {A : Option Addr} {n c : Nat} (h : OBox w g k b p A n c) (hb : Below w.heap.size w w') : OBox w' g k b p A n c :=
  ⟨Nat.lt_of_lt_of_le h.lt hb.size, (hb.cell h.lt).trans h.c0, (hb.cell h.lt).trans h.c1, (hb.cell h.lt).trans h.c2, (hb.cell h.lt).trans h.c3⟩
theorem OBox.block {w w' : World} {g : Nat} {k b p : Int} {A : Option Addr} {n c : Nat} (h : OBox w g k b p A n c) (hs : w.heap.size ≤ w'.heap.size) (hb : w'.heap[g]? = w.heap[g]?) : OBox w' g k b p A n c :=
  have e := fun i => World.cell?_of_block (w := w) (w' := w') (a := ⟨g, i, none⟩) hb
  ⟨Nat.lt_of_lt_of_le h.lt hs, (e 0).trans h.c0, (e 1).trans h.c1, (e 2).trans h.c2, (e 3).trans h.c3⟩
theorem OBox.new (w : World) (k b p : Int) (A : Option Addr) (n c : Nat) : OBox (w.alloc (.cells #[.int .i64 k, .int .i64 b, .int .i64 p, .slice A n c] 92)) w.heap.size k b p A n c :=
  have h := cell_new w #[.int .i64 k, .int .i64 b, .int .i64 p, .slice A n c] 92
  ⟨by rw [World.size_alloc]; omega, h 0, h 1, h 2, h 3⟩
theorem lex_fault1 : (Cl.opsAt 1 (Tryz.f59.body.getD .skip)).map (Region.lexB .any) = some true := by kernel_rfl
theorem lex_fault7 : (Cl.opsAt 7 (Tryz.f59.body.getD .skip)).map (Region.lexB .any) = some true := by kernel_rfl
theorem ans_aft {f : FuncId} {args : Array Value} {B : Nat} {w₀ : World} {x : Cl.After B w₀} {v : Value} (hB : B ≤ w₀.heap.size) (h : Calls Tryz.prog f args x.w (AnsY x.w v)) :
    Calls Tryz.prog f args x.w fun e w'' => e = .returned v ∧ ∃ y : Cl.After B w₀, w'' = y.w := Cl.after_of hB h
theorem num_zero {B P W K b p : Int} (h : Ge.isN B P W K b p = false) : Ge.numG B P W K b p = 0 := by unfold Ge.numG; rw [h]; rfl
theorem isN_yes {M : Dev} (hg : Ge.mayG M.B M.P M.W M.K = true) {b p : Nat} (hb : b < M.B) (hp : p < M.P) : Ge.isN M.B M.P M.W M.K (b : Int) (p : Int) = true := by
  unfold Ge.isN
  rw [hg]
  simp
  omega
theorem isN_no {M : Dev} {b p : Int} (h : ¬ (0 ≤ b ∧ b < (M.B : Int) ∧ 0 ≤ p ∧ p < (M.P : Int))) : Ge.isN M.B M.P M.W M.K b p = false := by
  unfold Ge.isN
  rw [Bool.eq_false_iff]
  intro e
  simp only [Bool.and_eq_true, decide_eq_true_eq] at e
  omega
set_option maxRecDepth 20000 in
set_option maxHeartbeats 4000000 in
theorem fault_no {w : World} {F : Nat → Prop} {o : Nat → Nat} {L : Lay} {M : Dev} (h : RepO w F o L M) (k b p : Int) (A : Option Addr) (n c : Nat) (hi : Ge.isN M.B M.P M.W M.K b p = false) :
    Calls Tryz.prog 59 #[.pointer (some ⟨L.g, 0, none⟩), .agg #[.int .i64 k, .int .i64 b, .int .i64 p, .slice A n c]] w (AnsY w (.int .i64 1)) := by
  have hA := below_alloc' w (.cells #[.int .i64 k, .int .i64 b, .int .i64 p, .slice A n c] 92)
  have hx := Lib.hid (OBox.new w k b p A n c)
  have hr := h.below hA
  have cn := Lib.hid (Ge.number_lit hi (num_zero hi))
  generalize hw1 : w.alloc (.cells #[.int .i64 k, .int .i64 b, .int .i64 p, .slice A n c] 92) = w1 at *
  have k0 := fun x : Cl.After w1.heap.size w1 => (hr.below x.below).g0
  have k1 := fun x : Cl.After w1.heap.size w1 => (hr.below x.below).g1
  have k2 := fun x : Cl.After w1.heap.size w1 => (hr.below x.below).g2
  have k3 := fun x : Cl.After w1.heap.size w1 => (hr.below x.below).g3
  have o1 := fun x : Cl.After w1.heap.size w1 => (hx.out.keep x.below).c1
  have o2 := fun x : Cl.After w1.heap.size w1 => (hx.out.keep x.below).c2
  replace hA := Lib.hid hA
  clear hr hi h hx
  go_enter Tryz.func59, Tryz.ntmps59
  go_wp2_with fail
  refine Cl.region_after_at w1.heap.size (by kernel_rfl) lex_fault1 (by kernel_rfl) ?_
  try simp only [List.append]
  repeat (go_big_quiet_step (first | (go_at_call 42; with_reducible exact Ge.ans_of (Nat.le_refl _) (cn.out _))))
  refine wpQuiet_nil ?_
  rintro _ ⟨x, rfl⟩
  go_wp2
  go_ret
  exact ⟨rfl, hA.out.trans (x.below.mono hA.out.size)⟩
theorem n_le {M : Dev} (h : Ge.mayG M.B M.P M.W M.K = true) : M.n ≤ 320 := by
  have h1 := Ge.may_of h
  have := Nat.mul_le_mul (show M.W ≤ 4 by omega) (show M.K + 16 ≤ 80 by omega)
  unfold Dev.n
  omega
/-- the error of an operation on a page that there is -/
def faultE (M : Dev) (k : Int) (b p : Nat) : Int := if k = 2 then progE M b p else if k = 3 then erasE M b else 0
set_option maxRecDepth 20000 in
set_option maxHeartbeats 8000000 in
theorem fault_yes {w : World} {F : Nat → Prop} {o : Nat → Nat} {L : Lay} {M : Dev} (h : RepO w F o L M) (k : Int) {b p : Nat} (hb : b < M.B) (hp : p < M.P) (A : Option Addr) (n c : Nat) {xs : List Nat} (hs : k = 2 → Sl w w.heap.size A xs ∧ xs.length = n ∧ n = M.n ∧ ∀ x ∈ xs, x < 1024) :
    Calls Tryz.prog 59 #[.pointer (some ⟨L.g, 0, none⟩), .agg #[.int .i64 k, .int .i64 (b : Int), .int .i64 (p : Int), .slice A n c]] w (AnsY w (.int .i64 (faultE M k b p))) := by
  obtain ⟨E, hE⟩ : ∃ E, Hid (faultE M k b p = E) := ⟨_, Lib.hid rfl⟩
  rw [hE.out]
  have hgeo := h.geo
  have hi := isN_yes hgeo hb hp
  obtain ⟨N, cn0⟩ : ∃ N, ∀ w, Calls Tryz.prog 42 #[.agg #[.int .i64 (M.B : Int), .int .i64 (M.P : Int), .int .i64 (M.W : Int), .int .i64 (M.K : Int)], .int .i64 (b : Int), .int .i64 (p : Int)] w (Ge.Ans w (.tuple #[.int .i64 N, .bool true])) := ⟨_, Ge.number_lit hi rfl⟩
  have cn := Lib.hid cn0
  clear cn0
  have hce : Ge.celG M.B M.P M.W M.K = (M.n : Int) := by
    unfold Ge.celG Dev.n
    rw [if_pos hgeo]
    simp
  have cc := Lib.hid (Ge.cells_lit hce)
  have hA := below_alloc' w (.cells #[.int .i64 k, .int .i64 (b : Int), .int .i64 (p : Int), .slice A n c] 92)
  have hx := Lib.hid (OBox.new w k b p A n c)
  have hr := h.below hA
  have hs1 : k = 2 → Sl (w.alloc (.cells #[.int .i64 k, .int .i64 (b : Int), .int .i64 (p : Int), .slice A n c] 92)) (w.alloc (.cells #[.int .i64 k, .int .i64 (b : Int), .int .i64 (p : Int), .slice A n c] 92)).heap.size A xs ∧ xs.length = n ∧ n = M.n ∧ ∀ x ∈ xs, x < 1024 := fun e => ⟨((hs e).1.below hA).more hA.size, (hs e).2⟩
  have hM32 := Ge.may_of hgeo
  have hbI : (b : Int) < (M.B : Int) := by omega
  have hb64 : b < 64 := by omega
  clear hs h hce hi
  generalize hw1 : w.alloc (.cells #[.int .i64 k, .int .i64 (b : Int), .int .i64 (p : Int), .slice A n c] 92) = w1 at *
  have k0 := fun x : Cl.After w1.heap.size w1 => (hr.below x.below).g0
  have k1 := fun x : Cl.After w1.heap.size w1 => (hr.below x.below).g1
  have k2 := fun x : Cl.After w1.heap.size w1 => (hr.below x.below).g2
  have k3 := fun x : Cl.After w1.heap.size w1 => (hr.below x.below).g3
  have o1 := fun x : Cl.After w1.heap.size w1 => (hx.out.keep x.below).c1
  have o2 := fun x : Cl.After w1.heap.size w1 => (hx.out.keep x.below).c2
  replace hA := Lib.hid hA
  replace hr := Lib.hid hr
  replace hs1 := Lib.hid hs1
  replace hM32 := Lib.hid hM32
  replace hgeo := Lib.hid hgeo
  go_enter Tryz.func59, Tryz.ntmps59
  go_wp2_with fail
  refine Cl.region_after_at w1.heap.size (by kernel_rfl) lex_fault1 (by kernel_rfl) ?_
  try simp only [List.append]
  repeat (go_big_quiet_step (first | (go_at_call 42; with_reducible exact Ge.ans_of (Nat.le_refl _) (cn.out _))))
  refine wpQuiet_nil ?_
  rintro _ ⟨x, rfl⟩
  clear k0 k1 k2 k3 o1 o2
  have hx2 := Lib.hid (hx.out.keep x.below)
  have hr2 := Lib.hid (hr.out.below x.below)
  have hA2 := Lib.hid (hA.out.trans (x.below.mono hA.out.size))
  have hs2 : Hid (k = 2 → Sl x.w x.w.heap.size A xs ∧ xs.length = n ∧ n = M.n ∧ ∀ x ∈ xs, x < 1024) := fun e => ⟨((hs1.out e).1.below x.below).more x.below.size, (hs1.out e).2⟩
  clear hx hr hA hs1
  generalize x.w = w2 at *
  go_wp2
  refine Cl.region_way0 (fun _ => True) 9 [(0, .r), (1, .r), (2, .r), (3, .r), (4, .r), (5, .r), (6, .r), (7, .r), (8, .c), (9, .z)] (by kernel_rfl) (by kernel_rfl) ?_
  intro w3 hk3
  have hb3 := hk3.below
  have hx3 := Lib.hid (hx2.out.keep hb3)
  have hr3 := Lib.hid (hr2.out.below hb3)
  have hA3 := Lib.hid (hA2.out.trans (hb3.mono hA2.out.size))
  have hs3 : Hid (k = 2 → Sl w3 w3.heap.size A xs ∧ xs.length = n ∧ n = M.n ∧ ∀ x ∈ xs, x < 1024) := fun e => ⟨((hs2.out e).1.below hb3).more hb3.size, (hs2.out e).2⟩
  clear hx2 hr2 hA2 hs2 hk3 hb3
  have g4 := fun y : Cl.Since (fun _ => True) w3 => (hr3.out.below y.keeps.below).g4
  have o1 := fun y : Cl.Since (fun _ => True) w3 => (hx3.out.keep y.keeps.below).c1
  have q0 := fun y : Cl.Since (fun _ => True) w3 => (hr3.out.below y.keeps.below).k0 b hb
  have q1 := fun y : Cl.Since (fun _ => True) w3 => (hr3.out.below y.keeps.below).k1 b hb
  have q2 := fun y : Cl.Since (fun _ => True) w3 => (hr3.out.below y.keeps.below).k2 b hb
  have q3 := fun y : Cl.Since (fun _ => True) w3 => (hr3.out.below y.keeps.below).k3 b hb
  iterate 8 (refine Cl.way_r rfl ?_; go_big_quiet_step (fail); refine wpQuiet_nil ?_)
  clear g4 o1 q0 q1 q2 q3
  refine Cl.way_c rfl ?_
  go_wp2_with fail
  refine Cl.way_on (Cl.Keeps.of_below (below_alloc' w3 _)) ?_
  refine Cl.way_z rfl ?_
  go_wp2_with fail
  refine Cl.Calm.normal ?_
  have h4 := below_alloc' w3 (.cells #[.slice (some ⟨L.kp b, 0, none⟩) M.P (L.cp b), .int .i64 (M.er b : Int), .bool (M.md b), .bool (M.bk b)] 79)
  have bc := cell_new w3 #[.slice (some ⟨L.kp b, 0, none⟩) M.P (L.cp b), .int .i64 (M.er b : Int), .bool (M.md b), .bool (M.bk b)] 79
  have b0 := bc 0
  have b1 := bc 1
  have b2 := bc 2
  have b3 := bc 3
  clear bc
  simp only [List.getElem?_toArray, List.getElem?_cons_zero, List.getElem?_cons_succ] at b0 b1 b2 b3
  have hbl : w3.heap.size < (w3.alloc (.cells #[.slice (some ⟨L.kp b, 0, none⟩) M.P (L.cp b), .int .i64 (M.er b : Int), .bool (M.md b), .bool (M.bk b)] 79)).heap.size := by rw [World.size_alloc]; omega
  generalize w3.alloc (.cells #[.slice (some ⟨L.kp b, 0, none⟩) M.P (L.cp b), .int .i64 (M.er b : Int), .bool (M.md b), .bool (M.bk b)] 79) = w4 at *
  have hx4 := Lib.hid (hx3.out.keep h4)
  have hr4 := Lib.hid (hr3.out.below h4)
  have hA4 := Lib.hid (hA3.out.trans (h4.mono hA3.out.size))
  have hs4 : Hid (k = 2 → Sl w4 w4.heap.size A xs ∧ xs.length = n ∧ n = M.n ∧ ∀ x ∈ xs, x < 1024) := fun e => ⟨((hs3.out e).1.below h4).more h4.size, (hs3.out e).2⟩
  have e0 := hx4.out.c0
  clear hx3 hr3 hA3 hs3 h4
  by_cases hk2 : k = 2
  · subst hk2
    obtain rfl : progE M b p = E := hE.out
    obtain ⟨s1, s2, s3, s4⟩ := hs4.out rfl
    subst s3
    have hn6 : M.n ≤ 1000000 := by have := n_le hgeo.out; omega
    have hpf : ∀ x : Cl.After w4.heap.size w4, Calls Tryz.prog 77 #[.agg #[.slice (some ⟨L.kp b, 0, none⟩) M.P (L.cp b), .int .i64 (M.er b : Int), .bool (M.md b), .bool (M.bk b)], .int .i64 (p : Int), .slice A M.n c, .int .i64 (M.n : Int)] x.w (AnsY x.w (.int .i64 (progE M b p))) :=
      fun x => progfault_any (hr4.out.below x.below) hb hp ((s1.below x.below).more x.below.size) s2 hn6 s4 _
    replace hpf := Lib.hid hpf
    clear s1 s2 s4 hs4
    generalize progE M b p = R at *
    generalize M.n = m at *
    clear hE
    have k0 := fun x : Cl.After w4.heap.size w4 => (hr4.out.below x.below).g0
    have k1 := fun x : Cl.After w4.heap.size w4 => (hr4.out.below x.below).g1
    have k2 := fun x : Cl.After w4.heap.size w4 => (hr4.out.below x.below).g2
    have k3 := fun x : Cl.After w4.heap.size w4 => (hr4.out.below x.below).g3
    have o2 := fun x : Cl.After w4.heap.size w4 => (hx4.out.keep x.below).c2
    have o3 := fun x : Cl.After w4.heap.size w4 => (hx4.out.keep x.below).c3
    have r0 := fun x : Cl.After w4.heap.size w4 => (x.below.cell (p := ⟨w3.heap.size, 0, none⟩) hbl).trans b0
    have r1 := fun x : Cl.After w4.heap.size w4 => (x.below.cell (p := ⟨w3.heap.size, 1, none⟩) hbl).trans b1
    have r2 := fun x : Cl.After w4.heap.size w4 => (x.below.cell (p := ⟨w3.heap.size, 2, none⟩) hbl).trans b2
    have r3 := fun x : Cl.After w4.heap.size w4 => (x.below.cell (p := ⟨w3.heap.size, 3, none⟩) hbl).trans b3
    clear b0 b1 b2 b3 hx4
    go_wp2_with fail
    refine Cl.region_after_at w4.heap.size (by kernel_rfl) lex_fault7 (by kernel_rfl) ?_
    try simp only [List.append]
    repeat (go_big_quiet_step (first
      | (go_at_call 48; with_reducible exact Ge.ans_of (Nat.le_refl _) (cc.out _))
      | (go_at_call 77; with_reducible exact ans_aft (Nat.le_refl _) (hpf.out _))))
    refine wpQuiet_nil ?_
    rintro _ ⟨x, rfl⟩
    go_wp2
    go_ret
    exact ⟨rfl, hA4.out.trans (x.below.mono hA4.out.size)⟩
  · by_cases hk3 : k = 3
    · subst hk3
      obtain rfl : erasE M b = E := hE.out
      clear hE
      have hef := Lib.hid (erasefault_any w4 M b (.slice (some ⟨L.kp b, 0, none⟩) M.P (L.cp b)) (.int .i64 (M.er b : Int)))
      generalize erasE M b = R at *
      go_wp2_with (go_at_call 78; (with_reducible refine hef.out.mono ?_); rintro e w5 ⟨rfl, hb5⟩)
      go_ret
      exact ⟨rfl, hA4.out.trans (hb5.mono hA4.out.size)⟩
    · obtain rfl : 0 = E := by rw [← hE.out]; unfold faultE; rw [if_neg hk2, if_neg hk3]
      clear hE
      go_wp2_with fail
      go_ret
      exact ⟨rfl, hA4.out⟩
end Go.Proofs.YtjhoecfhmndcgaaGreat
