/- What the program's product does, as plain numbers: powers of x added up, folded twice, are the product of the field (no program is named here). · The program's package field: what its functions answer, said of the values. · The document's example, and what the laws' walks need to go on from call to call. · What a call of field's functions answers, said as a name for each, whatever made tables and whatever world; and the numbers of the field as powers of x. -/
import Derived.Test.YtmchelbmeajcnaaSl
import Derived.Deep.WholeRow
import Derived.BigQuiet
import Derived.Below
import Derived.Laws.OwnMore
import Derived.Deep.OwnRows
import Derived.Deep.Draws
import Derived.Laws.Rows
import Derived.Laws.Tables
import Derived.Outline
import Derived.Test.YtmchelbmeajcnaaWy
import Derived.Test.YtmchelbmeajcnaaRows
import Derived.ProofKit
import Derived.OpenShut
namespace Go.Gf

/-- x^3 + 1 for x^10 -/
def fo (p : Nat) : Nat := p % 1024 ^^^ 8 * (p / 1024) ^^^ p / 1024
/-- a times the powers of x in the lowest k bits of b, added up -/
def pr : Nat → Nat → Nat → Nat
  | 0, _, _ => 0
  | k + 1, a, b => pr k a b ^^^ a * 2 ^ k * (b / 2 ^ k % 2)
theorem xor_8 (a b : Nat) : 8 * (a ^^^ b) = 8 * a ^^^ 8 * b := by
  have h : ∀ n, 8 * n = 2 * (2 * (2 * n)) := fun n => by omega
  rw [h, h a, h b, xor_double, xor_double, xor_double]
theorem xor_div1024 (a b : Nat) : (a ^^^ b) / 1024 = a / 1024 ^^^ b / 1024 := by
  have := Nat.shiftRight_xor_distrib (a := a) (b := b) (i := 10)
  simpa [Nat.shiftRight_eq_div_pow] using this
theorem fo_xor (a b : Nat) : fo (a ^^^ b) = fo a ^^^ fo b := by
  unfold fo
  have h := Nat.xor_mod_two_pow (a := a) (b := b) (n := 10)
  rw [show (2 : Nat) ^ 10 = 1024 from rfl] at h
  rw [h, xor_div1024, xor_8, xor4 (a % 1024) (b % 1024), xor4]
theorem fo_double : ∀ {a : Nat}, a < 1024 → fo (2 * a) = xt a := fun {a} h => (by decide +kernel : ∀ a : Fin 1024, fo (2 * a.val) = xt a) ⟨a, h⟩
theorem fofo_pow : ∀ {a k : Nat}, a < 1024 → k < 10 → fo (fo (a * 2 ^ k)) = gm a (2 ^ k) :=
  fun {a k} h hk => (by decide +kernel : ∀ a : Fin 1024, ∀ k : Fin 10, fo (fo (a.val * 2 ^ k.val)) = gm a (2 ^ k.val)) ⟨a, h⟩ ⟨k, hk⟩
theorem add_xor {x k : Nat} (h : x < 2 ^ k) : x + 2 ^ k = x ^^^ 2 ^ k := by
  have := Nat.two_pow_add_eq_or_of_lt h 1
  simp only [Nat.mul_one] at this
  rw [Nat.add_comm, this]
  apply Nat.eq_of_testBit_eq
  intro i
  rw [Nat.testBit_xor, Nat.testBit_or, Nat.testBit_two_pow]
  by_cases hi : k = i
  · subst hi
    rw [Nat.testBit_lt_two_pow h]; simp
  · simp [hi]
theorem fofo_pr {a : Nat} (b : Nat) (ha : a < 1024) : ∀ {k : Nat}, k ≤ 10 → fo (fo (pr k a b)) = gm a (b % 2 ^ k)
  | 0, _ => by
    show fo (fo 0) = gm a (b % 2 ^ 0)
    rw [Nat.pow_zero, Nat.mod_one, gm_zero_right]; rfl
  | k + 1, hk => by
    have ih := fofo_pr b ha (k := k) (by omega)
    have hm : b % 2 ^ (k + 1) = b % 2 ^ k + 2 ^ k * (b / 2 ^ k % 2) := by rw [Nat.pow_succ, Nat.mod_mul]
    show fo (fo (pr k a b ^^^ a * 2 ^ k * (b / 2 ^ k % 2))) = _
    rw [fo_xor, fo_xor, ih, hm]
    rcases Nat.mod_two_eq_zero_or_one (b / 2 ^ k) with h | h
    · rw [h, Nat.mul_zero, Nat.mul_zero, Nat.add_zero]
      exact Nat.xor_zero _
    · rw [h, Nat.mul_one, Nat.mul_one, fofo_pow ha (by omega), add_xor (Nat.mod_lt _ (Nat.two_pow_pos k)), gm_xor_right]
theorem pr_gm {a b : Nat} (ha : a < 1024) : fo (fo (pr 10 a b)) = gm a (b % 1024) := fofo_pr b ha (k := 10) (Nat.le_refl _)
theorem pr_lt {a b : Nat} (ha : a < 1024) : ∀ {k : Nat}, k ≤ 10 → pr k a b < 2 ^ 20
  | 0, _ => by show 0 < _; decide
  | k + 1, hk => by
    have ih := pr_lt (b := b) ha (k := k) (by omega)
    show pr k a b ^^^ _ < _
    refine Nat.xor_lt_two_pow ih ?_
    have h2 : (2 : Nat) ^ k ≤ 2 ^ 9 := Nat.pow_le_pow_right (by omega) (by omega)
    have h3 : a * 2 ^ k ≤ 1023 * 2 ^ 9 := Nat.mul_le_mul (by omega) h2
    have h4 : b / 2 ^ k % 2 ≤ 1 := by omega
    have h5 := Nat.mul_le_mul h3 h4
    omega
theorem fo_lt {p : Nat} (h : p < 2 ^ 20) : fo p < 2 ^ 20 := by
  unfold fo
  refine Nat.xor_lt_two_pow (Nat.xor_lt_two_pow ?_ ?_) ?_ <;> omega
end Go.Gf
namespace Go.Proofs.Ytmchelbmeajcnaa
open Go.RowKit Go.Gf

set_option maxHeartbeats 400000 in
theorem fold_any (p : Nat) (w : World) (hp : p < 1048576) :
    Calls Try.prog 29 #[.int .u32 p] w fun e w' => e = .returned (.int .u32 (fo p)) ∧ w = w' := by
  have h1 := u32_and_nat p 1023 (by omega) (by omega)
  rw [nat_mask10] at h1
  have h2 := u32_xor_nat (p % 1024) (8 * (p / 1024)) (by omega) (by omega)
  have h3 := u32_xor_nat (p % 1024 ^^^ 8 * (p / 1024)) (p / 1024) (by have := Nat.xor_lt_two_pow (n := 20) (x := p % 1024) (y := 8 * (p / 1024)) (by omega) (by omega); omega) (by omega)
  go_enter Try.func29, Try.ntmps29
  go_wp2
  go_ret
  refine ⟨?_, rfl⟩
  have e1 : bits .and .u32 (p : Int) 1023 = ((p % 1024 : Nat) : Int) := h1
  have e2 : (p : Int) / 1024 * 8 = ((8 * (p / 1024) : Nat) : Int) := by omega
  have e3 : (p : Int) / 1024 = ((p / 1024 : Nat) : Int) := by omega
  show Ending.returned (Value.int .u32 (bits .xor .u32 (bits .xor .u32 (bits .and .u32 (p : Int) 1023) ((p : Int) / 1024 * 8)) ((p : Int) / 1024))) = _
  rw [e1, e2, h2, e3, h3]
  rfl

theorem fold_twice (a : Nat) (x : Int) (hx : x = 2 * a) (w : World) (ha : a < 1024) :
    Calls Try.prog 29 #[.int .u32 x] w fun e w' => e = .returned (.int .u32 (xt a)) ∧ w = w' := by
  subst hx
  have := fold_any (2 * a) w (by omega)
  rw [fo_double ha] at this
  exact this

theorem pr_step (a b : Int) (k : Nat) (a0 : 0 ≤ a) (a1 : a < 65536) (b0 : 0 ≤ b) (b1 : b < 65536) (hk : k < 10) :
    bits .xor .u32 ((pr k (a.toNat % 1024) b.toNat : Nat) : Int) (bits .and .u16 a 1023 % 4294967296 * 2 ^ k % 4294967296 * (bits .and .u16 (b / 2 ^ k) 1 % 4294967296) % 4294967296) = ((pr (k + 1) (a.toNat % 1024) b.toNat : Nat) : Int) := by
  have hA := u16_mask a a0 a1
  obtain ⟨A, rfl⟩ : ∃ A : Nat, a = A := ⟨a.toNat, by omega⟩
  obtain ⟨B, rfl⟩ : ∃ B : Nat, b = B := ⟨b.toNat, by omega⟩
  simp only [Int.toNat_natCast]
  have h2 : (2 : Nat) ^ k ≤ 2 ^ 9 := Nat.pow_le_pow_right (by omega) (by omega)
  have hB : bits .and .u16 ((B : Int) / 2 ^ k) 1 = ((B / 2 ^ k % 2 : Nat) : Int) := by
    have e : (B : Int) / 2 ^ k = ((B / 2 ^ k : Nat) : Int) := by simp
    have hl : B / 2 ^ k ≤ B := Nat.div_le_self _ _
    have := u16_and_nat (B / 2 ^ k) 1 (by omega) (by decide)
    rw [nat_mask1] at this
    rw [e]; exact this
  rw [hA, hB]
  have h3 : A % 1024 * 2 ^ k ≤ 1023 * 2 ^ 9 := Nat.mul_le_mul (by omega) h2
  have h4 : B / 2 ^ k % 2 ≤ 1 := by omega
  have h5 := Nat.mul_le_mul h3 h4
  have e1 : (A : Int) % 1024 % 4294967296 * 2 ^ k = ((A % 1024 * 2 ^ k : Nat) : Int) := by
    rw [show (A : Int) % 1024 % 4294967296 = ((A % 1024 : Nat) : Int) by omega]; simp
  have e2 : ((A % 1024 * 2 ^ k : Nat) : Int) % 4294967296 = ((A % 1024 * 2 ^ k : Nat) : Int) := by omega
  have e3 : ((B / 2 ^ k % 2 : Nat) : Int) % 4294967296 = ((B / 2 ^ k % 2 : Nat) : Int) := by omega
  have e4 : ((A % 1024 * 2 ^ k : Nat) : Int) * ((B / 2 ^ k % 2 : Nat) : Int) = ((A % 1024 * 2 ^ k * (B / 2 ^ k % 2) : Nat) : Int) := by simp only [Int.natCast_mul]
  have e5 : ((A % 1024 * 2 ^ k * (B / 2 ^ k % 2) : Nat) : Int) % 4294967296 = ((A % 1024 * 2 ^ k * (B / 2 ^ k % 2) : Nat) : Int) := by omega
  rw [e1, e2, e3, e4, e5, u32_xor_nat _ _ (by have := pr_lt (a := A % 1024) (b := B) (by omega) (k := k) (by omega); omega) (by omega)]
  rfl

set_option maxHeartbeats 400000 in
theorem product_any (a b : Int) (w : World) (a0 : 0 ≤ a) (a1 : a < 65536) (b0 : 0 ≤ b) (b1 : b < 65536) :
    Calls Try.prog 115 #[.int .u16 a, .int .u16 b] w fun e w' => e = .returned (.int .u16 (mulI a b)) ∧ ∃ n, w' = w.drewN n := by
  have HT : Hid (mulI a b = ((fo (fo (pr 10 (a.toNat % 1024) b.toNat)) : Nat) : Int)) := by
    unfold Hid mulI
    rw [pr_gm (by omega)]
  have HG : fo (fo (pr 10 (a.toNat % 1024) b.toNat)) < 1024 := by
    rw [pr_gm (by omega)]
    exact gm_lt _ (by omega)
  have HL := pr_lt (a := a.toNat % 1024) (b := b.toNat) (by omega) (k := 10) (by omega)
  have HF := fo_lt HL
  generalize mulI a b = T at HT
  go_enter Try.func115, Try.ntmps115
  go_wp2
  go_loopw [5, 7] (fun p i wr => ∃ k n : Nat, k ≤ 10 ∧ i = .int .i64 k ∧ p = .int .u32 ((pr k (a.toNat % 1024) b.toNat : Nat) : Int) ∧ wr = w.drewN n) (fun _ i _ => 10 - (intOf i).toNat)
  case atStart => exact ⟨0, 0, by omega, rfl, rfl, rfl⟩
  case round =>
    obtain ⟨k, n, hk, rfl, rfl, rfl⟩ := hrel
    by_cases hlt : k < 10
    · have HX := Lib.hid (pr_step a b k a0 a1 b0 b1 hlt)
      clear HT HL HF HG
      go_wp2
      go_quiet (fail)
      go_wp2
      go_roundw
      case rel => exact ⟨k + 1, n + nq, by omega, by go_num, by rw [HX.out], rfl⟩
      case measure => simp [intOf]; omega
    · obtain rfl : k = 10 := by omega
      go_wp2_with (go_at_call 29; refine (fold_any _ _ (by omega)).mono ?_; rintro e w' ⟨rfl, rfl⟩)
      clear HL HF
      go_ret
      refine ⟨?_, n, rfl⟩
      rw [HT.out]
      rfl

/-- numbers as a block's cells -/
def cells (cs : List Nat) : Array Value := (cs.map uv).toArray
/-- block g holds tables with the numbers cs, and may be written -/
def Tb (w : World) (g : Nat) (cs : List Nat) : Prop := w.heap[g]? = some (.cells (cells cs) 33 (0, 0))
/-- tables that nobody made -/
def ZT : List Nat := List.replicate 2047 0
theorem zero27 : ∀ w, (zeroValue 33).run Try.prog w = .ok (.agg (cells ZT)) w := (zero_of_info (n := 2047) (by kernel_rfl)).1
theorem size27 : (Try.prog.info? 33).map (·.size) = some 2047 := (zero_of_info (v := .agg (cells ZT)) (n := 2047) (by kernel_rfl)).2


/-- k powers are laid -/
def Laid (cs : List Nat) (k : Nat) : Prop := cs.length = 2047 ∧ ∀ j, j < k → cs[j]? = some (E j) ∧ cs[1023 + E j]? = some j
def Mk (w wr : World) (k : Nat) : Prop := ∃ cs, Tb wr w.heap.size ZT ∧ Tb wr (w.heap.size + 1) cs ∧ Laid cs k ∧ Below w.heap.size w wr
theorem Tb.cell {w : World} {g : Nat} {cs : List Nat} (h : Tb w g cs) {i : Nat} (hi : i < cs.length) : w.cell? ⟨g, i, none⟩ = some (.int .u16 ((cs[i] : Nat) : Int)) := by
  rw [cell_of_row w g i _ 33 (0, 0) h]
  simp [cells, hi, uv]
theorem Tb.frozen {w : World} {g : Nat} {cs : List Nat} (h : Tb w g cs) (i : Nat) : w.frozen? ⟨g, i, none⟩ = false := by
  unfold Tb at h
  simp [World.frozen?, h]
theorem Tb.set_ {w : World} {g : Nat} {cs : List Nat} (h : Tb w g cs) (i n : Nat) : Tb (w.setCell ⟨g, i, none⟩ (.int .u16 (n : Int))) g (cs.set i n) := by
  unfold Tb cells at h ⊢
  simp only [World.setCell]
  rw [Array.getElem?_modify, h]
  simp [List.map_set, uv]
theorem Tb.other {w : World} {g : Nat} {cs : List Nat} (h : Tb w g cs) (a : Addr) (v : Value) (hg : g ≠ a.block) : Tb (w.setCell a v) g cs := by
  unfold Tb at h ⊢
  rw [Below.heap_setCell _ _ _ _ hg]; exact h
theorem Tb.below {w w' : World} {B g : Nat} {cs : List Nat} (h : Tb w g cs) (hb : Below B w w') (hg : g < B) : Tb w' g cs := (hb.block g hg).trans h
theorem mk_start (w : World) : Mk w ((w.alloc (Obj.cells (cells ZT) 33)).alloc (Obj.cells (cells ZT) 33)) 0 :=
  ⟨ZT, heap_alloc2_old w _ _, heap_alloc2_new w _ _, ⟨List.length_replicate, fun j hj => absurd hj (by omega)⟩, ((Below.refl _ _).alloc (Nat.le_refl _) _).alloc (by simp) _⟩
theorem mk_step {w wr : World} {k : Nat} (hk : k < 1023) (h : Mk w wr k) :
    Mk w ((wr.setCell ⟨w.heap.size + 1, k, none⟩ (.int .u16 ((E k : Nat) : Int))).setCell ⟨w.heap.size + 1, 1023 + E k, none⟩ (.int .u16 (k : Int))) (k + 1) := by
  obtain ⟨cs, h1, h2, ⟨hl, hj⟩, hb⟩ := h
  have hE := E_lt k
  have hE0 := Nat.pos_of_ne_zero (E_ne k)
  refine ⟨(cs.set k (E k)).set (1023 + E k) k, (h1.other _ _ (by simp)).other _ _ (by simp), (h2.set_ k (E k)).set_ (1023 + E k) k, ⟨by simpa using hl, ?_⟩, (hb.setCell (by simp) _).setCell (by simp) _⟩
  intro j hjk
  rcases Nat.lt_or_ge j k with hlt | hge
  · have hne : E j ≠ E k := fun e => by have := (E_inj (i := j) (j := k)).1 e; omega
    obtain ⟨p, q⟩ := hj j hlt
    have hEj := E_lt j
    refine ⟨?_, ?_⟩
    · rw [List.getElem?_set_ne (by omega), List.getElem?_set_ne (by omega)]; exact p
    · rw [List.getElem?_set_ne (by omega), List.getElem?_set_ne (by omega)]; exact q
  · obtain rfl : j = k := by omega
    refine ⟨?_, ?_⟩
    · rw [List.getElem?_set_ne (by omega), List.getElem?_set_self (by omega)]
    · rw [List.getElem?_set_self (by simp; omega)]

theorem cells_size (cs : List Nat) : (cells cs).size = cs.length := by simp [cells]
theorem cells_one (cs : List Nat) : (cells cs).all (·.oneCell') = true := by
  rw [Array.all_eq_true_iff_forall_mem]
  intro v hv
  unfold cells at hv
  rw [List.mem_toArray] at hv
  obtain ⟨n, _, rfl⟩ := List.mem_map.1 hv
  rfl
theorem below_setRow {B g : Nat} {a w : World} (h : Below B a w) (hp : B ≤ g) (cs : Array Value) : Below B a (w.setRow g cs) :=
  h.trans ⟨rfl, rfl, rfl, by simp [World.setRow], fun k hk => by
    simp only [World.setRow, Array.getElem?_modify]
    rw [if_neg (by omega)]⟩

set_option maxRecDepth 20000 in
set_option maxHeartbeats 400000 in
theorem make_any (w : World) :
    Calls Try.prog 15 #[] w fun e w' => ∃ cs, e = .returned (.agg (cells cs)) ∧ Laid cs 1023 ∧ Below w.heap.size w w' := by
  have hz := zero27
  go_enter Try.func15, Try.ntmps15
  go_wp2
  go_loopw [2, 4] (fun p i wr => ∃ k : Nat, k ≤ 1023 ∧ i = .int .i64 k ∧ p = .int .u32 ((E k : Nat) : Int) ∧ Mk w wr k) (fun _ i _ => 1023 - (intOf i).toNat)
  case atStart => exact ⟨0, by omega, rfl, rfl, mk_start w⟩
  case round =>
    obtain ⟨k, hk, rfl, rfl, HM⟩ := hrel
    clear hz
    by_cases hlt : k < 1023
    · have hE := E_lt k
      have HM' := Lib.hid (mk_step hlt HM)
      obtain ⟨cs, h1, h2, ⟨hl, -⟩, -⟩ := HM
      have hc1 := h2.cell (i := k) (by omega)
      have hf1 := h2.frozen k
      have hc2 := (h2.set_ k (E k)).cell (i := 1023 + E k) (by simp; omega)
      have hf2 := (h2.set_ k (E k)).frozen (1023 + E k)
      clear h1 h2
      go_wp2_with (go_at_call 29; (with_reducible refine (fold_twice (E k) _ (by omega) _ hE).mono ?_); rintro e w' ⟨rfl, rfl⟩)
      go_roundw
      case rel => exact ⟨k + 1, by omega, by go_num, rfl, HM'.out⟩
      case measure => simp [intOf]; omega
    · obtain rfl : k = 1023 := by omega
      obtain ⟨cs, h1, h2, h3, hb⟩ := HM
      go_wp2_with (first | (refine wpList_load_row rfl 33 _ rfl (w.heap.size + 1) rfl 33 (cells cs) (0, 0) _ h2 Try.underlying33 rfl (by rw [size27, cells_size, h3.1]) ?_) | (refine wpList_store_row rfl 33 _ _ rfl w.heap.size (cells cs) rfl rfl 33 (cells ZT) h1 (by rw [size27, cells_size, h3.1]) (by rw [cells_size, cells_size, h3.1]; rfl) (cells_one cs) ?_))
      exact bodyPost_ret (v := .agg (cells cs)) (results_cell_row (fn := Try.f15) rfl _ _ w.heap.size 33 (cells cs) (0, 0) _ rfl (setRow_heap _ _ _ _ _ _ h1) Try.underlying33 rfl (by rw [size27, cells_size, h3.1])) rfl ⟨cs, rfl, h3, below_setRow hb (Nat.le_refl _) _⟩

/-- tables as they are handed down: made ones, or such as answer to nobody -/
def Tab (cs : List Nat) : Prop := cs.length = 2047 ∧ (cs[0]? = some 0 ∨ Laid cs 1023)
theorem Tb.drewN {w : World} {g : Nat} {cs : List Nat} (h : Tb w g cs) (n : Nat) : Tb (w.drewN n) g cs := h
/-- fill's ending: block g holds made tables; below it nothing has turned -/
def Filled (W : World) (g : Nat) (e : Ending) (w' : World) : Prop := ∃ cs, e = .returned (.tuple #[]) ∧ Tb w' g cs ∧ Laid cs 1023 ∧ Below g W w'

set_option maxRecDepth 20000 in
set_option maxHeartbeats 400000 in
theorem fill_any (g : Nat) (cs : List Nat) (W : World) (h : Tb W g cs) (ht : Tab cs) (hg : g < W.heap.size) :
    Calls Try.prog 113 #[.pointer (some ⟨g, 0, none⟩)] W (Filled W g) := by
  by_cases h0 : cs[0]? = some 0
  · have hc : W.cell? ⟨g, 0, none⟩ = some (.int .u16 0) := by
      rw [h.cell (i := 0) (by have := ht.1; omega)]
      rw [List.getElem?_eq_getElem (by have := ht.1; omega)] at h0
      injection h0 with h0
      rw [h0]; rfl
    go_enter Try.func113, Try.ntmps113
    go_wp2_with fail
    refine (make_any _).mono ?_
    rintro e w' ⟨ds, rfl, hl, hb⟩
    have h' := h.below hb hg
    go_wp2_with (first | (refine wpList_store_row rfl 33 _ _ rfl g (cells ds) rfl rfl 33 (cells cs) h' (by rw [size27, cells_size, hl.1]) (by rw [cells_size, cells_size, hl.1]; exact ht.1) (cells_one ds) ?_))
    go_end0
    exact ⟨ds, rfl, setRow_heap _ _ _ _ _ _ h', hl, below_setRow (hb.mono (by omega)) (Nat.le_refl _) _⟩
  · have hl : Laid cs 1023 := ht.2.resolve_left h0
    have hc : W.cell? ⟨g, 0, none⟩ = some (.int .u16 1) := by
      rw [h.cell (i := 0) (by have := ht.1; omega)]
      have := (hl.2 0 (by omega)).1
      rw [List.getElem?_eq_getElem (by have := ht.1; omega)] at this
      injection this with this
      rw [this]; rfl
    go_enter Try.func113, Try.ntmps113
    go_wp2_with fail
    go_end0
    exact ⟨cs, rfl, h, hl, Below.refl _ _⟩

set_option maxHeartbeats 400000 in
theorem rest_any (n : Int) (k : Nat) (w : World) (hk : n % 1023 = k) :
    Calls Try.prog 114 #[.int .i64 n] w fun e w' => e = .returned (.int .i64 k) ∧ w = w' := by
  have h1 : n.tmod 1023 = n % 1023 ∨ n.tmod 1023 = n % 1023 - 1023 := by
    rw [Int.tmod_eq_emod]; split <;> simp
  have hk2 : k < 1023 := by omega
  rw [hk] at h1
  clear hk
  rcases h1 with h | h
  · have hd : decide (n.tmod 1023 < 0) = false := by rw [h]; simp
    have H := Lib.hid h
    clear h
    go_enter Try.func114, Try.ntmps114
    go_wp2
    go_ret
    exact ⟨by rw [H.out]; rfl, rfl⟩
  · by_cases h0 : n.tmod 1023 < 0
    · have H : Hid (wrap64 (n.tmod 1023 + 1023) = (k : Int)) := by
        unfold Hid
        rw [h, IntWalk.wrap64_in _ (by omega)]; omega
      clear h
      go_enter Try.func114, Try.ntmps114
      go_wp2
      go_ret
      exact ⟨by rw [← H.out]; rfl, rfl⟩
    · exact absurd h0 (by omega)

theorem emod_nat (n : Int) : ∃ k : Nat, k < 1023 ∧ n % 1023 = k := ⟨(n % 1023).toNat, by omega, by omega⟩
/-- the power's cell -/
theorem Tb.exp {w : World} {g : Nat} {cs : List Nat} (h : Tb w g cs) (hl : Laid cs 1023) {k : Nat} (hk : k < 1023) : w.cell? ⟨g, k, none⟩ = some (.int .u16 ((E k : Nat) : Int)) := by
  have e := (hl.2 k hk).1
  rw [h.cell (i := k) (by have := hl.1; omega)]
  rw [List.getElem?_eq_getElem (by have := hl.1; omega)] at e
  injection e with e
  rw [e]
/-- the logarithm's cell -/
theorem Tb.log {w : World} {g : Nat} {cs : List Nat} (h : Tb w g cs) (hl : Laid cs 1023) {a : Nat} (ha : a < 1024) (h0 : a ≠ 0) : w.cell? ⟨g, 1023 + a, none⟩ = some (.int .u16 ((lg a : Nat) : Int)) := by
  obtain ⟨e1, e2⟩ := E_lg ha h0
  have e := (hl.2 (lg a) e2).2
  rw [e1] at e
  rw [h.cell (i := 1023 + a) (by have := hl.1; omega)]
  rw [List.getElem?_eq_getElem (by have := hl.1; omega)] at e
  injection e with e
  rw [e]

set_option maxRecDepth 20000 in
set_option maxHeartbeats 400000 in
theorem exp_any (cs : List Nat) (ht : Tab cs) (n : Int) (w : World) :
    Calls Try.prog 105 #[.agg (cells cs), .int .i64 n] w fun e w' => e = .returned (.int .u16 (expI n)) ∧ Below w.heap.size w w' := by
  obtain ⟨k, hk, hn⟩ := emod_nat n
  have HT : Hid (expI n = ((E k : Nat) : Int)) := by
    unfold Hid expI
    rw [hn, Int.toNat_natCast]
  have HN := Lib.hid hn
  clear hn
  go_enter Try.func105, Try.ntmps105
  go_wp2_with fail
  refine (fill_any w.heap.size cs _ (heap_alloc_new w _) ht (by simp)).mono ?_
  rintro e w' ⟨ds, rfl, h1, h2, hb⟩
  have hc := h1.exp h2 hk
  go_wp2_with (go_at_call 114; (with_reducible refine (rest_any n k _ HN.out).mono ?_); rintro e w'' ⟨rfl, rfl⟩)
  go_ret
  exact ⟨by rw [HT.out]; rfl, ((Below.refl _ _).alloc (Nat.le_refl _) _).trans hb⟩

theorem quiet_left {P : Program} {f : FuncId} {args : Array Value} {w : World} {n : Nat} {v : Value}
    (h : Calls P f args (w.drewN n) fun e w' => e = .returned v ∧ w.drewN n = w') : Calls P f args (w.drewN n) fun e w'' => e = .returned v ∧ ∃ m, w'' = w.drewN m :=
  h.mono fun _ _ ⟨he, hm⟩ => ⟨he, n, hm.symm⟩
theorem alloc_below {w w' : World} {o : Obj} (hb : Below w.heap.size (w.alloc o) w') : Below w.heap.size w w' := ((Below.refl _ _).alloc (Nat.le_refl _) _).trans hb

set_option maxRecDepth 20000 in
set_option maxHeartbeats 400000 in
theorem mul_any (cs : List Nat) (a b : Int) (w : World) (a0 : 0 ≤ a) (a1 : a < 65536) (b0 : 0 ≤ b) (b1 : b < 65536) :
    Calls Try.prog 100 #[.agg (cells cs), .int .u16 a, .int .u16 b] w fun e w' => e = .returned (.int .u16 (mulI a b)) ∧ Below w.heap.size w w' := by
  go_enter Try.func100, Try.ntmps100
  go_wp2_with fail
  refine (product_any a b _ a0 a1 b0 b1).mono ?_
  rintro e w' ⟨rfl, n, rfl⟩
  go_wp2_with fail
  go_ret
  exact ⟨rfl, alloc_below ⟨rfl, rfl, rfl, Nat.le_refl _, fun _ _ => rfl⟩⟩

theorem add_any (a b : Int) (w : World) (a0 : 0 ≤ a) (a1 : a < 65536) (b0 : 0 ≤ b) (b1 : b < 65536) :
    Calls Try.prog 116 #[.int .u16 a, .int .u16 b] w fun e w' => e = .returned (.int .u16 ((a.toNat ^^^ b.toNat : Nat) % 1024 : Nat)) ∧ w = w' := by
  have hx := u16_xor a b a0 a1 b0 b1
  have hl : a.toNat ^^^ b.toNat < 2 ^ 16 := Nat.xor_lt_two_pow (by omega) (by omega)
  generalize a.toNat ^^^ b.toNat = c at hx hl
  have hm := u16_mask (c : Int) (by omega) (by omega)
  go_enter Try.func116, Try.ntmps116
  go_wp2
  go_ret
  exact ⟨by simp, rfl⟩

/-- the n with which x to the n is a; of nought: nought -/
def logI (a : Int) : Int := if a % 1024 = 0 then 0 else ((lg (a.toNat % 1024) : Nat) : Int)

set_option maxRecDepth 20000 in
set_option maxHeartbeats 400000 in
theorem inv_any (cs : List Nat) (ht : Tab cs) (a : Int) (w : World) (a0 : 0 ≤ a) (a1 : a < 65536) :
    Calls Try.prog 98 #[.agg (cells cs), .int .u16 a] w fun e w' => e = .returned (.tuple #[.int .u16 (invI a), .bool (a % 1024 != 0)]) ∧ Below w.heap.size w w' := by
  have hA := u16_mask a a0 a1
  have HT : Hid (invI a = ((ginv (a.toNat % 1024) : Nat) : Int)) := rfl
  generalize invI a = T at HT
  obtain ⟨A, hAe⟩ : ∃ A : Nat, a % 1024 = A := ⟨(a % 1024).toNat, by omega⟩
  have hA1 : A < 1024 := by omega
  rw [show a.toNat % 1024 = A by omega] at HT
  rw [hAe] at hA ⊢
  clear hAe
  by_cases h0 : A = 0
  · subst h0
    have HT' : Hid (T = 0) := HT.out
    go_enter Try.func98, Try.ntmps98
    go_wp2_with fail
    go_ret2
    exact ⟨by rw [HT'.out]; rfl, alloc_below (Below.refl _ _)⟩
  · have h0' : ((A : Int) == 0) = false := by simp; omega
    have hlg := (E_lg hA1 h0).2
    obtain ⟨k, hk, hn⟩ := emod_nat (-(lg A : Int))
    have HT' : Hid (T = ((E k : Nat) : Int)) := by
      rw [HT.out]
      unfold ginv Hid
      rw [if_neg h0]
      congr 1
      rw [E_inj]; omega
    have HN := Lib.hid hn
    clear hn
    go_enter Try.func98, Try.ntmps98
    go_wp2_with fail
    refine (fill_any w.heap.size cs _ (heap_alloc_new w _) ht (by simp)).mono ?_
    rintro e w' ⟨ds, rfl, h1, h2, hb⟩
    have hc := h1.log h2 hA1 h0
    have hd := h1.exp h2 hk
    go_wp2_with (go_at_call 114; (with_reducible refine (rest_any _ k _ HN.out).mono ?_); rintro e w'' ⟨rfl, rfl⟩)
    go_ret2
    exact ⟨by rw [HT'.out]; simp [bne, h0], alloc_below hb⟩

end Go.Proofs.Ytmchelbmeajcnaa
namespace Go.Proofs.Ytmchelbmeajcnaa
open Go.RowKit Go.Gf

/-- made tables lie in block g, behind all that was there when the call began -/
structure St (w : World) (g : Nat) (cs : List Nat) (w' : World) : Prop where
  below : Below w.heap.size w w'
  ge : w.heap.size ≤ g
  lt : g < w'.heap.size
  tb : Tb w' g cs
theorem St.next {w w1 w2 : World} {g : Nat} {cs : List Nat} (h : St w g cs w1) (hb : Below w1.heap.size w1 w2) : St w g cs w2 :=
  ⟨h.below.trans (hb.mono h.below.size), h.ge, Nat.lt_of_lt_of_le h.lt hb.size, h.tb.below hb h.lt⟩
theorem St.start {w w1 : World} {cs : List Nat} (hb : Below w.heap.size w w1) (ds : Array Value) :
    St w w1.heap.size cs ((w1.alloc (.cells ds 33)).setRow w1.heap.size (cells cs)) :=
  ⟨below_setRow (hb.alloc hb.size _) hb.size _, hb.size, by simp, setRow_heap _ _ _ _ _ _ (heap_alloc_new w1 _)⟩
/-- block g is tables -/
def isTb (w : World) (g : Nat) : Bool := match w.heap[g]? with
  | some (.cells cs t fr) => t == 33 && fr == (0, 0) && cs.size == 2047
  | _ => false
def tbOf (w : World) (g : Nat) : Array Value := match w.heap[g]? with
  | some (.cells cs _ _) => cs
  | _ => #[]
theorem loadAt_tb {w : World} {g : Nat} (h : isTb w g = true) : (Instr.loadAt 33 (.pointer (some ⟨g, 0, none⟩))).run Try.prog w = .ok (.agg (tbOf w g)) w := by
  unfold isTb at h
  split at h
  · rename_i cs t fr hg
    simp only [Bool.and_eq_true, beq_iff_eq] at h
    obtain ⟨⟨rfl, rfl⟩, hs⟩ := h
    have e : tbOf w g = cs := by unfold tbOf; rw [hg]
    rw [e]
    simp only [Instr.loadAt, Instr.sureAddr, Sem.run_bind, Sem.run_pure, Result.andThen]
    exact run_loadVar_row w g 33 33 cs (0, 0) _ hg Try.underlying33 rfl (by rw [size27, hs])
  · cases h
theorem St.is {w w' : World} {g : Nat} {cs : List Nat} (h : St w g cs w') (hl : cs.length = 2047) : isTb w' g = true := by
  unfold isTb
  have e : w'.heap[g]? = _ := h.tb
  rw [e]
  simp [cells_size, hl]
theorem St.of {w w' : World} {g : Nat} {cs : List Nat} (h : St w g cs w') : tbOf w' g = cells cs := by
  unfold tbOf
  have e : w'.heap[g]? = _ := h.tb
  rw [e]
/-- likewise, of a pointer to its head -/
def tbAt (w : World) : Value → Bool
  | .pointer (some ⟨g, 0, none⟩) => isTb w g
  | _ => false
def tbIn (w : World) : Value → Array Value
  | .pointer (some a) => tbOf w a.block
  | _ => #[]
theorem tbAt_ptr (w : World) (g : Nat) : tbAt w (.pointer (some ⟨g, 0, none⟩)) = isTb w g := rfl
theorem tbIn_ptr (w : World) (g : Nat) : tbIn w (.pointer (some ⟨g, 0, none⟩)) = tbOf w g := rfl
theorem exec_load_tb (ρ : Operand → Value) (d : Option Tmp) (ty : TypeId) (pos : String) (after : Array Edge) (gd : Option (Nat × Bool)) (x : Operand) (w : World) (h : tbAt w (ρ x) = true) :
    (execOp ρ ⟨d, .load 33 x, ty, pos, after, gd⟩).run Try.prog w = .ok (.value (.agg (tbIn w (ρ x)))) w := by
  generalize hv : ρ x = v at h
  unfold tbAt at h
  split at h
  · rename_i g
    simp only [execOp, hv, Sem.run_bind, loadAt_tb h, Result.andThen_ok, Sem.run_pure]
    rfl
  · cases h
attribute [local go_sem ↓] exec_load_tb
attribute [local go_sem] tbAt_ptr tbIn_ptr
theorem Laid.tab {cs : List Nat} (h : Laid cs 1023) : Tab cs := ⟨h.1, Or.inr h⟩
theorem rsize {cs : List Nat} (h : Laid cs 1023) : (Try.prog.info? 33).map (·.size) = some (cells cs).size := by rw [size27, cells_size, h.1]
theorem zsize {cs : List Nat} (h : Laid cs 1023) : (cells ZT).size = (cells cs).size := by rw [cells_size, cells_size, h.1]; exact List.length_replicate

end Go.Proofs.Ytmchelbmeajcnaa
namespace Go.Proofs.Ytmchelbmeajcnaa
open Go.RowKit Go.Gf

theorem u16_bd {a : Int} (h : (Lit.int .u16 a).wf = true) : 0 ≤ a ∧ a < 65536 := by
  simp [Lit.wf, IntKind.min, IntKind.max, IntKind.signed, IntKind.bits] at h; omega
theorem logI_bd (a : Int) (a0 : 0 ≤ a) : 0 ≤ logI a ∧ logI a < 1023 := by
  unfold logI
  split
  · omega
  · have := (E_lg (a := a.toNat % 1024) (by omega) (by omega)).2
    omega
theorem expI_logI {a : Int} (h0 : 0 ≤ a) (h : a % 1024 ≠ 0) : expI (logI a) = a % 1024 := by
  have h1 := E_lg (a := a.toNat % 1024) (by omega) (by omega)
  unfold expI logI
  rw [if_neg h, show (((lg (a.toNat % 1024) : Nat) : Int) % 1023).toNat = lg (a.toNat % 1024) by omega, h1.1]
  omega
theorem expI_bd (n : Int) : 1 ≤ expI n ∧ expI n < 1024 := by
  unfold expI
  have h1 := E_lt (n % 1023).toNat
  have h2 := Nat.pos_of_ne_zero (E_ne (n % 1023).toNat)
  omega
theorem expI_mod (n : Int) : expI n % 1024 = expI n := by have := expI_bd n; omega
theorem expI_eq {x y : Int} : expI x = expI y ↔ x % 1023 = y % 1023 := by
  unfold expI
  constructor
  · intro h
    have h' := (E_inj (i := (x % 1023).toNat) (j := (y % 1023).toNat)).1 (by omega)
    omega
  · intro h; rw [h]
theorem expI_of {x y : Int} (h : (x - y) % 1023 = 0) : expI x = expI y := expI_eq.2 (by omega)
theorem expI_nat (n : Nat) : ((E n : Nat) : Int) = expI n := by
  unfold expI
  rw [E_mod n]
  congr 2
theorem expI_zero : expI 0 = 1 := by decide +kernel
theorem mulI_exp (x y : Int) : mulI (expI x) (expI y) = expI (x + y) := by
  have h : ∀ z, expI z = ((E (z % 1023).toNat : Nat) : Int) := fun _ => rfl
  rw [h x, h y, mulI_E, expI_nat]
  refine expI_of ?_
  rw [Int.natCast_add, Int.toNat_of_nonneg (Int.emod_nonneg _ (by omega)), Int.toNat_of_nonneg (Int.emod_nonneg _ (by omega))]
  omega
theorem logI_exp (x : Int) : logI (expI x) = x % 1023 := by
  have h := expI_bd x
  have h1 := expI_logI (a := expI x) (by omega) (by omega)
  rw [expI_mod, expI_eq] at h1
  have := logI_bd (expI x) (by omega)
  omega
theorem expI_log {a : Int} (h0 : 0 < a) (h1 : a < 1024) : expI (logI a) = a := by
  have := expI_logI (a := a) (by omega) (by omega)
  omega
theorem cases_exp {a : Int} (h0 : 0 ≤ a) (h1 : a < 1024) : a = 0 ∨ ∃ i : Int, 0 ≤ i ∧ i < 1023 ∧ a = expI i := by
  rcases Int.lt_or_eq_of_le h0 with h | h
  · have := logI_bd a h0
    exact Or.inr ⟨logI a, this.1, this.2, (expI_log h h1).symm⟩
  · exact Or.inl h.symm
theorem mulI_one {a : Int} (h0 : 0 ≤ a) (h1 : a < 1024) : mulI a 1 = a := by
  unfold mulI
  rw [show (1 : Int).toNat % 1024 = 1 from rfl, gm_one_right]; omega
theorem mulI_zero (a : Int) : mulI a 0 = 0 := by
  unfold mulI
  rw [show (0 : Int).toNat % 1024 = 0 from rfl, gm_zero_right]; rfl
theorem mulI_comm (a b : Int) : mulI a b = mulI b a := by
  unfold mulI
  rw [gm_comm (Nat.mod_lt _ (by decide)) (Nat.mod_lt _ (by decide))]
theorem zero_mulI (a : Int) : mulI 0 a = 0 := by rw [mulI_comm, mulI_zero]
theorem mulI_assoc (a b c : Int) : mulI (mulI a b) c = mulI a (mulI b c) := by
  have h : ∀ x : Nat, x < 1024 → ((x : Nat) : Int).toNat % 1024 = x := fun x hx => by omega
  unfold mulI
  rw [h _ (gm_lt _ (Nat.mod_lt _ (by decide))), h _ (gm_lt _ (Nat.mod_lt _ (by decide))), gm_assoc (Nat.mod_lt _ (by decide)) (Nat.mod_lt _ (by decide)) (Nat.mod_lt _ (by decide))]
/-- the sum -/
def addI (a b : Int) : Int := ((a.toNat ^^^ b.toNat : Nat) % 1024 : Nat)
theorem addI_bd (a b : Int) : 0 ≤ addI a b ∧ addI a b < 1024 := by unfold addI; omega
theorem mulI_add {a b c : Int} (b0 : 0 ≤ b) (b1 : b < 1024) (c0 : 0 ≤ c) (c1 : c < 1024) : mulI a (addI b c) = addI (mulI a b) (mulI a c) := by
  obtain ⟨B, rfl⟩ : ∃ B : Nat, b = B := ⟨b.toNat, by omega⟩
  obtain ⟨C, rfl⟩ : ∃ C : Nat, c = C := ⟨c.toNat, by omega⟩
  have hx := xor_lt (a := B) (b := C) (by omega) (by omega)
  unfold mulI addI
  simp only [Int.toNat_natCast]
  have hA : a.toNat % 1024 < 1024 := Nat.mod_lt _ (by decide)
  have h1 := gm_lt B hA
  have h2 := gm_lt C hA
  rw [Nat.mod_mod, Nat.mod_eq_of_lt hx, Nat.mod_eq_of_lt (show B < 1024 by omega), Nat.mod_eq_of_lt (show C < 1024 by omega), gm_xor_right, Nat.mod_eq_of_lt (xor_lt h1 h2)]
theorem invI_exp (x : Int) : invI (expI x) = expI (-x) := by
  have h : expI x = ((E (x % 1023).toNat : Nat) : Int) := rfl
  have hE := E_lt (x % 1023).toNat
  unfold invI
  rw [h, Int.toNat_natCast, Nat.mod_eq_of_lt hE, ginv_E, expI_nat]
  exact expI_of (by omega)
theorem powI_exp (x n : Int) : powI (expI x) n = expI (x * n) := by
  have hb := expI_bd x
  unfold powI
  by_cases hn : n = 0
  · rw [if_pos hn, hn, Int.mul_zero, expI_zero]
  · rw [if_neg hn, if_neg (by omega)]
    have h : expI x = ((E (x % 1023).toNat : Nat) : Int) := rfl
    have hE := E_lt (x % 1023).toNat
    rw [h, Int.toNat_natCast, Nat.mod_eq_of_lt hE, gpow_E, expI_nat, Int.natCast_mul, Int.toNat_of_nonneg (Int.emod_nonneg _ (by omega)), Int.toNat_of_nonneg (Int.emod_nonneg _ (by omega))]
    rw [expI_eq, ← Int.mul_emod]

theorem St.after {w w1 : World} {g : Nat} {cs : List Nat} (h : St w g cs w1) (x : Cl.After w1.heap.size w1) : St w g cs x.w := h.next x.below
theorem St.isA {w w1 : World} {g : Nat} {cs : List Nat} (h : St w g cs w1) (hl : cs.length = 2047) : ∀ x : Cl.After w1.heap.size w1, isTb x.w g = true := fun x => (h.after x).is hl
theorem St.ofA {w w1 : World} {g : Nat} {cs : List Nat} (h : St w g cs w1) : ∀ x : Cl.After w1.heap.size w1, tbOf x.w g = cells cs := fun x => (h.after x).of

theorem mulI_inv {a : Int} (h0 : 0 < a) (h1 : a < 1024) : mulI (invI a) a = 1 := by
  rw [← expI_log h0 h1, invI_exp, mulI_exp, show -logI a + logI a = 0 by omega, expI_zero]
theorem mulI_eq_zero {a b : Int} (a0 : 0 ≤ a) (a1 : a < 1024) (b0 : 0 ≤ b) (b1 : b < 1024) : mulI a b = 0 ↔ a = 0 ∨ b = 0 := by
  constructor
  · intro h
    rcases cases_exp a0 a1 with ha | ⟨i, _, _, ha⟩
    · exact Or.inl ha
    · rcases cases_exp b0 b1 with hb | ⟨j, _, _, hb⟩
      · exact Or.inr hb
      · rw [ha, hb, mulI_exp] at h
        have := expI_bd (i + j)
        omega
  · rintro (h | h)
    · rw [h, zero_mulI]
    · rw [h, mulI_zero]

/-! calls, by name -/
def MulIs (a b c : Int) : Prop := ∀ (cs : List Nat) (w : World), Calls Try.prog 100 #[.agg (cells cs), .int .u16 a, .int .u16 b] w fun e w' => e = .returned (.int .u16 c) ∧ Below w.heap.size w w'
def AddIs (a b c : Int) : Prop := ∀ (w : World), Calls Try.prog 116 #[.int .u16 a, .int .u16 b] w fun e w' => e = .returned (.int .u16 c) ∧ w = w'
def InvIs (a x : Int) (ok : Bool) : Prop := ∀ (cs : List Nat) (w : World), Tab cs → Calls Try.prog 98 #[.agg (cells cs), .int .u16 a] w fun e w' => e = .returned (.tuple #[.int .u16 x, .bool ok]) ∧ Below w.heap.size w w'
def ExpIs (n x : Int) : Prop := ∀ (cs : List Nat) (w : World), Tab cs → Calls Try.prog 105 #[.agg (cells cs), .int .i64 n] w fun e w' => e = .returned (.int .u16 x) ∧ Below w.heap.size w w'
section
variable {a b c x l n : Int} {ok : Bool} {cs : List Nat}
theorem MulIs.at (h : MulIs a b c) (cs : List Nat) (w : World) : Calls Try.prog 100 #[.agg (cells cs), .int .u16 a, .int .u16 b] w fun e w' => e = .returned (.int .u16 c) ∧ Below w.heap.size w w' := h cs w
theorem AddIs.at (h : AddIs a b c) (w : World) : Calls Try.prog 116 #[.int .u16 a, .int .u16 b] w fun e w' => e = .returned (.int .u16 c) ∧ w = w' := h w
theorem InvIs.at (h : InvIs a x ok) (hl : Tab cs) (w : World) : Calls Try.prog 98 #[.agg (cells cs), .int .u16 a] w fun e w' => e = .returned (.tuple #[.int .u16 x, .bool ok]) ∧ Below w.heap.size w w' := h cs w hl
theorem ExpIs.at (h : ExpIs n x) (hl : Tab cs) (w : World) : Calls Try.prog 105 #[.agg (cells cs), .int .i64 n] w fun e w' => e = .returned (.int .u16 x) ∧ Below w.heap.size w w' := h cs w hl
end
theorem mulIs {a b c : Int} (a0 : 0 ≤ a) (a1 : a < 65536) (b0 : 0 ≤ b) (b1 : b < 65536) (h : mulI a b = c) : MulIs a b c := fun cs w => h ▸ mul_any cs a b w a0 a1 b0 b1
theorem addIs {a b c : Int} (a0 : 0 ≤ a) (a1 : a < 65536) (b0 : 0 ≤ b) (b1 : b < 65536) (h : addI a b = c) : AddIs a b c := fun w => h ▸ add_any a b w a0 a1 b0 b1
theorem invIs {a x : Int} {ok : Bool} (a0 : 0 ≤ a) (a1 : a < 65536) (h : invI a = x) (ho : (a % 1024 != 0) = ok) : InvIs a x ok := fun cs w hl => h ▸ ho ▸ inv_any cs hl a w a0 a1
theorem expIs {n x : Int} (h : expI n = x) : ExpIs n x := fun cs w hl => h ▸ exp_any cs hl n w
end Go.Proofs.Ytmchelbmeajcnaa
