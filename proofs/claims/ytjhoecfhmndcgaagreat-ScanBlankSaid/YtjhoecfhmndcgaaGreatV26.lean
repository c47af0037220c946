/- The program's package field: what its functions answer, said of the values. · The document's example, and what the laws' walks need to go on from call to call. -/
import Derived.Test.YtjhoecfhmndcgaaGreatV13
import Derived.Test.YtjhoecfhmndcgaaGreatV11
import Derived.Test.YtjhoecfhmndcgaaGreatV14
import Derived.Deep.WholeRow
import Derived.BigQuiet
import Derived.Below
import Derived.Laws.OwnMore
import Derived.Deep.OwnRows
import Derived.Deep.Draws
import Derived.Laws.Rows
import Derived.Laws.Tables
import Derived.Outline
import Derived.Test.YtjhoecfhmndcgaaGreatV05
namespace Go.Proofs.YtjhoecfhmndcgaaGreat
open Go.RowKit Go.Gf

set_option maxHeartbeats 400000 in
theorem fold_any (p : Nat) (w : World) (hp : p < 1048576) :
    Calls Tryz.prog 38 #[.int .u32 p] w fun e w' => e = .returned (.int .u32 (fo p)) ∧ w = w' := by
  have h1 := u32_and_nat p 1023 (by omega) (by omega)
  rw [nat_mask10] at h1
  have h2 := u32_xor_nat (p % 1024) (8 * (p / 1024)) (by omega) (by omega)
  have h3 := u32_xor_nat (p % 1024 ^^^ 8 * (p / 1024)) (p / 1024) (by have := Nat.xor_lt_two_pow (n := 20) (x := p % 1024) (y := 8 * (p / 1024)) (by omega) (by omega); omega) (by omega)
  go_enter Tryz.func38, Tryz.ntmps38
  go_wp2
  go_ret
  refine ⟨?_, rfl⟩
  have e1 : bits .and .u32 (p : Int) 1023 = ((p % 1024 : Nat) : Int) := h1
  have e2 : (p : Int) / 1024 * 8 = ((8 * (p / 1024) : Nat) : Int) := by omega
  have e3 : (p : Int) / 1024 = ((p / 1024 : Nat) : Int) := by omega
  show Ending.returned (Value.int .u32 (bits .xor .u32 (bits .xor .u32 (bits .and .u32 (p : Int) 1023) ((p : Int) / 1024 * 8)) ((p : Int) / 1024))) = _
  rw [e1, e2, h2, e3, h3]
  rfl

theorem fold_twice (a : Nat) (x : Int) (hx : x = 2 * a) (w : World) (ha : a < 1024) :
    Calls Tryz.prog 38 #[.int .u32 x] w fun e w' => e = .returned (.int .u32 (xt a)) ∧ w = w' := by
  subst hx
  have := fold_any (2 * a) w (by omega)
  rw [fo_double ha] at this
  exact this

theorem pr_step (a b : Int) (k : Nat) (a0 : 0 ≤ a) (a1 : a < 65536) (b0 : 0 ≤ b) (b1 : b < 65536) (hk : k < 10) :
    bits .xor .u32 ((pr k (a.toNat % 1024) b.toNat : Nat) : Int) (bits .and .u16 a 1023 % 4294967296 * 2 ^ k % 4294967296 * (bits .and .u16 (b / 2 ^ k) 1 % 4294967296) % 4294967296) = ((pr (k + 1) (a.toNat % 1024) b.toNat : Nat) : Int) := by
  have hA := u16_mask a a0 a1
  obtain ⟨A, rfl⟩ : ∃ A : Nat, a = A := ⟨a.toNat, by omega⟩
  obtain ⟨B, rfl⟩ : ∃ B : Nat, b = B := ⟨b.toNat, by omega⟩
  simp only [Int.toNat_natCast]
  have h2 : (2 : Nat) ^ k ≤ 2 ^ 9 := Nat.pow_le_pow_right (by omega) (by omega)
  have hB : bits .and .u16 ((B : Int) / 2 ^ k) 1 = ((B / 2 ^ k % 2 : Nat) : Int) := by
    have e : (B : Int) / 2 ^ k = ((B / 2 ^ k : Nat) : Int) := by simp
    have hl : B / 2 ^ k ≤ B := Nat.div_le_self _ _
    have := u16_and_nat (B / 2 ^ k) 1 (by omega) (by decide)
    rw [nat_mask1] at this
    rw [e]; exact this
  rw [hA, hB]
  have h3 : A % 1024 * 2 ^ k ≤ 1023 * 2 ^ 9 := Nat.mul_le_mul (by omega) h2
  have h4 : B / 2 ^ k % 2 ≤ 1 := by omega
  have h5 := Nat.mul_le_mul h3 h4
  have e1 : (A : Int) % 1024 % 4294967296 * 2 ^ k = ((A % 1024 * 2 ^ k : Nat) : Int) := by
    rw [show (A : Int) % 1024 % 4294967296 = ((A % 1024 : Nat) : Int) by omega]; simp
  have e2 : ((A % 1024 * 2 ^ k : Nat) : Int) % 4294967296 = ((A % 1024 * 2 ^ k : Nat) : Int) := by omega
  have e3 : ((B / 2 ^ k % 2 : Nat) : Int) % 4294967296 = ((B / 2 ^ k % 2 : Nat) : Int) := by omega
  have e4 : ((A % 1024 * 2 ^ k : Nat) : Int) * ((B / 2 ^ k % 2 : Nat) : Int) = ((A % 1024 * 2 ^ k * (B / 2 ^ k % 2) : Nat) : Int) := by simp only [Int.natCast_mul]
  have e5 : ((A % 1024 * 2 ^ k * (B / 2 ^ k % 2) : Nat) : Int) % 4294967296 = ((A % 1024 * 2 ^ k * (B / 2 ^ k % 2) : Nat) : Int) := by omega
  rw [e1, e2, e3, e4, e5, u32_xor_nat _ _ (by have := pr_lt (a := A % 1024) (b := B) (by omega) (k := k) (by omega); omega) (by omega)]
  rfl

set_option maxHeartbeats 400000 in
theorem product_any (a b : Int) (w : World) (a0 : 0 ≤ a) (a1 : a < 65536) (b0 : 0 ≤ b) (b1 : b < 65536) :
    Calls Tryz.prog 170 #[.int .u16 a, .int .u16 b] w fun e w' => e = .returned (.int .u16 (mulI a b)) ∧ ∃ n, w' = w.drewN n := by
  have HT : Hid (mulI a b = ((fo (fo (pr 10 (a.toNat % 1024) b.toNat)) : Nat) : Int)) := by
    unfold Hid mulI
    rw [pr_gm (by omega)]
  have HG : fo (fo (pr 10 (a.toNat % 1024) b.toNat)) < 1024 := by
    rw [pr_gm (by omega)]
    exact gm_lt _ (by omega)
  have HL := pr_lt (a := a.toNat % 1024) (b := b.toNat) (by omega) (k := 10) (by omega)
  have HF := fo_lt HL
  generalize mulI a b = T at HT
  go_enter Tryz.func170, Tryz.ntmps170
  go_wp2
  go_loopw [5, 7] (fun p i wr => ∃ k n : Nat, k ≤ 10 ∧ i = .int .i64 k ∧ p = .int .u32 ((pr k (a.toNat % 1024) b.toNat : Nat) : Int) ∧ wr = w.drewN n) (fun _ i _ => 10 - (intOf i).toNat)
  case atStart => exact ⟨0, 0, by omega, rfl, rfl, rfl⟩
  case round =>
    obtain ⟨k, n, hk, rfl, rfl, rfl⟩ := hrel
    by_cases hlt : k < 10
    · have HX := Lib.hid (pr_step a b k a0 a1 b0 b1 hlt)
      clear HT HL HF HG
      go_wp2
      go_quiet (fail)
      go_wp2
      go_roundw
      case rel => exact ⟨k + 1, n + nq, by omega, by go_num, by rw [HX.out], rfl⟩
      case measure => simp [intOf]; omega
    · obtain rfl : k = 10 := by omega
      go_wp2_with (go_at_call 38; refine (fold_any _ _ (by omega)).mono ?_; rintro e w' ⟨rfl, rfl⟩)
      clear HL HF
      go_ret
      refine ⟨?_, n, rfl⟩
      rw [HT.out]
      rfl

/-- numbers as a block's cells -/
def cells (cs : List Nat) : Array Value := (cs.map uv).toArray
/-- block g holds tables with the numbers cs, and may be written -/
def Tb (w : World) (g : Nat) (cs : List Nat) : Prop := w.heap[g]? = some (.cells (cells cs) 50 (0, 0))
/-- tables that nobody made -/
def ZT : List Nat := List.replicate 2047 0
theorem zero27 : ∀ w, (zeroValue 50).run Tryz.prog w = .ok (.agg (cells ZT)) w := (zero_of_info (n := 2047) (by kernel_rfl)).1
theorem size27 : (Tryz.prog.info? 50).map (·.size) = some 2047 := (zero_of_info (v := .agg (cells ZT)) (n := 2047) (by kernel_rfl)).2


/-- k powers are laid -/
def Laid (cs : List Nat) (k : Nat) : Prop := cs.length = 2047 ∧ ∀ j, j < k → cs[j]? = some (E j) ∧ cs[1023 + E j]? = some j
def Mk (w wr : World) (k : Nat) : Prop := ∃ cs, Tb wr w.heap.size ZT ∧ Tb wr (w.heap.size + 1) cs ∧ Laid cs k ∧ Below w.heap.size w wr
theorem Tb.cell {w : World} {g : Nat} {cs : List Nat} (h : Tb w g cs) {i : Nat} (hi : i < cs.length) : w.cell? ⟨g, i, none⟩ = some (.int .u16 ((cs[i] : Nat) : Int)) := by
  rw [cell_of_row w g i _ 50 (0, 0) h]
  simp [cells, hi, uv]
theorem Tb.frozen {w : World} {g : Nat} {cs : List Nat} (h : Tb w g cs) (i : Nat) : w.frozen? ⟨g, i, none⟩ = false := by
  unfold Tb at h
  simp [World.frozen?, h]
theorem Tb.set_ {w : World} {g : Nat} {cs : List Nat} (h : Tb w g cs) (i n : Nat) : Tb (w.setCell ⟨g, i, none⟩ (.int .u16 (n : Int))) g (cs.set i n) := by
  unfold Tb cells at h ⊢
  simp only [World.setCell]
  rw [Array.getElem?_modify, h]
  simp [List.map_set, uv]
theorem Tb.other {w : World} {g : Nat} {cs : List Nat} (h : Tb w g cs) (a : Addr) (v : Value) (hg : g ≠ a.block) : Tb (w.setCell a v) g cs := by
  unfold Tb at h ⊢
  rw [Below.heap_setCell _ _ _ _ hg]; exact h
theorem Tb.below {w w' : World} {B g : Nat} {cs : List Nat} (h : Tb w g cs) (hb : Below B w w') (hg : g < B) : Tb w' g cs := (hb.block g hg).trans h
theorem mk_start (w : World) : Mk w ((w.alloc (Obj.cells (cells ZT) 50)).alloc (Obj.cells (cells ZT) 50)) 0 :=
  ⟨ZT, heap_alloc2_old w _ _, heap_alloc2_new w _ _, ⟨List.length_replicate, fun j hj => absurd hj (by omega)⟩, ((Below.refl _ _).alloc (Nat.le_refl _) _).alloc (by simp) _⟩
theorem mk_step {w wr : World} {k : Nat} (hk : k < 1023) (h : Mk w wr k) :
    Mk w ((wr.setCell ⟨w.heap.size + 1, k, none⟩ (.int .u16 ((E k : Nat) : Int))).setCell ⟨w.heap.size + 1, 1023 + E k, none⟩ (.int .u16 (k : Int))) (k + 1) := by
  obtain ⟨cs, h1, h2, ⟨hl, hj⟩, hb⟩ := h
  have hE := E_lt k
  have hE0 := Nat.pos_of_ne_zero (E_ne k)
  refine ⟨(cs.set k (E k)).set (1023 + E k) k, (h1.other _ _ (by simp)).other _ _ (by simp), (h2.set_ k (E k)).set_ (1023 + E k) k, ⟨by simpa using hl, ?_⟩, (hb.setCell (by simp) _).setCell (by simp) _⟩
  intro j hjk
  rcases Nat.lt_or_ge j k with hlt | hge
  · have hne : E j ≠ E k := fun e => by have := (E_inj (i := j) (j := k)).1 e; omega
    obtain ⟨p, q⟩ := hj j hlt
    have hEj := E_lt j
    refine ⟨?_, ?_⟩
    · rw [List.getElem?_set_ne (by omega), List.getElem?_set_ne (by omega)]; exact p
    · rw [List.getElem?_set_ne (by omega), List.getElem?_set_ne (by omega)]; exact q
  · obtain rfl : j = k := by omega
    refine ⟨?_, ?_⟩
    · rw [List.getElem?_set_ne (by omega), List.getElem?_set_self (by omega)]
    · rw [List.getElem?_set_self (by simp; omega)]

theorem cells_size (cs : List Nat) : (cells cs).size = cs.length := by simp [cells]
theorem cells_one (cs : List Nat) : (cells cs).all (·.oneCell') = true := by
  rw [Array.all_eq_true_iff_forall_mem]
  intro v hv
  unfold cells at hv
  rw [List.mem_toArray] at hv
  obtain ⟨n, _, rfl⟩ := List.mem_map.1 hv
  rfl
theorem below_setRow {B g : Nat} {a w : World} (h : Below B a w) (hp : B ≤ g) (cs : Array Value) : Below B a (w.setRow g cs) :=
  h.trans ⟨rfl, rfl, rfl, by simp [World.setRow], fun k hk => by
    simp only [World.setRow, Array.getElem?_modify]
    rw [if_neg (by omega)]⟩

set_option maxRecDepth 20000 in
set_option maxHeartbeats 400000 in
theorem make_any (w : World) :
    Calls Tryz.prog 17 #[] w fun e w' => ∃ cs, e = .returned (.agg (cells cs)) ∧ Laid cs 1023 ∧ Below w.heap.size w w' := by
  have hz := zero27
  go_enter Tryz.func17, Tryz.ntmps17
  go_wp2
  go_loopw [2, 4] (fun p i wr => ∃ k : Nat, k ≤ 1023 ∧ i = .int .i64 k ∧ p = .int .u32 ((E k : Nat) : Int) ∧ Mk w wr k) (fun _ i _ => 1023 - (intOf i).toNat)
  case atStart => exact ⟨0, by omega, rfl, rfl, mk_start w⟩
  case round =>
    obtain ⟨k, hk, rfl, rfl, HM⟩ := hrel
    clear hz
    by_cases hlt : k < 1023
    · have hE := E_lt k
      have HM' := Lib.hid (mk_step hlt HM)
      obtain ⟨cs, h1, h2, ⟨hl, -⟩, -⟩ := HM
      have hc1 := h2.cell (i := k) (by omega)
      have hf1 := h2.frozen k
      have hc2 := (h2.set_ k (E k)).cell (i := 1023 + E k) (by simp; omega)
      have hf2 := (h2.set_ k (E k)).frozen (1023 + E k)
      clear h1 h2
      go_wp2_with (go_at_call 38; (with_reducible refine (fold_twice (E k) _ (by omega) _ hE).mono ?_); rintro e w' ⟨rfl, rfl⟩)
      go_roundw
      case rel => exact ⟨k + 1, by omega, by go_num, rfl, HM'.out⟩
      case measure => simp [intOf]; omega
    · obtain rfl : k = 1023 := by omega
      obtain ⟨cs, h1, h2, h3, hb⟩ := HM
      go_wp2_with (first | (refine wpList_load_row rfl 50 _ rfl (w.heap.size + 1) rfl 50 (cells cs) (0, 0) _ h2 Tryz.underlying50 rfl (by rw [size27, cells_size, h3.1]) ?_) | (refine wpList_store_row rfl 50 _ _ rfl w.heap.size (cells cs) rfl rfl 50 (cells ZT) h1 (by rw [size27, cells_size, h3.1]) (by rw [cells_size, cells_size, h3.1]; rfl) (cells_one cs) ?_))
      exact bodyPost_ret (v := .agg (cells cs)) (results_cell_row (fn := Tryz.f17) rfl _ _ w.heap.size 50 (cells cs) (0, 0) _ rfl (setRow_heap _ _ _ _ _ _ h1) Tryz.underlying50 rfl (by rw [size27, cells_size, h3.1])) rfl ⟨cs, rfl, h3, below_setRow hb (Nat.le_refl _) _⟩

/-- tables as they are handed down: made ones, or such as answer to nobody -/
def Tab (cs : List Nat) : Prop := cs.length = 2047 ∧ (cs[0]? = some 0 ∨ Laid cs 1023)
/-- fill's ending: block g holds made tables; below it nothing has turned -/
def Filled (W : World) (g : Nat) (e : Ending) (w' : World) : Prop := ∃ cs, e = .returned (.tuple #[]) ∧ Tb w' g cs ∧ Laid cs 1023 ∧ Below g W w'

set_option maxRecDepth 20000 in
set_option maxHeartbeats 400000 in
theorem fill_any (g : Nat) (cs : List Nat) (W : World) (h : Tb W g cs) (ht : Tab cs) (hg : g < W.heap.size) :
    Calls Tryz.prog 165 #[.pointer (some ⟨g, 0, none⟩)] W (Filled W g) := by
  by_cases h0 : cs[0]? = some 0
  · have hc : W.cell? ⟨g, 0, none⟩ = some (.int .u16 0) := by
      rw [h.cell (i := 0) (by have := ht.1; omega)]
      rw [List.getElem?_eq_getElem (by have := ht.1; omega)] at h0
      injection h0 with h0
      rw [h0]; rfl
    go_enter Tryz.func165, Tryz.ntmps165
    go_wp2_with fail
    refine (make_any _).mono ?_
    rintro e w' ⟨ds, rfl, hl, hb⟩
    have h' := h.below hb hg
    go_wp2_with (first | (refine wpList_store_row rfl 50 _ _ rfl g (cells ds) rfl rfl 50 (cells cs) h' (by rw [size27, cells_size, hl.1]) (by rw [cells_size, cells_size, hl.1]; exact ht.1) (cells_one ds) ?_))
    go_end0
    exact ⟨ds, rfl, setRow_heap _ _ _ _ _ _ h', hl, below_setRow (hb.mono (by omega)) (Nat.le_refl _) _⟩
  · have hl : Laid cs 1023 := ht.2.resolve_left h0
    have hc : W.cell? ⟨g, 0, none⟩ = some (.int .u16 1) := by
      rw [h.cell (i := 0) (by have := ht.1; omega)]
      have := (hl.2 0 (by omega)).1
      rw [List.getElem?_eq_getElem (by have := ht.1; omega)] at this
      injection this with this
      rw [this]; rfl
    go_enter Tryz.func165, Tryz.ntmps165
    go_wp2_with fail
    go_end0
    exact ⟨cs, rfl, h, hl, Below.refl _ _⟩

set_option maxHeartbeats 400000 in
theorem rest_any (n : Int) (k : Nat) (w : World) (hk : n % 1023 = k) :
    Calls Tryz.prog 166 #[.int .i64 n] w fun e w' => e = .returned (.int .i64 k) ∧ w = w' := by
  have h1 : n.tmod 1023 = n % 1023 ∨ n.tmod 1023 = n % 1023 - 1023 := by
    rw [Int.tmod_eq_emod]; split <;> simp
  have hk2 : k < 1023 := by omega
  rw [hk] at h1
  clear hk
  rcases h1 with h | h
  · have hd : decide (n.tmod 1023 < 0) = false := by rw [h]; simp
    have H := Lib.hid h
    clear h
    go_enter Tryz.func166, Tryz.ntmps166
    go_wp2
    go_ret
    exact ⟨by rw [H.out]; rfl, rfl⟩
  · by_cases h0 : n.tmod 1023 < 0
    · have H : Hid (wrap64 (n.tmod 1023 + 1023) = (k : Int)) := by
        unfold Hid
        rw [h, IntWalk.wrap64_in _ (by omega)]; omega
      clear h
      go_enter Tryz.func166, Tryz.ntmps166
      go_wp2
      go_ret
      exact ⟨by rw [← H.out]; rfl, rfl⟩
    · exact absurd h0 (by omega)

theorem emod_nat (n : Int) : ∃ k : Nat, k < 1023 ∧ n % 1023 = k := ⟨(n % 1023).toNat, by omega, by omega⟩
/-- the power's cell -/
theorem Tb.exp {w : World} {g : Nat} {cs : List Nat} (h : Tb w g cs) (hl : Laid cs 1023) {k : Nat} (hk : k < 1023) : w.cell? ⟨g, k, none⟩ = some (.int .u16 ((E k : Nat) : Int)) := by
  have e := (hl.2 k hk).1
  rw [h.cell (i := k) (by have := hl.1; omega)]
  rw [List.getElem?_eq_getElem (by have := hl.1; omega)] at e
  injection e with e
  rw [e]
/-- the logarithm's cell -/
theorem Tb.log {w : World} {g : Nat} {cs : List Nat} (h : Tb w g cs) (hl : Laid cs 1023) {a : Nat} (ha : a < 1024) (h0 : a ≠ 0) : w.cell? ⟨g, 1023 + a, none⟩ = some (.int .u16 ((lg a : Nat) : Int)) := by
  obtain ⟨e1, e2⟩ := E_lg ha h0
  have e := (hl.2 (lg a) e2).2
  rw [e1] at e
  rw [h.cell (i := 1023 + a) (by have := hl.1; omega)]
  rw [List.getElem?_eq_getElem (by have := hl.1; omega)] at e
  injection e with e
  rw [e]

set_option maxRecDepth 20000 in
set_option maxHeartbeats 400000 in
theorem exp_any (cs : List Nat) (ht : Tab cs) (n : Int) (w : World) :
    Calls Tryz.prog 155 #[.agg (cells cs), .int .i64 n] w fun e w' => e = .returned (.int .u16 (expI n)) ∧ Below w.heap.size w w' := by
  obtain ⟨k, hk, hn⟩ := emod_nat n
  have HT : Hid (expI n = ((E k : Nat) : Int)) := by
    unfold Hid expI
    rw [hn, Int.toNat_natCast]
  have HN := Lib.hid hn
  clear hn
  go_enter Tryz.func155, Tryz.ntmps155
  go_wp2_with fail
  refine (fill_any w.heap.size cs _ (heap_alloc_new w _) ht (by simp)).mono ?_
  rintro e w' ⟨ds, rfl, h1, h2, hb⟩
  have hc := h1.exp h2 hk
  go_wp2_with (go_at_call 166; (with_reducible refine (rest_any n k _ HN.out).mono ?_); rintro e w'' ⟨rfl, rfl⟩)
  go_ret
  exact ⟨by rw [HT.out]; rfl, ((Below.refl _ _).alloc (Nat.le_refl _) _).trans hb⟩

theorem quiet_left {P : Program} {f : FuncId} {args : Array Value} {w : World} {n : Nat} {v : Value}
    (h : Calls P f args (w.drewN n) fun e w' => e = .returned v ∧ w.drewN n = w') : Calls P f args (w.drewN n) fun e w'' => e = .returned v ∧ ∃ m, w'' = w.drewN m :=
  h.mono fun _ _ ⟨he, hm⟩ => ⟨he, n, hm.symm⟩
theorem alloc_below {w w' : World} {o : Obj} (hb : Below w.heap.size (w.alloc o) w') : Below w.heap.size w w' := ((Below.refl _ _).alloc (Nat.le_refl _) _).trans hb

set_option maxRecDepth 20000 in
set_option maxHeartbeats 400000 in
theorem mul_any (cs : List Nat) (a b : Int) (w : World) (a0 : 0 ≤ a) (a1 : a < 65536) (b0 : 0 ≤ b) (b1 : b < 65536) :
    Calls Tryz.prog 163 #[.agg (cells cs), .int .u16 a, .int .u16 b] w fun e w' => e = .returned (.int .u16 (mulI a b)) ∧ Below w.heap.size w w' := by
  go_enter Tryz.func163, Tryz.ntmps163
  go_wp2_with fail
  refine (product_any a b _ a0 a1 b0 b1).mono ?_
  rintro e w' ⟨rfl, n, rfl⟩
  go_wp2_with fail
  go_ret
  exact ⟨rfl, alloc_below ⟨rfl, rfl, rfl, Nat.le_refl _, fun _ _ => rfl⟩⟩

theorem add_any (a b : Int) (w : World) (a0 : 0 ≤ a) (a1 : a < 65536) (b0 : 0 ≤ b) (b1 : b < 65536) :
    Calls Tryz.prog 161 #[.int .u16 a, .int .u16 b] w fun e w' => e = .returned (.int .u16 ((a.toNat ^^^ b.toNat : Nat) % 1024 : Nat)) ∧ w = w' := by
  have hx := u16_xor a b a0 a1 b0 b1
  have hl : a.toNat ^^^ b.toNat < 2 ^ 16 := Nat.xor_lt_two_pow (by omega) (by omega)
  generalize a.toNat ^^^ b.toNat = c at hx hl
  have hm := u16_mask (c : Int) (by omega) (by omega)
  go_enter Tryz.func161, Tryz.ntmps161
  go_wp2
  go_ret
  exact ⟨by simp, rfl⟩

set_option maxRecDepth 20000 in
set_option maxHeartbeats 400000 in
theorem inv_any (cs : List Nat) (ht : Tab cs) (a : Int) (w : World) (a0 : 0 ≤ a) (a1 : a < 65536) :
    Calls Tryz.prog 168 #[.agg (cells cs), .int .u16 a] w fun e w' => e = .returned (.tuple #[.int .u16 (invI a), .bool (a % 1024 != 0)]) ∧ Below w.heap.size w w' := by
  have hA := u16_mask a a0 a1
  have HT : Hid (invI a = ((ginv (a.toNat % 1024) : Nat) : Int)) := rfl
  generalize invI a = T at HT
  obtain ⟨A, hAe⟩ : ∃ A : Nat, a % 1024 = A := ⟨(a % 1024).toNat, by omega⟩
  have hA1 : A < 1024 := by omega
  rw [show a.toNat % 1024 = A by omega] at HT
  rw [hAe] at hA ⊢
  clear hAe
  by_cases h0 : A = 0
  · subst h0
    have HT' : Hid (T = 0) := HT.out
    go_enter Tryz.func168, Tryz.ntmps168
    go_wp2_with fail
    go_ret2
    exact ⟨by rw [HT'.out]; rfl, alloc_below (Below.refl _ _)⟩
  · have h0' : ((A : Int) == 0) = false := by simp; omega
    have hlg := (E_lg hA1 h0).2
    obtain ⟨k, hk, hn⟩ := emod_nat (-(lg A : Int))
    have HT' : Hid (T = ((E k : Nat) : Int)) := by
      rw [HT.out]
      unfold ginv Hid
      rw [if_neg h0]
      congr 1
      rw [E_inj]; omega
    have HN := Lib.hid hn
    clear hn
    go_enter Tryz.func168, Tryz.ntmps168
    go_wp2_with fail
    refine (fill_any w.heap.size cs _ (heap_alloc_new w _) ht (by simp)).mono ?_
    rintro e w' ⟨ds, rfl, h1, h2, hb⟩
    have hc := h1.log h2 hA1 h0
    have hd := h1.exp h2 hk
    go_wp2_with (go_at_call 166; (with_reducible refine (rest_any _ k _ HN.out).mono ?_); rintro e w'' ⟨rfl, rfl⟩)
    go_ret2
    exact ⟨by rw [HT'.out]; simp [bne, h0], alloc_below hb⟩


end Go.Proofs.YtjhoecfhmndcgaaGreat
namespace Go.Proofs.YtjhoecfhmndcgaaGreat
open Go.RowKit Go.Gf

/-- made tables lie in block g, behind all that was there when the call began -/
structure St (w : World) (g : Nat) (cs : List Nat) (w' : World) : Prop where
  below : Below w.heap.size w w'
  ge : w.heap.size ≤ g
  lt : g < w'.heap.size
  tb : Tb w' g cs
theorem St.start {w w1 : World} {cs : List Nat} (hb : Below w.heap.size w w1) (ds : Array Value) :
    St w w1.heap.size cs ((w1.alloc (.cells ds 50)).setRow w1.heap.size (cells cs)) :=
  ⟨below_setRow (hb.alloc hb.size _) hb.size _, hb.size, by simp, setRow_heap _ _ _ _ _ _ (heap_alloc_new w1 _)⟩
/-- block g is tables -/
def isTb (w : World) (g : Nat) : Bool := match w.heap[g]? with
  | some (.cells cs t fr) => t == 50 && fr == (0, 0) && cs.size == 2047
  | _ => false
def tbOf (w : World) (g : Nat) : Array Value := match w.heap[g]? with
  | some (.cells cs _ _) => cs
  | _ => #[]
theorem loadAt_tb {w : World} {g : Nat} (h : isTb w g = true) : (Instr.loadAt 50 (.pointer (some ⟨g, 0, none⟩))).run Tryz.prog w = .ok (.agg (tbOf w g)) w := by
  unfold isTb at h
  split at h
  · rename_i cs t fr hg
    simp only [Bool.and_eq_true, beq_iff_eq] at h
    obtain ⟨⟨rfl, rfl⟩, hs⟩ := h
    have e : tbOf w g = cs := by unfold tbOf; rw [hg]
    rw [e]
    simp only [Instr.loadAt, Instr.sureAddr, Sem.run_bind, Sem.run_pure, Result.andThen]
    exact run_loadVar_row w g 50 50 cs (0, 0) _ hg Tryz.underlying50 rfl (by rw [size27, hs])
  · cases h
/-- likewise, of a pointer to its head -/
def tbAt (w : World) : Value → Bool
  | .pointer (some ⟨g, 0, none⟩) => isTb w g
  | _ => false
def tbIn (w : World) : Value → Array Value
  | .pointer (some a) => tbOf w a.block
  | _ => #[]
theorem tbAt_ptr (w : World) (g : Nat) : tbAt w (.pointer (some ⟨g, 0, none⟩)) = isTb w g := rfl
theorem tbIn_ptr (w : World) (g : Nat) : tbIn w (.pointer (some ⟨g, 0, none⟩)) = tbOf w g := rfl
theorem exec_load_tb (ρ : Operand → Value) (d : Option Tmp) (ty : TypeId) (pos : String) (after : Array Edge) (gd : Option (Nat × Bool)) (x : Operand) (w : World) (h : tbAt w (ρ x) = true) :
    (execOp ρ ⟨d, .load 50 x, ty, pos, after, gd⟩).run Tryz.prog w = .ok (.value (.agg (tbIn w (ρ x)))) w := by
  generalize hv : ρ x = v at h
  unfold tbAt at h
  split at h
  · rename_i g
    simp only [execOp, hv, Sem.run_bind, loadAt_tb h, Result.andThen_ok, Sem.run_pure]
    rfl
  · cases h
attribute [local go_sem ↓] exec_load_tb
attribute [local go_sem] tbAt_ptr tbIn_ptr
theorem Laid.tab {cs : List Nat} (h : Laid cs 1023) : Tab cs := ⟨h.1, Or.inr h⟩
theorem rsize {cs : List Nat} (h : Laid cs 1023) : (Tryz.prog.info? 50).map (·.size) = some (cells cs).size := by rw [size27, cells_size, h.1]
theorem zsize {cs : List Nat} (h : Laid cs 1023) : (cells ZT).size = (cells cs).size := by rw [cells_size, cells_size, h.1]; exact List.length_replicate

end Go.Proofs.YtjhoecfhmndcgaaGreat
