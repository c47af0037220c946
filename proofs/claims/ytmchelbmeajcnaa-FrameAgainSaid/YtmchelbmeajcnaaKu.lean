/- The program's stream of bits: put and take. · The program's Symbols, Bytes, and whether something is no symbol. · The program's Unpack. -/
import Derived.Test.YtmchelbmeajcnaaBy
namespace Go.Proofs.Ytmchelbmeajcnaa
open Go.RowKit Go.Gf

/-- what lies behind n bits, and n more -/
theorem ofB_add (T n : Nat) (f : Nat → Bool) : ofB (T + n) f = ofB T f * 2 ^ n + ofB n (fun k => f (T + k)) := by
  induction n with
  | zero => simp [ofB]
  | succ n ih =>
    show 2 * ofB (T + n) f + (if f (T + n) then 1 else 0) = _ + (2 * ofB n (fun k => f (T + k)) + if f (T + n) then 1 else 0)
    rw [ih, Nat.pow_succ, ← Nat.mul_assoc]
    omega
/-- n of the last h bits -/
theorem ofB_part (T h n : Nat) (f : Nat → Bool) (h1 : n ≤ h) (h2 : h ≤ T) : ofB T f / 2 ^ (h - n) % 2 ^ n = ofB n (fun k => f (T - h + k)) := by
  apply Nat.eq_of_testBit_eq
  intro t
  rw [Nat.testBit_mod_two_pow, Nat.testBit_div_two_pow, ofB_bit, ofB_bit]
  by_cases ht : t < n
  · have e1 : t + (h - n) < T := by omega
    have e2 : T - 1 - (t + (h - n)) = T - h + (n - 1 - t) := by omega
    simp [ht, e1, e2]
  · simp [ht]
theorem put_bits (V x n : Nat) (hx : x < 2 ^ n) (hn : n ≤ 10) : (V % 18446744073709551616 * 2 ^ n) % 18446744073709551616 ||| x = (V * 2 ^ n + x) % 18446744073709551616 := by
  obtain ⟨k, hk⟩ : ∃ k, 18446744073709551616 = k * 2 ^ n := ⟨2 ^ (64 - n), by rw [← Nat.pow_add, show 64 - n + n = 64 by omega]⟩
  have hkp : 0 < k := by
    rcases Nat.eq_zero_or_pos k with e | e
    · rw [e] at hk; simp at hk
    · exact e
  have e1 : (V % 18446744073709551616 * 2 ^ n) % 18446744073709551616 = (V % k) * 2 ^ n := by
    rw [Nat.mod_mul_mod, hk, Nat.mul_mod_mul_right]
  have e2 : (V % k * 2 ^ n) ||| x = V % k * 2 ^ n + x := by
    rw [← Nat.shiftLeft_eq, ← Nat.shiftLeft_add_eq_or_of_lt hx]
  have e3 : (V * 2 ^ n + x) = (V % k) * 2 ^ n + x + 18446744073709551616 * (V / k) := by
    have := Nat.mod_add_div V k
    rw [hk]
    calc V * 2 ^ n + x = (V % k + k * (V / k)) * 2 ^ n + x := by rw [this]
      _ = _ := by rw [Nat.add_mul, Nat.mul_right_comm]; omega
  have h4 : V % k < k := Nat.mod_lt _ hkp
  have h5 : V % k * 2 ^ n + x < 18446744073709551616 := by
    have : (V % k + 1) * 2 ^ n ≤ k * 2 ^ n := Nat.mul_le_mul_right _ h4
    rw [hk]
    rw [Nat.add_mul] at this
    omega
  rw [e1, e2, e3, Nat.add_mul_mod_self_left, Nat.mod_eq_of_lt h5]
theorem take_bits (V s n : Nat) (h : s + n ≤ 64) : (V % 18446744073709551616) / 2 ^ s % 2 ^ n = V / 2 ^ s % 2 ^ n := by
  apply Nat.eq_of_testBit_eq
  intro t
  rw [show (18446744073709551616 : Nat) = 2 ^ 64 from rfl, Nat.testBit_mod_two_pow, Nat.testBit_div_two_pow, Nat.testBit_mod_two_pow, Nat.testBit_mod_two_pow, Nat.testBit_div_two_pow]
  by_cases ht : t < n
  · have : t + s < 64 := by omega
    simp [ht, this]
  · simp [ht]

/-- block g is the two numbers of a stream -/
def Str (w : World) (g : Nat) (b h : Nat) : Prop := w.heap[g]? = some (.cells #[.int .u64 (b : Int), .int .u64 (h : Int)] 136 (0, 0))
theorem Str.lt {w : World} {g b h : Nat} (H : Str w g b h) : g < w.heap.size := by
  rcases Nat.lt_or_ge g w.heap.size with hlt | hge
  · exact hlt
  · unfold Str at H; rw [Array.getElem?_eq_none hge] at H; cases H
theorem Str.cell0 {w : World} {g b h : Nat} (H : Str w g b h) : w.cell? ⟨g, 0, none⟩ = some (.int .u64 (b : Int)) := by rw [cell_of_row w g 0 _ 136 (0, 0) H]; rfl
theorem Str.cell1 {w : World} {g b h : Nat} (H : Str w g b h) : w.cell? ⟨g, 1, none⟩ = some (.int .u64 (h : Int)) := by rw [cell_of_row w g 1 _ 136 (0, 0) H]; rfl
theorem Str.frozen {w : World} {g b h : Nat} (H : Str w g b h) (i : Nat) : w.frozen? ⟨g, i, none⟩ = false := by unfold Str at H; simp [World.frozen?, H]
theorem Str.set0 {w : World} {g b h : Nat} (H : Str w g b h) (c : Nat) : Str (w.setCell ⟨g, 0, none⟩ (.int .u64 (c : Int))) g c h := by
  unfold Str at *
  simp only [World.setCell]
  rw [Array.getElem?_modify, H]
  simp
theorem Str.set1 {w : World} {g b h : Nat} (H : Str w g b h) (c : Nat) : Str (w.setCell ⟨g, 1, none⟩ (.int .u64 (c : Int))) g b c := by
  unfold Str at *
  simp only [World.setCell]
  rw [Array.getElem?_modify, H]
  simp
theorem grown_refl (w : World) (r : Option Nat) : w.grownBy w r := ⟨rfl, rfl, rfl, Nat.le_refl _, fun _ _ _ => rfl⟩
theorem grown_set {w w' : World} {g i : Nat} (h : w.grownBy w' (some g)) (v : Value) : w.grownBy (w'.setCell ⟨g, i, none⟩ v) (some g) := by
  refine ⟨h.os, h.tape, h.output, ?_, fun k hk hne => ?_⟩
  · simp only [World.setCell, Array.size_modify]; exact h.size
  · simp only [World.setCell]
    rw [Array.getElem?_modify, if_neg (fun e => hne (by rw [e]))]
    exact h.block k hk hne
theorem grown_drewN {w w' : World} {r : Option Nat} (h : w.grownBy w' r) (n : Nat) : w.grownBy (w'.drewN n) r := ⟨h.os, h.tape, h.output, h.size, h.block⟩
set_option maxHeartbeats 1000000 in
theorem put_any (w : World) (g V h x n : Nat) (hs : Str w g (V % 18446744073709551616) h) (hx : x < 2 ^ n) (hn : n ≤ 10) (hh : h ≤ 100) {N Y : Int} (hN : N = (n : Int)) (hY : Y = (x : Int)) :
    Calls Try.prog 86 #[.pointer (some ⟨g, 0, none⟩), .int .u64 Y, .int .u64 N] w fun e w' => e = .returned (.tuple #[]) ∧ Str w' g ((V * 2 ^ n + x) % 18446744073709551616) (h + n) ∧ w.grownBy w' (some g) := by
  subst hN hY
  have H := Lib.hid hs
  have hb := put_bits V x n hx hn
  have hp : 2 ^ n ≤ 1024 := Nat.pow_le_pow_right (by decide) hn
  have hV : V % 18446744073709551616 < 18446744073709551616 := Nat.mod_lt _ (by decide)
  generalize V % 18446744073709551616 = b at *
  obtain ⟨c, hc⟩ : ∃ c, Hid ((b * 2 ^ n) % 18446744073709551616 = c) := ⟨_, Lib.hid rfl⟩
  have hc1 : c < 18446744073709551616 := by rw [← hc.out]; exact Nat.mod_lt _ (by decide)
  rw [hc.out] at hb
  generalize (V * 2 ^ n + x) % 18446744073709551616 = d at *
  have hor : bits .or .u64 (c : Int) (x : Int) = (d : Int) := by rw [u64_or_nat c x hc1 (by omega), hb]
  have hmn : min (n : Int) 64 = (n : Int) := by omega
  have hmN : min n 64 = n := by omega
  have hw : IntKind.u64.wrap ((b : Int) * 2 ^ n) = (c : Int) := by
    show ((b : Int) * 2 ^ n) % 18446744073709551616 = (c : Int)
    rw [← hc.out, Int.natCast_emod, Int.natCast_mul, Int.natCast_pow]; rfl
  have hw2 : IntKind.u64.wrap ((h : Int) + (n : Int)) = ((h + n : Nat) : Int) := by
    show ((h : Int) + (n : Int)) % 18446744073709551616 = _
    omega
  have c0 := hs.cell0
  have c1 := hs.cell1
  have f0 := hs.frozen
  have hN : Hid (Str ((w.setCell ⟨g, 0, none⟩ (.int .u64 (d : Int))).setCell ⟨g, 1, none⟩ (.int .u64 ((h + n : Nat) : Int))) g d (h + n)) := (hs.set0 d).set1 (h + n)
  have hG : Hid (w.grownBy ((w.setCell ⟨g, 0, none⟩ (.int .u64 (d : Int))).setCell ⟨g, 1, none⟩ (.int .u64 ((h + n : Nat) : Int))) (some g)) := grown_set (grown_set (grown_refl w _) _) _
  obtain ⟨m, hm⟩ : ∃ m, Hid (h + n = m) := ⟨_, Lib.hid rfl⟩
  rw [hm.out] at hw2 hN hG ⊢
  clear hs H hb hx hn hp
  go_enter Try.func86, Try.ntmps86
  go_wp2_with fail
  go_end0
  exact ⟨rfl, hN.out, hG.out⟩
set_option maxHeartbeats 1000000 in
theorem take_any (w : World) (g V h n : Nat) (hs : Str w g (V % 18446744073709551616) h) (hn : n ≤ h) (h10 : n ≤ 10) (h1 : 1 ≤ n) (hh : h ≤ 64) {N : Int} (hN : N = (n : Int)) :
    Calls Try.prog 87 #[.pointer (some ⟨g, 0, none⟩), .int .u64 N] w fun e w' => e = .returned (.int .u64 ((V / 2 ^ (h - n) % 2 ^ n : Nat) : Int)) ∧ Str w' g (V % 18446744073709551616) (h - n) ∧ w.grownBy w' (some g) := by
  subst hN
  have hb := take_bits V (h - n) n (by omega)
  generalize V / 2 ^ (h - n) % 2 ^ n = d at *
  have hV : V % 18446744073709551616 < 18446744073709551616 := Nat.mod_lt _ (by decide)
  generalize V % 18446744073709551616 = b at *
  obtain ⟨s, hsn⟩ : ∃ s, Hid (h - n = s) := ⟨_, Lib.hid rfl⟩
  rw [hsn.out] at hb ⊢
  have hw2 : IntKind.u64.wrap ((h : Int) - (n : Int)) = (s : Int) := by
    show ((h : Int) - (n : Int)) % 18446744073709551616 = _
    have := hsn.out; omega
  have c0 := hs.cell0
  have f0 := hs.frozen
  have hN : Hid (Str (w.setCell ⟨g, 1, none⟩ (.int .u64 (s : Int))) g b s) := hs.set1 s
  have hG : Hid (w.grownBy (w.setCell ⟨g, 1, none⟩ (.int .u64 (s : Int))) (some g)) := grown_set (grown_refl w _) _
  have c1 := hs.cell1
  have d0 := hN.out.cell0
  have d1 := hN.out.cell1
  have hp : 2 ^ n ≤ 1024 := Nat.pow_le_pow_right (by decide) h10
  have hp2 : 2 ≤ 2 ^ n := by have := Nat.pow_le_pow_right (n := 2) (by decide) h1; omega
  have hmn : min (n : Int) 64 = (n : Int) := by omega
  have hms : min (s : Int) 64 = (s : Int) := by have := hsn.out; omega
  have hmN : min n 64 = n := by omega
  have hmS : min s 64 = s := by have := hsn.out; omega
  have hand : bits .and .u64 ((b : Int) / 2 ^ s) (IntKind.u64.wrap (IntKind.u64.wrap (2 ^ n) - 1)) = (d : Int) := by
    have e1 : ((b : Int) / 2 ^ s) = ((b / 2 ^ s : Nat) : Int) := by push_cast; rfl
    have e2 : IntKind.u64.wrap (IntKind.u64.wrap (2 ^ n) - 1) = ((2 ^ n - 1 : Nat) : Int) := by
      show (((2 : Int) ^ n) % 18446744073709551616 - 1) % 18446744073709551616 = _
      have e3 : ((2 : Int) ^ n) = ((2 ^ n : Nat) : Int) := by push_cast; rfl
      rw [e3]
      omega
    rw [e1, e2, u64_and_nat (b / 2 ^ s) (2 ^ n - 1) (Nat.lt_of_le_of_lt (Nat.div_le_self _ _) hV) (by omega), Nat.and_two_pow_sub_one_eq_mod, hb]
  clear hs hb hn h10 h1
  go_enter Try.func87, Try.ntmps87
  go_wp2_with fail
  go_quiet (fail)
  go_wp2_with fail
  go_ret
  exact ⟨by rw [← hand]; rfl, hN.out, grown_drewN hG.out _⟩
end Go.Proofs.Ytmchelbmeajcnaa
namespace Go.Proofs.Ytmchelbmeajcnaa
open Go.RowKit Go.Gf

set_option maxHeartbeats 1000000 in
theorem within_any (n : Int) (w : World) : Calls Try.prog 77 #[.int .i64 n] w fun e w' => e = .returned (.int .i64 ((clampN n : Nat) : Int)) ∧ w = w' := by
  have h : ((clampN n : Nat) : Int) = min (max n 0) 1099511627776 := by unfold clampN; omega
  rw [h]
  clear h
  go_enter Try.func77, Try.ntmps77
  go_wp2_with fail
  all_goals (go_ret; refine ⟨congrArg (fun z => Ending.returned (.int .i64 z)) ?_, rfl⟩; split at * <;> omega)
set_option maxHeartbeats 1000000 in
theorem paksymbols_any (n : Int) (w : World) : Calls Try.prog 85 #[.int .i64 n] w fun e w' => e = .returned (.int .i64 ((symN (clampN n) : Nat) : Int)) ∧ w = w' := by
  have hc := Lib.hid (within_any n w)
  have hm1 : clampN n ≤ 1099511627776 := by unfold clampN; omega
  generalize clampN n = m at *
  have hs : ((symN m : Nat) : Int) = (8 * (m : Int) + 10 - 1) / 10 := by unfold symN; omega
  rw [hs]
  clear hs
  go_enter Try.func85, Try.ntmps85
  go_wp2_with (go_at_call 77; (with_reducible refine hc.out.mono ?_); rintro e w1 ⟨rfl, rfl⟩)
  go_ret
  exact ⟨rfl, rfl⟩
set_option maxHeartbeats 1000000 in
theorem pakbytes_any (n : Int) (w : World) : Calls Try.prog 56 #[.int .i64 n] w fun e w' => e = .returned (.int .i64 ((bytN (clampN n) : Nat) : Int)) ∧ w = w' := by
  have hc := Lib.hid (within_any n w)
  have hm1 : clampN n ≤ 1099511627776 := by unfold clampN; omega
  generalize clampN n = m at *
  have hs : ((bytN m : Nat) : Int) = 10 * (m : Int) / 8 := by unfold bytN; omega
  rw [hs]
  clear hs
  go_enter Try.func56, Try.ntmps56
  go_wp2_with (go_at_call 77; (with_reducible refine hc.out.mono ?_); rintro e w1 ⟨rfl, rfl⟩)
  go_ret
  exact ⟨rfl, rfl⟩
theorem pak_symbols {n : Int} {w : World} : Calls Try.prog 85 #[.int .i64 n] w (Ans w (.int .i64 ((symN (clampN n) : Nat) : Int))) := (paksymbols_any n w).mono fun _ _ h => ⟨h.1, by rw [h.2]; exact Below.refl _ _⟩
theorem pak_bytes {n : Int} {w : World} : Calls Try.prog 56 #[.int .i64 n] w (Ans w (.int .i64 ((bytN (clampN n) : Nat) : Int))) := (pakbytes_any n w).mono fun _ _ h => ⟨h.1, by rw [h.2]; exact Below.refl _ _⟩
theorem beyond_any (x : Nat) (w : World) : Calls Try.prog 93 #[.int .u16 (x : Int)] w fun e w' => e = .returned (.bool (decide (1024 ≤ x))) ∧ w = w' := by
  have h : decide ((1024 : Int) ≤ (x : Int)) = decide (1024 ≤ x) := by rw [decide_eq_decide]; omega
  go_enter Try.func93, Try.ntmps93
  go_wp2_with fail
  go_ret
  exact ⟨rfl, rfl⟩

/-- is there one from k on that is no symbol? -/
def idxI (xs : List Nat) : Bool := xs.any fun x => decide (1024 ≤ x)
theorem idx_none {xs : List Nat} (h : ∀ k (h : k < xs.length), xs[k] < 1024) : idxI xs = false := by
  rw [Bool.eq_false_iff]
  intro e
  obtain ⟨x, hx, h2⟩ := List.any_eq_true.1 e
  obtain ⟨k, hk, rfl⟩ := List.getElem_of_mem hx
  have := h k hk
  simp at h2; omega
theorem idx_some {xs : List Nat} {k : Nat} (hk : k < xs.length) (h : 1024 ≤ xs[k]) : idxI xs = true :=
  List.any_eq_true.2 ⟨xs[k], List.getElem_mem hk, by simpa using h⟩
set_option maxHeartbeats 2000000 in
theorem kindex_any (A : Option Addr) (c : Nat) (xs : List Nat) (w : World) (h : Sl w w.heap.size A xs) (hl : xs.length ≤ 1000000) :
    Calls Try.prog 112 #[.slice A xs.length c, .func (.func 93) #[] #[]] w fun e w' => (∃ k : Int, e = .returned (.int .i64 k) ∧ idxI xs = decide (0 ≤ k)) ∧ w = w' := by
  have H := Lib.hid h
  clear h
  have hno : Hid ((∀ k (h : k < xs.length), xs[k] < 1024) → idxI xs = false) := idx_none
  have hyes : Hid (∀ {k : Nat} (hk : k < xs.length), 1024 ≤ xs[k] → idxI xs = true) := idx_some
  generalize idxI xs = T at *
  go_enter Try.func112, Try.ntmps112
  go_wp2_with fail
  go_loop [8] (fun n => ∃ k : Nat, k ≤ xs.length ∧ Hid (∀ j (h : j < xs.length), j < k → xs[j] < 1024) ∧ n = .int .i64 k) (fun n => xs.length - (intOf n).toNat)
  case atStart => exact ⟨0, Nat.zero_le _, Lib.hid (fun j _ h => absurd h (by omega)), rfl⟩
  case round =>
    obtain ⟨k, hk, HK, rfl⟩ := hrel
    by_cases hlt : k < xs.length
    · obtain ⟨a, rfl, hab, hcell⟩ := H.out.at_ hlt
      have hx := H.out.1 xs[k] (List.getElem_mem hlt)
      have hc := beyond_any xs[k] w
      by_cases hb : 1024 ≤ xs[k]
      · obtain rfl := hyes.out hlt hb
        rw [decide_eq_true hb] at hc
        replace hc := Lib.hid hc
        clear hb
        go_wp2_with (go_at_call 93; (with_reducible refine hc.out.mono ?_); rintro e w1 ⟨rfl, rfl⟩)
        go_ret
        exact ⟨⟨_, rfl, by rw [eq_comm, decide_eq_true_eq]; omega⟩, rfl⟩
      · rw [decide_eq_false hb] at hc
        replace hc := Lib.hid hc
        have HK' : Hid (∀ j (h : j < xs.length), j < k + 1 → xs[j] < 1024) := fun j hj hjk => by
          rcases Nat.lt_or_ge j k with h1 | h1
          · exact HK.out j hj h1
          · obtain rfl : j = k := by omega
            omega
        clear hb HK
        go_wp2_with (go_at_call 93; (with_reducible refine hc.out.mono ?_); rintro e w1 ⟨rfl, rfl⟩)
        go_round
        case rel => exact ⟨k + 1, by omega, HK', by go_num⟩
        case measure => simp [intOf]; omega
    · obtain rfl : k = xs.length := by omega
      obtain rfl := hno.out (fun j hj => HK.out j hj hj)
      clear HK
      go_wp2_with fail
      go_ret
      exact ⟨⟨-1, rfl, by decide⟩, rfl⟩
set_option maxHeartbeats 1000000 in
theorem kcontains_any (A : Option Addr) (c : Nat) (xs : List Nat) (w : World) (h : Sl w w.heap.size A xs) (hl : xs.length ≤ 1000000) :
    Calls Try.prog 92 #[.slice A xs.length c, .func (.func 93) #[] #[]] w fun e w' => e = .returned (.bool (idxI xs)) ∧ w = w' := by
  have hc := Lib.hid (kindex_any A c xs w h hl)
  clear h
  generalize idxI xs = T at *
  go_enter Try.func92, Try.ntmps92
  go_wp2_with (go_at_call 112; (with_reducible refine hc.out.mono ?_); rintro e w1 ⟨⟨k, rfl, hk⟩, rfl⟩)
  go_ret
  exact ⟨by rw [hk]; rfl, rfl⟩
end Go.Proofs.Ytmchelbmeajcnaa
namespace Go.Proofs.Ytmchelbmeajcnaa
open Go.RowKit Go.Gf

def mW : Nat := 18446744073709551616
theorem Below.grownS {B g : Nat} {w w1 w2 : World} (h : Below B w w1) (hg : w1.grownBy w2 (some g)) (hB : B ≤ g) (hs : B ≤ w1.heap.size) : Below B w w2 :=
  h.grown hg hs (fun k hk => by injection hk with hk; omega)
theorem OwnB.grownS {w wr w1 : World} {g n gs : Nat} {f : Nat → Nat} (h : OwnB w wr g n f) (hg : wr.grownBy w1 (some gs)) (hne : g ≠ gs) (hs : w.heap.size ≤ gs) : OwnB w w1 g n f :=
  ⟨h.1, Below.grownS h.2.1 hg hs h.2.1.size, (hg.block g h.2.2.lt (fun e => hne (by injection e))).trans h.2.2⟩
theorem Str.other {w : World} {g b h g2 i : Nat} (H : Str w g b h) (hne : g ≠ g2) (v : Value) : Str (w.setCell ⟨g2, i, none⟩ v) g b h := by
  unfold Str at *
  simp only [World.setCell]
  rw [Array.getElem?_modify, if_neg (fun e => hne e.symm)]
  exact H
/-- the bytes after i of them -/
def upTo (xs : List Nat) (i j : Nat) : Nat := if j < i then ofB 8 (fun t => bit10 xs (8 * j + t)) else 0
theorem upTo_set (xs : List Nat) (i : Nat) : (fun j => if j = i then ofB 8 (fun t => bit10 xs (8 * i + t)) else upTo xs i j) = upTo xs (i + 1) := by
  funext j
  unfold upTo
  by_cases e : j = i
  · rw [if_pos e, if_pos (by omega), e]
  · rw [if_neg e]
    by_cases h : j < i
    · rw [if_pos h, if_pos (by omega)]
    · rw [if_neg h, if_neg (by omega)]
/-- ten bits more -/
theorem ten_more {xs : List Nat} {k : Nat} (hk : k < xs.length) (hx : xs[k] < 1024) : ofB (10 * (k + 1)) (bit10 xs) = ofB (10 * k) (bit10 xs) * 2 ^ 10 + xs[k] := by
  rw [show 10 * (k + 1) = 10 * k + 10 by omega, ofB_add]
  congr 1
  rw [← ofB_of (n := 10) (v := xs[k]) hx]
  refine ofB_congr fun t ht => ?_
  unfold bit10
  rw [show (10 * k + t) / 10 = k by omega, show 9 - (10 * k + t) % 10 = 10 - 1 - t by omega, at_get hk]
/-- the eight bits that are taken -/
theorem eight_next {xs : List Nat} {i k h : Nat} (hk : 10 * k = 8 * i + h) (h8 : 8 ≤ h) : ofB (10 * k) (bit10 xs) / 2 ^ (h - 8) % 2 ^ 8 = ofB 8 (fun t => bit10 xs (8 * i + t)) := by
  rw [ofB_part _ _ _ _ h8 (by omega), show 10 * k - h = 8 * i by omega]

set_option maxHeartbeats 4000000 in
theorem first_any (A : Option Addr) (c : Nat) (xs : List Nat) (m : Nat) (w : World) (h : Sl w w.heap.size A xs) (hl : xs.length ≤ 1000000) (hx : ∀ k (h : k < xs.length), xs[k] < 1024) (hm : m ≤ 10 * xs.length / 8) :
    Calls Try.prog 94 #[.slice A xs.length c, .int .i64 (m : Int)] w fun e w' => e = .returned (.slice (some ⟨w.heap.size, 0, none⟩) m m) ∧ Sb w' w'.heap.size (some ⟨w.heap.size, 0, none⟩) (upk xs m) ∧ Below w.heap.size w w' := by
  have H := Lib.hid h
  have HX := Lib.hid hx
  clear h hx
  have hm6 : m ≤ 2000000 := by omega
  have hmk : ∀ w, (Instr.makeSlice 26 (.int .i64 (m : Int)) (.int .i64 (m : Int))).run Try.prog w = .ok (.slice (some ⟨w.heap.size, 0, none⟩) m m) (w.alloc (.cells (madeCells #[.int .u8 0] m) 5)) :=
    run_make_row' (P := Try.prog) 26 5 (.int .u8 0) 1 Try.underlying26 info5 rfl .i64 .i64 m (by omega) (by omega)
  go_enter Try.func94, Try.ntmps94
  go_wp2_with fail
  have hO : OwnB w ((w.alloc (.cells (madeCells #[.int .u8 0] m) 5)).alloc (.cells #[.int .u64 0, .int .u64 0] 136)) w.heap.size m (upTo xs 0) :=
    ⟨(ownB_start w m).1, (ownB_start w m).2.1.alloc (ownB_start w m).2.1.size _, (Below.heap_alloc _ _ _ (ownB_start w m).2.2.lt).trans ((ownB_start w m).congr (f' := upTo xs 0) fun j _ => by unfold upTo; rw [if_neg (by omega)]).2.2⟩
  have hS : Str ((w.alloc (.cells (madeCells #[.int .u8 0] m) 5)).alloc (.cells #[.int .u64 0, .int .u64 0] 136)) (w.heap.size + 1) (ofB (10 * 0) (bit10 xs) % 18446744073709551616) 0 := by
    have := heap_alloc_new (w.alloc (.cells (madeCells #[.int .u8 0] m) 5)) (.cells #[.int .u64 0, .int .u64 0] 136)
    rw [World.size_alloc] at this
    exact this
  generalize (w.alloc (.cells (madeCells #[.int .u8 0] m) 5)).alloc (.cells #[.int .u64 0, .int .u64 0] 136) = w0 at hO hS ⊢
  obtain ⟨gs, hgs⟩ : ∃ gs, Hid (w.heap.size + 1 = gs) := ⟨_, Lib.hid rfl⟩
  rw [hgs.out] at hS ⊢
  have hge : w.heap.size ≤ gs := by have := hgs.out; omega
  have hgne : w.heap.size ≠ gs := by have := hgs.out; omega
  go_loopw [7, 13] (fun p q wr => ∃ i k h : Nat, i ≤ m ∧ 10 * k = 8 * i + h ∧ h < 10 ∧ p = .int .i64 k ∧ q = .int .i64 i ∧ OwnB w wr w.heap.size m (upTo xs i) ∧ Str wr gs (ofB (10 * k) (bit10 xs) % 18446744073709551616) h) (fun _ q _ => m - (intOf q).toNat)
  case atStart => exact ⟨0, 0, 0, Nat.zero_le _, rfl, by decide, rfl, rfl, hO, hS⟩
  case round =>
    clear hO hS
    obtain ⟨i, k, h, hi, hk, hh, rfl, rfl, HO, HS⟩ := hrel
    replace HO := Lib.hid HO
    by_cases hlt : i < m
    · have hd : decide ((i : Int) < (m : Int)) = true := by rw [decide_eq_true_eq]; omega
      have hil : (i : Int) < (m : Int) := by omega
      have hh1 := HS.cell1
      by_cases h8 : h < 8
      · have hd2 : decide (h < 8) = true := decide_eq_true h8
        have hd3 : decide ((h : Int) < 8) = true := by rw [decide_eq_true_eq]; omega
        have hkl : k < xs.length := by omega
        have hkI : (k : Int) < (xs.length : Int) := by omega
        obtain ⟨a, hAe, hab, hcell⟩ := (H.out.far HO.out.2.1).at_ hkl
        subst hAe
        have hx := HX.out k hkl
        have htm := ten_more hkl hx
        have he := eight_next (xs := xs) (i := i) (k := k + 1) (h := h + 10) (by omega) (by omega)
        obtain ⟨X, hX⟩ : ∃ X, Hid (xs[k] = X) := ⟨_, Lib.hid rfl⟩
        rw [hX.out] at hcell hx htm
        have hc1 := put_any wr gs _ h X 10 HS (by omega) (by decide) (by omega) (N := 10) rfl rfl
        rw [← htm] at hc1
        obtain ⟨D, hD⟩ : ∃ D, Hid (ofB 8 (fun t => bit10 xs (8 * i + t)) = D) := ⟨_, Lib.hid rfl⟩
        have hDl : D < 256 := by rw [← hD.out]; exact ofB_lt 8 _
        rw [hD.out] at he
        obtain ⟨V, hV⟩ : ∃ V, Hid (ofB (10 * (k + 1)) (bit10 xs) = V) := ⟨_, Lib.hid rfl⟩
        rw [hV.out] at hc1 he
        replace hc1 := Lib.hid hc1
        replace he := Lib.hid he
        clear htm hX HS
        go_wp2_with (first
          | (go_at_call 86; (with_reducible refine hc1.out.mono ?_); rintro e w1 ⟨rfl, hs1, hg1⟩; have HO1 := Lib.hid (HO.out.grownS hg1 hgne hge); have hc2 := take_any w1 gs V (h + 10) 8 hs1 (by omega) (by decide) (by decide) (by omega) (N := 8) rfl; rw [he.out] at hc2; replace hc2 := Lib.hid hc2; clear hs1 hg1 hc1 HO)
          | (go_at_call 87; (with_reducible refine hc2.out.mono ?_); rintro e w2 ⟨rfl, hs2, hg2⟩; have HO2 := Lib.hid (HO1.out.grownS hg2 hgne hge); have hf2 := HO2.out.2.2.frozen i; have hcc := HO2.out.cell hlt; replace hs2 := Lib.hid hs2; clear hg2 hc2 HO1))
        have hn2 : Hid (OwnB w (w2.setCell ⟨w.heap.size, i, none⟩ (.int .u8 (D : Int))) w.heap.size m (upTo xs (i + 1))) := by
          have := HO2.out.set_ i D
          rw [← hD.out, upTo_set] at this
          rw [← hD.out]; exact this
        have hs3 := Lib.hid (hs2.out.other (g2 := w.heap.size) (i := i) (Ne.symm hgne) (.int .u8 (D : Int)))
        go_roundw
        case rel => exact ⟨i + 1, k + 1, h + 10 - 8, by omega, by omega, by omega, by go_num, by go_num, hn2.out, by rw [hV.out]; exact hs3.out⟩
        case measure => simp [intOf]; omega
      · have hd2 : decide (h < 8) = false := decide_eq_false h8
        have hd3 : decide ((h : Int) < 8) = false := by rw [decide_eq_false_iff_not]; omega
        have he := eight_next (xs := xs) (i := i) (k := k) (h := h) (by omega) (by omega)
        obtain ⟨D, hD⟩ : ∃ D, Hid (ofB 8 (fun t => bit10 xs (8 * i + t)) = D) := ⟨_, Lib.hid rfl⟩
        have hDl : D < 256 := by rw [← hD.out]; exact ofB_lt 8 _
        rw [hD.out] at he
        obtain ⟨V, hV⟩ : ∃ V, Hid (ofB (10 * k) (bit10 xs) = V) := ⟨_, Lib.hid rfl⟩
        rw [hV.out] at he HS
        have hc2 := take_any wr gs V h 8 HS (by omega) (by decide) (by decide) (by omega) (N := 8) rfl
        rw [he] at hc2
        replace hc2 := Lib.hid hc2
        clear he HS
        go_wp2_with (go_at_call 87; (with_reducible refine hc2.out.mono ?_); rintro e w2 ⟨rfl, hs2, hg2⟩; have HO2 := Lib.hid (HO.out.grownS hg2 hgne hge); have hf2 := HO2.out.2.2.frozen i; have hcc := HO2.out.cell hlt; replace hs2 := Lib.hid hs2; clear hg2 hc2 HO)
        have hn2 : Hid (OwnB w (w2.setCell ⟨w.heap.size, i, none⟩ (.int .u8 (D : Int))) w.heap.size m (upTo xs (i + 1))) := by
          have := HO2.out.set_ i D
          rw [← hD.out, upTo_set] at this
          rw [← hD.out]; exact this
        have hs3 := Lib.hid (hs2.out.other (g2 := w.heap.size) (i := i) (Ne.symm hgne) (.int .u8 (D : Int)))
        go_roundw
        case rel => exact ⟨i + 1, k, h - 8, by omega, by omega, by omega, by go_num, by go_num, hn2.out, by rw [hV.out]; exact hs3.out⟩
        case measure => simp [intOf]; omega
    · obtain rfl : i = m := by omega
      have hA := HO.out.2.2
      have e : rm i (upTo xs i) = upk xs i := by
        unfold upk
        exact rm_congr fun j hj => by unfold upTo; rw [if_pos hj]
      rw [e] at hA
      have hb := HO.out.2.1
      have hsb := Lib.hid (hA.sb (upk_bd xs i))
      replace hb := Lib.hid hb
      clear HO e hA HS
      go_wp2_with fail
      go_ret
      exact ⟨rfl, hsb.out, hb.out⟩
set_option maxHeartbeats 4000000 in
theorem pak_unpack {A : Option Addr} {c : Nat} {xs : List Nat} {n : Int} {w : World} (h : Sl w w.heap.size A xs) (hl : xs.length ≤ 1000000) : Calls Try.prog 70 #[.slice A xs.length c, .int .i64 n] w (RowB w (upkW xs n) (upkE xs n)) := by
  have H := Lib.hid h
  clear h
  have hcl : clampN (xs.length : Int) = xs.length := by unfold clampN; omega
  have hc := pakbytes_any (xs.length : Int) w
  rw [hcl] at hc
  obtain ⟨bl, hbl⟩ : ∃ bl, Hid (bytN xs.length = bl) := ⟨_, Lib.hid rfl⟩
  have hbl1 : bl ≤ 2000000 := by rw [← hbl.out]; unfold bytN; omega
  rw [hbl.out] at hc
  replace hc := Lib.hid hc
  by_cases hs : n < 0 ∨ (bl : Int) < n
  · have e1 : upkE xs n = 3 := upkE_size (by rw [hbl.out]; exact hs)
    have e2 : upkW xs n = [] := by unfold upkW; rw [e1]; rfl
    rw [e1, e2]
    clear e1 e2
    obtain ⟨b, hb⟩ : ∃ b, decide (n < 0) = b := ⟨_, rfl⟩
    cases b
    · have hn0 : ¬ n < 0 := by rw [decide_eq_false_iff_not] at hb; exact hb
      have hd1 : decide ((bl : Int) < n) = true := by rw [decide_eq_true_eq]; omega
      clear hs
      go_enter Try.func70, Try.ntmps70
      go_wp2_with (go_at_call 56; (with_reducible refine hc.out.mono ?_); rintro e w1 ⟨rfl, rfl⟩)
      go_ret2
      exact ⟨none, 0, rfl, Nat.le_refl _, Sb.nil _ _ _, Below.refl _ _⟩
    · clear hs
      go_enter Try.func70, Try.ntmps70
      go_wp2_with fail
      go_ret2
      exact ⟨none, 0, rfl, Nat.le_refl _, Sb.nil _ _ _, Below.refl _ _⟩
  · have hs' := hs
    rw [← hbl.out] at hs'
    obtain ⟨m, rfl⟩ : ∃ m : Nat, n = (m : Int) := ⟨n.toNat, by omega⟩
    have hml : m ≤ 10 * xs.length / 8 := by have := hbl.out; unfold bytN at this; omega
    have hd1 : decide ((bl : Int) < (m : Int)) = false := by rw [decide_eq_false_iff_not]; omega
    have hd2 : decide (bl < m) = false := by rw [decide_eq_false_iff_not]; omega
    have hci := Lib.hid (kcontains_any A c xs w H.out hl)
    have hcf := Lib.hid (fun hx => first_any A c xs m w H.out hl hx hml)
    obtain ⟨T, hT⟩ : ∃ T, Hid (idxI xs = T) := ⟨_, Lib.hid rfl⟩
    rw [hT.out] at hci
    cases T
    · have hx : ∀ k (h : k < xs.length), xs[k] < 1024 := fun k hk => by
        rcases Nat.lt_or_ge xs[k] 1024 with h1 | h1
        · exact h1
        · have := idx_some hk h1
          rw [hT.out] at this; cases this
      have e1 : upkE xs (m : Int) = 0 := upkE_ok hs' hx
      have e2 : upkW xs (m : Int) = upk xs m := by unfold upkW; rw [if_pos e1, Int.toNat_natCast]
      rw [e1, e2]
      have hlen : (upk xs m).length = m := upk_len xs m
      replace hcf := Lib.hid (hcf.out hx)
      generalize upk xs m = U at *
      replace hlen := Lib.hid hlen
      clear e1 e2 hs hs' hx
      go_enter Try.func70, Try.ntmps70
      go_wp2_with (first
        | (go_at_call 56; (with_reducible refine hc.out.mono ?_); rintro e w1 ⟨rfl, rfl⟩)
        | (go_at_call 92; (with_reducible refine hci.out.mono ?_); rintro e w1 ⟨rfl, rfl⟩)
        | (go_at_call 94; (with_reducible refine hcf.out.mono ?_); rintro e w1 ⟨rfl, hsb, hb⟩; replace hsb := Lib.hid hsb; replace hb := Lib.hid hb))
      go_ret2
      exact ⟨some ⟨w.heap.size, 0, none⟩, m, by rw [hlen.out]; rfl, by rw [hlen.out]; exact Nat.le_refl _, hsb.out, hb.out⟩
    · obtain ⟨x, hx, h2⟩ := List.any_eq_true.1 hT.out
      obtain ⟨k, hk, rfl⟩ := List.getElem_of_mem hx
      have e1 : upkE xs (m : Int) = 1 := upkE_big hs' hk (by simpa using h2)
      have e2 : upkW xs (m : Int) = [] := by unfold upkW; rw [e1]; rfl
      rw [e1, e2]
      clear e1 e2 hs hs' hx h2 hcf
      go_enter Try.func70, Try.ntmps70
      go_wp2_with (first
        | (go_at_call 56; (with_reducible refine hc.out.mono ?_); rintro e w1 ⟨rfl, rfl⟩)
        | (go_at_call 92; (with_reducible refine hci.out.mono ?_); rintro e w1 ⟨rfl, rfl⟩))
      go_ret2
      exact ⟨none, 0, rfl, Nat.le_refl _, Sb.nil _ _ _, Below.refl _ _⟩
end Go.Proofs.Ytmchelbmeajcnaa
