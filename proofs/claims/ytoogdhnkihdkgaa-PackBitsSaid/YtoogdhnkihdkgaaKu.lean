/- The program's Unpack. -/
import Derived.Test.YtoogdhnkihdkgaaKt
namespace Go.Proofs.Ytoogdhnkihdkgaa
open Go.RowKit Go.Gf

def mW : Nat := 18446744073709551616
theorem Below.grownS {B g : Nat} {w w1 w2 : World} (h : Below B w w1) (hg : w1.grownBy w2 (some g)) (hB : B ≤ g) (hs : B ≤ w1.heap.size) : Below B w w2 :=
  h.grown hg hs (fun k hk => by injection hk with hk; omega)
theorem OwnB.grownS {w wr w1 : World} {g n gs : Nat} {f : Nat → Nat} (h : OwnB w wr g n f) (hg : wr.grownBy w1 (some gs)) (hne : g ≠ gs) (hs : w.heap.size ≤ gs) : OwnB w w1 g n f :=
  ⟨h.1, Below.grownS h.2.1 hg hs h.2.1.size, (hg.block g h.2.2.lt (fun e => hne (by injection e))).trans h.2.2⟩
theorem Str.other {w : World} {g b h g2 i : Nat} (H : Str w g b h) (hne : g ≠ g2) (v : Value) : Str (w.setCell ⟨g2, i, none⟩ v) g b h := by
  unfold Str at *
  simp only [World.setCell]
  rw [Array.getElem?_modify, if_neg (fun e => hne e.symm)]
  exact H
/-- the bytes after i of them -/
def upTo (xs : List Nat) (i j : Nat) : Nat := if j < i then ofB 8 (fun t => bit10 xs (8 * j + t)) else 0
theorem upTo_set (xs : List Nat) (i : Nat) : (fun j => if j = i then ofB 8 (fun t => bit10 xs (8 * i + t)) else upTo xs i j) = upTo xs (i + 1) := by
  funext j
  unfold upTo
  by_cases e : j = i
  · rw [if_pos e, if_pos (by omega), e]
  · rw [if_neg e]
    by_cases h : j < i
    · rw [if_pos h, if_pos (by omega)]
    · rw [if_neg h, if_neg (by omega)]
/-- ten bits more -/
theorem ten_more {xs : List Nat} {k : Nat} (hk : k < xs.length) (hx : xs[k] < 1024) : ofB (10 * (k + 1)) (bit10 xs) = ofB (10 * k) (bit10 xs) * 2 ^ 10 + xs[k] := by
  rw [show 10 * (k + 1) = 10 * k + 10 by omega, ofB_add]
  congr 1
  rw [← ofB_of (n := 10) (v := xs[k]) hx]
  refine ofB_congr fun t ht => ?_
  unfold bit10
  rw [show (10 * k + t) / 10 = k by omega, show 9 - (10 * k + t) % 10 = 10 - 1 - t by omega, at_get hk]
/-- the eight bits that are taken -/
theorem eight_next {xs : List Nat} {i k h : Nat} (hk : 10 * k = 8 * i + h) (h8 : 8 ≤ h) : ofB (10 * k) (bit10 xs) / 2 ^ (h - 8) % 2 ^ 8 = ofB 8 (fun t => bit10 xs (8 * i + t)) := by
  rw [ofB_part _ _ _ _ h8 (by omega), show 10 * k - h = 8 * i by omega]

set_option maxHeartbeats 4000000 in
theorem first_any (A : Option Addr) (c : Nat) (xs : List Nat) (m : Nat) (w : World) (h : Sl w w.heap.size A xs) (hl : xs.length ≤ 1000000) (hx : ∀ k (h : k < xs.length), xs[k] < 1024) (hm : m ≤ 10 * xs.length / 8) :
    Calls Try.prog 22 #[.slice A xs.length c, .int .i64 (m : Int)] w fun e w' => e = .returned (.slice (some ⟨w.heap.size, 0, none⟩) m m) ∧ Sb w' w'.heap.size (some ⟨w.heap.size, 0, none⟩) (upk xs m) ∧ Below w.heap.size w w' := by
  have H := Lib.hid h
  have HX := Lib.hid hx
  clear h hx
  have hm6 : m ≤ 2000000 := by omega
  have hmk : ∀ w, (Instr.makeSlice 22 (.int .i64 (m : Int)) (.int .i64 (m : Int))).run Try.prog w = .ok (.slice (some ⟨w.heap.size, 0, none⟩) m m) (w.alloc (.cells (madeCells #[.int .u8 0] m) 5)) :=
    run_make_row' (P := Try.prog) 22 5 (.int .u8 0) 1 Try.underlying22 info5 rfl .i64 .i64 m (by omega) (by omega)
  go_enter Try.func22, Try.ntmps22
  go_wp2_with fail
  have hO : OwnB w ((w.alloc (.cells (madeCells #[.int .u8 0] m) 5)).alloc (.cells #[.int .u64 0, .int .u64 0] 40)) w.heap.size m (upTo xs 0) :=
    ⟨(ownB_start w m).1, (ownB_start w m).2.1.alloc (ownB_start w m).2.1.size _, (Below.heap_alloc _ _ _ (ownB_start w m).2.2.lt).trans ((ownB_start w m).congr (f' := upTo xs 0) fun j _ => by unfold upTo; rw [if_neg (by omega)]).2.2⟩
  have hS : Str ((w.alloc (.cells (madeCells #[.int .u8 0] m) 5)).alloc (.cells #[.int .u64 0, .int .u64 0] 40)) (w.heap.size + 1) (ofB (10 * 0) (bit10 xs) % 18446744073709551616) 0 := by
    have := heap_alloc_new (w.alloc (.cells (madeCells #[.int .u8 0] m) 5)) (.cells #[.int .u64 0, .int .u64 0] 40)
    rw [World.size_alloc] at this
    exact this
  generalize (w.alloc (.cells (madeCells #[.int .u8 0] m) 5)).alloc (.cells #[.int .u64 0, .int .u64 0] 40) = w0 at hO hS ⊢
  obtain ⟨gs, hgs⟩ : ∃ gs, Hid (w.heap.size + 1 = gs) := ⟨_, Lib.hid rfl⟩
  rw [hgs.out] at hS ⊢
  have hge : w.heap.size ≤ gs := by have := hgs.out; omega
  have hgne : w.heap.size ≠ gs := by have := hgs.out; omega
  go_loopw [7, 13] (fun p q wr => ∃ i k h : Nat, i ≤ m ∧ 10 * k = 8 * i + h ∧ h < 10 ∧ p = .int .i64 k ∧ q = .int .i64 i ∧ OwnB w wr w.heap.size m (upTo xs i) ∧ Str wr gs (ofB (10 * k) (bit10 xs) % 18446744073709551616) h) (fun _ q _ => m - (intOf q).toNat)
  case atStart => exact ⟨0, 0, 0, Nat.zero_le _, rfl, by decide, rfl, rfl, hO, hS⟩
  case round =>
    clear hO hS
    obtain ⟨i, k, h, hi, hk, hh, rfl, rfl, HO, HS⟩ := hrel
    replace HO := Lib.hid HO
    by_cases hlt : i < m
    · have hd : decide ((i : Int) < (m : Int)) = true := by rw [decide_eq_true_eq]; omega
      have hil : (i : Int) < (m : Int) := by omega
      have hh1 := HS.cell1
      by_cases h8 : h < 8
      · have hd2 : decide (h < 8) = true := decide_eq_true h8
        have hd3 : decide ((h : Int) < 8) = true := by rw [decide_eq_true_eq]; omega
        have hkl : k < xs.length := by omega
        have hkI : (k : Int) < (xs.length : Int) := by omega
        obtain ⟨a, hAe, hab, hcell⟩ := (H.out.far HO.out.2.1).at_ hkl
        subst hAe
        have hx := HX.out k hkl
        have htm := ten_more hkl hx
        have he := eight_next (xs := xs) (i := i) (k := k + 1) (h := h + 10) (by omega) (by omega)
        obtain ⟨X, hX⟩ : ∃ X, Hid (xs[k] = X) := ⟨_, Lib.hid rfl⟩
        rw [hX.out] at hcell hx htm
        have hc1 := put_any wr gs _ h X 10 HS (by omega) (by decide) (by omega) (N := 10) rfl rfl
        rw [← htm] at hc1
        obtain ⟨D, hD⟩ : ∃ D, Hid (ofB 8 (fun t => bit10 xs (8 * i + t)) = D) := ⟨_, Lib.hid rfl⟩
        have hDl : D < 256 := by rw [← hD.out]; exact ofB_lt 8 _
        rw [hD.out] at he
        obtain ⟨V, hV⟩ : ∃ V, Hid (ofB (10 * (k + 1)) (bit10 xs) = V) := ⟨_, Lib.hid rfl⟩
        rw [hV.out] at hc1 he
        replace hc1 := Lib.hid hc1
        replace he := Lib.hid he
        clear htm hX HS
        go_wp2_with (first
          | (go_at_call 18; (with_reducible refine hc1.out.mono ?_); rintro e w1 ⟨rfl, hs1, hg1⟩; have HO1 := Lib.hid (HO.out.grownS hg1 hgne hge); have hc2 := take_any w1 gs V (h + 10) 8 hs1 (by omega) (by decide) (by decide) (by omega) (N := 8) rfl; rw [he.out] at hc2; replace hc2 := Lib.hid hc2; clear hs1 hg1 hc1 HO)
          | (go_at_call 19; (with_reducible refine hc2.out.mono ?_); rintro e w2 ⟨rfl, hs2, hg2⟩; have HO2 := Lib.hid (HO1.out.grownS hg2 hgne hge); have hf2 := HO2.out.2.2.frozen i; have hcc := HO2.out.cell hlt; replace hs2 := Lib.hid hs2; clear hg2 hc2 HO1))
        have hn2 : Hid (OwnB w (w2.setCell ⟨w.heap.size, i, none⟩ (.int .u8 (D : Int))) w.heap.size m (upTo xs (i + 1))) := by
          have := HO2.out.set_ i D
          rw [← hD.out, upTo_set] at this
          rw [← hD.out]; exact this
        have hs3 := Lib.hid (hs2.out.other (g2 := w.heap.size) (i := i) (Ne.symm hgne) (.int .u8 (D : Int)))
        go_roundw
        case rel => exact ⟨i + 1, k + 1, h + 10 - 8, by omega, by omega, by omega, by go_num, by go_num, hn2.out, by rw [hV.out]; exact hs3.out⟩
        case measure => simp [intOf]; omega
      · have hd2 : decide (h < 8) = false := decide_eq_false h8
        have hd3 : decide ((h : Int) < 8) = false := by rw [decide_eq_false_iff_not]; omega
        have he := eight_next (xs := xs) (i := i) (k := k) (h := h) (by omega) (by omega)
        obtain ⟨D, hD⟩ : ∃ D, Hid (ofB 8 (fun t => bit10 xs (8 * i + t)) = D) := ⟨_, Lib.hid rfl⟩
        have hDl : D < 256 := by rw [← hD.out]; exact ofB_lt 8 _
        rw [hD.out] at he
        obtain ⟨V, hV⟩ : ∃ V, Hid (ofB (10 * k) (bit10 xs) = V) := ⟨_, Lib.hid rfl⟩
        rw [hV.out] at he HS
        have hc2 := take_any wr gs V h 8 HS (by omega) (by decide) (by decide) (by omega) (N := 8) rfl
        rw [he] at hc2
        replace hc2 := Lib.hid hc2
        clear he HS
        go_wp2_with (go_at_call 19; (with_reducible refine hc2.out.mono ?_); rintro e w2 ⟨rfl, hs2, hg2⟩; have HO2 := Lib.hid (HO.out.grownS hg2 hgne hge); have hf2 := HO2.out.2.2.frozen i; have hcc := HO2.out.cell hlt; replace hs2 := Lib.hid hs2; clear hg2 hc2 HO)
        have hn2 : Hid (OwnB w (w2.setCell ⟨w.heap.size, i, none⟩ (.int .u8 (D : Int))) w.heap.size m (upTo xs (i + 1))) := by
          have := HO2.out.set_ i D
          rw [← hD.out, upTo_set] at this
          rw [← hD.out]; exact this
        have hs3 := Lib.hid (hs2.out.other (g2 := w.heap.size) (i := i) (Ne.symm hgne) (.int .u8 (D : Int)))
        go_roundw
        case rel => exact ⟨i + 1, k, h - 8, by omega, by omega, by omega, by go_num, by go_num, hn2.out, by rw [hV.out]; exact hs3.out⟩
        case measure => simp [intOf]; omega
    · obtain rfl : i = m := by omega
      have hA := HO.out.2.2
      have e : rm i (upTo xs i) = upk xs i := by
        unfold upk
        exact rm_congr fun j hj => by unfold upTo; rw [if_pos hj]
      rw [e] at hA
      have hb := HO.out.2.1
      have hsb := Lib.hid (hA.sb (upk_bd xs i))
      replace hb := Lib.hid hb
      clear HO e hA HS
      go_wp2_with fail
      go_ret
      exact ⟨rfl, hsb.out, hb.out⟩
set_option maxHeartbeats 4000000 in
theorem pak_unpack {A : Option Addr} {c : Nat} {xs : List Nat} {n : Int} {w : World} (h : Sl w w.heap.size A xs) (hl : xs.length ≤ 1000000) : Calls Try.prog 10 #[.slice A xs.length c, .int .i64 n] w (RowB w (upkW xs n) (upkE xs n)) := by
  have H := Lib.hid h
  clear h
  have hcl : clampN (xs.length : Int) = xs.length := by unfold clampN; omega
  have hc := pakbytes_any (xs.length : Int) w
  rw [hcl] at hc
  obtain ⟨bl, hbl⟩ : ∃ bl, Hid (bytN xs.length = bl) := ⟨_, Lib.hid rfl⟩
  have hbl1 : bl ≤ 2000000 := by rw [← hbl.out]; unfold bytN; omega
  rw [hbl.out] at hc
  replace hc := Lib.hid hc
  by_cases hs : n < 0 ∨ (bl : Int) < n
  · have e1 : upkE xs n = 3 := upkE_size (by rw [hbl.out]; exact hs)
    have e2 : upkW xs n = [] := by unfold upkW; rw [e1]; rfl
    rw [e1, e2]
    clear e1 e2
    obtain ⟨b, hb⟩ : ∃ b, decide (n < 0) = b := ⟨_, rfl⟩
    cases b
    · have hn0 : ¬ n < 0 := by rw [decide_eq_false_iff_not] at hb; exact hb
      have hd1 : decide ((bl : Int) < n) = true := by rw [decide_eq_true_eq]; omega
      clear hs
      go_enter Try.func10, Try.ntmps10
      go_wp2_with (go_at_call 16; (with_reducible refine hc.out.mono ?_); rintro e w1 ⟨rfl, rfl⟩)
      go_ret2
      exact ⟨none, 0, rfl, Nat.le_refl _, Sb.nil _ _ _, Below.refl _ _⟩
    · clear hs
      go_enter Try.func10, Try.ntmps10
      go_wp2_with fail
      go_ret2
      exact ⟨none, 0, rfl, Nat.le_refl _, Sb.nil _ _ _, Below.refl _ _⟩
  · have hs' := hs
    rw [← hbl.out] at hs'
    obtain ⟨m, rfl⟩ : ∃ m : Nat, n = (m : Int) := ⟨n.toNat, by omega⟩
    have hml : m ≤ 10 * xs.length / 8 := by have := hbl.out; unfold bytN at this; omega
    have hd1 : decide ((bl : Int) < (m : Int)) = false := by rw [decide_eq_false_iff_not]; omega
    have hd2 : decide (bl < m) = false := by rw [decide_eq_false_iff_not]; omega
    have hci := Lib.hid (contains_any A c xs w H.out hl)
    have hcf := Lib.hid (fun hx => first_any A c xs m w H.out hl hx hml)
    obtain ⟨T, hT⟩ : ∃ T, Hid (idxI xs = T) := ⟨_, Lib.hid rfl⟩
    rw [hT.out] at hci
    cases T
    · have hx : ∀ k (h : k < xs.length), xs[k] < 1024 := fun k hk => by
        rcases Nat.lt_or_ge xs[k] 1024 with h1 | h1
        · exact h1
        · have := idx_some hk h1
          rw [hT.out] at this; cases this
      have e1 : upkE xs (m : Int) = 0 := upkE_ok hs' hx
      have e2 : upkW xs (m : Int) = upk xs m := by unfold upkW; rw [if_pos e1, Int.toNat_natCast]
      rw [e1, e2]
      have hlen : (upk xs m).length = m := upk_len xs m
      replace hcf := Lib.hid (hcf.out hx)
      generalize upk xs m = U at *
      replace hlen := Lib.hid hlen
      clear e1 e2 hs hs' hx
      go_enter Try.func10, Try.ntmps10
      go_wp2_with (first
        | (go_at_call 16; (with_reducible refine hc.out.mono ?_); rintro e w1 ⟨rfl, rfl⟩)
        | (go_at_call 20; (with_reducible refine hci.out.mono ?_); rintro e w1 ⟨rfl, rfl⟩)
        | (go_at_call 22; (with_reducible refine hcf.out.mono ?_); rintro e w1 ⟨rfl, hsb, hb⟩; replace hsb := Lib.hid hsb; replace hb := Lib.hid hb))
      go_ret2
      exact ⟨some ⟨w.heap.size, 0, none⟩, m, by rw [hlen.out]; rfl, by rw [hlen.out]; exact Nat.le_refl _, hsb.out, hb.out⟩
    · obtain ⟨x, hx, h2⟩ := List.any_eq_true.1 hT.out
      obtain ⟨k, hk, rfl⟩ := List.getElem_of_mem hx
      have e1 : upkE xs (m : Int) = 1 := upkE_big hs' hk (by simpa using h2)
      have e2 : upkW xs (m : Int) = [] := by unfold upkW; rw [e1]; rfl
      rw [e1, e2]
      clear e1 e2 hs hs' hx h2 hcf
      go_enter Try.func10, Try.ntmps10
      go_wp2_with (first
        | (go_at_call 16; (with_reducible refine hc.out.mono ?_); rintro e w1 ⟨rfl, rfl⟩)
        | (go_at_call 20; (with_reducible refine hci.out.mono ?_); rintro e w1 ⟨rfl, rfl⟩))
      go_ret2
      exact ⟨none, 0, rfl, Nat.le_refl _, Sb.nil _ _ _, Below.refl _ _⟩
end Go.Proofs.Ytoogdhnkihdkgaa
