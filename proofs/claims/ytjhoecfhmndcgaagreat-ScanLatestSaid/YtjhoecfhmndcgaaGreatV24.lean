/- What the calls of chapter 5 answer: words. · The program's Symbols, Bytes, and whether something is no symbol. · The program's Unpack. · The program's Pack. -/
import Derived.Test.YtjhoecfhmndcgaaGreatV22
import Derived.Test.YtjhoecfhmndcgaaGreatV17
import Derived.Test.YtjhoecfhmndcgaaGreatV18
namespace Go.Proofs.YtjhoecfhmndcgaaGreat
open Go.RowKit Go.Gf

/-- an answer; old memory is as it was -/
def Ans (w : World) (v : Value) (e : Ending) (w' : World) : Prop := e = .returned v ∧ Below w.heap.size w w'
/-- a row of 16-bit numbers of one's own -/
def RowP (w : World) (ys : List Nat) (e : Ending) (w' : World) : Prop := ∃ v, e = .returned v ∧ OwnS w w' v ys ∧ Below w.heap.size w w'
section
variable {A : Option Addr} {c : Nat} {xs : List Nat} {n : Int} {w : World}
end
end Go.Proofs.YtjhoecfhmndcgaaGreat
namespace Go.Proofs.YtjhoecfhmndcgaaGreat
open Go.RowKit Go.Gf

set_option maxHeartbeats 1000000 in
theorem within_any (n : Int) (w : World) : Calls Tryz.prog 146 #[.int .i64 n] w fun e w' => e = .returned (.int .i64 ((clampN n : Nat) : Int)) ∧ w = w' := by
  have h : ((clampN n : Nat) : Int) = min (max n 0) 1099511627776 := by unfold clampN; omega
  rw [h]
  clear h
  go_enter Tryz.func146, Tryz.ntmps146
  go_wp2_with fail
  all_goals (go_ret; refine ⟨congrArg (fun z => Ending.returned (.int .i64 z)) ?_, rfl⟩; split at * <;> omega)
set_option maxHeartbeats 1000000 in
theorem paksymbols_any (n : Int) (w : World) : Calls Tryz.prog 149 #[.int .i64 n] w fun e w' => e = .returned (.int .i64 ((symN (clampN n) : Nat) : Int)) ∧ w = w' := by
  have hc := Lib.hid (within_any n w)
  have hm1 : clampN n ≤ 1099511627776 := by unfold clampN; omega
  generalize clampN n = m at *
  have hs : ((symN m : Nat) : Int) = (8 * (m : Int) + 10 - 1) / 10 := by unfold symN; omega
  rw [hs]
  clear hs
  go_enter Tryz.func149, Tryz.ntmps149
  go_wp2_with (go_at_call 146; (with_reducible refine hc.out.mono ?_); rintro e w1 ⟨rfl, rfl⟩)
  go_ret
  exact ⟨rfl, rfl⟩
set_option maxHeartbeats 1000000 in
theorem pakbytes_any (n : Int) (w : World) : Calls Tryz.prog 120 #[.int .i64 n] w fun e w' => e = .returned (.int .i64 ((bytN (clampN n) : Nat) : Int)) ∧ w = w' := by
  have hc := Lib.hid (within_any n w)
  have hm1 : clampN n ≤ 1099511627776 := by unfold clampN; omega
  generalize clampN n = m at *
  have hs : ((bytN m : Nat) : Int) = 10 * (m : Int) / 8 := by unfold bytN; omega
  rw [hs]
  clear hs
  go_enter Tryz.func120, Tryz.ntmps120
  go_wp2_with (go_at_call 146; (with_reducible refine hc.out.mono ?_); rintro e w1 ⟨rfl, rfl⟩)
  go_ret
  exact ⟨rfl, rfl⟩
theorem beyond_any (x : Nat) (w : World) : Calls Tryz.prog 121 #[.int .u16 (x : Int)] w fun e w' => e = .returned (.bool (decide (1024 ≤ x))) ∧ w = w' := by
  have h : decide ((1024 : Int) ≤ (x : Int)) = decide (1024 ≤ x) := by rw [decide_eq_decide]; omega
  go_enter Tryz.func121, Tryz.ntmps121
  go_wp2_with fail
  go_ret
  exact ⟨rfl, rfl⟩

/-- is there one from k on that is no symbol? -/
def idxI (xs : List Nat) : Bool := xs.any fun x => decide (1024 ≤ x)
theorem idx_none {xs : List Nat} (h : ∀ k (h : k < xs.length), xs[k] < 1024) : idxI xs = false := by
  rw [Bool.eq_false_iff]
  intro e
  obtain ⟨x, hx, h2⟩ := List.any_eq_true.1 e
  obtain ⟨k, hk, rfl⟩ := List.getElem_of_mem hx
  have := h k hk
  simp at h2; omega
theorem idx_some {xs : List Nat} {k : Nat} (hk : k < xs.length) (h : 1024 ≤ xs[k]) : idxI xs = true :=
  List.any_eq_true.2 ⟨xs[k], List.getElem_mem hk, by simpa using h⟩
set_option maxHeartbeats 2000000 in
theorem kindex_any (A : Option Addr) (c : Nat) (xs : List Nat) (w : World) (h : Sl w w.heap.size A xs) (hl : xs.length ≤ 1000000) :
    Calls Tryz.prog 132 #[.slice A xs.length c, .func (.func 121) #[] #[]] w fun e w' => (∃ k : Int, e = .returned (.int .i64 k) ∧ idxI xs = decide (0 ≤ k)) ∧ w = w' := by
  have H := Lib.hid h
  clear h
  have hno : Hid ((∀ k (h : k < xs.length), xs[k] < 1024) → idxI xs = false) := idx_none
  have hyes : Hid (∀ {k : Nat} (hk : k < xs.length), 1024 ≤ xs[k] → idxI xs = true) := idx_some
  generalize idxI xs = T at *
  go_enter Tryz.func132, Tryz.ntmps132
  go_wp2_with fail
  go_loop [8] (fun n => ∃ k : Nat, k ≤ xs.length ∧ Hid (∀ j (h : j < xs.length), j < k → xs[j] < 1024) ∧ n = .int .i64 k) (fun n => xs.length - (intOf n).toNat)
  case atStart => exact ⟨0, Nat.zero_le _, Lib.hid (fun j _ h => absurd h (by omega)), rfl⟩
  case round =>
    obtain ⟨k, hk, HK, rfl⟩ := hrel
    by_cases hlt : k < xs.length
    · obtain ⟨a, rfl, hab, hcell⟩ := H.out.at_ hlt
      have hx := H.out.1 xs[k] (List.getElem_mem hlt)
      have hc := beyond_any xs[k] w
      by_cases hb : 1024 ≤ xs[k]
      · obtain rfl := hyes.out hlt hb
        rw [decide_eq_true hb] at hc
        replace hc := Lib.hid hc
        clear hb
        go_wp2_with (go_at_call 121; (with_reducible refine hc.out.mono ?_); rintro e w1 ⟨rfl, rfl⟩)
        go_ret
        exact ⟨⟨_, rfl, by rw [eq_comm, decide_eq_true_eq]; omega⟩, rfl⟩
      · rw [decide_eq_false hb] at hc
        replace hc := Lib.hid hc
        have HK' : Hid (∀ j (h : j < xs.length), j < k + 1 → xs[j] < 1024) := fun j hj hjk => by
          rcases Nat.lt_or_ge j k with h1 | h1
          · exact HK.out j hj h1
          · obtain rfl : j = k := by omega
            omega
        clear hb HK
        go_wp2_with (go_at_call 121; (with_reducible refine hc.out.mono ?_); rintro e w1 ⟨rfl, rfl⟩)
        go_round
        case rel => exact ⟨k + 1, by omega, HK', by go_num⟩
        case measure => simp [intOf]; omega
    · obtain rfl : k = xs.length := by omega
      obtain rfl := hno.out (fun j hj => HK.out j hj hj)
      clear HK
      go_wp2_with fail
      go_ret
      exact ⟨⟨-1, rfl, by decide⟩, rfl⟩
set_option maxHeartbeats 1000000 in
theorem kcontains_any (A : Option Addr) (c : Nat) (xs : List Nat) (w : World) (h : Sl w w.heap.size A xs) (hl : xs.length ≤ 1000000) :
    Calls Tryz.prog 108 #[.slice A xs.length c, .func (.func 121) #[] #[]] w fun e w' => e = .returned (.bool (idxI xs)) ∧ w = w' := by
  have hc := Lib.hid (kindex_any A c xs w h hl)
  clear h
  generalize idxI xs = T at *
  go_enter Tryz.func108, Tryz.ntmps108
  go_wp2_with (go_at_call 132; (with_reducible refine hc.out.mono ?_); rintro e w1 ⟨⟨k, rfl, hk⟩, rfl⟩)
  go_ret
  exact ⟨by rw [hk]; rfl, rfl⟩
end Go.Proofs.YtjhoecfhmndcgaaGreat
namespace Go.Proofs.YtjhoecfhmndcgaaGreat
open Go.RowKit Go.Gf

theorem Below.grownS {B g : Nat} {w w1 w2 : World} (h : Below B w w1) (hg : w1.grownBy w2 (some g)) (hB : B ≤ g) (hs : B ≤ w1.heap.size) : Below B w w2 :=
  h.grown hg hs (fun k hk => by injection hk with hk; omega)
theorem OwnB.grownS {w wr w1 : World} {g n gs : Nat} {f : Nat → Nat} (h : OwnB w wr g n f) (hg : wr.grownBy w1 (some gs)) (hne : g ≠ gs) (hs : w.heap.size ≤ gs) : OwnB w w1 g n f :=
  ⟨h.1, Below.grownS h.2.1 hg hs h.2.1.size, (hg.block g h.2.2.lt (fun e => hne (by injection e))).trans h.2.2⟩
theorem Str.other {w : World} {g b h g2 i : Nat} (H : Str w g b h) (hne : g ≠ g2) (v : Value) : Str (w.setCell ⟨g2, i, none⟩ v) g b h := by
  unfold Str at *
  simp only [World.setCell]
  rw [Array.getElem?_modify, if_neg (fun e => hne e.symm)]
  exact H
/-- the bytes after i of them -/
def upTo (xs : List Nat) (i j : Nat) : Nat := if j < i then ofB 8 (fun t => bit10 xs (8 * j + t)) else 0
theorem upTo_set (xs : List Nat) (i : Nat) : (fun j => if j = i then ofB 8 (fun t => bit10 xs (8 * i + t)) else upTo xs i j) = upTo xs (i + 1) := by
  funext j
  unfold upTo
  by_cases e : j = i
  · rw [if_pos e, if_pos (by omega), e]
  · rw [if_neg e]
    by_cases h : j < i
    · rw [if_pos h, if_pos (by omega)]
    · rw [if_neg h, if_neg (by omega)]
/-- ten bits more -/
theorem ten_more {xs : List Nat} {k : Nat} (hk : k < xs.length) (hx : xs[k] < 1024) : ofB (10 * (k + 1)) (bit10 xs) = ofB (10 * k) (bit10 xs) * 2 ^ 10 + xs[k] := by
  rw [show 10 * (k + 1) = 10 * k + 10 by omega, ofB_add]
  congr 1
  rw [← ofB_of (n := 10) (v := xs[k]) hx]
  refine ofB_congr fun t ht => ?_
  unfold bit10
  rw [show (10 * k + t) / 10 = k by omega, show 9 - (10 * k + t) % 10 = 10 - 1 - t by omega, at_get hk]
/-- the eight bits that are taken -/
theorem eight_next {xs : List Nat} {i k h : Nat} (hk : 10 * k = 8 * i + h) (h8 : 8 ≤ h) : ofB (10 * k) (bit10 xs) / 2 ^ (h - 8) % 2 ^ 8 = ofB 8 (fun t => bit10 xs (8 * i + t)) := by
  rw [ofB_part _ _ _ _ h8 (by omega), show 10 * k - h = 8 * i by omega]

set_option maxHeartbeats 4000000 in
theorem first_any (A : Option Addr) (c : Nat) (xs : List Nat) (m : Nat) (w : World) (h : Sl w w.heap.size A xs) (hl : xs.length ≤ 1000000) (hx : ∀ k (h : k < xs.length), xs[k] < 1024) (hm : m ≤ 10 * xs.length / 8) :
    Calls Tryz.prog 122 #[.slice A xs.length c, .int .i64 (m : Int)] w fun e w' => e = .returned (.slice (some ⟨w.heap.size, 0, none⟩) m m) ∧ Sb w' w'.heap.size (some ⟨w.heap.size, 0, none⟩) (upk xs m) ∧ Below w.heap.size w w' := by
  have H := Lib.hid h
  have HX := Lib.hid hx
  clear h hx
  have hm6 : m ≤ 2000000 := by omega
  have hmk : ∀ w, (Instr.makeSlice 44 (.int .i64 (m : Int)) (.int .i64 (m : Int))).run Tryz.prog w = .ok (.slice (some ⟨w.heap.size, 0, none⟩) m m) (w.alloc (.cells (madeCells #[.int .u8 0] m) 5)) :=
    run_make_row' (P := Tryz.prog) 44 5 (.int .u8 0) 1 Tryz.underlying44 info5 rfl .i64 .i64 m (by omega) (by omega)
  go_enter Tryz.func122, Tryz.ntmps122
  go_wp2_with fail
  have hO : OwnB w ((w.alloc (.cells (madeCells #[.int .u8 0] m) 5)).alloc (.cells #[.int .u64 0, .int .u64 0] 214)) w.heap.size m (upTo xs 0) :=
    ⟨(ownB_start w m).1, (ownB_start w m).2.1.alloc (ownB_start w m).2.1.size _, (Below.heap_alloc _ _ _ (ownB_start w m).2.2.lt).trans ((ownB_start w m).congr (f' := upTo xs 0) fun j _ => by unfold upTo; rw [if_neg (by omega)]).2.2⟩
  have hS : Str ((w.alloc (.cells (madeCells #[.int .u8 0] m) 5)).alloc (.cells #[.int .u64 0, .int .u64 0] 214)) (w.heap.size + 1) (ofB (10 * 0) (bit10 xs) % 18446744073709551616) 0 := by
    have := heap_alloc_new (w.alloc (.cells (madeCells #[.int .u8 0] m) 5)) (.cells #[.int .u64 0, .int .u64 0] 214)
    rw [World.size_alloc] at this
    exact this
  generalize (w.alloc (.cells (madeCells #[.int .u8 0] m) 5)).alloc (.cells #[.int .u64 0, .int .u64 0] 214) = w0 at hO hS ⊢
  obtain ⟨gs, hgs⟩ : ∃ gs, Hid (w.heap.size + 1 = gs) := ⟨_, Lib.hid rfl⟩
  rw [hgs.out] at hS ⊢
  have hge : w.heap.size ≤ gs := by have := hgs.out; omega
  have hgne : w.heap.size ≠ gs := by have := hgs.out; omega
  go_loopw [7, 13] (fun p q wr => ∃ i k h : Nat, i ≤ m ∧ 10 * k = 8 * i + h ∧ h < 10 ∧ p = .int .i64 k ∧ q = .int .i64 i ∧ OwnB w wr w.heap.size m (upTo xs i) ∧ Str wr gs (ofB (10 * k) (bit10 xs) % 18446744073709551616) h) (fun _ q _ => m - (intOf q).toNat)
  case atStart => exact ⟨0, 0, 0, Nat.zero_le _, rfl, by decide, rfl, rfl, hO, hS⟩
  case round =>
    clear hO hS
    obtain ⟨i, k, h, hi, hk, hh, rfl, rfl, HO, HS⟩ := hrel
    replace HO := Lib.hid HO
    by_cases hlt : i < m
    · have hd : decide ((i : Int) < (m : Int)) = true := by rw [decide_eq_true_eq]; omega
      have hil : (i : Int) < (m : Int) := by omega
      have hh1 := HS.cell1
      by_cases h8 : h < 8
      · have hd2 : decide (h < 8) = true := decide_eq_true h8
        have hd3 : decide ((h : Int) < 8) = true := by rw [decide_eq_true_eq]; omega
        have hkl : k < xs.length := by omega
        have hkI : (k : Int) < (xs.length : Int) := by omega
        obtain ⟨a, hAe, hab, hcell⟩ := (H.out.far HO.out.2.1).at_ hkl
        subst hAe
        have hx := HX.out k hkl
        have htm := ten_more hkl hx
        have he := eight_next (xs := xs) (i := i) (k := k + 1) (h := h + 10) (by omega) (by omega)
        obtain ⟨X, hX⟩ : ∃ X, Hid (xs[k] = X) := ⟨_, Lib.hid rfl⟩
        rw [hX.out] at hcell hx htm
        have hc1 := put_any wr gs _ h X 10 HS (by omega) (by decide) (by omega) (N := 10) rfl rfl
        rw [← htm] at hc1
        obtain ⟨D, hD⟩ : ∃ D, Hid (ofB 8 (fun t => bit10 xs (8 * i + t)) = D) := ⟨_, Lib.hid rfl⟩
        have hDl : D < 256 := by rw [← hD.out]; exact ofB_lt 8 _
        rw [hD.out] at he
        obtain ⟨V, hV⟩ : ∃ V, Hid (ofB (10 * (k + 1)) (bit10 xs) = V) := ⟨_, Lib.hid rfl⟩
        rw [hV.out] at hc1 he
        replace hc1 := Lib.hid hc1
        replace he := Lib.hid he
        clear htm hX HS
        go_wp2_with (first
          | (go_at_call 147; (with_reducible refine hc1.out.mono ?_); rintro e w1 ⟨rfl, hs1, hg1⟩; have HO1 := Lib.hid (HO.out.grownS hg1 hgne hge); have hc2 := take_any w1 gs V (h + 10) 8 hs1 (by omega) (by decide) (by decide) (by omega) (N := 8) rfl; rw [he.out] at hc2; replace hc2 := Lib.hid hc2; clear hs1 hg1 hc1 HO)
          | (go_at_call 148; (with_reducible refine hc2.out.mono ?_); rintro e w2 ⟨rfl, hs2, hg2⟩; have HO2 := Lib.hid (HO1.out.grownS hg2 hgne hge); have hf2 := HO2.out.2.2.frozen i; have hcc := HO2.out.cell hlt; replace hs2 := Lib.hid hs2; clear hg2 hc2 HO1))
        have hn2 : Hid (OwnB w (w2.setCell ⟨w.heap.size, i, none⟩ (.int .u8 (D : Int))) w.heap.size m (upTo xs (i + 1))) := by
          have := HO2.out.set_ i D
          rw [← hD.out, upTo_set] at this
          rw [← hD.out]; exact this
        have hs3 := Lib.hid (hs2.out.other (g2 := w.heap.size) (i := i) (Ne.symm hgne) (.int .u8 (D : Int)))
        go_roundw
        case rel => exact ⟨i + 1, k + 1, h + 10 - 8, by omega, by omega, by omega, by go_num, by go_num, hn2.out, by rw [hV.out]; exact hs3.out⟩
        case measure => simp [intOf]; omega
      · have hd2 : decide (h < 8) = false := decide_eq_false h8
        have hd3 : decide ((h : Int) < 8) = false := by rw [decide_eq_false_iff_not]; omega
        have he := eight_next (xs := xs) (i := i) (k := k) (h := h) (by omega) (by omega)
        obtain ⟨D, hD⟩ : ∃ D, Hid (ofB 8 (fun t => bit10 xs (8 * i + t)) = D) := ⟨_, Lib.hid rfl⟩
        have hDl : D < 256 := by rw [← hD.out]; exact ofB_lt 8 _
        rw [hD.out] at he
        obtain ⟨V, hV⟩ : ∃ V, Hid (ofB (10 * k) (bit10 xs) = V) := ⟨_, Lib.hid rfl⟩
        rw [hV.out] at he HS
        have hc2 := take_any wr gs V h 8 HS (by omega) (by decide) (by decide) (by omega) (N := 8) rfl
        rw [he] at hc2
        replace hc2 := Lib.hid hc2
        clear he HS
        go_wp2_with (go_at_call 148; (with_reducible refine hc2.out.mono ?_); rintro e w2 ⟨rfl, hs2, hg2⟩; have HO2 := Lib.hid (HO.out.grownS hg2 hgne hge); have hf2 := HO2.out.2.2.frozen i; have hcc := HO2.out.cell hlt; replace hs2 := Lib.hid hs2; clear hg2 hc2 HO)
        have hn2 : Hid (OwnB w (w2.setCell ⟨w.heap.size, i, none⟩ (.int .u8 (D : Int))) w.heap.size m (upTo xs (i + 1))) := by
          have := HO2.out.set_ i D
          rw [← hD.out, upTo_set] at this
          rw [← hD.out]; exact this
        have hs3 := Lib.hid (hs2.out.other (g2 := w.heap.size) (i := i) (Ne.symm hgne) (.int .u8 (D : Int)))
        go_roundw
        case rel => exact ⟨i + 1, k, h - 8, by omega, by omega, by omega, by go_num, by go_num, hn2.out, by rw [hV.out]; exact hs3.out⟩
        case measure => simp [intOf]; omega
    · obtain rfl : i = m := by omega
      have hA := HO.out.2.2
      have e : rm i (upTo xs i) = upk xs i := by
        unfold upk
        exact rm_congr fun j hj => by unfold upTo; rw [if_pos hj]
      rw [e] at hA
      have hb := HO.out.2.1
      have hsb := Lib.hid (hA.sb (upk_bd xs i))
      replace hb := Lib.hid hb
      clear HO e hA HS
      go_wp2_with fail
      go_ret
      exact ⟨rfl, hsb.out, hb.out⟩
set_option maxHeartbeats 4000000 in
theorem pak_unpack {A : Option Addr} {c : Nat} {xs : List Nat} {n : Int} {w : World} (h : Sl w w.heap.size A xs) (hl : xs.length ≤ 1000000) : Calls Tryz.prog 89 #[.slice A xs.length c, .int .i64 n] w (RowB w (upkW xs n) (upkE xs n)) := by
  have H := Lib.hid h
  clear h
  have hcl : clampN (xs.length : Int) = xs.length := by unfold clampN; omega
  have hc := pakbytes_any (xs.length : Int) w
  rw [hcl] at hc
  obtain ⟨bl, hbl⟩ : ∃ bl, Hid (bytN xs.length = bl) := ⟨_, Lib.hid rfl⟩
  have hbl1 : bl ≤ 2000000 := by rw [← hbl.out]; unfold bytN; omega
  rw [hbl.out] at hc
  replace hc := Lib.hid hc
  by_cases hs : n < 0 ∨ (bl : Int) < n
  · have e1 : upkE xs n = 3 := upkE_size (by rw [hbl.out]; exact hs)
    have e2 : upkW xs n = [] := by unfold upkW; rw [e1]; rfl
    rw [e1, e2]
    clear e1 e2
    obtain ⟨b, hb⟩ : ∃ b, decide (n < 0) = b := ⟨_, rfl⟩
    cases b
    · have hn0 : ¬ n < 0 := by rw [decide_eq_false_iff_not] at hb; exact hb
      have hd1 : decide ((bl : Int) < n) = true := by rw [decide_eq_true_eq]; omega
      clear hs
      go_enter Tryz.func89, Tryz.ntmps89
      go_wp2_with (go_at_call 120; (with_reducible refine hc.out.mono ?_); rintro e w1 ⟨rfl, rfl⟩)
      go_ret2
      exact ⟨none, 0, rfl, Nat.le_refl _, Sb.nil _ _ _, Below.refl _ _⟩
    · clear hs
      go_enter Tryz.func89, Tryz.ntmps89
      go_wp2_with fail
      go_ret2
      exact ⟨none, 0, rfl, Nat.le_refl _, Sb.nil _ _ _, Below.refl _ _⟩
  · have hs' := hs
    rw [← hbl.out] at hs'
    obtain ⟨m, rfl⟩ : ∃ m : Nat, n = (m : Int) := ⟨n.toNat, by omega⟩
    have hml : m ≤ 10 * xs.length / 8 := by have := hbl.out; unfold bytN at this; omega
    have hd1 : decide ((bl : Int) < (m : Int)) = false := by rw [decide_eq_false_iff_not]; omega
    have hd2 : decide (bl < m) = false := by rw [decide_eq_false_iff_not]; omega
    have hci := Lib.hid (kcontains_any A c xs w H.out hl)
    have hcf := Lib.hid (fun hx => first_any A c xs m w H.out hl hx hml)
    obtain ⟨T, hT⟩ : ∃ T, Hid (idxI xs = T) := ⟨_, Lib.hid rfl⟩
    rw [hT.out] at hci
    cases T
    · have hx : ∀ k (h : k < xs.length), xs[k] < 1024 := fun k hk => by
        rcases Nat.lt_or_ge xs[k] 1024 with h1 | h1
        · exact h1
        · have := idx_some hk h1
          rw [hT.out] at this; cases this
      have e1 : upkE xs (m : Int) = 0 := upkE_ok hs' hx
      have e2 : upkW xs (m : Int) = upk xs m := by unfold upkW; rw [if_pos e1, Int.toNat_natCast]
      rw [e1, e2]
      have hlen : (upk xs m).length = m := upk_len xs m
      replace hcf := Lib.hid (hcf.out hx)
      generalize upk xs m = U at *
      replace hlen := Lib.hid hlen
      clear e1 e2 hs hs' hx
      go_enter Tryz.func89, Tryz.ntmps89
      go_wp2_with (first
        | (go_at_call 120; (with_reducible refine hc.out.mono ?_); rintro e w1 ⟨rfl, rfl⟩)
        | (go_at_call 108; (with_reducible refine hci.out.mono ?_); rintro e w1 ⟨rfl, rfl⟩)
        | (go_at_call 122; (with_reducible refine hcf.out.mono ?_); rintro e w1 ⟨rfl, hsb, hb⟩; replace hsb := Lib.hid hsb; replace hb := Lib.hid hb))
      go_ret2
      exact ⟨some ⟨w.heap.size, 0, none⟩, m, by rw [hlen.out]; rfl, by rw [hlen.out]; exact Nat.le_refl _, hsb.out, hb.out⟩
    · obtain ⟨x, hx, h2⟩ := List.any_eq_true.1 hT.out
      obtain ⟨k, hk, rfl⟩ := List.getElem_of_mem hx
      have e1 : upkE xs (m : Int) = 1 := upkE_big hs' hk (by simpa using h2)
      have e2 : upkW xs (m : Int) = [] := by unfold upkW; rw [e1]; rfl
      rw [e1, e2]
      clear e1 e2 hs hs' hx h2 hcf
      go_enter Tryz.func89, Tryz.ntmps89
      go_wp2_with (first
        | (go_at_call 120; (with_reducible refine hc.out.mono ?_); rintro e w1 ⟨rfl, rfl⟩)
        | (go_at_call 108; (with_reducible refine hci.out.mono ?_); rintro e w1 ⟨rfl, rfl⟩))
      go_ret2
      exact ⟨none, 0, rfl, Nat.le_refl _, Sb.nil _ _ _, Below.refl _ _⟩
end Go.Proofs.YtjhoecfhmndcgaaGreat
namespace Go.Proofs.YtjhoecfhmndcgaaGreat
open Go.RowKit Go.Gf

/-- eight bits more -/
theorem eight_more {xs : List Nat} {i : Nat} (hi : i < xs.length) (hx : xs[i] < 256) : ofB (8 * (i + 1)) (bit8 xs) = ofB (8 * i) (bit8 xs) * 2 ^ 8 + xs[i] := by
  rw [show 8 * (i + 1) = 8 * i + 8 by omega, ofB_add]
  congr 1
  rw [← ofB_of (n := 8) (v := xs[i]) hx]
  refine ofB_congr fun t ht => ?_
  unfold bit8
  rw [show (8 * i + t) / 8 = i by omega, show 7 - (8 * i + t) % 8 = 8 - 1 - t by omega, at_get hi]
/-- the ten bits that are taken -/
theorem ten_next {xs : List Nat} {T m h : Nat} (hT : T = 10 * m + h) (h10 : 10 ≤ h) : ofB T (bit8 xs) / 2 ^ (h - 10) % 2 ^ 10 = ofB 10 (fun t => bit8 xs (10 * m + t)) := by
  rw [ofB_part _ _ _ _ h10 (by omega), show T - h = 10 * m by omega]
/-- noughts behind the last byte -/
theorem noughts (xs : List Nat) (n : Nat) : ofB (8 * xs.length + n) (bit8 xs) = ofB (8 * xs.length) (bit8 xs) * 2 ^ n + 0 := by
  rw [ofB_add]
  congr 1
  have : ofB n (fun k => bit8 xs (8 * xs.length + k)) = ofB n (fun _ => false) := ofB_congr fun k _ => bit8_far (by omega)
  rw [this]
  induction n with
  | zero => rfl
  | succ n ih => unfold ofB; rw [ih (ofB_congr fun k _ => bit8_far (by omega))]; rfl
def pkSym (xs : List Nat) (j : Nat) : Nat := ofB 10 fun k => bit8 xs (10 * j + k)
/-- Pack's memory: the row so far, and the stream apart from it -/
def PkI (w : World) (gs : Nat) (p : Value) (ys : List Nat) (b h : Nat) (wr : World) : Prop := OwnS w wr p ys ∧ p.ownBlock ≠ some gs ∧ Below w.heap.size w wr ∧ w.heap.size ≤ gs ∧ Str wr gs b h
section
variable {w wr w1 : World} {gs b h : Nat} {p : Value} {ys : List Nat}
theorem PkI.stream (H : PkI w gs p ys b h wr) (hg : wr.grownBy w1 (some gs)) {b' h' : Nat} (hs : Str w1 gs b' h') : PkI w gs p ys b' h' w1 :=
  ⟨H.1.grown hg (Or.inr H.2.1), H.2.1, Below.grownS H.2.2.1 hg H.2.2.2.1 H.2.2.1.size, H.2.2.2.1, hs⟩
theorem PkI.alloc (H : PkI w gs p ys b h wr) (o : Obj) : PkI w gs p ys b h (wr.alloc o) :=
  ⟨H.1.alloc o, H.2.1, H.2.2.1.alloc H.2.2.1.size o, H.2.2.2.1, (Below.heap_alloc _ _ _ H.2.2.2.2.lt).trans H.2.2.2.2⟩
theorem PkI.app (H : PkI w gs p ys b h wr) {v' : Value} {zs : List Nat} (ho : OwnS w w1 v' zs) (hg : wr.grownBy w1 p.ownBlock) (hb : v'.ownBlock = p.ownBlock ∨ v'.ownBlock = some wr.heap.size) : PkI w gs v' zs b h w1 := by
  refine ⟨ho, ?_, H.2.2.1.grown hg H.2.2.1.size (OwnS.block H.1), H.2.2.2.1, (hg.block gs H.2.2.2.2.lt (fun e => H.2.1 e.symm)).trans H.2.2.2.2⟩
  rcases hb with e | e
  · rw [e]; exact H.2.1
  · rw [e]
    intro e2
    injection e2 with e2
    have := H.2.2.2.2.lt
    omega
end
set_option maxHeartbeats 4000000 in
theorem pak_pack {A : Option Addr} {c : Nat} {xs : List Nat} {w : World} (h : Sb w w.heap.size A xs) (hl : xs.length ≤ 1000000) : Calls Tryz.prog 125 #[.slice A xs.length c] w (RowP w (pk xs)) := by
  have H := Lib.hid h
  clear h
  have hcl : clampN (xs.length : Int) = xs.length := by unfold clampN; omega
  have hc := paksymbols_any (xs.length : Int) w
  obtain ⟨n, hn⟩ : ∃ n, Hid (symN xs.length = n) := ⟨_, Lib.hid rfl⟩
  have hn1 : n ≤ 1000000 := by rw [← hn.out]; unfold symN; omega
  rw [hcl, hn.out] at hc
  replace hc := Lib.hid hc
  have hmk := make_empty n hn1
  go_enter Tryz.func125, Tryz.ntmps125
  go_wp2_with (go_at_call 149; (with_reducible refine hc.out.mono ?_); rintro e w1 ⟨rfl, rfl⟩)
  have hI : PkI w (w.heap.size + 1) (.slice (some ⟨w.heap.size, 0, none⟩) 0 n) [] (ofB (8 * 0) (bit8 xs) % 18446744073709551616) 0 ((w.alloc (.cells (madeCells #[.int .u16 0] n) 46)).alloc (.cells #[.int .u64 0, .int .u64 0] 214)) := by
    refine ⟨(OwnS.emptyN n hn1 w).alloc _, ?_, ((Below.refl _ _).alloc (Nat.le_refl _) _).alloc (by rw [World.size_alloc]; omega) _, by omega, ?_⟩
    · intro e; simp [Value.ownBlock] at e
    · have := heap_alloc_new (w.alloc (.cells (madeCells #[.int .u16 0] n) 46)) (.cells #[.int .u64 0, .int .u64 0] 214)
      rw [World.size_alloc] at this
      exact this
  generalize (w.alloc (.cells (madeCells #[.int .u16 0] n) 46)).alloc (.cells #[.int .u64 0, .int .u64 0] 214) = w0 at hI ⊢
  generalize w.heap.size + 1 = gs at hI ⊢
  generalize Value.slice (some ⟨w.heap.size, 0, none⟩) 0 n = p0 at hI ⊢
  go_loopw [3, 13] (fun p q wr => ∃ i m h : Nat, i ≤ xs.length ∧ 8 * i = 10 * m + h ∧ h < 10 ∧ q = .int .i64 i ∧ PkI w gs p (rm m (pkSym xs)) (ofB (8 * i) (bit8 xs) % 18446744073709551616) h wr) (fun _ q _ => xs.length - (intOf q).toNat)
  case atStart => exact ⟨0, 0, 0, Nat.zero_le _, rfl, by decide, rfl, hI⟩
  case round =>
    clear hI
    obtain ⟨i, m, h, hi, hm, hh, rfl, HI⟩ := hrel
    replace HI := Lib.hid HI
    by_cases hlt : i < xs.length
    · have hd : decide ((i : Int) < (xs.length : Int)) = true := by rw [decide_eq_true_eq]; omega
      have hil : (i : Int) < (xs.length : Int) := by omega
      obtain ⟨a, hAe, hab, hcell⟩ := (H.out.far HI.out.2.2.1).at_ hlt
      subst hAe
      have hx := H.out.1 xs[i] (List.getElem_mem hlt)
      have htm := eight_more hlt hx
      obtain ⟨X, hX⟩ : ∃ X, Hid (xs[i] = X) := ⟨_, Lib.hid rfl⟩
      rw [hX.out] at hcell hx htm
      have hc1 := put_any wr gs _ h X 8 HI.out.2.2.2.2 (by omega) (by decide) (by omega) (N := 8) rfl rfl
      rw [← htm] at hc1
      have hm2 : 8 * (i + 1) = 10 * m + (h + 8) := by omega
      have hten := fun h10 => ten_next (xs := xs) (T := 8 * (i + 1)) (m := m) (h := h + 8) hm2 h10
      obtain ⟨D, hD⟩ : ∃ D, Hid (ofB 10 (fun t => bit8 xs (10 * m + t)) = D) := ⟨_, Lib.hid rfl⟩
      have hDl : D < 1024 := by rw [← hD.out]; exact ofB_lt 10 _
      rw [hD.out] at hten
      obtain ⟨V, hV⟩ : ∃ V, Hid (ofB (8 * (i + 1)) (bit8 xs) = V) := ⟨_, Lib.hid rfl⟩
      rw [hV.out] at hc1 hten
      replace hc1 := Lib.hid hc1
      replace hten := Lib.hid hten
      clear htm hX
      by_cases h2 : 2 ≤ h
      · have hd2 : decide (10 ≤ ((h + 8 : Nat) : Int)) = true := by rw [decide_eq_true_eq]; omega
        have hd3 : decide ((10 : Int) ≤ (h : Int) + 8) = true := by rw [decide_eq_true_eq]; omega
        have hd4 : decide (10 ≤ h + 8) = true := by rw [decide_eq_true_eq]; omega
        go_wp2_with (first
          | (go_at_call 147; (with_reducible refine hc1.out.mono ?_); rintro e w1 ⟨rfl, hs1, hg1⟩; have HI1 := Lib.hid (HI.out.stream hg1 hs1); have hh1 := hs1.cell1; have hc2 := take_any w1 gs V (h + 8) 10 hs1 (by omega) (by decide) (by decide) (by omega) (N := 10) rfl; rw [hten.out (by omega)] at hc2; replace hc2 := Lib.hid hc2; clear hs1 hg1 hc1 HI)
          | (go_at_call 148; (with_reducible refine hc2.out.mono ?_); rintro e w2 ⟨rfl, hs2, hg2⟩; have HI2 := Lib.hid ((HI1.out.stream hg2 hs2).alloc (.cells #[.int .u16 (D : Int)] 46)); have hq := Lib.hid (sl_new w2 (.cells #[.int .u16 (D : Int)] 46) [D] w2.heap.size rfl rfl (by simp; omega)); clear hg2 hs2 hc2 HI1)
          | (refine app_own (w0 := w) rfl (.tmp 23) (.tmp 26) rfl u3 (rm m (pkSym xs)) rfl HI2.out.1 HI2.out.2.2.1.size ⟨w2.heap.size, 0, none⟩ 1 [D] rfl hq.out (by rw [rm_len]; simp; omega) ?_; intro v' w3 ho3 hg3 hb3; have HI3 := Lib.hid (HI2.out.app ho3 hg3 hb3); clear ho3 hg3 hb3 HI2 hq))
        go_roundw
        case rel =>
          refine ⟨i + 1, m + 1, h + 8 - 10, by omega, by omega, by omega, by go_num, ?_⟩
          rw [rm_succ, hV.out]
          have := HI3.out
          rw [← hD.out] at this
          exact this
        case measure => simp [intOf]; omega
      · have hd2 : decide (10 ≤ ((h + 8 : Nat) : Int)) = false := by rw [decide_eq_false_iff_not]; omega
        have hd3 : decide ((10 : Int) ≤ (h : Int) + 8) = false := by rw [decide_eq_false_iff_not]; omega
        have hd4 : decide (10 ≤ h + 8) = false := by rw [decide_eq_false_iff_not]; omega
        go_wp2_with (go_at_call 147; (with_reducible refine hc1.out.mono ?_); rintro e w1 ⟨rfl, hs1, hg1⟩; have HI1 := Lib.hid (HI.out.stream hg1 hs1); have hh1 := hs1.cell1; clear hs1 hg1 hc1 HI)
        go_roundw
        case rel =>
          refine ⟨i + 1, m, h + 8, by omega, by omega, by omega, by go_num, ?_⟩
          rw [hV.out]; exact HI1.out
        case measure => simp [intOf]; omega
    · obtain rfl : i = xs.length := by omega
      have hd : decide (((xs.length : Nat) : Int) < (xs.length : Int)) = false := by rw [decide_eq_false_iff_not]; omega
      have hh1 := HI.out.2.2.2.2.cell1
      by_cases h0 : h = 0
      · subst h0
        have hmn : m = symN xs.length := by unfold symN; omega
        have e : rm m (pkSym xs) = pk xs := by rw [hmn]; rfl
        have HO := HI.out.1
        rw [e] at HO
        have hb := Lib.hid HI.out.2.2.1
        replace HO := Lib.hid HO
        clear HI e hmn
        go_wp2_with fail
        go_ret
        exact ⟨_, rfl, HO.out, hb.out⟩
      · have hd2 : decide ((0 : Int) < (h : Int)) = true := by rw [decide_eq_true_eq]; omega
        have hd3 : decide (0 < h) = true := by rw [decide_eq_true_eq]; omega
        have hmn : symN xs.length = m + 1 := by unfold symN; omega
        obtain ⟨r, hr⟩ : ∃ r, r = 10 - h := ⟨_, rfl⟩
        have hrI : (10 : Int) - (h : Int) = (r : Int) := by omega
        have hrw : IntKind.u64.wrap ((10 : Int) - (h : Int)) = (r : Int) := by
          show ((10 : Int) - (h : Int)) % 18446744073709551616 = _
          omega
        have hc1 := put_any wr gs _ h 0 r HI.out.2.2.2.2 (Nat.two_pow_pos r) (by omega) (by omega) (N := (r : Int)) (Y := 0) rfl rfl
        rw [← noughts, show h + r = 10 by omega] at hc1
        have hten := ten_next (xs := xs) (T := 8 * xs.length + r) (m := m) (h := 10) (by omega) (by decide)
        obtain ⟨D, hD⟩ : ∃ D, Hid (ofB 10 (fun t => bit8 xs (10 * m + t)) = D) := ⟨_, Lib.hid rfl⟩
        have hDl : D < 1024 := by rw [← hD.out]; exact ofB_lt 10 _
        rw [hD.out] at hten
        obtain ⟨V, hV⟩ : ∃ V, Hid (ofB (8 * xs.length + r) (bit8 xs) = V) := ⟨_, Lib.hid rfl⟩
        rw [hV.out] at hc1 hten
        replace hc1 := Lib.hid hc1
        replace hten := Lib.hid hten
        clear hr
        go_wp2_with (first
          | (go_at_call 147; (with_reducible refine hc1.out.mono ?_); rintro e w1 ⟨rfl, hs1, hg1⟩; have HI1 := Lib.hid (HI.out.stream hg1 hs1); have hc2 := take_any w1 gs V 10 10 hs1 (by decide) (by decide) (by decide) (by decide) (N := 10) rfl; rw [hten.out] at hc2; replace hc2 := Lib.hid hc2; clear hs1 hg1 hc1 HI)
          | (go_at_call 148; (with_reducible refine hc2.out.mono ?_); rintro e w2 ⟨rfl, hs2, hg2⟩; have HI2 := Lib.hid ((HI1.out.stream hg2 hs2).alloc (.cells #[.int .u16 (D : Int)] 46)); have hq := Lib.hid (sl_new w2 (.cells #[.int .u16 (D : Int)] 46) [D] w2.heap.size rfl rfl (by simp; omega)); clear hg2 hs2 hc2 HI1)
          | (refine app_own (w0 := w) rfl (.tmp 36) (.tmp 39) rfl u3 (rm m (pkSym xs)) rfl HI2.out.1 HI2.out.2.2.1.size ⟨w2.heap.size, 0, none⟩ 1 [D] rfl hq.out (by rw [rm_len]; simp; omega) ?_; intro v' w3 ho3 hg3 hb3; have HI3 := Lib.hid (HI2.out.app ho3 hg3 hb3); clear ho3 hg3 hb3 HI2 hq))
        go_ret
        refine ⟨_, rfl, ?_, HI3.out.2.2.1⟩
        have := HI3.out.1
        rw [← hD.out] at this
        have e : pk xs = rm m (pkSym xs) ++ [pkSym xs m] := by
          rw [← rm_succ, ← hmn]; rfl
        rw [e]
        exact this
end Go.Proofs.YtjhoecfhmndcgaaGreat
