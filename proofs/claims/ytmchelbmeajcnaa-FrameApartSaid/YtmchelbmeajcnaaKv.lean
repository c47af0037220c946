/- The program's Pack. -/
import Derived.Test.YtmchelbmeajcnaaKu
import Derived.Test.YtmchelbmeajcnaaAg
namespace Go.Proofs.Ytmchelbmeajcnaa
open Go.RowKit Go.Gf

/-- eight bits more -/
theorem eight_more {xs : List Nat} {i : Nat} (hi : i < xs.length) (hx : xs[i] < 256) : ofB (8 * (i + 1)) (bit8 xs) = ofB (8 * i) (bit8 xs) * 2 ^ 8 + xs[i] := by
  rw [show 8 * (i + 1) = 8 * i + 8 by omega, ofB_add]
  congr 1
  rw [← ofB_of (n := 8) (v := xs[i]) hx]
  refine ofB_congr fun t ht => ?_
  unfold bit8
  rw [show (8 * i + t) / 8 = i by omega, show 7 - (8 * i + t) % 8 = 8 - 1 - t by omega, at_get hi]
/-- the ten bits that are taken -/
theorem ten_next {xs : List Nat} {T m h : Nat} (hT : T = 10 * m + h) (h10 : 10 ≤ h) : ofB T (bit8 xs) / 2 ^ (h - 10) % 2 ^ 10 = ofB 10 (fun t => bit8 xs (10 * m + t)) := by
  rw [ofB_part _ _ _ _ h10 (by omega), show T - h = 10 * m by omega]
/-- noughts behind the last byte -/
theorem noughts (xs : List Nat) (n : Nat) : ofB (8 * xs.length + n) (bit8 xs) = ofB (8 * xs.length) (bit8 xs) * 2 ^ n + 0 := by
  rw [ofB_add]
  congr 1
  have : ofB n (fun k => bit8 xs (8 * xs.length + k)) = ofB n (fun _ => false) := ofB_congr fun k _ => bit8_far (by omega)
  rw [this]
  induction n with
  | zero => rfl
  | succ n ih => unfold ofB; rw [ih (ofB_congr fun k _ => bit8_far (by omega))]; rfl
def pkSym (xs : List Nat) (j : Nat) : Nat := ofB 10 fun k => bit8 xs (10 * j + k)
theorem pkSym_lt (xs : List Nat) (j : Nat) : pkSym xs j < 1024 := ofB_lt 10 _

/-- Pack's memory: the row so far, and the stream apart from it -/
def PkI (w : World) (gs : Nat) (p : Value) (ys : List Nat) (b h : Nat) (wr : World) : Prop := OwnS w wr p ys ∧ p.ownBlock ≠ some gs ∧ Below w.heap.size w wr ∧ w.heap.size ≤ gs ∧ Str wr gs b h
section
variable {w wr w1 : World} {gs b h : Nat} {p : Value} {ys : List Nat}
theorem PkI.stream (H : PkI w gs p ys b h wr) (hg : wr.grownBy w1 (some gs)) {b' h' : Nat} (hs : Str w1 gs b' h') : PkI w gs p ys b' h' w1 :=
  ⟨H.1.grown hg (Or.inr H.2.1), H.2.1, Below.grownS H.2.2.1 hg H.2.2.2.1 H.2.2.1.size, H.2.2.2.1, hs⟩
theorem PkI.alloc (H : PkI w gs p ys b h wr) (o : Obj) : PkI w gs p ys b h (wr.alloc o) :=
  ⟨H.1.alloc o, H.2.1, H.2.2.1.alloc H.2.2.1.size o, H.2.2.2.1, (Below.heap_alloc _ _ _ H.2.2.2.2.lt).trans H.2.2.2.2⟩
theorem PkI.app (H : PkI w gs p ys b h wr) {v' : Value} {zs : List Nat} (ho : OwnS w w1 v' zs) (hg : wr.grownBy w1 p.ownBlock) (hb : v'.ownBlock = p.ownBlock ∨ v'.ownBlock = some wr.heap.size) : PkI w gs v' zs b h w1 := by
  refine ⟨ho, ?_, H.2.2.1.grown hg H.2.2.1.size (OwnS.block H.1), H.2.2.2.1, (hg.block gs H.2.2.2.2.lt (fun e => H.2.1 e.symm)).trans H.2.2.2.2⟩
  rcases hb with e | e
  · rw [e]; exact H.2.1
  · rw [e]
    intro e2
    injection e2 with e2
    have := H.2.2.2.2.lt
    omega
end
set_option maxHeartbeats 4000000 in
theorem pak_pack {A : Option Addr} {c : Nat} {xs : List Nat} {w : World} (h : Sb w w.heap.size A xs) (hl : xs.length ≤ 1000000) : Calls Try.prog 61 #[.slice A xs.length c] w (RowP w (pk xs)) := by
  have H := Lib.hid h
  clear h
  have hcl : clampN (xs.length : Int) = xs.length := by unfold clampN; omega
  have hc := paksymbols_any (xs.length : Int) w
  obtain ⟨n, hn⟩ : ∃ n, Hid (symN xs.length = n) := ⟨_, Lib.hid rfl⟩
  have hn1 : n ≤ 1000000 := by rw [← hn.out]; unfold symN; omega
  rw [hcl, hn.out] at hc
  replace hc := Lib.hid hc
  have hmk := make_empty n hn1
  go_enter Try.func61, Try.ntmps61
  go_wp2_with (go_at_call 85; (with_reducible refine hc.out.mono ?_); rintro e w1 ⟨rfl, rfl⟩)
  have hI : PkI w (w.heap.size + 1) (.slice (some ⟨w.heap.size, 0, none⟩) 0 n) [] (ofB (8 * 0) (bit8 xs) % 18446744073709551616) 0 ((w.alloc (.cells (madeCells #[.int .u16 0] n) 29)).alloc (.cells #[.int .u64 0, .int .u64 0] 136)) := by
    refine ⟨(OwnS.emptyN n hn1 w).alloc _, ?_, ((Below.refl _ _).alloc (Nat.le_refl _) _).alloc (by rw [World.size_alloc]; omega) _, by omega, ?_⟩
    · intro e; simp [Value.ownBlock] at e
    · have := heap_alloc_new (w.alloc (.cells (madeCells #[.int .u16 0] n) 29)) (.cells #[.int .u64 0, .int .u64 0] 136)
      rw [World.size_alloc] at this
      exact this
  generalize (w.alloc (.cells (madeCells #[.int .u16 0] n) 29)).alloc (.cells #[.int .u64 0, .int .u64 0] 136) = w0 at hI ⊢
  generalize w.heap.size + 1 = gs at hI ⊢
  generalize Value.slice (some ⟨w.heap.size, 0, none⟩) 0 n = p0 at hI ⊢
  go_loopw [3, 13] (fun p q wr => ∃ i m h : Nat, i ≤ xs.length ∧ 8 * i = 10 * m + h ∧ h < 10 ∧ q = .int .i64 i ∧ PkI w gs p (rm m (pkSym xs)) (ofB (8 * i) (bit8 xs) % 18446744073709551616) h wr) (fun _ q _ => xs.length - (intOf q).toNat)
  case atStart => exact ⟨0, 0, 0, Nat.zero_le _, rfl, by decide, rfl, hI⟩
  case round =>
    clear hI
    obtain ⟨i, m, h, hi, hm, hh, rfl, HI⟩ := hrel
    replace HI := Lib.hid HI
    by_cases hlt : i < xs.length
    · have hd : decide ((i : Int) < (xs.length : Int)) = true := by rw [decide_eq_true_eq]; omega
      have hil : (i : Int) < (xs.length : Int) := by omega
      obtain ⟨a, hAe, hab, hcell⟩ := (H.out.far HI.out.2.2.1).at_ hlt
      subst hAe
      have hx := H.out.1 xs[i] (List.getElem_mem hlt)
      have htm := eight_more hlt hx
      obtain ⟨X, hX⟩ : ∃ X, Hid (xs[i] = X) := ⟨_, Lib.hid rfl⟩
      rw [hX.out] at hcell hx htm
      have hc1 := put_any wr gs _ h X 8 HI.out.2.2.2.2 (by omega) (by decide) (by omega) (N := 8) rfl rfl
      rw [← htm] at hc1
      have hm2 : 8 * (i + 1) = 10 * m + (h + 8) := by omega
      have hten := fun h10 => ten_next (xs := xs) (T := 8 * (i + 1)) (m := m) (h := h + 8) hm2 h10
      obtain ⟨D, hD⟩ : ∃ D, Hid (ofB 10 (fun t => bit8 xs (10 * m + t)) = D) := ⟨_, Lib.hid rfl⟩
      have hDl : D < 1024 := by rw [← hD.out]; exact ofB_lt 10 _
      rw [hD.out] at hten
      obtain ⟨V, hV⟩ : ∃ V, Hid (ofB (8 * (i + 1)) (bit8 xs) = V) := ⟨_, Lib.hid rfl⟩
      rw [hV.out] at hc1 hten
      replace hc1 := Lib.hid hc1
      replace hten := Lib.hid hten
      clear htm hX
      by_cases h2 : 2 ≤ h
      · have hd2 : decide (10 ≤ ((h + 8 : Nat) : Int)) = true := by rw [decide_eq_true_eq]; omega
        have hd3 : decide ((10 : Int) ≤ (h : Int) + 8) = true := by rw [decide_eq_true_eq]; omega
        have hd4 : decide (10 ≤ h + 8) = true := by rw [decide_eq_true_eq]; omega
        go_wp2_with (first
          | (go_at_call 86; (with_reducible refine hc1.out.mono ?_); rintro e w1 ⟨rfl, hs1, hg1⟩; have HI1 := Lib.hid (HI.out.stream hg1 hs1); have hh1 := hs1.cell1; have hc2 := take_any w1 gs V (h + 8) 10 hs1 (by omega) (by decide) (by decide) (by omega) (N := 10) rfl; rw [hten.out (by omega)] at hc2; replace hc2 := Lib.hid hc2; clear hs1 hg1 hc1 HI)
          | (go_at_call 87; (with_reducible refine hc2.out.mono ?_); rintro e w2 ⟨rfl, hs2, hg2⟩; have HI2 := Lib.hid ((HI1.out.stream hg2 hs2).alloc (.cells #[.int .u16 (D : Int)] 29)); have hq := Lib.hid (sl_new w2 (.cells #[.int .u16 (D : Int)] 29) [D] w2.heap.size rfl rfl (by simp; omega)); clear hg2 hs2 hc2 HI1)
          | (refine app_own (w0 := w) rfl (.tmp 23) (.tmp 26) rfl u3 (rm m (pkSym xs)) rfl HI2.out.1 HI2.out.2.2.1.size ⟨w2.heap.size, 0, none⟩ 1 [D] rfl hq.out (by rw [rm_len]; simp; omega) ?_; intro v' w3 ho3 hg3 hb3; have HI3 := Lib.hid (HI2.out.app ho3 hg3 hb3); clear ho3 hg3 hb3 HI2 hq))
        go_roundw
        case rel =>
          refine ⟨i + 1, m + 1, h + 8 - 10, by omega, by omega, by omega, by go_num, ?_⟩
          rw [rm_succ, hV.out]
          have := HI3.out
          rw [← hD.out] at this
          exact this
        case measure => simp [intOf]; omega
      · have hd2 : decide (10 ≤ ((h + 8 : Nat) : Int)) = false := by rw [decide_eq_false_iff_not]; omega
        have hd3 : decide ((10 : Int) ≤ (h : Int) + 8) = false := by rw [decide_eq_false_iff_not]; omega
        have hd4 : decide (10 ≤ h + 8) = false := by rw [decide_eq_false_iff_not]; omega
        go_wp2_with (go_at_call 86; (with_reducible refine hc1.out.mono ?_); rintro e w1 ⟨rfl, hs1, hg1⟩; have HI1 := Lib.hid (HI.out.stream hg1 hs1); have hh1 := hs1.cell1; clear hs1 hg1 hc1 HI)
        go_roundw
        case rel =>
          refine ⟨i + 1, m, h + 8, by omega, by omega, by omega, by go_num, ?_⟩
          rw [hV.out]; exact HI1.out
        case measure => simp [intOf]; omega
    · obtain rfl : i = xs.length := by omega
      have hd : decide (((xs.length : Nat) : Int) < (xs.length : Int)) = false := by rw [decide_eq_false_iff_not]; omega
      have hh1 := HI.out.2.2.2.2.cell1
      by_cases h0 : h = 0
      · subst h0
        have hmn : m = symN xs.length := by unfold symN; omega
        have e : rm m (pkSym xs) = pk xs := by rw [hmn]; rfl
        have HO := HI.out.1
        rw [e] at HO
        have hb := Lib.hid HI.out.2.2.1
        replace HO := Lib.hid HO
        clear HI e hmn
        go_wp2_with fail
        go_ret
        exact ⟨_, rfl, HO.out, hb.out⟩
      · have hd2 : decide ((0 : Int) < (h : Int)) = true := by rw [decide_eq_true_eq]; omega
        have hd3 : decide (0 < h) = true := by rw [decide_eq_true_eq]; omega
        have hmn : symN xs.length = m + 1 := by unfold symN; omega
        obtain ⟨r, hr⟩ : ∃ r, r = 10 - h := ⟨_, rfl⟩
        have hrI : (10 : Int) - (h : Int) = (r : Int) := by omega
        have hrw : IntKind.u64.wrap ((10 : Int) - (h : Int)) = (r : Int) := by
          show ((10 : Int) - (h : Int)) % 18446744073709551616 = _
          omega
        have hc1 := put_any wr gs _ h 0 r HI.out.2.2.2.2 (Nat.two_pow_pos r) (by omega) (by omega) (N := (r : Int)) (Y := 0) rfl rfl
        rw [← noughts, show h + r = 10 by omega] at hc1
        have hten := ten_next (xs := xs) (T := 8 * xs.length + r) (m := m) (h := 10) (by omega) (by decide)
        obtain ⟨D, hD⟩ : ∃ D, Hid (ofB 10 (fun t => bit8 xs (10 * m + t)) = D) := ⟨_, Lib.hid rfl⟩
        have hDl : D < 1024 := by rw [← hD.out]; exact ofB_lt 10 _
        rw [hD.out] at hten
        obtain ⟨V, hV⟩ : ∃ V, Hid (ofB (8 * xs.length + r) (bit8 xs) = V) := ⟨_, Lib.hid rfl⟩
        rw [hV.out] at hc1 hten
        replace hc1 := Lib.hid hc1
        replace hten := Lib.hid hten
        clear hr
        go_wp2_with (first
          | (go_at_call 86; (with_reducible refine hc1.out.mono ?_); rintro e w1 ⟨rfl, hs1, hg1⟩; have HI1 := Lib.hid (HI.out.stream hg1 hs1); have hc2 := take_any w1 gs V 10 10 hs1 (by decide) (by decide) (by decide) (by decide) (N := 10) rfl; rw [hten.out] at hc2; replace hc2 := Lib.hid hc2; clear hs1 hg1 hc1 HI)
          | (go_at_call 87; (with_reducible refine hc2.out.mono ?_); rintro e w2 ⟨rfl, hs2, hg2⟩; have HI2 := Lib.hid ((HI1.out.stream hg2 hs2).alloc (.cells #[.int .u16 (D : Int)] 29)); have hq := Lib.hid (sl_new w2 (.cells #[.int .u16 (D : Int)] 29) [D] w2.heap.size rfl rfl (by simp; omega)); clear hg2 hs2 hc2 HI1)
          | (refine app_own (w0 := w) rfl (.tmp 36) (.tmp 39) rfl u3 (rm m (pkSym xs)) rfl HI2.out.1 HI2.out.2.2.1.size ⟨w2.heap.size, 0, none⟩ 1 [D] rfl hq.out (by rw [rm_len]; simp; omega) ?_; intro v' w3 ho3 hg3 hb3; have HI3 := Lib.hid (HI2.out.app ho3 hg3 hb3); clear ho3 hg3 hb3 HI2 hq))
        go_ret
        refine ⟨_, rfl, ?_, HI3.out.2.2.1⟩
        have := HI3.out.1
        rw [← hD.out] at this
        have e : pk xs = rm m (pkSym xs) ++ [pkSym xs m] := by
          rw [← rm_succ, ← hmn]; rfl
        rw [e]
        exact this
end Go.Proofs.Ytmchelbmeajcnaa
