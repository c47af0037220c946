/- The program's frame: Words. · Points in quarters: what is sliced, how far off they are, the greatest of some; package census's Margin. · Package census: Margin. · Package census: the symbols of a page, mended; Of. · Package census: Shift. · Points in quarters: what is read from them, and how a census tells it. -/
import Derived.Test.YtmchelbmeajcnaaMl
import Derived.Test.YtmchelbmeajcnaaMn
import Derived.Test.YtmchelbmeajcnaaFr
import Derived.Test.YtmchelbmeajcnaaWp
import Derived.Laws.ComplexArith
import Derived.Test.YtmchelbmeajcnaaMv
namespace Go.Proofs.Ytmchelbmeajcnaa
open Go.RowKit Go.Gf Go.Fl
set_option linter.unusedVariables false
set_option linter.unusedSimpArgs false
set_option maxRecDepth 20000
attribute [local go_sem ↓] exec_load_tb Cl.quiet_since
attribute [local go_sem] tbAt_ptr tbIn_ptr

set_option maxHeartbeats 4000000 in
/-- Words -/
theorem words_no {cs : List Nat} (hcs : Tab cs) {B P W K : Int} {A : Option Addr} {n c e0 : Nat} {w : World} (h6 : n ≤ 1000000) (he : rfE B P W K n = e0) (h0 : e0 ≠ 0) :
    Calls Try.prog 52 #[.agg (cells cs), .agg #[.int .i64 B, .int .i64 P, .int .i64 W, .int .i64 K], .slice A n c] w fun e w' => e = .returned (.tuple #[.slice none 0 0, .int .i64 (e0 : Int)]) ∧ Below w.heap.size w w' := by
  obtain ⟨wa, hwa⟩ : ∃ wa, wa = w.alloc (.cells (cells cs) 33) := ⟨_, rfl⟩
  obtain ⟨wb, hwb⟩ : ∃ wb, wb = wa.alloc (.cells #[.int .i64 B, .int .i64 P, .int .i64 W, .int .i64 K] 23) := ⟨_, rfl⟩
  have hza : wa.heap.size = w.heap.size + 1 := by rw [hwa, World.size_alloc]
  have hba : Below w.heap.size w wa := by rw [hwa]; exact Ge.below_alloc w _
  have hbb : Below w.heap.size w wb := hba.trans (by rw [hwb]; exact (Ge.below_alloc wa _).mono hba.size)
  have hX : Ge.Box wb (w.heap.size + 1) B P W K := by
    have := Ge.Box.new wa B P W K
    rwa [← hwb, hza] at this
  have hrf := Lib.hid (refused_any (B := B) (P := P) (W := W) (K := K) (A := A) (c := c) (w := wb) h6)
  rw [he] at hrf
  have hn : ((e0 : Int) != 0) = true := by simp; omega
  obtain ⟨x1, x2, x3, x4, x5⟩ := id hX
  clear he
  go_enter Try.func52, Try.ntmps52
  go_upto_region 1 with fail
  rw [← hwa, ← hwb]
  clear hwa hwb
  go_wp2_with (go_at_call 41; (with_reducible refine hrf.out.mono ?_); rintro e w1 ⟨rfl, hb1⟩)
  go_ret2
  exact ⟨rfl, hbb.trans (hb1.mono hbb.size)⟩
set_option maxHeartbeats 4000000 in
theorem words_any {cs : List Nat} (hcs : Tab cs) {B P : Int} {W K : Nat} {A : Option Addr} {c : Nat} {xs : List (Nat × Nat)} {ss : List Nat} {w : World} (he : rfE B P (W : Int) (K : Int) xs.length = 0) (hW : 1 ≤ W ∧ W ≤ 4) (hK : 1 ≤ K ∧ K ≤ 64) (hs : Cx w w.heap.size A xs) (hl : xs.length = W * (K + 16))
    (hn : ss.length = xs.length) (hsl : ∀ i, i < xs.length → SlcIs (xA xs i) (at_ ss i)) (hb : ∀ y ∈ ss, y < 1024) (r : Nat → Option (List Nat)) (hr : ∀ j, j < W → RdW W (K + 16) ss (zX xs) j (r j)) :
    Calls Try.prog 52 #[.agg (cells cs), .agg #[.int .i64 B, .int .i64 P, .int .i64 (W : Int), .int .i64 (K : Int)], .slice A xs.length c] w
      fun e w' => ∃ g f, e = .returned (.tuple #[.slice (some ⟨g, 0, none⟩) W W, .int .i64 0]) ∧ w.heap.size ≤ g ∧ WdsI w' g W f r (fun j => wrO W (K + 16) ss (zX xs) j (r j)) W ∧ Below w.heap.size w w' := by
  obtain ⟨wa, hwa⟩ : ∃ wa, wa = w.alloc (.cells (cells cs) 33) := ⟨_, rfl⟩
  obtain ⟨wb, hwb⟩ : ∃ wb, wb = wa.alloc (.cells #[.int .i64 B, .int .i64 P, .int .i64 (W : Int), .int .i64 (K : Int)] 23) := ⟨_, rfl⟩
  have hza : wa.heap.size = w.heap.size + 1 := by rw [hwa, World.size_alloc]
  have hba : Below w.heap.size w wa := by rw [hwa]; exact Ge.below_alloc w _
  have hbb : Below w.heap.size w wb := hba.trans (by rw [hwb]; exact (Ge.below_alloc wa _).mono hba.size)
  have hT : Tb wb w.heap.size cs := by
    have : Tb wa w.heap.size cs := by rw [hwa]; exact tb_new w cs
    exact this.keep (by rw [hwb]; exact Ge.below_alloc wa _)
  have hX : Ge.Box wb (w.heap.size + 1) B P W K := by
    have := Ge.Box.new wa B P W K
    rwa [← hwb, hza] at this
  have h6 : xs.length ≤ 1000000 := by
    have : W * (K + 16) ≤ 320 := Nat.mul_le_mul hW.2 (show K + 16 ≤ 80 by omega)
    omega
  have hrf := Lib.hid (refused_any (B := B) (P := P) (W := (W : Int)) (K := (K : Int)) (A := A) (c := c) (w := wb) h6)
  rw [he] at hrf
  have hmd : ∀ w1, Below wb.heap.size wb w1 → Hid (Calls Try.prog 43 #[.agg (cells cs), .agg #[.int .i64 B, .int .i64 P, .int .i64 (W : Int), .int .i64 (K : Int)], .slice A xs.length c] w1
      fun e w' => ∃ g f, e = .returned (.slice (some ⟨g, 0, none⟩) W W) ∧ w1.heap.size ≤ g ∧ WdsI w' g W f r (fun j => wrO W (K + 16) ss (zX xs) j (r j)) W ∧ Below w1.heap.size w1 w') := fun w1 h1 =>
    mended_any hcs hW hK (hs.far (hbb.trans (h1.mono hbb.size))) hl hn hsl hb r hr
  replace hmd := Lib.hid hmd
  obtain ⟨x1, x2, x3, x4, x5⟩ := id hX
  have HCS := Lib.hid hcs
  clear he hcs hl hn hsl hb hr hs
  go_enter Try.func52, Try.ntmps52
  go_upto_region 1 with fail
  rw [← hwa, ← hwb]
  clear hwa hwb
  go_wp2_with (first
    | (go_at_call 41; (with_reducible refine hrf.out.mono ?_); rintro e w1 ⟨rfl, hb1⟩; have hT1 := hT.keep hb1; have hi1 := hT1.is HCS.out.1; have hi2 := hT1.of; obtain ⟨n1, n2, n3, n4, n5⟩ := hX.keep hb1; have hm := hmd.out w1 hb1; have hbw1 := hbb.trans (hb1.mono hbb.size))
    | (go_at_call 43; (with_reducible refine hm.out.mono ?_); rintro e w2 ⟨g, f, rfl, hg, hWd, hb2⟩))
  go_ret2
  exact ⟨g, f, rfl, Nat.le_trans hbw1.size hg, hWd, hbw1.trans (hb2.mono hbw1.size)⟩
end Go.Proofs.Ytmchelbmeajcnaa
namespace Go.Proofs.Ytmchelbmeajcnaa
open Go.RowKit Go.Gf Go.Fl
set_option linter.unusedVariables false
set_option linter.unusedSimpArgs false
set_option maxRecDepth 20000
attribute [local go_sem ↓] exec_load_tb Cl.quiet_since
attribute [local go_sem] tbAt_ptr tbIn_ptr

/-- a number of quarters -/
def Qt (x : Nat) (a : Int) : Prop := Is x ((a : Rat) * pw (-2))
theorem pw_q : pw (-2) = 1 / 4 := by decide +kernel
theorem Qt.whole {x : Nat} {n : Int} (h : Is x (n : Rat)) : Qt x (4 * n) := by
  have e : ((4 * n : Int) : Rat) * pw (-2) = (n : Rat) := by rw [Rat.intCast_mul, pw_q]; grind
  unfold Qt
  rw [e]; exact h
theorem Qt.is {x : Nat} {a : Int} (h : Qt x a) : Is x ((a : Rat) * pw (-2)) := h
theorem qt_zero : Qt 0 0 := by
  have := Qt.whole (n := 0) is_zero
  exact this
theorem rep_q (a : Int) (h : -1099511627776 ≤ a ∧ a ≤ 1099511627776) : Rep ((a : Rat) * pw (-2)) := rep_units a (-2) (by omega) (by decide) (by decide)
theorem qt_add {x y : Nat} {a b : Int} (hx : Qt x a) (hy : Qt y b) (h : -1099511627776 ≤ a + b ∧ a + b ≤ 1099511627776) : ∃ r, floatBits .add .f64 x y = some r ∧ Qt r (a + b) :=
  add_exact hx.is hy.is (by rw [Rat.intCast_add]; grind) (rep_q _ h)
theorem qt_sub {x y : Nat} {a b : Int} (hx : Qt x a) (hy : Qt y b) (h : -1099511627776 ≤ a - b ∧ a - b ≤ 1099511627776) : ∃ r, floatBits .sub .f64 x y = some r ∧ Qt r (a - b) :=
  sub_exact hx.is hy.is (by rw [Rat.intCast_sub]; grind) (rep_q _ h)
theorem qt_mul {x y : Nat} {a n : Int} (hx : Qt x a) (hy : Is y (n : Rat)) (h : -1099511627776 ≤ a * n ∧ a * n ≤ 1099511627776) : ∃ r, floatBits .mul .f64 x y = some r ∧ Qt r (a * n) :=
  mul_exact hx.is hy (by rw [Rat.intCast_mul]; grind) (rep_q _ h)
theorem qt_lt {a b : Int} : (a : Rat) * pw (-2) < (b : Rat) * pw (-2) ↔ a < b := by rw [mul_lt_cancel (pw_pos _)]; exact Rat.intCast_lt_intCast
theorem qt_inj {a b : Int} (h : (a : Rat) * pw (-2) = (b : Rat) * pw (-2)) : a = b := by
  rcases Int.lt_trichotomy a b with h1 | h1 | h1
  · have := qt_lt.2 h1; rw [h] at this; exact absurd this (Rat.lt_irrefl)
  · exact h1
  · have := qt_lt.2 h1; rw [h] at this; exact absurd this (Rat.lt_irrefl)
theorem qt_ordlt {x y : Nat} {a b : Int} (hx : Qt x a) (hy : Qt y b) (h : a < b) : FloatKind.f64.format.order x y = some .lt := order_lt hx.is hy.is (qt_lt.2 h)
theorem qt_ordgt {x y : Nat} {a b : Int} (hx : Qt x a) (hy : Qt y b) (h : b < a) : FloatKind.f64.format.order x y = some .gt := order_gt hx.is hy.is (qt_lt.2 h)
theorem qt_ordeq {x y : Nat} {a b : Int} (hx : Qt x a) (hy : Qt y b) (h : a = b) : FloatKind.f64.format.order x y = some .eq := order_eq hx.is hy.is (by rw [h])
theorem qt_eqb {x y : Nat} {a b : Int} (hx : Qt x a) (hy : Qt y b) : (FloatKind.f64.format.order x y == some .eq) = decide (a = b) := by
  rcases Int.lt_trichotomy a b with h | h | h
  · rw [qt_ordlt hx hy h, decide_eq_false (by omega)]; rfl
  · rw [qt_ordeq hx hy h, decide_eq_true h]; rfl
  · rw [qt_ordgt hx hy h, decide_eq_false (by omega)]; rfl
/-- the greater of two -/
theorem qt_max2 {x y : Nat} {a b : Int} (hx : Qt x a) (hy : Qt y b) : ∃ r, Qt r (max a b) ∧ ∀ (P : Program) (w : World), (Builtin.max2 (.float .f64 x) (.float .f64 y)).run P w = .ok (.float .f64 r) w := by
  rcases Int.lt_trichotomy a b with h | h | h
  · refine ⟨y, by rw [show max a b = b by omega]; exact hy, fun P w => ?_⟩
    simp only [Builtin.max2, qt_ordlt hx hy h]
    rfl
  · subst h
    refine ⟨if (FloatKind.f64.decode x).neg then y else x, ?_, fun P w => ?_⟩
    · rw [show max a a = a by omega]
      split
      · exact hy
      · exact hx
    · simp only [Builtin.max2, qt_ordeq hx hy rfl]
      rfl
  · refine ⟨x, by rw [show max a b = a by omega]; exact hx, fun P w => ?_⟩
    simp only [Builtin.max2, qt_ordgt hx hy h]
    rfl
theorem qt_max3 {x y z : Nat} {a b c : Int} (hx : Qt x a) (hy : Qt y b) (hz : Qt z c) : ∃ r, Qt r (max (max a b) c) ∧ ∀ (P : Program) (ts : Array TypeId) (t : TypeId) (w : World), (Builtin.max_ ts t #[.float .f64 x, .float .f64 y, .float .f64 z]).run P w = .ok (.float .f64 r) w := by
  obtain ⟨r, hr, h1⟩ := qt_max2 hx hy
  obtain ⟨q, hq, h2⟩ := qt_max2 hr hz
  refine ⟨q, hq, fun P ts t w => ?_⟩
  simp [Builtin.max_, h1, h2]
theorem qt_max4 {x y z u : Nat} {a b c d : Int} (hx : Qt x a) (hy : Qt y b) (hz : Qt z c) (hu : Qt u d) : ∃ r, Qt r (max (max (max a b) c) d) ∧ ∀ (P : Program) (ts : Array TypeId) (t : TypeId) (w : World), (Builtin.max_ ts t #[.float .f64 x, .float .f64 y, .float .f64 z, .float .f64 u]).run P w = .ok (.float .f64 r) w := by
  obtain ⟨r, hr, h1⟩ := qt_max2 hx hy
  obtain ⟨q, hq, h2⟩ := qt_max2 hr hz
  obtain ⟨p, hp, h3⟩ := qt_max2 hq hu
  refine ⟨p, hp, fun P ts t w => ?_⟩
  simp [Builtin.max_, h1, h2, h3]
/-- the number without its sign -/
theorem qabs_any {x : Nat} {a : Int} (hx : Qt x a) : ∃ r : Nat, Qt r ((a.natAbs : Nat) : Int) ∧ ∀ w, Calls Try.prog 51 #[.float .f64 x] w fun e w' => e = .returned (.float .f64 r) ∧ w = w' := by
  obtain ⟨v, hv, h0, hq⟩ := abs_is hx.is
  have hval : v = (((a.natAbs : Nat) : Int) : Rat) * pw (-2) := by
    have hp := pw_pos (-2)
    rcases Int.lt_or_le a 0 with h | h
    · have e : (((a.natAbs : Nat) : Int) : Rat) * pw (-2) = -((a : Rat) * pw (-2)) := by
        rw [show ((a.natAbs : Nat) : Int) = -a by omega, Rat.intCast_neg]; grind
      rw [e]
      have hn : (a : Rat) * pw (-2) < 0 := by
        have := qt_lt.2 h
        rwa [show ((0 : Int) : Rat) * pw (-2) = 0 by simp] at this
      rcases hq with h1 | h1
      · rw [h1] at hn; exact absurd (lt_of_le_of_lt' h0 hn) (Rat.lt_irrefl)
      · rw [h1]; grind
    · rw [show ((a.natAbs : Nat) : Int) = a by omega]
      have hn : 0 ≤ (a : Rat) * pw (-2) := Rat.mul_nonneg (Rat.intCast_nonneg.2 h) (Rat.le_of_lt hp)
      rcases hq with h1 | h1
      · exact h1.symm
      · grind
  refine ⟨x % 9223372036854775808, by unfold Qt; rw [← hval]; exact hv, fun w => ?_⟩
  have hb := abs_bits x
  have h1 : ∀ w, (callFunc 76 #[.float .f64 x]).run Try.prog w = .ok (.value (.int .u64 x)) w := fun w => by
    rw [run_callFunc_extern (fn := Try.f76) (e := Extern.MathFloatBits.float64bits) Try.func76 (by decide +kernel) (by kernel_rfl) (by kernel_rfl) (by kernel_rfl)]
    rfl
  have h2 : ∀ (n : Nat) w, (callFunc 75 #[.int .u64 (n : Int)]).run Try.prog w = .ok (.value (.float .f64 n)) w := fun n w => by
    rw [run_callFunc_extern (fn := Try.f75) (e := Extern.MathFloatBits.float64frombits) Try.func75 (by decide +kernel) (by kernel_rfl) (by kernel_rfl) (by kernel_rfl)]
    rfl
  clear hx hv h0 hq hval
  generalize x % 9223372036854775808 = y at *
  go_enter Try.func51, Try.ntmps51
  go_wp2_with (first | simp only [h1] | simp only [h2])
  go_ret
  exact ⟨rfl, rfl⟩
/-- the level that a is nearest to, of quarters -/
def levQ (a : Int) : Nat := (max 0 (min 31 ((a + 128) / 8))).toNat
theorem levQ_le (a : Int) : levQ a ≤ 31 := by unfold levQ; omega
theorem near_q {x : Nat} {a : Int} (hx : Qt x a) (h : -1000000 ≤ a ∧ a ≤ 1000000) : NearP x (levQ a) := by
  have e : ((4 * a : Int) : Rat) * pw (-4) = (a : Rat) * pw (-2) := by
    rw [Rat.intCast_mul, pw_q, show pw (-4) = 1 / 16 by decide +kernel]; grind
  refine near_is (levQ a) hx.is (4 * a) (4 * a) (by omega) (by omega) (by rw [e]; exact Rat.le_refl) (by rw [e]; exact Rat.le_refl) (levQ_le a) ?_ ?_
  · unfold levQ; omega
  · unfold levQ; omega
def slcQ (a b : Int) : Nat := 32 * levQ a + levQ b
theorem slcQ_lt (a b : Int) : slcQ a b < 1024 := by
  have h1 := levQ_le a
  have h2 := levQ_le b
  unfold slcQ; omega
/-- what a point in quarters is sliced to -/
theorem slc_q {x y : Nat} {a b : Int} (hx : Qt x a) (hy : Qt y b) (ha : -1000000 ≤ a ∧ a ≤ 1000000) (hb : -1000000 ≤ b ∧ b ≤ 1000000) : SlcIs (x, y) (slcQ a b) := fun w => by
  refine (slice_any x y _ _ w (near_q hx ha) (near_q hy hb)).mono fun e w' ⟨he, hw⟩ => ⟨?_, hw⟩
  rw [he]
  unfold slcQ
  push_cast
  rfl
/-- the place of a level, in quarters -/
def ofQ (k : Nat) : Int := 8 * (k % 32 : Nat) - 124
/-- how far a point is from that of s -/
theorem poff_any {x y s : Nat} {a b : Int} (hx : Qt x a) (hy : Qt y b) (ha : -1000000 ≤ a ∧ a ≤ 1000000) (hb : -1000000 ≤ b ∧ b ≤ 1000000) (hs : s < 1024) :
    ∃ rx ry, Qt rx (a - ofQ (s / 32)) ∧ Qt ry (b - ofQ s) ∧ ∀ w, Calls Try.prog 49 #[.int .u16 (s : Int), .complex .f64 x y] w fun e w' => e = .returned (.complex .f64 rx ry) ∧ w = w' := by
  have l1 : Qt (L ((s : Int) / 32)) (ofQ (s / 32)) := by
    have := Qt.whole (L_is ((s : Int) / 32))
    rwa [show 4 * (2 * ((s : Int) / 32 % 32) - 31) = ofQ (s / 32) by unfold ofQ; omega] at this
  have l2 : Qt (L (s : Int)) (ofQ s) := by
    have := Qt.whole (L_is (s : Int))
    rwa [show 4 * (2 * ((s : Int) % 32) - 31) = ofQ s by unfold ofQ; omega] at this
  obtain ⟨rx, h1, q1⟩ := qt_sub hx l1 (by unfold ofQ; omega)
  obtain ⟨ry, h2, q2⟩ := qt_sub hy l2 (by unfold ofQ; omega)
  refine ⟨rx, ry, q1, q2, fun w => ?_⟩
  have hc : cSumBits .sub .f64 x y (L ((s : Int) / 32)) (L (s : Int)) = some (rx, ry) := by unfold cSumBits; rw [h1, h2]; rfl
  have hop := fun (w : World) t => run_complex_sum (P := Try.prog) w .sub (Or.inr rfl) t .f64 _ _ _ _ _ _ hc
  have hof := fun w => Lib.hid (of_any (s : Int) w (by omega) (by omega))
  clear hx hy l1 l2 h1 h2 q1 q2 hc
  go_enter Try.func49, Try.ntmps49
  go_wp2_with (first | (go_at_call 73; (with_reducible refine (hof _).out.mono ?_); rintro e w' ⟨rfl, rfl⟩) | simp only [hop])
  go_ret
  exact ⟨rfl, rfl⟩
end Go.Proofs.Ytmchelbmeajcnaa
namespace Go.Proofs.Ytmchelbmeajcnaa
open Go.RowKit Go.Gf Go.Fl
set_option linter.unusedVariables false
set_option linter.unusedSimpArgs false
set_option maxRecDepth 20000
attribute [local go_sem ↓] exec_load_tb Cl.quiet_since
attribute [local go_sem] tbAt_ptr tbIn_ptr

/-- how far a point is off from that of its symbol, in quarters: its worse part -/
def dQ (z : Int × Int) : Nat := max (z.1 - ofQ (levQ z.1)).natAbs (z.2 - ofQ (levQ z.2)).natAbs
/-- points in quarters, none of which lies beyond m -/
def Quart (xs : List (Nat × Nat)) (m : Int) (Z : Nat → Int × Int) : Prop := ∀ i, i < xs.length → Qt (xA xs i).1 (Z i).1 ∧ Qt (xA xs i).2 (Z i).2 ∧ (-m ≤ (Z i).1 ∧ (Z i).1 ≤ m) ∧ (-m ≤ (Z i).2 ∧ (Z i).2 ≤ m)
theorem slcQ_div (a b : Int) : ofQ (slcQ a b / 32) = ofQ (levQ a) ∧ ofQ (slcQ a b) = ofQ (levQ b) := by
  have h1 := levQ_le a
  have h2 := levQ_le b
  unfold slcQ ofQ
  omega
theorem qt_one : Qt 4607182418800017408 4 := by
  have := Qt.whole (x := 4607182418800017408) (n := 1) ⟨false, 4503599627370496, -52, by decide +kernel, by decide +kernel⟩
  exact this
theorem dQ_bd {z : Int × Int} (h1 : -2000 ≤ z.1 ∧ z.1 ≤ 2000) (h2 : -2000 ≤ z.2 ∧ z.2 ≤ 2000) : dQ z ≤ 3000 := by
  unfold dQ ofQ
  omega
set_option maxHeartbeats 4000000 in
theorem margin_any {A : Option Addr} {c : Nat} {xs : List (Nat × Nat)} {w : World} (Z : Nat → Int × Int) (hs : Cx w w.heap.size A xs) (h6 : xs.length ≤ 1000000) (hz : Quart xs 2000 Z) :
    Calls Try.prog 26 #[.slice A xs.length c] w fun e w' => (∃ r, e = .returned (.float .f64 r) ∧ Qt r (4 - ((mxF (fun i => dQ (Z i)) xs.length : Nat) : Int))) ∧ Below w.heap.size w w' := by
  have H := Lib.hid hs
  have HZ := Lib.hid hz
  have hb : mxF (fun i => dQ (Z i)) xs.length ≤ 3000 := mxF_le.2 fun i hi => dQ_bd (hz i hi).2.2.1 (hz i hi).2.2.2
  replace hb := Lib.hid hb
  clear hs hz
  obtain ⟨n, hn⟩ : ∃ n, xs.length = n := ⟨_, rfl⟩
  have HN := Lib.hid hn
  rw [hn] at hb h6 ⊢
  clear hn
  go_enter Try.func26, Try.ntmps26
  go_wp2_with fail
  go_loopw [3, 9] (fun q p wr => ∃ i r : Nat, i ≤ n ∧ p = .int .i64 i ∧ q = .float .f64 r ∧ Qt r ((mxF (fun i => dQ (Z i)) i : Nat) : Int) ∧ Below w.heap.size w wr) (fun _ p _ => n - (intOf p).toNat)
  case atStart => exact ⟨0, 0, Nat.zero_le _, rfl, rfl, qt_zero, Below.refl _ _⟩
  case round =>
    obtain ⟨i, r, hi, rfl, rfl, hr, hB⟩ := hrel
    by_cases hlt : i < n
    · have hiI : (i : Int) < (n : Int) := by omega
      have hd : decide (i < n) = true := decide_eq_true hlt
      obtain ⟨a, rfl, hab, hcell⟩ := (H.out.below hB).at_ (i := i) (by rw [HN.out]; exact hlt)
      obtain ⟨q1, q2, b1, b2⟩ := HZ.out i (by rw [HN.out]; exact hlt)
      have hst : Hid (mxF (fun i => dQ (Z i)) (i + 1) = max (mxF (fun i => dQ (Z i)) i) (dQ (Z i))) := Lib.hid rfl
      generalize xA xs i = p at *
      obtain ⟨px, py⟩ := p
      generalize hzi : Z i = z at *
      obtain ⟨za, zb⟩ := z
      dsimp only at hcell q1 q2 b1 b2
      have hsl := slc_q q1 q2 (by omega) (by omega)
      obtain ⟨rx, ry, o1, o2, hoff⟩ := poff_any q1 q2 (by omega) (by omega) (slcQ_lt za zb)
      rw [(slcQ_div za zb).1] at o1
      rw [(slcQ_div za zb).2] at o2
      obtain ⟨r1, a1, habs1⟩ := qabs_any o1
      obtain ⟨r2, a2, habs2⟩ := qabs_any o2
      obtain ⟨r3, a3, hmax⟩ := qt_max3 hr a1 a2
      have hr' : Hid (Qt r3 ((mxF (fun i => dQ (Z i)) (i + 1) : Nat) : Int)) := by
        have e : max (max ((mxF (fun i => dQ (Z i)) i : Nat) : Int) (((za - ofQ (levQ za)).natAbs : Nat) : Int)) (((zb - ofQ (levQ zb)).natAbs : Nat) : Int) = ((mxF (fun i => dQ (Z i)) (i + 1) : Nat) : Int) := by
          rw [hst.out]
          show _ = ((max _ (max (za - ofQ (levQ za)).natAbs (zb - ofQ (levQ zb)).natAbs) : Nat) : Int)
          omega
        rw [e] at a3
        exact a3
      have hsl' : ∀ w, Hid (Calls Try.prog 50 #[.complex .f64 px py] w fun e w' => e = .returned (.int .u16 ((slcQ za zb : Nat) : Int)) ∧ w = w') := hsl
      generalize slcQ za zb = S at *
      have HO := Lib.hid hoff
      have HA1 := Lib.hid habs1
      have HA2 := Lib.hid habs2
      replace hB := Lib.hid hB
      clear hst hsl hoff habs1 habs2 q1 q2 b1 b2 o1 o2 a1 a2 a3 hr hzi
      go_wp2_with (first
        | (go_at_call 50; (with_reducible refine (hsl' _).out.mono ?_); rintro e w' ⟨rfl, rfl⟩)
        | (go_at_call 49; (with_reducible refine (HO.out _).mono ?_); rintro e w' ⟨rfl, rfl⟩)
        | (go_at_call 51; (with_reducible refine (HA1.out _).mono ?_); rintro e w' ⟨rfl, rfl⟩)
        | (go_at_call 51; (with_reducible refine (HA2.out _).mono ?_); rintro e w' ⟨rfl, rfl⟩)
        | simp only [hmax])
      go_roundw
      case rel => exact ⟨i + 1, r3, by omega, by go_num, rfl, hr'.out, hB.out⟩
      case measure => simp [intOf]; omega
    · obtain rfl : i = n := by omega
      have hd : decide (i < i) = false := decide_eq_false (Nat.lt_irrefl _)
      obtain ⟨r2, hsub, q2⟩ := qt_sub qt_one hr (by have := hb.out; omega)
      have hop := fun t w => run_float_arith (P := Try.prog) w .sub t .f64 _ _ r2 hsub
      have hq := Lib.hid q2
      replace hB := Lib.hid hB
      clear hr hsub q2
      go_wp2_with (simp only [hop])
      go_ret
      exact ⟨⟨r2, rfl, hq.out⟩, hB.out⟩
end Go.Proofs.Ytmchelbmeajcnaa
namespace Go.Proofs.Ytmchelbmeajcnaa
open Go.RowKit Go.Gf Go.Fl
set_option linter.unusedVariables false
set_option linter.unusedSimpArgs false
set_option maxRecDepth 20000
attribute [local go_sem ↓] exec_load_tb Cl.quiet_since
attribute [local go_sem] tbAt_ptr tbIn_ptr

set_option maxHeartbeats 8000000 in
theorem cmended_any {B P : Int} {W K g : Nat} {f : Nat → Value} {r : Nat → Option (List Nat)} {m : Nat → Nat} {w : World} (hW : 1 ≤ W ∧ W ≤ 4) (hK : 1 ≤ K ∧ K ≤ 64) (h : WdsI w g W f r m W) (k : Nat) (ws : Nat → List Nat) (hk : k ≤ W) (hall : ∀ j, j < k → r j = some (ws j)) (hl : ∀ j, j < k → (ws j).length = K + 16) (hno : k < W → r k = none) :
    Calls Try.prog 53 #[.agg #[.int .i64 B, .int .i64 P, .int .i64 (W : Int), .int .i64 (K : Int)], .slice (some ⟨g, 0, none⟩) W W] w
      fun e w' => ((k < W ∧ e = .returned (.tuple #[.slice none 0 0, .bool false])) ∨ (k = W ∧ ∃ v, e = .returned (.tuple #[v, .bool true]) ∧ OwnS w w' v (sayW W (K + 16) ws))) ∧ Below w.heap.size w w' := by
  have H := Lib.hid h
  obtain ⟨wb, hwb⟩ : ∃ wb, wb = w.alloc (.cells #[.int .i64 B, .int .i64 P, .int .i64 (W : Int), .int .i64 (K : Int)] 23) := ⟨_, rfl⟩
  have hz : wb.heap.size = w.heap.size + 1 := by rw [hwb, World.size_alloc]
  have hbb : Below w.heap.size w wb := by rw [hwb]; exact Ge.below_alloc w _
  have hX : Ge.Box wb w.heap.size B P W K := by
    have := Ge.Box.new w B P W K
    rwa [← hwb] at this
  have hmk : ∀ w, (Instr.makeSlice 81 (.int .i64 (W : Int)) (.int .i64 (W : Int))).run Try.prog w = .ok (.slice (some ⟨w.heap.size, 0, none⟩) W W) (w.alloc (.cells (madeCells #[.slice none 0 0] W) 35)) :=
    run_make_row' (P := Try.prog) 81 35 (.slice none 0 0) 24 Try.underlying81 info23w rfl .i64 .i64 W (by omega) (by omega)
  have hgl := H.out.pre.lt
  have hR0 : RowsI (wb.alloc (.cells (madeCells #[.slice none 0 0] W) 35)) wb.heap.size W (fun _ => .slice none 0 0) (fun j => if j < 0 then ws j else []) := ⟨Vs.start wb W, fun j hj => ⟨none, 0, rfl, Nat.le_refl _, ⟨fun x hx => by simp at hx, Or.inl rfl⟩, Or.inl rfl⟩⟩
  have hB0 := hbb.trans ((Ge.below_alloc wb (.cells (madeCells #[.slice none 0 0] W) 35)).mono hbb.size)
  clear h
  go_enter Try.func53, Try.ntmps53
  go_wp2_with fail
  rw [← hwb, ← hz]
  clear hwb
  replace hz := Lib.hid hz
  go_loopw [16] (fun p wr => ∃ i : Nat, i ≤ k ∧ p = .int .i64 i ∧ (∃ f, RowsI wr wb.heap.size W f (fun j => if j < i then ws j else [])) ∧ Ge.Box wr w.heap.size B P W K ∧ Below w.heap.size w wr) (fun p _ => W - (intOf p).toNat)
  case atStart => exact ⟨0, Nat.zero_le _, rfl, ⟨_, hR0⟩, hX.keep (Ge.below_alloc wb _), hB0⟩
  case round =>
    clear hR0 hB0 hmk
    obtain ⟨i, hi, rfl, ⟨fr, hR⟩, hXr, hB⟩ := hrel
    by_cases hlt : i < k
    · have hiW : i < W := by omega
      have hiI : (i : Int) < (W : Int) := by omega
      have hdi : decide (i < W) = true := decide_eq_true hiW
      have hWr := H.out.keep hB
      have hei := hWr.each i hiW
      rw [hall i hlt] at hei
      have hli := hl i hlt
      obtain ⟨A, c, e0, hc, hs, hne, e1, e2⟩ := hei.yes
      have c0 := hWr.c0 hiW
      have c1 := hWr.c1 hiW
      have c2 := hWr.c2 hiW
      rw [e0, hli] at c0
      rw [e1] at c1
      rw [e2] at c2
      have hO := Ge.below_alloc wr (.cells #[.slice A (K + 16) c, .int .i64 (m i : Int), .bool true] 106)
      have hXq := hXr.keep hO
      have hRq := hR.keep hO
      have q3 := hXq.c3
      obtain ⟨V, hV⟩ : ∃ V, (wr.alloc (.cells #[.slice A (K + 16) c, .int .i64 (m i : Int), .bool true] 106)).cell? ⟨wb.heap.size, i, none⟩ = some V := ⟨_, hRq.vs.cell hiW⟩
      have hfz := hRq.vs.frozen i
      have hBq := hB.trans (hO.mono hB.size)
      have hsq := hs.far hO
      have hneq : ws i = [] ∨ ∀ a, A = some a → a.block ≠ wb.heap.size := by
        by_cases e : ws i = []
        · exact Or.inl e
        · exact Or.inr (hRq.ne hsq e)
      have hRn := hRq.lay hiW (A := A) (c := c) (ys := ws i) hc hsq hneq
      rw [hli] at hRn
      have hRn' := Lib.hid (hRn.congr (ws' := fun j => if j < i + 1 then ws j else []) (fun j hj => by
        show (if j = i then ws i else if j < i then ws j else []) = if j < i + 1 then ws j else []
        by_cases e : j = i
        · rw [if_pos e, if_pos (by omega), e]
        · rw [if_neg e]
          by_cases h : j < i
          · rw [if_pos h, if_pos (by omega)]
          · rw [if_neg h, if_neg (by omega)]))
      have hXn := Lib.hid (hXq.other (g := wb.heap.size) (i := i) (.slice A (K + 16) c) (by have := hz.out; omega))
      have hBn := Lib.hid (hBq.setCell (show w.heap.size ≤ wb.heap.size by have := hz.out; omega) (p := ⟨wb.heap.size, i, none⟩) (.slice A (K + 16) c))
      obtain ⟨M, hM⟩ : ∃ M, m i = M := ⟨_, rfl⟩
      rw [hM] at c1 q3 hV hfz hRn' hXn hBn
      clear hR hXr hB hXq hRq hRn hO hBq hsq hneq hs hne hWr hei
      go_wp2_with fail
      go_roundw
      case rel => exact ⟨i + 1, by omega, by go_num, ⟨_, hRn'.out⟩, hXn.out, hBn.out⟩
      case measure => simp [intOf]; omega
    · obtain rfl : i = k := by omega
      rcases Nat.lt_or_ge i W with hiW | hge
      · have hiI : (i : Int) < (W : Int) := by omega
        have hdi : decide (i < W) = true := decide_eq_true hiW
        have hWr := H.out.keep hB
        have hei := hWr.each i hiW
        rw [hno hiW] at hei
        obtain ⟨e0, e1, e2⟩ := hei.no
        have c0 := hWr.c0 hiW
        have c1 := hWr.c1 hiW
        have c2 := hWr.c2 hiW
        rw [e0] at c0
        rw [e1] at c1
        rw [e2] at c2
        have hBn := Lib.hid (hB.trans ((Ge.below_alloc wr (.cells #[.slice none 0 0, .int .i64 (m i : Int), .bool false] 106)).mono hB.size))
        clear hR hXr hB hWr hei
        go_wp2_with fail
        go_ret2
        exact ⟨Or.inl ⟨hiW, rfl⟩, hBn.out⟩
      · obtain rfl : i = W := by omega
        have hdi : decide (i < i) = false := decide_eq_false (Nat.lt_irrefl _)
        have hws : ((List.range i).map fun j => if j < i then ws j else []) = (List.range i).map fun j => (ws j).take (K + 16) := by
          refine List.map_congr_left fun j hj => ?_
          rw [if_pos (List.mem_range.1 hj), ← hl j (List.mem_range.1 hj), List.take_length]
        have hsw := hR.sw
        rw [hws] at hsw
        have hlen : ((List.range i).map fun j => (ws j).take (K + 16)).length = i := by simp
        have hall' : ∀ x ∈ (List.range i).map (fun j => (ws j).take (K + 16)), x.length = K + 16 := by
          intro x hx
          obtain ⟨j, hj, rfl⟩ := List.mem_map.1 hx
          rw [List.length_take, hl j (List.mem_range.1 hj)]
          omega
        have hwN := wvN_all hall' (by intro e; rw [e] at hlen; simp at hlen; omega)
        have hE : outE (i : Int) ((List.range i).map fun j => (ws j).take (K + 16)) = 0 := outE_ok (by unfold mayB; rw [Bool.and_eq_true, decide_eq_true_eq, decide_eq_true_eq]; omega) (by rw [hlen]) (unl_false fun k hk => by rw [hall' _ (List.getElem_mem hk), hwN]) (by rw [hwN]; omega)
        have hO : outW (i : Int) ((List.range i).map fun j => (ws j).take (K + 16)) = sayW i (K + 16) ws := by unfold outW; rw [hE, if_pos rfl]; rfl
        have hout := out_any (i : Int) (some ⟨wb.heap.size, 0, none⟩) i ((List.range i).map fun j => (ws j).take (K + 16)) wr hsw (by omega) (fun x hx => by rw [hall' x hx]; omega)
        rw [hE, hO, hlen] at hout
        replace hout := Lib.hid hout
        have hc2 := hXr.c2
        replace hB := Lib.hid hB
        clear hsw hR hXr hlen hall' hE hO hws hwN
        go_wp2_with (go_at_call 59; (with_reducible refine hout.out.mono ?_); rintro e w2 ⟨v2, rfl, ho2, hb2⟩)
        go_ret2
        exact ⟨⟨v2, rfl, ho2.low hB.out.size⟩, hB.out.trans (hb2.mono hB.out.size)⟩
/-- .. where a word can't be read; and where all can -/
theorem cmended_no {B P : Int} {W K g : Nat} {f : Nat → Value} {r : Nat → Option (List Nat)} {ss : List Nat} {z : Nat → Bool} {m : Nat → Nat} {w : World} (hW : 1 ≤ W ∧ W ≤ 4) (hK : 1 ≤ K ∧ K ≤ 64) (h : WdsI w g W f r m W) (hr : ∀ j, j < W → RdW W (K + 16) ss z j (r j))
    (hno : ∃ j, j < W ∧ r j = none) :
    Calls Try.prog 53 #[.agg #[.int .i64 B, .int .i64 P, .int .i64 (W : Int), .int .i64 (K : Int)], .slice (some ⟨g, 0, none⟩) W W] w
      fun e w' => e = .returned (.tuple #[.slice none 0 0, .bool false]) ∧ Below w.heap.size w w' := by
  obtain ⟨k, h1, h2, h3⟩ := first_none r W
  have hlen : ∀ j, j < k → ((r j).getD []).length = K + 16 := fun j hj => by
    have := hr j (by omega)
    rw [h2 j hj] at this
    exact rdW_len this
  refine (cmended_any hW hK h k (fun j => (r j).getD []) h1 h2 hlen h3).mono ?_
  rintro e w' ⟨h4, hb⟩
  rcases h4 with ⟨_, he⟩ | ⟨hk, _⟩
  · exact ⟨he, hb⟩
  · obtain ⟨j, hj, hbad⟩ := hno
    have := h2 j (by omega)
    rw [hbad] at this
    cases this
theorem cmended_yes {B P : Int} {W K g : Nat} {f : Nat → Value} {r : Nat → Option (List Nat)} {m : Nat → Nat} {w : World} (hW : 1 ≤ W ∧ W ≤ 4) (hK : 1 ≤ K ∧ K ≤ 64) (h : WdsI w g W f r m W)
    (ws : Nat → List Nat) (hall : ∀ j, j < W → r j = some (ws j)) (hl : ∀ j, j < W → (ws j).length = K + 16) :
    Calls Try.prog 53 #[.agg #[.int .i64 B, .int .i64 P, .int .i64 (W : Int), .int .i64 (K : Int)], .slice (some ⟨g, 0, none⟩) W W] w
      fun e w' => ∃ v, e = .returned (.tuple #[v, .bool true]) ∧ OwnS w w' v (sayW W (K + 16) ws) ∧ Below w.heap.size w w' := by
  refine (cmended_any hW hK h W ws (Nat.le_refl _) hall hl (fun h => absurd h (by omega))).mono ?_
  rintro e w' ⟨h4, hb⟩
  rcases h4 with ⟨hk, _⟩ | ⟨_, v, he, ho⟩
  · exact absurd hk (by omega)
  · exact ⟨v, he, ho, hb⟩
theorem infoRw : (Try.prog.info? 69).map (fun i => (i.zero, i.size, i.bytes)) = some (some (.agg #[.int .i64 0, .bool false]), 2, 16) := by kernel_rfl
/-- n rows of nothing -/
def zRw (n : Nat) : Array Value := madeCells #[.int .i64 0, .bool false] (n * 2)
theorem zRw_size (n : Nat) : (zRw n).size = n * 2 := size_madeCells _ _
theorem run_makeRw (w : World) (n : Nat) (hn : n ≤ 65536) : (Instr.makeSlice 65 (.int .i64 (n : Int)) (.int .i64 (n : Int))).run Try.prog w = .ok (.slice (some ⟨w.heap.size, 0, none⟩) n n) (w.alloc (.cells (zRw n) 69)) := by
  have hi0 := infoRw
  obtain ⟨i, hi, hrest⟩ := Option.map_eq_some_iff.1 hi0
  simp only [Prod.mk.injEq] at hrest
  obtain ⟨i1, i2, i3⟩ := hrest
  have h := run_make (P := Try.prog) w 65 69 i _ Try.underlying65 hi i1 .i64 .i64 (n : Int) (n : Int) (by omega) (Int.le_refl _) (by rw [i3]; omega) (by omega)
  rw [i2, Int.toNat_natCast] at h
  exact h
theorem zRw_new (w : World) (n : Nat) : PreV (w.alloc (.cells (zRw n) 69)) 69 w.heap.size (n * 2) (fun i => (zRw n).getD i undef) := by
  refine ⟨zRw n, heap_alloc_new w _, fun i hi => ?_⟩
  have : i < (zRw n).size := by rw [zRw_size]; exact hi
  simp [this]
/-- block g holds W rows, of which the first k say how many are wrong, and whether -/
structure RowsR (w : World) (g W : Nat) (f : Nat → Value) (m : Nat → Nat) (o : Nat → Bool) (k : Nat) : Prop where
  pre : PreV w 69 g (W * 2) f
  each : ∀ j, j < k → f (j * 2) = .int .i64 (m j : Int) ∧ f (j * 2 + 1) = .bool (o j)
section
variable {w w' : World} {g W k : Nat} {f : Nat → Value} {m : Nat → Nat} {o : Nat → Bool}
theorem RowsR.keep (h : RowsR w g W f m o k) (hb : Below w.heap.size w w') : RowsR w' g W f m o k := ⟨h.pre.below hb, h.each⟩
theorem RowsR.c0 (h : RowsR w g W f m o W) {j : Nat} (hj : j < W) : w.cell? ⟨g, j * 2, none⟩ = some (.int .i64 (m j : Int)) := by
  rw [← (h.each j hj).1]; exact h.pre.cell (by omega)
theorem RowsR.c1 (h : RowsR w g W f m o W) {j : Nat} (hj : j < W) : w.cell? ⟨g, j * 2 + 1, none⟩ = some (.bool (o j)) := by
  rw [← (h.each j hj).2]; exact h.pre.cell (by omega)
theorem RowsR.other (h : RowsR w g W f m o k) {g' i : Nat} (v : Value) (hne : g ≠ g') : RowsR (w.setCell ⟨g', i, none⟩ v) g W f m o k := ⟨h.pre.other v hne, h.each⟩
theorem RowsR.lay (h : RowsR w g W f m o k) : ∃ f', RowsR ((w.setCell ⟨g, k * 2, none⟩ (.int .i64 (m k : Int))).setCell ⟨g, k * 2 + 1, none⟩ (.bool (o k))) g W f' m o (k + 1) := by
  refine ⟨_, (h.pre.set_ (k * 2) _).set_ (k * 2 + 1) _, fun j hj => ?_⟩
  show (if j * 2 = k * 2 + 1 then Value.bool (o k) else if j * 2 = k * 2 then Value.int .i64 (m k : Int) else f (j * 2)) = _ ∧ (if j * 2 + 1 = k * 2 + 1 then Value.bool (o k) else if j * 2 + 1 = k * 2 then Value.int .i64 (m k : Int) else f (j * 2 + 1)) = _
  by_cases e : j = k
  · subst e
    rw [if_neg (by omega), if_pos rfl, if_pos rfl]
    exact ⟨rfl, rfl⟩
  · rw [if_neg (by omega), if_neg (by omega), if_neg (by omega), if_neg (by omega)]
    exact h.each j (by omega)
end
set_option maxHeartbeats 4000000 in
/-- Of, where there is none -/
theorem of_no {cs : List Nat} (hcs : Tab cs) {B P W K : Int} {A : Option Addr} {n c e0 : Nat} {w : World} (h6 : n ≤ 1000000) (he : rfE B P W K n = e0) (h0 : e0 ≠ 0) :
    Calls Try.prog 28 #[.agg (cells cs), .agg #[.int .i64 B, .int .i64 P, .int .i64 W, .int .i64 K], .slice A n c] w fun e w' => e = .returned (.tuple #[.slice none 0 0, .int .i64 (e0 : Int)]) ∧ Below w.heap.size w w' := by
  obtain ⟨wa, hwa⟩ : ∃ wa, wa = w.alloc (.cells (cells cs) 33) := ⟨_, rfl⟩
  obtain ⟨wb, hwb⟩ : ∃ wb, wb = wa.alloc (.cells #[.int .i64 B, .int .i64 P, .int .i64 W, .int .i64 K] 23) := ⟨_, rfl⟩
  have hza : wa.heap.size = w.heap.size + 1 := by rw [hwa, World.size_alloc]
  have hba : Below w.heap.size w wa := by rw [hwa]; exact Ge.below_alloc w _
  have hbb : Below w.heap.size w wb := hba.trans (by rw [hwb]; exact (Ge.below_alloc wa _).mono hba.size)
  have hT : Tb wb w.heap.size cs := by
    have : Tb wa w.heap.size cs := by rw [hwa]; exact tb_new w cs
    exact this.keep (by rw [hwb]; exact Ge.below_alloc wa _)
  have hX : Ge.Box wb (w.heap.size + 1) B P W K := by
    have := Ge.Box.new wa B P W K
    rwa [← hwb, hza] at this
  have hwd := Lib.hid (words_no hcs (A := A) (c := c) (w := wb) h6 he h0)
  have hn : ((e0 : Int) != 0) = true := by simp; omega
  obtain ⟨x1, x2, x3, x4, x5⟩ := id hX
  have hi1 := hT.is hcs.1
  have hi2 := hT.of
  clear he
  go_enter Try.func28, Try.ntmps28
  go_upto_region 1 with fail
  rw [← hwa, ← hwb]
  clear hwa hwb
  go_wp2_with (go_at_call 52; (with_reducible refine hwd.out.mono ?_); rintro e w1 ⟨rfl, hb1⟩)
  go_ret2
  exact ⟨rfl, hbb.trans (hb1.mono hbb.size)⟩
set_option maxHeartbeats 8000000 in
/-- Of, of a page -/
theorem of_page {cs : List Nat} (hcs : Tab cs) {B P : Int} {W K : Nat} {A : Option Addr} {c : Nat} {xs : List (Nat × Nat)} {ss : List Nat} {w : World} (he : rfE B P (W : Int) (K : Int) xs.length = 0) (hW : 1 ≤ W ∧ W ≤ 4) (hK : 1 ≤ K ∧ K ≤ 64) (hs : Cx w w.heap.size A xs) (hl : xs.length = W * (K + 16))
    (hn : ss.length = xs.length) (hsl : ∀ i, i < xs.length → SlcIs (xA xs i) (at_ ss i)) (hb : ∀ y ∈ ss, y < 1024) (r : Nat → Option (List Nat)) (hr : ∀ j, j < W → RdW W (K + 16) ss (zX xs) j (r j)) :
    Calls Try.prog 28 #[.agg (cells cs), .agg #[.int .i64 B, .int .i64 P, .int .i64 (W : Int), .int .i64 (K : Int)], .slice A xs.length c] w
      fun e w' => ∃ g f, e = .returned (.tuple #[.slice (some ⟨g, 0, none⟩) W W, .int .i64 0]) ∧ w.heap.size ≤ g ∧ RowsR w' g W f (fun j => wrO W (K + 16) ss (zX xs) j (r j)) (fun j => (r j).isSome) W ∧ Below w.heap.size w w' := by
  obtain ⟨wa, hwa⟩ : ∃ wa, wa = w.alloc (.cells (cells cs) 33) := ⟨_, rfl⟩
  obtain ⟨wb, hwb⟩ : ∃ wb, wb = wa.alloc (.cells #[.int .i64 B, .int .i64 P, .int .i64 (W : Int), .int .i64 (K : Int)] 23) := ⟨_, rfl⟩
  have hza : wa.heap.size = w.heap.size + 1 := by rw [hwa, World.size_alloc]
  have hba : Below w.heap.size w wa := by rw [hwa]; exact Ge.below_alloc w _
  have hbb : Below w.heap.size w wb := hba.trans (by rw [hwb]; exact (Ge.below_alloc wa _).mono hba.size)
  have hT : Tb wb w.heap.size cs := by
    have : Tb wa w.heap.size cs := by rw [hwa]; exact tb_new w cs
    exact this.keep (by rw [hwb]; exact Ge.below_alloc wa _)
  have hX : Ge.Box wb (w.heap.size + 1) B P W K := by
    have := Ge.Box.new wa B P W K
    rwa [← hwb, hza] at this
  have hwd := Lib.hid (words_any hcs (c := c) he hW hK (hs.far hbb) hl hn hsl hb r hr)
  obtain ⟨x1, x2, x3, x4, x5⟩ := id hX
  have hi1 := hT.is hcs.1
  have hi2 := hT.of
  have hmk := fun w => run_makeRw w W (by omega)
  obtain ⟨m, hm⟩ : ∃ m, m = fun j => wrO W (K + 16) ss (zX xs) j (r j) := ⟨_, rfl⟩
  have hm' := Lib.hid hm
  rw [← hm] at hwd ⊢
  clear he hl hn hsl hb hr hs hm
  go_enter Try.func28, Try.ntmps28
  go_upto_region 1 with fail
  rw [← hwa, ← hwb]
  clear hwa hwb
  go_wp2_with (go_at_call 52; (with_reducible refine hwd.out.mono ?_); rintro e w1 ⟨g, f, rfl, hg, hWd, hb1⟩)
  have hbw1 := Lib.hid (hbb.trans (hb1.mono hbb.size))
  clear x1 x2 x3 x4 x5 hi1 hi2 hb1 hwd hT hX
  go_loopw [28] (fun p wr => ∃ i : Nat, i ≤ W ∧ p = .int .i64 i ∧ (∃ fr, RowsR wr w1.heap.size W fr m (fun j => (r j).isSome) i) ∧ Below w1.heap.size w1 wr) (fun p _ => W - (intOf p).toNat)
  case atStart => exact ⟨0, Nat.zero_le _, rfl, ⟨_, zRw_new w1 W, fun j h => absurd h (by omega)⟩, Ge.below_alloc w1 _⟩
  case round =>
    clear hmk
    obtain ⟨i, hi, rfl, ⟨fr, hR⟩, hB⟩ := hrel
    by_cases hlt : i < W
    · have hiI : (i : Int) < (W : Int) := by omega
      have hdi : decide (i < W) = true := decide_eq_true hlt
      have hWr := hWd.keep hB
      have hei := hWr.each i hlt
      obtain ⟨A0, l0, c0', e0, e1, e2⟩ : ∃ A0 l0 c0, f (i * 3) = .slice A0 l0 c0 ∧ f (i * 3 + 1) = .int .i64 (m i : Int) ∧ f (i * 3 + 2) = .bool (r i).isSome := by
        cases hri : r i with
        | none =>
          rw [hri] at hei
          obtain ⟨h0, h1, h2⟩ := hei.no
          exact ⟨_, _, _, h0, h1, h2⟩
        | some ys =>
          rw [hri] at hei
          obtain ⟨A, c, h0, _, _, _, h1, h2⟩ := hei.yes
          exact ⟨_, _, _, h0, h1, h2⟩
      have c0 := hWr.c0 hlt
      have c1 := hWr.c1 hlt
      have c2 := hWr.c2 hlt
      rw [e0] at c0
      rw [e1] at c1
      rw [e2] at c2
      have hO := Ge.below_alloc wr (.cells #[.slice A0 l0 c0', .int .i64 (m i : Int), .bool (r i).isSome] 106)
      have hRq := hR.keep hO
      have j0 := hRq.pre.cell (i := i * 2) (by omega)
      have j1 := hRq.pre.cell (i := i * 2 + 1) (by omega)
      have jf := hRq.pre.frozen
      obtain ⟨f', hl⟩ := hRq.lay
      have hl' := Lib.hid hl
      have hBn := Lib.hid (((hB.trans (hO.mono hB.size)).setCell (show w1.heap.size ≤ w1.heap.size from Nat.le_refl _) (p := ⟨w1.heap.size, i * 2, none⟩) (.int .i64 (m i : Int))).setCell (show w1.heap.size ≤ w1.heap.size from Nat.le_refl _) (p := ⟨w1.heap.size, i * 2 + 1, none⟩) (.bool (r i).isSome))
      generalize m i = M at *
      generalize (r i).isSome = O at *
      clear hR hB hRq hO hWr hei hl
      go_wp2_with fail
      go_roundw
      case rel => exact ⟨i + 1, by omega, by go_num, ⟨f', hl'.out⟩, hBn.out⟩
      case measure => simp [intOf]; omega
    · obtain rfl : i = W := by omega
      have hdi : decide (i < i) = false := decide_eq_false (Nat.lt_irrefl _)
      have hfin := Lib.hid (hbw1.out.trans (hB.mono hbw1.out.size))
      replace hR := Lib.hid hR
      clear hB
      go_wp2_with fail
      go_ret2
      exact ⟨_, fr, rfl, hbw1.out.size, hR.out, hfin.out⟩
end Go.Proofs.Ytmchelbmeajcnaa
namespace Go.Proofs.Ytmchelbmeajcnaa
open Go.RowKit Go.Gf Go.Fl
set_option linter.unusedVariables false
set_option linter.unusedSimpArgs false
set_option maxRecDepth 20000
attribute [local go_sem ↓] exec_load_tb Cl.quiet_since
attribute [local go_sem] tbAt_ptr tbIn_ptr

/-- the sum of the first n -/
def smI (f : Nat → Int) : Nat → Int
  | 0 => 0
  | n + 1 => smI f n + f n
theorem smI_le {f : Nat → Int} {m : Int} : ∀ {n : Nat}, (∀ i, i < n → -m ≤ f i ∧ f i ≤ m) → -(n * m) ≤ smI f n ∧ smI f n ≤ n * m
  | 0, _ => by simp [smI]
  | n + 1, h => by
    have ih := smI_le (f := f) (m := m) (n := n) fun i hi => h i (by omega)
    have h1 := h n (by omega)
    have e : ((n + 1 : Nat) : Int) * m = n * m + m := by push_cast; rw [Int.add_mul, Int.one_mul]
    rw [e]
    show -((n : Int) * m + m) ≤ smI f n + f n ∧ smI f n + f n ≤ n * m + m
    generalize (n : Int) * m = q at *
    omega
theorem smI_congr {f g : Nat → Int} : ∀ {n : Nat}, (∀ i, i < n → f i = g i) → smI f n = smI g n
  | 0, _ => rfl
  | n + 1, h => by
    show smI f n + f n = smI g n + g n
    rw [smI_congr (fun i hi => h i (by omega)), h n (by omega)]
theorem smI_const (a : Int) : ∀ n : Nat, smI (fun _ => a) n = a * n
  | 0 => by simp [smI]
  | n + 1 => by
    show smI (fun _ => a) n + a = _
    rw [smI_const a n]; push_cast; rw [Int.mul_add, Int.mul_one]
/-- how far each point is off from that of the symbol meant, in quarters -/
def sfR (P : List Nat) (Z : Nat → Int × Int) (i : Nat) : Int := (Z i).1 - ofQ (at_ P i / 32)
def sfI (P : List Nat) (Z : Nat → Int × Int) (i : Nat) : Int := (Z i).2 - ofQ (at_ P i)
set_option maxHeartbeats 8000000 in
/-- Shift, where each word can be read -/
theorem shift_yes {cs : List Nat} (hcs : Tab cs) {B P : Int} {W K : Nat} {A : Option Addr} {c : Nat} {xs : List (Nat × Nat)} {ss : List Nat} {w : World} (he : rfE B P (W : Int) (K : Int) xs.length = 0) (hW : 1 ≤ W ∧ W ≤ 4) (hK : 1 ≤ K ∧ K ≤ 64) (hs : Cx w w.heap.size A xs) (hl : xs.length = W * (K + 16))
    (hn : ss.length = xs.length) (hsl : ∀ i, i < xs.length → SlcIs (xA xs i) (at_ ss i)) (hb : ∀ y ∈ ss, y < 1024) (ws : Nat → List Nat) (hg : ∀ j, j < W → GoodR W (K + 16) ss (zX xs) j (ws j)) (PG : List Nat) (hPG : sayW W (K + 16) ws = PG) (Z : Nat → Int × Int) (hZ : Quart xs 2000 Z) :
    Calls Try.prog 27 #[.agg (cells cs), .agg #[.int .i64 B, .int .i64 P, .int .i64 (W : Int), .int .i64 (K : Int)], .slice A xs.length c] w
      fun e w' => (∃ rx ry, e = .returned (.tuple #[.complex .f64 rx ry, .int .i64 0]) ∧ Qt rx (smI (sfR PG Z) xs.length) ∧ Qt ry (smI (sfI PG Z) xs.length)) ∧ Below w.heap.size w w' := by
  obtain ⟨wa, hwa⟩ : ∃ wa, wa = w.alloc (.cells (cells cs) 33) := ⟨_, rfl⟩
  obtain ⟨wb, hwb⟩ : ∃ wb, wb = wa.alloc (.cells #[.int .i64 B, .int .i64 P, .int .i64 (W : Int), .int .i64 (K : Int)] 23) := ⟨_, rfl⟩
  have hza : wa.heap.size = w.heap.size + 1 := by rw [hwa, World.size_alloc]
  have hba : Below w.heap.size w wa := by rw [hwa]; exact Ge.below_alloc w _
  have hbb : Below w.heap.size w wb := hba.trans (by rw [hwb]; exact (Ge.below_alloc wa _).mono hba.size)
  have hT : Tb wb w.heap.size cs := by
    have : Tb wa w.heap.size cs := by rw [hwa]; exact tb_new w cs
    exact this.keep (by rw [hwb]; exact Ge.below_alloc wa _)
  have hX : Ge.Box wb (w.heap.size + 1) B P W K := by
    have := Ge.Box.new wa B P W K
    rwa [← hwb, hza] at this
  have hwd := Lib.hid (words_any hcs (c := c) he hW hK (hs.far hbb) hl hn hsl hb (fun j => some (ws j)) (fun j hj => hg j hj))
  have hwl : ∀ j, j < W → (ws j).length = K + 16 := fun j hj => near_len (hg j hj).1
  have hPl : PG.length = xs.length := by rw [← hPG, sayW_len (n := K + 16) (by omega) hwl (by omega), hl]
  have hPb : ∀ y ∈ PG, y < 1024 := by rw [← hPG]; exact sayW_bd fun j hj => (hg j hj).1.bd
  have h320 : xs.length ≤ 320 := by rw [hl]; exact Nat.mul_le_mul hW.2 (show K + 16 ≤ 80 by omega)
  have hmd : Hid (∀ (w1 : World) (g : Nat) (f : Nat → Value) (m : Nat → Nat), WdsI w1 g W f (fun j => some (ws j)) m W → Calls Try.prog 53 #[.agg #[.int .i64 B, .int .i64 P, .int .i64 (W : Int), .int .i64 (K : Int)], .slice (some ⟨g, 0, none⟩) W W] w1
      fun e w' => ∃ v, e = .returned (.tuple #[v, .bool true]) ∧ OwnS w1 w' v PG ∧ Below w1.heap.size w1 w') := fun w1 g f m h => by
    rw [← hPG]
    exact cmended_yes hW hK h ws (fun j _ => rfl) hwl
  have hbR : ∀ i, i < xs.length → -3000 ≤ sfR PG Z i ∧ sfR PG Z i ≤ 3000 := fun i hi => by
    obtain ⟨_, _, b1, b2⟩ := hZ i hi
    unfold sfR ofQ
    omega
  have hbI : ∀ i, i < xs.length → -3000 ≤ sfI PG Z i ∧ sfI PG Z i ≤ 3000 := fun i hi => by
    obtain ⟨_, _, b1, b2⟩ := hZ i hi
    unfold sfI ofQ
    omega
  have HBR := Lib.hid hbR
  have HBI := Lib.hid hbI
  have HS := Lib.hid (hs.far hbb)
  have HZ := Lib.hid hZ
  have HPl := Lib.hid hPl
  have HPb := Lib.hid hPb
  obtain ⟨x1, x2, x3, x4, x5⟩ := id hX
  have hi1 := hT.is hcs.1
  have hi2 := hT.of
  obtain ⟨n, hxn⟩ : ∃ n, xs.length = n := ⟨_, rfl⟩
  have HN := Lib.hid hxn
  rw [hxn] at hwd h320 ⊢
  clear he hl hn hsl hb hg hs hPG hwl hPl hPb hZ hbR hbI hxn
  go_enter Try.func27, Try.ntmps27
  go_upto_region 1 with fail
  rw [← hwa, ← hwb]
  clear hwa hwb
  go_wp2_with (first
    | (go_at_call 52; (with_reducible refine hwd.out.mono ?_); rintro e w1 ⟨g, f, rfl, hg, hWd, hb1⟩; obtain ⟨n1, n2, n3, n4, n5⟩ := hX.keep hb1; have hm := Lib.hid (hmd.out w1 g f _ hWd); have hbb1 := hb1)
    | (go_at_call 53; (with_reducible refine hm.out.mono ?_); rintro e w2 ⟨v2, rfl, ho2, hb2⟩; have hb12 := hbb1.trans (hb2.mono hbb1.size); obtain ⟨A2, c2, rfl, hc2, hs2⟩ := ho2.sl))
  have hHS2 := Lib.hid (HS.out.far hb12)
  have hS2 := Lib.hid hs2
  have hbw2 := Lib.hid (hbb.trans (hb12.mono hbb.size))
  rw [HPl.out, HN.out]
  clear x1 x2 x3 x4 x5 hi1 hi2 hwd hmd hm hT hX n1 n2 n3 n4 n5 hb1 hbb1 hb2 hb12 ho2 hc2 hs2 hWd
  go_loopw [12, 35] (fun q p wr => ∃ i rx ry : Nat, i ≤ n ∧ p = .int .i64 i ∧ q = .complex .f64 rx ry ∧ Qt rx (smI (sfR PG Z) i) ∧ Qt ry (smI (sfI PG Z) i) ∧ Below w2.heap.size w2 wr) (fun _ p _ => n - (intOf p).toNat)
  case atStart => exact ⟨0, 0, 0, Nat.zero_le _, rfl, rfl, qt_zero, qt_zero, Below.refl _ _⟩
  case round =>
    obtain ⟨i, rx, ry, hi, rfl, rfl, qx, qy, hB⟩ := hrel
    by_cases hlt : i < n
    · have hiI : (i : Int) < (n : Int) := by omega
      have hd : decide (i < n) = true := decide_eq_true hlt
      obtain ⟨a, rfl, hab, hcell⟩ := (hHS2.out.below hB).at_ (i := i) (by rw [HN.out]; exact hlt)
      obtain ⟨b, rfl, hbb2, hcellb⟩ := (hS2.out.below hB).at_ (i := i) (by rw [HPl.out, HN.out]; exact hlt)
      rw [← at_get (by rw [HPl.out, HN.out]; exact hlt)] at hcellb
      obtain ⟨q1, q2, b1, b2⟩ := HZ.out i (by rw [HN.out]; exact hlt)
      have hsb : at_ PG i < 1024 := at_lt HPb.out (by decide)
      have hstR : smI (sfR PG Z) (i + 1) = smI (sfR PG Z) i + ((Z i).1 - ofQ (at_ PG i / 32)) := rfl
      have hstI : smI (sfI PG Z) (i + 1) = smI (sfI PG Z) i + ((Z i).2 - ofQ (at_ PG i)) := rfl
      have hR1 := smI_le (f := sfR PG Z) (m := 3000) (n := i + 1) fun t ht => HBR.out t (by rw [HN.out]; omega)
      have hI1 := smI_le (f := sfI PG Z) (m := 3000) (n := i + 1) fun t ht => HBI.out t (by rw [HN.out]; omega)
      rw [hstR] at hR1
      rw [hstI] at hI1
      generalize xA xs i = p at *
      obtain ⟨px, py⟩ := p
      generalize Z i = z at *
      obtain ⟨za, zb⟩ := z
      dsimp only at hcell q1 q2 b1 b2 hstR hstI hR1 hI1
      generalize at_ PG i = s at *
      obtain ⟨ox, oy, o1, o2, hoff⟩ := poff_any q1 q2 (by omega) (by omega) hsb
      obtain ⟨tx, h1, t1⟩ := qt_add qx o1 (by omega)
      obtain ⟨ty, h2, t2⟩ := qt_add qy o2 (by omega)
      have hcs' : cSumBits .add .f64 rx ry ox oy = some (tx, ty) := by unfold cSumBits; rw [h1, h2]; rfl
      have hop := fun (w : World) t => run_complex_sum (P := Try.prog) w .add (Or.inl rfl) t .f64 _ _ _ _ _ _ hcs'
      rw [← hstR] at t1
      rw [← hstI] at t2
      have T1 := Lib.hid t1
      have T2 := Lib.hid t2
      have HO := Lib.hid hoff
      replace hB := Lib.hid hB
      clear hstR hstI hR1 hI1 o1 o2 h1 h2 hcs' t1 t2 hoff qx qy q1 q2 b1 b2
      go_wp2_with (first
        | (go_at_call 49; (with_reducible refine (HO.out _).mono ?_); rintro e w' ⟨rfl, rfl⟩)
        | simp only [hop])
      go_roundw
      case rel => exact ⟨i + 1, tx, ty, by omega, by go_num, rfl, T1.out, T2.out, hB.out⟩
      case measure => simp [intOf]; omega
    · obtain rfl : i = n := by omega
      have hd : decide (i < i) = false := decide_eq_false (Nat.lt_irrefl _)
      have T1 := Lib.hid qx
      have T2 := Lib.hid qy
      have hfin := Lib.hid (hbw2.out.trans (hB.mono hbw2.out.size))
      clear hB qx qy
      go_wp2_with fail
      go_ret2
      exact ⟨⟨rx, ry, rfl, T1.out, T2.out⟩, hfin.out⟩
set_option maxHeartbeats 4000000 in
/-- Shift, where a word can't be read -/
theorem shift_data {cs : List Nat} (hcs : Tab cs) {B P : Int} {W K : Nat} {A : Option Addr} {c : Nat} {xs : List (Nat × Nat)} {ss : List Nat} {w : World} (he : rfE B P (W : Int) (K : Int) xs.length = 0) (hW : 1 ≤ W ∧ W ≤ 4) (hK : 1 ≤ K ∧ K ≤ 64) (hs : Cx w w.heap.size A xs) (hl : xs.length = W * (K + 16))
    (hn : ss.length = xs.length) (hsl : ∀ i, i < xs.length → SlcIs (xA xs i) (at_ ss i)) (hb : ∀ y ∈ ss, y < 1024) (r : Nat → Option (List Nat)) (hr : ∀ j, j < W → RdW W (K + 16) ss (zX xs) j (r j)) (hno : ∃ j, j < W ∧ r j = none) :
    Calls Try.prog 27 #[.agg (cells cs), .agg #[.int .i64 B, .int .i64 P, .int .i64 (W : Int), .int .i64 (K : Int)], .slice A xs.length c] w
      fun e w' => e = .returned (.tuple #[.complex .f64 0 0, .int .i64 4]) ∧ Below w.heap.size w w' := by
  obtain ⟨wa, hwa⟩ : ∃ wa, wa = w.alloc (.cells (cells cs) 33) := ⟨_, rfl⟩
  obtain ⟨wb, hwb⟩ : ∃ wb, wb = wa.alloc (.cells #[.int .i64 B, .int .i64 P, .int .i64 (W : Int), .int .i64 (K : Int)] 23) := ⟨_, rfl⟩
  have hza : wa.heap.size = w.heap.size + 1 := by rw [hwa, World.size_alloc]
  have hba : Below w.heap.size w wa := by rw [hwa]; exact Ge.below_alloc w _
  have hbb : Below w.heap.size w wb := hba.trans (by rw [hwb]; exact (Ge.below_alloc wa _).mono hba.size)
  have hT : Tb wb w.heap.size cs := by
    have : Tb wa w.heap.size cs := by rw [hwa]; exact tb_new w cs
    exact this.keep (by rw [hwb]; exact Ge.below_alloc wa _)
  have hX : Ge.Box wb (w.heap.size + 1) B P W K := by
    have := Ge.Box.new wa B P W K
    rwa [← hwb, hza] at this
  have hwd := Lib.hid (words_any hcs (c := c) he hW hK (hs.far hbb) hl hn hsl hb r hr)
  have hmd : Hid (∀ (w1 : World) (g : Nat) (f : Nat → Value) (m : Nat → Nat), WdsI w1 g W f r m W → Calls Try.prog 53 #[.agg #[.int .i64 B, .int .i64 P, .int .i64 (W : Int), .int .i64 (K : Int)], .slice (some ⟨g, 0, none⟩) W W] w1
      fun e w' => e = .returned (.tuple #[.slice none 0 0, .bool false]) ∧ Below w1.heap.size w1 w') := fun w1 g f m h => cmended_no hW hK h hr hno
  obtain ⟨x1, x2, x3, x4, x5⟩ := id hX
  have hi1 := hT.is hcs.1
  have hi2 := hT.of
  clear he hl hn hsl hb hr hs hno
  go_enter Try.func27, Try.ntmps27
  go_upto_region 1 with fail
  rw [← hwa, ← hwb]
  clear hwa hwb
  go_wp2_with (first
    | (go_at_call 52; (with_reducible refine hwd.out.mono ?_); rintro e w1 ⟨g, f, rfl, hg, hWd, hb1⟩; obtain ⟨n1, n2, n3, n4, n5⟩ := hX.keep hb1; have hm := Lib.hid (hmd.out w1 g f _ hWd); have hbb1 := hb1)
    | (go_at_call 53; (with_reducible refine hm.out.mono ?_); rintro e w2 ⟨rfl, hb2⟩; have hb12 := hbb1.trans (hb2.mono hbb1.size)))
  go_ret2
  exact ⟨rfl, hbb.trans (hb12.mono hbb.size)⟩
end Go.Proofs.Ytmchelbmeajcnaa
namespace Go.Proofs.Ytmchelbmeajcnaa
open Go.RowKit Go.Gf Go.Fl
set_option linter.unusedVariables false
set_option linter.unusedSimpArgs false
set_option maxRecDepth 20000

/-- where the points of symbols lie -/
def ownZ (S : List Nat) (j : Nat) : Int × Int := (ofQ (at_ S j / 32), ofQ (at_ S j))
/-- is a symbol wrong, or its point nought? -/
def offZ (S : List Nat) (Z : Nat → Int × Int) (j : Nat) : Bool := decide (Z j = (0, 0)) || decide (slcQ (Z j).1 (Z j).2 ≠ at_ S j)
/-- the symbols -/
def symZ (n : Nat) (Z : Nat → Int × Int) : List Nat := rm n fun j => slcQ (Z j).1 (Z j).2
theorem symZ_len (n : Nat) (Z : Nat → Int × Int) : (symZ n Z).length = n := rm_len _ _
theorem symZ_bd (n : Nat) (Z : Nat → Int × Int) : ∀ y ∈ symZ n Z, y < 1024 := rm_mem fun j _ => slcQ_lt _ _
theorem qt_of (s : Nat) : Qt (L ((s : Int) / 32)) (ofQ (s / 32)) ∧ Qt (L (s : Int)) (ofQ s) := by
  constructor
  · have := Qt.whole (L_is ((s : Int) / 32))
    rwa [show 4 * (2 * ((s : Int) / 32 % 32) - 31) = ofQ (s / 32) by unfold ofQ; omega] at this
  · have := Qt.whole (L_is (s : Int))
    rwa [show 4 * (2 * ((s : Int) % 32) - 31) = ofQ s by unfold ofQ; omega] at this
theorem ofQ_bd (k : Nat) : -124 ≤ ofQ k ∧ ofQ k ≤ 124 := by unfold ofQ; omega
theorem quart_own (S : List Nat) : Quart (S.map ptB) 2000 (ownZ S) := fun i hi => by
  rw [List.length_map] at hi
  rw [pts_at hi]
  have h1 := ofQ_bd (at_ S i / 32)
  have h2 := ofQ_bd (at_ S i)
  refine ⟨(qt_of _).1, (qt_of _).2, ?_, ?_⟩ <;> dsimp only [ownZ] <;> omega
theorem levQ_of (k : Nat) : levQ (ofQ k) = k % 32 := by unfold levQ ofQ; omega
theorem dQ_own (S : List Nat) (j : Nat) : dQ (ownZ S j) = 0 := by
  unfold dQ ownZ
  dsimp only
  rw [levQ_of, levQ_of]
  unfold ofQ
  omega
theorem slcQ_own {s : Nat} (h : s < 1024) : slcQ (ofQ (s / 32)) (ofQ s) = s := by unfold slcQ; rw [levQ_of, levQ_of]; omega
theorem zP_q {x y : Nat} {a b : Int} (hx : Qt x a) (hy : Qt y b) : zP (x, y) = decide (((a, b) : Int × Int) = (0, 0)) := by
  show ((FloatKind.f64.format.order x 0 == some .eq) && (FloatKind.f64.format.order y 0 == some .eq)) = _
  rw [qt_eqb hx qt_zero, qt_eqb hy qt_zero, ← Bool.decide_and, decide_eq_decide, Prod.mk.injEq]
section
variable {xs : List (Nat × Nat)} {Z : Nat → Int × Int} {n : Nat} {S : List Nat}
theorem quart_slc (h : Quart xs 2000 Z) (hn : xs.length = n) : ∀ i, i < xs.length → SlcIs (xA xs i) (at_ (symZ n Z) i) := fun i hi => by
  obtain ⟨q1, q2, b1, b2⟩ := h i hi
  unfold symZ
  rw [at_rm, if_pos (by omega)]
  exact slc_q q1 q2 (by omega) (by omega)
theorem quart_z (h : Quart xs 2000 Z) {i : Nat} (hi : i < xs.length) : zX xs i = decide (Z i = (0, 0)) := by
  obtain ⟨q1, q2, _, _⟩ := h i hi
  exact zP_q q1 q2
theorem quart_off (h : Quart xs 2000 Z) (hn : xs.length = n) {i : Nat} (hi : i < xs.length) : offB S (symZ n Z) (zX xs) i = offZ S Z i := by
  unfold offB offZ
  rw [quart_z h hi]
  unfold symZ
  rw [at_rm, if_pos (by omega)]
theorem offZ_own (hS : ∀ y ∈ S, y < 1024) (j : Nat) : offZ S (ownZ S) j = false := by
  unfold offZ ownZ
  dsimp only
  rw [slcQ_own (at_lt' hS j)]
  simp only [ne_eq, not_true_eq_false, decide_false, Bool.or_false, decide_eq_false_iff_not, Prod.mk.injEq, not_and]
  intro h
  unfold ofQ at h
  omega
end
/-- how many are off in codeword j -/
def cntZ (S : List Nat) (Z : Nat → Int × Int) (W n j : Nat) : Nat := bc (fun t => offZ S Z (t * W + j)) n
section
variable {B P : Int} {W K N n : Nat} {S : List Nat} {Z : Nat → Int × Int} {xs : List (Nat × Nat)}
/-- each word is read, where at most eight are off -/
theorem good_Z (h0 : 0 < W) (hl : S.length = W * K) (hS : ∀ y ∈ S, y < 1024) (hn : n = W * (K + 16)) (hx : xs.length = n) (hq : Quart xs 2000 Z) {j : Nat} (hj : j < W) (h8 : cntZ (pageL W S) Z W (K + 16) j ≤ 8) :
    GoodR W (K + 16) (symZ n Z) (zX xs) j ((rowsL W S).getD j []) ∧ nbW W (K + 16) (symZ n Z) (zX xs) j ((rowsL W S).getD j []) = cntZ (pageL W S) Z W (K + 16) j := by
  have e : bc (fun t => offB (pageL W S) (symZ n Z) (zX xs) (t * W + j)) (K + 16) = cntZ (pageL W S) Z W (K + 16) j := bc_congr fun t ht => quart_off hq hx (by rw [hx, hn]; exact place_lt hj ht)
  refine ⟨good_page h0 hl hS rfl hj (by rw [e]; exact h8), ?_⟩
  rw [nb_page hl rfl hj, e]
/-- none is read, where more than eight are nought -/
theorem bad_Z (hn : n = W * (K + 16)) (hx : xs.length = n) (hq : Quart xs 2000 Z) {ss : List Nat} {j : Nat} (hj : j < W) (h9 : 8 < bc (fun t => decide (Z (t * W + j) = (0, 0))) (K + 16)) : ∀ ys, ¬ GoodR W (K + 16) ss (zX xs) j ys := fun ys hg => by
  have := hg.2
  have e : bc (fun t => zX xs (t * W + j)) (K + 16) = bc (fun t => decide (Z (t * W + j) = (0, 0))) (K + 16) := bc_congr fun t ht => quart_z hq (by rw [hx, hn]; exact place_lt hj ht)
  have h2 : bc (fun t => zX xs (t * W + j)) (K + 16) ≤ nbW W (K + 16) ss (zX xs) j ys := bc_mono fun t _ e => by
    show (zX xs (t * W + j) || _) = true
    rw [e]; rfl
  omega
theorem sayW_page (hl : S.length = W * K) (h0 : 0 < W) : sayW W (K + 16) (fun j => (rowsL W S).getD j []) = pageL W S := by
  unfold sayW pageL
  congr 1
  have e : ((List.range W).map fun j => ((rowsL W S).getD j []).take (K + 16)) = (List.range W).map fun j => (rowsL W S).getD j [] := by
    refine List.map_congr_left fun j hj => ?_
    have hj' := List.mem_range.1 hj
    rw [← rowsL_all hl h0 _ (getD_mem (by rw [rowsL_len]; exact hj')), List.take_length]
  rw [e]
  have := list_range_getD (rowsL W S)
  rwa [rowsL_len] at this
theorem rfE_page {W' K' : Nat} (hM : Ge.mayG B P (W' : Int) (K' : Int) = true) (hx : xs.length = W' * (K' + 16)) : rfE B P (W' : Int) (K' : Int) xs.length = 0 := by
  obtain ⟨W2, K2, N', hWe, hKe, hN', hW1, hW4, hK1, hK64, h8', h256, hsg, hcg⟩ := mayG_of hM
  obtain rfl : W' = W2 := Int.ofNat.inj hWe
  obtain rfl : K' = K2 := Int.ofNat.inj hKe
  exact rfE_ok hM (by rw [hcg, hx])
/-- Of, where at most eight are off in each codeword -/
theorem of_Z {cs : List Nat} (hcs : Tab cs) {A : Option Addr} {c : Nat} {w : World} (hM : Ge.mayG B P (W : Int) (K : Int) = true) (hW : 1 ≤ W ∧ W ≤ 4) (hK : 1 ≤ K ∧ K ≤ 64) (hl : S.length = W * K) (hS : ∀ y ∈ S, y < 1024) (hn : n = W * (K + 16)) (hx : xs.length = n) (hq : Quart xs 2000 Z) (hs : Cx w w.heap.size A xs)
    (h8 : ∀ j, j < W → cntZ (pageL W S) Z W (K + 16) j ≤ 8) :
    Calls Try.prog 28 #[.agg (cells cs), .agg #[.int .i64 B, .int .i64 P, .int .i64 (W : Int), .int .i64 (K : Int)], .slice A n c] w
      fun e w' => ∃ g f, e = .returned (.tuple #[.slice (some ⟨g, 0, none⟩) W W, .int .i64 0]) ∧ w.heap.size ≤ g ∧ RowsR w' g W f (cntZ (pageL W S) Z W (K + 16)) (fun _ => true) W ∧ Below w.heap.size w w' := by
  have h := of_page hcs (c := c) (rfE_page hM (by rw [hx, hn])) hW hK hs (by rw [hx, hn]) (by rw [symZ_len, hx]) (quart_slc hq hx) (symZ_bd n Z) (fun j => some ((rowsL W S).getD j [])) (fun j hj => (good_Z (by omega) hl hS hn hx hq hj (h8 j hj)).1)
  rw [hx] at h
  refine h.mono ?_
  rintro e w' ⟨g, f, he, hg, hR, hb⟩
  refine ⟨g, f, he, hg, ⟨hR.pre, fun j hj => ?_⟩, hb⟩
  obtain ⟨h1, h2⟩ := hR.each j hj
  refine ⟨?_, h2⟩
  rw [h1]
  show Value.int .i64 ((nbW W (K + 16) (symZ n Z) (zX xs) j ((rowsL W S).getD j []) : Nat) : Int) = _
  rw [(good_Z (by omega) hl hS hn hx hq hj (h8 j hj)).2]
/-- Shift, where at most eight are off in each codeword -/
theorem shift_Z {cs : List Nat} (hcs : Tab cs) {A : Option Addr} {c : Nat} {w : World} (hM : Ge.mayG B P (W : Int) (K : Int) = true) (hW : 1 ≤ W ∧ W ≤ 4) (hK : 1 ≤ K ∧ K ≤ 64) (hl : S.length = W * K) (hS : ∀ y ∈ S, y < 1024) (hn : n = W * (K + 16)) (hx : xs.length = n) (hq : Quart xs 2000 Z) (hs : Cx w w.heap.size A xs)
    (h8 : ∀ j, j < W → cntZ (pageL W S) Z W (K + 16) j ≤ 8) :
    Calls Try.prog 27 #[.agg (cells cs), .agg #[.int .i64 B, .int .i64 P, .int .i64 (W : Int), .int .i64 (K : Int)], .slice A n c] w
      fun e w' => (∃ rx ry, e = .returned (.tuple #[.complex .f64 rx ry, .int .i64 0]) ∧ Qt rx (smI (sfR (pageL W S) Z) n) ∧ Qt ry (smI (sfI (pageL W S) Z) n)) ∧ Below w.heap.size w w' := by
  have h := shift_yes hcs (c := c) (rfE_page hM (by rw [hx, hn])) hW hK hs (by rw [hx, hn]) (by rw [symZ_len, hx]) (quart_slc hq hx) (symZ_bd n Z) (fun j => (rowsL W S).getD j []) (fun j hj => (good_Z (by omega) hl hS hn hx hq hj (h8 j hj)).1) (pageL W S) (sayW_page hl (by omega)) Z hq
  rw [hx] at h
  exact h
end
end Go.Proofs.Ytmchelbmeajcnaa
