/- The device: what is carried out of an operation. -/
import Derived.Test.YtnndhbppgmnefaaDf
namespace Go.Proofs.Ytnndhbppgmnefaa
open Go.RowKit Go.Gf Go.Fl
set_option linter.unusedVariables false
set_option linter.unusedSimpArgs false
attribute [local go_sem ↓] Cl.quiet_after Cl.quiet_since
def progEv (x : Int × Int × Int) : Int := if x.2.1 = 1 then 6 else 0
/-- the error, and what is made -/
def carryR (M : Dev) (k : Int) (b p : Nat) (xs : List Nat) (x : Int × Int × Int) : Int × Dev :=
  if k = 2 then (progEv x, { M with pg := setPg M.pg b p (progPg (M.pg b p) xs (keepP M.n (9 * M.W) x)) })
  else if k = 3 then erasR M b x
  else if k = 4 then (0, if x.2.1 = 2 then M else { M with md := putB M.md b true })
  else (0, M)
theorem lex_carry1 : (Cl.opsAt 1 (Try.f47.body.getD .skip)).map (Region.lexB .any) = some true := by kernel_rfl
theorem own_keeps {w w' : World} {F : Nat → Prop} {o : Nat → Nat} {t : Nat} (h : Cl.Keeps (fun b => ¬ Own1 w F o t b) w w') : Cl.Keeps (fun b => ¬ Tg F o t b) w w' :=
  ⟨h.os, h.tape, h.output, h.size, fun b hb hk => h.block b hb (fun e => by
    rcases e with e | e
    · exact hk e
    · omega)⟩
theorem out_le {M : Dev} (h : Ge.mayG M.B M.P M.W M.K = true) : 9 * M.W ≤ M.n := by
  have h1 := Ge.may_of h
  have := Nat.mul_le_mul (Nat.le_refl M.W) (show 9 ≤ M.K + 16 by omega)
  unfold Dev.n
  omega
set_option maxRecDepth 20000 in
set_option maxHeartbeats 8000000 in
theorem carry_any {w : World} {F : Nat → Prop} {o : Nat → Nat} {L : Lay} {M : Dev} (h : RepO w F o L M) (hF : ∀ b, w.heap.size ≤ b → F b) (k : Int) {b p : Nat} (hb : b < M.B) (hp : p < M.P) (her : M.er b < 1000000) (A : Option Addr) (n c : Nat) {xs : List Nat}
    (hs : k = 2 → (M.pg b p).st = 0 ∧ Sl w w.heap.size A xs ∧ (∀ a, A = some a → a.block < w.heap.size ∧ ¬ F a.block) ∧ xs.length = n ∧ n = M.n ∧ n ≤ c ∧ ∀ x ∈ xs, x < 1024) (x : Int × Int × Int) (hx2 : 0 ≤ x.2.2 ∧ x.2.2 ≤ 9223372036854775807) :
    Calls Try.prog 47 #[.pointer (some ⟨L.g, 0, none⟩), .agg #[.int .i64 k, .int .i64 (b : Int), .int .i64 (p : Int), .slice A n c], .agg #[.int .i64 x.1, .int .i64 x.2.1, .int .i64 x.2.2]] w fun e w' => e = .returned (.int .i64 (carryR M k b p xs x).1) ∧ Cl.Keeps (fun b' => ¬ F b') w w' ∧ Rep w' F L (carryR M k b p xs x).2 := by
  obtain ⟨R, hR⟩ : ∃ R, Hid (carryR M k b p xs x = R) := ⟨_, Lib.hid rfl⟩
  rw [hR.out]
  have hP := Ge.may_of h.geo
  have hbI : (b : Int) < (M.B : Int) := by omega
  have hb64 : b < 64 := by omega
  have hA0 := below_alloc' w (.cells #[.int .i64 k, .int .i64 (b : Int), .int .i64 (p : Int), .slice A n c] 73)
  have hx0 := OBox.new w k b p A n c
  have hr0 := h.below hA0
  have og : o w.heap.size = 9 := h.new _ (Nat.le_refl _)
  have hs0 : k = 2 → (M.pg b p).st = 0 ∧ Sl (w.alloc (.cells #[.int .i64 k, .int .i64 (b : Int), .int .i64 (p : Int), .slice A n c] 73)) (w.alloc (.cells #[.int .i64 k, .int .i64 (b : Int), .int .i64 (p : Int), .slice A n c] 73)).heap.size A xs ∧ (∀ a, A = some a → a.block < (w.alloc (.cells #[.int .i64 k, .int .i64 (b : Int), .int .i64 (p : Int), .slice A n c] 73)).heap.size ∧ ¬ F a.block) ∧ xs.length = n ∧ n = M.n ∧ n ≤ c ∧ ∀ x ∈ xs, x < 1024 := fun e => ⟨(hs e).1, ((hs e).2.1.below hA0).more hA0.size, fun a ea => ⟨Nat.lt_of_lt_of_le ((hs e).2.2.1 a ea).1 hA0.size, ((hs e).2.2.1 a ea).2⟩, (hs e).2.2.2⟩
  clear hs h
  generalize hw1 : w.alloc (.cells #[.int .i64 k, .int .i64 (b : Int), .int .i64 (p : Int), .slice A n c] 73) = w1 at *
  have hA1 := below_alloc' w1 (.cells #[.int .i64 x.1, .int .i64 x.2.1, .int .i64 x.2.2] 26)
  have hf := FBox.new w1 x
  have og1 : o w1.heap.size = 9 := hr0.new _ (Nat.le_refl _)
  have hx1 := hx0.keep hA1
  have hr1 := hr0.below hA1
  have hs1 : k = 2 → (M.pg b p).st = 0 ∧ Sl (w1.alloc (.cells #[.int .i64 x.1, .int .i64 x.2.1, .int .i64 x.2.2] 26)) (w1.alloc (.cells #[.int .i64 x.1, .int .i64 x.2.1, .int .i64 x.2.2] 26)).heap.size A xs ∧ (∀ a, A = some a → a.block < (w1.alloc (.cells #[.int .i64 x.1, .int .i64 x.2.1, .int .i64 x.2.2] 26)).heap.size ∧ ¬ F a.block) ∧ xs.length = n ∧ n = M.n ∧ n ≤ c ∧ ∀ x ∈ xs, x < 1024 := fun e => ⟨(hs0 e).1, ((hs0 e).2.1.below hA1).more hA1.size, fun a ea => ⟨Nat.lt_of_lt_of_le ((hs0 e).2.2.1 a ea).1 hA1.size, ((hs0 e).2.2.1 a ea).2⟩, (hs0 e).2.2.2⟩
  have hA2 := hA0.trans (hA1.mono hA0.size)
  clear hs0 hr0 hx0
  generalize hw2 : w1.alloc (.cells #[.int .i64 x.1, .int .i64 x.2.1, .int .i64 x.2.2] 26) = w2 at *
  have hF2 : Hid (∀ b, w2.heap.size ≤ b → F b) := fun b hb => hF b (Nat.le_trans hA2.size hb)
  replace hA2 := Lib.hid hA2
  replace hs1 := Lib.hid hs1
  replace hr1 := Lib.hid hr1
  replace hx1 := Lib.hid hx1
  replace hf := Lib.hid hf
  replace hP := Lib.hid hP
  clear hF hA0 hA1
  have g4 := fun y : Cl.After w2.heap.size w2 => (hr1.out.below y.below).g4
  have o1 := fun y : Cl.After w2.heap.size w2 => (hx1.out.keep y.below).c1
  go_enter Try.func47, Try.ntmps47
  go_wp2_with fail
  refine Cl.region_after_at w2.heap.size (by kernel_rfl) lex_carry1 (by kernel_rfl) ?_
  try simp only [List.append]
  repeat (go_big_quiet_step (fail))
  refine wpQuiet_nil ?_
  rintro _ ⟨y, rfl⟩
  clear g4 o1
  have hx3 := Lib.hid (hx1.out.keep y.below)
  have hf3 := Lib.hid (hf.out.keep y.below)
  have hr3 := Lib.hid (hr1.out.below y.below)
  have hA3 := Lib.hid (hA2.out.trans (y.below.mono hA2.out.size))
  have hs3 : Hid (k = 2 → (M.pg b p).st = 0 ∧ Sl y.w y.w.heap.size A xs ∧ (∀ a, A = some a → a.block < y.w.heap.size ∧ ¬ F a.block) ∧ xs.length = n ∧ n = M.n ∧ n ≤ c ∧ ∀ x ∈ xs, x < 1024) := fun e => ⟨(hs1.out e).1, ((hs1.out e).2.1.below y.below).more y.below.size, fun a ea => ⟨Nat.lt_of_lt_of_le ((hs1.out e).2.2.1 a ea).1 y.below.size, ((hs1.out e).2.2.1 a ea).2⟩, (hs1.out e).2.2.2⟩
  have hF3 : Hid (∀ b, y.w.heap.size ≤ b → F b) := fun b hb => hF2.out b (Nat.le_trans y.below.size hb)
  clear hx1 hf hr1 hA2 hs1 hF2
  generalize y.w = w3 at *
  have e0 := hx3.out.c0
  by_cases hk2 : k = 2
  · subst hk2
    obtain ⟨s0, s1, s2, s3, s4, s5, s6⟩ := hs3.out rfl
    subst s4
    obtain rfl : (progEv x, { M with pg := setPg M.pg b p (progPg (M.pg b p) xs (keepP M.n (9 * M.W) x)) }) = R := hR.out
    clear hs3 hR
    have hbp : ∀ w4, Below w3.heap.size w3 w4 → Calls Try.prog 61 #[.pointer (some ⟨L.kb, b * 4, none⟩), .int .i64 (p : Int), .slice A M.n c, .agg #[.int .i64 x.1, .int .i64 x.2.1, .int .i64 x.2.2], .int .i64 (9 * (M.W : Int))] w4 fun e w' => e = .returned (.int .i64 (progEv x)) ∧ Cl.Keeps (fun b' => ¬ Tg F o (tg M.P b p) b') w4 w' ∧ Cl.Keeps (fun b' => ¬ F b') w4 w' ∧ Rep w' F L { M with pg := setPg M.pg b p (progPg (M.pg b p) xs (keepP M.n (9 * M.W) x)) } := fun w4 hb4 => by
      have hF4 : ∀ b, w4.heap.size ≤ b → F b := fun b hb => hF3.out b (Nat.le_trans hb4.size hb)
      have := bprogram_any (hr3.out.below hb4) hF4 hb hp s0 ((s1.below hb4).more hb4.size) (fun a ea => ⟨Nat.lt_of_lt_of_le (s2 a ea).1 hb4.size, (s2 a ea).2⟩) s3 rfl s5 s6 (9 * M.W) (out_le hr3.out.geo) x hx2
      rw [show ((9 * M.W : Nat) : Int) = 9 * (M.W : Int) from by simp] at this
      exact this.mono fun e w' ⟨h1, h2, h3⟩ => ⟨h1, own_keeps h2, Own1.not hF4 h2, h3⟩
    replace hbp := Lib.hid hbp
    have hw : wrap64 (9 * (M.W : Int)) = 9 * (M.W : Int) := IntWalk.wrap64_in _ (by have := hP.out; omega)
    have hgt := hr3.out.gt.2
    clear s0 s1 s2 s3 s5 s6
    go_wp2_with fail
    refine Cl.region_way0 (fun b' => ¬ Tg F o (tg M.P b p) b') 14 [(0, .r), (1, .r), (2, .r), (3, .r), (4, .r), (5, .r), (6, .r), (7, .r), (8, .r), (9, .r), (10, .r), (11, .r), (12, .c), (13, .r)] (by kernel_rfl) (by kernel_rfl) ?_
    intro w4 hk4
    have hb4 := hk4.below
    have hr4 := Lib.hid (hr3.out.below hb4)
    have hf4 := Lib.hid (hf3.out.keep hb4)
    have hx4 := Lib.hid (hx3.out.keep hb4)
    have hA4 := Lib.hid (hA3.out.trans (hb4.mono hA3.out.size))
    have hc := Lib.hid (hbp.out w4 hb4)
    clear hbp hr3 hf3 hx3 hA3 hk4 hb4
    have nt : ∀ {b'}, o b' < 10 → ¬ Tg F o (tg M.P b p) b' := fun h e => by have := e.2; unfold tg at this; omega
    have kx := fun y : Cl.Since (fun b' => ¬ Tg F o (tg M.P b p) b') w4 => hx4.out.block y.keeps.size (y.keeps.block _ hx4.out.lt (nt (by rw [og]; decide)))
    have kf := fun y : Cl.Since (fun b' => ¬ Tg F o (tg M.P b p) b') w4 => hf4.out.block y.keeps.size (y.keeps.block _ hf4.out.lt (nt (by rw [og1]; decide)))
    have g2 := fun y : Cl.Since (fun b' => ¬ Tg F o (tg M.P b p) b') w4 => (World.cell?_of_block (a := ⟨L.g, 2, none⟩) (y.keeps.block _ hr4.out.gl (nt (by rw [hgt]; decide)))).trans hr4.out.g2
    have o2 := fun y => (kx y).c2
    have o3 := fun y => (kx y).c3
    have f0 := fun y => (kf y).c0
    have f1 := fun y => (kf y).c1
    have f2 := fun y => (kf y).c2
    clear kx kf nt
    iterate 12 (refine Cl.way_r rfl ?_; go_big_quiet_step (fail); refine wpQuiet_nil ?_)
    clear o2 o3 f0 f1 f2 g2
    refine Cl.way_c rfl ?_
    go_wp2_with (go_at_call 61; (with_reducible refine hc.out.mono ?_); rintro e w5 ⟨rfl, hk5, hk6, hr5⟩; have hk6 := Lib.hid hk6; have hr5 := Lib.hid hr5)
    refine Cl.way_on hk5 ?_
    refine Cl.way_r rfl ?_; go_big_quiet_step (fail); refine wpQuiet_nil ?_
    refine Cl.way_end ?_
    go_wp2_with fail
    go_ret
    exact ⟨rfl, (Cl.Keeps.of_below hA4.out).trans hk6.out, hr5.out⟩
  · by_cases hk3 : k = 3
    · subst hk3
      obtain rfl : erasR M b x = R := hR.out
      have he := Lib.hid (berase_any hr3.out hF3.out hb her x hx2)
      obtain ⟨f0, f1, f2, f3⟩ := hf3.out
      clear hR hs3 hr3 hf3
      go_wp2_with (go_at_call 62; (with_reducible refine he.out.mono ?_); rintro e w5 ⟨rfl, hk6, hr5⟩; have hk6 := Lib.hid hk6; have hr5 := Lib.hid hr5)
      go_ret
      exact ⟨rfl, (Cl.Keeps.of_below hA3.out).trans hk6.out, hr5.out⟩
    · by_cases hk4 : k = 4
      · subst hk4
        obtain ⟨f0, f1, f2, f3⟩ := hf3.out
        have c2 := hr3.out.k2 b hb
        have cf := hr3.out.kf (b * 4 + 2)
        have hend : Hid (Rep (w3.setCell ⟨L.kb, b * 4 + 2, none⟩ (.bool true)) F L { M with md := putB M.md b true }) := Lib.hid ⟨o, hr3.out.setMd hb true⟩
        have hke : Hid (Cl.Keeps (fun b' => ¬ F b') w (w3.setCell ⟨L.kb, b * 4 + 2, none⟩ (.bool true))) := keeps_put (Cl.Keeps.of_below hA3.out) (fun e => e hr3.out.kt.1)
        by_cases h2 : x.2.1 = 2
        · obtain rfl : (0, M) = R := by rw [← hR.out]; unfold carryR; rw [if_neg (by decide), if_neg (by decide), if_pos rfl, if_pos h2]
          have hrr : Hid (Rep w3 F L M) := Lib.hid ⟨o, hr3.out⟩
          rw [h2] at f2
          clear hR hs3 hr3 hf3 c2 cf hend hke
          go_wp2_with fail
          go_ret
          exact ⟨rfl, Cl.Keeps.of_below hA3.out, hrr.out⟩
        · obtain rfl : (0, { M with md := putB M.md b true }) = R := by rw [← hR.out]; unfold carryR; rw [if_neg (by decide), if_neg (by decide), if_pos rfl, if_neg h2]
          have e2 : (x.2.1 != 2) = true := by simpa using h2
          clear hR hs3 hr3 hf3
          go_wp2_with fail
          go_ret
          exact ⟨rfl, hke.out, hend.out⟩
      · obtain rfl : (0, M) = R := by rw [← hR.out]; unfold carryR; rw [if_neg hk2, if_neg hk3, if_neg hk4]
        have hrr : Hid (Rep w3 F L M) := Lib.hid ⟨o, hr3.out⟩
        clear hR hs3 hr3 hf3
        go_wp2_with fail
        go_ret
        exact ⟨rfl, Cl.Keeps.of_below hA3.out, hrr.out⟩
end Go.Proofs.Ytnndhbppgmnefaa
