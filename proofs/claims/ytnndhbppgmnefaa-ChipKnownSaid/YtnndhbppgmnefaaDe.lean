/- The device: a block's program and erase, as their fate has it. -/
import Derived.Test.YtnndhbppgmnefaaDd
namespace Go.Proofs.Ytnndhbppgmnefaa
open Go.RowKit Go.Gf Go.Fl
set_option linter.unusedVariables false
set_option linter.unusedSimpArgs false
attribute [local go_sem ↓] Cl.quiet_after Cl.quiet_since
/-- how many cells are programmed, and the error, by what befalls -/
def keepP (n out : Nat) (x : Int × Int × Int) : Int := if x.2.1 = 1 then min x.2.2 ((n : Int) - out) else if x.2.1 = 2 then x.2.2 else n
def progPg (p : Pg) (xs : List Nat) (keep : Int) : Pg := ⟨progP p.ps xs keep, xs, progS xs.length keep⟩
theorem progP_len (ps : List (Int × Int)) (xs : List Nat) (keep : Int) : (progP ps xs keep).length = ps.length := by unfold progP; simp
theorem program1 {w : World} {F : Nat → Prop} {o : Nat → Nat} {L : Lay} {M : Dev} (h : RepO w F o L M) (hF : ∀ b, w.heap.size ≤ b → F b) {b j : Nat} (hb : b < M.B) (hj : j < M.P) (hst : (M.pg b j).st = 0)
    {A : Option Addr} {xs : List Nat} {c n : Nat} (hs : Sl w w.heap.size A xs) (hA : ∀ a, A = some a → a.block < w.heap.size ∧ ¬ F a.block) (hn : xs.length = n) (hM : n = M.n) (hc : n ≤ c) (hx : ∀ x ∈ xs, x < 1024) (keep : Int) (hk : -9223372036854775808 ≤ keep ∧ keep ≤ 9223372036854775807) :
    Calls Try.prog 82 #[.pointer (some (L.pa b j)), .slice A n c, .int .i64 keep] w fun e w' => e = .returned (.int .i64 0) ∧ Cl.Keeps (fun b' => ¬ Own1 w F o (tg M.P b j) b') w w' ∧ Rep w' F L { M with pg := setPg M.pg b j (progPg (M.pg b j) xs keep) } := by
  have hp := h.own1 hb hj
  rw [hst] at hp
  have hlen := h.len b hb j hj
  have hn3 := n_le h.geo
  refine (c_prog hp (fun b hb => Or.inr hb) hn hc hs (fun a e hh => ?_) (by rw [hlen, hn, hM]) (by omega) hx keep hk).mono ?_
  · obtain ⟨h1, h2⟩ := hA a e
    rcases hh with hh | hh
    · exact h2 hh.1
    · omega
  rintro e w' ⟨rfl, hk2, ss', hp2, hss⟩
  refine ⟨rfl, hk2, h.page hF hb hj hk2 ?_ ?_⟩
  · unfold progPg
    dsimp only
    by_cases hk0 : 0 < keep
    · rw [hss hk0] at hp2
      exact hp2
    · have : progS xs.length keep = 0 := by unfold progS; rw [if_pos (by omega)]
      rw [this] at hp2 ⊢
      exact hp2.any_ss (by decide) _
  · show (progP (M.pg b j).ps xs keep).length = M.n
    rw [progP_len, hlen]
/-- block g holds that fate -/
structure FBox (w : World) (g : Nat) (x : Int × Int × Int) : Prop where
  lt : g < w.heap.size
  c0 : w.cell? ⟨g, 0, none⟩ = some (.int .i64 x.1)
  c1 : w.cell? ⟨g, 1, none⟩ = some (.int .i64 x.2.1)
  c2 : w.cell? ⟨g, 2, none⟩ = some (.int .i64 x.2.2)
theorem FBox.keep {w w' : World} {g : Nat} {x : Int × Int × Int} (h : FBox w g x) (hb : Below w.heap.size w w') : FBox w' g x :=
  ⟨Nat.lt_of_lt_of_le h.lt hb.size, (hb.cell h.lt).trans h.c0, (hb.cell h.lt).trans h.c1, (hb.cell h.lt).trans h.c2⟩
theorem FBox.block {w w' : World} {g : Nat} {x : Int × Int × Int} (h : FBox w g x) (hs : w.heap.size ≤ w'.heap.size) (hb : w'.heap[g]? = w.heap[g]?) : FBox w' g x :=
  have e := fun i => World.cell?_of_block (w := w) (w' := w') (a := ⟨g, i, none⟩) hb
  ⟨Nat.lt_of_lt_of_le h.lt hs, (e 0).trans h.c0, (e 1).trans h.c1, (e 2).trans h.c2⟩
theorem FBox.new (w : World) (x : Int × Int × Int) : FBox (w.alloc (.cells #[.int .i64 x.1, .int .i64 x.2.1, .int .i64 x.2.2] 26)) w.heap.size x :=
  have h := cell_new w #[.int .i64 x.1, .int .i64 x.2.1, .int .i64 x.2.2] 26
  ⟨by rw [World.size_alloc]; omega, h 0, h 1, h 2⟩
theorem below_own {w w1 w2 : World} {F : Nat → Prop} {o : Nat → Nat} {t : Nat} (hb : Below w.heap.size w w1) (h : Cl.Keeps (fun b => ¬ Own1 w1 F o t b) w1 w2) : Cl.Keeps (fun b => ¬ Own1 w F o t b) w w2 :=
  ⟨h.os.trans hb.os, h.tape.trans hb.tape, h.output.trans hb.output, Nat.le_trans hb.size h.size, fun b hlt hk => (h.block b (Nat.lt_of_lt_of_le hlt hb.size) (fun e => hk (by
    rcases e with e | e
    · exact Or.inl e
    · exact absurd e (by have := hb.size; omega)))).trans (hb.block b hlt)⟩
set_option maxHeartbeats 4000000 in
theorem bprogram_any {w : World} {F : Nat → Prop} {o : Nat → Nat} {L : Lay} {M : Dev} (h : RepO w F o L M) (hF : ∀ b, w.heap.size ≤ b → F b) {b p : Nat} (hb : b < M.B) (hp : p < M.P) (hst : (M.pg b p).st = 0)
    {A : Option Addr} {xs : List Nat} {c n : Nat} (hs : Sl w w.heap.size A xs) (hA : ∀ a, A = some a → a.block < w.heap.size ∧ ¬ F a.block) (hn : xs.length = n) (hM : n = M.n) (hc : n ≤ c) (hx : ∀ x ∈ xs, x < 1024) (out : Nat) (hout : out ≤ n) (x : Int × Int × Int) (hx2 : 0 ≤ x.2.2 ∧ x.2.2 ≤ 9223372036854775807) :
    Calls Try.prog 61 #[.pointer (some ⟨L.kb, b * 4, none⟩), .int .i64 (p : Int), .slice A n c, .agg #[.int .i64 x.1, .int .i64 x.2.1, .int .i64 x.2.2], .int .i64 (out : Int)] w fun e w' => e = .returned (.int .i64 (if x.2.1 = 1 then 6 else 0)) ∧ Cl.Keeps (fun b' => ¬ Own1 w F o (tg M.P b p) b') w w' ∧ Rep w' F L { M with pg := setPg M.pg b p (progPg (M.pg b p) xs (keepP n out x)) } := by
  have hn3 : n ≤ 320 := by rw [hM]; exact n_le h.geo
  have hA1 := below_alloc' w (.cells #[.int .i64 x.1, .int .i64 x.2.1, .int .i64 x.2.2] 26)
  have hf := FBox.new w x
  have hr := h.below hA1
  obtain ⟨kp, hkp⟩ : ∃ kp, keepP n out x = kp := ⟨_, rfl⟩
  rw [hkp]
  have hkb : -9223372036854775808 ≤ kp ∧ kp ≤ 9223372036854775807 := by
    rw [← hkp]; unfold keepP
    split
    · omega
    · split <;> omega
  have hpr := program1 hr (fun b hb => hF b (Nat.le_trans hA1.size hb)) hb hp hst ((hs.below hA1).more hA1.size) (fun a e => ⟨Nat.lt_of_lt_of_le (hA a e).1 hA1.size, (hA a e).2⟩) hn hM hc hx kp hkb
  have q0 := hr.k0 b hb
  have qp := hr.pp b hb p hp
  have hpI : (p : Int) < (M.P : Int) := by omega
  have hp32 : p < 32 := by have := Ge.may_of h.geo; omega
  obtain ⟨f0, f1, f2, f3⟩ := hf
  replace hpr := Lib.hid hpr
  replace hA1 := Lib.hid hA1
  clear h hr hs hA hx hn hM hst
  generalize hw1 : w.alloc (.cells #[.int .i64 x.1, .int .i64 x.2.1, .int .i64 x.2.2] 26) = w1 at *
  obtain ⟨xa, xd, xk⟩ := x
  dsimp only at *
  by_cases h1 : xd = 1
  · subst h1
    rw [if_pos rfl]
    have hkp1 : min xk ((n : Int) - (out : Int)) = kp := by rw [← hkp]; unfold keepP; rw [if_pos rfl]
    clear hkp
    have hw : wrap64 ((n : Int) - (out : Int)) = (n : Int) - (out : Int) := IntWalk.wrap64_in _ (by omega)
    go_enter Try.func61, Try.ntmps61
    go_wp2_with (go_at_call 82; (with_reducible refine hpr.out.mono ?_); rintro e w2 ⟨rfl, hk2, hr2⟩)
    go_ret
    exact ⟨rfl, below_own hA1.out hk2, hr2⟩
  · rw [if_neg h1]
    by_cases h2 : xd = 2
    · subst h2
      obtain rfl : kp = xk := by rw [← hkp]; unfold keepP; rw [if_neg (by show ¬ ((2 : Int) = 1); decide), if_pos rfl]
      clear hkp
      go_enter Try.func61, Try.ntmps61
      go_wp2_with (go_at_call 82; (with_reducible refine hpr.out.mono ?_); rintro e w2 ⟨rfl, hk2, hr2⟩)
      go_ret
      exact ⟨rfl, below_own hA1.out hk2, hr2⟩
    · obtain rfl : kp = (n : Int) := by rw [← hkp]; unfold keepP; rw [if_neg h1, if_neg h2]
      clear hkp
      go_enter Try.func61, Try.ntmps61
      go_wp2_with (go_at_call 82; (with_reducible refine hpr.out.mono ?_); rintro e w2 ⟨rfl, hk2, hr2⟩)
      go_ret
      exact ⟨rfl, below_own hA1.out hk2, hr2⟩
end Go.Proofs.Ytnndhbppgmnefaa
