/- ChipWorst: the walk. -/
import Derived.Test.YtnndhbppgmnefaaTa
import Derived.Test.YtnndhbppgmnefaaSp
namespace Go.Proofs.Ytnndhbppgmnefaa
open Go.RowKit Go.Fl
set_option linter.unusedVariables false
set_option linter.unusedSimpArgs false
attribute [local go_sem ↓] Cl.quiet_after Cl.quiet_since
theorem lex7_23 : (Cl.opsAt 23 (Try.f7.body.getD .skip)).map (Region.lexB .any) = some true := by kernel_rfl
theorem is_six : Is 4618441417868443648 (((6 : Int) : Int) : Rat) := ⟨false, 6755399441055744, -50, by decide +kernel, by decide +kernel⟩
theorem infoB : (Try.prog.info? 4).map (fun i => (i.zero, i.size, i.bytes)) = some (some (.bool false), 1, 1) := by kernel_rfl
/-- n times false -/
def zF (n : Nat) : Array Value := madeCells #[.bool false] n
theorem zF_size (n : Nat) : (zF n).size = n := size_madeCells _ _
theorem zF_at {n i : Nat} (h : i < n) : (zF n)[i]? = some (.bool false) := by
  unfold zF madeCells
  simp [h, Nat.mod_one]
theorem run_make58 (w : World) (n : Nat) (hn : n ≤ 65536) : (Instr.makeSlice 58 (.int .i64 (n : Int)) (.int .i64 (n : Int))).run Try.prog w = .ok (.slice (some ⟨w.heap.size, 0, none⟩) n n) (w.alloc (.cells (zF n) 4)) := by
  have hi0 := infoB
  obtain ⟨i, hi, hrest⟩ := Option.map_eq_some_iff.1 hi0
  simp only [Prod.mk.injEq] at hrest
  obtain ⟨i1, i2, i3⟩ := hrest
  have h := run_make (P := Try.prog) w 58 4 i _ Try.underlying58 hi i1 .i64 .i64 (n : Int) (n : Int) (by omega) (Int.le_refl _) (by rw [i3]; omega) (by omega)
  rw [i2, Int.toNat_natCast, Nat.mul_one] at h
  exact h
theorem Arr.fillw {w : World} {g n i s : Nat} (h : Arr w g (fillN n i s)) (hi : i < n) : (∃ v, w.cell? ⟨g, i, none⟩ = some v) ∧ w.frozen? ⟨g, i, none⟩ = false ∧ Arr (w.setCell ⟨g, i, none⟩ (.int .u16 (s : Int))) g (fillN n (i + 1) s) := by
  refine ⟨⟨_, h.cell (i := i) (by rw [fillN_len]; exact hi)⟩, h.frozen i, ?_⟩
  have := h.set_ i s
  rw [fillN_step] at this
  exact this
theorem Arr.symsw {w : World} {g n : Nat} {cs : List Nat} {F : Nat → Prop} (h : Arr w g cs) (hl : cs.length = n) (hc : ∀ x ∈ cs, x < 1024) (hg : ¬ F g) : Syms w F (some ⟨g, 0, none⟩) n n cs :=
  ⟨h.sl fun x hx => Nat.lt_trans (hc x hx) (by decide), fun a e => by injection e with e; subst e; exact ⟨h.lt, hg⟩, hl, Nat.le_refl _, hc⟩
/-- block g says of each cell of each page whether it was moved, and may be written -/
structure Mvd (w : World) (g P n : Nat) (mv : Nat → Nat → Bool) : Prop where
  lt : g < w.heap.size
  row : ∃ cs, w.heap[g]? = some (.cells cs 4 (0, 0)) ∧ P * n ≤ cs.size
  at_ : ∀ i, i < P → ∀ k, k < n → w.cell? ⟨g, i * n + k, none⟩ = some (.bool (mv i k))
theorem idx_lt {P n i k : Nat} (hi : i < P) (hk : k < n) : i * n + k < P * n := by
  have : (i + 1) * n ≤ P * n := Nat.mul_le_mul_right _ hi
  rw [Nat.succ_mul] at this
  omega
theorem Mvd.block {w w' : World} {g P n : Nat} {mv : Nat → Nat → Bool} (h : Mvd w g P n mv) (hs : w.heap.size ≤ w'.heap.size) (hb : w'.heap[g]? = w.heap[g]?) : Mvd w' g P n mv where
  lt := Nat.lt_of_lt_of_le h.lt hs
  row := by obtain ⟨cs, h1, h2⟩ := h.row; exact ⟨cs, hb.trans h1, h2⟩
  at_ := fun i hi k hk => (World.cell?_of_block (a := ⟨g, i * n + k, none⟩) hb).trans (h.at_ i hi k hk)
theorem Mvd.below {w w' : World} {g P n : Nat} {mv : Nat → Nat → Bool} (h : Mvd w g P n mv) (hb : Below w.heap.size w w') : Mvd w' g P n mv := h.block hb.size (hb.block g h.lt)
theorem Mvd.keep {w w' : World} {g P n : Nat} {mv : Nat → Nat → Bool} {F : Nat → Prop} (h : Mvd w g P n mv) (hk : Cl.Keeps (fun b => ¬ F b) w w') (hg : ¬ F g) : Mvd w' g P n mv := h.block hk.size (hk.block g h.lt hg)
theorem Mvd.frozen {w : World} {g P n : Nat} {mv : Nat → Nat → Bool} (h : Mvd w g P n mv) (i : Nat) : w.frozen? ⟨g, i, none⟩ = false := by
  obtain ⟨cs, h1, _⟩ := h.row
  exact frozen_new h1 i
theorem Mvd.put {w : World} {g P n i k : Nat} {mv : Nat → Nat → Bool} (h : Mvd w g P n mv) (hi : i < P) (hk : k < n) : Mvd (w.setCell ⟨g, i * n + k, none⟩ (.bool true)) g P n (put2 mv i k) where
  lt := by simp [World.setCell]; exact h.lt
  row := by
    obtain ⟨cs, h1, h2⟩ := h.row
    refine ⟨cs.setIfInBounds (i * n + k) (.bool true), ?_, by simpa using h2⟩
    simp only [World.setCell]
    rw [Array.getElem?_modify, h1]
    simp
  at_ := fun i' hi' k' hk' => by
    show _ = some (Value.bool (if i' = i ∧ k' = k then true else mv i' k'))
    by_cases e : i' = i ∧ k' = k
    · obtain ⟨rfl, rfl⟩ := e
      rw [if_pos ⟨rfl, rfl⟩]
      exact World.cell?_setCell_same _ _ _ (h.at_ i' hi' k' hk')
    · rw [if_neg e]
      refine (World.cell?_setCell_other _ _ _ _ (fun e' => ?_)).trans (h.at_ i' hi' k' hk')
      injection e' with e1 e2
      have := tg_inj (P := n) (i := i) (j := k) (i' := i') (j' := k') hk hk' (by unfold tg; omega)
      exact e ⟨this.1.symm, this.2.symm⟩
theorem Mvd.new (w : World) (P n : Nat) : Mvd (w.alloc (.cells (zF (P * n)) 4)) w.heap.size P n (fun _ _ => false) where
  lt := by rw [World.size_alloc]; exact Nat.lt_succ_self _
  row := ⟨zF (P * n), heap_alloc_new w _, by rw [zF_size]; exact Nat.le_refl _⟩
  at_ := fun i hi k hk => (cell_new w _ _ _).trans (zF_at (idx_lt hi hk))
theorem Mvd.other {w : World} {g P n nb k : Nat} {mv : Nat → Nat → Bool} {v : Value} (h : Mvd w g P n mv) (hne : nb ≠ g) : Mvd (w.setCell ⟨nb, k, none⟩ v) g P n mv :=
  h.block (by simp [World.setCell]) (by simp only [World.setCell]; rw [Array.getElem?_modify, if_neg hne])
theorem Env.widen {w0 w : World} {F G : Nat → Prop} {a : Addr} {M : Dev} (h : Env w0 G a M w) (hg : ∀ b, G b → F b) (ho : ∀ b, F b → w0.heap.size ≤ b) : Env w0 F a M w := by
  obtain ⟨L, e, hd⟩ := h.dev
  exact ⟨h.low, fun b hb => hg b (h.all b hb), ho, L, e, hd.only fun b _ hh => hg b hh⟩
set_option maxRecDepth 20000 in
set_option maxHeartbeats 8000000 in
theorem worst_law (B P W K : Int) (wB : (Lit.int .i64 B).wf = true) (wP : (Lit.int .i64 P).wf = true) (wW : (Lit.int .i64 W).wf = true) (wK : (Lit.int .i64 K).wf = true)
    (A : Option Addr) (ts : List (Nat × Nat)) (c : Nat) (hl : ts.length ≤ c) (hc : c ≤ maxLen) (w : World) (hs : Sp w w.heap.size A ts) :
    Calls Try.prog 7 #[.agg #[.int .i64 B, .int .i64 P, .int .i64 W, .int .i64 K], .slice A ts.length c] w fun e w' => e = .returned (.bool true) ∧ Below w.heap.size w w' := by
  have haw := Lib.hid awake_any
  have hA := below_alloc' w (.cells #[.int .i64 B, .int .i64 P, .int .i64 W, .int .i64 K] 24)
  have hx := Lib.hid (Ge.Box.new w B P W K)
  generalize hw1 : w.alloc (.cells #[.int .i64 B, .int .i64 P, .int .i64 W, .int .i64 K] 24) = w1 at *
  replace hA := Lib.hid hA
  clear wB wP wW wK
  cases hg : Ge.mayG B P W K
  · have cm := Lib.hid (Ge.refmay_lit hg)
    go_enter Try.func7, Try.ntmps7
    go_wp2_with (first
      | (go_at_call 8; (with_reducible refine (haw.out _).mono ?_); rintro e w2 ⟨rfl, hb2⟩; have hx2 := Lib.hid (hx.out.keep hb2); obtain ⟨_, c0, c1, c2, c3⟩ := hx2.out; have hB2 := Lib.hid (hA.out.trans (hb2.mono hA.out.size)); clear hb2)
      | (go_at_call 22; (with_reducible refine (cm.out _).mono ?_); rintro e w3 ⟨rfl, hb3⟩; have hx3 := Lib.hid (hx2.out.keep hb3); obtain ⟨_, c0, c1, c2, c3⟩ := hx3.out; have hB3 := Lib.hid (hB2.out.trans (hb3.mono hB2.out.size)); clear hb3))
    go_ret
    exact ⟨rfl, hB3.out⟩
  · obtain ⟨b, p, v, k, rfl, rfl, rfl, rfl⟩ := may_nat hg
    obtain ⟨n, hn⟩ : ∃ n, v * (k + 16) = n := ⟨_, rfl⟩
    obtain ⟨sm, hsm⟩ : ∃ sm, decide (b * p * n ≤ 20000) = sm := ⟨_, rfl⟩
    have cm := Lib.hid (Ge.refmay_lit hg)
    have cs := Lib.hid (small_any hg hn hsm)
    have hn3 : n ≤ 320 := by have := Ge.may_of hg; rw [← hn]; exact Nat.mul_le_mul (show v ≤ 4 by omega) (show k + 16 ≤ 80 by omega)
    have hn0 : 0 < n := by have := Ge.may_of hg; rw [← hn]; exact Nat.lt_of_lt_of_le (by decide) (Nat.mul_le_mul (show 1 ≤ v by omega) (show 17 ≤ k + 16 by omega))
    clear hsm
    replace hn := Lib.hid hn
    obtain ⟨len, hlen⟩ : ∃ len, ts.length = len := ⟨_, rfl⟩
    rw [hlen]
    replace hlen := Lib.hid hlen
    cases sm
    · go_enter Try.func7, Try.ntmps7
      go_wp2_with (first
        | (go_at_call 8; (with_reducible refine (haw.out _).mono ?_); rintro e w2 ⟨rfl, hb2⟩; have hx2 := Lib.hid (hx.out.keep hb2); obtain ⟨_, c0, c1, c2, c3⟩ := hx2.out; have hB2 := Lib.hid (hA.out.trans (hb2.mono hA.out.size)); clear hb2)
        | (go_at_call 22; (with_reducible refine (cm.out _).mono ?_); rintro e w3 ⟨rfl, hb3⟩; have hx3 := Lib.hid (hx2.out.keep hb3); obtain ⟨_, c0, c1, c2, c3⟩ := hx3.out; have hB3 := Lib.hid (hB2.out.trans (hb3.mono hB2.out.size)); clear hb3)
        | (go_at_call 23; (with_reducible refine (cs.out _).mono ?_); rintro e w4 ⟨rfl, hb4⟩; have hB4 := Lib.hid (hB3.out.trans (hb4.mono hB3.out.size)); clear hb4))
      go_ret
      exact ⟨rfl, hB4.out⟩
    · have hce : Ge.celG (b : Int) (p : Int) (v : Int) (k : Int) = (n : Int) := by
        unfold Ge.celG
        rw [if_pos hg, ← hn.out]
        simp
      have cc := Lib.hid (Ge.refcells_lit hce)
      clear hce
      have hb32 := Lib.hid (Ge.may_of hg)
      obtain ⟨u1, u2, u3, u4, _⟩ := hb32.out
      obtain ⟨v1, v2⟩ : 1 ≤ v ∧ v ≤ 4 := by have := hb32.out; omega
      by_cases h200 : 200 < len
      · have hI : (200 : Int) < (len : Int) := by omega
        have hd : decide (200 < len) = true := decide_eq_true h200
        go_enter Try.func7, Try.ntmps7
        go_wp2_with (first
          | (go_at_call 8; (with_reducible refine (haw.out _).mono ?_); rintro e w2 ⟨rfl, hb2⟩; have hx2 := Lib.hid (hx.out.keep hb2); obtain ⟨_, c0, c1, c2, c3⟩ := hx2.out; have hB2 := Lib.hid (hA.out.trans (hb2.mono hA.out.size)); clear hb2)
          | (go_at_call 22; (with_reducible refine (cm.out _).mono ?_); rintro e w3 ⟨rfl, hb3⟩; have hx3 := Lib.hid (hx2.out.keep hb3); obtain ⟨_, c0, c1, c2, c3⟩ := hx3.out; have hB3 := Lib.hid (hB2.out.trans (hb3.mono hB2.out.size)); clear hb3)
          | (go_at_call 23; (with_reducible refine (cs.out _).mono ?_); rintro e w4 ⟨rfl, hb4⟩; have hx4 := Lib.hid (hx3.out.keep hb4); obtain ⟨_, c0, c1, c2, c3⟩ := hx4.out; have hB4 := Lib.hid (hB3.out.trans (hb4.mono hB3.out.size)); clear hb4; clear hx2 hB2 hx3 hB3))
        go_ret
        exact ⟨rfl, hB4.out⟩
      have hI : ¬ (200 : Int) < (len : Int) := by omega
      have hd : decide (200 < len) = false := decide_eq_false h200
      go_enter Try.func7, Try.ntmps7
      go_wp2_with (first
        | (go_at_call 8; (with_reducible refine (haw.out _).mono ?_); rintro e w2 ⟨rfl, hb2⟩; have hx2 := Lib.hid (hx.out.keep hb2); obtain ⟨_, c0, c1, c2, c3⟩ := hx2.out; have hB2 := Lib.hid (hA.out.trans (hb2.mono hA.out.size)); clear hb2)
        | (go_at_call 22; (with_reducible refine (cm.out _).mono ?_); rintro e w3 ⟨rfl, hb3⟩; have hx3 := Lib.hid (hx2.out.keep hb3); obtain ⟨_, c0, c1, c2, c3⟩ := hx3.out; have hB3 := Lib.hid (hB2.out.trans (hb3.mono hB2.out.size)); clear hb3)
        | (go_at_call 23; (with_reducible refine (cs.out _).mono ?_); rintro e w4 ⟨rfl, hb4⟩; have hx4 := Lib.hid (hx3.out.keep hb4); obtain ⟨_, c0, c1, c2, c3⟩ := hx4.out; have hB4 := Lib.hid (hB3.out.trans (hb4.mono hB3.out.size)); clear hb4; clear hx2 hB2 hx3 hB3))
      refine (e_new (w := w4) b p v k rfl rfl rfl rfl hg (A := none) (bs := []) (n := 0) (c := 0) (Or.inl rfl) rfl (by decide) (by simp) (A2 := none) (ts := []) (n2 := 0) (c2 := 0) (Ft.S3.nil _ _ _) rfl (by decide) (by simp)).mono ?_
      rintro e w5 ⟨a, rfl, hb5, hE⟩
      have hx5 := Lib.hid (hx4.out.keep hb5)
      obtain ⟨_, c0, c1, c2, c3⟩ := hx5.out
      have hE : Hid (Env w4 (fun b' => w4.heap.size ≤ b') a (freshD b p v k (marksOf [] 0) []) w5) := Lib.hid hE
      clear hb5
      go_wp2_with (go_at_call 24; (with_reducible refine (cc.out _).mono ?_))
      rintro e w7 ⟨rfl, hb7⟩
      have hE7 := hE.out.below hb7
      have hmk := makeN w7 n (by omega)
      obtain ⟨hE8, hr8, _⟩ := hE7.syms (zN n) (zN_lt n) (zN_len n)
      have hsl4 := hE7.low.size
      clear hE hE7 hx5 hb7 c0 c1 c2 c3
      generalize hw8 : w7.alloc (.cells ((zN n).map uv).toArray 54) = w8 at *
      obtain ⟨sb, hsb⟩ : ∃ sb, w7.heap.size = sb := ⟨_, rfl⟩
      rw [hsb] at hE8 hr8 hmk hsl4
      obtain ⟨F, hF⟩ : ∃ F : Nat → Prop, (fun b' => w4.heap.size ≤ b' ∧ b' ≠ sb) = F := ⟨_, rfl⟩
      have hFs : ¬ F sb := by rw [← hF]; exact fun hh => hh.2 rfl
      rw [hF] at hE8
      replace hE8 := Lib.hid hE8
      rw [← fillN_zero n 528] at hr8
      replace hr8 := Lib.hid hr8
      clear cm cs cc hF
      go_wp2_with fail
      clear hmk hw8
      go_loopw [9] (fun q' wr => ∃ i : Nat, i ≤ n ∧ q' = .int .i64 i ∧ Env w4 F a (freshD b p v k (marksOf [] 0) []) wr ∧ Arr wr sb (fillN n i 528)) (fun q _ => n - (intOf q).toNat)
      case atStart => exact ⟨0, Nat.zero_le _, rfl, hE8.out, hr8.out⟩
      case round =>
        clear hE8 hr8
        obtain ⟨i, hi, rfl, hE, hR⟩ := hrel
        by_cases hin : i < n
        · have hiI : (i : Int) < (n : Int) := by omega
          have hdi : decide (i < n) = true := decide_eq_true hin
          obtain ⟨⟨v0, hv0⟩, hf0, hR1⟩ := hR.fillw hin
          have hE1 := Lib.hid (hE.put (k := i) (v := .int .u16 528) hFs hsl4)
          have hR1 : Hid (Arr (wr.setCell ⟨sb, i, none⟩ (.int .u16 528)) sb (fillN n (i + 1) 528)) := Lib.hid hR1
          clear hE hR
          go_wp2_with fail
          go_roundw
          case rel => exact ⟨i + 1, by omega, by go_num, hE1.out, hR1.out⟩
          case measure => simp [intOf]; omega
        · have hie : i = n := by omega
          have hdi : decide (i < n) = false := decide_eq_false hin
          have hiI : ¬ (i : Int) < (n : Int) := by omega
          rw [hie] at hR
          have hS := hR.symsw (F := F) (fillN_len n n 528) (fillN_lt n n 528 (by decide)) hFs
          have hnp : Hid (0 < v * (k + 16)) := by rw [hn.out]; exact Lib.hid hn0
          have hxl : Hid ((fillN n n 528).length = v * (k + 16)) := by rw [fillN_len, hn.out]; exact Lib.hid rfl
          have hE : Hid (Env w4 F a (rowD b p v k [] (fillN n n 528) 0) wr) := by rw [rowD_zero]; exact Lib.hid hE
          have hwst : Hid (∀ mv, worstD (worD b p v k (fillN n n 528) mv) = mxN (fun p => mxW (mv p) v n) p) := fun mv => worst_wor hn.out.symm (by omega)
          have hwor := Lib.hid (worD_start (B := b) (P := p) hn.out.symm hn0)
          have hstp : Hid (∀ mv i j, i < p → j < n → mv i j = false → movB ((worD b p v k (fillN n n 528) mv).pg 1 i).ps ((worD b p v k (fillN n n 528) mv).pg 1 i).st (j : Int) 6 0 = true ∧ { worD b p v k (fillN n n 528) mv with pg := setPg (worD b p v k (fillN n n 528) mv).pg 1 i (driftPg ((worD b p v k (fillN n n 528) mv).pg 1 i) (j : Int) 6 0) } = worD b p v k (fillN n n 528) (put2 mv i j)) := fun mv i j h1 h2 h3 => ⟨worD_mov h1 hn.out.symm h2 h3, worD_step h1 hn.out.symm h2 h3⟩
          have hlen5 : Hid (∀ mv i j, ((worD b p v k (fillN n n 528) mv).pg i j).ps.length ≤ 100000) := fun mv i j => by
            show (if i = 1 ∧ j < p then (⟨movPs (v * (k + 16)) (mv j), fillN n n 528, 1⟩ : Pg) else blankPg (v * (k + 16))).ps.length ≤ 100000
            rw [hn.out]
            split
            · show (movPs n _).length ≤ _; rw [movPs_len]; omega
            · show (List.replicate n _).length ≤ _; rw [List.length_replicate]; omega
          obtain ⟨xs, hxs⟩ : ∃ xs, fillN n n 528 = xs := ⟨_, rfl⟩
          rw [hxs] at hS hxl hE hwst hwor hstp hlen5
          clear hxs hR
          replace hS := Lib.hid hS
          go_wp2_with fail
          go_loopw [10] (fun q' wr => ∃ q : Nat, q ≤ p ∧ q' = .int .i64 q ∧ Env w4 F a (rowD b p v k [] xs q) wr ∧ Syms wr F (some ⟨sb, 0, none⟩) n n xs) (fun q _ => p - (intOf q).toNat)
          case atStart => exact ⟨0, Nat.zero_le _, rfl, hE.out, hS.out⟩
          case round =>
            clear hE hS
            obtain ⟨q, hq, rfl, hE, hS⟩ := hrel
            have c1 := (hx4.out.keep hE.low).c1
            by_cases hqp : q < p
            · have hqI : (q : Int) < (p : Int) := by omega
              have hdq : decide (q < p) = true := decide_eq_true hqp
              have hf : fateOf (rowD b p v k [] xs q) = (0, 0, 0) := fateOf_nil rfl
              have hR := rowD_step (B := b) (P := p) (ts := []) (q := q) hxl.out hnp.out (by rw [hf]; decide) (by rw [hf]; decide)
              have hpr := Lib.hid (e_program hE (M := rowD b p v k [] xs q) (bI := 1) ⟨by show q < 1000000000; omega, by show 0 < 1000000000; omega, fun _ => by show 0 < 1000000; omega⟩ 1 q (by show 1 < b; omega) (by show q < p; omega) rfl rfl hS (by rw [rowD_n]; exact hn.out.symm) hR)
              replace hS := Lib.hid hS
              clear hE hf hR
              go_wp2_with (go_at_call 10; (with_reducible refine hpr.out.mono ?_); rintro e w10 ⟨rfl, hk10, hE10⟩; have hS10 := Lib.hid (hS.out.keep hk10); replace hE10 := Lib.hid hE10; clear hk10)
              go_roundw
              case rel => exact ⟨q + 1, by omega, by go_num, hE10.out, hS10.out⟩
              case measure => simp [intOf]; omega
            · have hqe : q = p := by omega
              have hdq : decide (q < p) = false := decide_eq_false hqp
              have hqI : ¬ (q : Int) < (p : Int) := by omega
              rw [hqe, hwor.out] at hE
              obtain ⟨z, hz⟩ : ∃ z, p * n = z := ⟨_, rfl⟩
              have ez : (p : Int) * (n : Int) = (z : Int) := by rw [← hz]; simp
              have hz1 : z ≤ 10240 := by rw [← hz]; exact Nat.mul_le_mul (show p ≤ 32 by omega) hn3
              have hmk := run_make58 wr z (by omega)
              have hA9 := below_alloc' wr (.cells (zF z) 4)
              have z9 := World.size_alloc wr (.cells (zF z) 4)
              have hV9 : Mvd (wr.alloc (.cells (zF z) 4)) wr.heap.size p n (fun _ _ => false) := by have := Mvd.new wr p n; rw [hz] at this; exact this
              have hE9 := hE.leave hA9 wr.heap.size (Nat.le_refl _) (by omega)
              have hml : w4.heap.size ≤ wr.heap.size := hE.low.size
              have hc9 := (hx4.out.keep hE.low).keep hA9
              clear hA9 z9 hE hS
              replace hz := Lib.hid hz
              generalize hw9 : wr.alloc (.cells (zF z) 4) = w9 at *
              obtain ⟨mb, hmb⟩ : ∃ mb, wr.heap.size = mb := ⟨_, rfl⟩
              rw [hmb] at hmk hV9 hE9 hml
              obtain ⟨G, hG⟩ : ∃ G : Nat → Prop, (fun b' => F b' ∧ b' ≠ mb) = G := ⟨_, rfl⟩
              have hGm : ¬ G mb := by rw [← hG]; exact fun hh => hh.2 rfl
              rw [hG] at hE9
              clear hG
              replace hE9 := Lib.hid hE9
              replace hV9 := Lib.hid hV9
              go_wp2_with fail
              clear hmk hw9 hmb
              have hts := Lib.hid (hs.2)
              have hts1 := Lib.hid (hs.1)
              clear hs
              go_loopw [12] (fun q' wr => ∃ (i : Nat) (mv : Nat → Nat → Bool), i ≤ len ∧ q' = .int .i64 i ∧ Env w4 G a (worD b p v k xs mv) wr ∧ Mvd wr mb p n mv) (fun q _ => len - (intOf q).toNat)
              case atStart => exact ⟨0, _, Nat.zero_le _, rfl, hE9.out, hV9.out⟩
              case round =>
                clear hE9 hV9
                obtain ⟨i, mv, hi, rfl, hE, hV⟩ := hrel
                have hBx := hx4.out.keep hE.low
                have hwr := hB4.out.trans (hE.low.mono hB4.out.size)
                by_cases hin : i < len
                · have hiI : (i : Int) < (len : Int) := by omega
                  have hdi : decide (i < len) = true := decide_eq_true hin
                  have hi100 : i < 200 := by omega
                  have hix : i < ts.length := by rw [hlen.out]; exact hin
                  rcases hts.out with hnil | ⟨ad, rfl, had, hcell⟩
                  · rw [hnil] at hix; simp at hix
                  obtain ⟨q0, q1⟩ := hcell i hix
                  obtain ⟨y0, y1⟩ := hts1.out ts[i] (List.getElem_mem hix)
                  obtain ⟨⟨y, y'⟩, hyz⟩ : ∃ t, ts[i] = t := ⟨_, rfl⟩
                  rw [hyz] at q0 q1 y0 y1
                  dsimp only [uv] at q0 q1 y0 y1
                  rw [Ft.add_more ad (i * 2) 1 (by decide)] at q1
                  have hadl : ∀ m, (ad.add m).block < w.heap.size := fun m => by rw [add_block]; exact had
                  have k0 := fun x : Cl.After wr.heap.size wr => (((x.below.mono hwr.size).cell (hadl _)).trans (hwr.cell (hadl _))).trans q0
                  have k1 := fun x : Cl.After wr.heap.size wr => (((x.below.mono hwr.size).cell (p := ⟨(ad.add (i * 2)).block, (ad.add (i * 2)).off + 1, none⟩) (hadl _)).trans (hwr.cell (p := ⟨(ad.add (i * 2)).block, (ad.add (i * 2)).off + 1, none⟩) (hadl _))).trans q1
                  have b1 := fun x : Cl.After wr.heap.size wr => (hBx.keep x.below).c1
                  have hpn : ¬ (p : Int) = 0 := by omega
                  have hnn : ¬ (n : Int) = 0 := by omega
                  clear q0 q1 hyz hcell had
                  obtain ⟨r1, r1l, r1a, r1b⟩ := remN y p (by omega)
                  obtain ⟨r2, r2l, r2a, r2b⟩ := remN y' n (by omega)
                  replace hE := Lib.hid hE
                  replace hV := Lib.hid hV
                  replace hwr := Lib.hid hwr
                  go_wp2_with fail
                  refine Cl.region_after_at wr.heap.size (by kernel_rfl) lex7_23 (by kernel_rfl) ?_
                  try simp only [List.append]
                  repeat (go_big_quiet_step (fail))
                  refine wpQuiet_nil ?_
                  rintro _ ⟨x, rfl⟩
                  have c1 := (hBx.keep x.below).c1
                  have hE1 := Lib.hid (hE.out.below x.below)
                  have hV1 := Lib.hid (hV.out.below x.below)
                  clear k0 k1 b1 r1a r1b r2a r2b hE hV hwr hadl hpn hnn
                  generalize x.w = w1 at *
                  obtain ⟨q, hq⟩ : ∃ q, r1 * n = q := ⟨_, rfl⟩
                  have eq : (r1 : Int) * (n : Int) = (q : Int) := by rw [← hq]; simp
                  have hqz : q + r2 < z := by rw [← hq, ← hz.out]; exact idx_lt r1l r2l
                  have qc := hV1.out.at_ r1 r1l r2 r2l
                  rw [hq] at qc
                  cases hm : mv r1 r2
                  · have hfz := hV1.out.frozen (q + r2)
                    rw [hm] at qc
                    obtain ⟨hm1, hm2⟩ := hstp.out mv r1 r2 r1l r2l hm
                    have hdr := Lib.hid (e_drift hE1.out 1 r1 (by show 1 < b; omega) (by show r1 < p; exact r1l) (bI := 1) rfl rfl is_six is_zero' (by decide) (by decide) (r2 : Int) hm1)
                    rw [hm2] at hdr
                    clear hm1 hm2
                    replace hq := Lib.hid hq
                    go_wp2_with (go_at_call 20; (with_reducible refine hdr.out.mono ?_); rintro e w10 ⟨rfl, hk10, hE10⟩; have hV10 := hV1.out.keep hk10 hGm; have qc := hV10.at_ r1 r1l r2 r2l; rw [hq.out, hm] at qc; have hfz := hV10.frozen (q + r2); have hE11 := Lib.hid (hE10.put (k := q + r2) (v := .bool true) hGm hml); have hV11 := Lib.hid (hV10.put r1l r2l); rw [hq.out] at hV11; clear hE10 hV10 hk10)
                    go_roundw
                    case rel => exact ⟨i + 1, put2 mv r1 r2, by omega, by go_num, hE11.out, hV11.out⟩
                    case measure => simp [intOf]; omega
                  · rw [hm] at qc
                    replace hq := Lib.hid hq
                    go_wp2_with fail
                    go_roundw
                    case rel => exact ⟨i + 1, mv, by omega, by go_num, hE1.out, hV1.out⟩
                    case measure => simp [intOf]; omega
                · obtain rfl : i = len := by omega
                  have hdi : decide (i < i) = false := decide_eq_false (Nat.lt_irrefl _)
                  have hiI : ¬ (i : Int) < (i : Int) := by omega
                  replace hE := Lib.hid hE
                  replace hV := Lib.hid hV
                  replace hwr := Lib.hid hwr
                  go_wp2_with fail
                  clear hts hts1 hi hstp hlen hd hdi hiI h200 hwor
                  go_loopw [15, 16] (fun m q' wr => ∃ pi : Nat, pi ≤ p ∧ q' = .int .i64 pi ∧ m = .int .i64 ((mxN (fun j => mxW (mv j) v n) pi : Nat) : Int) ∧ Env w4 G a (worD b p v k xs mv) wr ∧ Mvd wr mb p n mv) (fun _ q _ => p - (intOf q).toNat)
                  case atStart => exact ⟨0, Nat.zero_le _, rfl, rfl, hE.out, hV.out⟩
                  case round =>
                    clear hE hV hwr
                    obtain ⟨pi, hpi, rfl, rfl, hE, hV⟩ := hrel
                    obtain ⟨_, c0, c1, c2, c3⟩ := hx4.out.keep hE.low
                    by_cases hip : pi < p
                    · have hiI : (pi : Int) < (p : Int) := by omega
                      have hdi : decide (pi < p) = true := decide_eq_true hip
                      obtain ⟨w0, hw0⟩ : ∃ w0, mxN (fun j => mxW (mv j) v n) pi = w0 := ⟨_, rfl⟩
                      rw [hw0]
                      replace hw0 := Lib.hid hw0
                      have hmk := run_make32i wr v (by omega)
                      have hA5 := below_alloc' wr (.cells (zI v) 3)
                      have z5 := World.size_alloc wr (.cells (zI v) 3)
                      have hN5 := Nums.new wr v
                      have hV5 := hV.below hA5
                      have hml5 := hV.lt
                      have hG4 := Lib.hid hE.own
                      have hE5 := hE.leave hA5 wr.heap.size (Nat.le_refl _) (by omega)
                      have hnl : w4.heap.size ≤ wr.heap.size := hE.low.size
                      clear hA5 z5 hE hV
                      generalize hw5 : wr.alloc (.cells (zI v) 3) = w5 at *
                      obtain ⟨nb, hnb⟩ : ∃ nb, wr.heap.size = nb := ⟨_, rfl⟩
                      rw [hnb] at hmk hN5 hE5 hnl hml5
                      have hne : nb ≠ mb := by omega
                      obtain ⟨H, hH⟩ : ∃ H : Nat → Prop, (fun b' => G b' ∧ b' ≠ nb) = H := ⟨_, rfl⟩
                      have hHn : ¬ H nb := by rw [← hH]; exact fun hh => hh.2 rfl
                      have hHG : Hid (∀ b', H b' → G b') := by rw [← hH]; exact Lib.hid fun b' hh => hh.1
                      rw [hH] at hE5
                      clear hH
                      replace hE5 := Lib.hid hE5
                      replace hV5 := Lib.hid hV5
                      replace hN5 := Lib.hid hN5
                      go_wp2_with fail
                      clear hmk hw5 hnb c0 c1 c2 c3
                      go_loopw [15, 18] (fun m q' wr => ∃ i : Nat, i ≤ n ∧ q' = .int .i64 i ∧ m = .int .i64 ((max w0 (mxW (mv pi) v i) : Nat) : Int) ∧ Env w4 H a (worD b p v k xs mv) wr ∧ Mvd wr mb p n mv ∧ Nums wr nb v (fun r => mcW (mv pi) v r i)) (fun _ q _ => n - (intOf q).toNat)
                      case atStart => exact ⟨0, Nat.zero_le _, rfl, by rw [mxW_zero, Nat.max_zero], hE5.out, hV5.out, hN5.out⟩
                      case round =>
                        clear hE5 hV5 hN5
                        obtain ⟨i, hi, rfl, rfl, hE, hV, hN⟩ := hrel
                        obtain ⟨_, c0, c1, c2, c3⟩ := hx4.out.keep hE.low
                        by_cases hin : i < n
                        · have hiI : (i : Int) < (n : Int) := by omega
                          have hdi : decide (i < n) = true := decide_eq_true hin
                          obtain ⟨q, hq⟩ : ∃ q, pi * n = q := ⟨_, rfl⟩
                          have eq : (pi : Int) * (n : Int) = (q : Int) := by rw [← hq]; simp
                          have hqz : q + i < z := by rw [← hq, ← hz.out]; exact idx_lt hip hin
                          have qc := hV.at_ pi hip i hin
                          rw [hq] at qc
                          replace hq := Lib.hid hq
                          cases hm : mv pi i
                          · rw [hm] at qc
                            have hmx := Lib.hid (mxW_same (W := v) (i := i) hm)
                            have hms := Lib.hid (mc_same (W := v) (i := i) hm)
                            replace hE := Lib.hid hE
                            replace hV := Lib.hid hV
                            replace hN := Lib.hid hN
                            go_wp2_with fail
                            go_roundw
                            case rel => exact ⟨i + 1, by omega, by go_num, by rw [hmx.out], hE.out, hV.out, by rw [← hms.out]; exact hN.out⟩
                            case measure => simp [intOf]; omega
                          · rw [hm] at qc
                            obtain ⟨r, rl, ra, rb⟩ := remN i v (by omega)
                            have hr : i % v = r := Int.ofNat_inj.1 ((Int.natCast_emod i v).trans ra)
                            have hvn : ¬ (v : Int) = 0 := by omega
                            have hmx := mxW_hit (W := v) (i := i) hm (by rw [hr]; omega)
                            have hms := mc_put (W := v) (i := i) hm
                            have hX2 := mc_le (mv pi) v r i
                            have nc := hN.at_ r rl
                            rw [hr] at hmx hms
                            have hE1 := hE.put (k := r) (v := .int .i64 ((mcW (mv pi) v r i : Nat) + 1 : Int)) hHn hnl
                            have hV1 := hV.other (k := r) (v := .int .i64 ((mcW (mv pi) v r i : Nat) + 1 : Int)) hne
                            have hN1 := hN.put rl (mcW (mv pi) v r i + 1)
                            have nf := hN.frozen r
                            rw [hms] at hN1
                            have nc1 := hN1.at_ r rl
                            rw [mc_hit hm hr] at nc1
                            obtain ⟨X, hX⟩ : ∃ X, mcW (mv pi) v r i = X := ⟨_, rfl⟩
                            rw [hX, show ((X + 1 : Nat) : Int) = (X : Int) + 1 from by simp] at hN1 nc1
                            rw [hX] at hmx hX2 nc hE1 hV1
                            obtain ⟨y, hy⟩ : ∃ y, max w0 (mxW (mv pi) v i) = y := ⟨_, rfl⟩
                            have hmx : Hid (max w0 (mxW (mv pi) v (i + 1)) = max y (X + 1)) := by rw [hmx, ← Nat.max_assoc, hy]; exact Lib.hid rfl
                            rw [hy]
                            replace hy := Lib.hid hy
                            replace hX := Lib.hid hX
                            replace hr := Lib.hid hr
                            clear hms hE hV hN
                            replace hE1 := Lib.hid hE1
                            replace hV1 := Lib.hid hV1
                            replace hN1 := Lib.hid hN1
                            go_wp2_with fail
                            go_roundw
                            case rel => exact ⟨i + 1, by omega, by go_num, by rw [hmx.out]; congr 1; omega, hE1.out, hV1.out, hN1.out⟩
                            case measure => simp [intOf]; omega
                        · obtain rfl : i = n := by omega
                          have hdi : decide (i < i) = false := decide_eq_false (Nat.lt_irrefl _)
                          have hiI : ¬ (i : Int) < (i : Int) := by omega
                          have hE6 := Lib.hid (hE.widen hHG.out hG4.out)
                          replace hV := Lib.hid hV
                          clear hE hN
                          go_wp2_with fail
                          go_roundw
                          case rel => exact ⟨pi + 1, by omega, by go_num, by rw [← hw0.out]; rfl, hE6.out, hV.out⟩
                          case measure => simp [intOf]; omega
                    · obtain rfl : pi = p := by omega
                      have hdi : decide (pi < pi) = false := decide_eq_false (Nat.lt_irrefl _)
                      have hiI : ¬ (pi : Int) < (pi : Int) := by omega
                      obtain ⟨wm, hwm⟩ : ∃ wm, mxN (fun j => mxW (mv j) v n) pi = wm := ⟨_, rfl⟩
                      have hwd := hwst.out mv
                      rw [hwm] at hwd ⊢
                      replace hwm := Lib.hid hwm
                      have hwo := Lib.hid (e_worst hE (hlen5.out mv) (r := (wm : Int)) (by rw [hwd]))
                      have hf : fateOf (worD b pi v k xs mv) = (0, 0, 0) := fateOf_nil rfl
                      have hst := st_erase (M := worD b pi v k xs mv) (b := 1) rfl (erasE_ok rfl rfl) (by rw [hf]; decide) (by rw [hf]; decide)
                      have her := Lib.hid (fun w' (hb : Below wr.heap.size wr w') => e_erase (hE.below hb) (bI := 1) ⟨by show pi < 1000000000; omega, by show 0 < 1000000000; omega, fun _ => by show 0 < 1000000; omega⟩ 1 (by show 1 < b; omega) rfl hst)
                      obtain ⟨M, hM⟩ : ∃ M, { wiped (worD b pi v k xs mv) 1 (worD b pi v k xs mv).P with ops := (worD b pi v k xs mv).ops + 1, er := putB (worD b pi v k xs mv).er 1 ((worD b pi v k xs mv).er 1 + 1) } = M := ⟨_, rfl⟩
                      rw [hM] at her
                      have hz0 : worstD M = 0 := worst_wiped (B := b) (P := pi) (W := v) (K := k) (xs := xs) (mv := mv) (by rw [← hM])
                      have hml2 : Hid (∀ i j, (M.pg i j).ps.length ≤ 100000) := by
                        refine Lib.hid fun i j => ?_
                        rw [← hM]
                        show (if i = 1 ∧ j < pi then blankPg (v * (k + 16)) else (worD b pi v k xs mv).pg i j).ps.length ≤ 100000
                        split
                        · show (List.replicate (v * (k + 16)) _).length ≤ _; rw [List.length_replicate, hn.out]; omega
                        · exact hlen5.out mv i j
                      clear hM hst hf hwd
                      replace hz0 := Lib.hid hz0
                      have hwr := Lib.hid (hB4.out.trans (hE.low.mono hB4.out.size))
                      clear hE hV hlen5 hwst
                      go_wp2_with (first
                        | (go_at_call 21; (with_reducible refine hwo.out.mono ?_); rintro e w10 ⟨rfl, hb10⟩; have her2 := Lib.hid (her.out _ hb10); have hw10 := Lib.hid (hwr.out.trans (hb10.mono hwr.out.size)); clear hb10 hwo)
                        | (go_at_call 11; (with_reducible refine her2.out.mono ?_); rintro e w11 ⟨rfl, hk11, hE11⟩; have hwo2 := Lib.hid (e_worst hE11 hml2.out (r := 0) (by rw [hz0.out]; rfl)); have hw11 := Lib.hid (hB4.out.trans (hE11.low.mono hB4.out.size)); clear hE11 hk11)
                        | (go_at_call 21; (with_reducible refine hwo2.out.mono ?_); rintro e w12 ⟨rfl, hb12⟩; have hw12 := Lib.hid (hw11.out.trans (hb12.mono hw11.out.size)); clear hb12))
                      go_ret
                      exact ⟨rfl, hw12.out⟩
end Go.Proofs.Ytnndhbppgmnefaa
