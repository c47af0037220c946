/- ChipOrder: the walk. -/
import Derived.Test.YtnndhbppgmnefaaDv
import Derived.Test.YtnndhbppgmnefaaSb8
namespace Go.Proofs.Ytnndhbppgmnefaa
open Go.RowKit Go.Fl
set_option linter.unusedVariables false
set_option linter.unusedSimpArgs false
attribute [local go_sem ↓] Cl.quiet_after Cl.quiet_since
theorem lex4_14 : (Cl.opsAt 14 (Try.f4.body.getD .skip)).map (Region.lexB .any) = some true := by kernel_rfl
theorem infoI : (Try.prog.info? 3).map (fun i => (i.zero, i.size, i.bytes)) = some (some (.int .i64 0), 1, 8) := by kernel_rfl
/-- n noughts -/
def zI (n : Nat) : Array Value := madeCells #[.int .i64 0] n
theorem zI_size (n : Nat) : (zI n).size = n := size_madeCells _ _
theorem zI_at {n i : Nat} (h : i < n) : (zI n)[i]? = some (.int .i64 0) := by
  unfold zI madeCells
  simp [h, Nat.mod_one]
theorem run_make32i (w : World) (n : Nat) (hn : n ≤ 65536) : (Instr.makeSlice 32 (.int .i64 (n : Int)) (.int .i64 (n : Int))).run Try.prog w = .ok (.slice (some ⟨w.heap.size, 0, none⟩) n n) (w.alloc (.cells (zI n) 3)) := by
  have hi0 := infoI
  obtain ⟨i, hi, hrest⟩ := Option.map_eq_some_iff.1 hi0
  simp only [Prod.mk.injEq] at hrest
  obtain ⟨i1, i2, i3⟩ := hrest
  have h := run_make (P := Try.prog) w 32 3 i _ Try.underlying32 hi i1 .i64 .i64 (n : Int) (n : Int) (by omega) (Int.le_refl _) (by rw [i3]; omega) (by omega)
  rw [i2, Int.toNat_natCast, Nat.mul_one] at h
  exact h
/-- n symbols 0 -/
def zN (n : Nat) : List Nat := List.replicate n 0
theorem zN_len (n : Nat) : (zN n).length = n := List.length_replicate
theorem zN_lt (n : Nat) : ∀ x ∈ zN n, x < 1024 := fun x hx => by rw [List.eq_of_mem_replicate hx]; decide
theorem makeN (w : World) (n : Nat) (hn : n ≤ 65536) : (Instr.makeSlice 33 (.int .i64 (n : Int)) (.int .i64 (n : Int))).run Try.prog w = .ok (.slice (some ⟨w.heap.size, 0, none⟩) n n) (w.alloc (.cells ((zN n).map uv).toArray 54)) := run_make33 w n hn
/-- block g holds n numbers, and may be written -/
structure Nums (w : World) (g n : Nat) (f : Nat → Nat) : Prop where
  lt : g < w.heap.size
  row : ∃ cs, w.heap[g]? = some (.cells cs 3 (0, 0)) ∧ n ≤ cs.size
  at_ : ∀ i, i < n → w.cell? ⟨g, i, none⟩ = some (.int .i64 (f i : Int))
theorem Nums.block {w w' : World} {g n : Nat} {f : Nat → Nat} (h : Nums w g n f) (hs : w.heap.size ≤ w'.heap.size) (hb : w'.heap[g]? = w.heap[g]?) : Nums w' g n f where
  lt := Nat.lt_of_lt_of_le h.lt hs
  row := by obtain ⟨cs, h1, h2⟩ := h.row; exact ⟨cs, hb.trans h1, h2⟩
  at_ := fun i hi => (World.cell?_of_block (a := ⟨g, i, none⟩) hb).trans (h.at_ i hi)
theorem Nums.below {w w' : World} {g n : Nat} {f : Nat → Nat} (h : Nums w g n f) (hb : Below w.heap.size w w') : Nums w' g n f := h.block hb.size (hb.block g h.lt)
theorem Nums.keep {w w' : World} {g n : Nat} {f : Nat → Nat} {F : Nat → Prop} (h : Nums w g n f) (hk : Cl.Keeps (fun b => ¬ F b) w w') (hg : ¬ F g) : Nums w' g n f := h.block hk.size (hk.block g h.lt hg)
theorem Nums.frozen {w : World} {g n : Nat} {f : Nat → Nat} (h : Nums w g n f) (i : Nat) : w.frozen? ⟨g, i, none⟩ = false := by
  obtain ⟨cs, h1, _⟩ := h.row
  exact frozen_new h1 i
theorem Nums.put {w : World} {g n : Nat} {f : Nat → Nat} (h : Nums w g n f) {k : Nat} (hk : k < n) (v : Nat) : Nums (w.setCell ⟨g, k, none⟩ (.int .i64 (v : Int))) g n (putB f k v) where
  lt := by simp [World.setCell]; exact h.lt
  row := by
    obtain ⟨cs, h1, h2⟩ := h.row
    refine ⟨cs.setIfInBounds k (.int .i64 (v : Int)), ?_, by simpa using h2⟩
    simp only [World.setCell]
    rw [Array.getElem?_modify, h1]
    simp
  at_ := fun i hi => by
    show _ = some (Value.int .i64 (((if i = k then v else f i) : Nat) : Int))
    by_cases e : i = k
    · subst e
      rw [if_pos rfl]
      exact World.cell?_setCell_same _ _ _ (h.at_ i hi)
    · rw [if_neg e]
      exact (World.cell?_setCell_other _ _ _ _ (by intro e'; injection e'; omega)).trans (h.at_ i hi)
theorem Nums.new (w : World) (n : Nat) : Nums (w.alloc (.cells (zI n) 3)) w.heap.size n (fun _ => 0) where
  lt := by rw [World.size_alloc]; exact Nat.lt_succ_self _
  row := ⟨zI n, heap_alloc_new w _, by rw [zI_size]; exact Nat.le_refl _⟩
  at_ := fun i hi => (cell_new w _ _ i).trans (zI_at hi)
/-- a store outside the device -/
theorem Env.put {w0 w : World} {F : Nat → Prop} {a : Addr} {M : Dev} (h : Env w0 F a M w) {g k : Nat} {v : Value} (hg : ¬ F g) (hg0 : w0.heap.size ≤ g) : Env w0 F a M (w.setCell ⟨g, k, none⟩ v) :=
  ⟨h.low.setCell (p := ⟨g, k, none⟩) hg0 _, fun b hb => h.all b (by simpa [World.setCell] using hb), h.own, h.dev.keep (keeps_put (Cl.Keeps.refl _ _) hg)⟩
theorem Syms.put {w : World} {F : Nat → Prop} {A : Option Addr} {n c : Nat} {xs : List Nat} (h : Syms w F A n c xs) {g k : Nat} {v : Value} (hA : ∀ a, A = some a → a.block ≠ g) : Syms (w.setCell ⟨g, k, none⟩ v) F A n c xs := by
  have hs : (w.setCell ⟨g, k, none⟩ v).heap.size = w.heap.size := by simp [World.setCell]
  exact ⟨h.sl.block (by rw [hs]; exact Nat.le_refl _) fun a e _ => Below.heap_setCell _ _ _ _ (hA a e), fun a e => ⟨by rw [hs]; exact (h.out a e).1, (h.out a e).2⟩, h.len, h.cap, h.sym⟩
theorem may_nat {B P W K : Int} (h : Ge.mayG B P W K = true) : ∃ b p w k : Nat, B = b ∧ P = p ∧ W = w ∧ K = k := by
  have := Ge.may_of h
  exact ⟨B.toNat, P.toNat, W.toNat, K.toNat, by omega, by omega, by omega, by omega⟩
theorem remN (x m : Nat) (h : 0 < m) : ∃ r : Nat, r < m ∧ (x : Int) % (m : Int) = (r : Int) ∧ (x : Int).tmod (m : Int) = (r : Int) :=
  ⟨x % m, Nat.mod_lt _ h, (Int.natCast_emod _ _).symm, by rw [Int.tmod_eq_emod_of_nonneg (Int.natCast_nonneg _)]; exact (Int.natCast_emod _ _).symm⟩
set_option maxRecDepth 20000 in
set_option maxHeartbeats 8000000 in
theorem order_law (B P W K : Int) (wB : (Lit.int .i64 B).wf = true) (wP : (Lit.int .i64 P).wf = true) (wW : (Lit.int .i64 W).wf = true) (wK : (Lit.int .i64 K).wf = true)
    (A : Option Addr) (xs : List (Nat × Nat)) (c : Nat) (hl : xs.length ≤ c) (hc : c ≤ maxLen) (w : World) (hs : Sq8 w w.heap.size A xs) :
    Calls Try.prog 4 #[.agg #[.int .i64 B, .int .i64 P, .int .i64 W, .int .i64 K], .slice A xs.length c] w fun e w' => e = .returned (.bool true) ∧ Below w.heap.size w w' := by
  have haw := Lib.hid awake_any
  have hA := below_alloc' w (.cells #[.int .i64 B, .int .i64 P, .int .i64 W, .int .i64 K] 24)
  have hx := Lib.hid (Ge.Box.new w B P W K)
  generalize hw1 : w.alloc (.cells #[.int .i64 B, .int .i64 P, .int .i64 W, .int .i64 K] 24) = w1 at *
  replace hA := Lib.hid hA
  clear wB wP wW wK
  cases hg : Ge.mayG B P W K
  · have cm := Lib.hid (Ge.refmay_lit hg)
    go_enter Try.func4, Try.ntmps4
    go_wp2_with (first
      | (go_at_call 8; (with_reducible refine (haw.out _).mono ?_); rintro e w2 ⟨rfl, hb2⟩; obtain ⟨_, c0, c1, c2, c3⟩ := hx.out.keep hb2; replace hb2 := Lib.hid hb2)
      | (go_at_call 22; (with_reducible refine (cm.out _).mono ?_); rintro e w3 ⟨rfl, hb3⟩; replace hb3 := Lib.hid hb3))
    go_ret
    exact ⟨rfl, hA.out.trans ((hb2.out.trans (hb3.out.mono hb2.out.size)).mono hA.out.size)⟩
  · obtain ⟨b, p, v, k, rfl, rfl, rfl, rfl⟩ := may_nat hg
    obtain ⟨n, hn⟩ : ∃ n, v * (k + 16) = n := ⟨_, rfl⟩
    obtain ⟨sm, hsm⟩ : ∃ sm, decide (b * p * n ≤ 20000) = sm := ⟨_, rfl⟩
    have cm := Lib.hid (Ge.refmay_lit hg)
    have cs := Lib.hid (small_any hg hn hsm)
    have hn3 : n ≤ 320 := by have := Ge.may_of hg; rw [← hn]; exact Nat.mul_le_mul (show v ≤ 4 by omega) (show k + 16 ≤ 80 by omega)
    have hn0 : 0 < n := by have := Ge.may_of hg; rw [← hn]; exact Nat.lt_of_lt_of_le (by decide) (Nat.mul_le_mul (show 1 ≤ v by omega) (show 17 ≤ k + 16 by omega))
    clear hsm
    replace hn := Lib.hid hn
    obtain ⟨len, hlen⟩ : ∃ len, xs.length = len := ⟨_, rfl⟩
    rw [hlen]
    replace hlen := Lib.hid hlen
    cases sm
    · go_enter Try.func4, Try.ntmps4
      go_wp2_with (first
        | (go_at_call 8; (with_reducible refine (haw.out _).mono ?_); rintro e w2 ⟨rfl, hb2⟩; have hx2 := Lib.hid (hx.out.keep hb2); obtain ⟨_, c0, c1, c2, c3⟩ := hx2.out; have hB2 := Lib.hid (hA.out.trans (hb2.mono hA.out.size)); clear hb2)
        | (go_at_call 22; (with_reducible refine (cm.out _).mono ?_); rintro e w3 ⟨rfl, hb3⟩; have hx3 := Lib.hid (hx2.out.keep hb3); obtain ⟨_, c0, c1, c2, c3⟩ := hx3.out; have hB3 := Lib.hid (hB2.out.trans (hb3.mono hB2.out.size)); clear hb3)
        | (go_at_call 23; (with_reducible refine (cs.out _).mono ?_); rintro e w4 ⟨rfl, hb4⟩; have hB4 := Lib.hid (hB3.out.trans (hb4.mono hB3.out.size)); clear hb4))
      go_ret
      exact ⟨rfl, hB4.out⟩
    · by_cases h100 : 100 < len
      · have hI : (100 : Int) < (len : Int) := by omega
        have hd : decide (100 < len) = true := decide_eq_true h100
        go_enter Try.func4, Try.ntmps4
        go_wp2_with (first
          | (go_at_call 8; (with_reducible refine (haw.out _).mono ?_); rintro e w2 ⟨rfl, hb2⟩; have hx2 := Lib.hid (hx.out.keep hb2); obtain ⟨_, c0, c1, c2, c3⟩ := hx2.out; have hB2 := Lib.hid (hA.out.trans (hb2.mono hA.out.size)); clear hb2)
          | (go_at_call 22; (with_reducible refine (cm.out _).mono ?_); rintro e w3 ⟨rfl, hb3⟩; have hx3 := Lib.hid (hx2.out.keep hb3); obtain ⟨_, c0, c1, c2, c3⟩ := hx3.out; have hB3 := Lib.hid (hB2.out.trans (hb3.mono hB2.out.size)); clear hb3)
          | (go_at_call 23; (with_reducible refine (cs.out _).mono ?_); rintro e w4 ⟨rfl, hb4⟩; have hB4 := Lib.hid (hB3.out.trans (hb4.mono hB3.out.size)); clear hb4))
        go_ret
        exact ⟨rfl, hB4.out⟩
      · have hI : ¬ (100 : Int) < (len : Int) := by omega
        have hd : decide (100 < len) = false := decide_eq_false h100
        have hce : Ge.celG (b : Int) (p : Int) (v : Int) (k : Int) = (n : Int) := by
          unfold Ge.celG
          rw [if_pos hg, ← hn.out]
          simp
        have cc := Lib.hid (Ge.refcells_lit hce)
        clear hce
        go_enter Try.func4, Try.ntmps4
        go_wp2_with (first
          | (go_at_call 8; (with_reducible refine (haw.out _).mono ?_); rintro e w2 ⟨rfl, hb2⟩; have hx2 := Lib.hid (hx.out.keep hb2); obtain ⟨_, c0, c1, c2, c3⟩ := hx2.out; have hB2 := Lib.hid (hA.out.trans (hb2.mono hA.out.size)); clear hb2)
          | (go_at_call 22; (with_reducible refine (cm.out _).mono ?_); rintro e w3 ⟨rfl, hb3⟩; have hx3 := Lib.hid (hx2.out.keep hb3); obtain ⟨_, c0, c1, c2, c3⟩ := hx3.out; have hB3 := Lib.hid (hB2.out.trans (hb3.mono hB2.out.size)); clear hb3)
          | (go_at_call 23; (with_reducible refine (cs.out _).mono ?_); rintro e w4 ⟨rfl, hb4⟩; have hx4 := Lib.hid (hx3.out.keep hb4); obtain ⟨_, c0, c1, c2, c3⟩ := hx4.out; have hB4 := Lib.hid (hB3.out.trans (hb4.mono hB3.out.size)); clear hb4; clear hx2 hB2 hx3 hB3))
        refine (e_new (w := w4) b p v k rfl rfl rfl rfl hg (A := none) (bs := []) (n := 0) (c := 0) (Or.inl rfl) rfl (by decide) (by simp) (A2 := none) (ts := []) (n2 := 0) (c2 := 0) (Ft.S3.nil _ _ _) rfl (by decide) (by simp)).mono ?_
        rintro e w5 ⟨a, rfl, hb5, hE⟩
        have hx5 := Lib.hid (hx4.out.keep hb5)
        obtain ⟨_, c0, c1, c2, c3⟩ := hx5.out
        replace hE := Lib.hid hE
        clear hb5
        go_wp2_with (go_at_call 24; (with_reducible refine (cc.out _).mono ?_))
        rintro e w6 ⟨rfl, hb6⟩
        have hE6 := hE.out.below hb6
        have hx6 := hx5.out.keep hb6
        have hmk := makeN w6 n (by omega)
        obtain ⟨hE7, _, hS7⟩ := hE6.syms (zN n) (zN_lt n) (zN_len n)
        have hA7 := below_alloc' w6 (.cells ((zN n).map uv).toArray 54)
        have z7 := World.size_alloc w6 (.cells ((zN n).map uv).toArray 54)
        have hw6 := hE6.low.size
        have hx7 := hx6.keep hA7
        clear hE hE6 hx6 hx5 hb6 c0 c1 c2 c3
        generalize hw7 : w6.alloc (.cells ((zN n).map uv).toArray 54) = w7 at *
        obtain ⟨_, c0, c1, c2, c3⟩ := hx7
        have hb32 := Ge.may_of hg
        have hmk2 := run_make32i w7 b (by omega)
        have hA8 := below_alloc' w7 (.cells (zI b) 3)
        have z8 := World.size_alloc w7 (.cells (zI b) 3)
        have hN8 := Nums.new w7 b
        have hE8 := hE7.leave hA8 w7.heap.size (Nat.le_refl _) (by omega)
        have hS8 := (hS7.below hA8).less (G := fun b' => ((w4.heap.size ≤ b' ∧ b' ≠ w6.heap.size) ∧ b' ≠ w7.heap.size)) (fun b' hh => hh.1)
        have hsl6 : w4.heap.size ≤ w6.heap.size := hw6
        have hsl7 : w4.heap.size ≤ w7.heap.size := by omega
        have hne : w6.heap.size ≠ w7.heap.size := by omega
        clear hA7 hA8 z7 z8 hE7 hS7
        replace hE8 := Lib.hid hE8
        replace hS8 := Lib.hid hS8
        replace hN8 := Lib.hid hN8
        have hO8 := Lib.hid (OrdI.start b p v k)
        replace hb32 := Lib.hid hb32
        generalize hw8 : w7.alloc (.cells (zI b) 3) = w8 at *
        go_wp2_with fail
        obtain ⟨sb, hsb⟩ : ∃ sb, w6.heap.size = sb := ⟨_, rfl⟩
        obtain ⟨nb, hnb⟩ : ∃ nb, w7.heap.size = nb := ⟨_, rfl⟩
        rw [hsb, hnb] at hE8 hS8
        rw [hsb] at hsl6 hne ⊢
        rw [hnb] at hsl7 hne hN8 ⊢
        obtain ⟨F, hF⟩ : ∃ F : Nat → Prop, (fun b' => (w4.heap.size ≤ b' ∧ b' ≠ sb) ∧ b' ≠ nb) = F := ⟨_, rfl⟩
        have hFs : ¬ F sb := by rw [← hF]; intro hh; exact hh.1.2 rfl
        have hFn : ¬ F nb := by rw [← hF]; intro hh; exact hh.2 rfl
        rw [hF] at hE8 hS8
        replace hx4 := hx4
        clear hw8 hw7 hsb hnb hmk hmk2 c0 c1 c2 c3 hF cm cs cc
        go_loopw [9, 10] (fun m q wr => ∃ (i rf : Nat) (nx : Nat → Nat) (M : Dev), i ≤ len ∧ q = .int .i64 i ∧ m = .int .i64 rf ∧ rf ≤ i ∧ OrdI b p v k nx M i rf ∧ Env w4 F a M wr ∧ Syms wr F (some ⟨sb, 0, none⟩) n n (zN n) ∧ Nums wr nb b nx) (fun _ q _ => len - (intOf q).toNat)
        case atStart => exact ⟨0, 0, _, _, Nat.zero_le _, rfl, rfl, Nat.le_refl _, hO8.out, hE8.out, hS8.out, hN8.out⟩
        case round =>
          clear hO8 hE8 hS8 hN8
          obtain ⟨i, rf, nx, M, hi, rfl, rfl, hrf, hO, hE, hS, hN⟩ := hrel
          have hBx := hx4.out.keep hE.low
          have hwr := hB4.out.trans (hE.low.mono hB4.out.size)
          by_cases hin : i < len
          · have hiI : (i : Int) < (len : Int) := by omega
            have hdi : decide (i < len) = true := decide_eq_true hin
            have hi100 : i < 100 := by omega
            have hix : i < xs.length := by rw [hlen.out]; exact hin
            rcases hs.2 with hnil | ⟨ad, rfl, had, hcell⟩
            · rw [hnil] at hix; simp at hix
            obtain ⟨q0, q1⟩ := hcell i hix
            obtain ⟨y0, y1⟩ := hs.1 xs[i] (List.getElem_mem hix)
            obtain ⟨⟨y, z⟩, hyz⟩ : ∃ t, xs[i] = t := ⟨_, rfl⟩
            rw [hyz] at q0 q1 y0 y1
            dsimp only [vb8] at q0 q1 y0 y1
            rw [Ft.add_more ad (i * 2) 1 (by decide)] at q1
            have hadl : ∀ m, (ad.add m).block < w.heap.size := fun m => by rw [add_block]; exact had
            have k0 := fun x : Cl.After wr.heap.size wr => (((x.below.mono hwr.size).cell (hadl _)).trans (hwr.cell (hadl _))).trans q0
            have k1 := fun x : Cl.After wr.heap.size wr => (((x.below.mono hwr.size).cell (p := ⟨(ad.add (i * 2)).block, (ad.add (i * 2)).off + 1, none⟩) (hadl _)).trans (hwr.cell (p := ⟨(ad.add (i * 2)).block, (ad.add (i * 2)).off + 1, none⟩) (hadl _))).trans q1
            have b0 := fun x : Cl.After wr.heap.size wr => (hBx.keep x.below).c0
            have b1 := fun x : Cl.After wr.heap.size wr => (hBx.keep x.below).c1
            obtain ⟨u1, u2, u3, u4, _⟩ := hb32.out
            have hbn : ¬ (b : Int) = 0 := fun e => by rw [e] at u1; exact absurd u1 (by decide)
            have hpn : ¬ (p : Int) + 1 = 0 := fun e => by have : (2 : Int) + 1 ≤ 0 := by rw [← e]; exact Int.add_le_add_right u3 1
                                                          exact absurd this (by decide)
            clear q0 q1 hyz hcell had hs
            obtain ⟨r1, r1l, r1a, r1b⟩ := remN y b (by omega)
            obtain ⟨r2, r2l, r2a, r2b⟩ := remN z (p + 1) (Nat.succ_pos _)
            rw [show ((p + 1 : Nat) : Int) = (p : Int) + 1 from by simp] at r2a r2b
            replace hE := Lib.hid hE
            replace hS := Lib.hid hS
            replace hN := Lib.hid hN
            replace hO := Lib.hid hO
            replace hwr := Lib.hid hwr
            go_wp2_with fail
            refine Cl.region_after_at wr.heap.size (by kernel_rfl) lex4_14 (by kernel_rfl) ?_
            try simp only [List.append]
            repeat (go_big_quiet_step (fail))
            refine wpQuiet_nil ?_
            rintro _ ⟨x, rfl⟩
            have c1 := (hBx.keep x.below).c1
            have hE9 := Lib.hid (hE.out.below x.below)
            have hS9 := Lib.hid (hS.out.below x.below)
            have hN9 := Lib.hid (hN.out.below x.below)
            clear k0 k1 b0 b1 r1a r1b r2a r2b hE hS hN hwr hadl hbn hpn
            generalize x.w = w9 at *
            have hfine := Lib.hid (hO.out.fine (by omega) hrf)
            have hr1B : Hid (r1 < M.B) := by rw [hO.out.gB]; exact Lib.hid r1l
            have hMn : Hid (M.n = n) := by unfold Dev.n; rw [hO.out.gW, hO.out.gK]; exact hn
            have hr1I : (r1 : Int) < (b : Int) := by omega
            by_cases hrp : r2 = p
            · subst hrp
              obtain ⟨M', hR, hO'⟩ := hO.out.erase r1
              replace hO' := Lib.hid hO'
              have her := Lib.hid (e_erase hE9.out hfine.out r1 hr1B.out rfl hR)
              go_wp2_with (go_at_call 11; (with_reducible refine her.out.mono ?_); rintro e w10 ⟨rfl, hk10, hE10⟩; have hS10 := hS9.out.keep hk10; have hN10 := hN9.out.keep hk10 hFn; have q1 := hN10.at_ r1 r1l; have f1 := hN10.frozen r1; have hE11 := Lib.hid (hE10.put (k := r1) (v := .int .i64 0) hFn hsl7); have hS11 := Lib.hid (hS10.put (g := nb) (k := r1) (v := .int .i64 0) (fun a e => by injection e with e; subst e; exact hne)); have hN11 := Lib.hid (hN10.put r1l 0); clear hE10 hS10 hN10 hk10)
              go_roundw
              case rel => exact ⟨i + 1, rf, _, M', by omega, by go_num, rfl, by omega, hO'.out, hE11.out, hS11.out, hN11.out⟩
              case measure => simp [intOf]; omega
            · have hr2p : r2 < p := by omega
              have hr2P : Hid (r2 < M.P) := by rw [hO.out.gP]; exact Lib.hid hr2p
              have e1 : ((r2 : Int) == (p : Int)) = false := by rw [beq_eq_false_iff_ne]; omega
              have e1b : (r2 == p) = false := by rw [beq_eq_false_iff_ne]; exact hrp
              have hnxp := hO.out.le r1
              obtain ⟨X, hX⟩ : ∃ X, nx r1 = X := ⟨_, rfl⟩
              by_cases hnx : r2 = X
              · obtain ⟨M', hR, hO'⟩ := hO.out.prog (b := r1) (p := r2) (by rw [hX]; exact hnx) hr2p (xs := zN n) (by rw [zN_len, hMn.out]) (by rw [hMn.out]; exact hn0)
                replace hO' := Lib.hid hO'
                have hpr := Lib.hid (e_program hE9.out hfine.out r1 r2 hr1B.out hr2P.out rfl rfl hS9.out hMn.out.symm hR)
                rw [hX] at hnxp
                have e3 : ((r2 : Int) == (X : Int)) = true := by rw [hnx]; simp
                have e3b : (r2 == X) = true := by rw [hnx]; simp
                replace hnx := Lib.hid hnx
                replace hX := Lib.hid hX
                go_wp2_with (go_at_call 10; (with_reducible refine hpr.out.mono ?_); rintro e w10 ⟨rfl, hk10, hE10⟩; have hS10 := hS9.out.keep hk10; have hN10 := hN9.out.keep hk10 hFn; have q1 := hN10.at_ r1 r1l; rw [hX.out] at q1; have f1 := hN10.frozen r1; have hE11 := Lib.hid (hE10.put (k := r1) (v := .int .i64 ((X : Int) + 1)) hFn hsl7); have hS11 := Lib.hid (hS10.put (g := nb) (k := r1) (v := .int .i64 ((X : Int) + 1)) (fun a e => by injection e with e; subst e; exact hne)); have hN11 := Lib.hid (hN10.put r1l (nx r1 + 1)); rw [hX.out, show ((X + 1 : Nat) : Int) = (X : Int) + 1 from by simp] at hN11; clear hE10 hS10 hN10 hk10)
                go_roundw
                case rel => exact ⟨i + 1, rf, _, M', by omega, by go_num, rfl, by omega, hO'.out, hE11.out, hS11.out, by rw [hX.out]; exact hN11.out⟩
                case measure => simp [intOf]; omega
              · obtain ⟨M', hR, hO'⟩ := hO.out.bad (b := r1) (p := r2) (by rw [hX]; exact hnx) hr2p (xs := zN n)
                replace hO' := Lib.hid hO'
                have hpr := Lib.hid (e_program hE9.out hfine.out r1 r2 hr1B.out hr2P.out rfl rfl hS9.out hMn.out.symm hR)
                have e3 : ((r2 : Int) == (X : Int)) = false := by rw [beq_eq_false_iff_ne]; omega
                have e3b : (r2 == X) = false := by rw [beq_eq_false_iff_ne]; exact hnx
                replace hX := Lib.hid hX
                replace hnx := Lib.hid hnx
                go_wp2_with (go_at_call 10; (with_reducible refine hpr.out.mono ?_); rintro e w10 ⟨rfl, hk10, hE10⟩; have hS10 := Lib.hid (hS9.out.keep hk10); have hN10 := hN9.out.keep hk10 hFn; have q1 := hN10.at_ r1 r1l; rw [hX.out] at q1; replace hN10 := Lib.hid hN10; replace hE10 := Lib.hid hE10; clear hk10)
                go_roundw
                case rel => exact ⟨i + 1, rf + 1, nx, M', by omega, by go_num, by go_num, by omega, hO'.out, hE10.out, hS10.out, hN10.out⟩
                case measure => simp [intOf]; omega
          · obtain rfl : i = len := by omega
            have hdi : decide (i < i) = false := decide_eq_false (Nat.lt_irrefl _)
            have hcr := Lib.hid (e_refused hE (r := (rf : Int)) (by rw [hO.rf]))
            have hro := Lib.hid (fun w' (hb : Below wr.heap.size wr w') => e_ops (hE.below hb) (r := (i : Int)) (by rw [hO.ops]))
            replace hE := Lib.hid hE
            clear hO hS hN hs
            replace hwr := Lib.hid hwr
            go_wp2_with (first
              | (go_at_call 17; (with_reducible refine hcr.out.mono ?_); rintro e w10 ⟨rfl, hb10⟩; have hro2 := Lib.hid (hro.out _ hb10); have hw10 := Lib.hid (hwr.out.trans (hb10.mono hwr.out.size)); clear hb10)
              | (go_at_call 12; (with_reducible refine hro2.out.mono ?_); rintro e w11 ⟨rfl, hb11⟩; have hw11 := Lib.hid (hw10.out.trans (hb11.mono hw10.out.size)); clear hb11))
            go_ret
            exact ⟨rfl, hw11.out⟩
end Go.Proofs.Ytnndhbppgmnefaa
