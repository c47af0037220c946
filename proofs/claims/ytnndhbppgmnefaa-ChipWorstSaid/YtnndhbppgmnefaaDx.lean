/- A block whose first pages are written; ChipPower: the walk. -/
import Derived.Test.YtnndhbppgmnefaaDw
import Derived.Test.YtnndhbppgmnefaaDt
namespace Go.Proofs.Ytnndhbppgmnefaa
open Go.RowKit Go.Fl
set_option linter.unusedVariables false
set_option linter.unusedSimpArgs false
attribute [local go_sem ↓] Cl.quiet_after Cl.quiet_since
/-- a device, the first q pages of whose block 1 are written -/
def rowD (B P W K : Nat) (ts : List (Int × Int × Int)) (xs : List Nat) (q : Nat) : Dev := { freshD B P W K (marksOf [] 0) ts with ops := q, pg := fun i j => if i = 1 ∧ j < q then progPg (blankPg (W * (K + 16))) xs ((W * (K + 16) : Nat) : Int) else blankPg (W * (K + 16)) }
section
variable {B P W K q : Nat} {ts : List (Int × Int × Int)} {xs : List Nat}
theorem rowD_zero : rowD B P W K ts xs 0 = freshD B P W K (marksOf [] 0) ts := by
  unfold rowD
  have : (fun (i j : Nat) => if i = 1 ∧ j < 0 then progPg (blankPg (W * (K + 16))) xs ((W * (K + 16) : Nat) : Int) else blankPg (W * (K + 16))) = fun _ _ => blankPg (W * (K + 16)) := by
    funext i j
    rw [if_neg (by omega)]
  rw [this]
  rfl
theorem rowD_n : (rowD B P W K ts xs q).n = W * (K + 16) := rfl
theorem rowD_next (hx : xs.length = W * (K + 16)) (hn : 0 < W * (K + 16)) : nextB (rowD B P W K ts xs q) 1 q = true := by
  refine nextB_yes (fun j hj hq => ?_) ?_
  · show (if 1 = 1 ∧ j < q then _ else blankPg _ : Pg).st = 0
    rw [if_neg (by omega)]
    rfl
  · by_cases h0 : q = 0
    · exact Or.inl h0
    · refine Or.inr ?_
      show (if 1 = 1 ∧ q - 1 < q then progPg (blankPg (W * (K + 16))) xs ((W * (K + 16) : Nat) : Int) else blankPg _ : Pg).st ≠ 0
      rw [if_pos (by omega)]
      show progS xs.length ((W * (K + 16) : Nat) : Int) ≠ 0
      unfold progS
      rw [if_neg (by omega), if_pos (by omega)]
      decide
theorem rowD_at : (rowD B P W K ts xs q).pg 1 q = blankPg (W * (K + 16)) := by
  show (if 1 = 1 ∧ q < q then _ else blankPg _ : Pg) = _
  rw [if_neg (by omega)]
theorem rowD_step (hx : xs.length = W * (K + 16)) (hn : 0 < W * (K + 16)) (h1 : (fateOf (rowD B P W K ts xs q)).2.1 ≠ 1) (h2 : (fateOf (rowD B P W K ts xs q)).2.1 ≠ 2) : stepD (rowD B P W K ts xs q) 2 1 q xs = (0, rowD B P W K ts xs (q + 1)) := by
  rw [st_prog rfl (progE_ok rfl (rowD_next hx hn) rfl) h1 h2, rowD_at, rowD_n]
  congr 1
  unfold rowD
  dsimp only
  congr 1
  funext i j
  unfold setPg
  dsimp only
  by_cases e : i = 1 ∧ j = q
  · rw [if_pos e, if_pos (by omega)]
  · rw [if_neg e]
    by_cases e2 : i = 1 ∧ j < q
    · rw [if_pos e2, if_pos (by omega)]
    · rw [if_neg e2, if_neg (by omega)]
end
/-- one fate -/
theorem fate_one {M : Dev} {m d k : Int} (h : M.ft = [(m, d, k)]) (hm : Ft.mayF [(m, d, k)] = true) : fateOf M = if (M.ops : Int) = m then (m, d, k) else (0, 0, 0) := by
  unfold fateOf
  rw [h]
  by_cases e : (M.ops : Int) = m
  · rw [if_pos e]
    exact (Ft.at_some hm (List.mem_singleton.2 rfl) e.symm).1
  · rw [if_neg e]
    exact (Ft.at_none (fun y hy => by rw [List.mem_singleton.1 hy]; exact fun e' => e e'.symm) _ (Nat.le_refl _)).1
theorem may_one {m d k : Int} (h1 : 0 ≤ m) (h2 : m ≤ 1000000) (h3 : d = 1 ∨ d = 2) (h4 : 0 ≤ k) : Ft.mayF [(m, d, k)] = true := by
  refine Ft.mayF_yes (by show 1 ≤ 256; decide) fun i hi => ?_
  obtain rfl : i = 0 := by simpa using hi
  refine Ft.newT_ok ?_ (fun k hk => absurd hk (by omega))
  unfold Ft.okT
  exact decide_eq_true ⟨h1, by show m ≤ _; omega, h3, h4⟩
/-- noughts, of which the first k are programmed -/
theorem prog_pt {n i : Nat} {xs : List Nat} {kp : Int} (hi : i < n) : ptAt (progP (List.replicate n (0, 0)) xs kp) i = if (i : Int) < kp then pt (syAt xs i) else (0, 0) := by
  unfold progP ptAt
  have h : i < ((List.range (List.replicate n ((0 : Int), (0 : Int))).length).map fun (i : Nat) => if (i : Int) < kp then pt (syAt xs i) else (List.replicate n ((0 : Int), (0 : Int))).getD i (0, 0)).length := by simpa using hi
  rw [List.getD, List.getElem?_eq_getElem h]
  simp [List.getD, List.getElem?_replicate, hi]
theorem pt_ne (s : Nat) : pt s ≠ (0, 0) := by
  unfold pt
  intro e
  injection e with e1 e2
  omega
theorem charged_prog {n : Nat} {xs : List Nat} {k : Nat} : ∀ i, i ≤ n → charged (progP (List.replicate n (0, 0)) xs (k : Int)) i = min k i
  | 0, _ => (Nat.min_zero _).symm
  | i + 1, h => by
    have ih := charged_prog (n := n) (xs := xs) (k := k) i (by omega)
    by_cases e : (i : Int) < (k : Int)
    · rw [charged_miss (by rw [prog_pt (by omega), if_pos e]; exact pt_ne _), ih]
      omega
    · rw [charged_hit (by rw [prog_pt (by omega), if_neg e]), ih]
      omega
/-- the power goes while page m of block 1 is programmed -/
theorem power_cut {B P W K m kp : Nat} {ts : List (Int × Int × Int)} (hts : [((m : Int), 2, (kp : Int))] = ts) (hmay : Ft.mayF ts = true) {xs : List Nat} (hx : xs.length = W * (K + 16)) (hn : 0 < W * (K + 16)) (hm : m < 1000) :
    ∃ M, stepD (rowD B P W K ts xs m) 2 1 m xs = (8, M) ∧ M.dark = true ∧ Fine M ∧ M.B = B ∧ M.P = P ∧ M.n = W * (K + 16) ∧ M.ops = m + 1 ∧ M.rf = 0 ∧ M.ft = ts ∧ (∀ b, M.er b = 0) ∧ (∀ b, M.md b = false) ∧ (M.pg 1 m).ps = progP (List.replicate (W * (K + 16)) (0, 0)) xs (kp : Int) := by
  subst hts
  have hf : fateOf (rowD B P W K [((m : Int), 2, (kp : Int))] xs m) = ((m : Int), 2, (kp : Int)) := by
    rw [fate_one (m := (m : Int)) (d := 2) (k := (kp : Int)) rfl hmay]
    exact if_pos rfl
  refine ⟨_, st_prog_cut rfl (progE_ok rfl (rowD_next hx hn) rfl) (by rw [hf]), rfl, ⟨?_, ?_, ?_⟩, rfl, rfl, rfl, rfl, rfl, rfl, fun _ => rfl, fun _ => rfl, ?_⟩
  · show m + 1 < 1000000000; omega
  · show 0 < 1000000000; omega
  · intro _; show 0 < 1000000; omega
  · show (setPg _ 1 m (progPg ((rowD B P W K [((m : Int), 2, (kp : Int))] xs m).pg 1 m) xs (fateOf (rowD B P W K [((m : Int), 2, (kp : Int))] xs m)).2.2) 1 m).ps = _
    unfold setPg
    rw [if_pos ⟨rfl, rfl⟩, rowD_at, hf]
    rfl
set_option maxRecDepth 20000 in
set_option maxHeartbeats 8000000 in
theorem power_law (B P W K : Int) (wB : (Lit.int .i64 B).wf = true) (wP : (Lit.int .i64 P).wf = true) (wW : (Lit.int .i64 W).wf = true) (wK : (Lit.int .i64 K).wf = true) (a1 : Int) (wa1 : (Lit.int .u8 a1).wf = true) (a2 : Int) (wa2 : (Lit.int .u8 a2).wf = true) (w : World) :
    Calls Try.prog 5 #[.agg #[.int .i64 B, .int .i64 P, .int .i64 W, .int .i64 K], .int .u8 a1, .int .u8 a2] w fun e w' => e = .returned (.bool true) ∧ Below w.heap.size w w' := by
  have ha1 := u8_range wa1
  have ha2 := u8_range wa2
  obtain ⟨y, rfl⟩ : ∃ y : Nat, a1 = (y : Int) := ⟨a1.toNat, by omega⟩
  obtain ⟨kp, rfl⟩ : ∃ kp : Nat, a2 = (kp : Int) := ⟨a2.toNat, by omega⟩
  have hy256 : y < 256 := by omega
  have hk256 : kp < 256 := by omega
  clear wa1 wa2 ha1 ha2
  have haw := Lib.hid awake_any
  have hA := below_alloc' w (.cells #[.int .i64 B, .int .i64 P, .int .i64 W, .int .i64 K] 24)
  have hx := Lib.hid (Ge.Box.new w B P W K)
  generalize hw1 : w.alloc (.cells #[.int .i64 B, .int .i64 P, .int .i64 W, .int .i64 K] 24) = w1 at *
  replace hA := Lib.hid hA
  clear wB wP wW wK
  cases hg : Ge.mayG B P W K
  · have cm := Lib.hid (Ge.refmay_lit hg)
    go_enter Try.func5, Try.ntmps5
    go_wp2_with (first
      | (go_at_call 8; (with_reducible refine (haw.out _).mono ?_); rintro e w2 ⟨rfl, hb2⟩; have hx2 := Lib.hid (hx.out.keep hb2); obtain ⟨_, c0, c1, c2, c3⟩ := hx2.out; have hB2 := Lib.hid (hA.out.trans (hb2.mono hA.out.size)); clear hb2)
      | (go_at_call 22; (with_reducible refine (cm.out _).mono ?_); rintro e w3 ⟨rfl, hb3⟩; have hx3 := Lib.hid (hx2.out.keep hb3); obtain ⟨_, c0, c1, c2, c3⟩ := hx3.out; have hB3 := Lib.hid (hB2.out.trans (hb3.mono hB2.out.size)); clear hb3))
    go_ret
    exact ⟨rfl, hB3.out⟩
  · obtain ⟨b, p, v, k, rfl, rfl, rfl, rfl⟩ := may_nat hg
    obtain ⟨n, hn⟩ : ∃ n, v * (k + 16) = n := ⟨_, rfl⟩
    obtain ⟨sm, hsm⟩ : ∃ sm, decide (b * p * n ≤ 20000) = sm := ⟨_, rfl⟩
    have cm := Lib.hid (Ge.refmay_lit hg)
    have cs := Lib.hid (small_any hg hn hsm)
    have hn3 : n ≤ 320 := by have := Ge.may_of hg; rw [← hn]; exact Nat.mul_le_mul (show v ≤ 4 by omega) (show k + 16 ≤ 80 by omega)
    have hn0 : 0 < n := by have := Ge.may_of hg; rw [← hn]; exact Nat.lt_of_lt_of_le (by decide) (Nat.mul_le_mul (show 1 ≤ v by omega) (show 17 ≤ k + 16 by omega))
    clear hsm
    replace hn := Lib.hid hn
    cases sm
    · go_enter Try.func5, Try.ntmps5
      go_wp2_with (first
        | (go_at_call 8; (with_reducible refine (haw.out _).mono ?_); rintro e w2 ⟨rfl, hb2⟩; have hx2 := Lib.hid (hx.out.keep hb2); obtain ⟨_, c0, c1, c2, c3⟩ := hx2.out; have hB2 := Lib.hid (hA.out.trans (hb2.mono hA.out.size)); clear hb2)
        | (go_at_call 22; (with_reducible refine (cm.out _).mono ?_); rintro e w3 ⟨rfl, hb3⟩; have hx3 := Lib.hid (hx2.out.keep hb3); obtain ⟨_, c0, c1, c2, c3⟩ := hx3.out; have hB3 := Lib.hid (hB2.out.trans (hb3.mono hB2.out.size)); clear hb3)
        | (go_at_call 23; (with_reducible refine (cs.out _).mono ?_); rintro e w4 ⟨rfl, hb4⟩; have hB4 := Lib.hid (hB3.out.trans (hb4.mono hB3.out.size)); clear hb4))
      go_ret
      exact ⟨rfl, hB4.out⟩
    · have hce : Ge.celG (b : Int) (p : Int) (v : Int) (k : Int) = (n : Int) := by
        unfold Ge.celG
        rw [if_pos hg, ← hn.out]
        simp
      have cc := Lib.hid (Ge.refcells_lit hce)
      clear hce
      have hb32 := Lib.hid (Ge.may_of hg)
      obtain ⟨u1, u2, u3, u4, _⟩ := hb32.out
      have hpn : ¬ (p : Int) = 0 := fun e => by rw [e] at u3; exact absurd u3 (by decide)
      obtain ⟨m, hml, hma, hmb⟩ := remN y p (by omega)
      go_enter Try.func5, Try.ntmps5
      go_wp2_with (first
        | (go_at_call 8; (with_reducible refine (haw.out _).mono ?_); rintro e w2 ⟨rfl, hb2⟩; have hx2 := Lib.hid (hx.out.keep hb2); obtain ⟨_, c0, c1, c2, c3⟩ := hx2.out; have hB2 := Lib.hid (hA.out.trans (hb2.mono hA.out.size)); clear hb2)
        | (go_at_call 22; (with_reducible refine (cm.out _).mono ?_); rintro e w3 ⟨rfl, hb3⟩; have hx3 := Lib.hid (hx2.out.keep hb3); obtain ⟨_, c0, c1, c2, c3⟩ := hx3.out; have hB3 := Lib.hid (hB2.out.trans (hb3.mono hB2.out.size)); clear hb3)
        | (go_at_call 23; (with_reducible refine (cs.out _).mono ?_); rintro e w4 ⟨rfl, hb4⟩; have hx4 := Lib.hid (hx3.out.keep hb4); obtain ⟨_, c0, c1, c2, c3⟩ := hx4.out; have hB4 := Lib.hid (hB3.out.trans (hb4.mono hB3.out.size)); clear hb4; clear hx2 hB2 hx3 hB3))
      have hmay := may_one (m := (m : Int)) (d := 2) (k := (kp : Int)) (by omega) (by omega) (Or.inr rfl) (by omega)
      have hA5 := below_alloc' w4 (.cells #[.int .i64 (m : Int), .int .i64 2, .int .i64 (kp : Int)] 26)
      have hts := Ft.S3.new w4 #[.int .i64 (m : Int), .int .i64 2, .int .i64 (kp : Int)] [((m : Int), 2, (kp : Int))] 26 (fun i hi => by
        obtain rfl : i = 0 := by simpa using hi
        exact ⟨rfl, rfl, rfl⟩)
      have hx5 := Lib.hid (hx4.out.keep hA5)
      have hB5 := Lib.hid (hB4.out.trans (hA5.mono hB4.out.size))
      generalize w4.alloc (.cells #[.int .i64 (m : Int), .int .i64 2, .int .i64 (kp : Int)] 26) = w5 at *
      refine (e_new (w := w5) b p v k rfl rfl rfl rfl hg (A := none) (bs := []) (n := 0) (c := 0) (Or.inl rfl) rfl (by decide) (by simp) (c2 := 1) hts rfl hmay (fun x hx => by rw [List.mem_singleton.1 hx]; show (kp : Int) ≤ _; omega)).mono ?_
      clear hA5 hts hx4 hB4
      rintro e w6 ⟨a, rfl, hb6, hE⟩
      have hx6 := Lib.hid (hx5.out.keep hb6)
      obtain ⟨_, c0, c1, c2, c3⟩ := hx6.out
      obtain ⟨ts, hts⟩ : ∃ ts : List (Int × Int × Int), Hid ([((m : Int), 2, (kp : Int))] = ts) := ⟨_, Lib.hid rfl⟩
      rw [hts.out] at hE hmay
      have hE : Hid (Env w5 (fun b' => w5.heap.size ≤ b') a (rowD b p v k ts (zN n) 0) w6) := by rw [rowD_zero]; exact Lib.hid hE
      clear hb6 hx5
      go_wp2_with (go_at_call 24; (with_reducible refine (cc.out _).mono ?_))
      rintro e w7 ⟨rfl, hb7⟩
      have hE7 := hE.out.below hb7
      have hmk := makeN w7 n (by omega)
      obtain ⟨hE8, _, hS8⟩ := hE7.syms (zN n) (zN_lt n) (zN_len n)
      clear hE hE7 hx6 hb7 c0 c1 c2 c3
      generalize hw8 : w7.alloc (.cells ((zN n).map uv).toArray 54) = w8 at *
      obtain ⟨sb, hsb⟩ : ∃ sb, w7.heap.size = sb := ⟨_, rfl⟩
      rw [hsb] at hE8 hS8 hmk
      obtain ⟨F, hF⟩ : ∃ F : Nat → Prop, (fun b' => w5.heap.size ≤ b' ∧ b' ≠ sb) = F := ⟨_, rfl⟩
      rw [hF] at hE8 hS8
      replace hE8 := Lib.hid hE8
      replace hS8 := Lib.hid hS8
      clear cm cs cc hF
      go_wp2_with fail
      clear hmk hw8
      go_loopw [11] (fun q' wr => ∃ q : Nat, q ≤ m ∧ q' = .int .i64 q ∧ Env w5 F a (rowD b p v k ts (zN n) q) wr ∧ Syms wr F (some ⟨sb, 0, none⟩) n n (zN n)) (fun q _ => m - (intOf q).toNat)
      case atStart => exact ⟨0, Nat.zero_le _, rfl, hE8.out, hS8.out⟩
      case round =>
        clear hE8 hS8
        obtain ⟨q, hq, rfl, hE, hS⟩ := hrel
        have hzl : Hid ((zN n).length = v * (k + 16)) := by rw [zN_len, hn.out]; exact Lib.hid rfl
        have hnp : Hid (0 < v * (k + 16)) := by rw [hn.out]; exact Lib.hid hn0
        have h1B : Hid (1 < b) := Lib.hid (by omega)
        by_cases hqm : q < m
        · have hqI : (q : Int) < (m : Int) := by omega
          have hdq : decide (q < m) = true := decide_eq_true hqm
          have hf : fateOf (rowD b p v k ts (zN n) q) = (0, 0, 0) := by
            rw [fate_one (m := (m : Int)) (d := 2) (k := (kp : Int)) (by rw [hts.out]; rfl) (by rw [hts.out]; exact hmay)]
            exact if_neg (by show ¬ (q : Int) = (m : Int); omega)
          have hR := rowD_step (B := b) (P := p) (ts := ts) (q := q) hzl.out hnp.out (by rw [hf]; decide) (by rw [hf]; decide)
          have hpr := Lib.hid (e_program hE (M := rowD b p v k ts (zN n) q) (bI := 1) ⟨by show q < 1000000000; omega, by show 0 < 1000000000; omega, fun _ => by show 0 < 1000000; omega⟩ 1 q h1B.out (by show q < p; omega) rfl rfl hS (by rw [rowD_n]; exact hn.out.symm) hR)
          replace hS := Lib.hid hS
          clear hE hf hR
          go_wp2_with (go_at_call 10; (with_reducible refine hpr.out.mono ?_); rintro e w10 ⟨rfl, hk10, hE10⟩; have hS10 := Lib.hid (hS.out.keep hk10); replace hE10 := Lib.hid hE10; clear hk10)
          go_roundw
          case rel => exact ⟨q + 1, by omega, by go_num, hE10.out, hS10.out⟩
          case measure => simp [intOf]; omega
        · obtain rfl : q = m := by omega
          have hdq : decide (q < q) = false := decide_eq_false (Nat.lt_irrefl _)
          obtain ⟨M8, hR8, hdk, hfine, hMB, hMP, hMn, hMo, hMr, hMf, hMe, hMm, hMp⟩ := power_cut (B := b) (P := p) hts.out hmay hzl.out hnp.out (by omega)
          rw [hn.out] at hMn hMp
          replace hS := Lib.hid hS
          have hE := Lib.hid hE
          go_wp2_with fail
          refine (e_program hE.out (M := rowD b p v k ts (zN n) q) ⟨by show q < 1000000000; omega, by show 0 < 1000000000; omega, fun _ => by show 0 < 1000000; omega⟩ 1 q h1B.out hml rfl rfl hS.out (by rw [rowD_n]; exact hn.out.symm) hR8).mono ?_
          rintro e w10 ⟨rfl, hk10, hE10⟩
          have hS10 := Lib.hid (hS.out.keep hk10)
          replace hE10 := Lib.hid hE10
          clear hk10 hE hS hR8
          replace hMB := Lib.hid hMB
          replace hMP := Lib.hid hMP
          replace hMn := Lib.hid hMn
          replace hMo := Lib.hid hMo
          replace hMr := Lib.hid hMr
          replace hMf := Lib.hid hMf
          replace hMe := Lib.hid hMe
          replace hMm := Lib.hid hMm
          replace hMp := Lib.hid hMp
          replace hdk := Lib.hid hdk
          replace hfine := Lib.hid hfine
          go_wp2_with fail
          refine (e_program hE10.out hfine.out 0 0 (by rw [hMB.out]; omega) (by rw [hMP.out]; omega) rfl rfl hS10.out hMn.out.symm (st_dark hdk.out 2)).mono ?_
          rintro e w11 ⟨rfl, hk11, hE11⟩
          replace hE11 := Lib.hid hE11
          clear hk11 hE10 hS10
          go_wp2_with fail
          refine (e_erase hE11.out hfine.out 1 (by rw [hMB.out]; omega) rfl (st_dark hdk.out 3)).mono ?_
          rintro e w12 ⟨rfl, _, hE12⟩
          replace hE12 := Lib.hid hE12
          clear hE11
          go_wp2_with fail
          refine (e_mark hE12.out hfine.out 2 (by rw [hMB.out]; omega) rfl (st_dark hdk.out 4)).mono ?_
          rintro e w13 ⟨rfl, _, hE13⟩
          replace hE13 := Lib.hid hE13
          clear hE12
          go_wp2_with fail
          refine (e_erase_no hE13.out hfine.out 99 (by rw [hMB.out]; omega) (sn_dark hdk.out)).mono ?_
          rintro e w14 ⟨rfl, _, hE14⟩
          replace hE14 := Lib.hid hE14
          clear hE13
          go_wp2_with fail
          have hA15 := below_alloc' w14 (.cells #[.int .i64 8, .int .i64 8, .int .i64 8, .int .i64 8, .int .i64 8] 29)
          have z15 := World.size_alloc w14 (.cells #[.int .i64 8, .int .i64 8, .int .i64 8, .int .i64 8, .int .i64 8] 29)
          have cg := cell_new w14 #[.int .i64 8, .int .i64 8, .int .i64 8, .int .i64 8, .int .i64 8] 29
          have hgot : Hid (∀ i, i < 5 → (w14.alloc (.cells #[.int .i64 8, .int .i64 8, .int .i64 8, .int .i64 8, .int .i64 8] 29)).cell? ⟨w14.heap.size, i, none⟩ = some (.int .i64 8)) := fun i hi => by
            rw [cg]
            rcases (by omega : i = 0 ∨ i = 1 ∨ i = 2 ∨ i = 3 ∨ i = 4) with rfl | rfl | rfl | rfl | rfl <;> rfl
          have hE15 := hE14.out.leave hA15 w14.heap.size (Nat.le_refl _) (by omega)
          generalize w14.alloc (.cells #[.int .i64 8, .int .i64 8, .int .i64 8, .int .i64 8, .int .i64 8] 29) = w15 at *
          obtain ⟨gb, hgb⟩ : ∃ gb, w14.heap.size = gb := ⟨_, rfl⟩
          rw [hgb] at hgot hE15 z15 ⊢
          have hgl15 : gb < w15.heap.size := by omega
          obtain ⟨G, hG⟩ : ∃ G : Nat → Prop, (fun b' => F b' ∧ b' ≠ gb) = G := ⟨_, rfl⟩
          have hGg : ¬ G gb := by rw [← hG]; exact fun hh => hh.2 rfl
          rw [hG] at hE15
          clear hA15 z15 cg hE14 hgb hG
          replace hE15 := Lib.hid hE15
          refine (e_sense_err hE15.out hfine.out 1 0 (by rw [hMB.out]; omega) (by rw [hMP.out]; omega) rfl rfl (st_dark hdk.out 1) (by decide)).mono ?_
          rintro e w16 ⟨rfl, hk16, hE16⟩
          have hgot16 : Hid (∀ i, i < 5 → w16.cell? ⟨gb, i, none⟩ = some (.int .i64 8)) := fun i hi => (World.cell?_of_block (a := ⟨gb, i, none⟩) (hk16.block gb hgl15 hGg)).trans (hgot.out i hi)
          have hgl16 : gb < w16.heap.size := Nat.lt_of_lt_of_le hgl15 hk16.size
          replace hE16 := Lib.hid hE16
          clear hk16 hE15 hgot hgl15
          go_wp2_with fail
          refine (e_marked hE16.out hfine.out 1 (by rw [hMB.out]; omega) rfl (st_dark hdk.out 5) (v := false) rfl).mono ?_
          rintro e w17 ⟨rfl, hk17, hE17⟩
          have hgot17 : Hid (∀ i, i < 5 → w17.cell? ⟨gb, i, none⟩ = some (.int .i64 8)) := fun i hi => (World.cell?_of_block (a := ⟨gb, i, none⟩) (hk17.block gb hgl16 hGg)).trans (hgot16.out i hi)
          have hgl17 : gb < w17.heap.size := Nat.lt_of_lt_of_le hgl16 hk17.size
          replace hE17 := Lib.hid hE17
          clear hk17 hE16 hgot16 hgl16
          go_wp2_with fail
          go_loopw [17] (fun q wr => ∃ i : Nat, i ≤ 5 ∧ q = .int .i64 i ∧ Below w17.heap.size w17 wr) (fun q _ => 5 - (intOf q).toNat)
          case atStart => exact ⟨0, Nat.zero_le _, rfl, Below.refl _ _⟩
          case round =>
            obtain ⟨i, hi5, rfl, hB⟩ := hrel
            by_cases hin5 : i < 5
            · have hiI : (i : Int) < 5 := by omega
              have c1 := (hB.cell (p := ⟨gb, i, none⟩) hgl17).trans (hgot17.out i hin5)
              replace hB := Lib.hid hB
              go_wp2_with fail
              go_roundw
              case rel => exact ⟨i + 1, by omega, by go_num, hB.out⟩
              case measure => simp [intOf]; omega
            · obtain rfl : i = 5 := by omega
              have hE18 := Lib.hid (hE17.out.below hB)
              clear hE17 hgot17 hgl17 hB
              have hop := Lib.hid (e_ops hE18.out (r := (q : Int) + 1) (by rw [hMo.out]; simp))
              go_wp2_with (go_at_call 12; (with_reducible refine hop.out.mono ?_))
              rintro e w19 ⟨rfl, hb19⟩
              have hE19 := Lib.hid (hE18.out.below hb19)
              clear hE18 hb19 hop
              go_wp2_with fail
              refine (e_refused hE19.out (r := 0) (by rw [hMr.out]; rfl)).mono ?_
              rintro e w19' ⟨rfl, hb19⟩
              have hE19' := Lib.hid (hE19.out.below hb19)
              clear hE19 hb19
              go_wp2_with fail
              refine (e_power hE19'.out).mono ?_
              rintro e w19'' ⟨rfl, _, hE20⟩
              replace hE20 := Lib.hid hE20
              clear hE19'
              go_wp2_with fail
              obtain ⟨qs, hqs⟩ : ∃ qs, (M8.pg 1 q).ps = qs := ⟨_, rfl⟩
              have hql0 : qs.length = n := by rw [← hqs, hMp.out, progP_len, List.length_replicate]
              have hch : charged qs n = min kp n := by rw [← hqs, hMp.out]; exact charged_prog n (Nat.le_refl _)
              have hfe : fateOf { M8 with dark := false } = (0, 0, 0) := by
                rw [fate_one (m := (q : Int)) (d := 2) (k := (kp : Int)) (by rw [hts.out]; exact hMf.out) (by rw [hts.out]; exact hmay)]
                exact if_neg (by show ¬ (M8.ops : Int) = (q : Int); rw [hMo.out]; omega)
              have hfe2 : fateOf { M8 with dark := false, ops := M8.ops + 1 } = (0, 0, 0) := by
                rw [fate_one (m := (q : Int)) (d := 2) (k := (kp : Int)) (by rw [hts.out]; exact hMf.out) (by rw [hts.out]; exact hmay)]
                exact if_neg (by show ¬ ((M8.ops + 1 : Nat) : Int) = (q : Int); rw [hMo.out]; omega)
              have hfine9 : Fine { M8 with dark := false } := ⟨hfine.out.ops, hfine.out.rf, hfine.out.er⟩
              have hfine10 : Fine { M8 with dark := false, ops := M8.ops + 1 } := ⟨by show M8.ops + 1 < 1000000000; rw [hMo.out]; omega, hfine.out.rf, hfine.out.er⟩
              refine (e_sense hE20.out hfine9 1 q (by show 1 < M8.B; rw [hMB.out]; omega) (by show q < M8.P; rw [hMP.out]; exact hml) rfl rfl (st_sense rfl (by rw [hfe]; decide)) (n := n) hMn.out hqs (by intro e; rw [e] at hql0; simp at hql0; omega)).mono ?_
              rintro e w20 ⟨gq, cq, rfl, hcq, _, _, hql, hE21, hqt⟩
              replace hE21 := Lib.hid hE21
              rw [hql0] at hqt
              replace hqt := Lib.hid hqt
              replace hch := Lib.hid hch
              replace hfine10 := Lib.hid hfine10
              clear hE20 hqs hql0 hfe
              go_wp2_with fail
              refine (e_marked hE21.out hfine10.out 2 (by show 2 < M8.B; rw [hMB.out]; omega) rfl (st_marked rfl (by rw [hfe2]; decide)) (v := false) (by show (decide ((0 : Int) = 0) && M8.md 2) = false; rw [hMm.out]; rfl)).mono ?_
              rintro e w21 ⟨rfl, hk21, hE22⟩
              have hgq : ¬ (fun b' => G b' ∧ b' ≠ gq) gq := fun hh => hh.2 rfl
              have hqt2 : Hid (∀ i, i < n → IsP w21 ⟨gq, i, none⟩ (ptAt qs i)) := fun i hi => (hqt.out i hi).block (hk21.block gq hql hgq)
              have hql2 : gq < w21.heap.size := Nat.lt_of_lt_of_le hql hk21.size
              replace hE22 := Lib.hid hE22
              clear hk21 hE21 hqt hql hfe2 hgq
              go_wp2_with fail
              go_loopw [22, 23] (fun m q wr => ∃ i : Nat, i ≤ n ∧ q = .int .i64 i ∧ m = .int .i64 (charged qs i : Int) ∧ Below w21.heap.size w21 wr) (fun _ q _ => n - (intOf q).toNat)
              case atStart => exact ⟨0, Nat.zero_le _, rfl, rfl, Below.refl _ _⟩
              case round =>
                obtain ⟨i, hi3, rfl, rfl, hB⟩ := hrel
                by_cases hin3 : i < n
                · have hiI : (i : Int) < (n : Int) := by omega
                  have hdi : decide (i < n) = true := decide_eq_true hin3
                  obtain ⟨x, y, hxy, hx, hy⟩ := hqt2.out i hin3
                  have hxr : wr.cell? ⟨gq, i, none⟩ = some (.complex .f64 x y) := (hB.cell (p := ⟨gq, i, none⟩) hql2).trans hxy
                  have hle := charged_le qs i
                  obtain ⟨q, hq⟩ : ∃ q, ptAt qs i = q := ⟨_, rfl⟩
                  rw [hq] at hx hy
                  obtain ⟨u, v⟩ := q
                  dsimp only at hx hy
                  have o1 := ord_eq_i hx is_zero'
                  have o2 := ord_eq_i hy is_zero'
                  replace hB := Lib.hid hB
                  replace hq := Lib.hid hq
                  clear hx hy hxy
                  by_cases hz1 : u = 0
                  · rw [decide_eq_true hz1] at o1
                    by_cases hz2 : v = 0
                    · rw [decide_eq_true hz2] at o2
                      have hstp := Lib.hid (charged_hit (ps := qs) (i := i) (by rw [hq.out, hz1, hz2]))
                      clear hz1 hz2
                      go_wp2_with fail
                      go_roundw
                      case rel => exact ⟨i + 1, by omega, by go_num, by rw [hstp.out], hB.out⟩
                      case measure => simp [intOf]; omega
                    · rw [decide_eq_false hz2] at o2
                      have hstp := Lib.hid (charged_miss (ps := qs) (i := i) (by rw [hq.out]; intro e; injection e with e1 e2; exact hz2 e2))
                      clear hz1 hz2
                      go_wp2_with fail
                      go_roundw
                      case rel => exact ⟨i + 1, by omega, by go_num, by rw [hstp.out]; go_num, hB.out⟩
                      case measure => simp [intOf]; omega
                  · rw [decide_eq_false hz1] at o1
                    have hstp := Lib.hid (charged_miss (ps := qs) (i := i) (by rw [hq.out]; intro e; injection e with e1 e2; exact hz1 e1))
                    clear hz1
                    go_wp2_with fail
                    go_roundw
                    case rel => exact ⟨i + 1, by omega, by go_num, by rw [hstp.out]; go_num, hB.out⟩
                    case measure => simp [intOf]; omega
                · obtain rfl : i = n := by omega
                  have hdi : decide (i < i) = false := decide_eq_false (Nat.lt_irrefl _)
                  rw [hch.out]
                  have hmin : min (kp : Int) (i : Int) = ((min kp i : Nat) : Int) := by omega
                  obtain ⟨f, hf⟩ : ∃ f, min kp i = f := ⟨_, rfl⟩
                  rw [hf] at hmin ⊢
                  have hE23 := Lib.hid (hE22.out.below hB)
                  have her := Lib.hid (e_erases hE23.out 1 (by show 1 < M8.B; rw [hMB.out]; omega) (bI := 1) rfl (r := 0) (by show (0 : Int) = (M8.er 1 : Int); rw [hMe.out]; rfl))
                  clear hE22 hqt2 hB hch hf
                  go_wp2_with (go_at_call 19; (with_reducible refine her.out.mono ?_); rintro e w24 ⟨rfl, hb24⟩; have hE24 := Lib.hid (hE23.out.below hb24); clear hb24)
                  go_ret
                  exact ⟨rfl, hB5.out.trans (hE24.out.low.mono hB5.out.size)⟩
end Go.Proofs.Ytnndhbppgmnefaa
