/- The law over fates in another order. -/
import Derived.Test.YtfohnffhcfiliaaZe
namespace Go.Proofs.Ytfohnffhcfiliaa
open Go.RowKit
set_option linter.unusedVariables false
set_option linter.unusedSimpArgs false

/-- the slice with address A holds the whole numbers ns, below block B -/
def SI (w : World) (B : Nat) (A : Option Addr) (ns : List Int) : Prop := ns = [] ∨ ∃ a, A = some a ∧ a.block < B ∧ ∀ i, i < ns.length → w.cell? (a.add i) = some (.int .i64 (ns.getD i 0))
theorem SI.below {w w' : World} {B : Nat} {A : Option Addr} {ns : List Int} (h : SI w B A ns) (hb : Below B w w') : SI w' B A ns := by
  rcases h with e | ⟨a, e, h1, h2⟩
  · exact Or.inl e
  · exact Or.inr ⟨a, e, h1, fun i hi => (hb.cell (by rw [add_block]; exact h1)).trans (h2 i hi)⟩
theorem SI.at_ {w : World} {B : Nat} {A : Option Addr} {ns : List Int} {i : Nat} (h : SI w B A ns) (hi : i < ns.length) : ∃ a, A = some a ∧ w.cell? (a.add i) = some (.int .i64 (ns.getD i 0)) := by
  rcases h with e | ⟨a, e, _, h2⟩
  · rw [e] at hi; exact absurd hi (by simp)
  · exact ⟨a, e, h2 i hi⟩
theorem rev_step {ts : List (Int × Int × Int)} {m : Nat} (h : m < ts.length) : ts.reverse.take (ts.length - (m + 1)) ++ [tAt ts m] = ts.reverse.take (ts.length - m) := by
  have h1 : ts.length - (m + 1) < ts.reverse.length := by rw [List.length_reverse]; omega
  have e : ts.length - m = ts.length - (m + 1) + 1 := by omega
  have e3 : ts.length - 1 - (ts.length - (m + 1)) = m := by omega
  rw [e, List.take_add_one, List.getElem?_eq_getElem h1, List.getElem_reverse, tAt_get h]
  simp only [e3]
  rfl
set_option maxRecDepth 20000 in
set_option maxHeartbeats 8000000 in
theorem orders_law (A0 : Option Addr) (ts : List (Int × Int × Int)) (c0 : Nat) (A1 : Option Addr) (ns : List Int) (c1 : Nat) (w : World) (s0 : S3 w w.heap.size A0 ts) (s1 : SI w w.heap.size A1 ns) :
    Calls Try.prog 5 #[.slice A0 ts.length c0, .slice A1 ns.length c1] w (Ans w (.bool true)) := by
  have ca := Lib.hid awake_any
  have H := Lib.hid s0
  have HN := Lib.hid s1
  have cm := refmay_any A0 c0 ts
  obtain ⟨k, hk⟩ : ∃ k, ts.length = k := ⟨_, rfl⟩
  rw [hk] at cm ⊢
  replace hk := Lib.hid hk
  obtain ⟨l, hl⟩ : ∃ l, ns.length = l := ⟨_, rfl⟩
  rw [hl]
  replace hl := Lib.hid hl
  clear s0 s1
  cases hm : mayF ts
  · go_enter Try.func5, Try.ntmps5
    go_wp2_with fail
    refine (ca.out _).mono ?_
    rintro e w1 ⟨rfl, hb1⟩
    have c2 := cm w1 (H.out.far hb1)
    rw [hm] at c2
    replace hb1 := Lib.hid hb1
    replace c2 := Lib.hid c2
    go_wp2_with fail
    refine c2.out.mono ?_
    rintro e w2 ⟨rfl, hb2⟩
    have hb2 := Lib.hid (hb1.out.trans (hb2.mono hb1.out.size))
    go_wp2_with fail
    go_ret
    exact ⟨rfl, hb2.out⟩
  have hk256 : k ≤ 256 := by have := mayF_le hm; rw [hk.out] at this; exact this
  by_cases h50 : 50 < l
  · have hI : (50 : Int) < (l : Int) := by omega
    go_enter Try.func5, Try.ntmps5
    go_wp2_with fail
    refine (ca.out _).mono ?_
    rintro e w1 ⟨rfl, hb1⟩
    have c2 := cm w1 (H.out.far hb1)
    rw [hm] at c2
    replace hb1 := Lib.hid hb1
    replace c2 := Lib.hid c2
    go_wp2_with fail
    refine c2.out.mono ?_
    rintro e w2 ⟨rfl, hb2⟩
    have hb2 := Lib.hid (hb1.out.trans (hb2.mono hb1.out.size))
    go_wp2_with fail
    go_ret
    exact ⟨rfl, hb2.out⟩
  have hI : ¬ (50 : Int) < (l : Int) := by omega
  go_enter Try.func5, Try.ntmps5
  go_wp2_with fail
  refine (ca.out _).mono ?_
  rintro e w1 ⟨rfl, hb1⟩
  have cc2 := cm w1 (H.out.far hb1)
  rw [hm] at cc2
  replace hb1 := Lib.hid hb1
  replace cc2 := Lib.hid cc2
  go_wp2_with fail
  refine cc2.out.mono ?_
  rintro e w2 ⟨rfl, hb2⟩
  have hb2 := Lib.hid (hb1.out.trans (hb2.mono hb1.out.size))
  clear cc2 cm hb1
  go_wp2_with fail
  go_loopw [5, 6] (fun v q wr => ∃ (j : Nat) (z : Int), z = (j : Int) - 1 ∧ j ≤ k ∧ q = .int .i64 z ∧ OwnT w wr v (ts.reverse.take (k - j)) ∧ Below w.heap.size w wr) (fun _ q _ => (intOf q + 1).toNat)
  case atStart => exact ⟨k, (k : Int) - 1, rfl, Nat.le_refl _, rfl, by rw [Nat.sub_self]; exact OwnT.nil _ _, hb2.out⟩
  case round =>
    clear hb2
    obtain ⟨j, z, hz, hj, rfl, hO, hB⟩ := hrel
    cases j with
    | succ m =>
      obtain rfl : z = (m : Int) := by omega
      clear hz
      have hmk : m < k := by omega
      have hmI : (0 : Int) ≤ (m : Int) := by omega
      have hmkI : (m : Int) < (k : Int) := by omega
      obtain ⟨a, rfl, hab, d0, d1, d2⟩ := (H.out.below hB).at_ (i := m) (by rw [hk.out]; exact hmk)
      obtain ⟨X, hX⟩ : ∃ X, tAt ts m = X := ⟨_, rfl⟩
      rw [hX] at d0 d1 d2
      have hst : ts.reverse.take (k - (m + 1)) ++ [X] = ts.reverse.take (k - m) := by rw [← hk.out, ← hX]; exact rev_step (by rw [hk.out]; exact hmk)
      have hlen : (ts.reverse.take (k - (m + 1))).length ≤ 1000000 := by rw [List.length_take]; omega
      obtain ⟨P, Q, R⟩ := X
      dsimp only at d0 d1 d2
      have hO' := Lib.hid (hO.alloc (.cells #[.int .i64 P, .int .i64 Q, .int .i64 R] 30))
      have hA := below_alloc wr (.cells #[.int .i64 P, .int .i64 Q, .int .i64 R] 30)
      have hBA := Lib.hid (hB.trans (hA.mono hB.size))
      have hy := Lib.hid (show ∀ j u, (flat3 [(P, Q, R)])[j]? = some u → (wr.alloc (.cells #[.int .i64 P, .int .i64 Q, .int .i64 R] 30)).cell? ⟨wr.heap.size, j, none⟩ = some u from fun j u hu => by
        rw [cell_new]
        simpa [flat3] using hu)
      replace hst := Lib.hid hst
      replace hlen := Lib.hid hlen
      clear hO hA hB
      go_wp2_with (first
        | (refine app_one (w0 := w) rfl (.tmp 34) (.tmp 39) rfl _ _ rfl hO'.out hBA.out.size wr.heap.size rfl (P, Q, R) hy.out hlen.out ?_))
      intro v' w' ho hg
      rw [hst.out] at ho
      have hO2 := Lib.hid ho
      have hB2 := Lib.hid (hBA.out.grown hg hBA.out.size (OwnT.block hO'.out))
      clear ho hg hO' hBA hy
      go_wp2_with fail
      go_roundw
      case rel => exact ⟨m, (m : Int) - 1, rfl, by omega, by go_num, hO2.out, hB2.out⟩
      case measure => first | (simp [intOf]; done) | (simp [intOf]; omega)
    | zero =>
      obtain rfl : z = -1 := by omega
      clear hz
      have hneg : ¬ (0 : Int) ≤ -1 := by decide
      rw [Nat.sub_zero] at hO
      have hrl : ts.reverse.take k = ts.reverse := by rw [← hk.out]; exact List.take_of_length_le (by simp)
      rw [hrl] at hO
      obtain ⟨B, cb, rfl, hcb, hS⟩ := hO.s3
      have hlr : ts.reverse.length = k := by rw [List.length_reverse]; exact hk.out
      rw [hlr] at hcb ⊢
      have hO := Lib.hid hO
      have hS := Lib.hid hS
      have hB := Lib.hid hB
      have H1 := (H.out.below hB.out).more hB.out.size
      have hmr := mayF_rev hm
      go_wp2_with fail
      refine (c_yes H1 hk.out hm).mono ?_
      rintro e w3 ⟨p1, rfl, hb, hp⟩
      have hb3 := Lib.hid (hB.out.trans (hb.mono hB.out.size))
      have hS3 := hS.out.far hb
      have hp3 := Lib.hid hp
      clear hb hp H1 hS hO hB
      dsimp only
      go_wp2_with fail
      refine (c_yes hS3 hlr hmr).mono ?_
      rintro e w4 ⟨p2, rfl, hb, hp⟩
      have hb4 := Lib.hid (hb3.out.trans (hb.mono hb3.out.size))
      have hp4 := Lib.hid (hp3.out.below hb)
      have hq4 := Lib.hid hp
      clear hb hp hp3 hb3 hS3
      dsimp only
      go_wp2_with fail
      go_loopw [11] (fun q wr => ∃ i : Nat, i ≤ l + k ∧ q = .int .i64 i ∧ Hid (Below w.heap.size w wr) ∧ Hid (Fts wr p1 ts) ∧ Hid (Fts wr p2 ts.reverse)) (fun q _ => l + k - (intOf q).toNat)
      case atStart => exact ⟨0, Nat.zero_le _, rfl, hb4, hp4, hq4⟩
      case round =>
        clear hb4 hp4 hq4
        obtain ⟨i, hi, rfl, hb, hp, hq⟩ := hrel
        by_cases hil : i < l + k
        · have hiI : (i : Int) < (l : Int) + (k : Int) := by omega
          have hdi : decide ((i : Int) < (l : Int) + (k : Int)) = true := decide_eq_true hiI
          have hup := hb.out.size
          obtain ⟨K, hK⟩ : ∃ K : Int, K = (if i < l then ns.getD i 0 else (tAt ts (i - l)).1) := ⟨_, rfl⟩
          obtain ⟨X, hX⟩ : ∃ X, atF ts K ts.length = X := ⟨_, rfl⟩
          obtain ⟨b, hbb⟩ : ∃ b, isF ts K ts.length = b := ⟨_, rfl⟩
          obtain ⟨m, hmm⟩ : ∃ m, leftF ts K ts.length = m := ⟨_, rfl⟩
          have r1 := atF_rev hm K
          have r2 := leftF_rev ts K
          have x1 := Lib.hid hX
          have x2 := Lib.hid (r1.1.trans hX)
          have b1 := Lib.hid hbb
          have b2 := Lib.hid (r1.2.trans hbb)
          have l1 := Lib.hid hmm
          have l2 := Lib.hid (r2.trans hmm)
          clear hX hbb hmm r1 r2
          obtain ⟨P, Q, R⟩ := X
          have n1 : (P != P) = false := by simp
          have n2 : (Q != Q) = false := by simp
          have n3 : (R != R) = false := by simp
          have n4 : (b != b) = false := by simp
          have n5 : ((m : Int) != (m : Int)) = false := by simp
          by_cases hil2 : i < l
          · have hilI : (i : Int) < (l : Int) := by omega
            have hdil : decide (i < l) = true := decide_eq_true hil2
            rw [if_pos hil2] at hK
            obtain ⟨a, rfl, hc⟩ := (HN.out.below hb.out).at_ (i := i) (by rw [hl.out]; exact hil2)
            rw [← hK] at hc
            clear hK
            go_wp2_with fail
            refine (c_at hp.out hm K x1.out b1.out).mono ?_
            rintro e w5 ⟨rfl, hb5⟩
            dsimp only
            have hA := below_alloc w5 (.cells #[.int .i64 P, .int .i64 Q, .int .i64 R] 30)
            have hb6 := Lib.hid ((hb.out.trans (hb5.mono hb.out.size)).trans (hA.mono (hb.out.trans (hb5.mono hb.out.size)).size))
            have hp6 := Lib.hid ((hp.out.below hb5).below hA)
            have hq6 := Lib.hid ((hq.out.below hb5).below hA)
            have y0 := Lib.hid (cell_new w5 #[.int .i64 P, .int .i64 Q, .int .i64 R] 30 0)
            have y1 := Lib.hid (cell_new w5 #[.int .i64 P, .int .i64 Q, .int .i64 R] 30 1)
            have y2 := Lib.hid (cell_new w5 #[.int .i64 P, .int .i64 Q, .int .i64 R] 30 2)
            have yl := Lib.hid (show w5.heap.size < (w5.alloc (.cells #[.int .i64 P, .int .i64 Q, .int .i64 R] 30)).heap.size from by rw [World.size_alloc]; omega)
            clear hb5 hA
            go_wp2_with fail
            generalize w5.alloc (.cells #[.int .i64 P, .int .i64 Q, .int .i64 R] 30) = w6 at *
            refine (c_at hq6.out hmr K x2.out b2.out).mono ?_
            rintro e w7 ⟨rfl, hb7⟩
            dsimp only
            have hA := below_alloc w7 (.cells #[.int .i64 P, .int .i64 Q, .int .i64 R] 30)
            have hb8 := Lib.hid ((hb6.out.trans (hb7.mono hb6.out.size)).trans (hA.mono (hb6.out.trans (hb7.mono hb6.out.size)).size))
            have hp8 := Lib.hid ((hp6.out.below hb7).below hA)
            have hq8 := Lib.hid ((hq6.out.below hb7).below hA)
            have yl8 := Nat.lt_of_lt_of_le yl.out hb7.size
            have v0 := (hA.cell (p := ⟨w5.heap.size, 0, none⟩) yl8).trans ((hb7.cell (p := ⟨w5.heap.size, 0, none⟩) yl.out).trans y0.out)
            have v1 := (hA.cell (p := ⟨w5.heap.size, 1, none⟩) yl8).trans ((hb7.cell (p := ⟨w5.heap.size, 1, none⟩) yl.out).trans y1.out)
            have v2 := (hA.cell (p := ⟨w5.heap.size, 2, none⟩) yl8).trans ((hb7.cell (p := ⟨w5.heap.size, 2, none⟩) yl.out).trans y2.out)
            clear hb7 hA hb6 hp6 hq6 y0 y1 y2
            go_wp2_with fail
            refine (c_left hp8.out hm K l1.out rfl).mono ?_
            rintro e w9 ⟨rfl, hb9⟩
            have hb10 := Lib.hid (hb8.out.trans (hb9.mono hb8.out.size))
            have hp10 := Lib.hid (hp8.out.below hb9)
            have hq10 := Lib.hid (hq8.out.below hb9)
            clear hb9 v0 v1 v2 hb8 hp8 hq8
            go_wp2_with fail
            refine (c_left hq10.out hmr K l2.out rfl).mono ?_
            rintro e w11 ⟨rfl, hb11⟩
            have hb12 := Lib.hid (hb10.out.trans (hb11.mono hb10.out.size))
            have hp12 := Lib.hid (hp10.out.below hb11)
            have hq12 := Lib.hid (hq10.out.below hb11)
            clear hb11 hb10 hp10 hq10
            go_wp2_with fail
            go_roundw
            case rel => exact ⟨i + 1, by omega, by go_num, hb12, hp12, hq12⟩
            case measure => simp [intOf]; omega
          · have hilI : ¬ (i : Int) < (l : Int) := by omega
            have hdil : decide (i < l) = false := decide_eq_false hil2
            rw [if_neg hil2] at hK
            obtain ⟨t, ht, htk⟩ : ∃ t : Nat, i = l + t ∧ t < k := ⟨i - l, by omega, by omega⟩
            have htI : (i : Int) - (l : Int) = (t : Int) := by omega
            have htkI : (t : Int) < (k : Int) := by omega
            rw [show i - l = t by omega] at hK
            obtain ⟨a, rfl, _, hc, _, _⟩ := (H.out.below hb.out).at_ (i := t) (by rw [hk.out]; exact htk)
            rw [← hK] at hc
            clear hK ht
            go_wp2_with fail
            refine (c_at hp.out hm K x1.out b1.out).mono ?_
            rintro e w5 ⟨rfl, hb5⟩
            dsimp only
            have hA := below_alloc w5 (.cells #[.int .i64 P, .int .i64 Q, .int .i64 R] 30)
            have hb6 := Lib.hid ((hb.out.trans (hb5.mono hb.out.size)).trans (hA.mono (hb.out.trans (hb5.mono hb.out.size)).size))
            have hp6 := Lib.hid ((hp.out.below hb5).below hA)
            have hq6 := Lib.hid ((hq.out.below hb5).below hA)
            have y0 := Lib.hid (cell_new w5 #[.int .i64 P, .int .i64 Q, .int .i64 R] 30 0)
            have y1 := Lib.hid (cell_new w5 #[.int .i64 P, .int .i64 Q, .int .i64 R] 30 1)
            have y2 := Lib.hid (cell_new w5 #[.int .i64 P, .int .i64 Q, .int .i64 R] 30 2)
            have yl := Lib.hid (show w5.heap.size < (w5.alloc (.cells #[.int .i64 P, .int .i64 Q, .int .i64 R] 30)).heap.size from by rw [World.size_alloc]; omega)
            clear hb5 hA
            go_wp2_with fail
            generalize w5.alloc (.cells #[.int .i64 P, .int .i64 Q, .int .i64 R] 30) = w6 at *
            refine (c_at hq6.out hmr K x2.out b2.out).mono ?_
            rintro e w7 ⟨rfl, hb7⟩
            dsimp only
            have hA := below_alloc w7 (.cells #[.int .i64 P, .int .i64 Q, .int .i64 R] 30)
            have hb8 := Lib.hid ((hb6.out.trans (hb7.mono hb6.out.size)).trans (hA.mono (hb6.out.trans (hb7.mono hb6.out.size)).size))
            have hp8 := Lib.hid ((hp6.out.below hb7).below hA)
            have hq8 := Lib.hid ((hq6.out.below hb7).below hA)
            have yl8 := Nat.lt_of_lt_of_le yl.out hb7.size
            have v0 := (hA.cell (p := ⟨w5.heap.size, 0, none⟩) yl8).trans ((hb7.cell (p := ⟨w5.heap.size, 0, none⟩) yl.out).trans y0.out)
            have v1 := (hA.cell (p := ⟨w5.heap.size, 1, none⟩) yl8).trans ((hb7.cell (p := ⟨w5.heap.size, 1, none⟩) yl.out).trans y1.out)
            have v2 := (hA.cell (p := ⟨w5.heap.size, 2, none⟩) yl8).trans ((hb7.cell (p := ⟨w5.heap.size, 2, none⟩) yl.out).trans y2.out)
            clear hb7 hA hb6 hp6 hq6 y0 y1 y2
            go_wp2_with fail
            refine (c_left hp8.out hm K l1.out rfl).mono ?_
            rintro e w9 ⟨rfl, hb9⟩
            have hb10 := Lib.hid (hb8.out.trans (hb9.mono hb8.out.size))
            have hp10 := Lib.hid (hp8.out.below hb9)
            have hq10 := Lib.hid (hq8.out.below hb9)
            clear hb9 v0 v1 v2 hb8 hp8 hq8
            go_wp2_with fail
            refine (c_left hq10.out hmr K l2.out rfl).mono ?_
            rintro e w11 ⟨rfl, hb11⟩
            have hb12 := Lib.hid (hb10.out.trans (hb11.mono hb10.out.size))
            have hp12 := Lib.hid (hp10.out.below hb11)
            have hq12 := Lib.hid (hq10.out.below hb11)
            clear hb11 hb10 hp10 hq10
            go_wp2_with fail
            go_roundw
            case rel => exact ⟨i + 1, by omega, by go_num, hb12, hp12, hq12⟩
            case measure => simp [intOf]; omega
        · obtain rfl : i = l + k := by omega
          have hiI : ¬ ((l : Int) + (k : Int) < (l : Int) + (k : Int)) := by omega
          go_wp2_with fail
          go_ret
          exact ⟨rfl, hb.out⟩
end Go.Proofs.Ytfohnffhcfiliaa
