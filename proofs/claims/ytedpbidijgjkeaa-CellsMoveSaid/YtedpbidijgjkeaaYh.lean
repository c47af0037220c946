/- The law over what is handed in and out. -/
import Derived.Test.YtedpbidijgjkeaaYa
import Derived.Test.YtedpbidijgjkeaaCl
import Derived.KernelRfl
namespace Go.Proofs.Ytedpbidijgjkeaa
open Go.RowKit Go.Gf Go.Fl
set_option linter.unusedVariables false
set_option linter.unusedSimpArgs false
attribute [local go_sem ↓] Cl.quiet_after
theorem lex6_27 : (Cl.opsAt 27 (Try.f6.body.getD .skip)).map (Region.lexB .any) = some true := by kernel_rfl

theorem OwnS.bare (w : World) : OwnS w (w.alloc (.cells #[] 27)) (.slice (some ⟨w.heap.size, 0, none⟩) 0 0) [] :=
  ⟨⟨rfl, Or.inr ⟨w.heap.size, 0, #[], rfl, Nat.le_refl _, heap_alloc_new w _, Nat.le_refl _, Nat.zero_le _, rfl, rfl⟩⟩, by simp⟩
theorem Sl.keeps {F : Nat → Prop} {w w' : World} {A : Option Addr} {xs : List Nat} {B : Nat} (h : Sl w B A xs) (hB : B ≤ w.heap.size) (hF : ∀ b, b < B → F b) (hk : Cl.Keeps F w w') : Sl w' B A xs :=
  h.keep fun q hq => World.cell?_of_block (hk.block q.block (Nat.lt_of_lt_of_le hq hB) (hF _ hq))
theorem run_store_complex {P : Program} {w : World} {a : Addr} {m : Mode} (k : FloatKind) (x y : Nat) : (store a (.complex k x y) m).run P w = stored P w a (.complex k x y) m := run_store P w a _ m rfl
attribute [local go_sem] run_store_complex
theorem keeps_set {g k : Nat} {v : Value} {w wr : World} (h : Cl.Keeps (fun b => b ≠ g) w wr) : Cl.Keeps (fun b => b ≠ g) w (wr.setCell ⟨g, k, none⟩ v) :=
  ⟨h.os, h.tape, h.output, by simpa [World.setCell] using h.size, fun b hb hk => (Below.heap_setCell _ _ _ b hk).trans (h.block b hb hk)⟩
theorem keeps_mono {F G : Nat → Prop} {w w' : World} (h : Cl.Keeps F w w') (hg : ∀ b, G b → F b) : Cl.Keeps G w w' := ⟨h.os, h.tape, h.output, h.size, fun b hb hk => h.block b hb (hg b hk)⟩
theorem keeps_below {g : Nat} {w0 w w' : World} (hb : Below w0.heap.size w0 w) (hg : w0.heap.size ≤ g) (h : Cl.Keeps (fun b => b ≠ g) w w') : Below w0.heap.size w0 w' :=
  Cl.Keeps.low (F := fun b => b = g) hb (fun b e => by rw [e]; exact hg) (keeps_mono h fun b hb => hb)
set_option maxRecDepth 20000 in
set_option maxHeartbeats 8000000 in
theorem hands_law (A0 : Option Addr) (xs : List Nat) (c0 : Nat) (l0 : xs.length ≤ c0) (m0 : c0 ≤ maxLen) (w : World) (s0 : Sl w w.heap.size A0 xs) :
    Calls Try.prog 6 #[.slice A0 xs.length c0] w (Ans w (.bool true)) := by
  have ca := Lib.hid (awake_any w)
  have H := Lib.hid s0
  obtain ⟨n, hn⟩ : ∃ n, xs.length = n := ⟨_, rfl⟩
  rw [hn] at l0 ⊢
  replace hn := Lib.hid hn
  clear s0 m0 l0
  by_cases hz : n = 0
  · subst hz
    go_enter Try.func6, Try.ntmps6
    go_wp2_with fail
    refine ca.out.mono ?_
    rintro e w1 ⟨rfl, hb1⟩
    go_wp2_with fail
    go_ret
    exact ⟨rfl, hb1⟩
  by_cases h300 : 300 < n
  · have hI : (300 : Int) < (n : Int) := by omega
    have hI2 : ((n : Int) == 0) = false := by rw [beq_eq_false_iff_ne]; omega
    have hI3 : (n == 0) = false := by rw [beq_eq_false_iff_ne]; omega
    go_enter Try.func6, Try.ntmps6
    go_wp2_with fail
    refine ca.out.mono ?_
    rintro e w1 ⟨rfl, hb1⟩
    go_wp2_with fail
    go_ret
    exact ⟨rfl, hb1⟩
  have hI : ¬ (300 : Int) < (n : Int) := by omega
  have hI2 : ((n : Int) == 0) = false := by rw [beq_eq_false_iff_ne]; omega
  have hI3 : (n == 0) = false := by rw [beq_eq_false_iff_ne]; omega
  go_enter Try.func6, Try.ntmps6
  go_wp2_with fail
  refine ca.out.mono ?_
  rintro e w1 ⟨rfl, hb1⟩
  have H1 := Lib.hid (show Sl w1 w1.heap.size A0 xs from (H.out.below hb1).more hb1.size)
  have hb1 := Lib.hid hb1
  go_wp2_with fail
  go_loop [3] (fun q => ∃ k : Nat, k ≤ n ∧ q = .int .i64 k ∧ Hid (∀ j, j < k → syAt xs j < 1024)) (fun q => n - (intOf q).toNat)
  case atStart => exact ⟨0, Nat.zero_le _, rfl, Lib.hid (fun j h => absurd h (by omega))⟩
  case round =>
    obtain ⟨k, hk, rfl, hlo⟩ := hrel
    by_cases hlt : k < n
    · have hkI : (k : Int) < (n : Int) := by omega
      have hd : decide (k < n) = true := decide_eq_true hlt
      obtain ⟨a, rfl, hab, hc⟩ := H1.out.at_ (i := k) (by rw [hn.out]; exact hlt)
      rw [← syAt_get (by rw [hn.out]; exact hlt)] at hc
      obtain ⟨X, hX⟩ : ∃ X, Hid (syAt xs k = X) := ⟨_, Lib.hid rfl⟩
      rw [hX.out] at hc
      by_cases hX4 : 1024 ≤ X
      · have hXI : (1024 : Int) ≤ (X : Int) := by omega
        go_wp2_with fail
        go_ret
        exact ⟨rfl, hb1.out⟩
      · have hXI : ¬ (1024 : Int) ≤ (X : Int) := by omega
        go_wp2_with fail
        go_round
        case rel => exact ⟨k + 1, by omega, by go_num, Lib.hid (fun j hj => by
          rcases Nat.lt_or_ge j k with h | h
          · exact hlo.out j h
          · obtain rfl : j = k := by omega
            rw [hX.out]; omega)⟩
        case measure => simp [intOf]; omega
    · obtain rfl : k = n := by omega
      have hd : decide (k < k) = false := decide_eq_false (Nat.lt_irrefl _)
      have hx : Hid (∀ x ∈ xs, x < 1024) := fun x hx => by
        obtain ⟨j, hj, rfl⟩ := List.getElem_of_mem hx
        have := hlo.out j (by rw [← hn.out]; exact hj)
        rwa [syAt_get hj] at this
      clear hlo
      obtain ⟨ad, rfl, had, _⟩ := H1.out.at_ (i := 0) (by rw [hn.out]; omega)
      have hE := Lib.hid (OwnS.bare w1)
      have hAe := Lib.hid (H1.out.far (below_alloc' w1 (.cells #[] 27)))
      have hBe := Lib.hid (below_alloc' w1 (.cells #[] 27))
      go_wp2_with (first
        | (refine app_own (w0 := w1) rfl (.tmp 32) (.tmp 33) rfl (.slice (some ⟨w1.heap.size, 0, none⟩) 0 0) [] rfl hE.out hBe.out.size ad c0 xs (by rw [hn.out]; rfl) hAe.out (by rw [hn.out]; simp; omega) ?_))
      intro v2 w2 ho hg _
      have hne : xs ≠ [] := fun e => by have := hn.out; rw [e] at this; simp at this; omega
      obtain ⟨g, c2, rfl, hc2, hg2, hP2⟩ := ho.pre (by simpa using hne)
      have hgr := Below.grown (below_alloc' w1 (.cells #[] 27)) hg hBe.out.size (OwnS.block hE.out)
      have hb2 := Lib.hid (hb1.out.trans (hgr.mono hb1.out.size))
      have H2 := Lib.hid (H1.out.far hgr)
      have hg2 := Lib.hid hg2
      have hs2 := Lib.hid (show Sl w2 w2.heap.size (some ⟨g, 0, none⟩) xs from by
        have := hP2.sl (fun j hj => at_lt ho.2 (by decide))
        rwa [rm_at] at this)
      rw [hn.out] at hP2 ⊢
      have hP2 := Lib.hid hP2
      have hgl := Lib.hid hP2.out.lt
      have h300I : k ≤ 300 := by omega
      have hz2 := Lib.hid hb2.out.size
      have hcap := Lib.hid (show k ≤ c2 from by have h1 := hc2; have h2 := hn.out; omega)
      clear ho hg hE hAe hBe hgr had hc2 hlt hI
      go_wp2_with fail
      refine (c_new k k rfl (by omega) (fun b => w2.heap.size ≤ b) (fun b hb => hb)).mono ?_
      rintro e w3 ⟨p, rfl, hb, hp⟩
      have hp3 := Lib.hid hp
      have hb3 := Lib.hid (hb2.out.trans (hb.mono hb2.out.size))
      have hs3 := Lib.hid (hs2.out.below hb)
      have hz3 := Lib.hid hb.size
      have H3 := Lib.hid (H2.out.below hb)
      have hP3 := Lib.hid (hP2.out.below hb hgl.out)
      clear hp hb hb2 hs2 H2 hP2
      go_wp2_with fail
      refine (c_prog hp3.out (fun b h => ?_) (n := k) hn.out hcap.out (hs3.out.more hz3.out) (fun a e h => ?_) (by rw [List.length_replicate]; exact hn.out) (by rw [hn.out]; omega) hx.out k (by omega)).mono ?_
      · have := hz3.out; omega
      · injection e with e
        subst e
        have := hgl.out
        exact absurd h (by show ¬ w2.heap.size ≤ g; omega)
      rintro e w4 ⟨rfl, hk4, ss, hp, hss⟩
      obtain rfl := hss (by omega)
      have hp4 := Lib.hid (show Page w4 (fun b => w2.heap.size ≤ b) p (ss.map pt) ss 1 from by
        have e1 : progP (List.replicate k (0, 0)) ss (k : Int) = ss.map pt := by rw [← hn.out]; exact prog_all (by simp)
        rw [e1] at hp
        have e2 : progS ss.length (k : Int) = 1 := by rw [hn.out]; exact prog_S (by omega)
        rw [e2] at hp
        exact hp)
      have hlow : ∀ b, w2.heap.size ≤ b → w.heap.size ≤ b := fun b h => Nat.le_trans hz2.out h
      have hb4 := Lib.hid (Cl.Keeps.low hb3.out (fun b h => hlow b h) hk4)
      have hs4 : Sl w4 w2.heap.size (some ⟨g, 0, none⟩) ss := hs3.out.keeps hz3.out (fun b hb => by show ¬ w2.heap.size ≤ b; omega) hk4
      have H4 := Lib.hid (H3.out.keeps hz3.out (fun b hb => by show ¬ w2.heap.size ≤ b; omega) hk4)
      have hP4 := hP3.out.keep (hk4.block g (Nat.lt_of_lt_of_le hgl.out hz3.out) (by show ¬ w2.heap.size ≤ g; have := hgl.out; omega))
      have hz4 := Lib.hid (Nat.le_trans hz3.out hk4.size)
      clear hp hss hk4 hs3 hP3 hp3 hb3 H3 hs4
      go_wp2_with fail
      go_loopw [6] (fun q wr => ∃ i : Nat, i ≤ k ∧ q = .int .i64 i ∧ Cl.Keeps (fun b => b ≠ g) w4 wr ∧ ∃ f : Nat → Nat, (∀ j, f j < 65536) ∧ Pre wr g k f) (fun q _ => k - (intOf q).toNat)
      case atStart => exact ⟨0, Nat.zero_le _, rfl, Cl.Keeps.refl _ _, at_ ss, fun j => Nat.lt_of_lt_of_le (at_lt hx.out (by decide)) (by decide), hP4⟩
      case round =>
        clear hP4
        obtain ⟨i, hi, rfl, hK, f, hf, hP⟩ := hrel
        by_cases hik : i < k
        · have hiI : (i : Int) < (k : Int) := by omega
          have hdi : decide (i < k) = true := decide_eq_true hik
          have hc := hP.cell hik
          have hfz := hP.frozen i
          obtain ⟨X, hX, hX16⟩ : ∃ X, f i = X ∧ X < 65536 := ⟨_, rfl, hf i⟩
          rw [hX] at hc
          have hxor : bits .xor .u16 (X : Int) 1 = ((X ^^^ 1 : Nat) : Int) := u16_xor_nat X 1 (by omega) (by decide)
          have hY : X ^^^ 1 < 65536 := Nat.xor_lt_two_pow (n := 16) (by omega) (by decide)
          obtain ⟨Y, hYe⟩ : ∃ Y, X ^^^ 1 = Y := ⟨_, rfl⟩
          rw [hYe] at hxor hY
          have hP' := Lib.hid (hP.set_ i Y)
          have hK' := Lib.hid hK
          have hf' := Lib.hid hf
          have hglt := hP.lt
          clear hP hK hf hX hYe
          go_wp2_with fail
          go_roundw
          case rel => exact ⟨i + 1, by omega, by go_num, keeps_set hK'.out, _, fun j => by
            show (if j = i then Y else f j) < 65536
            split
            · exact hY
            · exact hf'.out j, hP'.out⟩
          case measure => simp [intOf]; omega
        · obtain rfl : i = k := by omega
          have hdi : decide (i < i) = false := decide_eq_false (Nat.lt_irrefl _)
          have hgw : w.heap.size ≤ g := Nat.le_trans hb1.out.size hg2.out
          have hb5 := Lib.hid (keeps_below hb4.out hgw hK)
          have hp5 := Lib.hid (hp4.out.keep (keeps_mono hK fun b hb => by
            have : w2.heap.size ≤ b := hb
            have := hgl.out
            omega))
          have hz5 := Lib.hid (Nat.le_trans hz4.out hK.size)
          clear hP hf hK hp4 hb4 hz4 hP2
          go_wp2_with fail
          refine (c_sense hp5.out (n := i) (by rw [List.length_map]; exact hn.out)).mono ?_
          rintro e w6 ⟨B, d, rfl, hid, hb, hpt⟩
          rcases hpt with hpt | ⟨g6, rfl, hg6, hX6, _⟩
          · rw [List.map_eq_nil_iff] at hpt; exact absurd hpt hne
          rw [List.length_map, hn.out] at hX6
          have hp6 := Lib.hid ((hp5.out.only (F' := fun b => w2.heap.size ≤ b ∧ b ≠ g6) (fun b h1 h2 => ⟨h2, by omega⟩)).below hb)
          have hb6 := Lib.hid (hb5.out.trans (hb.mono hb5.out.size))
          have hg6w := Lib.hid (Nat.le_trans hb5.out.size hg6)
          clear hb hp5 hb5 hg6
          go_wp2_with fail
          go_loopw [8] (fun q wr => ∃ j : Nat, j ≤ i ∧ q = .int .i64 j ∧ Cl.Keeps (fun b => b ≠ g6) w6 wr ∧ RowX wr g6 i) (fun q _ => i - (intOf q).toNat)
          case atStart => exact ⟨0, Nat.zero_le _, rfl, Cl.Keeps.refl _ _, hX6⟩
          case round =>
            clear hX6
            obtain ⟨j, hj, rfl, hK, hX⟩ := hrel
            by_cases hji : j < i
            · have hjI : (j : Int) < (i : Int) := by omega
              have hdj : decide (j < i) = true := decide_eq_true hji
              obtain ⟨v, hc⟩ := hX.cell hji
              have hfz := hX.frozen j
              have hglt := hX.lt
              have hX' := Lib.hid hX
              have hK' := Lib.hid hK
              clear hX hK
              go_wp2_with fail
              go_roundw
              case rel => exact ⟨j + 1, by omega, by go_num, keeps_set hK'.out, hX'.out.set_ _ _⟩
              case measure => simp [intOf]; omega
            · obtain rfl : j = i := by omega
              have hdj : decide (j < j) = false := decide_eq_false (Nat.lt_irrefl _)
              have hb7 := Lib.hid (keeps_below hb6.out hg6w.out hK)
              have hp7 := Lib.hid (hp6.out.keep (keeps_mono hK fun b hb => hb.2))
              clear hX hK hp6 hb6
              go_wp2_with fail
              refine (c_sense hp7.out (n := j) (by rw [List.length_map]; exact hn.out)).mono ?_
              rintro e w8 ⟨B8, d8, rfl, hid8, hb, hpt⟩
              rcases hpt with hpt | ⟨g8, rfl, hg8, hX8, hP8⟩
              · rw [List.map_eq_nil_iff] at hpt; exact absurd hpt hne
              have hp8 := Lib.hid (hp7.out.below hb)
              have hb8 := Lib.hid (hb7.out.trans (hb.mono hb7.out.size))
              have H8 := Lib.hid (H.out.below hb8.out)
              have hP8 := Lib.hid hP8
              have hg8l := Lib.hid hX8.lt
              clear hb hp7 hb7 hX8 hg8
              go_wp2_with fail
              go_loopw [10] (fun q wr => ∃ m : Nat, m ≤ j ∧ q = .int .i64 m ∧ Below w8.heap.size w8 wr) (fun q _ => j - (intOf q).toNat)
              case atStart => exact ⟨0, Nat.zero_le _, rfl, Below.refl _ _⟩
              case round =>
                obtain ⟨m, hm, rfl, hB⟩ := hrel
                by_cases hmj : m < j
                · have hmI : (m : Int) < (j : Int) := by omega
                  have hdm : decide (m < j) = true := decide_eq_true hmj
                  have hml : m < ss.length := by rw [hn.out]; exact hmj
                  obtain ⟨x, y, hc, hx1, hy1⟩ := hP8.out m (by rw [List.length_map]; exact hml)
                  rw [ptAt_map hml] at hx1 hy1
                  obtain ⟨a', e, had, hcs⟩ := H8.out.at_ hml
                  injection e with e
                  subst e
                  rw [← syAt_get hml] at hcs
                  obtain ⟨S, hS⟩ : ∃ S, syAt ss m = S := ⟨_, rfl⟩
                  have hS4 : S < 1024 := by rw [← hS]; exact syAt_lt hx.out m
                  rw [hS] at hx1 hy1 hcs
                  have o1 : (FloatKind.f64.format.order x (L ((S : Int) / 32)) == some .eq) = true := by rw [ord_eq_i hx1 (is_L1 S)]; simp
                  have o2 : (FloatKind.f64.format.order y (L (S : Int)) == some .eq) = true := by rw [ord_eq_i hy1 (is_L2 S)]; simp
                  have had8 : ad.block < w8.heap.size := Nat.lt_of_lt_of_le had hb8.out.size
                  have hof := Lib.hid (fun w => refof_any (S : Int) w (by omega) (by omega))
                  have k1 := fun z : Cl.After wr.heap.size wr => (show z.w.cell? ⟨g8, m, none⟩ = some (.complex .f64 x y) from (z.below.cell (Nat.lt_of_lt_of_le hg8l.out hB.size)).trans ((hB.cell hg8l.out).trans hc))
                  have k2 := fun z : Cl.After wr.heap.size wr => (show z.w.cell? (ad.add m) = some (.int .u16 (S : Int)) from (z.below.cell (by rw [add_block]; exact Nat.lt_of_lt_of_le had8 hB.size)).trans ((hB.cell (by rw [add_block]; exact had8)).trans hcs))
                  have hB := Lib.hid hB
                  clear hx1 hy1 hc hcs had had8
                  go_wp2_with fail
                  refine Cl.region_after_at wr.heap.size (by kernel_rfl) lex6_27 (by kernel_rfl) ?_
                  try simp only [List.append]
                  repeat (go_big_quiet_step (first | (go_at_call 16; with_reducible exact Cl.after_same (hof.out _))))
                  refine wpQuiet_nil ?_
                  rintro _ ⟨z, rfl⟩
                  clear k1 k2
                  go_wp2_with fail
                  go_roundw
                  case rel => exact ⟨m + 1, by omega, by go_num, hB.out.trans (z.below.mono hB.out.size)⟩
                  case measure => simp [intOf]; omega
                · obtain rfl : m = j := by omega
                  have hdm : decide (m < m) = false := decide_eq_false (Nat.lt_irrefl _)
                  have hb9 := Lib.hid (hb8.out.trans (hB.mono hb8.out.size))
                  have hp9 := Lib.hid (hp8.out.below hB)
                  have hwn := wrong_none hx.out
                  clear hB hp8 hb8 H8
                  go_wp2_with fail
                  refine (c_wrong hp9.out (l := []) (n := 0) (by rw [if_pos rfl, hwn]) rfl).mono ?_
                  rintro e w10 ⟨A, c, rfl, hb, _⟩
                  have hb10 := Lib.hid (hb9.out.trans (hb.mono hb9.out.size))
                  clear hb
                  go_wp2_with fail
                  go_ret
                  exact ⟨rfl, hb10.out⟩
end Go.Proofs.Ytedpbidijgjkeaa
