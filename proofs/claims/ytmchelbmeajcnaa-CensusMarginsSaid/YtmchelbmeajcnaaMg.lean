/- The reference's Make: the document's own page. -/
import Derived.Test.YtmchelbmeajcnaaMd
import Derived.Test.YtmchelbmeajcnaaVe
import Derived.Test.YtmchelbmeajcnaaRq
import Derived.Test.YtmchelbmeajcnaaAp
namespace Go.Proofs.Ytmchelbmeajcnaa
open Go.RowKit Go.Gf
set_option linter.unusedVariables false
set_option linter.unusedSimpArgs false
set_option maxRecDepth 20000
attribute [local go_sem ↓] exec_load_tb Cl.quiet_since
attribute [local go_sem] tbAt_ptr tbIn_ptr

theorem refin_row {W K N : Nat} {A : Option Addr} {c : Nat} {s : List Nat} {w : World} (hN : W * K = N) (hW : 1 ≤ W ∧ W ≤ 4) (hK : 1 ≤ K) (hs : Sl w w.heap.size A s) (hl : s.length = N) (h6 : N ≤ 1000000) :
    Calls Try.prog 37 #[.int .i64 (W : Int), .slice A s.length c] w fun e w' => ∃ g f, e = .returned (.tuple #[.slice (some ⟨g, 0, none⟩) W W, .int .i64 0]) ∧ w.heap.size ≤ g ∧ RowsI w' g W f (fun j => (dealt W s).getD j []) ∧ Below w.heap.size w w' := by
  have hmay : mayB (W : Int) = true := by
    unfold mayB
    rw [Bool.and_eq_true, decide_eq_true_eq, decide_eq_true_eq]; omega
  have hE : inE (W : Int) s = 0 := inE_ok hmay (by
    rw [Int.toNat_natCast, hl, ← hN, Nat.mul_mod_right]
    have : 1 ≤ W * K := Nat.mul_le_mul hW.1 hK
    omega)
  have hR : inW (W : Int) s = dealt W s := by unfold inW; rw [hE, if_pos rfl, Int.toNat_natCast]
  have hin := refin_any (W : Int) A c s w hs (by omega)
  rw [hE, hR] at hin
  refine hin.mono ?_
  rintro e w1 ⟨h1, hb1⟩
  have hdl := dealt_len W s
  rcases h1 with ⟨h1, _⟩ | ⟨g, f, rfl, ho⟩
  · rw [h1] at hdl; simp at hdl; omega
  rw [hdl] at ho ⊢
  exact ⟨g, f, rfl, ho.at0, ho.rowsI, hb1⟩
theorem and_ten (n : Nat) (h : n < 1099511627776) : bits .and .i64 (n : Int) 1023 = ((n % 1024 : Nat) : Int) := by
  show IntKind.i64.wrap ((BitVec.ofInt 64 (n : Int) &&& BitVec.ofInt 64 ((1023 : Nat) : Int)).toNat : Int) = _
  rw [BitVec.toNat_and, ofInt_u64 n (by omega), ofInt_u64 1023 (by omega), Nat.and_two_pow_sub_one_eq_mod n 10]
  rw [IntWalk.i64_in _ (by omega)]
set_option maxHeartbeats 2000000 in
theorem rhead_any {k l q : Nat} {w : World} (hk : k < 1024) (hl : l < 1048576) (hq : q < 1099511627776) :
    Calls Try.prog 35 #[.agg #[.int .i64 (k : Int), .int .i64 (l : Int), .int .i64 (q : Int)]] w (RowP w (headL k l q)) := by
  have a1 := and_ten l (by omega)
  have a2 := and_ten (q / 1073741824) (by omega)
  have a3 := and_ten (q / 1048576) (by omega)
  have a4 := and_ten (q / 1024) (by omega)
  have a5 := and_ten q (by omega)
  go_enter Try.func35, Try.ntmps35
  go_wp2_with fail
  go_ret
  have hq2 : ((q / 1073741824 : Nat) : Int) = (q : Int) / 1073741824 := by omega
  have hq3 : ((q / 1048576 : Nat) : Int) = (q : Int) / 1048576 := by omega
  have hq4 : ((q / 1024 : Nat) : Int) = (q : Int) / 1024 := by omega
  rw [hq2] at a2
  rw [hq3] at a3
  rw [hq4] at a4
  rw [a2, a3, a4]
  have e1 : IntKind.u16.wrap ((q / 1073741824 % 1024 : Nat) : Int) = ((q / 1073741824 : Nat) : Int) := by
    show ((q / 1073741824 % 1024 : Nat) : Int) % 65536 = _
    omega
  have e2 : IntKind.u16.wrap ((q / 1048576 % 1024 : Nat) : Int) = ((q / 1048576 % 1024 : Nat) : Int) := by
    show ((q / 1048576 % 1024 : Nat) : Int) % 65536 = _
    omega
  have e3 : IntKind.u16.wrap ((q / 1024 % 1024 : Nat) : Int) = ((q / 1024 % 1024 : Nat) : Int) := by
    show ((q / 1024 % 1024 : Nat) : Int) % 65536 = _
    omega
  rw [e1, e2, e3]
  obtain ⟨w1, hw1⟩ : ∃ w1, w1 = w.alloc (.cells #[.int .i64 (k : Int), .int .i64 (l : Int), .int .i64 (q : Int)] 25) := ⟨_, rfl⟩
  rw [← hw1]
  have hb1 : Below w.heap.size w w1 := by rw [hw1]; exact Ge.below_alloc w _
  have hz : w1.heap.size = w.heap.size + 1 := by rw [hw1, World.size_alloc]
  have hA := Arr.new w1 (headL k l q)
  have hE : ((headL k l q).map uv).toArray = #[.int .u16 (k : Int), .int .u16 ((l : Int) / 1024), .int .u16 ((l : Int) % 1024), .int .u16 ((q / 1073741824 : Nat) : Int), .int .u16 ((q / 1048576 % 1024 : Nat) : Int), .int .u16 ((q / 1024 % 1024 : Nat) : Int), .int .u16 ((q : Int) % 1024), .int .u16 0] := by
    simp [headL, uv]
  rw [hE, hz] at hA
  have hb2 := hb1.trans ((Ge.below_alloc w1 (.cells #[.int .u16 (k : Int), .int .u16 ((l : Int) / 1024), .int .u16 ((l : Int) % 1024), .int .u16 ((q / 1073741824 : Nat) : Int), .int .u16 ((q / 1048576 % 1024 : Nat) : Int), .int .u16 ((q / 1024 % 1024 : Nat) : Int), .int .u16 ((q : Int) % 1024), .int .u16 0] 29)).mono hb1.size)
  refine ⟨.slice (some ⟨w.heap.size + 1, 0, none⟩) 8 8, rfl, ?_, hb2⟩
  have hO : Own w _ (w.heap.size + 1) 8 (at_ (headL k l q)) := ⟨by omega, hb2, by
    have e := rm_at (headL k l q)
    rw [headL_len] at e
    rw [e]
    exact hA⟩
  have := hO.owns (fun j _ => Nat.lt_trans (at_lt (head_bd hk hl hq) (by decide)) (by decide)) (by decide)
  have e := rm_at (headL k l q)
  rw [headL_len] at e
  rwa [e] at this
/-- numbers don't lie where slices do -/
theorem RowsI.ne {w : World} {g n B : Nat} {f : Nat → Value} {ws : Nat → List Nat} {A : Option Addr} {ys : List Nat} (h : RowsI w g n f ws) (hs : Sl w B A ys) (hy : ys ≠ []) : ∀ a, A = some a → a.block ≠ g := by
  intro a e hg
  rcases hs.2 with e2 | ⟨a', e2, hb, hc⟩
  · exact hy e2
  · rw [e] at e2
    injection e2 with e2
    subst e2
    have h0 : 0 < ys.length := List.length_pos_iff.2 hy
    have := hc 0 h0
    have hv := h.vs
    unfold Vs at hv
    unfold World.cell? at this
    rw [add_block, hg, hv] at this
    dsimp only at this
    split at this
    · cases this
    · rw [List.getElem?_toArray, List.getElem?_map] at this
      obtain ⟨j, hj, hj2⟩ := Option.map_eq_some_iff.1 this
      have hjn : j < n := by
        have := List.mem_of_getElem? hj
        exact List.mem_range.1 this
      obtain ⟨A', c', h1, _⟩ := h.row j hjn
      rw [h1] at hj2
      cases hj2
set_option maxHeartbeats 8000000 in
theorem make_rf {B P W K k l q : Int} {A : Option Addr} {c : Nat} {d : List Nat} {w : World} (hs : Sb w w.heap.size A d) (hl : d.length ≤ 1000000) :
    Calls Try.prog 17 #[.agg #[.int .i64 B, .int .i64 P, .int .i64 W, .int .i64 K], .agg #[.int .i64 k, .int .i64 l, .int .i64 q], .slice A d.length c] w (RowV w (mkW B P W K k l q d) (mkE B P W K k l q d.length)) := by
  have H := Lib.hid hs
  obtain ⟨wb, hwb⟩ : ∃ wb, wb = w.alloc (.cells #[.int .i64 B, .int .i64 P, .int .i64 W, .int .i64 K] 23) := ⟨_, rfl⟩
  obtain ⟨wc, hwc⟩ : ∃ wc, wc = wb.alloc (.cells #[.int .i64 k, .int .i64 l, .int .i64 q] 25) := ⟨_, rfl⟩
  have hzb : wb.heap.size = w.heap.size + 1 := by rw [hwb, World.size_alloc]
  have hbb : Below w.heap.size w wb := by rw [hwb]; exact Ge.below_alloc w _
  have hbc' : Below wb.heap.size wb wc := by rw [hwc]; exact Ge.below_alloc wb _
  have hbc : Below w.heap.size w wc := hbb.trans (hbc'.mono hbb.size)
  have hX : Ge.Box wc w.heap.size B P W K := by
    have := Ge.Box.new w B P W K
    rw [← hwb] at this
    exact this.keep hbc'
  have hH : Hed wc (w.heap.size + 1) k l q := by
    have := Hed.new wb k l q
    rwa [← hwc, hzb] at this
  have hmay := Lib.hid (Ge.refmay_any B P W K wc)
  cases hM : Ge.mayG B P W K
  · rw [hM] at hmay
    have hE := mkE_arg (k := k) (l := l) (q := q) (n := d.length) (Or.inl hM)
    have hR : mkW B P W K k l q d = [] := by unfold mkW; rw [hE]; rfl
    rw [hE, hR]
    obtain ⟨x1, x2, x3, x4, x5⟩ := hX
    rw [hwc, hwb] at hmay x2 x3 x4 x5 hbc
    replace hbc := Lib.hid hbc
    clear hwb hwc hzb hbc' hbb hH hE hR
    go_enter Try.func17, Try.ntmps17
    go_wp2_with (go_at_call 21; (with_reducible refine hmay.out.mono ?_); rintro e w1 ⟨rfl, hb1⟩)
    go_ret2
    exact RowV.nil (hbc.out.trans (hb1.mono hbc.out.size))
  · rw [hM] at hmay
    obtain ⟨x1, x2, x3, x4, x5⟩ := id hX
    rw [hwc, hwb] at hmay x2 x3 x4 x5
    obtain ⟨b1, d1⟩ : ∃ b, decide (k < 1) = b := ⟨_, rfl⟩
    obtain ⟨b2, d2⟩ : ∃ b, decide (1023 < k) = b := ⟨_, rfl⟩
    obtain ⟨b3, d3⟩ : ∃ b, decide (l < 0) = b := ⟨_, rfl⟩
    obtain ⟨b4, d4⟩ : ∃ b, decide (1048576 ≤ l) = b := ⟨_, rfl⟩
    obtain ⟨b5, d5⟩ : ∃ b, decide (q < 0) = b := ⟨_, rfl⟩
    obtain ⟨b6, d6⟩ : ∃ b, decide (1099511627776 ≤ q) = b := ⟨_, rfl⟩
    have hm : Hid (mkB k l q = !(b1 || b2 || b3 || b4 || b5 || b6)) := by
      unfold Hid mkB
      rw [← d1, ← d2, ← d3, ← d4, ← d5, ← d6, Bool.eq_iff_iff]
      simp only [Bool.not_eq_true', Bool.or_eq_false_iff, decide_eq_true_eq, decide_eq_false_iff_not]
      omega
    cases hB : mkB k l q
    · have hE := mkE_arg (B := B) (P := P) (W := W) (K := K) (n := d.length) (Or.inr hB)
      have hR : mkW B P W K k l q d = [] := by unfold mkW; rw [hE]; rfl
      rw [hE, hR]
      rw [hB] at hm
      clear hE hR hM hB
      cases b1
      cases b2
      cases b3
      cases b4
      cases b5
      cases b6
      · exact absurd hm.out (by decide)
      all_goals
        go_enter Try.func17, Try.ntmps17
        go_wp2_with (go_at_call 21; (with_reducible refine hmay.out.mono ?_); rintro e w1 ⟨rfl, hb1⟩; rw [← hwb, ← hwc] at hb1; have hX1 := hX.keep hb1; have hH1 := hH.keep hb1; have hbw1 := hbc.trans (hb1.mono hbc.size); obtain ⟨k1, k2, k3, k4⟩ := hH1)
        go_ret2
        exact RowV.nil hbw1
    · rw [hB] at hm
      have hb0 : b1 = false ∧ b2 = false ∧ b3 = false ∧ b4 = false ∧ b5 = false ∧ b6 = false := by
        have := hm.out
        revert this
        cases b1 <;> cases b2 <;> cases b3 <;> cases b4 <;> cases b5 <;> cases b6 <;> simp
      obtain ⟨rfl, rfl, rfl, rfl, rfl, rfl⟩ := hb0
      clear hm
      by_cases hsize : (d.length : Int) = Ge.sizG B P W K
      · obtain ⟨k', l', q', hk', hl', hq', hk1, hk2, hl2, hq2⟩ := mkB_of hB
        obtain ⟨W', K', N, rfl, rfl, hN, hW1, hW4, hK1, hK64, h8, h256, hsg, _⟩ := mayG_of hM
        have hE := mkE_ok hM hB hsize
        have hR : mkW B P (W' : Int) (K' : Int) k l q d = pageL W' (sayL N k' l' q' d) := by
          unfold mkW
          rw [hE, if_pos rfl, show ((W' : Int) * (K' : Int)).toNat = N by rw [← hN, ← Int.natCast_mul, Int.toNat_natCast], hk', hl', hq']
          rfl
        rw [hE, hR]
        have hd : d.length = 10 * (N - 8) / 8 := by rw [hsg] at hsize; exact Int.ofNat.inj hsize
        have hne : ((d.length : Int) != Ge.sizG B P (W' : Int) (K' : Int)) = false := by simp [hsize]
        have hsl := Lib.hid (say_len (k := k') (l := l') (q := q') hd (by omega))
        have hsb := Lib.hid (say_bd (N := N) (d := d) hk2 hl2 hq2)
        have hse := Lib.hid (say_eq (k := k') (l := l') (q := q') hd)
        have hpl := Lib.hid (pk_size hd)
        have hNI : (W' : Int) * (K' : Int) = (N : Int) := by rw [← hN]; push_cast; rfl
        replace hd := Lib.hid hd
        replace hk' := Lib.hid hk'
        replace hl' := Lib.hid hl'
        replace hq' := Lib.hid hq'
        clear hE hR hM hsize hsg
        go_enter Try.func17, Try.ntmps17
        go_wp2_with (first
          | (go_at_call 21; (with_reducible refine hmay.out.mono ?_); rintro e w1 ⟨rfl, hb1⟩; rw [← hwb, ← hwc] at hb1; have hX1 := hX.keep hb1; have hH1 := hH.keep hb1; have hbw1 := hbc.trans (hb1.mono hbc.size); obtain ⟨k1, k2, k3, k4⟩ := id hH1; obtain ⟨n1, n2, n3, n4, n5⟩ := id hX1; have hsz := Lib.hid (Ge.refsize_any B P (W' : Int) (K' : Int) w1))
          | (go_at_call 22; (with_reducible refine hsz.out.mono ?_); rintro e w2 ⟨rfl, hb2⟩; have hX2 := hX1.keep hb2; have hH2 := hH1.keep hb2; have hbw2 := hbw1.trans (hb2.mono hbw1.size); obtain ⟨l1, l2, l3, l4⟩ := id hH2; obtain ⟨u1, u2, u3, u4, u5⟩ := id hX2; have hhd := rhead_any (w := w2) hk2 hl2 hq2; rw [← hk'.out, ← hl'.out, ← hq'.out] at hhd; replace hhd := Lib.hid hhd)
          | (go_at_call 35; (with_reducible refine hhd.out.mono ?_); rintro e w3 ⟨v3, rfl, ho3, hb3⟩; have hbw3 := hbw2.trans (hb3.mono hbw2.size); have hX3 := hX2.keep hb3; have hpk := Lib.hid (refpack_any A c d w3 (H.out.far hbw3) hl))
          | (go_at_call 36; (with_reducible refine hpk.out.mono ?_); rintro e w4 ⟨g4, rfl, hg4, hA4, hb4⟩; have hbw4 := hbw3.trans (hb4.mono hbw3.size); have hX4 := hX3.keep hb4; have ho4 := ho3.keep hb4; have hb24 := hb3.trans (hb4.mono hb3.size); have hs4 := Lib.hid (hA4.sl (fun x hx => by have := pk_bd d x hx; omega)))
          | (refine app_law (w0 := w2) rfl (.tmp 53) (.tmp 55) rfl v3 (headL k' l' q') rfl ho4 hb24 (some ⟨g4, 0, none⟩) (pk d).length (pk d) (pk d).length rfl rfl hs4.out (by intro e; have := hpl.out; rw [e] at this; simp at this; omega) (by rw [headL_len, hpl.out]; omega) ?_))
        intro v5 w5 ho5 hb5 hb25 hz5
        clear hz5
        rw [← hse.out] at ho5
        have hX5 := hX2.keep hb5
        have hbw5 := hbw2.trans (hb5.mono hbw2.size)
        obtain ⟨A5, c5, rfl, hc5, hs5⟩ := ho5.sl
        rw [hsl.out] at hc5 ⊢
        obtain ⟨y1, y2, y3, y4, y5⟩ := id hX5
        have hin := Lib.hid (refin_row (c := c5) hN ⟨hW1, hW4⟩ hK1 hs5 hsl.out (by omega))
        rw [hsl.out] at hin
        replace hX5 := Lib.hid hX5
        replace hbw5 := Lib.hid hbw5
        clear hX4 hX3 hX2 hX1 hX hH hH1 hH2 hb1 hb2 hb3 hb4 hb24 hb5 hb25 ho4 ho3 ho5 hA4 hs4 hpk hhd hsz hmay hwb hwc hzb hbb hbc' hbc hbw1 hbw2 hbw3 hbw4 k1 k2 k3 k4 n1 n2 n3 n4 n5 l1 l2 l3 l4 u1 u2 u3 u4 u5 x1 x2 x3 x4 x5
        go_wp2_with fail
        go_loop [8] (fun p => p = .slice A5 N c5) (fun _ => 0)
        case atStart => rfl
        case round =>
          obtain rfl := hrel
          go_wp2_with (go_at_call 37; (with_reducible refine hin.out.mono ?_); rintro e w6 ⟨g, f, rfl, hat, hR6, hb6⟩)
          have hX6 := Lib.hid (hX5.out.keep hb6)
          have hbw6 := Lib.hid (hbw5.out.trans (hb6.mono hbw5.out.size))
          have hgx : w.heap.size < g := by have := hX5.out.lt; omega
          obtain ⟨S, hS⟩ : ∃ S, sayL N k' l' q' d = S := ⟨_, rfl⟩
          rw [hS] at hR6 hsl hsb ⊢
          have hne : ∀ j, j < W' → (dealt W' S).getD j [] ∈ dealt W' S := fun j hj => getD_mem (by rw [dealt_len]; exact hj)
          have hrl : Hid (∀ j, j < W' → ((dealt W' S).getD j []).length = K') := fun j hj => dealt_all (by rw [hsl.out, hN]) (by omega) _ (hne j hj)
          have hrb : Hid (∀ j, j < W' → ∀ y ∈ (dealt W' S).getD j [], y < 1024) := fun j hj => dealt_bd (by decide) hsb.out _ (hne j hj)
          have hR6' := Lib.hid hR6
          clear hin hs5 hb6 hX5 hbw5 hat y1 y2 y3 y4 y5 hne hR6
          go_loopw [11] (fun p wr => ∃ i : Nat, i ≤ W' ∧ p = .int .i64 i ∧ (∃ f, RowsI wr g W' f (fun j => if j < i then enc ((dealt W' S).getD j []) else (dealt W' S).getD j [])) ∧ Ge.Box wr w.heap.size B P W' K' ∧ Below w.heap.size w wr) (fun p _ => W' - (intOf p).toNat)
          case atStart => exact ⟨0, Nat.zero_le _, rfl, ⟨f, hR6'.out.congr fun j _ => by rw [if_neg (by omega)]⟩, hX6.out, hbw6.out⟩
          case round =>
            clear hR6' hX6 hbw6
            obtain ⟨i, hi, rfl, ⟨f', hR⟩, hX, hB'⟩ := hrel
            have hx2 := hX.c2
            by_cases hlt : i < W'
            · have hiI : (i : Int) < (W' : Int) := by omega
              have hdi : decide (i < W') = true := decide_eq_true hlt
              obtain ⟨D, cD, hfi, hcD, hsD, hDne⟩ := hR.row i hlt
              rw [if_neg (by omega)] at hfi hcD hsD
              have hcl := hR.vs.cell hlt
              rw [hfi] at hcl
              have hrli := hrl.out i hlt
              have hec := Lib.hid (refenc_any D cD _ wr hsD (by omega))
              have hee : encE ((dealt W' S).getD i []) = 0 := encE_ok (by omega) (fun k hk => hrb.out i hlt _ (List.getElem_mem hk))
              have hew : encW ((dealt W' S).getD i []) = enc ((dealt W' S).getD i []) := by unfold encW; rw [hee, if_pos rfl]
              rw [hee, hew] at hec
              generalize hrow : (dealt W' S).getD i [] = row at *
              replace hrli := Lib.hid hrli
              have hxl : Hid (enc row ≠ []) := by
                intro e
                have := enc_len row
                rw [e] at this; simp at this
              go_wp2_with (go_at_call 38; (with_reducible refine hec.out.mono ?_); rintro e w2 ⟨A2, c2, rfl, hc2, hs2, hb2⟩; have hR2 := hR.keep hb2; obtain ⟨V2, hcl2⟩ : ∃ V, w2.cell? ⟨g, i, none⟩ = some V := ⟨_, hR2.vs.cell hlt⟩; have hfz2 := hR2.vs.frozen i)
              go_roundw
              case measure => simp [intOf]; omega
              case rel =>
                have hR3 := hR2.lay hlt hc2 hs2 (Or.inr (hR2.ne hs2 hxl.out))
                refine ⟨i + 1, by omega, by go_num, ⟨_, hR3.congr fun j hj => ?_⟩, (hX.keep hb2).other _ (by omega), (hB'.trans (hb2.mono hB'.size)).setCell (show w.heap.size ≤ g by omega) _⟩
                show (if j = i then enc row else if j < i then enc ((dealt W' S).getD j []) else (dealt W' S).getD j []) = if j < i + 1 then enc ((dealt W' S).getD j []) else (dealt W' S).getD j []
                by_cases e : j = i
                · rw [if_pos e, if_pos (by omega), e, hrow]
                · rw [if_neg e]
                  by_cases h : j < i
                  · rw [if_pos h, if_pos (by omega)]
                  · rw [if_neg h, if_neg (by omega)]
            · obtain rfl : i = W' := by omega
              have hd : decide (i < i) = false := decide_eq_false (Nat.lt_irrefl _)
              have hws : ((List.range i).map fun j => if j < i then enc ((dealt i S).getD j []) else (dealt i S).getD j []) = rowsL i S := by
                apply List.ext_getElem
                · rw [List.length_map, List.length_range, rowsL_len]
                · intro j h1 h2
                  have hj : j < i := by simpa using h1
                  simp only [List.getElem_map, List.getElem_range]
                  rw [if_pos hj, ← rowsL_getD hj, List.getD_eq_getElem?_getD, List.getElem?_eq_getElem h2, Option.getD_some]
              have hsw := hR.sw
              rw [hws] at hsw
              have hlen := rowsL_len (W := i) (s := S)
              have hall := rowsL_all (W := i) (n := K') (s := S) (by rw [hsl.out, hN]) (by omega)
              have hE : outE (i : Int) (rowsL i S) = 0 := outE_ok (by unfold mayB; rw [Bool.and_eq_true, decide_eq_true_eq, decide_eq_true_eq]; omega) (by rw [hlen]) (unl_false fun k hk => by rw [hall _ (List.getElem_mem hk), wvN_all hall (by intro e; rw [e] at hlen; simp at hlen; omega)]) (by rw [wvN_all hall (by intro e; rw [e] at hlen; simp at hlen; omega)]; omega)
              have hO : outW (i : Int) (rowsL i S) = pageL i S := by unfold outW; rw [hE, if_pos rfl]; rfl
              have hout := refout_any (i : Int) (some ⟨g, 0, none⟩) i (rowsL i S) wr hsw (by omega) (fun x hx => by rw [hall x hx]; omega)
              rw [hE, hO, hlen] at hout
              replace hout := Lib.hid hout
              replace hB' := Lib.hid hB'
              clear hsw hR hX hlen hall hE hO hws
              go_wp2_with (go_at_call 39; (with_reducible refine hout.out.mono ?_); rintro e w2 ⟨v2, rfl, ho2, hb2⟩)
              go_ret2
              refine ⟨v2, rfl, ?_, hB'.out.trans (hb2.mono hB'.out.size)⟩
              rw [hS]
              exact ho2.low hB'.out.size
      · have hE := mkE_size hM hB hsize
        have hR : mkW B P W K k l q d = [] := by unfold mkW; rw [hE]; rfl
        rw [hE, hR]
        have hne : ((d.length : Int) != Ge.sizG B P W K) = true := by simp [hsize]
        clear hE hR hM hsize
        go_enter Try.func17, Try.ntmps17
        go_wp2_with (first
          | (go_at_call 21; (with_reducible refine hmay.out.mono ?_); rintro e w1 ⟨rfl, hb1⟩; rw [← hwb, ← hwc] at hb1; have hX1 := hX.keep hb1; have hH1 := hH.keep hb1; have hbw1 := hbc.trans (hb1.mono hbc.size); obtain ⟨k1, k2, k3, k4⟩ := id hH1; obtain ⟨n1, n2, n3, n4, n5⟩ := id hX1; have hsz := Lib.hid (Ge.refsize_any B P W K w1))
          | (go_at_call 22; (with_reducible refine hsz.out.mono ?_); rintro e w2 ⟨rfl, hb2⟩; have hX2 := hX1.keep hb2; have hH2 := hH1.keep hb2; have hbw2 := hbw1.trans (hb2.mono hbw1.size); obtain ⟨l1, l2, l3, l4⟩ := id hH2; obtain ⟨u1, u2, u3, u4, u5⟩ := id hX2))
        go_ret2
        exact RowV.nil hbw2
end Go.Proofs.Ytmchelbmeajcnaa
