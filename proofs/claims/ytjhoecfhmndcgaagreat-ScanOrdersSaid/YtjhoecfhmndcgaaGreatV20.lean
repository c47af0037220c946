/- Slices of slices of 16-bit numbers: how they are read as lists of lists, opened among the arguments, and read again behind a call that leaves old memory alone. · The program's package weave: may, place, unlike, Burst. · The program's Out. -/
import Derived.Test.YtjhoecfhmndcgaaGreatV17
import Derived.Test.YtjhoecfhmndcgaaGreatV18
import Derived.Test.YtjhoecfhmndcgaaGreatV19
import Derived.Test.YtjhoecfhmndcgaaGreatV06
import Derived.Deep.Slices
namespace Go.Proofs.YtjhoecfhmndcgaaGreat
open Go.ChangeShapes Go.WideShapes Go.ChangeAt Go.RowKit Go.Deep

/-- the slice with address A holds the rows ws, all in blocks below B -/
def Sw (w : World) (B : Nat) (A : Option Addr) (ws : List (List Nat)) : Prop :=
  ws = [] ∨ ∃ a, A = some a ∧ a.block < B ∧ ∀ i (h : i < ws.length), ∃ D c, w.cell? (a.add i) = some (.slice D ws[i].length c) ∧ ws[i].length ≤ c ∧ Sl w B D ws[i]
theorem Sw.keep {w w' : World} {B : Nat} {A : Option Addr} {ws : List (List Nat)} (h : Sw w B A ws) (hk : ∀ p : Addr, p.block < B → w'.cell? p = w.cell? p) : Sw w' B A ws := by
  rcases h with e | ⟨a, e, h1, h2⟩
  · exact Or.inl e
  · refine Or.inr ⟨a, e, h1, fun i hi => ?_⟩
    obtain ⟨D, c, g1, g2, g3⟩ := h2 i hi
    exact ⟨D, c, (hk _ (by rw [add_block]; exact h1)).trans g1, g2, g3.keep hk⟩
theorem Sw.below {w w' : World} {B : Nat} {A : Option Addr} {ws : List (List Nat)} (h : Sw w B A ws) (hb : Below B w w') : Sw w' B A ws := h.keep fun _ hp => hb.cell hp
theorem Sw.at_ {w : World} {B : Nat} {A : Option Addr} {ws : List (List Nat)} {i : Nat} (h : Sw w B A ws) (hi : i < ws.length) :
    ∃ a D c, A = some a ∧ a.block < B ∧ w.cell? (a.add i) = some (.slice D ws[i].length c) ∧ ws[i].length ≤ c ∧ Sl w B D ws[i] := by
  rcases h with e | ⟨a, e, h1, h2⟩
  · rw [e] at hi; exact absurd hi (by simp)
  · obtain ⟨D, c, g⟩ := h2 i hi
    exact ⟨a, D, c, e, h1, g⟩
section
variable {H : Type} {enc : TypeId × Value → H} {P : Program} {W : World}
end
end Go.Proofs.YtjhoecfhmndcgaaGreat
namespace Go.Proofs.YtjhoecfhmndcgaaGreat
open Go.RowKit Go.Gf

def mayB (W : Int) : Bool := decide (1 ≤ W) && decide (W ≤ 4)
theorem may_any (W : Int) (w : World) : Calls Tryz.prog 114 #[.int .i64 W] w fun e w' => e = .returned (.bool (mayB W)) ∧ w = w' := by
  obtain ⟨b1, h1⟩ : ∃ b, decide (1 ≤ W) = b := ⟨_, rfl⟩
  obtain ⟨b2, h2⟩ : ∃ b, decide (W ≤ 4) = b := ⟨_, rfl⟩
  have hm : Hid (mayB W = (b1 && b2)) := by unfold Hid mayB; rw [h1, h2]
  generalize mayB W = M at hm
  cases b1
  · go_enter Tryz.func114, Tryz.ntmps114
    go_wp2_with fail
    go_ret
    rw [hm.out]
    exact ⟨rfl, rfl⟩
  · go_enter Tryz.func114, Tryz.ntmps114
    go_wp2_with fail
    go_ret
    rw [hm.out]
    exact ⟨rfl, rfl⟩
theorem place_any (W i : Nat) (hW : 0 < W) (hi : i ≤ 1000000) (w : World) : Calls Tryz.prog 116 #[.int .i64 (W : Int), .int .i64 (i : Int)] w fun e w' => e = .returned (.tuple #[.int .i64 ((i % W : Nat) : Int), .int .i64 ((i / W : Nat) : Int)]) ∧ Drawn w w' := by
  have h0 : (W : Int) ≠ 0 := by omega
  have h1 : wrap64 ((i : Int) / (W : Int)) = ((i / W : Nat) : Int) := by
    rw [← Int.natCast_ediv]
    have : i / W ≤ i := Nat.div_le_self _ _
    generalize i / W = q at this
    exact IntWalk.wrap64_in _ (by omega)
  go_enter Tryz.func116, Tryz.ntmps116
  go_wp2
  go_quiet (fail)
  go_wp2
  go_ret2
  refine ⟨?_, _, rfl⟩
  show Ending.returned (.tuple #[.int .i64 ((i : Int) % (W : Int)), .int .i64 (wrap64 ((i : Int) / (W : Int)))]) = _
  rw [h1]
  rfl
/-- how long the first row is -/
def wvN (ws : List (List Nat)) : Nat := (ws.getD 0 []).length
/-- has one row another length than the first? -/
def unl (ws : List (List Nat)) : Bool := ws.any fun x => decide (x.length ≠ wvN ws)
theorem unl_true {ws : List (List Nat)} {k : Nat} (hk : k < ws.length) (h : ws[k].length ≠ wvN ws) : unl ws = true := by
  unfold unl
  exact List.any_eq_true.2 ⟨_, List.getElem_mem hk, by simpa using h⟩
theorem unl_false {ws : List (List Nat)} (h : ∀ k (hk : k < ws.length), ws[k].length = wvN ws) : unl ws = false := by
  unfold unl
  rw [List.any_eq_false]
  intro x hx
  obtain ⟨k, hk, rfl⟩ := List.getElem_of_mem hx
  have := h k hk
  simpa using this
theorem wvN_get {ws : List (List Nat)} (h : 0 < ws.length) : ws[0].length = wvN ws := by simp [wvN, h]
set_option maxHeartbeats 2000000 in
theorem unlike_any (A : Option Addr) (c : Nat) (ws : List (List Nat)) (w : World) (h : Sw w w.heap.size A ws) (hl : ws.length ≤ 1000000) : Calls Tryz.prog 115 #[.slice A ws.length c] w fun e w' => e = .returned (.bool (unl ws)) ∧ w = w' := by
  have H := Lib.hid h
  have h1 : Hid (∀ k (hk : k < ws.length), ws[k].length ≠ wvN ws → unl ws = true) := fun k hk h => unl_true hk h
  have h2 : Hid ((∀ k (hk : k < ws.length), ws[k].length = wvN ws) → unl ws = false) := fun h => unl_false h
  clear h
  generalize unl ws = U at *
  go_enter Tryz.func115, Tryz.ntmps115
  go_wp2
  go_loop [7] (fun n => ∃ k : Nat, k ≤ ws.length ∧ Hid (∀ j (h : j < ws.length), j < k → ws[j].length = wvN ws) ∧ n = .int .i64 k) (fun n => ws.length - (intOf n).toNat)
  case atStart => exact ⟨0, Nat.zero_le _, Lib.hid (fun j _ h => absurd h (by omega)), rfl⟩
  case round =>
    obtain ⟨k, hk, HK, rfl⟩ := hrel
    by_cases hlt : k < ws.length
    · have h0 : 0 < ws.length := by omega
      have hkI : (k : Int) < (ws.length : Int) := by omega
      have hd : decide (k < ws.length) = true := decide_eq_true hlt
      obtain ⟨a, D, cD, rfl, hab, hc1, hn1, hs1⟩ := H.out.at_ hlt
      obtain ⟨a', E, cE, e, _, hc2, hn2, hs2⟩ := H.out.at_ h0
      injection e with e
      subst e
      rw [wvN_get h0, add_zero'] at hc2
      by_cases hu : ws[k].length = wvN ws
      · have HK' : Hid (∀ j (h : j < ws.length), j < k + 1 → ws[j].length = wvN ws) := fun j hj hjk => by
          rcases Nat.lt_or_ge j k with h1 | h1
          · exact HK.out j hj h1
          · obtain rfl : j = k := by omega
            exact hu
        have hne : ((ws[k].length : Int) != (wvN ws : Int)) = false := by simp [hu]
        have hne2 : (ws[k].length != wvN ws) = false := by simp [hu]
        obtain ⟨L, hL⟩ : ∃ L, Hid (ws[k].length = L) := ⟨_, Lib.hid rfl⟩
        rw [hL.out] at hc1 hne hne2
        clear hu HK h1 h2 hs1 hs2 hn1 hn2
        go_wp2_with fail
        go_round
        case rel => exact ⟨k + 1, by omega, HK', by go_num⟩
        case measure => simp [intOf]; omega
      · have hU := Lib.hid (h1.out k hlt hu)
        have hne : ((ws[k].length : Int) != (wvN ws : Int)) = true := by simp; omega
        have hne2 : (ws[k].length != wvN ws) = true := by simp [hu]
        obtain ⟨L, hL⟩ : ∃ L, Hid (ws[k].length = L) := ⟨_, Lib.hid rfl⟩
        rw [hL.out] at hc1 hne hne2
        clear hu HK h1 h2 hs1 hs2 hn1 hn2
        go_wp2_with fail
        go_ret
        rw [hU.out]
        exact ⟨rfl, rfl⟩
    · obtain rfl : k = ws.length := by omega
      have hU := Lib.hid (h2.out (fun j hj => HK.out j hj hj))
      have hd : decide (ws.length < ws.length) = false := decide_eq_false (Nat.lt_irrefl _)
      clear h1 h2 HK
      go_wp2_with fail
      go_ret
      rw [hU.out]
      exact ⟨rfl, rfl⟩
end Go.Proofs.YtjhoecfhmndcgaaGreat
namespace Go.Proofs.YtjhoecfhmndcgaaGreat
open Go.RowKit Go.Gf

/-- a row of one's own and an error's number -/
def RowV (w : World) (ys : List Nat) (n : Nat) (e : Ending) (w' : World) : Prop := ∃ v, e = .returned (.tuple #[v, .int .i64 (n : Int)]) ∧ OwnS w w' v ys ∧ Below w.heap.size w w'
theorem RowV.nil {w w' : World} {n : Nat} (hb : Below w.heap.size w w') : RowV w [] n (.returned (.tuple #[.slice none 0 0, .int .i64 (n : Int)])) w' := ⟨_, rfl, OwnS.nil _ _, hb⟩
theorem Own.owns {w wr : World} {g n : Nat} {f : Nat → Nat} (h : Own w wr g n f) (hf : ∀ j, j < n → f j < 65536) (hn : n ≤ 1000000) : OwnS w wr (.slice (some ⟨g, 0, none⟩) n n) (rm n f) := by
  refine ⟨⟨by simp, Or.inr ⟨g, n, ((rm n f).map uv).toArray, by rw [rm_len], h.1, h.2.2, by rw [rm_len]; exact Nat.le_refl _, by unfold maxLen; omega, by simp [rm_len], by simp [List.take_of_length_le]⟩⟩, rm_mem hf⟩
/-- the symbol at place i of W woven words -/
def wvF (ws : List (List Nat)) (W i : Nat) : Nat := at_ (ws.getD (i % W) []) (i / W)
def wvOf (ws : List (List Nat)) : List Nat := rm (ws.length * wvN ws) (wvF ws ws.length)
def outE (W : Int) (ws : List (List Nat)) : Nat := if mayB W = false ∨ (ws.length : Int) ≠ W then 1 else if unl ws = true ∨ wvN ws = 0 then 3 else 0
def outW (W : Int) (ws : List (List Nat)) : List Nat := if outE W ws = 0 then wvOf ws else []
theorem outE_arg {W : Int} {ws : List (List Nat)} (h : mayB W = false ∨ (ws.length : Int) ≠ W) : outE W ws = 1 := by unfold outE; rw [if_pos h]
theorem outE_size {W : Int} {ws : List (List Nat)} (h : mayB W = true) (h2 : (ws.length : Int) = W) (h3 : unl ws = true ∨ wvN ws = 0) : outE W ws = 3 := by
  unfold outE
  rw [if_neg (by rw [h]; simp [h2]), if_pos h3]
theorem outE_ok {W : Int} {ws : List (List Nat)} (h : mayB W = true) (h2 : (ws.length : Int) = W) (h3 : unl ws = false) (h4 : wvN ws ≠ 0) : outE W ws = 0 := by
  unfold outE
  rw [if_neg (by rw [h]; simp [h2]), if_neg (by rw [h3]; simp [h4])]
theorem unl_len {ws : List (List Nat)} (h : unl ws = false) {k : Nat} (hk : k < ws.length) : ws[k].length = wvN ws := by
  rcases Classical.em (ws[k].length = wvN ws) with e | e
  · exact e
  · rw [unl_true hk e] at h; cases h
theorem wvF_get {ws : List (List Nat)} {W i : Nat} (h1 : i % W < ws.length) (h2 : i / W < ws[i % W].length) : wvF ws W i = (ws[i % W])[i / W] := by
  unfold wvF
  rw [List.getD_eq_getElem?_getD, List.getElem?_eq_getElem h1, Option.getD_some, at_get h2]
theorem wvF_lt {ws : List (List Nat)} (h : ∀ x ∈ ws, ∀ y ∈ x, y < 65536) (W i : Nat) : wvF ws W i < 65536 := by
  unfold wvF
  rcases Nat.lt_or_ge (i % W) ws.length with hk | hk
  · rw [List.getD_eq_getElem?_getD, List.getElem?_eq_getElem hk, Option.getD_some]
    exact at_lt (h _ (List.getElem_mem hk)) (by decide)
  · rw [List.getD_eq_getElem?_getD, List.getElem?_eq_none hk, Option.getD_none]
    exact at_lt (by simp) (by decide)
theorem Sw.bd {w : World} {B : Nat} {A : Option Addr} {ws : List (List Nat)} (h : Sw w B A ws) : ∀ x ∈ ws, ∀ y ∈ x, y < 65536 := by
  intro x hx
  obtain ⟨k, hk, rfl⟩ := List.getElem_of_mem hx
  obtain ⟨a, D, c, _, _, _, _, hs⟩ := h.at_ hk
  exact hs.1
theorem mayB_nat {V : Nat} (h : mayB (V : Int) = true) : 1 ≤ V ∧ V ≤ 4 := by
  unfold mayB at h
  rw [Bool.and_eq_true, decide_eq_true_eq, decide_eq_true_eq] at h
  omega
theorem divmod_lt {V n i : Nat} (hV : 0 < V) (hi : i < V * n) : i % V < V ∧ i / V < n := ⟨Nat.mod_lt _ hV, Nat.div_lt_of_lt_mul hi⟩
set_option maxHeartbeats 4000000 in
theorem out_any (W : Int) (A : Option Addr) (c : Nat) (ws : List (List Nat)) (w : World) (h : Sw w w.heap.size A ws) (hl : ws.length ≤ 1000000) (hx : ∀ x ∈ ws, x.length ≤ 100000) :
    Calls Tryz.prog 83 #[.int .i64 W, .slice A ws.length c] w (RowV w (outW W ws) (outE W ws)) := by
  have H := Lib.hid h
  have HX := Lib.hid hx
  clear h hx
  have hc := Lib.hid (may_any W w)
  have hu := Lib.hid (unlike_any A c ws w H.out hl)
  by_cases h1 : mayB W = true
  · rw [h1] at hc
    by_cases h2 : (ws.length : Int) = W
    · subst h2
      obtain ⟨V, hV⟩ : ∃ V, ws.length = V := ⟨_, rfl⟩
      have hV4 : 1 ≤ V ∧ V ≤ 4 := by rw [← hV]; exact mayB_nat h1
      have hne : ((V : Int) != (V : Int)) = false := by simp
      have hne2 : (V != V) = false := by simp
      cases h3 : unl ws
      · obtain ⟨a, D0, c0, rfl, ha0, hc0, hn0, hs0⟩ := H.out.at_ (i := 0) (by omega)
        rw [wvN_get (by omega), add_zero'] at hc0
        obtain ⟨n, hn⟩ : ∃ n, Hid (wvN ws = n) := ⟨_, Lib.hid rfl⟩
        rw [hn.out] at hc0
        rw [h3] at hu
        have hn1 : n ≤ 100000 := by
          have := HX.out _ (List.getElem_mem (show 0 < ws.length by omega))
          rw [wvN_get (by omega), hn.out] at this
          exact this
        by_cases h4 : n = 0
        · have hz : ((n : Int) == 0) = true := by simp [h4]
          have hE := Lib.hid (outE_size (ws := ws) h1 rfl (Or.inr (by rw [hn.out]; exact h4)))
          have hR : Hid (outW (ws.length : Int) ws = []) := by unfold Hid outW; rw [hE.out]; rfl
          rw [hE.out, hR.out]
          clear hE hR hs0
          rw [hV] at hu hc ⊢
          clear h1 h3 hn h4
          go_enter Tryz.func83, Tryz.ntmps83
          go_wp2_with (first
            | (go_at_call 114; (with_reducible refine hc.out.mono ?_); rintro e w1 ⟨rfl, rfl⟩)
            | (go_at_call 115; (with_reducible refine hu.out.mono ?_); rintro e w1 ⟨rfl, rfl⟩))
          go_ret2
          exact RowV.nil (Below.refl _ _)
        · have hz : ((n : Int) == 0) = false := by rw [beq_eq_false_iff_ne]; omega
          have hE := Lib.hid (outE_ok (ws := ws) h1 rfl h3 (by rw [hn.out]; exact h4))
          have hR : Hid (outW (ws.length : Int) ws = wvOf ws) := by unfold Hid outW; rw [hE.out]; rfl
          rw [hE.out, hR.out]
          obtain ⟨N, hN⟩ : ∃ N, N = V * n := ⟨_, rfl⟩
          have hNI : (V : Int) * (n : Int) = (N : Int) := by rw [hN]; push_cast; rfl
          have hN4 : N ≤ 400000 := by
            have : V * n ≤ 4 * 100000 := Nat.mul_le_mul hV4.2 hn1
            omega
          have hR2 : Hid (wvOf ws = rm N (wvF ws V)) := by unfold Hid wvOf; rw [hn.out, hV, hN]
          rw [hR2.out]
          have HL : Hid (∀ k (h : k < ws.length), ws[k].length = n) := fun k hk => by rw [← hn.out]; exact unl_len h3 hk
          have hin : Hid (∀ i, i < N → i % V < V ∧ i / V < n) := fun i hi => divmod_lt (by omega) (by rw [← hN]; exact hi)
          have hF := Lib.hid (wvF_lt H.out.bd V)
          have hmk := run_make_row' (P := Tryz.prog) 41 46 (.int .u16 0) 2 Tryz.underlying41 info22 rfl .i64 .i64 N (by omega) (by omega)
          have HH := Lib.hid hV
          clear hE hR hs0 hR2
          rw [hV] at hu hc ⊢
          clear h1 h3 hn h4 hN
          go_enter Tryz.func83, Tryz.ntmps83
          go_wp2_with (first
            | (go_at_call 114; (with_reducible refine hc.out.mono ?_); rintro e w1 ⟨rfl, rfl⟩)
            | (go_at_call 115; (with_reducible refine hu.out.mono ?_); rintro e w1 ⟨rfl, rfl⟩))
          go_loopw [39] (fun q wr => ∃ i : Nat, i ≤ N ∧ q = .int .i64 i ∧ Own w wr w.heap.size N (fun j => if j < i then wvF ws V j else 0)) (fun q _ => N - (intOf q).toNat)
          case atStart => exact ⟨0, Nat.zero_le _, rfl, (own_start w N).congr (fun j _ => by rw [if_neg (by omega)])⟩
          case round =>
            obtain ⟨i, hi, rfl, HO⟩ := hrel
            clear hmk hc0
            by_cases hlt : i < N
            · have hiI : (i : Int) < (N : Int) := by omega
              have hd : decide (i < N) = true := decide_eq_true hlt
              obtain ⟨hp, hq⟩ := hin.out i hlt
              have hpc := place_any V i (by omega) (by omega) wr
              have hFi := hF.out i
              have hpl : i % V < ws.length := by rw [HH.out]; exact hp
              obtain ⟨_, D, cD, e, hab, hcw, hcn, hcs⟩ := (H.out.below HO.2.1).at_ hpl
              injection e with e
              subst e
              have hll := HL.out _ hpl
              obtain ⟨d, rfl, hdb, hcd⟩ := hcs.at_ (i := i / V) (by rw [hll]; exact hq)
              rw [← wvF_get hpl (by rw [hll]; exact hq)] at hcd
              rw [hll] at hcw
              obtain ⟨F, hFF⟩ : ∃ F, Hid (wvF ws V i = F) := ⟨_, Lib.hid rfl⟩
              rw [hFF.out] at hcd hFi
              obtain ⟨p, hpp⟩ : ∃ p, i % V = p := ⟨_, rfl⟩
              obtain ⟨q, hqq⟩ : ∃ q, i / V = q := ⟨_, rfl⟩
              rw [hpp] at hpc hp hcw
              rw [hqq] at hpc hq hcd
              have hpI : (p : Int) < (V : Int) := by omega
              have hqI : (q : Int) < (n : Int) := by omega
              have hc1 := HO.cell hlt
              have hf1 := HO.2.2.frozen i
              have HO' := Lib.hid ((HO.set_ i F).congr (f' := fun j => if j < i + 1 then wvF ws V j else 0) (by
                intro j hj
                show (if j = i then F else if j < i then wvF ws V j else 0) = if j < i + 1 then wvF ws V j else 0
                by_cases e : j = i
                · subst e; rw [if_pos rfl, if_pos (by omega), hFF.out]
                · rw [if_neg e]
                  by_cases h : j < i
                  · rw [if_pos h, if_pos (by omega)]
                  · rw [if_neg h, if_neg (by omega)]))
              replace hpc := Lib.hid hpc
              clear HO hpl hll hpp hqq hcs hcn hi
              go_wp2_with (go_at_call 116; (with_reducible refine hpc.out.mono ?_); rintro e w1 ⟨rfl, nd, rfl⟩)
              go_roundw
              case rel => exact ⟨i + 1, by omega, by go_num, HO'.out.drewN _⟩
              case measure => simp [intOf]; omega
            · obtain rfl : i = N := by omega
              have hd : decide (i < i) = false := decide_eq_false (Nat.lt_irrefl _)
              have HR := Lib.hid ((HO.congr (f' := wvF ws V) (fun j hj => by rw [if_pos hj])).owns (fun j _ => hF.out j) (by omega))
              have HB := Lib.hid HO.2.1
              clear HO
              go_wp2_with fail
              go_ret2
              exact ⟨_, rfl, HR.out, HB.out⟩
      · have hE := Lib.hid (outE_size (ws := ws) h1 rfl (Or.inl h3))
        have hR : Hid (outW (ws.length : Int) ws = []) := by unfold Hid outW; rw [hE.out]; rfl
        rw [hE.out, hR.out]
        rw [h3] at hu
        clear hE hR
        rw [hV] at hu hc ⊢
        clear h1 h3
        go_enter Tryz.func83, Tryz.ntmps83
        go_wp2_with (first
          | (go_at_call 114; (with_reducible refine hc.out.mono ?_); rintro e w1 ⟨rfl, rfl⟩)
          | (go_at_call 115; (with_reducible refine hu.out.mono ?_); rintro e w1 ⟨rfl, rfl⟩))
        go_ret2
        exact RowV.nil (Below.refl _ _)
    · have hE := Lib.hid (outE_arg (Or.inr h2))
      have hR : Hid (outW W ws = []) := by unfold Hid outW; rw [hE.out]; rfl
      rw [hE.out, hR.out]
      have hne : ((ws.length : Int) != W) = true := by simp [h2]
      clear hE hR h1 h2
      go_enter Tryz.func83, Tryz.ntmps83
      go_wp2_with (go_at_call 114; (with_reducible refine hc.out.mono ?_); rintro e w1 ⟨rfl, rfl⟩)
      go_ret2
      exact RowV.nil (Below.refl _ _)
  · have e1 : mayB W = false := by simpa using h1
    have hE := Lib.hid (outE_arg (ws := ws) (Or.inl e1))
    have hR : Hid (outW W ws = []) := by unfold Hid outW; rw [hE.out]; rfl
    rw [hE.out, hR.out]
    rw [e1] at hc
    clear hE hR h1 e1
    go_enter Tryz.func83, Tryz.ntmps83
    go_wp2_with (go_at_call 114; (with_reducible refine hc.out.mono ?_); rintro e w1 ⟨rfl, rfl⟩)
    go_ret2
    exact RowV.nil (Below.refl _ _)
end Go.Proofs.YtjhoecfhmndcgaaGreat
