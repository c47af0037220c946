/- The program's frame: points: which are nought, what they are nearest to, those of one codeword, how many of them are nought. · The program's frame: the points of one codeword, and how many of them are nought where its symbol is right. -/
import Derived.Test.YtmchelbmeajcnaaMa
import Derived.Test.YtmchelbmeajcnaaGl
import Derived.Test.YtmchelbmeajcnaaWp
import Derived.Test.YtmchelbmeajcnaaKu
import Derived.Maps.AppendAt
namespace Go.Proofs.Ytmchelbmeajcnaa
open Go.RowKit Go.Gf Go.Fl
set_option linter.unusedVariables false
set_option linter.unusedSimpArgs false
set_option maxRecDepth 20000
attribute [local go_sem ↓] Cl.quiet_since

/-- the two floats of a point, as a value -/
def cpx (x : Nat × Nat) : Value := .complex .f64 x.1 x.2
/-- the slice with address A holds the points xs, below block B -/
def Cx (w : World) (B : Nat) (A : Option Addr) (xs : List (Nat × Nat)) : Prop := xs = [] ∨ ∃ a, A = some a ∧ a.block < B ∧ ∀ i (h : i < xs.length), w.cell? (a.add i) = some (cpx xs[i])
/-- is a point just nought? -/
def zP (x : Nat × Nat) : Bool := (FloatKind.f64.format.order x.1 0 == some .eq) && (FloatKind.f64.format.order x.2 0 == some .eq)
/-- the i-th point -/
def xA (xs : List (Nat × Nat)) (i : Nat) : Nat × Nat := xs.getD i (0, 0)
section
variable {w w' : World} {B B' : Nat} {A : Option Addr} {xs : List (Nat × Nat)}
theorem xA_get {i : Nat} (h : i < xs.length) : xA xs i = xs[i] := by simp [xA, h]
theorem Cx.nil (w : World) (B : Nat) (A : Option Addr) : Cx w B A [] := Or.inl rfl
theorem Cx.keep (h : Cx w B A xs) (hk : ∀ p : Addr, p.block < B → w'.cell? p = w.cell? p) : Cx w' B A xs := by
  rcases h with h | ⟨a, e, hb, hc⟩
  · exact Or.inl h
  · exact Or.inr ⟨a, e, hb, fun i hi => (hk _ (by rw [add_block]; exact hb)).trans (hc i hi)⟩
theorem Cx.more (h : Cx w B A xs) (hB : B ≤ B') : Cx w B' A xs := by
  rcases h with h | ⟨a, e, hb, hc⟩
  · exact Or.inl h
  · exact Or.inr ⟨a, e, by omega, hc⟩
theorem Cx.below (h : Cx w B A xs) (hb : Below B w w') : Cx w' B A xs := h.keep fun _ hp => hb.cell hp
theorem Cx.far (h : Cx w w.heap.size A xs) (hb : Below w.heap.size w w') : Cx w' w'.heap.size A xs := (h.below hb).more hb.size
theorem Cx.at_ {i : Nat} (h : Cx w B A xs) (hi : i < xs.length) : ∃ a, A = some a ∧ a.block < B ∧ w.cell? (a.add i) = some (.complex .f64 (xA xs i).1 (xA xs i).2) := by
  rcases h with h | ⟨a, e, hb, hc⟩
  · rw [h] at hi; exact absurd hi (by simp)
  · exact ⟨a, e, hb, by rw [xA_get hi]; exact hc i hi⟩
end
/-- are all points nought? -/
def blkB (xs : List (Nat × Nat)) : Bool := xs.all zP
theorem blkB_true {xs : List (Nat × Nat)} : blkB xs = true ↔ ∀ i, i < xs.length → zP (xA xs i) = true := by
  unfold blkB
  rw [List.all_eq_true]
  constructor
  · intro h i hi
    rw [xA_get hi]
    exact h _ (List.getElem_mem hi)
  · intro h x hx
    obtain ⟨i, hi, rfl⟩ := List.getElem_of_mem hx
    rw [← xA_get hi]
    exact h i hi
theorem charged_any (x : Nat × Nat) (w : World) : Calls Try.prog 48 #[.complex .f64 x.1 x.2] w fun e w' => e = .returned (.bool (!zP x)) ∧ w = w' := by
  obtain ⟨x, y⟩ := x
  have hz : zP (x, y) = ((FloatKind.f64.format.order x 0 == some .eq) && (FloatKind.f64.format.order y 0 == some .eq)) := rfl
  obtain ⟨b1, h1⟩ : ∃ b, (FloatKind.f64.format.order x 0 == some .eq) = b := ⟨_, rfl⟩
  obtain ⟨b2, h2⟩ : ∃ b, (FloatKind.f64.format.order y 0 == some .eq) = b := ⟨_, rfl⟩
  rw [h1, h2] at hz
  rw [hz]
  clear hz
  go_enter Try.func48, Try.ntmps48
  go_wp2_with fail
  go_ret
  exact ⟨by cases b1 <;> cases b2 <;> rfl, rfl⟩
set_option maxHeartbeats 2000000 in
theorem cindex_any (A : Option Addr) (c : Nat) (xs : List (Nat × Nat)) (w : World) (h : Cx w w.heap.size A xs) (hl : xs.length ≤ 1000000) :
    Calls Try.prog 72 #[.slice A xs.length c, .func (.func 48) #[] #[]] w fun e w' => (∃ j : Int, e = .returned (.int .i64 j) ∧ decide (0 ≤ j) = !blkB xs) ∧ w = w' := by
  have H := Lib.hid h
  clear h
  go_enter Try.func72, Try.ntmps72
  go_wp2_with fail
  go_loop [8] (fun n => ∃ k : Nat, k ≤ xs.length ∧ Hid (∀ j, j < xs.length → j < k → zP (xA xs j) = true) ∧ n = .int .i64 k) (fun n => xs.length - (intOf n).toNat)
  case atStart => exact ⟨0, Nat.zero_le _, Lib.hid (fun j _ h => absurd h (by omega)), rfl⟩
  case round =>
    obtain ⟨k, hk, HK, rfl⟩ := hrel
    by_cases hlt : k < xs.length
    · obtain ⟨a, rfl, hab, hcell⟩ := H.out.at_ hlt
      have hc := Lib.hid (charged_any (xA xs k) w)
      cases hb : zP (xA xs k)
      · have hs : Hid (blkB xs = false) := by
          unfold Hid
          rw [Bool.eq_false_iff]
          intro e
          have := blkB_true.1 e k hlt
          rw [hb] at this; cases this
        rw [hb] at hc
        clear hb
        go_wp2_with (go_at_call 48; (with_reducible refine hc.out.mono ?_); rintro e w' ⟨rfl, rfl⟩)
        go_ret
        exact ⟨⟨_, rfl, by rw [hs.out]; simp⟩, rfl⟩
      · have HK' : Hid (∀ j, j < xs.length → j < k + 1 → zP (xA xs j) = true) := fun j hj hjk => by
          rcases Nat.lt_or_ge j k with h1 | h1
          · exact HK.out j hj h1
          · obtain rfl : j = k := by omega
            exact hb
        rw [hb] at hc
        clear hb HK
        go_wp2_with (go_at_call 48; (with_reducible refine hc.out.mono ?_); rintro e w' ⟨rfl, rfl⟩)
        go_round
        case rel => exact ⟨k + 1, by omega, HK', by go_num⟩
        case measure => simp [intOf]; omega
    · obtain rfl : k = xs.length := by omega
      have hs : Hid (blkB xs = true) := blkB_true.2 fun j hj => HK.out j hj hj
      clear HK
      go_wp2_with fail
      go_ret
      exact ⟨⟨_, rfl, by rw [hs.out]; decide⟩, rfl⟩
theorem ccontains_any (A : Option Addr) (c : Nat) (xs : List (Nat × Nat)) (w : World) (h : Cx w w.heap.size A xs) (hl : xs.length ≤ 1000000) :
    Calls Try.prog 47 #[.slice A xs.length c, .func (.func 48) #[] #[]] w fun e w' => e = .returned (.bool (!blkB xs)) ∧ w = w' := by
  have hc := Lib.hid (cindex_any A c xs w h hl)
  clear h
  go_enter Try.func47, Try.ntmps47
  go_wp2_with (go_at_call 72; (with_reducible refine hc.out.mono ?_); rintro e w' ⟨⟨j, rfl, hj⟩, rfl⟩)
  go_ret
  exact ⟨rfl, rfl⟩
/-- Blank -/
theorem blank_any (A : Option Addr) (c : Nat) (xs : List (Nat × Nat)) (w : World) (h : Cx w w.heap.size A xs) (hl : xs.length ≤ 1000000) :
    Calls Try.prog 23 #[.slice A xs.length c] w fun e w' => e = .returned (.bool (blkB xs)) ∧ w = w' := by
  have hc := Lib.hid (ccontains_any A c xs w h hl)
  clear h
  generalize blkB xs = T at hc ⊢
  go_enter Try.func23, Try.ntmps23
  go_wp2_with (go_at_call 47; (with_reducible refine hc.out.mono ?_); rintro e w' ⟨rfl, rfl⟩)
  go_ret
  exact ⟨by cases T <;> rfl, rfl⟩
/-- s is the symbol that a point is nearest to -/
def SlcIs (x : Nat × Nat) (s : Nat) : Prop := ∀ w : World, Calls Try.prog 50 #[.complex .f64 x.1 x.2] w fun e w' => e = .returned (.int .u16 (s : Int)) ∧ w = w'
set_option maxHeartbeats 2000000 in
theorem sliced_any (A : Option Addr) (c : Nat) (xs : List (Nat × Nat)) (ss : List Nat) (w : World) (h : Cx w w.heap.size A xs) (hl : xs.length ≤ 1000000) (hn : ss.length = xs.length) (hs : ∀ i, i < xs.length → SlcIs (xA xs i) (at_ ss i)) (hb : ∀ y ∈ ss, y < 65536) :
    Calls Try.prog 66 #[.slice A xs.length c] w (RowP w ss) := by
  have H := Lib.hid h
  have HS := Lib.hid hs
  have HN := Lib.hid hn
  have HB := Lib.hid hb
  clear h hs hn hb
  obtain ⟨n, hxn⟩ : ∃ n, xs.length = n := ⟨_, rfl⟩
  have hmk := run_make_row' (P := Try.prog) 35 29 (.int .u16 0) 2 Try.underlying35 info22 rfl .i64 .i64 n (by omega) (by omega)
  have HX := Lib.hid hxn
  rw [hxn] at hl ⊢
  clear hxn
  go_enter Try.func66, Try.ntmps66
  go_wp2_with fail
  go_loopw [11] (fun q wr => ∃ i : Nat, i ≤ n ∧ q = .int .i64 i ∧ Own w wr w.heap.size n (fun j => if j < i then at_ ss j else 0)) (fun q _ => n - (intOf q).toNat)
  case atStart => exact ⟨0, Nat.zero_le _, rfl, (own_start w n).congr (fun j _ => by rw [if_neg (by omega)])⟩
  case round =>
    obtain ⟨i, hi, rfl, HO⟩ := hrel
    clear hmk
    by_cases hlt : i < n
    · have hiI : (i : Int) < (n : Int) := by omega
      obtain ⟨a, rfl, hab, hcell⟩ := (H.out.below HO.2.1).at_ (i := i) (by rw [HX.out]; exact hlt)
      have hc := HS.out i (by rw [HX.out]; exact hlt)
      obtain ⟨F, hF⟩ : ∃ F, Hid (at_ ss i = F) := ⟨_, Lib.hid rfl⟩
      unfold SlcIs at hc
      generalize xA xs i = p at *
      obtain ⟨px, py⟩ := p
      dsimp only at hc hcell
      have hFb : F < 65536 := by rw [← hF.out]; exact at_lt HB.out (by decide)
      rw [hF.out] at hc
      replace hc := Lib.hid hc
      obtain ⟨V, hc1⟩ : ∃ V, wr.cell? ⟨w.heap.size, i, none⟩ = some V := ⟨_, HO.cell hlt⟩
      have hf1 := HO.2.2.frozen i
      have HO' := Lib.hid ((HO.set_ i F).congr (f' := fun j => if j < i + 1 then at_ ss j else 0) (by
        intro j hj
        show (if j = i then F else if j < i then at_ ss j else 0) = if j < i + 1 then at_ ss j else 0
        by_cases e : j = i
        · subst e; rw [if_pos rfl, if_pos (by omega), hF.out]
        · rw [if_neg e]
          by_cases h : j < i
          · rw [if_pos h, if_pos (by omega)]
          · rw [if_neg h, if_neg (by omega)]))
      clear HO hF
      go_wp2_with (go_at_call 50; (with_reducible refine (hc.out _).mono ?_); rintro e w1 ⟨rfl, rfl⟩)
      go_roundw
      case rel => exact ⟨i + 1, by omega, by go_num, HO'.out⟩
      case measure => simp [intOf]; omega
    · obtain rfl : i = n := by omega
      have hd : decide (i < i) = false := decide_eq_false (Nat.lt_irrefl _)
      have HR := (HO.congr (f' := at_ ss) (fun j hj => by rw [if_pos hj])).owns (fun j _ => at_lt HB.out (by decide)) (by omega)
      have e : rm i (at_ ss) = ss := by
        have := rm_at ss
        rwa [HN.out, HX.out] at this
      rw [e] at HR
      have hB := Lib.hid HO.2.1
      replace HR := Lib.hid HR
      clear HO
      go_wp2_with fail
      go_ret
      exact ⟨_, rfl, HR.out, hB.out⟩
end Go.Proofs.Ytmchelbmeajcnaa
namespace Go.Proofs.Ytmchelbmeajcnaa
open Go.RowKit Go.Gf Go.Fl
set_option linter.unusedVariables false
set_option linter.unusedSimpArgs false
set_option maxRecDepth 20000
attribute [local go_sem ↓] Cl.quiet_since

theorem run_store_cpx {P : Program} {w : World} {a : Addr} {m : Mode} (k : FloatKind) (x y : Nat) : (store a (.complex k x y) m).run P w = stored P w a (.complex k x y) m := run_store P w a _ m rfl
/-- a row of points of one's own (or nil), made since w0 -/
def OwnC (w0 w : World) (v : Value) (l : List (Nat × Nat)) : Prop := w.ownsRow w0.heap.size 49 1 v l.length (l.map cpx)
section
variable {w0 w w' : World} {v : Value} {l : List (Nat × Nat)}
theorem OwnC.nil (w0 w : World) : OwnC w0 w (.slice none 0 0) [] := ⟨rfl, Or.inl ⟨rfl, rfl⟩⟩
theorem OwnC.blk (h : OwnC w0 w v l) : ∀ k, v.ownBlock = some k → w0.heap.size ≤ k := by
  intro k hk
  obtain ⟨_, h⟩ := h
  rcases h with ⟨rfl, _⟩ | ⟨g, cap, cur, rfl, hg, _⟩
  · cases hk
  · simp [Value.ownBlock] at hk; omega
theorem OwnC.alloc (h : OwnC w0 w v l) (o : Obj) : OwnC w0 (w.alloc o) v l := World.ownsRow.alloc h o
theorem OwnC.below (h : OwnC w0 w v l) (hb : Below w.heap.size w w') : OwnC w0 w' v l := by
  obtain ⟨hl, h⟩ := h
  refine ⟨hl, ?_⟩
  rcases h with h | ⟨g, cap, cur, rfl, hg, hh, hr⟩
  · exact Or.inl h
  · refine Or.inr ⟨g, cap, cur, rfl, hg, ?_, hr⟩
    have hlt : g < w.heap.size := by
      rcases Nat.lt_or_ge g w.heap.size with hlt | hge
      · exact hlt
      · rw [Array.getElem?_eq_none hge] at hh; cases hh
    exact (hb.block g hlt).trans hh
theorem OwnC.cx (h : OwnC w0 w v l) : ∃ A c, v = .slice A l.length c ∧ l.length ≤ c ∧ Cx w w.heap.size A l := by
  obtain ⟨hl, h2⟩ := h
  rcases h2 with ⟨rfl, h0⟩ | ⟨g, cap, cur, rfl, hg, hh, hn, hcap, hcs, htk⟩
  · obtain rfl : l = [] := List.eq_nil_of_length_eq_zero h0
    exact ⟨none, 0, rfl, Nat.le_refl _, Or.inl rfl⟩
  · have hlt : g < w.heap.size := by
      rcases Nat.lt_or_ge g w.heap.size with hlt | hge
      · exact hlt
      · rw [Array.getElem?_eq_none hge] at hh; cases hh
    refine ⟨_, cap, rfl, hn, Or.inr ⟨_, rfl, hlt, fun j hj => ?_⟩⟩
    have e : (⟨g, 0, none⟩ : Addr).add j = ⟨g, j, none⟩ := by unfold Addr.add; split <;> simp_all
    have e2 : (cur.toList.take (l.length * 1))[j]? = (l.map cpx)[j]? := by rw [htk]
    rw [List.getElem?_take, if_pos (by omega), Array.getElem?_toList, List.getElem?_map, List.getElem?_eq_getElem hj] at e2
    rw [e, cell_of_row w g j _ 49 (0, 0) hh, e2]
    rfl
/-- .. in memory of its own -/
theorem OwnC.own (h : OwnC w0 w v l) (h0 : l ≠ []) : ∃ g c, v = .slice (some ⟨g, 0, none⟩) l.length c ∧ w0.heap.size ≤ g ∧ g < w.heap.size := by
  obtain ⟨hl, h2⟩ := h
  rcases h2 with ⟨rfl, h3⟩ | ⟨g, cap, cur, rfl, hg, hh, hn, hcap, hcs, htk⟩
  · exact absurd (List.eq_nil_of_length_eq_zero h3) h0
  · refine ⟨g, cap, rfl, hg, ?_⟩
    rcases Nat.lt_or_ge g w.heap.size with hlt | hge
    · exact hlt
    · rw [Array.getElem?_eq_none hge] at hh; cases hh
end
theorem infoCx : (Try.prog.info? 49).map (fun i => (i.zero, i.size, i.bytes)) = some (some (.complex .f64 0 0), 1, 16) := by kernel_rfl
/-- append of one point, which lies in a block of its own -/
theorem app_cpx {w0 w : World} {ops : Array Oper} {rest : List Oper} {o : Oper} {a : Act} {Q : Exit → Act → World → Prop} (hgd : o.guard = none) (s x : Operand)
    (ho : o.op = .call { callee := .builtin .append, args := #[s, x], argTypes := #[44, 44] }) (v : Value) (l : List (Nat × Nat)) (hs : a.eval s = v) (hown : OwnC w0 w v l) (hb : w0.heap.size ≤ w.heap.size)
    (g : Nat) (hx : a.eval x = .slice (some ⟨g, 0, none⟩) 1 1) (p q : Nat) (hy : w.cell? ⟨g, 0, none⟩ = some (.complex .f64 p q)) (h63 : l.length ≤ 1000000)
    (h : ∀ v' w', OwnC w0 w' v' (l ++ [(p, q)]) → w.grownBy w' v.ownBlock → wpList Try.prog ops Q rest (a.put o.dst v') w') :
    wpList Try.prog ops Q (o :: rest) a w := by
  have hi0 := infoCx
  obtain ⟨i, hi, hrest⟩ := Option.map_eq_some_iff.1 hi0
  simp only [Prod.mk.injEq] at hrest
  obtain ⟨i1, i2, i3⟩ := hrest
  refine wpList_append_own_at w hgd s x 44 ho w0.heap.size 49 i (.complex .f64 0 0) 1 16 Try.underlying44 hi i1 i2 i3 rfl (by decide) v l.length (l.map cpx) hs hown ⟨g, 0, none⟩ 1 1 [cpx (p, q)] hx rfl (fun j u hu => ?_) (fun u hu => ?_) (by unfold maxLen; omega) (by omega) hb (fun v' w' h1 h2 _ _ => ?_)
  · match j, hu with
    | 0, hu =>
      simp at hu
      rw [← hu, add_zero']
      exact hy
    | j + 1, hu => simp at hu
  · simp at hu
    rw [hu]; rfl
  · refine h v' w' ?_ h2
    unfold OwnC
    rw [List.length_append, List.map_append]
    exact h1
/-- make([]complex128, 0, n) -/
theorem make_cx0 (n : Nat) (hn : n ≤ 1000000) (w : World) : (Instr.makeSlice 44 (.int .i64 0) (.int .i64 (n : Int))).run Try.prog w = .ok (.slice (some ⟨w.heap.size, 0, none⟩) 0 n) (w.alloc (.cells (madeCells #[.complex .f64 0 0] n) 49)) := by
  have hi0 := infoCx
  obtain ⟨i, hi, hrest⟩ := Option.map_eq_some_iff.1 hi0
  simp only [Prod.mk.injEq] at hrest
  obtain ⟨i1, i2, i3⟩ := hrest
  have := run_make (P := Try.prog) w 44 49 i (.complex .f64 0 0) Try.underlying44 hi i1 .i64 .i64 0 (n : Int) (Int.le_refl _) (by omega) (by rw [i3]; omega) (by omega)
  rw [i2] at this
  rw [show (Value.complex FloatKind.f64 0 0).cells = #[Value.complex FloatKind.f64 0 0] from rfl] at this
  simpa using this
theorem OwnC.empty (n : Nat) (hn : n ≤ 1000000) (w : World) : OwnC w (w.alloc (.cells (madeCells #[.complex .f64 0 0] n) 49)) (.slice (some ⟨w.heap.size, 0, none⟩) 0 n) [] :=
  World.ownsRow_made w _ n (Nat.le_refl _) (by unfold maxLen; omega) (by rw [size_madeCells, Nat.mul_one])
/-- the points of codeword j: n of them, of W codewords -/
def colX (xs : List (Nat × Nat)) (W j n : Nat) : List (Nat × Nat) := (List.range n).map fun q => xA xs (q * W + j)
theorem colX_len (xs : List (Nat × Nat)) (W j n : Nat) : (colX xs W j n).length = n := by unfold colX; simp
theorem colX_succ (xs : List (Nat × Nat)) (W j n : Nat) : colX xs W j (n + 1) = colX xs W j n ++ [xA xs (n * W + j)] := by
  unfold colX
  rw [List.range_succ, List.map_append]
  rfl
theorem colX_at {xs : List (Nat × Nat)} {W j n q : Nat} (h : q < n) : xA (colX xs W j n) q = xA xs (q * W + j) := by
  rw [xA_get (by rw [colX_len]; exact h)]
  unfold colX
  simp
attribute [local go_sem] run_store_cpx
set_option maxHeartbeats 4000000 in
theorem points_any {B P : Int} {W K : Nat} {A : Option Addr} {c : Nat} {xs : List (Nat × Nat)} {j : Nat} {w : World} (hW : 1 ≤ W ∧ W ≤ 4) (hK : 1 ≤ K ∧ K ≤ 64) (hj : j < W) (hs : Cx w w.heap.size A xs) (hl : xs.length = W * (K + 16)) :
    Calls Try.prog 68 #[.agg #[.int .i64 B, .int .i64 P, .int .i64 (W : Int), .int .i64 (K : Int)], .slice A xs.length c, .int .i64 (j : Int)] w
      fun e w' => ∃ A' c', e = .returned (.slice A' (K + 16) c') ∧ Cx w' w'.heap.size A' (colX xs W j (K + 16)) ∧ Below w.heap.size w w' := by
  have H := Lib.hid hs
  obtain ⟨wb, hwb⟩ : ∃ wb, wb = w.alloc (.cells #[.int .i64 B, .int .i64 P, .int .i64 (W : Int), .int .i64 (K : Int)] 23) := ⟨_, rfl⟩
  have hbb : Below w.heap.size w wb := by rw [hwb]; exact Ge.below_alloc w _
  have hz : wb.heap.size = w.heap.size + 1 := by rw [hwb, World.size_alloc]
  have hX : Ge.Box wb w.heap.size B P W K := by
    have := Ge.Box.new w B P W K
    rwa [← hwb] at this
  have hmk := make_cx0 (K + 16) (by omega)
  have hK16 : (K : Int) + 16 = ((K + 16 : Nat) : Int) := by push_cast; rfl
  obtain ⟨n, hn⟩ : ∃ n, K + 16 = n := ⟨_, rfl⟩
  rw [hn] at hl hmk hK16 ⊢
  have hE := OwnC.empty n (by omega) wb
  have hB0 := Ge.below_alloc wb (.cells (madeCells #[.complex .f64 0 0] n) 49)
  obtain ⟨L, hL⟩ : ∃ L, xs.length = L := ⟨_, rfl⟩
  have hn80 : n ≤ 80 := by omega
  have hLN : L = W * n := by rw [← hL, hl]
  have hL4 : L ≤ 320 := by rw [hLN]; exact Nat.mul_le_mul hW.2 hn80
  have HL := Lib.hid hL
  replace hLN := Lib.hid hLN
  rw [hL]
  clear hl hL hs
  obtain ⟨x1, x2, x3, x4, x5⟩ := id hX
  rw [hwb] at x2 x3 x4 x5
  go_enter Try.func68, Try.ntmps68
  go_wp2_with fail
  rw [← hwb, ← hz]
  clear hwb x1 x2 x3 x4 x5
  replace hz := Lib.hid hz
  go_loopw [2, 7] (fun p v wr => ∃ q : Nat, q ≤ n ∧ p = .int .i64 ((q * W + j : Nat) : Int) ∧ OwnC wb wr v (colX xs W j q) ∧ Below wb.heap.size wb wr) (fun p _ _ => (W * n + W) - (intOf p).toNat)
  case atStart => exact ⟨0, Nat.zero_le _, by simp, hE, hB0⟩
  case round =>
    clear hE hB0 hmk
    obtain ⟨q, hq, rfl, hO, hB⟩ := hrel
    have hXr := hX.keep hB
    obtain ⟨y1, y2, y3, y4, y5⟩ := id hXr
    by_cases hlt : q < n
    · have hin := place_lt hj hlt
      obtain ⟨i, hi⟩ : ∃ i, q * W + j = i := ⟨_, rfl⟩
      have hnx : (q + 1) * W + j = i + W := by rw [Nat.add_mul]; omega
      rw [hi] at hin ⊢
      have hiL : i < L := by rw [hLN.out]; exact hin
      have hiI : (i : Int) < (L : Int) := by omega
      have hd : decide (i < L) = true := decide_eq_true hiL
      have hst := colX_succ xs W j q
      rw [hi] at hst
      obtain ⟨a, rfl, hab, hcell⟩ := (H.out.below (hbb.trans (hB.mono hbb.size))).at_ (i := i) (by rw [HL.out]; exact hiL)
      obtain ⟨⟨px, py⟩, hp⟩ : ∃ p, xA xs i = p := ⟨_, rfl⟩
      rw [hp] at hcell hst
      dsimp only at hcell
      have hO3 := Lib.hid (hO.alloc (.cells #[.complex .f64 px py] 49))
      have hA3 := Ge.below_alloc wr (.cells #[.complex .f64 px py] 49)
      have hB3 := Lib.hid (hB.trans (hA3.mono hB.size))
      have hyc := Lib.hid (show (wr.alloc (.cells #[.complex .f64 px py] 49)).cell? ⟨wr.heap.size, 0, none⟩ = some (.complex .f64 px py) from Ge.cell_of (heap_alloc_new wr _) 0)
      have hlen := Lib.hid (show (colX xs W j q).length ≤ 1000000 from by rw [colX_len]; omega)
      clear hO hA3 hB hp hi
      go_wp2_with (refine app_cpx (w0 := wb) rfl (.tmp 20) (.tmp 25) rfl _ _ rfl hO3.out hB3.out.size wr.heap.size rfl px py hyc.out hlen.out ?_)
      intro v' w' ho hg'
      rw [← hst] at ho
      have hO4 := Lib.hid ho
      have hB4 := hB3.out.grown hg' hB3.out.size (OwnC.blk hO3.out)
      obtain ⟨z1, z2, z3, z4, z5⟩ := hX.keep hB4
      replace hB4 := Lib.hid hB4
      clear ho hg' hO3 hB3 hyc hXr y1 y2 y3 y4 y5
      go_wp2_with fail
      go_roundw
      case rel => exact ⟨q + 1, by omega, by rw [hnx]; go_num, hO4.out, hB4.out⟩
      case measure => simp [intOf]; omega
    · obtain rfl : q = n := by omega
      have hge : L ≤ q * W + j := by rw [hLN.out, Nat.mul_comm]; omega
      obtain ⟨i, hi⟩ : ∃ i, q * W + j = i := ⟨_, rfl⟩
      rw [hi] at hge ⊢
      have hd : decide (i < L) = false := decide_eq_false (by omega)
      obtain ⟨A', c', rfl, hc', hx'⟩ := hO.cx
      rw [colX_len]
      replace hx' := Lib.hid hx'
      have hB5 := Lib.hid (hbb.trans (hB.mono hbb.size))
      clear hO hB hXr
      go_wp2_with fail
      go_ret
      exact ⟨A', c', rfl, hx'.out, hB5.out⟩
/-- how many of the first n points are nought where the symbols are alike -/
def uncN (z : Nat → Bool) (r y : List Nat) : Nat → Nat := bc fun q => z q && decide (at_ r q = at_ y q)
set_option maxHeartbeats 4000000 in
theorem uncharged_any {A B C : Option Addr} {ca cb cc n : Nat} {r y : List Nat} {xs : List (Nat × Nat)} {w : World} (ha : Sl w w.heap.size A r) (hb : Sl w w.heap.size B y) (hc : Cx w w.heap.size C xs) (hr : r.length = n) (hy : y.length = n) (hx : xs.length = n) (h6 : n ≤ 1000000) :
    Calls Try.prog 91 #[.slice A n ca, .slice B n cb, .slice C n cc] w fun e w' => e = .returned (.int .i64 ((uncN (fun q => zP (xA xs q)) r y n : Nat) : Int)) ∧ Below w.heap.size w w' := by
  have HA := Lib.hid ha
  have HB := Lib.hid hb
  have HC := Lib.hid hc
  replace hr := Lib.hid hr
  replace hy := Lib.hid hy
  replace hx := Lib.hid hx
  clear ha hb hc
  go_enter Try.func91, Try.ntmps91
  go_wp2_with fail
  go_loopw [7, 12] (fun m p wr => ∃ q : Nat, q ≤ n ∧ p = .int .i64 q ∧ m = .int .i64 ((uncN (fun q => zP (xA xs q)) r y q : Nat) : Int) ∧ Below w.heap.size w wr) (fun _ p _ => n - (intOf p).toNat)
  case atStart => exact ⟨0, Nat.zero_le _, rfl, rfl, Below.refl _ _⟩
  case round =>
    obtain ⟨q, hq, rfl, rfl, hB⟩ := hrel
    have hle : uncN (fun q => zP (xA xs q)) r y q ≤ q := bc_le _ _
    by_cases hlt : q < n
    · have hqI : (q : Int) < (n : Int) := by omega
      have hd : decide (q < n) = true := decide_eq_true hlt
      obtain ⟨a, rfl, hab, hca⟩ := (HA.out.below hB).at_ (i := q) (by rw [hr.out]; exact hlt)
      obtain ⟨b, rfl, hbb, hcb⟩ := (HB.out.below hB).at_ (i := q) (by rw [hy.out]; exact hlt)
      obtain ⟨x, rfl, hxb, hcx⟩ := (HC.out.below hB).at_ (i := q) (by rw [hx.out]; exact hlt)
      rw [← at_get (by rw [hr.out]; exact hlt)] at hca
      rw [← at_get (by rw [hy.out]; exact hlt)] at hcb
      have hstep : Hid (uncN (fun q => zP (xA xs q)) r y (q + 1) = uncN (fun q => zP (xA xs q)) r y q + if (zP (xA xs q) && decide (at_ r q = at_ y q)) = true then 1 else 0) := Lib.hid rfl
      obtain ⟨⟨px, py⟩, hp⟩ : ∃ p, xA xs q = p := ⟨_, rfl⟩
      rw [hp] at hcx hstep
      dsimp only at hcx
      have hz : zP (px, py) = ((FloatKind.f64.format.order px 0 == some .eq) && (FloatKind.f64.format.order py 0 == some .eq)) := rfl
      obtain ⟨b1, h1⟩ : ∃ b, (FloatKind.f64.format.order px 0 == some .eq) = b := ⟨_, rfl⟩
      obtain ⟨b2, h2⟩ : ∃ b, (FloatKind.f64.format.order py 0 == some .eq) = b := ⟨_, rfl⟩
      rw [h1, h2] at hz
      rw [hz] at hstep
      obtain ⟨s, hs⟩ : ∃ s, at_ r q = s := ⟨_, rfl⟩
      obtain ⟨t, ht⟩ : ∃ t, at_ y q = t := ⟨_, rfl⟩
      rw [hs, ht] at hstep
      rw [hs] at hca
      rw [ht] at hcb
      have hst : ((s : Int) == (t : Int)) = decide (s = t) := by rw [Bool.eq_iff_iff, beq_iff_eq, decide_eq_true_eq]; omega
      obtain ⟨b3, h3⟩ : ∃ b, decide (s = t) = b := ⟨_, rfl⟩
      rw [h3] at hst hstep
      obtain ⟨u, hu⟩ : ∃ u, Hid (uncN (fun q => zP (xA xs q)) r y q = u) := ⟨_, Lib.hid rfl⟩
      rw [hu.out] at hle hstep ⊢
      clear hu hz hs ht hp h3
      have hBd : ∀ k, Below w.heap.size w (wr.drewN k) := fun k => below_drewN hB k
      replace hBd := Lib.hid hBd
      clear hB
      cases b1 <;> cases b2 <;> cases b3
      all_goals
        go_wp2_with fail
        go_quiet (fail)
        go_wp2_with fail
        go_roundw
        case rel => exact ⟨q + 1, by omega, by go_num, by rw [hstep.out]; go_num, by first | exact hBd.out _ | exact hBd.out 0⟩
        case measure => simp [intOf]; omega
    · obtain rfl : q = n := by omega
      have hd : decide (q < q) = false := decide_eq_false (Nat.lt_irrefl _)
      replace hB := Lib.hid hB
      go_wp2_with fail
      go_ret
      exact ⟨rfl, hB.out⟩
end Go.Proofs.Ytmchelbmeajcnaa
