/- The program's frame: what symbols say; Read. · The program's frame: what symbols say. · The program's frame: one codeword, mended. · A block that begins with so many values, of any type, and may be written. · The program's frame: the codewords of a page, each mended by itself. · The program's frame: what the codewords of a page say together. · The program's frame: Read. -/
import Derived.Test.YtmchelbmeajcnaaMi
import Derived.Test.YtmchelbmeajcnaaWy
import Derived.Test.YtmchelbmeajcnaaKu
import Derived.Deep.CutRange
import Derived.Test.YtmchelbmeajcnaaMd
import Derived.Test.YtmchelbmeajcnaaMg
namespace Go.Proofs.Ytmchelbmeajcnaa
open Go.RowKit Go.Gf Go.Fl
set_option linter.unusedVariables false
set_option linter.unusedSimpArgs false
set_option maxRecDepth 20000
attribute [local go_sem ↓] exec_load_tb Cl.quiet_since
attribute [local go_sem] tbAt_ptr tbIn_ptr

theorem isAggM (w : World) : (isAgg 25).run Try.prog w = .ok true w := by kernel_rfl
theorem sizeOfM (w : World) : (sizeOf 25).run Try.prog w = .ok 3 w := by kernel_rfl
theorem load_mark {w : World} {g : Nat} {k l q : Int} (h : Hed w g k l q) : (loadVar 25 ⟨g, 0, none⟩).run Try.prog w = .ok (.agg #[.int .i64 k, .int .i64 l, .int .i64 q]) w := by
  have h0 := h.c0
  have h1 := h.c1
  have h2 := h.c2
  have ha := isAggM w
  have hs := sizeOfM w
  unfold loadVar
  simp only [Sem.run_bind, ha, hs, Result.andThen_ok, if_true]
  simp [go_sem, h0, h1, h2]
theorem results_m3 {fn : Func} {t u v g : Nat} {w : World} {k l q : Int} {tmps : Array Value} (h : fn.results = #[.cell t 25, .tmp u, .tmp v]) (hp : tmps.getD t undef = .pointer (some ⟨g, 0, none⟩)) (hm : Hed w g k l q) :
    (results fn tmps).run Try.prog w = .ok (.tuple #[.agg #[.int .i64 k, .int .i64 l, .int .i64 q], tmps.getD u undef, tmps.getD v undef]) w := by
  have := load_mark hm
  have hp' : tmps[t]?.getD undef = .pointer (some ⟨g, 0, none⟩) := by simpa using hp
  simp [results, h, hp', asAddr, this]
theorem results_m4 {fn : Func} {t u v x g : Nat} {w : World} {k l q : Int} {tmps : Array Value} (h : fn.results = #[.cell t 25, .tmp u, .tmp v, .tmp x]) (hp : tmps.getD t undef = .pointer (some ⟨g, 0, none⟩)) (hm : Hed w g k l q) :
    (results fn tmps).run Try.prog w = .ok (.tuple #[.agg #[.int .i64 k, .int .i64 l, .int .i64 q], tmps.getD u undef, tmps.getD v undef, tmps.getD x undef]) w := by
  have := load_mark hm
  have hp' : tmps[t]?.getD undef = .pointer (some ⟨g, 0, none⟩) := by simpa using hp
  simp [results, h, hp', asAddr, this]
/-- the data of symbols, and what head they have, if a page may say them -/
def sayK (s : List Nat) : Nat := at_ s 0
def sayN (s : List Nat) : Nat := at_ s 1 * 1024 + at_ s 2
def sayQ (s : List Nat) : Nat := at_ s 3 * 1073741824 + at_ s 4 * 1048576 + at_ s 5 * 1024 + at_ s 6
def sayD (N : Nat) (s : List Nat) : List Nat := upk (s.drop 8) (10 * (N - 8) / 8)
/-- is it what a page says? -/
def sayB (N : Nat) (s : List Nat) : Bool := decide (1 ≤ sayK s) && decide (sayL N (sayK s) (sayN s) (sayQ s) (sayD N s) = s)
theorem say_of {N : Nat} {s : List Nat} (hs : ∀ x ∈ s, x < 1024) : sayK s < 1024 ∧ sayN s < 1048576 ∧ sayQ s < 1099511627776 := by
  have a := at_lt' hs
  have a0 := a 0
  have a1 := a 1
  have a2 := a 2
  have a3 := a 3
  have a4 := a 4
  have a5 := a 5
  have a6 := a 6
  unfold sayK sayN sayQ
  omega
theorem sayB_true {N : Nat} {s : List Nat} (hs : ∀ x ∈ s, x < 1024) (h : sayB N s = true) : sayV N (sayK s) (sayN s) (sayQ s) (sayD N s) ∧ sayL N (sayK s) (sayN s) (sayQ s) (sayD N s) = s := by
  unfold sayB at h
  rw [Bool.and_eq_true, decide_eq_true_eq, decide_eq_true_eq] at h
  obtain ⟨h1, h2, h3⟩ := say_of (N := N) hs
  exact ⟨⟨h.1, h1, h2, h3, upk_len _ _, upk_bd _ _⟩, h.2⟩
theorem sayB_say {N k l q : Nat} {d : List Nat} (h : sayV N k l q d) : sayB N (sayL N k l q d) = true ∧ sayK (sayL N k l q d) = k ∧ sayN (sayL N k l q d) = l ∧ sayQ (sayL N k l q d) = q ∧ sayD N (sayL N k l q d) = d := by
  obtain ⟨e1, e2, e3, e4⟩ := say_back h rfl
  refine ⟨?_, e1.symm, e2.symm, e3.symm, e4.symm⟩
  unfold sayB
  rw [Bool.and_eq_true, decide_eq_true_eq, decide_eq_true_eq]
  unfold sayK sayN sayQ sayD
  rw [← e1, ← e2, ← e3, ← e4]
  exact ⟨h.1, rfl⟩
theorem numL_one (s : List Nat) : numL s 1 = at_ s 0 := by show 0 * 1024 + at_ s 0 = _; omega
theorem numL_two (s : List Nat) : numL s 2 = at_ s 0 * 1024 + at_ s 1 := by show (0 * 1024 + at_ s 0) * 1024 + at_ s 1 = _; omega
theorem numL_four (s : List Nat) : numL s 4 = at_ s 0 * 1073741824 + at_ s 1 * 1048576 + at_ s 2 * 1024 + at_ s 3 := by
  show (((0 * 1024 + at_ s 0) * 1024 + at_ s 1) * 1024 + at_ s 2) * 1024 + at_ s 3 = _
  omega
theorem Sl.part {w : World} {B : Nat} {a : Addr} {xs : List Nat} (h : Sl w B (some a) xs) (i n : Nat) (hi : i + n ≤ xs.length) : Sl w B (some (a.add i)) ((xs.drop i).take n) := by
  refine ⟨fun x hx => h.1 x (List.mem_of_mem_drop (List.mem_of_mem_take hx)), ?_⟩
  rcases h.2 with e | ⟨b, e, hb, hc⟩
  · left; rw [e]; simp
  · injection e with e
    subst e
    refine Or.inr ⟨_, rfl, by rw [add_block]; exact hb, fun j hj => ?_⟩
    have hj' : j < n := by simp at hj; omega
    have := hc (i + j) (by omega)
    rw [List.getElem_take, List.getElem_drop]
    rw [show (a.add i).add j = a.add (i + j) by unfold Addr.add; split <;> split <;> split <;> simp_all <;> omega]
    exact this
set_option maxHeartbeats 4000000 in
theorem equal_any {A B : Option Addr} {ca cb : Nat} {xs ys : List Nat} {w : World} (ha : Sl w w.heap.size A xs) (hb : Sl w w.heap.size B ys) (hx : xs.length ≤ 1000000) (hy : ys.length ≤ 1000000) :
    Calls Try.prog 71 #[.slice A xs.length ca, .slice B ys.length cb] w fun e w' => e = .returned (.bool (decide (xs = ys))) ∧ Below w.heap.size w w' := by
  have HA := Lib.hid ha
  have HB := Lib.hid hb
  clear ha hb
  by_cases hl : xs.length = ys.length
  · have hq : Hid (∀ k, k < xs.length → at_ xs k ≠ at_ ys k → decide (xs = ys) = false) := fun k hk h => decide_eq_false fun e => h (by rw [e])
    have hq2 : Hid ((∀ k, k < xs.length → at_ xs k = at_ ys k) → decide (xs = ys) = true) := fun h => decide_eq_true (ext_at hl h)
    generalize decide (xs = ys) = D at *
    obtain ⟨n, hn⟩ : ∃ n, ys.length = n := ⟨_, rfl⟩
    rw [hn] at hl hy ⊢
    have hX := Lib.hid hl
    have hY := Lib.hid hn
    rw [hl] at hq hq2 ⊢
    clear hl hn hx
    have hne : ((n : Int) != (n : Int)) = false := by simp
    go_enter Try.func71, Try.ntmps71
    go_wp2_with fail
    go_loopw [13] (fun p wr => ∃ q : Nat, q ≤ n ∧ p = .int .i64 q ∧ Hid (∀ k, k < q → at_ xs k = at_ ys k) ∧ Below w.heap.size w wr) (fun p _ => n - (intOf p).toNat)
    case atStart => exact ⟨0, Nat.zero_le _, rfl, Lib.hid (fun k h => absurd h (by omega)), Below.refl _ _⟩
    case round =>
      obtain ⟨q, hq', rfl, hK, hB⟩ := hrel
      by_cases hlt : q < n
      · have hqI : (q : Int) < (n : Int) := by omega
        have hd : decide (q < n) = true := decide_eq_true hlt
        obtain ⟨a, rfl, hab, hca⟩ := (HA.out.below hB).at_ (i := q) (by rw [hX.out]; exact hlt)
        obtain ⟨b, rfl, hbb, hcb⟩ := (HB.out.below hB).at_ (i := q) (by rw [hY.out]; exact hlt)
        rw [← at_get (by rw [hX.out]; exact hlt)] at hca
        rw [← at_get (by rw [hY.out]; exact hlt)] at hcb
        have hno := Lib.hid (hq.out q hlt)
        have hyes : Hid (at_ xs q = at_ ys q → ∀ k, k < q + 1 → at_ xs k = at_ ys k) := fun e k hk => by
          by_cases h : k = q
          · rw [h]; exact e
          · exact hK.out k (by omega)
        obtain ⟨s, hs⟩ : ∃ s, at_ xs q = s := ⟨_, rfl⟩
        obtain ⟨t, ht⟩ : ∃ t, at_ ys q = t := ⟨_, rfl⟩
        rw [hs] at hca hno hyes
        rw [ht] at hcb hno hyes
        have hst : ((s : Int) != (t : Int)) = !decide (s = t) := by
          rw [Bool.eq_iff_iff, bne_iff_ne]
          simp
          omega
        have hBd : ∀ k, Below w.heap.size w (wr.drewN k) := fun k => below_drewN hB k
        replace hBd := Lib.hid hBd
        clear hB hs ht
        by_cases e : s = t
        · subst e
          have hst : ((s : Int) != (s : Int)) = false := by simp
          have hy' := Lib.hid (hyes.out rfl)
          clear hno hyes
          go_wp2_with fail
          go_quiet (fail)
          go_wp2_with fail
          go_roundw
          case rel => exact ⟨q + 1, by omega, by go_num, hy', by first | exact hBd.out _ | exact hBd.out 0⟩
          case measure => simp [intOf]; omega
        · have hst : ((s : Int) != (t : Int)) = true := by rw [bne_iff_ne]; omega
          have hD := Lib.hid (hno.out e)
          clear hno hyes
          go_wp2_with fail
          go_quiet (fail)
          go_wp2_with fail
          go_ret
          refine ⟨by rw [hD.out]; rfl, ?_⟩
          first | exact hBd.out _ | exact hBd.out 0
      · obtain rfl : q = n := by omega
        have hd : decide (q < q) = false := decide_eq_false (Nat.lt_irrefl _)
        have hD := Lib.hid (hq2.out hK.out)
        replace hB := Lib.hid hB
        go_wp2_with fail
        go_ret
        exact ⟨by rw [hD.out]; rfl, hB.out⟩
  · have hd : decide (xs = ys) = false := decide_eq_false fun e => hl (by rw [e])
    have hne : ((xs.length : Int) != (ys.length : Int)) = true := by simp; exact_mod_cast hl
    rw [hd]
    go_enter Try.func71, Try.ntmps71
    go_wp2_with fail
    go_ret
    exact ⟨rfl, Below.refl _ _⟩
end Go.Proofs.Ytmchelbmeajcnaa
namespace Go.Proofs.Ytmchelbmeajcnaa
open Go.RowKit Go.Gf Go.Fl
set_option linter.unusedVariables false
set_option linter.unusedSimpArgs false
set_option maxRecDepth 20000
attribute [local go_sem ↓] exec_load_tb Cl.quiet_since
attribute [local go_sem] tbAt_ptr tbIn_ptr

/-- block g is a head of one's own -/
def Hdo (w : World) (g : Nat) (k l q : Int) : Prop := w.heap[g]? = some (.cells #[.int .i64 k, .int .i64 l, .int .i64 q] 25 (0, 0))
theorem Hdo.lt {w : World} {g : Nat} {k l q : Int} (h : Hdo w g k l q) : g < w.heap.size := by
  rcases Nat.lt_or_ge g w.heap.size with hlt | hge
  · exact hlt
  · unfold Hdo at h; rw [Array.getElem?_eq_none hge] at h; cases h
theorem Hdo.hed {w : World} {g : Nat} {k l q : Int} (h : Hdo w g k l q) : Hed w g k l q := ⟨h.lt, Ge.cell_of h 0, Ge.cell_of h 1, Ge.cell_of h 2⟩
theorem Hdo.frozen {w : World} {g : Nat} {k l q : Int} (h : Hdo w g k l q) (i : Nat) : w.frozen? ⟨g, i, none⟩ = false := by unfold Hdo at h; simp [World.frozen?, h]
theorem Hdo.keep {w w' : World} {g : Nat} {k l q : Int} (h : Hdo w g k l q) (hb : Below w.heap.size w w') : Hdo w' g k l q := (hb.block g h.lt).trans h
theorem Hdo.new (w : World) (k l q : Int) : Hdo (w.alloc (.cells #[.int .i64 k, .int .i64 l, .int .i64 q] 25)) w.heap.size k l q := heap_alloc_new w _
theorem Hdo.set_ {w : World} {g : Nat} {k l q : Int} (h : Hdo w g k l q) (k' l' q' : Int) : Hdo (((w.setCell ⟨g, 0, none⟩ (.int .i64 k')).setCell ⟨g, 1, none⟩ (.int .i64 l')).setCell ⟨g, 2, none⟩ (.int .i64 q')) g k' l' q' := by
  unfold Hdo at h ⊢
  simp only [World.setCell]
  rw [Array.getElem?_modify, if_pos rfl, Array.getElem?_modify, if_pos rfl, Array.getElem?_modify, if_pos rfl, h]
  rfl
theorem below_set3 {w0 w : World} {g : Nat} (h : Below w0.heap.size w0 w) (hg : w0.heap.size ≤ g) (x y z : Value) : Below w0.heap.size w0 (((w.setCell ⟨g, 0, none⟩ x).setCell ⟨g, 1, none⟩ y).setCell ⟨g, 2, none⟩ z) :=
  ((h.setCell (show w0.heap.size ≤ g from hg) x).setCell (show w0.heap.size ≤ g from hg) y).setCell (show w0.heap.size ≤ g from hg) z
/-- bytes don't lie in a head -/
theorem Hdo.ne {w : World} {g B : Nat} {k l q : Int} {A : Option Addr} {xs : List Nat} (h : Hdo w g k l q) (hs : Sb w B A xs) : xs = [] ∨ ∀ a, A = some a → a.block ≠ g := by
  rcases hs.2 with e | ⟨a', e2, hb, hc⟩
  · exact Or.inl e
  · by_cases hx : xs = []
    · exact Or.inl hx
    · refine Or.inr fun a e hg => ?_
      rw [e] at e2
      injection e2 with e2
      subst e2
      have h0 : 0 < xs.length := List.length_pos_iff.2 hx
      have := hc 0 h0
      unfold Hdo at h
      unfold World.cell? at this
      rw [add_block, hg, h] at this
      dsimp only at this
      split at this
      · cases this
      · have hm := Array.mem_of_getElem? this
        simp [ub] at hm
theorem Sb.setOther {w : World} {g i B : Nat} {A : Option Addr} {xs : List Nat} {v : Value} (h : Sb w B A xs) (hne : xs = [] ∨ ∀ a, A = some a → a.block ≠ g) : Sb (w.setCell ⟨g, i, none⟩ v) B A xs := by
  refine ⟨h.1, ?_⟩
  rcases h.2 with e | ⟨a, rfl, hb, hc⟩
  · exact Or.inl e
  · rcases hne with e | hne
    · exact Or.inl e
    · refine Or.inr ⟨a, rfl, hb, fun k hk => ?_⟩
      have hg : (w.setCell ⟨g, i, none⟩ v).heap[(a.add k).block]? = w.heap[(a.add k).block]? := by
        rw [add_block]
        simp only [World.setCell]
        rw [Array.getElem?_modify, if_neg (fun e => hne a rfl e.symm)]
      rw [World.cell?_of_block hg]
      exact hc k hk
/-- what said is to answer -/
def Sad (N : Nat) (s : List Nat) (w : World) (e : Ending) (w' : World) : Prop :=
  ((sayB N s = false ∧ e = .returned (.tuple #[.agg #[.int .i64 0, .int .i64 0, .int .i64 0], .slice none 0 0, .bool false])) ∨
   ∃ A c, sayB N s = true ∧ e = .returned (.tuple #[.agg #[.int .i64 ((sayK s : Nat) : Int), .int .i64 ((sayN s : Nat) : Int), .int .i64 ((sayQ s : Nat) : Int)], .slice A (sayD N s).length c, .bool true]) ∧ (sayD N s).length ≤ c ∧ Sb w' w'.heap.size A (sayD N s)) ∧ Below w.heap.size w w'
theorem at_part (s : List Nat) {i n j : Nat} (h : j < n) : at_ ((s.drop i).take n) j = at_ s (i + j) := by
  unfold at_
  rw [List.getD_eq_getElem?_getD, List.getD_eq_getElem?_getD, List.getElem?_take, if_pos h, List.getElem?_drop]
/-- the number that a part of the symbols says -/
theorem num_part {a : Addr} {s : List Nat} {w : World} {c : Nat} (hs : Sl w w.heap.size (some a) s) (hb : ∀ y ∈ s, y < 1024) (i n m : Nat) (hi : i + n ≤ s.length) (hn : n ≤ 4) (hm : numL ((s.drop i).take n) n = m) :
    Calls Try.prog 69 #[.slice (some (a.add i)) n c] w fun e w' => e = .returned (.int .i64 (m : Int)) ∧ w = w' := by
  have hl : ((s.drop i).take n).length = n := by rw [List.length_take, List.length_drop]; omega
  have := fnum_any (some (a.add i)) c _ w (hs.part i n hi) (by rw [hl]; exact hn) (fun x hx => hb x (List.mem_of_mem_drop (List.mem_of_mem_take hx)))
  rw [hl, hm] at this
  exact this
set_option maxHeartbeats 8000000 in
theorem said_any {B P : Int} {W K N : Nat} {A : Option Addr} {c : Nat} {s : List Nat} {w : World} (hM : Ge.mayG B P (W : Int) (K : Int) = true) (hN : W * K = N) (hs : Sl w w.heap.size A s) (hl : s.length = N) (hb : ∀ y ∈ s, y < 1024) (hc : N ≤ c) :
    Calls Try.prog 44 #[.agg #[.int .i64 B, .int .i64 P, .int .i64 (W : Int), .int .i64 (K : Int)], .slice A s.length c] w (Sad N s w) := by
  have H := Lib.hid hs
  have HB := Lib.hid hb
  have HL := Lib.hid hl
  obtain ⟨W', K', N', hWe, hKe, hN', hW1, hW4, hK1, hK64, h8, h256, hsg, _⟩ := mayG_of hM
  obtain rfl : W = W' := Int.ofNat.inj hWe
  obtain rfl : K = K' := Int.ofNat.inj hKe
  have hNN : N' = N := by omega
  subst hNN
  obtain ⟨a, rfl, hab, hcel⟩ := hs.2.resolve_left (by intro e; rw [e] at hl; simp at hl; omega)
  rw [hl]
  have hb0 := Ge.below_alloc w (.cells #[.int .i64 B, .int .i64 P, .int .i64 (W : Int), .int .i64 (K : Int)] 23)
  obtain ⟨wa, hwa⟩ : ∃ wa, wa = w.alloc (.cells #[.int .i64 B, .int .i64 P, .int .i64 (W : Int), .int .i64 (K : Int)] 23) := ⟨_, rfl⟩
  obtain ⟨wb, hwb⟩ : ∃ wb, wb = wa.alloc (.cells #[.int .i64 0, .int .i64 0, .int .i64 0] 25) := ⟨_, rfl⟩
  rw [← hwa] at hb0
  have hza : wa.heap.size = w.heap.size + 1 := by rw [hwa, World.size_alloc]
  have hbb : Below w.heap.size w wb := hb0.trans (by rw [hwb]; exact (Ge.below_alloc wa _).mono hb0.size)
  have hX : Ge.Box wb w.heap.size B P W K := by
    have := Ge.Box.new w B P W K
    rw [← hwa] at this
    exact this.keep (by rw [hwb]; exact Ge.below_alloc wa _)
  have hH : Hdo wb (w.heap.size + 1) 0 0 0 := by
    have := Hdo.new wa 0 0 0
    rwa [← hwb, hza] at this
  replace hcel := Lib.hid hcel
  clear hs hl hb
  go_enter Try.func44, Try.ntmps44
  go_wp2_with fail
  rw [← hwa, ← hwb]
  replace hX := Lib.hid hX
  replace hH := Lib.hid hH
  replace hbb := Lib.hid hbb
  clear hwa hwb hza hb0
  go_cut [7] from 10 to 19 (fun p wx => ∃ g, p = .pointer (some ⟨g, 0, none⟩) ∧ Hed wx g (sayK s : Int) (sayN s : Int) (sayQ s : Int) ∧ Below wb.heap.size wb wx)
  case first =>
    refine Cl.region_tree (fun _ => True) 11 (.r 0 <| .r 1 <| .r 3 <| .r 4 <| .r 6 <| .r 7 <| .b 2 10 (.b 5 10 (.b 8 10 (.r 9 <| .c 10 <| .z 11) (.c 8 <| .r 9 <| .z 11)) (.c 5 <| .c 8 <| .r 9 <| .z 11)) (.c 2 <| .c 5 <| .c 8 <| .r 9 <| .z 11)) (by kernel_rfl) (by kernel_rfl) ?_
    intro w1 hk1
    have hbw1 := hbb.out.trans ((Cl.Keeps.below hk1).mono hbb.out.size)
    have hB0 := Lib.hid hbw1
    have hB1 := Lib.hid (hbw1.trans ((Ge.below_alloc w1 (.cells #[.int .i64 0, .int .i64 0, .int .i64 0] 25)).mono hbw1.size))
    have hB2 := Lib.hid ((Cl.Keeps.below hk1).trans ((Ge.below_alloc w1 (.cells #[.int .i64 ((sayK s : Nat) : Int), .int .i64 ((sayN s : Nat) : Int), .int .i64 ((sayQ s : Nat) : Int)] 25)).mono (Cl.Keeps.below hk1).size))
    have hN1 := Lib.hid (Hed.new w1 (sayK s : Int) (sayN s : Int) (sayQ s : Int))
    have q1 : Hid (∀ w', Below w.heap.size w w' → Calls Try.prog 69 #[.slice (some a) 1 c] w' fun e w'' => e = .returned (.int .i64 ((sayK s : Nat) : Int)) ∧ w' = w'') := fun w' hb => num_part (H.out.far hb) HB.out 0 1 _ (by rw [HL.out]; omega) (by decide) (by rw [numL_one, at_part s (by decide)]; rfl)
    have q2 : Hid (∀ w', Below w.heap.size w w' → Calls Try.prog 69 #[.slice (some ⟨a.block, a.off + 1, none⟩) 2 (c - 1)] w' fun e w'' => e = .returned (.int .i64 ((sayN s : Nat) : Int)) ∧ w' = w'') := fun w' hb => num_part (H.out.far hb) HB.out 1 2 _ (by rw [HL.out]; omega) (by decide) (by rw [numL_two, at_part s (by decide), at_part s (by decide)]; rfl)
    have q3 : Hid (∀ w', Below w.heap.size w w' → Calls Try.prog 69 #[.slice (some ⟨a.block, a.off + 3, none⟩) 4 (c - 3)] w' fun e w'' => e = .returned (.int .i64 ((sayQ s : Nat) : Int)) ∧ w' = w'') := fun w' hb => num_part (H.out.far hb) HB.out 3 4 _ (by rw [HL.out]; omega) (by decide) (by rw [numL_four, at_part s (by decide), at_part s (by decide), at_part s (by decide), at_part s (by decide)]; rfl)
    iterate 6 (refine Cl.tree_r rfl ?_; go_big_quiet_step (fail); refine wpQuiet_nil ?_)
    clear hbw1 hk1 hX hH
    refine Cl.tree_b rfl rfl ?_ ?_
    · go_wp2_with (go_at_call 69; (with_reducible refine (q1.out _ hB0.out).mono ?_); rintro e w2 ⟨rfl, rfl⟩)
      refine Cl.way_on (Cl.Keeps.refl _ _) ?_
      refine Cl.tree_b rfl rfl ?_ ?_
      · go_wp2_with (go_at_call 69; (with_reducible refine (q2.out _ hB0.out).mono ?_); rintro e w2 ⟨rfl, rfl⟩)
        refine Cl.way_on (Cl.Keeps.refl _ _) ?_
        refine Cl.tree_b rfl rfl ?_ ?_
        · go_wp2_with (go_at_call 69; (with_reducible refine (q3.out _ hB0.out).mono ?_); rintro e w2 ⟨rfl, rfl⟩)
          refine Cl.way_on (Cl.Keeps.refl _ _) ?_
          refine Cl.tree_r rfl ?_
          go_big_quiet_step (fail)
          refine wpQuiet_nil ?_
          refine Cl.tree_c rfl ?_
          go_wp2_with fail
          refine Cl.way_on (Cl.Keeps.of_below (Ge.below_alloc _ _)) ?_
          refine Cl.tree_z rfl ?_
          go_wp2_with fail
          refine Cl.Calm.normal ?_
          go_wp2_with fail
          go_meet
          exact ⟨_, rfl, hN1.out, hB2.out⟩
        · go_wp2_with fail
          refine Cl.way_on (Cl.Keeps.of_below (Ge.below_alloc _ _)) ?_
          refine Cl.tree_c rfl ?_
          go_wp2_with (go_at_call 69; (with_reducible refine (q3.out _ hB1.out).mono ?_); rintro e w2 ⟨rfl, rfl⟩)
          refine Cl.way_on (Cl.Keeps.refl _ _) ?_
          refine Cl.tree_r rfl ?_
          go_big_quiet_step (fail)
          refine wpQuiet_nil ?_
          refine Cl.tree_z rfl ?_
          go_wp2_with fail
          refine Cl.Calm.normal ?_
          go_wp2_with fail
          go_meet
          exact ⟨_, rfl, hN1.out, hB2.out⟩
      · go_wp2_with fail
        refine Cl.way_on (Cl.Keeps.of_below (Ge.below_alloc _ _)) ?_
        refine Cl.tree_c rfl ?_
        go_wp2_with (go_at_call 69; (with_reducible refine (q2.out _ hB1.out).mono ?_); rintro e w2 ⟨rfl, rfl⟩)
        refine Cl.way_on (Cl.Keeps.refl _ _) ?_
        refine Cl.tree_c rfl ?_
        go_wp2_with (go_at_call 69; (with_reducible refine (q3.out _ hB1.out).mono ?_); rintro e w2 ⟨rfl, rfl⟩)
        refine Cl.way_on (Cl.Keeps.refl _ _) ?_
        refine Cl.tree_r rfl ?_
        go_big_quiet_step (fail)
        refine wpQuiet_nil ?_
        refine Cl.tree_z rfl ?_
        go_wp2_with fail
        refine Cl.Calm.normal ?_
        go_wp2_with fail
        go_meet
        exact ⟨_, rfl, hN1.out, hB2.out⟩
    · go_wp2_with fail
      refine Cl.way_on (Cl.Keeps.of_below (Ge.below_alloc _ _)) ?_
      refine Cl.tree_c rfl ?_
      go_wp2_with (go_at_call 69; (with_reducible refine (q1.out _ hB1.out).mono ?_); rintro e w2 ⟨rfl, rfl⟩)
      refine Cl.way_on (Cl.Keeps.refl _ _) ?_
      refine Cl.tree_c rfl ?_
      go_wp2_with (go_at_call 69; (with_reducible refine (q2.out _ hB1.out).mono ?_); rintro e w2 ⟨rfl, rfl⟩)
      refine Cl.way_on (Cl.Keeps.refl _ _) ?_
      refine Cl.tree_c rfl ?_
      go_wp2_with (go_at_call 69; (with_reducible refine (q3.out _ hB1.out).mono ?_); rintro e w2 ⟨rfl, rfl⟩)
      refine Cl.way_on (Cl.Keeps.refl _ _) ?_
      refine Cl.tree_r rfl ?_
      go_big_quiet_step (fail)
      refine wpQuiet_nil ?_
      refine Cl.tree_z rfl ?_
      go_wp2_with fail
      refine Cl.Calm.normal ?_
      go_wp2_with fail
      go_meet
      exact ⟨_, rfl, hN1.out, hB2.out⟩
  case rest =>
    obtain ⟨g, rfl, hG, hbc⟩ := hcut
    have hbw := hbb.out.trans (hbc.mono hbb.out.size)
    have hX0 := Lib.hid (hX.out.keep hbc)
    have hH0 := Lib.hid (hH.out.keep hbc)
    replace hbw := Lib.hid hbw
    replace hG := Lib.hid hG
    clear hbc hX hH hbb
    go_wp2_with fail
    refine Cl.region_way (fun _ => True) 10 [(0, .r), (1, .r), (2, .r), (3, .c), (4, .c), (5, .r), (6, .r), (7, .r), (8, .r), (9, .r)] (by kernel_rfl) (by kernel_rfl) ?_
    intro w1 hk1
    have hX1 := hX0.out.keep (Cl.Keeps.below hk1)
    have hH1 := Lib.hid (hH0.out.keep (Cl.Keeps.below hk1))
    have hG1 := Lib.hid (hG.out.keep (Cl.Keeps.below hk1))
    have hb1 := Lib.hid (hbw.out.trans ((Cl.Keeps.below hk1).mono hbw.out.size))
    have x0 : ∀ y : Cl.Since (fun _ => True) w1, y.w.cell? ⟨w.heap.size, 0, none⟩ = some (.int .i64 B) := fun y => (hX1.keep (Cl.Keeps.below y.keeps)).c0
    have x1 : ∀ y : Cl.Since (fun _ => True) w1, y.w.cell? ⟨w.heap.size, 1, none⟩ = some (.int .i64 P) := fun y => (hX1.keep (Cl.Keeps.below y.keeps)).c1
    have x2 : ∀ y : Cl.Since (fun _ => True) w1, y.w.cell? ⟨w.heap.size, 2, none⟩ = some (.int .i64 (W : Int)) := fun y => (hX1.keep (Cl.Keeps.below y.keeps)).c2
    have x3 : ∀ y : Cl.Since (fun _ => True) w1, y.w.cell? ⟨w.heap.size, 3, none⟩ = some (.int .i64 (K : Int)) := fun y => (hX1.keep (Cl.Keeps.below y.keeps)).c3
    obtain ⟨D, hD⟩ : ∃ D, 10 * (N' - 8) / 8 = D := ⟨_, rfl⟩
    have hD4 : D ≤ 400 := by omega
    have hsz := Ge.size_any B P (W : Int) (K : Int) w1
    rw [hsg, hD] at hsz
    replace hsz := Lib.hid hsz
    replace hX1 := Lib.hid hX1
    clear hk1 hX0 hH0 hG hbw
    iterate 3 (refine Cl.way_r rfl ?_; go_big_quiet_step (fail); refine wpQuiet_nil ?_)
    clear x0 x1 x2 x3
    refine Cl.way_c rfl ?_
    go_wp2_with (go_at_call 32; (with_reducible refine hsz.out.mono ?_); rintro e w2 ⟨rfl, hb2⟩)
    refine Cl.way_on (Cl.Keeps.of_below hb2) ?_
    have hX2 := hX1.out.keep hb2
    have hH2 := hH1.out.keep hb2
    have hG2 := hG1.out.keep hb2
    have hbw2 := hb1.out.trans (hb2.mono hb1.out.size)
    have hdl : (s.drop 8).length = N' - 8 := by rw [List.length_drop, HL.out]
    have hdb : ∀ x ∈ s.drop 8, x < 1024 := fun x hx => HB.out x (List.mem_of_mem_drop hx)
    have hs8 : Sl w2 w2.heap.size (some ⟨a.block, a.off + 8, none⟩) (s.drop 8) := by
      have := (H.out.far hbw2).part 8 (N' - 8) (by rw [HL.out]; omega)
      rwa [List.take_of_length_le (by rw [hdl]; exact Nat.le_refl _)] at this
    have hup := pak_unpack (c := c - 8) (n := (D : Int)) hs8 (by omega)
    have hE : upkE (s.drop 8) (D : Int) = 0 := by
      unfold upkE
      rw [if_neg (by rw [hdl]; unfold bytN; omega), if_neg]
      intro h
      rw [List.any_eq_true] at h
      obtain ⟨x, hx, h⟩ := h
      have := hdb x hx
      rw [decide_eq_true_eq] at h
      omega
    have hW' : upkW (s.drop 8) (D : Int) = sayD N' s := by
      unfold upkW sayD
      rw [hE, if_pos rfl, Int.toNat_natCast, hD]
    rw [hE, hW', hdl] at hup
    have hDl : (sayD N' s).length = D := by unfold sayD; rw [upk_len, hD]
    replace hup := Lib.hid hup
    replace hX2 := Lib.hid hX2
    replace hH2 := Lib.hid hH2
    replace hG2 := Lib.hid hG2
    replace hbw2 := Lib.hid hbw2
    replace hDl := Lib.hid hDl
    clear hs8 hdl hdb hb2 hX1 hH1 hG1 hb1 hsz hE hW'
    refine Cl.way_c rfl ?_
    go_wp2_with (go_at_call 70; (with_reducible refine hup.out.mono ?_); rintro e w3 ⟨A3, c3, rfl, hc3, hs3, hb3⟩)
    refine Cl.way_on (Cl.Keeps.of_below hb3) ?_
    rw [hDl.out] at hc3 ⊢
    have hX3 := hX2.out.keep hb3
    have hH3 := Lib.hid (hH2.out.keep hb3)
    have hG3 := hG2.out.keep hb3
    have hbw3 := Lib.hid (hbw2.out.trans (hb3.mono hbw2.out.size))
    replace hs3 := Lib.hid hs3
    clear hX2 hH2 hG2 hbw2 hb3 hup
    iterate 5 (refine Cl.way_r rfl ?_; go_big_quiet_step (fail); refine wpQuiet_nil ?_)
    refine Cl.way_end ?_
    obtain ⟨f1, f2, f3⟩ := say_of (N := N') HB.out
    have hsK := Lib.hid f1
    have hmB : mkB (sayK s : Int) (sayN s : Int) (sayQ s : Int) = decide (1 ≤ sayK s) := by
      unfold mkB
      rw [decide_eq_decide]
      omega
    have hfm := fmay_any (sayK s : Int) (sayN s : Int) (sayQ s : Int) w3
    rw [hmB] at hfm
    have hsB : sayB N' s = (decide (1 ≤ sayK s) && decide (sayL N' (sayK s) (sayN s) (sayQ s) (sayD N' s) = s)) := rfl
    obtain ⟨g1, g2, g3, g4⟩ := id hG3
    obtain ⟨m1, hm1⟩ : ∃ b, decide (1 ≤ sayK s) = b := ⟨_, rfl⟩
    rw [hm1] at hfm hsB
    replace hfm := Lib.hid hfm
    cases m1
    · have hsB := Lib.hid hsB
      go_wp2_with (go_at_call 31; (with_reducible refine hfm.out.mono ?_); rintro e w4 ⟨rfl, hb4⟩; have hH4 := hH3.out.keep hb4; obtain ⟨j1, j2, j3, j4⟩ := hH4.hed; have jf := hH4.frozen; have hbw4 := hbw3.out.trans (hb4.mono hbw3.out.size))
      refine bodyPost_ret (results_m3 rfl rfl (hH4.set_ 0 0 0).hed) rfl ?_
      exact ⟨Or.inl ⟨hsB.out, rfl⟩, below_set3 hbw4 (by omega) _ _ _⟩
    · rw [Bool.true_and] at hsB
      obtain ⟨m2, hm2⟩ : ∃ b, decide (sayL N' (sayK s) (sayN s) (sayQ s) (sayD N' s) = s) = b := ⟨_, rfl⟩
      rw [hm2] at hsB
      replace hsB := Lib.hid hsB
      have hsl := say_len (k := sayK s) (l := sayN s) (q := sayQ s) (d := sayD N' s) (by rw [hDl.out, hD]) (by omega)
      have hsb := say_bd (N := N') (d := sayD N' s) f1 f2 f3
      have hpl : Hid (∀ w', Below w3.heap.size w3 w' → Calls Try.prog 34 #[.agg #[.int .i64 B, .int .i64 P, .int .i64 (W : Int), .int .i64 (K : Int)], .agg #[.int .i64 (sayK s : Int), .int .i64 (sayN s : Int), .int .i64 (sayQ s : Int)], .slice A3 D c3] w'
          fun e w'' => ∃ g, e = .returned (.slice (some ⟨g, 0, none⟩) N' N') ∧ w'.heap.size ≤ g ∧ Arr w'' g (sayL N' (sayK s) (sayN s) (sayQ s) (sayD N' s)) ∧ Below w'.heap.size w' w'') := fun w' hb => by
        have := plain_any (B := B) (P := P) (c := c3) hN h8 h256 f1 f2 f3 (hs3.out.far hb) (by rw [hDl.out, hD])
        rw [hDl.out] at this
        exact this
      have heq : Hid (∀ w' g', Below w.heap.size w w' → Arr w' g' (sayL N' (sayK s) (sayN s) (sayQ s) (sayD N' s)) → Calls Try.prog 71 #[.slice (some ⟨g', 0, none⟩) N' N', .slice (some a) N' c] w' fun e w'' => e = .returned (.bool m2) ∧ Below w'.heap.size w' w'') := fun w' g' hb hA => by
        have := equal_any (ca := N') (cb := c) (hA.sl (fun x hx => by have := hsb x hx; omega)) (H.out.far hb) (by rw [hsl]; omega) (by rw [HL.out]; omega)
        rw [hsl, HL.out, hm2] at this
        exact this
      obtain ⟨v1, v2, v3, v4, v5⟩ := hX3
      have hX3 := Lib.hid (Ge.Box.mk v1 v2 v3 v4 v5)
      clear hsl hsb hm2
      cases m2
      all_goals
        go_wp2_with (first
          | (go_at_call 31; (with_reducible refine hfm.out.mono ?_); rintro e w4 ⟨rfl, hb4⟩; have hbw4 := hbw3.out.trans (hb4.mono hbw3.out.size); obtain ⟨n1, n2, n3, n4, n5⟩ := hX3.out.keep hb4; have hG4 := hG3.keep hb4; obtain ⟨e1, e2, e3, e4⟩ := id hG4; have hp4 := Lib.hid (hpl.out w4 hb4))
          | (go_at_call 34; (with_reducible refine hp4.out.mono ?_); rintro e w5 ⟨g5, rfl, hg5, hA5, hb5⟩; have hb35 := hb4.trans (hb5.mono hb4.size); have hbw5 := hbw3.out.trans (hb35.mono hbw3.out.size); have hq5 := Lib.hid (heq.out w5 g5 hbw5 hA5))
          | (go_at_call 71; (with_reducible refine hq5.out.mono ?_); rintro e w6 ⟨rfl, hb6⟩; have hb36 := hb35.trans (hb6.mono hb35.size); have hbw6 := hbw3.out.trans (hb36.mono hbw3.out.size); have hH6 := hH3.out.keep hb36; have hG6 := hG3.keep hb36; obtain ⟨j1, j2, j3, j4⟩ := hH6.hed; have jf := hH6.frozen; obtain ⟨o1, o2, o3, o4⟩ := hG6))
      · refine bodyPost_ret (results_m3 rfl rfl (hH6.set_ 0 0 0).hed) rfl ?_
        exact ⟨Or.inl ⟨hsB.out, rfl⟩, below_set3 hbw6 (by omega) _ _ _⟩
      · refine bodyPost_ret (results_m3 rfl rfl (hH6.set_ _ _ _).hed) rfl ?_
        refine ⟨Or.inr ⟨A3, c3, hsB.out, ?_, by rw [hDl.out]; exact hc3, ?_⟩, below_set3 hbw6 (by omega) _ _ _⟩
        · rw [hDl.out]; rfl
        · have hsb6 := hs3.out.far hb36
          have hne6 := hH6.ne hsb6
          simp only [World.size_setCell]
          exact ((hsb6.setOther hne6).setOther hne6).setOther hne6
end Go.Proofs.Ytmchelbmeajcnaa
namespace Go.Proofs.Ytmchelbmeajcnaa
open Go.RowKit Go.Gf Go.Fl
set_option linter.unusedVariables false
set_option linter.unusedSimpArgs false
set_option maxRecDepth 20000
attribute [local go_sem ↓] exec_load_tb Cl.quiet_since
attribute [local go_sem] tbAt_ptr tbIn_ptr

/-- block g holds three cells, and may be written -/
def B3 (w : World) (T : TypeId) (g : Nat) (x y z : Value) : Prop := w.heap[g]? = some (.cells #[x, y, z] T (0, 0))
section
variable {w w' : World} {T : TypeId} {g : Nat} {x y z : Value}
theorem B3.lt (h : B3 w T g x y z) : g < w.heap.size := by
  rcases Nat.lt_or_ge g w.heap.size with hlt | hge
  · exact hlt
  · unfold B3 at h; rw [Array.getElem?_eq_none hge] at h; cases h
theorem B3.c0 (h : B3 w T g x y z) : w.cell? ⟨g, 0, none⟩ = some x := Ge.cell_of h 0
theorem B3.c1 (h : B3 w T g x y z) : w.cell? ⟨g, 1, none⟩ = some y := Ge.cell_of h 1
theorem B3.c2 (h : B3 w T g x y z) : w.cell? ⟨g, 2, none⟩ = some z := Ge.cell_of h 2
theorem B3.frozen (h : B3 w T g x y z) (i : Nat) : w.frozen? ⟨g, i, none⟩ = false := by unfold B3 at h; simp [World.frozen?, h]
theorem B3.keep (h : B3 w T g x y z) (hb : Below w.heap.size w w') : B3 w' T g x y z := (hb.block g h.lt).trans h
theorem B3.new (w : World) (T : TypeId) (x y z : Value) : B3 (w.alloc (.cells #[x, y, z] T)) T w.heap.size x y z := heap_alloc_new w _
theorem B3.set_ (h : B3 w T g x y z) (x' y' z' : Value) : B3 (((w.setCell ⟨g, 0, none⟩ x').setCell ⟨g, 1, none⟩ y').setCell ⟨g, 2, none⟩ z') T g x' y' z' := by
  unfold B3 at h ⊢
  simp only [World.setCell]
  rw [Array.getElem?_modify, if_pos rfl, Array.getElem?_modify, if_pos rfl, Array.getElem?_modify, if_pos rfl, h]
  rfl
end
theorem sizeWd : (Try.prog.info? 106).map (·.size) = some 3 := by kernel_rfl
theorem results_wd {fn : Func} {t g : Nat} {w : World} {x y z : Value} {tmps : Array Value} (h : fn.results = #[.cell t 106]) (hp : tmps.getD t undef = .pointer (some ⟨g, 0, none⟩)) (hm : B3 w 106 g x y z) :
    (results fn tmps).run Try.prog w = .ok (.agg #[x, y, z]) w := results_cell_row h tmps w g _ _ _ _ hp hm Try.underlying106 rfl sizeWd
/-- how many symbols of a row are wrong, or have a point that is nought, where ys was meant -/
def nbP (n : Nat) (row : List Nat) (z : Nat → Bool) (ys : List Nat) : Nat := bc (fun q => z q || decide (at_ row q ≠ at_ ys q)) n
/-- it is read as ys -/
def GoodP (n : Nat) (row : List Nat) (z : Nat → Bool) (ys : List Nat) : Prop := Near row ys ∧ nbP n row z ys ≤ 8
theorem nbP_split {n : Nat} {row ys : List Nat} {z : Nat → Bool} (hr : row.length = n) (hy : ys.length = n) : dl ys row + uncN z row ys n = nbP n row z ys := by
  rw [dl_bc (by rw [hy, hr]), hy]
  unfold nbP uncN
  refine (bc_split fun q _ => ⟨?_, ?_⟩).symm
  · show (z q || decide (at_ row q ≠ at_ ys q)) = (decide (at_ ys q ≠ at_ row q) || (z q && decide (at_ row q = at_ ys q)))
    by_cases e : at_ row q = at_ ys q
    · simp [e]
    · have e' : ¬ at_ ys q = at_ row q := fun h => e h.symm
      simp [e, e']
  · rintro ⟨h1, h2⟩
    rw [decide_eq_true_eq] at h1
    rw [Bool.and_eq_true, decide_eq_true_eq] at h2
    exact h1 h2.2.symm
theorem below_set3' {w0 w : World} {g : Nat} (h : Below w0.heap.size w0 w) (hg : w0.heap.size ≤ g) (i j k : Nat) (x y z : Value) : Below w0.heap.size w0 (((w.setCell ⟨g, i, none⟩ x).setCell ⟨g, j, none⟩ y).setCell ⟨g, k, none⟩ z) :=
  ((h.setCell (show w0.heap.size ≤ g from hg) x).setCell (show w0.heap.size ≤ g from hg) y).setCell (show w0.heap.size ≤ g from hg) z
set_option maxHeartbeats 4000000 in
theorem word_yes {cs : List Nat} (hcs : Tab cs) {D E : Option Addr} {cD cE n : Nat} {row ys : List Nat} {ps : List (Nat × Nat)} {w : World} (hD : Sl w w.heap.size D row) (hE : Cx w w.heap.size E ps) (hr : row.length = n) (hp : ps.length = n) (h1 : 17 ≤ n) (h2 : n ≤ 1000) (hb : ∀ x ∈ row, x < 1024)
    (hg : GoodP n row (fun q => zP (xA ps q)) ys) :
    Calls Try.prog 67 #[.agg (cells cs), .slice D n cD, .slice E n cE] w fun e w' => ∃ A c, e = .returned (.agg #[.slice A n c, .int .i64 ((nbP n row (fun q => zP (xA ps q)) ys : Nat) : Int), .bool true]) ∧ n ≤ c ∧ ys.length = n ∧ SlF w' w.heap.size A ys ∧ Below w.heap.size w w' := by
  obtain ⟨wa, hwa⟩ : ∃ wa, wa = w.alloc (.cells (cells cs) 33) := ⟨_, rfl⟩
  obtain ⟨wb, hwb⟩ : ∃ wb, wb = wa.alloc (.cells #[.slice none 0 0, .int .i64 0, .bool false] 106) := ⟨_, rfl⟩
  have hza : wa.heap.size = w.heap.size + 1 := by rw [hwa, World.size_alloc]
  have hzb : wb.heap.size = w.heap.size + 1 + 1 := by rw [hwb, World.size_alloc, hza]
  have hba : Below w.heap.size w wa := by rw [hwa]; exact Ge.below_alloc w _
  have hab : Below wa.heap.size wa wb := by rw [hwb]; exact Ge.below_alloc wa _
  have hbb : Below w.heap.size w wb := hba.trans (hab.mono hba.size)
  have hT : Tb wb w.heap.size cs := by
    have h1 : Tb wa w.heap.size cs := by rw [hwa]; exact tb_new w cs
    exact h1.keep hab
  have hG : B3 wb 106 (w.heap.size + 1) (.slice none 0 0) (.int .i64 0) (.bool false) := by
    have := B3.new wa 106 (.slice none 0 0) (.int .i64 0) (.bool false)
    rwa [← hwb, hza] at this
  have hyl : ys.length = n := by
    obtain ⟨h1, _⟩ := hg.1
    omega
  have hdec := dec_yes hcs (c := cD) (hD.far hbb) (by omega) (by omega) hb hg.1
  have hsp := nbP_split (z := fun q => zP (xA ps q)) hr hyl
  have h8 := hg.2
  have hunc : ∀ w2 A' c', Below wb.heap.size wb w2 → Sl w2 w2.heap.size A' ys → Hid (Calls Try.prog 91 #[.slice D n cD, .slice A' n c', .slice E n cE] w2
      fun e w' => e = .returned (.int .i64 ((uncN (fun q => zP (xA ps q)) row ys n : Nat) : Int)) ∧ Below w2.heap.size w2 w') := fun w2 A' c' h3 h4 =>
    uncharged_any ((hD.far hbb).far h3) h4 ((hE.far hbb).far h3) hr hyl hp (by omega)
  obtain ⟨U, hU⟩ : ∃ U, uncN (fun q => zP (xA ps q)) row ys n = U := ⟨_, rfl⟩
  obtain ⟨M, hM⟩ : ∃ M, nbP n row (fun q => zP (xA ps q)) ys = M := ⟨_, rfl⟩
  obtain ⟨d, hd⟩ : ∃ d, dl ys row = d := ⟨_, rfl⟩
  rw [hU, hM, hd] at hsp
  rw [hM] at h8 ⊢
  rw [hU] at hunc
  rw [hd, hyl, hr] at hdec
  have hsum : (d : Int) + (U : Int) = (M : Int) := by omega
  have hdm : decide ((8 : Int) < (M : Int)) = false := decide_eq_false (by omega)
  have hd8 : d ≤ 8 := by omega
  have hU8 : U ≤ 8 := by omega
  replace hdec := Lib.hid hdec
  replace hunc := Lib.hid hunc
  replace hyl := Lib.hid hyl
  have hi1 := hT.is hcs.1
  have hi2 := hT.of
  clear hU hM hd hsp hg hab hba hb hr hp hD hE
  go_enter Try.func67, Try.ntmps67
  go_upto_region 1 with fail
  rw [← hwa, ← hwb]
  clear hwa hwb
  go_wp2_with (first
    | (go_at_call 90; (with_reducible refine hdec.out.mono ?_); rintro e w4 ⟨A4, c4, rfl, hc4, hs4, hb4⟩; have huc := hunc.out w4 A4 c4 hb4 hs4.1; have hG4 := hG.keep hb4)
    | (go_at_call 91; (with_reducible refine huc.out.mono ?_); rintro e w6 ⟨rfl, hb6⟩; have hG6 := hG4.keep hb6; have j0 := hG6.c0; have j1 := hG6.c1; have j2 := hG6.c2; have jf := hG6.frozen))
  refine bodyPost_ret (results_wd rfl rfl (hG6.set_ _ _ _)) rfl ?_
  have hne : ys = [] ∨ ∀ a, A4 = some a → a.block ≠ w.heap.size + 1 := by
    rcases hs4.2 with e | ⟨a, e, hlo⟩
    · exact Or.inl e
    · refine Or.inr fun a' e' => ?_
      rw [e] at e'
      injection e' with e'
      rw [← e']
      omega
  refine ⟨A4, c4, rfl, hc4, hyl.out, ⟨?_, ?_⟩, below_set3' (hbb.trans ((hb4.trans (hb6.mono hb4.size)).mono hbb.size)) (by omega) 0 1 2 _ _ _⟩
  · simp only [World.size_setCell]
    exact ((((hs4.1.far hb6).setOther hne).setOther hne).setOther hne)
  · rcases hs4.2 with e | ⟨a, e, hlo⟩
    · exact Or.inl e
    · exact Or.inr ⟨a, e, by omega⟩
set_option maxHeartbeats 4000000 in
theorem word_no {cs : List Nat} (hcs : Tab cs) {D E : Option Addr} {cD cE n : Nat} {row : List Nat} {ps : List (Nat × Nat)} {w : World} (hD : Sl w w.heap.size D row) (hE : Cx w w.heap.size E ps) (hr : row.length = n) (hp : ps.length = n) (h1 : 17 ≤ n) (h2 : n ≤ 1000) (hb : ∀ x ∈ row, x < 1024)
    (hg : ∀ ys, ¬ GoodP n row (fun q => zP (xA ps q)) ys) :
    Calls Try.prog 67 #[.agg (cells cs), .slice D n cD, .slice E n cE] w fun e w' => e = .returned (.agg #[.slice none 0 0, .int .i64 0, .bool false]) ∧ Below w.heap.size w w' := by
  obtain ⟨wa, hwa⟩ : ∃ wa, wa = w.alloc (.cells (cells cs) 33) := ⟨_, rfl⟩
  obtain ⟨wb, hwb⟩ : ∃ wb, wb = wa.alloc (.cells #[.slice none 0 0, .int .i64 0, .bool false] 106) := ⟨_, rfl⟩
  have hza : wa.heap.size = w.heap.size + 1 := by rw [hwa, World.size_alloc]
  have hba : Below w.heap.size w wa := by rw [hwa]; exact Ge.below_alloc w _
  have hab : Below wa.heap.size wa wb := by rw [hwb]; exact Ge.below_alloc wa _
  have hbb : Below w.heap.size w wb := hba.trans (hab.mono hba.size)
  have hT : Tb wb w.heap.size cs := by
    have h1 : Tb wa w.heap.size cs := by rw [hwa]; exact tb_new w cs
    exact h1.keep hab
  have hG : B3 wb 106 (w.heap.size + 1) (.slice none 0 0) (.int .i64 0) (.bool false) := by
    have := B3.new wa 106 (.slice none 0 0) (.int .i64 0) (.bool false)
    rwa [← hwb, hza] at this
  have hi1 := hT.is hcs.1
  have hi2 := hT.of
  by_cases hnear : ∃ ys, Near row ys
  · obtain ⟨ys, hys⟩ := hnear
    have hyl : ys.length = n := by
      obtain ⟨h1, _⟩ := hys
      omega
    have hdec := dec_yes hcs (c := cD) (hD.far hbb) (by omega) (by omega) hb hys
    have hsp := nbP_split (z := fun q => zP (xA ps q)) hr hyl
    have h8 : ¬ nbP n row (fun q => zP (xA ps q)) ys ≤ 8 := fun h => hg ys ⟨hys, h⟩
    have hunc : ∀ w2 A' c', Below wb.heap.size wb w2 → Sl w2 w2.heap.size A' ys → Hid (Calls Try.prog 91 #[.slice D n cD, .slice A' n c', .slice E n cE] w2
        fun e w' => e = .returned (.int .i64 ((uncN (fun q => zP (xA ps q)) row ys n : Nat) : Int)) ∧ Below w2.heap.size w2 w') := fun w2 A' c' h3 h4 =>
      uncharged_any ((hD.far hbb).far h3) h4 ((hE.far hbb).far h3) hr hyl hp (by omega)
    have hUn : uncN (fun q => zP (xA ps q)) row ys n ≤ n := bc_le _ _
    have hdn : dl ys row ≤ n := by rw [dl_bc (by rw [hyl, hr]), hyl]; exact bc_le _ _
    obtain ⟨U, hU⟩ : ∃ U, uncN (fun q => zP (xA ps q)) row ys n = U := ⟨_, rfl⟩
    obtain ⟨M, hM⟩ : ∃ M, nbP n row (fun q => zP (xA ps q)) ys = M := ⟨_, rfl⟩
    obtain ⟨d, hd⟩ : ∃ d, dl ys row = d := ⟨_, rfl⟩
    rw [hU, hM, hd] at hsp
    rw [hM] at h8
    rw [hU] at hunc hUn
    rw [hd] at hdn
    rw [hd, hyl, hr] at hdec
    have hsum : (d : Int) + (U : Int) = (M : Int) := by omega
    have hdm : decide ((8 : Int) < (M : Int)) = true := decide_eq_true (by omega)
    replace hdec := Lib.hid hdec
    replace hunc := Lib.hid hunc
    replace hyl := Lib.hid hyl
    clear hU hM hd hsp hg hab hba hb hr hp hD hE h8 hys
    go_enter Try.func67, Try.ntmps67
    go_upto_region 1 with fail
    rw [← hwa, ← hwb]
    clear hwa hwb
    go_wp2_with (first
      | (go_at_call 90; (with_reducible refine hdec.out.mono ?_); rintro e w4 ⟨A4, c4, rfl, hc4, hs4, hb4⟩; have huc := hunc.out w4 A4 c4 hb4 hs4.1; have hG4 := hG.keep hb4)
      | (go_at_call 91; (with_reducible refine huc.out.mono ?_); rintro e w6 ⟨rfl, hb6⟩; have hG6 := hG4.keep hb6; have j0 := hG6.c0; have j1 := hG6.c1; have j2 := hG6.c2; have jf := hG6.frozen))
    refine bodyPost_ret (results_wd rfl rfl (hG6.set_ _ _ _)) rfl ?_
    exact ⟨rfl, below_set3' (hbb.trans ((hb4.trans (hb6.mono hb4.size)).mono hbb.size)) (by omega) 0 1 2 _ _ _⟩
  · have hdec := dec_no hcs (c := cD) (hD.far hbb) (by omega) (by omega) hb (fun c hc => hnear ⟨c, hc⟩)
    rw [hr] at hdec
    replace hdec := Lib.hid hdec
    clear hg hab hba hb hr hp hD hE hnear
    go_enter Try.func67, Try.ntmps67
    go_upto_region 1 with fail
    rw [← hwa, ← hwb]
    clear hwa hwb
    go_wp2_with (first
      | (go_at_call 90; (with_reducible refine hdec.out.mono ?_); rintro e w4 ⟨A4, c4, rfl, hb4⟩; have hG4 := hG.keep hb4; have j0 := hG4.c0; have j1 := hG4.c1; have j2 := hG4.c2; have jf := hG4.frozen))
    refine bodyPost_ret (results_wd rfl rfl (hG4.set_ _ _ _)) rfl ?_
    exact ⟨rfl, below_set3' (hbb.trans (hb4.mono hbb.size)) (by omega) 0 1 2 _ _ _⟩
end Go.Proofs.Ytmchelbmeajcnaa
namespace Go.Proofs.Ytmchelbmeajcnaa
open Go.RowKit Go.Gf
/-- block g begins with the n values that f says, and may be written -/
def PreV (w : World) (T : TypeId) (g n : Nat) (f : Nat → Value) : Prop := ∃ cur, w.heap[g]? = some (.cells cur T (0, 0)) ∧ ∀ i, i < n → cur[i]? = some (f i)
section
variable {w w' : World} {T : TypeId} {g n : Nat} {f : Nat → Value}
theorem PreV.lt (h : PreV w T g n f) : g < w.heap.size := by
  obtain ⟨cur, h, _⟩ := h
  rcases Nat.lt_or_ge g w.heap.size with hlt | hge
  · exact hlt
  · rw [Array.getElem?_eq_none hge] at h; cases h
theorem PreV.cell (h : PreV w T g n f) {i : Nat} (hi : i < n) : w.cell? ⟨g, i, none⟩ = some (f i) := by
  obtain ⟨cur, h, hc⟩ := h
  rw [cell_of_row w g i _ T (0, 0) h]
  exact hc i hi
theorem PreV.frozen (h : PreV w T g n f) (i : Nat) : w.frozen? ⟨g, i, none⟩ = false := by
  obtain ⟨cur, h, hc⟩ := h
  simp [World.frozen?, h]
theorem PreV.set_ (h : PreV w T g n f) (i : Nat) (v : Value) : PreV (w.setCell ⟨g, i, none⟩ v) T g n (fun j => if j = i then v else f j) := by
  obtain ⟨cur, h, hc⟩ := h
  refine ⟨cur.setIfInBounds i v, ?_, fun j hj => ?_⟩
  · simp only [World.setCell]
    rw [Array.getElem?_modify, h]
    simp
  · have := hc j hj
    have hlt : j < cur.size := (Array.getElem?_eq_some_iff.1 this).1
    rw [Array.getElem?_setIfInBounds]
    by_cases e : i = j
    · subst e; simp [hlt]
    · rw [if_neg e]
      show _ = some (if j = i then v else f j)
      rw [if_neg (Ne.symm e)]; exact this
theorem PreV.congr (h : PreV w T g n f) {f' : Nat → Value} (e : ∀ j, j < n → f j = f' j) : PreV w T g n f' := by
  obtain ⟨cur, h, hc⟩ := h
  exact ⟨cur, h, fun i hi => by rw [← e i hi]; exact hc i hi⟩
theorem PreV.keep (h : PreV w T g n f) (hb : w'.heap[g]? = w.heap[g]?) : PreV w' T g n f := by
  obtain ⟨cur, h, hc⟩ := h
  exact ⟨cur, hb.trans h, hc⟩
theorem PreV.below (h : PreV w T g n f) (hb : Below w.heap.size w w') : PreV w' T g n f := h.keep (hb.block g h.lt)
theorem PreV.other (h : PreV w T g n f) {g' i : Nat} (v : Value) (hne : g ≠ g') : PreV (w.setCell ⟨g', i, none⟩ v) T g n f := h.keep (setCell_block w v hne)
theorem PreV.drew (h : PreV w T g n f) (k : Nat) : PreV (w.drewN k) T g n f := h.keep rfl
end
end Go.Proofs.Ytmchelbmeajcnaa
namespace Go.Proofs.Ytmchelbmeajcnaa
open Go.RowKit Go.Gf Go.Fl
set_option linter.unusedVariables false
set_option linter.unusedSimpArgs false
set_option maxRecDepth 20000
attribute [local go_sem ↓] exec_load_tb Cl.quiet_since
attribute [local go_sem] tbAt_ptr tbIn_ptr

theorem infoWd : (Try.prog.info? 106).map (fun i => (i.zero, i.size, i.bytes)) = some (some (.agg #[.slice none 0 0, .int .i64 0, .bool false]), 3, 40) := by kernel_rfl
/-- n words of nothing -/
def zW (n : Nat) : Array Value := madeCells #[.slice none 0 0, .int .i64 0, .bool false] (n * 3)
theorem zW_size (n : Nat) : (zW n).size = n * 3 := size_madeCells _ _
theorem run_makeW (w : World) (n : Nat) (hn : n ≤ 65536) : (Instr.makeSlice 90 (.int .i64 (n : Int)) (.int .i64 (n : Int))).run Try.prog w = .ok (.slice (some ⟨w.heap.size, 0, none⟩) n n) (w.alloc (.cells (zW n) 106)) := by
  have hi0 := infoWd
  obtain ⟨i, hi, hrest⟩ := Option.map_eq_some_iff.1 hi0
  simp only [Prod.mk.injEq] at hrest
  obtain ⟨i1, i2, i3⟩ := hrest
  have h := run_make (P := Try.prog) w 90 106 i _ Try.underlying90 hi i1 .i64 .i64 (n : Int) (n : Int) (by omega) (Int.le_refl _) (by rw [i3]; omega) (by omega)
  rw [i2, Int.toNat_natCast] at h
  exact h
/-- which points are nought -/
def zX (xs : List (Nat × Nat)) : Nat → Bool := fun i => zP (xA xs i)
/-- what is told of one word, in three cells; block g is not its symbols' -/
def WdIs (w : World) (g : Nat) (o : Option (List Nat)) (m : Nat) (x y b : Value) : Prop :=
  match o with
  | none => x = .slice none 0 0 ∧ y = .int .i64 (m : Int) ∧ b = .bool false
  | some ys => ∃ A c, x = .slice A ys.length c ∧ ys.length ≤ c ∧ Sl w w.heap.size A ys ∧ (ys = [] ∨ ∀ a, A = some a → a.block ≠ g) ∧ y = .int .i64 (m : Int) ∧ b = .bool true
theorem WdIs.keep {w w' : World} {g m : Nat} {o : Option (List Nat)} {x y b : Value} (h : WdIs w g o m x y b) (hb : Below w.heap.size w w') : WdIs w' g o m x y b := by
  cases o with
  | none => exact h
  | some ys =>
    obtain ⟨A, c, h1, h2, h3, h4, h5⟩ := h
    exact ⟨A, c, h1, h2, h3.far hb, h4, h5⟩
theorem WdIs.other {w : World} {g m i : Nat} {o : Option (List Nat)} {x y b : Value} (h : WdIs w g o m x y b) (v : Value) : WdIs (w.setCell ⟨g, i, none⟩ v) g o m x y b := by
  cases o with
  | none => exact h
  | some ys =>
    obtain ⟨A, c, h1, h2, h3, h4, h5⟩ := h
    refine ⟨A, c, h1, h2, ?_, h4, h5⟩
    rw [World.size_setCell]
    exact h3.setOther h4
/-- block g holds W words, of which the first k are r's, and m wrong in each -/
structure WdsI (w : World) (g W : Nat) (f : Nat → Value) (r : Nat → Option (List Nat)) (m : Nat → Nat) (k : Nat) : Prop where
  pre : PreV w 106 g (W * 3) f
  each : ∀ j, j < k → WdIs w g (r j) (m j) (f (j * 3)) (f (j * 3 + 1)) (f (j * 3 + 2))
section
variable {w w' : World} {g W k : Nat} {f : Nat → Value} {r : Nat → Option (List Nat)} {m : Nat → Nat}
theorem WdsI.keep (h : WdsI w g W f r m k) (hb : Below w.heap.size w w') : WdsI w' g W f r m k := ⟨h.pre.below hb, fun j hj => (h.each j hj).keep hb⟩
theorem WdsI.c0 (h : WdsI w g W f r m k) {j : Nat} (hj : j < W) : w.cell? ⟨g, j * 3, none⟩ = some (f (j * 3)) := h.pre.cell (by omega)
theorem WdsI.c1 (h : WdsI w g W f r m k) {j : Nat} (hj : j < W) : w.cell? ⟨g, j * 3 + 1, none⟩ = some (f (j * 3 + 1)) := h.pre.cell (by omega)
theorem WdsI.c2 (h : WdsI w g W f r m k) {j : Nat} (hj : j < W) : w.cell? ⟨g, j * 3 + 2, none⟩ = some (f (j * 3 + 2)) := h.pre.cell (by omega)
theorem WdsI.lay (h : WdsI w g W f r m k) (hk : k < W) {x y b : Value} (hx : WdIs w g (r k) (m k) x y b) :
    ∃ f', WdsI (((w.setCell ⟨g, k * 3, none⟩ x).setCell ⟨g, k * 3 + 1, none⟩ y).setCell ⟨g, k * 3 + 2, none⟩ b) g W f' r m (k + 1) := by
  refine ⟨_, ((h.pre.set_ (k * 3) x).set_ (k * 3 + 1) y).set_ (k * 3 + 2) b, fun j hj => ?_⟩
  by_cases e : j = k
  · subst e
    have e1 : (if j * 3 = j * 3 + 2 then b else if j * 3 = j * 3 + 1 then y else if j * 3 = j * 3 then x else f (j * 3)) = x := by simp
    have e2 : (if j * 3 + 1 = j * 3 + 2 then b else if j * 3 + 1 = j * 3 + 1 then y else if j * 3 + 1 = j * 3 then x else f (j * 3 + 1)) = y := by simp
    have e3 : (if j * 3 + 2 = j * 3 + 2 then b else if j * 3 + 2 = j * 3 + 1 then y else if j * 3 + 2 = j * 3 then x else f (j * 3 + 2)) = b := by simp
    show WdIs _ g (r j) (m j) (if j * 3 = j * 3 + 2 then b else if j * 3 = j * 3 + 1 then y else if j * 3 = j * 3 then x else f (j * 3)) (if j * 3 + 1 = j * 3 + 2 then b else if j * 3 + 1 = j * 3 + 1 then y else if j * 3 + 1 = j * 3 then x else f (j * 3 + 1)) (if j * 3 + 2 = j * 3 + 2 then b else if j * 3 + 2 = j * 3 + 1 then y else if j * 3 + 2 = j * 3 then x else f (j * 3 + 2))
    rw [e1, e2, e3]
    exact ((hx.other _).other _).other _
  · have hj' : j < k := by omega
    have h1 := ((h.each j hj').other (i := k * 3) x).other (i := k * 3 + 1) y |>.other (i := k * 3 + 2) b
    have e' : ∀ q, q < 3 → (if j * 3 + q = k * 3 + 2 then b else if j * 3 + q = k * 3 + 1 then y else if j * 3 + q = k * 3 then x else f (j * 3 + q)) = f (j * 3 + q) := fun q hq => by
      rw [if_neg (by omega), if_neg (by omega), if_neg (by omega)]
    show WdIs _ g (r j) (m j) (if j * 3 + 0 = k * 3 + 2 then b else if j * 3 + 0 = k * 3 + 1 then y else if j * 3 + 0 = k * 3 then x else f (j * 3 + 0)) (if j * 3 + 1 = k * 3 + 2 then b else if j * 3 + 1 = k * 3 + 1 then y else if j * 3 + 1 = k * 3 then x else f (j * 3 + 1)) (if j * 3 + 2 = k * 3 + 2 then b else if j * 3 + 2 = k * 3 + 1 then y else if j * 3 + 2 = k * 3 then x else f (j * 3 + 2))
    rw [e' 0 (by omega), e' 1 (by omega), e' 2 (by omega)]
    exact h1
end
theorem zW_new (w : World) (n : Nat) : PreV (w.alloc (.cells (zW n) 106)) 106 w.heap.size (n * 3) (fun i => (zW n).getD i undef) := by
  refine ⟨zW n, heap_alloc_new w _, fun i hi => ?_⟩
  have : i < (zW n).size := by rw [zW_size]; exact hi
  simp [this]
/-- word j is read as o says -/
def RdW (W n : Nat) (ss : List Nat) (z : Nat → Bool) (j : Nat) : Option (List Nat) → Prop
  | none => ∀ ys, ¬ GoodR W n ss z j ys
  | some ys => GoodR W n ss z j ys
/-- .. with so many wrong -/
def wrO (W n : Nat) (ss : List Nat) (z : Nat → Bool) (j : Nat) : Option (List Nat) → Nat
  | none => 0
  | some ys => nbW W n ss z j ys
/-- the same of a row and its own points -/
def RdP (n : Nat) (row : List Nat) (z : Nat → Bool) : Option (List Nat) → Prop
  | none => ∀ ys, ¬ GoodP n row z ys
  | some ys => GoodP n row z ys
def wrP (n : Nat) (row : List Nat) (z : Nat → Bool) : Option (List Nat) → Nat
  | none => 0
  | some ys => nbP n row z ys
theorem nbP_col {W n j : Nat} {ss ys : List Nat} {xs : List (Nat × Nat)} : nbP n (rowS W n ss j) (fun q => zP (xA (colX xs W j n) q)) ys = nbW W n ss (zX xs) j ys := bc_congr fun q hq => by show (zP (xA (colX xs W j n) q) || _) = _; rw [colX_at hq]; rfl
theorem rdP_of {W n j : Nat} {ss : List Nat} {xs : List (Nat × Nat)} {o : Option (List Nat)} (h : RdW W n ss (zX xs) j o) : RdP n (rowS W n ss j) (fun q => zP (xA (colX xs W j n) q)) o ∧ wrP n (rowS W n ss j) (fun q => zP (xA (colX xs W j n) q)) o = wrO W n ss (zX xs) j o := by
  cases o with
  | none => exact ⟨fun ys hy => h ys ⟨hy.1, by rw [← nbP_col]; exact hy.2⟩, rfl⟩
  | some ys => exact ⟨⟨h.1, by rw [nbP_col]; exact h.2⟩, nbP_col⟩
theorem word_o {cs : List Nat} (hcs : Tab cs) {D E : Option Addr} {cD cE n : Nat} {row : List Nat} {ps : List (Nat × Nat)} {w : World} (hD : Sl w w.heap.size D row) (hE : Cx w w.heap.size E ps) (hr : row.length = n) (hp : ps.length = n) (h1 : 17 ≤ n) (h2 : n ≤ 1000) (hb : ∀ x ∈ row, x < 1024)
    {o : Option (List Nat)} (ho : RdP n row (fun q => zP (xA ps q)) o) :
    Calls Try.prog 67 #[.agg (cells cs), .slice D n cD, .slice E n cE] w fun e w' => ∃ A l c M b, e = .returned (.agg #[.slice A l c, .int .i64 M, .bool b]) ∧ (∀ g, g < w.heap.size → WdIs w' g o (wrP n row (fun q => zP (xA ps q)) o) (.slice A l c) (.int .i64 M) (.bool b)) ∧ Below w.heap.size w w' := by
  cases o with
  | none =>
    refine (word_no hcs hD hE hr hp h1 h2 hb ho).mono ?_
    rintro e w' ⟨rfl, hbb⟩
    exact ⟨_, _, _, _, _, rfl, fun g hg => ⟨rfl, rfl, rfl⟩, hbb⟩
  | some ys =>
    refine (word_yes hcs hD hE hr hp h1 h2 hb ho).mono ?_
    rintro e w' ⟨A, c, rfl, hc, hl, hs, hbb⟩
    refine ⟨_, _, _, _, _, rfl, fun g hg => ⟨A, c, by rw [hl], by rw [hl]; exact hc, hs.1, ?_, rfl, rfl⟩, hbb⟩
    rcases hs.2 with e | ⟨a, e, hlo⟩
    · exact Or.inl e
    · refine Or.inr fun a' e' => ?_
      rw [e] at e'
      injection e' with e'
      rw [← e']
      omega
set_option maxHeartbeats 8000000 in
theorem mended_any {cs : List Nat} (hcs : Tab cs) {B P : Int} {W K : Nat} {A : Option Addr} {c : Nat} {xs : List (Nat × Nat)} {ss : List Nat} {w : World} (hW : 1 ≤ W ∧ W ≤ 4) (hK : 1 ≤ K ∧ K ≤ 64) (hs : Cx w w.heap.size A xs) (hl : xs.length = W * (K + 16))
    (hn : ss.length = xs.length) (hsl : ∀ i, i < xs.length → SlcIs (xA xs i) (at_ ss i)) (hb : ∀ y ∈ ss, y < 1024) (r : Nat → Option (List Nat)) (hr : ∀ j, j < W → RdW W (K + 16) ss (zX xs) j (r j)) :
    Calls Try.prog 43 #[.agg (cells cs), .agg #[.int .i64 B, .int .i64 P, .int .i64 (W : Int), .int .i64 (K : Int)], .slice A xs.length c] w
      fun e w' => ∃ g f, e = .returned (.slice (some ⟨g, 0, none⟩) W W) ∧ w.heap.size ≤ g ∧ WdsI w' g W f r (fun j => wrO W (K + 16) ss (zX xs) j (r j)) W ∧ Below w.heap.size w w' := by
  have H := Lib.hid hs
  have HCS := Lib.hid hcs
  obtain ⟨wa, hwa⟩ : ∃ wa, wa = w.alloc (.cells (cells cs) 33) := ⟨_, rfl⟩
  obtain ⟨wb, hwb⟩ : ∃ wb, wb = wa.alloc (.cells #[.int .i64 B, .int .i64 P, .int .i64 (W : Int), .int .i64 (K : Int)] 23) := ⟨_, rfl⟩
  have hba : Below w.heap.size w wa := by rw [hwa]; exact Ge.below_alloc w _
  have hbb : Below w.heap.size w wb := hba.trans (by rw [hwb]; exact (Ge.below_alloc wa _).mono hba.size)
  have hT : Tb wb w.heap.size cs := by
    have : Tb wa w.heap.size cs := by rw [hwa]; exact tb_new w cs
    exact this.keep (by rw [hwb]; exact Ge.below_alloc wa _)
  have hX : Ge.Box wb (w.heap.size + 1) B P W K := by
    have := Ge.Box.new wa B P W K
    rw [← hwb] at this
    rwa [show wa.heap.size = w.heap.size + 1 by rw [hwa, World.size_alloc]] at this
  have hN4 : W * (K + 16) ≤ 320 := Nat.mul_le_mul hW.2 (show K + 16 ≤ 80 by omega)
  obtain ⟨L, hL⟩ : ∃ L, xs.length = L := ⟨_, rfl⟩
  have hL3 : L ≤ 320 := by omega
  have hLW : Hid (L = W * (K + 16)) := by unfold Hid; omega
  have hsL : Hid (ss.length = L) := by unfold Hid; omega
  replace hL := Lib.hid hL
  have HSL := Lib.hid hsl
  have HB := Lib.hid hb
  have HR := Lib.hid hr
  have hmkW := fun w => run_makeW w W (by omega)
  rw [hL.out]
  clear hl hn hsl hs hcs hN4 hr
  go_enter Try.func43, Try.ntmps43
  go_wp2_with fail
  rw [← hwa, ← hwb]
  clear hwa hwb hba
  replace hbb := Lib.hid hbb
  replace hT := Lib.hid hT
  replace hX := Lib.hid hX
  refine Cl.region_way (fun _ => True) 10 [(0, .r), (1, .r), (2, .r), (3, .c), (4, .c), (5, .r), (6, .r), (7, .r), (8, .r), (9, .r)] (by kernel_rfl) (by kernel_rfl) ?_
  intro w1 hk1
  have hT1 := Lib.hid (hT.out.keep (Cl.Keeps.below hk1))
  have hX1 := Lib.hid (hX.out.keep (Cl.Keeps.below hk1))
  have hb1 := Lib.hid (hbb.out.trans ((Cl.Keeps.below hk1).mono hbb.out.size))
  have x2 : ∀ y : Cl.Since (fun _ => True) w1, y.w.cell? ⟨w.heap.size + 1, 2, none⟩ = some (.int .i64 (W : Int)) := fun y => (hX1.out.keep (Cl.Keeps.below y.keeps)).c2
  have hsc := Lib.hid (sliced_any A c xs ss w1 (H.out.far hb1.out) (by have := hL.out; omega) (by rw [hsL.out, hL.out]) HSL.out (fun y hy => by have := HB.out y hy; omega))
  rw [hL.out] at hsc
  clear hk1 hT hX hbb HSL
  iterate 3 (refine Cl.way_r rfl ?_; go_big_quiet_step (fail); refine wpQuiet_nil ?_)
  refine Cl.way_c rfl ?_
  go_wp2_with (go_at_call 66; (with_reducible refine hsc.out.mono ?_); rintro e w2 ⟨v2, rfl, ho2, hb2⟩)
  refine Cl.way_on (Cl.Keeps.of_below hb2) ?_
  obtain ⟨A2, c2, rfl, hc2, hs2⟩ := ho2.sl
  have hin := in_row (c := c2) hLW.out.symm hW (by omega) hs2 hsL.out (by omega)
  rw [hsL.out] at hin ⊢
  have hT2 := hT1.out.keep hb2
  have hX2 := hX1.out.keep hb2
  have hbw2 := hb1.out.trans (hb2.mono hb1.out.size)
  replace hin := Lib.hid hin
  clear hsc ho2 hs2 hc2 x2
  refine Cl.way_c rfl ?_
  go_wp2_with (go_at_call 57; (with_reducible refine hin.out.mono ?_); rintro e w3 ⟨gr, fr, rfl, hat, hR3, hb3⟩)
  refine Cl.way_on (Cl.Keeps.of_below hb3) ?_
  have hT3 := Lib.hid (hT2.keep hb3)
  have hX3 := Lib.hid (hX2.keep hb3)
  have hbw3 := Lib.hid (hbw2.trans (hb3.mono hbw2.size))
  have hRr := hR3.congr (ws' := fun j => rowS W (K + 16) ss j) (fun j hj => dealt_get' (by rw [hsL.out, hLW.out]) hj)
  replace hRr := Lib.hid hRr
  clear hT2 hX2 hbw2 hb3 hR3 hin hT1 hX1 hb1 hb2 hat
  iterate 5 (refine Cl.way_r rfl ?_; go_big_quiet_step (fail); refine wpQuiet_nil ?_)
  refine Cl.way_end ?_
  go_wp2_with fail
  obtain ⟨n, hn⟩ : ∃ n, K + 16 = n := ⟨_, rfl⟩
  have hn80 : n ≤ 80 := by omega
  have hn17 : 17 ≤ n := by omega
  rw [hn] at hRr hLW HR
  obtain ⟨m, hm⟩ : ∃ m, m = fun j => wrO W n ss (zX xs) j (r j) := ⟨_, rfl⟩
  go_loopw [25] (fun p wr => ∃ i : Nat, i ≤ W ∧ p = .int .i64 i ∧ (∃ f, WdsI wr w3.heap.size W f r m i) ∧ Below w3.heap.size w3 wr) (fun p _ => W - (intOf p).toNat)
  case atStart => exact ⟨0, Nat.zero_le _, rfl, ⟨_, zW_new w3 W, fun j h => absurd h (by omega)⟩, Ge.below_alloc w3 _⟩
  case round =>
    obtain ⟨i, hi, rfl, ⟨f, hWd⟩, hB⟩ := hrel
    by_cases hlt : i < W
    · have hiI : (i : Int) < (W : Int) := by omega
      have hdi : decide (i < W) = true := decide_eq_true hlt
      have hRw := hRr.out.keep hB
      obtain ⟨D, cD, hfi, hcD, hsD, hDne⟩ := hRw.row i hlt
      have hcl := hRw.vs.cell hlt
      rw [hfi] at hcl
      have hrl : (rowS W n ss i).length = n := rowS_len
      have hrb := rowS_bd (W := W) (n := n) (j := i) HB.out
      have hTr := hT3.out.keep hB
      have hXr := hX3.out.keep hB
      have hbwr := hbw3.out.trans (hB.mono hbw3.out.size)
      rw [hrl] at hfi hcl hcD
      clear hmkW
      go_wp2_with fail
      refine Cl.region_way (fun _ => True) 10 [(0, .r), (1, .r), (2, .r), (3, .r), (4, .r), (5, .r), (6, .r), (7, .c), (8, .c), (9, .r), (10, .z)] (by kernel_rfl) (by kernel_rfl) ?_
      intro w6 hk6
      have hb6 := Cl.Keeps.below hk6
      have hWd6 := Lib.hid (hWd.keep hb6)
      have hB6 := Lib.hid (hB.trans (hb6.mono hB.size))
      have hbw6 := Lib.hid (hbw3.out.trans (hB6.out.mono hbw3.out.size))
      have hT6 := Lib.hid (hTr.keep hb6)
      have hX6 := Lib.hid (hXr.keep hb6)
      have hi6 : ∀ y : Cl.Since (fun _ => True) w6, isTb y.w w.heap.size = true := fun y => (hT6.out.keep (Cl.Keeps.below y.keeps)).is HCS.out.1
      have ho6 : ∀ y : Cl.Since (fun _ => True) w6, tbOf y.w w.heap.size = cells cs := fun y => (hT6.out.keep (Cl.Keeps.below y.keeps)).of
      have b0 : ∀ y : Cl.Since (fun _ => True) w6, y.w.cell? ⟨w.heap.size + 1, 0, none⟩ = some (.int .i64 B) := fun y => (hX6.out.keep (Cl.Keeps.below y.keeps)).c0
      have b1 : ∀ y : Cl.Since (fun _ => True) w6, y.w.cell? ⟨w.heap.size + 1, 1, none⟩ = some (.int .i64 P) := fun y => (hX6.out.keep (Cl.Keeps.below y.keeps)).c1
      have b2 : ∀ y : Cl.Since (fun _ => True) w6, y.w.cell? ⟨w.heap.size + 1, 2, none⟩ = some (.int .i64 (W : Int)) := fun y => (hX6.out.keep (Cl.Keeps.below y.keeps)).c2
      have b3 : ∀ y : Cl.Since (fun _ => True) w6, y.w.cell? ⟨w.heap.size + 1, 3, none⟩ = some (.int .i64 (K : Int)) := fun y => (hX6.out.keep (Cl.Keeps.below y.keeps)).c3
      have hpt := points_any (B := B) (P := P) (K := K) (c := c) hW hK hlt (H.out.far hbw6.out) (by rw [hL.out, hLW.out, hn])
      rw [hL.out, hn] at hpt
      replace hpt := Lib.hid hpt
      have hsD6 := Lib.hid (hsD.far hb6)
      replace hrl := Lib.hid hrl
      replace hrb := Lib.hid hrb
      have hRi := Lib.hid (rdP_of (HR.out i hlt))
      clear hk6 hb6 hWd hB hTr hXr hsD hcl hfi hDne hcD hRw hbwr
      iterate 7 (refine Cl.way_r rfl ?_; go_big_quiet_step (fail); refine wpQuiet_nil ?_)
      clear hi6 ho6 b0 b1 b2 b3
      refine Cl.way_c rfl ?_
      go_wp2_with (go_at_call 68; (with_reducible refine hpt.out.mono ?_); rintro e w7 ⟨A7, c7, rfl, hx7, hb7⟩)
      refine Cl.way_on (Cl.Keeps.of_below hb7) ?_
      have hwd := Lib.hid (word_o HCS.out (cD := cD) (cE := c7) (hsD6.out.far hb7) hx7 hrl.out (colX_len _ _ _ _) hn17 (by omega) hrb.out hRi.out.1)
      rw [hRi.out.2] at hwd
      have hWd7 := Lib.hid (hWd6.out.keep hb7)
      have hB7 := Lib.hid (hB6.out.trans (hb7.mono hB6.out.size))
      clear hpt hx7 hb7 hsD6 hWd6 hB6 hbw6 hT6 hX6
      refine Cl.way_c rfl ?_
      go_wp2_with (go_at_call 67; (with_reducible refine hwd.out.mono ?_); rintro e w8 ⟨A8, l8, c8, M8, b8, rfl, hwi, hb8⟩)
      refine Cl.way_on (Cl.Keeps.of_below hb8) ?_
      have hWd8 := hWd7.out.keep hb8
      have hB8 := hB7.out.trans (hb8.mono hB7.out.size)
      have hgl : w3.heap.size < w7.heap.size := hWd7.out.pre.lt
      have hwi8 := Lib.hid (hwi w3.heap.size hgl)
      iterate 1 (refine Cl.way_r rfl ?_; go_big_quiet_step (fail); refine wpQuiet_nil ?_)
      refine Cl.way_z rfl ?_
      have j0 := hWd8.c0 hlt
      have j1 := hWd8.c1 hlt
      have j2 := hWd8.c2 hlt
      have jf := hWd8.pre.frozen
      have hz : w8.heap.size ≥ w3.heap.size := hB8.size
      obtain ⟨f', hl8⟩ := hWd8.lay hlt (x := .slice A8 l8 c8) (y := .int .i64 M8) (b := .bool b8) (by rw [hm]; exact hwi8.out)
      have hl8 := Lib.hid hl8
      have hB9 := Lib.hid (below_set3' hB8 (Nat.le_refl _) (i * 3) (i * 3 + 1) (i * 3 + 2) (.slice A8 l8 c8) (.int .i64 M8) (.bool b8))
      clear hwi hb8 hWd7 hB7 hwd hWd8 hB8 hwi8 hRi hrl hrb
      go_wp2_with fail
      refine Cl.Calm.normal ?_
      go_wp2_with fail
      go_roundw
      case rel => exact ⟨i + 1, by omega, by go_num, ⟨f', hl8.out⟩, hB9.out⟩
      case measure => simp [intOf]; omega
    · obtain rfl : i = W := by omega
      have hdi : decide (i < i) = false := decide_eq_false (Nat.lt_irrefl _)
      have hfin := Lib.hid (hbw3.out.trans (hB.mono hbw3.out.size))
      replace hWd := Lib.hid hWd
      clear hB
      go_wp2_with fail
      go_ret
      rw [hn, ← hm]
      exact ⟨_, f, rfl, hbw3.out.size, hWd.out, hfin.out⟩
end Go.Proofs.Ytmchelbmeajcnaa
namespace Go.Proofs.Ytmchelbmeajcnaa
open Go.RowKit Go.Gf Go.Fl
set_option linter.unusedVariables false
set_option linter.unusedSimpArgs false
set_option maxRecDepth 20000
attribute [local go_sem ↓] exec_load_tb Cl.quiet_since
attribute [local go_sem] tbAt_ptr tbIn_ptr

theorem WdIs.yes {w : World} {g m : Nat} {ys : List Nat} {x y b : Value} (h : WdIs w g (some ys) m x y b) : ∃ A c, x = .slice A ys.length c ∧ ys.length ≤ c ∧ Sl w w.heap.size A ys ∧ (ys = [] ∨ ∀ a, A = some a → a.block ≠ g) ∧ y = .int .i64 (m : Int) ∧ b = .bool true := h
theorem WdIs.no {w : World} {g m : Nat} {x y b : Value} (h : WdIs w g none m x y b) : x = .slice none 0 0 ∧ y = .int .i64 (m : Int) ∧ b = .bool false := h
set_option maxHeartbeats 8000000 in
theorem joined_any {B P : Int} {W K g : Nat} {f : Nat → Value} {r : Nat → Option (List Nat)} {m : Nat → Nat} {w : World} (hW : 1 ≤ W ∧ W ≤ 4) (hK : 1 ≤ K ∧ K ≤ 64) (h : WdsI w g W f r m W) (k : Nat) (ws : Nat → List Nat) (hk : k ≤ W) (hall : ∀ j, j < k → r j = some (ws j)) (hl : ∀ j, j < k → (ws j).length = K + 16) (hno : k < W → r k = none) (hm : ∀ j, j < W → m j ≤ 8) :
    Calls Try.prog 42 #[.agg #[.int .i64 B, .int .i64 P, .int .i64 (W : Int), .int .i64 (K : Int)], .slice (some ⟨g, 0, none⟩) W W] w
      fun e w' => ((k < W ∧ e = .returned (.tuple #[.slice none 0 0, .int .i64 0, .bool false])) ∨ (k = W ∧ ∃ v, e = .returned (.tuple #[v, .int .i64 ((mxF m W : Nat) : Int), .bool true]) ∧ OwnS w w' v (sayW W K ws))) ∧ Below w.heap.size w w' := by
  have H := Lib.hid h
  obtain ⟨wb, hwb⟩ : ∃ wb, wb = w.alloc (.cells #[.int .i64 B, .int .i64 P, .int .i64 (W : Int), .int .i64 (K : Int)] 23) := ⟨_, rfl⟩
  have hz : wb.heap.size = w.heap.size + 1 := by rw [hwb, World.size_alloc]
  have hbb : Below w.heap.size w wb := by rw [hwb]; exact Ge.below_alloc w _
  have hX : Ge.Box wb w.heap.size B P W K := by
    have := Ge.Box.new w B P W K
    rwa [← hwb] at this
  have hmk : ∀ w, (Instr.makeSlice 81 (.int .i64 (W : Int)) (.int .i64 (W : Int))).run Try.prog w = .ok (.slice (some ⟨w.heap.size, 0, none⟩) W W) (w.alloc (.cells (madeCells #[.slice none 0 0] W) 35)) :=
    run_make_row' (P := Try.prog) 81 35 (.slice none 0 0) 24 Try.underlying81 info23w rfl .i64 .i64 W (by omega) (by omega)
  have hgl := H.out.pre.lt
  have hR0 : RowsI (wb.alloc (.cells (madeCells #[.slice none 0 0] W) 35)) wb.heap.size W (fun _ => .slice none 0 0) (fun j => if j < 0 then (ws j).take K else []) := ⟨Vs.start wb W, fun j hj => ⟨none, 0, rfl, Nat.le_refl _, ⟨fun x hx => by simp at hx, Or.inl rfl⟩, Or.inl rfl⟩⟩
  have hB0 := hbb.trans ((Ge.below_alloc wb (.cells (madeCells #[.slice none 0 0] W) 35)).mono hbb.size)
  clear h
  go_enter Try.func42, Try.ntmps42
  go_wp2_with fail
  rw [← hwb, ← hz]
  clear hwb
  replace hz := Lib.hid hz
  go_loopw [8, 18] (fun q p wr => ∃ i : Nat, i ≤ k ∧ p = .int .i64 i ∧ q = .int .i64 ((mxF m i : Nat) : Int) ∧ (∃ f, RowsI wr wb.heap.size W f (fun j => if j < i then (ws j).take K else [])) ∧ Ge.Box wr w.heap.size B P W K ∧ Below w.heap.size w wr) (fun _ p _ => W - (intOf p).toNat)
  case atStart => exact ⟨0, Nat.zero_le _, rfl, rfl, ⟨_, hR0⟩, hX.keep (Ge.below_alloc wb _), hB0⟩
  case round =>
    clear hR0 hB0 hmk
    obtain ⟨i, hi, rfl, rfl, ⟨fr, hR⟩, hXr, hB⟩ := hrel
    by_cases hlt : i < k
    · have hiW : i < W := by omega
      have hiI : (i : Int) < (W : Int) := by omega
      have hdi : decide (i < W) = true := decide_eq_true hiW
      have hWr := H.out.keep hB
      have hei := hWr.each i hiW
      rw [hall i hlt] at hei
      have hli := hl i hlt
      obtain ⟨A, c, e0, hc, hs, hne, e1, e2⟩ := hei.yes
      have c0 := hWr.c0 hiW
      have c1 := hWr.c1 hiW
      have c2 := hWr.c2 hiW
      rw [e0, hli] at c0
      rw [e1] at c1
      rw [e2] at c2
      have hO := Ge.below_alloc wr (.cells #[.slice A (K + 16) c, .int .i64 (m i : Int), .bool true] 106)
      have hXq := hXr.keep hO
      have hRq := hR.keep hO
      have q3 := hXq.c3
      obtain ⟨V, hV⟩ : ∃ V, (wr.alloc (.cells #[.slice A (K + 16) c, .int .i64 (m i : Int), .bool true] 106)).cell? ⟨wb.heap.size, i, none⟩ = some V := ⟨_, hRq.vs.cell hiW⟩
      have hfz := hRq.vs.frozen i
      have hKc : (K : Int) ≤ (c : Int) := by omega
      have hBq := hB.trans (hO.mono hB.size)
      have htk : ((ws i).take K).length = K := by rw [List.length_take, hli]; omega
      have hsq := (hs.far hO).take K
      have hneq : (ws i).take K = [] ∨ ∀ a, A = some a → a.block ≠ wb.heap.size := by
        by_cases e : (ws i).take K = []
        · exact Or.inl e
        · exact Or.inr (hRq.ne hsq e)
      have hRn := hRq.lay hiW (A := A) (c := c) (ys := (ws i).take K) (by rw [htk]; omega) hsq hneq
      rw [htk] at hRn
      have hRn' := Lib.hid (hRn.congr (ws' := fun j => if j < i + 1 then (ws j).take K else []) (fun j hj => by
        show (if j = i then (ws i).take K else if j < i then (ws j).take K else []) = if j < i + 1 then (ws j).take K else []
        by_cases e : j = i
        · rw [if_pos e, if_pos (by omega), e]
        · rw [if_neg e]
          by_cases h : j < i
          · rw [if_pos h, if_pos (by omega)]
          · rw [if_neg h, if_neg (by omega)]))
      have hXn := Lib.hid (hXq.other (g := wb.heap.size) (i := i) (.slice A K c) (by have := hz.out; omega))
      have hBn := Lib.hid (hBq.setCell (show w.heap.size ≤ wb.heap.size by have := hz.out; omega) (p := ⟨wb.heap.size, i, none⟩) (.slice A K c))
      have hms : Hid (mxF m (i + 1) = max (mxF m i) (m i)) := Lib.hid rfl
      obtain ⟨M, hM⟩ : ∃ M, m i = M := ⟨_, rfl⟩
      have hM8 : M ≤ 8 := by rw [← hM]; exact hm i hiW
      have hmx : mxF m i ≤ 8 := mxF_le.2 fun j hj => hm j (by omega)
      have hgw : wr.heap.size ≠ wb.heap.size := by have := hR.vs.lt; omega
      have p1 := (cell_block (i := 1) (setCell_block (i := i) (wr.alloc (.cells #[.slice A (K + 16) c, .int .i64 (m i : Int), .bool true] 106)) (.slice A K c) hgw)).trans (B3.new wr 106 (.slice A (K + 16) c) (.int .i64 (m i : Int)) (.bool true)).c1
      rw [hM] at hms c1 q3 hV hfz hRn' hXn hBn p1
      obtain ⟨mx, hmxe⟩ : ∃ mx, mxF m i = mx := ⟨_, rfl⟩
      rw [hmxe] at hms hmx ⊢
      clear hR hXr hB hXq hRq hRn hO hBq hsq hneq hs hne hWr hei
      go_wp2_with fail
      refine ⟨⟨i + 1, by omega, by go_num, ?_, ⟨_, hRn'.out⟩, hXn.out, hBn.out⟩, by simp [intOf]; omega⟩
      rw [hms.out]
      congr 1
      split <;> omega
    · obtain rfl : i = k := by omega
      rcases Nat.lt_or_ge i W with hiW | hge
      · have hiI : (i : Int) < (W : Int) := by omega
        have hdi : decide (i < W) = true := decide_eq_true hiW
        have hWr := H.out.keep hB
        have hei := hWr.each i hiW
        rw [hno hiW] at hei
        obtain ⟨e0, e1, e2⟩ := hei.no
        have c0 := hWr.c0 hiW
        have c1 := hWr.c1 hiW
        have c2 := hWr.c2 hiW
        rw [e0] at c0
        rw [e1] at c1
        rw [e2] at c2
        have hBn := Lib.hid (hB.trans ((Ge.below_alloc wr (.cells #[.slice none 0 0, .int .i64 (m i : Int), .bool false] 106)).mono hB.size))
        clear hR hXr hB hWr hei
        go_wp2_with fail
        go_ret3
        exact ⟨Or.inl ⟨hiW, rfl⟩, hBn.out⟩
      · obtain rfl : i = W := by omega
        have hdi : decide (i < i) = false := decide_eq_false (Nat.lt_irrefl _)
        have hws : ((List.range i).map fun j => if j < i then (ws j).take K else []) = (List.range i).map fun j => (ws j).take K := by
          refine List.map_congr_left fun j hj => ?_
          rw [if_pos (List.mem_range.1 hj)]
        have hsw := hR.sw
        rw [hws] at hsw
        have hlen : ((List.range i).map fun j => (ws j).take K).length = i := by simp
        have hall' : ∀ x ∈ (List.range i).map (fun j => (ws j).take K), x.length = K := by
          intro x hx
          obtain ⟨j, hj, rfl⟩ := List.mem_map.1 hx
          rw [List.length_take, hl j (List.mem_range.1 hj)]
          omega
        have hwN := wvN_all hall' (by intro e; rw [e] at hlen; simp at hlen; omega)
        have hE : outE (i : Int) ((List.range i).map fun j => (ws j).take K) = 0 := outE_ok (by unfold mayB; rw [Bool.and_eq_true, decide_eq_true_eq, decide_eq_true_eq]; omega) (by rw [hlen]) (unl_false fun k hk => by rw [hall' _ (List.getElem_mem hk), hwN]) (by rw [hwN]; omega)
        have hO : outW (i : Int) ((List.range i).map fun j => (ws j).take K) = sayW i K ws := by unfold outW; rw [hE, if_pos rfl]; rfl
        have hout := out_any (i : Int) (some ⟨wb.heap.size, 0, none⟩) i ((List.range i).map fun j => (ws j).take K) wr hsw (by omega) (fun x hx => by rw [hall' x hx]; omega)
        rw [hE, hO, hlen] at hout
        replace hout := Lib.hid hout
        have hc2 := hXr.c2
        have hmx : mxF m i ≤ 8 := mxF_le.2 fun j hj => hm j (by omega)
        replace hB := Lib.hid hB
        obtain ⟨mx, hmx2⟩ : ∃ mx, Hid (mxF m i = mx) := ⟨_, Lib.hid rfl⟩
        rw [hmx2.out] at hmx ⊢
        clear hsw hR hXr hlen hall' hE hO hws hwN
        go_wp2_with (go_at_call 59; (with_reducible refine hout.out.mono ?_); rintro e w2 ⟨v2, rfl, ho2, hb2⟩)
        go_ret3
        refine ⟨⟨v2, ?_, ho2.low hB.out.size⟩, hB.out.trans (hb2.mono hB.out.size)⟩
        rw [hmx2.out]
        rfl
/-- why points are no page's, by its number -/
def rfE (B P W K : Int) (n : Nat) : Nat := if Ge.mayG B P W K = false then 1 else if (n : Int) ≠ Ge.celG B P W K then 3 else 0
theorem rfE_arg {B P W K : Int} {n : Nat} (h : Ge.mayG B P W K = false) : rfE B P W K n = 1 := by unfold rfE; rw [if_pos h]
theorem rfE_size {B P W K : Int} {n : Nat} (h : Ge.mayG B P W K = true) (h2 : (n : Int) ≠ Ge.celG B P W K) : rfE B P W K n = 3 := by unfold rfE; rw [if_neg (by rw [h]; simp), if_pos h2]
theorem rfE_ok {B P W K : Int} {n : Nat} (h : Ge.mayG B P W K = true) (h2 : (n : Int) = Ge.celG B P W K) : rfE B P W K n = 0 := by unfold rfE; rw [if_neg (by rw [h]; simp), if_neg (by simp [h2])]
set_option maxHeartbeats 4000000 in
theorem refused_any {B P W K : Int} {A : Option Addr} {n c : Nat} {w : World} (h6 : n ≤ 1000000) :
    Calls Try.prog 41 #[.agg #[.int .i64 B, .int .i64 P, .int .i64 W, .int .i64 K], .slice A n c] w fun e w' => e = .returned (.int .i64 (rfE B P W K n : Int)) ∧ Below w.heap.size w w' := by
  obtain ⟨wb, hwb⟩ : ∃ wb, wb = w.alloc (.cells #[.int .i64 B, .int .i64 P, .int .i64 W, .int .i64 K] 23) := ⟨_, rfl⟩
  have hbb : Below w.heap.size w wb := by rw [hwb]; exact Ge.below_alloc w _
  have hX : Ge.Box wb w.heap.size B P W K := by
    have := Ge.Box.new w B P W K
    rwa [← hwb] at this
  have hmay := Lib.hid (Ge.may_any B P W K wb)
  obtain ⟨x1, x2, x3, x4, x5⟩ := id hX
  cases hM : Ge.mayG B P W K
  · rw [rfE_arg hM]
    rw [hM] at hmay
    rw [hwb] at hmay x2 x3 x4 x5
    go_enter Try.func41, Try.ntmps41
    go_wp2_with (go_at_call 30; (with_reducible refine hmay.out.mono ?_); rintro e w1 ⟨rfl, hb1⟩; rw [← hwb] at hb1; have hbw1 := hbb.trans (hb1.mono hbb.size))
    go_ret
    exact ⟨rfl, hbw1⟩
  · rw [hM] at hmay
    by_cases hsz : (n : Int) = Ge.celG B P W K
    · have hne : ((n : Int) != Ge.celG B P W K) = false := by simp [hsz]
      rw [rfE_ok hM hsz]
      rw [hwb] at hmay x2 x3 x4 x5
      clear hsz
      go_enter Try.func41, Try.ntmps41
      go_wp2_with (first
        | (go_at_call 30; (with_reducible refine hmay.out.mono ?_); rintro e w1 ⟨rfl, hb1⟩; rw [← hwb] at hb1; have hbw1 := hbb.trans (hb1.mono hbb.size); obtain ⟨n1, n2, n3, n4, n5⟩ := hX.keep hb1; have hcl := Lib.hid (Ge.cells_any B P W K w1))
        | (go_at_call 65; (with_reducible refine hcl.out.mono ?_); rintro e w2 ⟨rfl, hb2⟩; have hbw2 := hbw1.trans (hb2.mono hbw1.size)))
      go_ret
      exact ⟨rfl, hbw2⟩
    · have hne : ((n : Int) != Ge.celG B P W K) = true := by simp [hsz]
      rw [rfE_size hM hsz]
      rw [hwb] at hmay x2 x3 x4 x5
      clear hsz
      go_enter Try.func41, Try.ntmps41
      go_wp2_with (first
        | (go_at_call 30; (with_reducible refine hmay.out.mono ?_); rintro e w1 ⟨rfl, hb1⟩; rw [← hwb] at hb1; have hbw1 := hbb.trans (hb1.mono hbb.size); obtain ⟨n1, n2, n3, n4, n5⟩ := hX.keep hb1; have hcl := Lib.hid (Ge.cells_any B P W K w1))
        | (go_at_call 65; (with_reducible refine hcl.out.mono ?_); rintro e w2 ⟨rfl, hb2⟩; have hbw2 := hbw1.trans (hb2.mono hbw1.size)))
      go_ret
      exact ⟨rfl, hbw2⟩
end Go.Proofs.Ytmchelbmeajcnaa
namespace Go.Proofs.Ytmchelbmeajcnaa
open Go.RowKit Go.Gf Go.Fl
set_option linter.unusedVariables false
set_option linter.unusedSimpArgs false
set_option maxRecDepth 20000
attribute [local go_sem ↓] exec_load_tb Cl.quiet_since
attribute [local go_sem] tbAt_ptr tbIn_ptr

/-- what is to be read from the points xs, whose symbols are ss: a head, a number, data, an error's number -/
inductive RdS (B P W K : Int) (xs : List (Nat × Nat)) (ss : List Nat) : Nat → Nat → Nat → Nat → List Nat → Nat → Prop where
  | arg (h : Ge.mayG B P W K = false) : RdS B P W K xs ss 0 0 0 0 [] 1
  | size (h : Ge.mayG B P W K = true) (h2 : (xs.length : Int) ≠ Ge.celG B P W K) : RdS B P W K xs ss 0 0 0 0 [] 3
  | none (h : Ge.mayG B P W K = true) (h2 : (xs.length : Int) = Ge.celG B P W K) (h3 : blkB xs = true) : RdS B P W K xs ss 0 0 0 0 [] 13
  | data (h : Ge.mayG B P W K = true) (h2 : (xs.length : Int) = Ge.celG B P W K) (h3 : blkB xs = false) (j : Nat) (hj : j < W.toNat) (h4 : ∀ ys, ¬ GoodR W.toNat (K.toNat + 16) ss (zX xs) j ys) : RdS B P W K xs ss 0 0 0 0 [] 4
  | form (h : Ge.mayG B P W K = true) (h2 : (xs.length : Int) = Ge.celG B P W K) (h3 : blkB xs = false) (ws : Nat → List Nat) (hg : ∀ j, j < W.toNat → GoodR W.toNat (K.toNat + 16) ss (zX xs) j (ws j)) (h4 : sayB (W.toNat * K.toNat) (sayW W.toNat K.toNat ws) = false) : RdS B P W K xs ss 0 0 0 0 [] 12
  | ok (h : Ge.mayG B P W K = true) (h2 : (xs.length : Int) = Ge.celG B P W K) (h3 : blkB xs = false) (ws : Nat → List Nat) (hg : ∀ j, j < W.toNat → GoodR W.toNat (K.toNat + 16) ss (zX xs) j (ws j)) (h4 : sayB (W.toNat * K.toNat) (sayW W.toNat K.toNat ws) = true) :
      RdS B P W K xs ss (sayK (sayW W.toNat K.toNat ws)) (sayN (sayW W.toNat K.toNat ws)) (sayQ (sayW W.toNat K.toNat ws)) (mxF (fun j => nbW W.toNat (K.toNat + 16) ss (zX xs) j (ws j)) W.toNat) (sayD (W.toNat * K.toNat) (sayW W.toNat K.toNat ws)) 0
/-- .. as it is answered -/
def RdV (k l q n : Nat) (d : List Nat) (er : Nat) (w : World) (e : Ending) (w' : World) : Prop :=
  ∃ A c, e = .returned (.tuple #[.agg #[.int .i64 (k : Int), .int .i64 (l : Int), .int .i64 (q : Int)], .slice A d.length c, .int .i64 (n : Int), .int .i64 (er : Int)]) ∧ d.length ≤ c ∧ Sb w' w'.heap.size A d ∧ Below w.heap.size w w'
theorem sayW_len {W K : Nat} {ws : Nat → List Nat} {n : Nat} (h0 : 0 < W) (hl : ∀ j, j < W → (ws j).length = n) (hK : K ≤ n) : (sayW W K ws).length = W * K := by
  have hall : ∀ x ∈ (List.range W).map (fun j => (ws j).take K), x.length = K := by
    intro x hx
    obtain ⟨j, hj, rfl⟩ := List.mem_map.1 hx
    rw [List.length_take, hl j (List.mem_range.1 hj)]
    omega
  unfold sayW
  rw [wvOf_len, wvN_all hall (by intro e; have := congrArg List.length e; simp at this; omega)]
  simp
theorem sayW_bd {W K : Nat} {ws : Nat → List Nat} (hb : ∀ j, j < W → ∀ y ∈ ws j, y < 1024) : ∀ y ∈ sayW W K ws, y < 1024 := by
  unfold sayW wvOf
  refine rm_mem fun i _ => ?_
  unfold wvF
  refine at_lt (fun y hy => ?_) (by decide)
  rw [List.getD_eq_getElem?_getD] at hy
  rcases Nat.lt_or_ge (i % ((List.range W).map fun j => (ws j).take K).length) ((List.range W).map fun j => (ws j).take K).length with h | h
  · rw [List.getElem?_eq_getElem h, Option.getD_some, List.getElem_map, List.getElem_range] at hy
    have hW : i % ((List.range W).map fun j => (ws j).take K).length < W := by simpa using h
    exact hb _ hW y (List.mem_of_mem_take hy)
  · rw [List.getElem?_eq_none h, Option.getD_none] at hy
    cases hy
theorem sayW_congr {W K : Nat} {ws vs : Nat → List Nat} (h : ∀ j, j < W → ws j = vs j) : sayW W K ws = sayW W K vs := by
  unfold sayW
  rw [List.map_congr_left fun j hj => by rw [h j (List.mem_range.1 hj)]]
/-- how each word is read -/
theorem rd_exists (W n : Nat) (ss : List Nat) (z : Nat → Bool) : ∃ r : Nat → Option (List Nat), ∀ j, RdW W n ss z j (r j) := by
  have hex : ∀ j, ∃ o : Option (List Nat), RdW W n ss z j o := fun j => by
    rcases Classical.em (∃ ys, GoodR W n ss z j ys) with ⟨ys, h⟩ | h
    · exact ⟨some ys, h⟩
    · exact ⟨none, fun ys hy => h ⟨ys, hy⟩⟩
  exact Classical.axiomOfChoice hex
/-- the first one of a row that is nothing, or there is none -/
theorem first_none (r : Nat → Option (List Nat)) (W : Nat) : ∃ k, k ≤ W ∧ (∀ j, j < k → r j = some ((r j).getD [])) ∧ (k < W → r k = none) := by
  induction W with
  | zero => exact ⟨0, Nat.le_refl _, fun j h => absurd h (by omega), fun h => absurd h (by omega)⟩
  | succ W ih =>
    obtain ⟨k, h1, h2, h3⟩ := ih
    rcases Nat.lt_or_ge k W with h | h
    · exact ⟨k, by omega, h2, fun _ => h3 h⟩
    · obtain rfl : k = W := by omega
      cases e : r k with
      | none => exact ⟨k, by omega, h2, fun _ => e⟩
      | some ys =>
        refine ⟨k + 1, Nat.le_refl _, fun j hj => ?_, fun h => absurd h (by omega)⟩
        rcases Nat.lt_or_ge j k with h4 | h4
        · exact h2 j h4
        · obtain rfl : j = k := by omega
          rw [e]; rfl
theorem wrO_le {W n : Nat} {ss : List Nat} {z : Nat → Bool} {j : Nat} {o : Option (List Nat)} (h : RdW W n ss z j o) : wrO W n ss z j o ≤ 8 := by
  cases o with
  | none => exact Nat.zero_le _
  | some ys => exact h.2
theorem rdW_len {W n : Nat} {ss : List Nat} {z : Nat → Bool} {j : Nat} {ys : List Nat} (h : RdW W n ss z j (some ys)) : ys.length = n := near_len h.1
/-- joined, where a word can't be read; and where all can -/
theorem joined_no {B P : Int} {W K g : Nat} {f : Nat → Value} {r : Nat → Option (List Nat)} {ss : List Nat} {z : Nat → Bool} {w : World} (hW : 1 ≤ W ∧ W ≤ 4) (hK : 1 ≤ K ∧ K ≤ 64) (h : WdsI w g W f r (fun j => wrO W (K + 16) ss z j (r j)) W) (hr : ∀ j, j < W → RdW W (K + 16) ss z j (r j))
    (hno : ∃ j, j < W ∧ ∀ ys, ¬ GoodR W (K + 16) ss z j ys) :
    Calls Try.prog 42 #[.agg #[.int .i64 B, .int .i64 P, .int .i64 (W : Int), .int .i64 (K : Int)], .slice (some ⟨g, 0, none⟩) W W] w
      fun e w' => e = .returned (.tuple #[.slice none 0 0, .int .i64 0, .bool false]) ∧ Below w.heap.size w w' := by
  obtain ⟨k, h1, h2, h3⟩ := first_none r W
  have hlen : ∀ j, j < k → ((r j).getD []).length = K + 16 := fun j hj => by
    have := hr j (by omega)
    rw [h2 j hj] at this
    exact rdW_len this
  refine (joined_any hW hK h k (fun j => (r j).getD []) h1 h2 hlen h3 (fun j hj => wrO_le (hr j hj))).mono ?_
  rintro e w' ⟨h4, hb⟩
  rcases h4 with ⟨_, he⟩ | ⟨hk, _⟩
  · exact ⟨he, hb⟩
  · obtain ⟨j, hj, hbad⟩ := hno
    have := hr j hj
    rw [h2 j (by omega)] at this
    exact absurd this (hbad _)
theorem joined_yes {B P : Int} {W K g : Nat} {f : Nat → Value} {r : Nat → Option (List Nat)} {ss : List Nat} {z : Nat → Bool} {w : World} (hW : 1 ≤ W ∧ W ≤ 4) (hK : 1 ≤ K ∧ K ≤ 64) (h : WdsI w g W f r (fun j => wrO W (K + 16) ss z j (r j)) W) (hr : ∀ j, j < W → RdW W (K + 16) ss z j (r j))
    (ws : Nat → List Nat) (hg : ∀ j, j < W → GoodR W (K + 16) ss z j (ws j)) :
    Calls Try.prog 42 #[.agg #[.int .i64 B, .int .i64 P, .int .i64 (W : Int), .int .i64 (K : Int)], .slice (some ⟨g, 0, none⟩) W W] w
      fun e w' => ∃ v, e = .returned (.tuple #[v, .int .i64 ((mxF (fun j => nbW W (K + 16) ss z j (ws j)) W : Nat) : Int), .bool true]) ∧ OwnS w w' v (sayW W K ws) ∧ Below w.heap.size w w' := by
  have hall : ∀ j, j < W → r j = some (ws j) := fun j hj => by
    have h1 := hr j hj
    cases e : r j with
    | none => rw [e] at h1; exact absurd (hg j hj) (h1 _)
    | some ys => rw [e] at h1; rw [good_unique (by omega) h1 (hg j hj)]
  refine (joined_any hW hK h W ws (Nat.le_refl _) hall (fun j hj => near_len (hg j hj).1) (fun h => absurd h (by omega)) (fun j hj => wrO_le (hr j hj))).mono ?_
  rintro e w' ⟨h4, hb⟩
  rcases h4 with ⟨hk, _⟩ | ⟨_, v, he, ho⟩
  · exact absurd hk (by omega)
  · refine ⟨v, ?_, ho, hb⟩
    rw [he, mxF_congr (g := fun j => wrO W (K + 16) ss z j (r j)) (h := fun j => nbW W (K + 16) ss z j (ws j)) (fun j hj => by show wrO W (K + 16) ss z j (r j) = _; rw [hall j hj]; rfl)]
set_option maxHeartbeats 8000000 in
theorem read_any {cs : List Nat} (hcs : Tab cs) {B P W K : Int} {A : Option Addr} {c : Nat} {xs : List (Nat × Nat)} {ss : List Nat} {w : World} (hs : Cx w w.heap.size A xs) (h6 : xs.length ≤ 1000000)
    (hn : ss.length = xs.length) (hsl : ∀ i, i < xs.length → SlcIs (xA xs i) (at_ ss i)) (hb : ∀ y ∈ ss, y < 1024) :
    Calls Try.prog 19 #[.agg (cells cs), .agg #[.int .i64 B, .int .i64 P, .int .i64 W, .int .i64 K], .slice A xs.length c] w fun e w' => ∃ k l q n d er, RdS B P W K xs ss k l q n d er ∧ RdV k l q n d er w e w' := by
  have H := Lib.hid hs
  have HCS := Lib.hid hcs
  obtain ⟨wa, hwa⟩ : ∃ wa, wa = w.alloc (.cells (cells cs) 33) := ⟨_, rfl⟩
  obtain ⟨wb, hwb⟩ : ∃ wb, wb = wa.alloc (.cells #[.int .i64 B, .int .i64 P, .int .i64 W, .int .i64 K] 23) := ⟨_, rfl⟩
  obtain ⟨wc, hwc⟩ : ∃ wc, wc = wb.alloc (.cells #[.int .i64 0, .int .i64 0, .int .i64 0] 25) := ⟨_, rfl⟩
  have hza : wa.heap.size = w.heap.size + 1 := by rw [hwa, World.size_alloc]
  have hzb : wb.heap.size = w.heap.size + 1 + 1 := by rw [hwb, World.size_alloc, hza]
  have hba : Below w.heap.size w wa := by rw [hwa]; exact Ge.below_alloc w _
  have hbc' : Below wb.heap.size wb wc := by rw [hwc]; exact Ge.below_alloc wb _
  have hab : Below wa.heap.size wa wb := by rw [hwb]; exact Ge.below_alloc wa _
  have hbb : Below w.heap.size w wb := hba.trans (hab.mono hba.size)
  have hbc : Below w.heap.size w wc := hbb.trans (hbc'.mono hbb.size)
  have hT : Tb wc w.heap.size cs := by
    have h1 : Tb wa w.heap.size cs := by rw [hwa]; exact tb_new w cs
    exact (h1.keep hab).keep hbc'
  have hX : Ge.Box wc (w.heap.size + 1) B P W K := by
    have := Ge.Box.new wa B P W K
    rw [← hwb, hza] at this
    exact this.keep hbc'
  have hH : Hdo wc (w.heap.size + 1 + 1) 0 0 0 := by
    have := Hdo.new wb 0 0 0
    rwa [← hwc, hzb] at this
  have hrf := Lib.hid (refused_any (B := B) (P := P) (W := W) (K := K) (A := A) (c := c) (w := wc) h6)
  obtain ⟨x1, x2, x3, x4, x5⟩ := id hX
  cases hM : Ge.mayG B P W K
  · have hR := RdS.arg (xs := xs) (ss := ss) hM
    rw [rfE_arg hM] at hrf
    have hE0 : (((1 : Nat) : Int) != 0) = true := by decide
    go_enter Try.func19, Try.ntmps19
    go_upto_region 1 with fail
    rw [← hwa, ← hwb, ← hwc]
    clear hwa hwb hwc
    go_wp2_with (go_at_call 41; (with_reducible refine hrf.out.mono ?_); rintro e w1 ⟨rfl, hb1⟩; have hH1 := hH.keep hb1; obtain ⟨j1, j2, j3, j4⟩ := hH1.hed; have jf := hH1.frozen; have hbw1 := hbc.trans (hb1.mono hbc.size))
    refine bodyPost_ret (results_m4 rfl rfl (hH1.set_ 0 0 0).hed) rfl ?_
    exact ⟨0, 0, 0, 0, [], 1, hR, none, 0, rfl, Nat.le_refl _, Sb.nil _ _ _, below_set3 hbw1 (by omega) _ _ _⟩
  · by_cases hsz : (xs.length : Int) = Ge.celG B P W K
    · rw [rfE_ok hM hsz] at hrf
      cases hbk : blkB xs
      · obtain ⟨W', K', N, rfl, rfl, hN, hW1, hW4, hK1, hK64, h8, h256, hsg, hcg⟩ := mayG_of hM
        have hxl : xs.length = W' * (K' + 16) := by rw [hcg] at hsz; exact Int.ofNat.inj hsz
        have hsz' := hsz
        replace hn := Lib.hid hn
        replace hsl := Lib.hid hsl
        replace hb := Lib.hid hb
        replace hxl := Lib.hid hxl
        replace hsz' := Lib.hid hsz'
        clear hsz hcg
        obtain ⟨r, hr⟩ := rd_exists W' (K' + 16) ss (zX xs)
        have HM : Hid (∀ w', Cx w' w'.heap.size A xs → Calls Try.prog 43 #[.agg (cells cs), .agg #[.int .i64 B, .int .i64 P, .int .i64 (W' : Int), .int .i64 (K' : Int)], .slice A xs.length c] w' fun e w'' => ∃ g f, e = .returned (.slice (some ⟨g, 0, none⟩) W' W') ∧ w'.heap.size ≤ g ∧ WdsI w'' g W' f r (fun j => wrO W' (K' + 16) ss (zX xs) j (r j)) W' ∧ Below w'.heap.size w' w'') := fun w' h => mended_any HCS.out ⟨hW1, hW4⟩ ⟨hK1, hK64⟩ h hxl.out hn.out hsl.out hb.out r (fun j _ => hr j)
        by_cases hbad : ∃ j, j < W' ∧ ∀ ys, ¬ GoodR W' (K' + 16) ss (zX xs) j ys
        · have hR : Hid (RdS B P (W' : Int) (K' : Int) xs ss 0 0 0 0 [] 4) := by
            obtain ⟨j, hj, h⟩ := hbad
            exact RdS.data hM hsz'.out hbk j hj h
          have HJ : Hid (∀ w' g f, WdsI w' g W' f r (fun j => wrO W' (K' + 16) ss (zX xs) j (r j)) W' → Calls Try.prog 42 #[.agg #[.int .i64 B, .int .i64 P, .int .i64 (W' : Int), .int .i64 (K' : Int)], .slice (some ⟨g, 0, none⟩) W' W'] w' fun e w'' => e = .returned (.tuple #[.slice none 0 0, .int .i64 0, .bool false]) ∧ Below w'.heap.size w' w'') := fun w' g f h => joined_no ⟨hW1, hW4⟩ ⟨hK1, hK64⟩ h (fun j _ => hr j) hbad
          clear hbad hr
          go_enter Try.func19, Try.ntmps19
          go_upto_region 1 with fail
          rw [← hwa, ← hwb, ← hwc]
          clear hwa hwb hwc
          go_wp2_with (first
            | (go_at_call 41; (with_reducible refine hrf.out.mono ?_); rintro e w1 ⟨rfl, hb1⟩; have hT1 := hT.keep hb1; have hX1 := hX.keep hb1; have hH1 := hH.keep hb1; have hbw1 := hbc.trans (hb1.mono hbc.size); have hbl := Lib.hid (blank_any A c xs w1 (H.out.far hbw1) h6); rw [hbk] at hbl)
            | (go_at_call 23; (with_reducible refine hbl.out.mono ?_); rintro e w2 ⟨rfl, rfl⟩))
          refine Cl.region_way (fun _ => True) 13 [(0, .r), (1, .r), (2, .r), (3, .r), (4, .c), (5, .c), (6, .r), (7, .r), (8, .r), (9, .r), (10, .r), (11, .r), (12, .r)] (by kernel_rfl) (by kernel_rfl) ?_
          intro w3 hk3
          have hb3 := Cl.Keeps.below hk3
          have hT3 := Lib.hid (hT1.keep hb3)
          have hX3 := Lib.hid (hX1.keep hb3)
          have hH3 := Lib.hid (hH1.keep hb3)
          have hbw3 := Lib.hid (hbw1.trans (hb3.mono hbw1.size))
          have hi3 : ∀ y : Cl.Since (fun _ => True) w3, isTb y.w w.heap.size = true := fun y => (hT3.out.keep (Cl.Keeps.below y.keeps)).is HCS.out.1
          have ho3 : ∀ y : Cl.Since (fun _ => True) w3, tbOf y.w w.heap.size = cells cs := fun y => (hT3.out.keep (Cl.Keeps.below y.keeps)).of
          have b0 : ∀ y : Cl.Since (fun _ => True) w3, y.w.cell? ⟨w.heap.size + 1, 0, none⟩ = some (.int .i64 B) := fun y => (hX3.out.keep (Cl.Keeps.below y.keeps)).c0
          have b1 : ∀ y : Cl.Since (fun _ => True) w3, y.w.cell? ⟨w.heap.size + 1, 1, none⟩ = some (.int .i64 P) := fun y => (hX3.out.keep (Cl.Keeps.below y.keeps)).c1
          have b2 : ∀ y : Cl.Since (fun _ => True) w3, y.w.cell? ⟨w.heap.size + 1, 2, none⟩ = some (.int .i64 (W' : Int)) := fun y => (hX3.out.keep (Cl.Keeps.below y.keeps)).c2
          have b3 : ∀ y : Cl.Since (fun _ => True) w3, y.w.cell? ⟨w.heap.size + 1, 3, none⟩ = some (.int .i64 (K' : Int)) := fun y => (hX3.out.keep (Cl.Keeps.below y.keeps)).c3
          have hmd := Lib.hid (HM.out w3 (H.out.far hbw3.out))
          clear hk3 hb3 hT hX hH hT1 hX1 hH1 hbw1 hb1 hrf hbl
          iterate 4 (refine Cl.way_r rfl ?_; go_big_quiet_step (fail); refine wpQuiet_nil ?_)
          clear hi3 ho3 b0 b1 b2 b3
          refine Cl.way_c rfl ?_
          go_wp2_with (go_at_call 43; (with_reducible refine hmd.out.mono ?_); rintro e w4 ⟨g, f, rfl, hg, hWd, hb4⟩)
          refine Cl.way_on (Cl.Keeps.of_below hb4) ?_
          have hjn := Lib.hid (HJ.out w4 g f hWd)
          have hX4 := Lib.hid (hX3.out.keep hb4)
          have hH4 := Lib.hid (hH3.out.keep hb4)
          have hbw4 := Lib.hid (hbw3.out.trans (hb4.mono hbw3.out.size))
          clear hb4 hWd hX3 hH3 hbw3 hmd hT3
          refine Cl.way_c rfl ?_
          go_wp2_with (go_at_call 42; (with_reducible refine hjn.out.mono ?_); rintro e w5 ⟨rfl, hb5⟩)
          refine Cl.way_on (Cl.Keeps.of_below hb5) ?_
          have hH5 := hH4.out.keep hb5
          have hbw5 := hbw4.out.trans (hb5.mono hbw4.out.size)
          clear hX4 hH4 hbw4 hb5 hjn
          iterate 7 (refine Cl.way_r rfl ?_; go_big_quiet_step (fail); refine wpQuiet_nil ?_)
          refine Cl.way_end ?_
          obtain ⟨j1, j2, j3, j4⟩ := hH5.hed
          have jf := hH5.frozen
          go_wp2_with fail
          refine bodyPost_ret (results_m4 rfl rfl (hH5.set_ 0 0 0).hed) rfl ?_
          exact ⟨0, 0, 0, 0, [], 4, hR.out, none, 0, rfl, Nat.le_refl _, Sb.nil _ _ _, below_set3 hbw5 (by omega) _ _ _⟩
        · have hex : ∀ j, ∃ ys, j < W' → GoodR W' (K' + 16) ss (zX xs) j ys := fun j => by
            by_cases hj : j < W'
            · rcases Classical.em (∃ ys, GoodR W' (K' + 16) ss (zX xs) j ys) with ⟨ys, h⟩ | h
              · exact ⟨ys, fun _ => h⟩
              · exact absurd ⟨j, hj, fun ys hy => h ⟨ys, hy⟩⟩ hbad
            · exact ⟨[], fun h => absurd h hj⟩
          obtain ⟨ws, hws⟩ := Classical.axiomOfChoice hex
          clear hbad hex
          have hwl : ∀ j, j < W' → (ws j).length = K' + 16 := fun j hj => near_len (hws j hj).1
          have hsl' := sayW_len (W := W') (K := K') (ws := ws) hW1 hwl (by omega)
          have hsb' := sayW_bd (W := W') (K := K') (ws := ws) (fun j hj => (hws j hj).1.bd)
          have HJ : Hid (∀ w' g f, WdsI w' g W' f r (fun j => wrO W' (K' + 16) ss (zX xs) j (r j)) W' → Calls Try.prog 42 #[.agg #[.int .i64 B, .int .i64 P, .int .i64 (W' : Int), .int .i64 (K' : Int)], .slice (some ⟨g, 0, none⟩) W' W'] w' fun e w'' => ∃ v, e = .returned (.tuple #[v, .int .i64 ((mxF (fun j => nbW W' (K' + 16) ss (zX xs) j (ws j)) W' : Nat) : Int), .bool true]) ∧ OwnS w' w'' v (sayW W' K' ws) ∧ Below w'.heap.size w' w'') := fun w' g f h => joined_yes ⟨hW1, hW4⟩ ⟨hK1, hK64⟩ h (fun j _ => hr j) ws hws
          obtain ⟨S, hS⟩ : ∃ S, sayW W' K' ws = S := ⟨_, rfl⟩
          obtain ⟨M, hMx⟩ : ∃ M, mxF (fun j => nbW W' (K' + 16) ss (zX xs) j (ws j)) W' = M := ⟨_, rfl⟩
          rw [hS, hMx] at HJ
          rw [hS] at hsl' hsb'
          rw [hN] at hsl'
          cases hSB : sayB N S
          · have hR : Hid (RdS B P (W' : Int) (K' : Int) xs ss 0 0 0 0 [] 12) := RdS.form hM hsz'.out hbk ws hws (by show sayB (W' * K') (sayW W' K' ws) = false; rw [hS, hN]; exact hSB)
            have HD : Hid (∀ w' A' c', Sl w' w'.heap.size A' S → S.length ≤ c' → Calls Try.prog 44 #[.agg #[.int .i64 B, .int .i64 P, .int .i64 (W' : Int), .int .i64 (K' : Int)], .slice A' S.length c'] w' fun e w'' => e = .returned (.tuple #[.agg #[.int .i64 0, .int .i64 0, .int .i64 0], .slice none 0 0, .bool false]) ∧ Below w'.heap.size w' w'') := fun w' A' c' h1 h2 => by
              refine (said_any hM hN h1 hsl' hsb' (by rw [← hsl']; exact h2)).mono ?_
              rintro e w'' ⟨h, hbb⟩
              rcases h with ⟨_, he⟩ | ⟨_, _, h, _⟩
              · exact ⟨he, hbb⟩
              · rw [hSB] at h; cases h
            clear hMx hS hSB hws hsl' hsb' hr
            go_enter Try.func19, Try.ntmps19
            go_upto_region 1 with fail
            rw [← hwa, ← hwb, ← hwc]
            clear hwa hwb hwc
            go_wp2_with (first
              | (go_at_call 41; (with_reducible refine hrf.out.mono ?_); rintro e w1 ⟨rfl, hb1⟩; have hT1 := hT.keep hb1; have hX1 := hX.keep hb1; have hH1 := hH.keep hb1; have hbw1 := hbc.trans (hb1.mono hbc.size); have hbl := Lib.hid (blank_any A c xs w1 (H.out.far hbw1) h6); rw [hbk] at hbl)
              | (go_at_call 23; (with_reducible refine hbl.out.mono ?_); rintro e w2 ⟨rfl, rfl⟩))
            refine Cl.region_way (fun _ => True) 13 [(0, .r), (1, .r), (2, .r), (3, .r), (4, .c), (5, .c), (6, .r), (7, .r), (8, .r), (9, .r), (10, .r), (11, .r), (12, .r)] (by kernel_rfl) (by kernel_rfl) ?_
            intro w3 hk3
            have hb3 := Cl.Keeps.below hk3
            have hT3 := Lib.hid (hT1.keep hb3)
            have hX3 := Lib.hid (hX1.keep hb3)
            have hH3 := Lib.hid (hH1.keep hb3)
            have hbw3 := Lib.hid (hbw1.trans (hb3.mono hbw1.size))
            have hi3 : ∀ y : Cl.Since (fun _ => True) w3, isTb y.w w.heap.size = true := fun y => (hT3.out.keep (Cl.Keeps.below y.keeps)).is HCS.out.1
            have ho3 : ∀ y : Cl.Since (fun _ => True) w3, tbOf y.w w.heap.size = cells cs := fun y => (hT3.out.keep (Cl.Keeps.below y.keeps)).of
            have b0 : ∀ y : Cl.Since (fun _ => True) w3, y.w.cell? ⟨w.heap.size + 1, 0, none⟩ = some (.int .i64 B) := fun y => (hX3.out.keep (Cl.Keeps.below y.keeps)).c0
            have b1 : ∀ y : Cl.Since (fun _ => True) w3, y.w.cell? ⟨w.heap.size + 1, 1, none⟩ = some (.int .i64 P) := fun y => (hX3.out.keep (Cl.Keeps.below y.keeps)).c1
            have b2 : ∀ y : Cl.Since (fun _ => True) w3, y.w.cell? ⟨w.heap.size + 1, 2, none⟩ = some (.int .i64 (W' : Int)) := fun y => (hX3.out.keep (Cl.Keeps.below y.keeps)).c2
            have b3 : ∀ y : Cl.Since (fun _ => True) w3, y.w.cell? ⟨w.heap.size + 1, 3, none⟩ = some (.int .i64 (K' : Int)) := fun y => (hX3.out.keep (Cl.Keeps.below y.keeps)).c3
            have hmd := Lib.hid (HM.out w3 (H.out.far hbw3.out))
            clear hk3 hb3 hT hX hH hT1 hX1 hH1 hbw1 hb1 hrf hbl
            iterate 4 (refine Cl.way_r rfl ?_; go_big_quiet_step (fail); refine wpQuiet_nil ?_)
            clear hi3 ho3 b0 b1 b2 b3
            refine Cl.way_c rfl ?_
            go_wp2_with (go_at_call 43; (with_reducible refine hmd.out.mono ?_); rintro e w4 ⟨g, f, rfl, hg, hWd, hb4⟩)
            refine Cl.way_on (Cl.Keeps.of_below hb4) ?_
            have hjn := Lib.hid (HJ.out w4 g f hWd)
            have hX4 := Lib.hid (hX3.out.keep hb4)
            have hH4 := Lib.hid (hH3.out.keep hb4)
            have hbw4 := Lib.hid (hbw3.out.trans (hb4.mono hbw3.out.size))
            clear hb4 hWd hX3 hH3 hbw3 hmd hT3
            refine Cl.way_c rfl ?_
            go_wp2_with (go_at_call 42; (with_reducible refine hjn.out.mono ?_); rintro e w5 ⟨v5, rfl, ho5, hb5⟩)
            refine Cl.way_on (Cl.Keeps.of_below hb5) ?_
            have hX5 := hX4.out.keep hb5
            have hH5 := Lib.hid (hH4.out.keep hb5)
            have hbw5 := Lib.hid (hbw4.out.trans (hb5.mono hbw4.out.size))
            obtain ⟨p1, p2, p3, p4, p5⟩ := id hX5
            obtain ⟨A5, c5, rfl, hc5, hs5⟩ := ho5.sl
            have hsd := Lib.hid (HD.out w5 A5 c5 hs5 hc5)
            clear hX4 hH4 hbw4 hb5 hjn ho5 hs5 hc5
            iterate 7 (refine Cl.way_r rfl ?_; go_big_quiet_step (fail); refine wpQuiet_nil ?_)
            refine Cl.way_end ?_
            go_wp2_with (go_at_call 44; (with_reducible refine hsd.out.mono ?_); rintro e w6 ⟨rfl, hb6⟩; have hb6' := hb6.trans ((Ge.below_alloc w6 (.cells #[.int .i64 0, .int .i64 0, .int .i64 0] 25)).mono hb6.size); have hH6 := hH5.out.keep hb6'; obtain ⟨j1, j2, j3, j4⟩ := hH6.hed; have jf := hH6.frozen; have hbw6 := hbw5.out.trans (hb6'.mono hbw5.out.size))
            refine bodyPost_ret (results_m4 rfl rfl (hH6.set_ 0 0 0).hed) rfl ?_
            exact ⟨0, 0, 0, 0, [], 12, hR.out, none, 0, rfl, Nat.le_refl _, Sb.nil _ _ _, below_set3 hbw6 (by omega) _ _ _⟩
          · have hR : Hid (RdS B P (W' : Int) (K' : Int) xs ss (sayK S) (sayN S) (sayQ S) M (sayD N S) 0) := by
              have := RdS.ok hM hsz'.out hbk ws hws (by show sayB (W' * K') (sayW W' K' ws) = true; rw [hS, hN]; exact hSB)
              simp only [Int.toNat_natCast] at this
              rw [hS, hMx, hN] at this
              exact this
            have HD : Hid (∀ w' A' c', Sl w' w'.heap.size A' S → S.length ≤ c' → Calls Try.prog 44 #[.agg #[.int .i64 B, .int .i64 P, .int .i64 (W' : Int), .int .i64 (K' : Int)], .slice A' S.length c'] w' fun e w'' => ∃ A c, e = .returned (.tuple #[.agg #[.int .i64 ((sayK S : Nat) : Int), .int .i64 ((sayN S : Nat) : Int), .int .i64 ((sayQ S : Nat) : Int)], .slice A (sayD N S).length c, .bool true]) ∧ (sayD N S).length ≤ c ∧ Sb w'' w''.heap.size A (sayD N S) ∧ Below w'.heap.size w' w'') := fun w' A' c' h1 h2 => by
              refine (said_any hM hN h1 hsl' hsb' (by rw [← hsl']; exact h2)).mono ?_
              rintro e w'' ⟨h, hbb⟩
              rcases h with ⟨h, _⟩ | ⟨A, c, _, he, hc, hs⟩
              · rw [hSB] at h; cases h
              · exact ⟨A, c, he, hc, hs, hbb⟩
            clear hMx hS hSB hws hsl' hsb' hr
            go_enter Try.func19, Try.ntmps19
            go_upto_region 1 with fail
            rw [← hwa, ← hwb, ← hwc]
            clear hwa hwb hwc
            go_wp2_with (first
              | (go_at_call 41; (with_reducible refine hrf.out.mono ?_); rintro e w1 ⟨rfl, hb1⟩; have hT1 := hT.keep hb1; have hX1 := hX.keep hb1; have hH1 := hH.keep hb1; have hbw1 := hbc.trans (hb1.mono hbc.size); have hbl := Lib.hid (blank_any A c xs w1 (H.out.far hbw1) h6); rw [hbk] at hbl)
              | (go_at_call 23; (with_reducible refine hbl.out.mono ?_); rintro e w2 ⟨rfl, rfl⟩))
            refine Cl.region_way (fun _ => True) 13 [(0, .r), (1, .r), (2, .r), (3, .r), (4, .c), (5, .c), (6, .r), (7, .r), (8, .r), (9, .r), (10, .r), (11, .r), (12, .r)] (by kernel_rfl) (by kernel_rfl) ?_
            intro w3 hk3
            have hb3 := Cl.Keeps.below hk3
            have hT3 := Lib.hid (hT1.keep hb3)
            have hX3 := Lib.hid (hX1.keep hb3)
            have hH3 := Lib.hid (hH1.keep hb3)
            have hbw3 := Lib.hid (hbw1.trans (hb3.mono hbw1.size))
            have hi3 : ∀ y : Cl.Since (fun _ => True) w3, isTb y.w w.heap.size = true := fun y => (hT3.out.keep (Cl.Keeps.below y.keeps)).is HCS.out.1
            have ho3 : ∀ y : Cl.Since (fun _ => True) w3, tbOf y.w w.heap.size = cells cs := fun y => (hT3.out.keep (Cl.Keeps.below y.keeps)).of
            have b0 : ∀ y : Cl.Since (fun _ => True) w3, y.w.cell? ⟨w.heap.size + 1, 0, none⟩ = some (.int .i64 B) := fun y => (hX3.out.keep (Cl.Keeps.below y.keeps)).c0
            have b1 : ∀ y : Cl.Since (fun _ => True) w3, y.w.cell? ⟨w.heap.size + 1, 1, none⟩ = some (.int .i64 P) := fun y => (hX3.out.keep (Cl.Keeps.below y.keeps)).c1
            have b2 : ∀ y : Cl.Since (fun _ => True) w3, y.w.cell? ⟨w.heap.size + 1, 2, none⟩ = some (.int .i64 (W' : Int)) := fun y => (hX3.out.keep (Cl.Keeps.below y.keeps)).c2
            have b3 : ∀ y : Cl.Since (fun _ => True) w3, y.w.cell? ⟨w.heap.size + 1, 3, none⟩ = some (.int .i64 (K' : Int)) := fun y => (hX3.out.keep (Cl.Keeps.below y.keeps)).c3
            have hmd := Lib.hid (HM.out w3 (H.out.far hbw3.out))
            clear hk3 hb3 hT hX hH hT1 hX1 hH1 hbw1 hb1 hrf hbl
            iterate 4 (refine Cl.way_r rfl ?_; go_big_quiet_step (fail); refine wpQuiet_nil ?_)
            clear hi3 ho3 b0 b1 b2 b3
            refine Cl.way_c rfl ?_
            go_wp2_with (go_at_call 43; (with_reducible refine hmd.out.mono ?_); rintro e w4 ⟨g, f, rfl, hg, hWd, hb4⟩)
            refine Cl.way_on (Cl.Keeps.of_below hb4) ?_
            have hjn := Lib.hid (HJ.out w4 g f hWd)
            have hX4 := Lib.hid (hX3.out.keep hb4)
            have hH4 := Lib.hid (hH3.out.keep hb4)
            have hbw4 := Lib.hid (hbw3.out.trans (hb4.mono hbw3.out.size))
            clear hb4 hWd hX3 hH3 hbw3 hmd hT3
            refine Cl.way_c rfl ?_
            go_wp2_with (go_at_call 42; (with_reducible refine hjn.out.mono ?_); rintro e w5 ⟨v5, rfl, ho5, hb5⟩)
            refine Cl.way_on (Cl.Keeps.of_below hb5) ?_
            have hX5 := hX4.out.keep hb5
            have hH5 := Lib.hid (hH4.out.keep hb5)
            have hbw5 := Lib.hid (hbw4.out.trans (hb5.mono hbw4.out.size))
            obtain ⟨p1, p2, p3, p4, p5⟩ := id hX5
            obtain ⟨A5, c5, rfl, hc5, hs5⟩ := ho5.sl
            have hsd := Lib.hid (HD.out w5 A5 c5 hs5 hc5)
            clear hX4 hH4 hbw4 hb5 hjn ho5 hs5 hc5
            iterate 7 (refine Cl.way_r rfl ?_; go_big_quiet_step (fail); refine wpQuiet_nil ?_)
            refine Cl.way_end ?_
            go_wp2_with (go_at_call 44; (with_reducible refine hsd.out.mono ?_); rintro e w6 ⟨A6, c6, rfl, hc6, hs6, hb6⟩; have ha6 := Ge.below_alloc w6 (.cells #[.int .i64 ((sayK S : Nat) : Int), .int .i64 ((sayN S : Nat) : Int), .int .i64 ((sayQ S : Nat) : Int)] 25); have hb6' := hb6.trans (ha6.mono hb6.size); have hH6 := hH5.out.keep hb6'; obtain ⟨j1, j2, j3, j4⟩ := hH6.hed; have jf := hH6.frozen; have hbw6 := hbw5.out.trans (hb6'.mono hbw5.out.size); have hs7 := hs6.far ha6)
            refine bodyPost_ret (results_m4 rfl rfl (hH6.set_ _ _ _).hed) rfl ?_
            refine ⟨sayK S, sayN S, sayQ S, M, sayD N S, 0, hR.out, A6, c6, rfl, hc6, ?_, below_set3 hbw6 (by omega) _ _ _⟩
            have hne7 := hH6.ne hs7
            simp only [World.size_setCell]
            exact ((hs7.setOther hne7).setOther hne7).setOther hne7
      · have hR := RdS.none (ss := ss) hM hsz hbk
        go_enter Try.func19, Try.ntmps19
        go_upto_region 1 with fail
        rw [← hwa, ← hwb, ← hwc]
        clear hwa hwb hwc
        go_wp2_with (first
          | (go_at_call 41; (with_reducible refine hrf.out.mono ?_); rintro e w1 ⟨rfl, hb1⟩; have hH1 := hH.keep hb1; have hbw1 := hbc.trans (hb1.mono hbc.size); obtain ⟨j1, j2, j3, j4⟩ := hH1.hed; have jf := hH1.frozen; have hbl := Lib.hid (blank_any A c xs w1 (H.out.far hbw1) h6); rw [hbk] at hbl)
          | (go_at_call 23; (with_reducible refine hbl.out.mono ?_); rintro e w3 ⟨rfl, rfl⟩))
        refine bodyPost_ret (results_m4 rfl rfl (hH1.set_ 0 0 0).hed) rfl ?_
        exact ⟨0, 0, 0, 0, [], 13, hR, none, 0, rfl, Nat.le_refl _, Sb.nil _ _ _, below_set3 hbw1 (by omega) _ _ _⟩
    · have hR := RdS.size (ss := ss) hM hsz
      rw [rfE_size hM hsz] at hrf
      have hE0 : (((3 : Nat) : Int) != 0) = true := by decide
      go_enter Try.func19, Try.ntmps19
      go_upto_region 1 with fail
      rw [← hwa, ← hwb, ← hwc]
      clear hwa hwb hwc
      go_wp2_with (go_at_call 41; (with_reducible refine hrf.out.mono ?_); rintro e w1 ⟨rfl, hb1⟩; have hH1 := hH.keep hb1; obtain ⟨j1, j2, j3, j4⟩ := hH1.hed; have jf := hH1.frozen; have hbw1 := hbc.trans (hb1.mono hbc.size))
      refine bodyPost_ret (results_m4 rfl rfl (hH1.set_ 0 0 0).hed) rfl ?_
      exact ⟨0, 0, 0, 0, [], 3, hR, none, 0, rfl, Nat.le_refl _, Sb.nil _ _ _, below_set3 hbw1 (by omega) _ _ _⟩
end Go.Proofs.Ytmchelbmeajcnaa
