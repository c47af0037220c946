/- The program's frame: what symbols say; Read. · The program's frame: what symbols say. · The program's frame: Read. -/
import Derived.Test.YtbggjlgdgpemkaaMi
import Derived.Test.YtbggjlgdgpemkaaWy
import Derived.Test.YtbggjlgdgpemkaaKu
import Derived.Deep.CutRange
namespace Go.Proofs.Ytbggjlgdgpemkaa
open Go.RowKit Go.Gf Go.Fl
set_option linter.unusedVariables false
set_option linter.unusedSimpArgs false
set_option maxRecDepth 20000
attribute [local go_sem ↓] exec_load_tb Cl.quiet_since
attribute [local go_sem] tbAt_ptr tbIn_ptr

theorem isAggM (w : World) : (isAgg 25).run Try.prog w = .ok true w := by kernel_rfl
theorem sizeOfM (w : World) : (sizeOf 25).run Try.prog w = .ok 3 w := by kernel_rfl
theorem load_mark {w : World} {g : Nat} {k l q : Int} (h : Hed w g k l q) : (loadVar 25 ⟨g, 0, none⟩).run Try.prog w = .ok (.agg #[.int .i64 k, .int .i64 l, .int .i64 q]) w := by
  have h0 := h.c0
  have h1 := h.c1
  have h2 := h.c2
  have ha := isAggM w
  have hs := sizeOfM w
  unfold loadVar
  simp only [Sem.run_bind, ha, hs, Result.andThen_ok, if_true]
  simp [go_sem, h0, h1, h2]
theorem results_m3 {fn : Func} {t u v g : Nat} {w : World} {k l q : Int} {tmps : Array Value} (h : fn.results = #[.cell t 25, .tmp u, .tmp v]) (hp : tmps.getD t undef = .pointer (some ⟨g, 0, none⟩)) (hm : Hed w g k l q) :
    (results fn tmps).run Try.prog w = .ok (.tuple #[.agg #[.int .i64 k, .int .i64 l, .int .i64 q], tmps.getD u undef, tmps.getD v undef]) w := by
  have := load_mark hm
  have hp' : tmps[t]?.getD undef = .pointer (some ⟨g, 0, none⟩) := by simpa using hp
  simp [results, h, hp', asAddr, this]
theorem results_m4 {fn : Func} {t u v x g : Nat} {w : World} {k l q : Int} {tmps : Array Value} (h : fn.results = #[.cell t 25, .tmp u, .tmp v, .tmp x]) (hp : tmps.getD t undef = .pointer (some ⟨g, 0, none⟩)) (hm : Hed w g k l q) :
    (results fn tmps).run Try.prog w = .ok (.tuple #[.agg #[.int .i64 k, .int .i64 l, .int .i64 q], tmps.getD u undef, tmps.getD v undef, tmps.getD x undef]) w := by
  have := load_mark hm
  have hp' : tmps[t]?.getD undef = .pointer (some ⟨g, 0, none⟩) := by simpa using hp
  simp [results, h, hp', asAddr, this]
/-- the data of symbols, and what head they have, if a page may say them -/
def sayK (s : List Nat) : Nat := at_ s 0
def sayN (s : List Nat) : Nat := at_ s 1 * 1024 + at_ s 2
def sayQ (s : List Nat) : Nat := at_ s 3 * 1073741824 + at_ s 4 * 1048576 + at_ s 5 * 1024 + at_ s 6
def sayD (N : Nat) (s : List Nat) : List Nat := upk (s.drop 8) (10 * (N - 8) / 8)
/-- is it what a page says? -/
def sayB (N : Nat) (s : List Nat) : Bool := decide (1 ≤ sayK s) && decide (sayL N (sayK s) (sayN s) (sayQ s) (sayD N s) = s)
theorem say_of {N : Nat} {s : List Nat} (hs : ∀ x ∈ s, x < 1024) : sayK s < 1024 ∧ sayN s < 1048576 ∧ sayQ s < 1099511627776 := by
  have a := at_lt' hs
  have a0 := a 0
  have a1 := a 1
  have a2 := a 2
  have a3 := a 3
  have a4 := a 4
  have a5 := a 5
  have a6 := a 6
  unfold sayK sayN sayQ
  omega
theorem sayB_true {N : Nat} {s : List Nat} (hs : ∀ x ∈ s, x < 1024) (h : sayB N s = true) : sayV N (sayK s) (sayN s) (sayQ s) (sayD N s) ∧ sayL N (sayK s) (sayN s) (sayQ s) (sayD N s) = s := by
  unfold sayB at h
  rw [Bool.and_eq_true, decide_eq_true_eq, decide_eq_true_eq] at h
  obtain ⟨h1, h2, h3⟩ := say_of (N := N) hs
  exact ⟨⟨h.1, h1, h2, h3, upk_len _ _, upk_bd _ _⟩, h.2⟩
theorem sayB_say {N k l q : Nat} {d : List Nat} (h : sayV N k l q d) : sayB N (sayL N k l q d) = true ∧ sayK (sayL N k l q d) = k ∧ sayN (sayL N k l q d) = l ∧ sayQ (sayL N k l q d) = q ∧ sayD N (sayL N k l q d) = d := by
  obtain ⟨e1, e2, e3, e4⟩ := say_back h rfl
  refine ⟨?_, e1.symm, e2.symm, e3.symm, e4.symm⟩
  unfold sayB
  rw [Bool.and_eq_true, decide_eq_true_eq, decide_eq_true_eq]
  unfold sayK sayN sayQ sayD
  rw [← e1, ← e2, ← e3, ← e4]
  exact ⟨h.1, rfl⟩
theorem numL_one (s : List Nat) : numL s 1 = at_ s 0 := by show 0 * 1024 + at_ s 0 = _; omega
theorem numL_two (s : List Nat) : numL s 2 = at_ s 0 * 1024 + at_ s 1 := by show (0 * 1024 + at_ s 0) * 1024 + at_ s 1 = _; omega
theorem numL_four (s : List Nat) : numL s 4 = at_ s 0 * 1073741824 + at_ s 1 * 1048576 + at_ s 2 * 1024 + at_ s 3 := by
  show (((0 * 1024 + at_ s 0) * 1024 + at_ s 1) * 1024 + at_ s 2) * 1024 + at_ s 3 = _
  omega
theorem Sl.part {w : World} {B : Nat} {a : Addr} {xs : List Nat} (h : Sl w B (some a) xs) (i n : Nat) (hi : i + n ≤ xs.length) : Sl w B (some (a.add i)) ((xs.drop i).take n) := by
  refine ⟨fun x hx => h.1 x (List.mem_of_mem_drop (List.mem_of_mem_take hx)), ?_⟩
  rcases h.2 with e | ⟨b, e, hb, hc⟩
  · left; rw [e]; simp
  · injection e with e
    subst e
    refine Or.inr ⟨_, rfl, by rw [add_block]; exact hb, fun j hj => ?_⟩
    have hj' : j < n := by simp at hj; omega
    have := hc (i + j) (by omega)
    rw [List.getElem_take, List.getElem_drop]
    rw [show (a.add i).add j = a.add (i + j) by unfold Addr.add; split <;> split <;> split <;> simp_all <;> omega]
    exact this
set_option maxHeartbeats 4000000 in
theorem equal_any {A B : Option Addr} {ca cb : Nat} {xs ys : List Nat} {w : World} (ha : Sl w w.heap.size A xs) (hb : Sl w w.heap.size B ys) (hx : xs.length ≤ 1000000) (hy : ys.length ≤ 1000000) :
    Calls Try.prog 57 #[.slice A xs.length ca, .slice B ys.length cb] w fun e w' => e = .returned (.bool (decide (xs = ys))) ∧ Below w.heap.size w w' := by
  have HA := Lib.hid ha
  have HB := Lib.hid hb
  clear ha hb
  by_cases hl : xs.length = ys.length
  · have hq : Hid (∀ k, k < xs.length → at_ xs k ≠ at_ ys k → decide (xs = ys) = false) := fun k hk h => decide_eq_false fun e => h (by rw [e])
    have hq2 : Hid ((∀ k, k < xs.length → at_ xs k = at_ ys k) → decide (xs = ys) = true) := fun h => decide_eq_true (ext_at hl h)
    generalize decide (xs = ys) = D at *
    obtain ⟨n, hn⟩ : ∃ n, ys.length = n := ⟨_, rfl⟩
    rw [hn] at hl hy ⊢
    have hX := Lib.hid hl
    have hY := Lib.hid hn
    rw [hl] at hq hq2 ⊢
    clear hl hn hx
    have hne : ((n : Int) != (n : Int)) = false := by simp
    go_enter Try.func57, Try.ntmps57
    go_wp2_with fail
    go_loopw [13] (fun p wr => ∃ q : Nat, q ≤ n ∧ p = .int .i64 q ∧ Hid (∀ k, k < q → at_ xs k = at_ ys k) ∧ Below w.heap.size w wr) (fun p _ => n - (intOf p).toNat)
    case atStart => exact ⟨0, Nat.zero_le _, rfl, Lib.hid (fun k h => absurd h (by omega)), Below.refl _ _⟩
    case round =>
      obtain ⟨q, hq', rfl, hK, hB⟩ := hrel
      by_cases hlt : q < n
      · have hqI : (q : Int) < (n : Int) := by omega
        have hd : decide (q < n) = true := decide_eq_true hlt
        obtain ⟨a, rfl, hab, hca⟩ := (HA.out.below hB).at_ (i := q) (by rw [hX.out]; exact hlt)
        obtain ⟨b, rfl, hbb, hcb⟩ := (HB.out.below hB).at_ (i := q) (by rw [hY.out]; exact hlt)
        rw [← at_get (by rw [hX.out]; exact hlt)] at hca
        rw [← at_get (by rw [hY.out]; exact hlt)] at hcb
        have hno := Lib.hid (hq.out q hlt)
        have hyes : Hid (at_ xs q = at_ ys q → ∀ k, k < q + 1 → at_ xs k = at_ ys k) := fun e k hk => by
          by_cases h : k = q
          · rw [h]; exact e
          · exact hK.out k (by omega)
        obtain ⟨s, hs⟩ : ∃ s, at_ xs q = s := ⟨_, rfl⟩
        obtain ⟨t, ht⟩ : ∃ t, at_ ys q = t := ⟨_, rfl⟩
        rw [hs] at hca hno hyes
        rw [ht] at hcb hno hyes
        have hst : ((s : Int) != (t : Int)) = !decide (s = t) := by
          rw [Bool.eq_iff_iff, bne_iff_ne]
          simp
          omega
        have hBd : ∀ k, Below w.heap.size w (wr.drewN k) := fun k => below_drewN hB k
        replace hBd := Lib.hid hBd
        clear hB hs ht
        by_cases e : s = t
        · subst e
          have hst : ((s : Int) != (s : Int)) = false := by simp
          have hy' := Lib.hid (hyes.out rfl)
          clear hno hyes
          go_wp2_with fail
          go_quiet (fail)
          go_wp2_with fail
          go_roundw
          case rel => exact ⟨q + 1, by omega, by go_num, hy', by first | exact hBd.out _ | exact hBd.out 0⟩
          case measure => simp [intOf]; omega
        · have hst : ((s : Int) != (t : Int)) = true := by rw [bne_iff_ne]; omega
          have hD := Lib.hid (hno.out e)
          clear hno hyes
          go_wp2_with fail
          go_quiet (fail)
          go_wp2_with fail
          go_ret
          refine ⟨by rw [hD.out]; rfl, ?_⟩
          first | exact hBd.out _ | exact hBd.out 0
      · obtain rfl : q = n := by omega
        have hd : decide (q < q) = false := decide_eq_false (Nat.lt_irrefl _)
        have hD := Lib.hid (hq2.out hK.out)
        replace hB := Lib.hid hB
        go_wp2_with fail
        go_ret
        exact ⟨by rw [hD.out]; rfl, hB.out⟩
  · have hd : decide (xs = ys) = false := decide_eq_false fun e => hl (by rw [e])
    have hne : ((xs.length : Int) != (ys.length : Int)) = true := by simp; exact_mod_cast hl
    rw [hd]
    go_enter Try.func57, Try.ntmps57
    go_wp2_with fail
    go_ret
    exact ⟨rfl, Below.refl _ _⟩
end Go.Proofs.Ytbggjlgdgpemkaa
namespace Go.Proofs.Ytbggjlgdgpemkaa
open Go.RowKit Go.Gf Go.Fl
set_option linter.unusedVariables false
set_option linter.unusedSimpArgs false
set_option maxRecDepth 20000
attribute [local go_sem ↓] exec_load_tb Cl.quiet_since
attribute [local go_sem] tbAt_ptr tbIn_ptr

/-- block g is a head of one's own -/
def Hdo (w : World) (g : Nat) (k l q : Int) : Prop := w.heap[g]? = some (.cells #[.int .i64 k, .int .i64 l, .int .i64 q] 25 (0, 0))
theorem Hdo.lt {w : World} {g : Nat} {k l q : Int} (h : Hdo w g k l q) : g < w.heap.size := by
  rcases Nat.lt_or_ge g w.heap.size with hlt | hge
  · exact hlt
  · unfold Hdo at h; rw [Array.getElem?_eq_none hge] at h; cases h
theorem Hdo.hed {w : World} {g : Nat} {k l q : Int} (h : Hdo w g k l q) : Hed w g k l q := ⟨h.lt, Ge.cell_of h 0, Ge.cell_of h 1, Ge.cell_of h 2⟩
theorem Hdo.frozen {w : World} {g : Nat} {k l q : Int} (h : Hdo w g k l q) (i : Nat) : w.frozen? ⟨g, i, none⟩ = false := by unfold Hdo at h; simp [World.frozen?, h]
theorem Hdo.keep {w w' : World} {g : Nat} {k l q : Int} (h : Hdo w g k l q) (hb : Below w.heap.size w w') : Hdo w' g k l q := (hb.block g h.lt).trans h
theorem Hdo.new (w : World) (k l q : Int) : Hdo (w.alloc (.cells #[.int .i64 k, .int .i64 l, .int .i64 q] 25)) w.heap.size k l q := heap_alloc_new w _
theorem Hdo.set_ {w : World} {g : Nat} {k l q : Int} (h : Hdo w g k l q) (k' l' q' : Int) : Hdo (((w.setCell ⟨g, 0, none⟩ (.int .i64 k')).setCell ⟨g, 1, none⟩ (.int .i64 l')).setCell ⟨g, 2, none⟩ (.int .i64 q')) g k' l' q' := by
  unfold Hdo at h ⊢
  simp only [World.setCell]
  rw [Array.getElem?_modify, if_pos rfl, Array.getElem?_modify, if_pos rfl, Array.getElem?_modify, if_pos rfl, h]
  rfl
theorem below_set3 {w0 w : World} {g : Nat} (h : Below w0.heap.size w0 w) (hg : w0.heap.size ≤ g) (x y z : Value) : Below w0.heap.size w0 (((w.setCell ⟨g, 0, none⟩ x).setCell ⟨g, 1, none⟩ y).setCell ⟨g, 2, none⟩ z) :=
  ((h.setCell (show w0.heap.size ≤ g from hg) x).setCell (show w0.heap.size ≤ g from hg) y).setCell (show w0.heap.size ≤ g from hg) z
/-- bytes don't lie in a head -/
theorem Hdo.ne {w : World} {g B : Nat} {k l q : Int} {A : Option Addr} {xs : List Nat} (h : Hdo w g k l q) (hs : Sb w B A xs) : xs = [] ∨ ∀ a, A = some a → a.block ≠ g := by
  rcases hs.2 with e | ⟨a', e2, hb, hc⟩
  · exact Or.inl e
  · by_cases hx : xs = []
    · exact Or.inl hx
    · refine Or.inr fun a e hg => ?_
      rw [e] at e2
      injection e2 with e2
      subst e2
      have h0 : 0 < xs.length := List.length_pos_iff.2 hx
      have := hc 0 h0
      unfold Hdo at h
      unfold World.cell? at this
      rw [add_block, hg, h] at this
      dsimp only at this
      split at this
      · cases this
      · have hm := Array.mem_of_getElem? this
        simp [ub] at hm
theorem Sb.setOther {w : World} {g i B : Nat} {A : Option Addr} {xs : List Nat} {v : Value} (h : Sb w B A xs) (hne : xs = [] ∨ ∀ a, A = some a → a.block ≠ g) : Sb (w.setCell ⟨g, i, none⟩ v) B A xs := by
  refine ⟨h.1, ?_⟩
  rcases h.2 with e | ⟨a, rfl, hb, hc⟩
  · exact Or.inl e
  · rcases hne with e | hne
    · exact Or.inl e
    · refine Or.inr ⟨a, rfl, hb, fun k hk => ?_⟩
      have hg : (w.setCell ⟨g, i, none⟩ v).heap[(a.add k).block]? = w.heap[(a.add k).block]? := by
        rw [add_block]
        simp only [World.setCell]
        rw [Array.getElem?_modify, if_neg (fun e => hne a rfl e.symm)]
      rw [World.cell?_of_block hg]
      exact hc k hk
/-- what said is to answer -/
def Sad (N : Nat) (s : List Nat) (w : World) (e : Ending) (w' : World) : Prop :=
  ((sayB N s = false ∧ e = .returned (.tuple #[.agg #[.int .i64 0, .int .i64 0, .int .i64 0], .slice none 0 0, .bool false])) ∨
   ∃ A c, sayB N s = true ∧ e = .returned (.tuple #[.agg #[.int .i64 ((sayK s : Nat) : Int), .int .i64 ((sayN s : Nat) : Int), .int .i64 ((sayQ s : Nat) : Int)], .slice A (sayD N s).length c, .bool true]) ∧ (sayD N s).length ≤ c ∧ Sb w' w'.heap.size A (sayD N s)) ∧ Below w.heap.size w w'
theorem at_part (s : List Nat) {i n j : Nat} (h : j < n) : at_ ((s.drop i).take n) j = at_ s (i + j) := by
  unfold at_
  rw [List.getD_eq_getElem?_getD, List.getD_eq_getElem?_getD, List.getElem?_take, if_pos h, List.getElem?_drop]
/-- the number that a part of the symbols says -/
theorem num_part {a : Addr} {s : List Nat} {w : World} {c : Nat} (hs : Sl w w.heap.size (some a) s) (hb : ∀ y ∈ s, y < 1024) (i n m : Nat) (hi : i + n ≤ s.length) (hn : n ≤ 4) (hm : numL ((s.drop i).take n) n = m) :
    Calls Try.prog 55 #[.slice (some (a.add i)) n c] w fun e w' => e = .returned (.int .i64 (m : Int)) ∧ w = w' := by
  have hl : ((s.drop i).take n).length = n := by rw [List.length_take, List.length_drop]; omega
  have := fnum_any (some (a.add i)) c _ w (hs.part i n hi) (by rw [hl]; exact hn) (fun x hx => hb x (List.mem_of_mem_drop (List.mem_of_mem_take hx)))
  rw [hl, hm] at this
  exact this
set_option maxHeartbeats 8000000 in
theorem said_any {B P : Int} {W K N : Nat} {A : Option Addr} {c : Nat} {s : List Nat} {w : World} (hM : Ge.mayG B P (W : Int) (K : Int) = true) (hN : W * K = N) (hs : Sl w w.heap.size A s) (hl : s.length = N) (hb : ∀ y ∈ s, y < 1024) (hc : N ≤ c) :
    Calls Try.prog 35 #[.agg #[.int .i64 B, .int .i64 P, .int .i64 (W : Int), .int .i64 (K : Int)], .slice A s.length c] w (Sad N s w) := by
  have H := Lib.hid hs
  have HB := Lib.hid hb
  have HL := Lib.hid hl
  obtain ⟨W', K', N', hWe, hKe, hN', hW1, hW4, hK1, hK64, h8, h256, hsg, _⟩ := mayG_of hM
  obtain rfl : W = W' := Int.ofNat.inj hWe
  obtain rfl : K = K' := Int.ofNat.inj hKe
  have hNN : N' = N := by omega
  subst hNN
  obtain ⟨a, rfl, hab, hcel⟩ := hs.2.resolve_left (by intro e; rw [e] at hl; simp at hl; omega)
  rw [hl]
  have hb0 := Ge.below_alloc w (.cells #[.int .i64 B, .int .i64 P, .int .i64 (W : Int), .int .i64 (K : Int)] 23)
  obtain ⟨wa, hwa⟩ : ∃ wa, wa = w.alloc (.cells #[.int .i64 B, .int .i64 P, .int .i64 (W : Int), .int .i64 (K : Int)] 23) := ⟨_, rfl⟩
  obtain ⟨wb, hwb⟩ : ∃ wb, wb = wa.alloc (.cells #[.int .i64 0, .int .i64 0, .int .i64 0] 25) := ⟨_, rfl⟩
  rw [← hwa] at hb0
  have hza : wa.heap.size = w.heap.size + 1 := by rw [hwa, World.size_alloc]
  have hbb : Below w.heap.size w wb := hb0.trans (by rw [hwb]; exact (Ge.below_alloc wa _).mono hb0.size)
  have hX : Ge.Box wb w.heap.size B P W K := by
    have := Ge.Box.new w B P W K
    rw [← hwa] at this
    exact this.keep (by rw [hwb]; exact Ge.below_alloc wa _)
  have hH : Hdo wb (w.heap.size + 1) 0 0 0 := by
    have := Hdo.new wa 0 0 0
    rwa [← hwb, hza] at this
  replace hcel := Lib.hid hcel
  clear hs hl hb
  go_enter Try.func35, Try.ntmps35
  go_wp2_with fail
  rw [← hwa, ← hwb]
  replace hX := Lib.hid hX
  replace hH := Lib.hid hH
  replace hbb := Lib.hid hbb
  clear hwa hwb hza hb0
  go_cut [7] from 10 to 19 (fun p wx => ∃ g, p = .pointer (some ⟨g, 0, none⟩) ∧ Hed wx g (sayK s : Int) (sayN s : Int) (sayQ s : Int) ∧ Below wb.heap.size wb wx)
  case first =>
    refine Cl.region_tree (fun _ => True) 11 (.r 0 <| .r 1 <| .r 3 <| .r 4 <| .r 6 <| .r 7 <| .b 2 10 (.b 5 10 (.b 8 10 (.r 9 <| .c 10 <| .z 11) (.c 8 <| .r 9 <| .z 11)) (.c 5 <| .c 8 <| .r 9 <| .z 11)) (.c 2 <| .c 5 <| .c 8 <| .r 9 <| .z 11)) (by kernel_rfl) (by kernel_rfl) ?_
    intro w1 hk1
    have hbw1 := hbb.out.trans ((Cl.Keeps.below hk1).mono hbb.out.size)
    have hB0 := Lib.hid hbw1
    have hB1 := Lib.hid (hbw1.trans ((Ge.below_alloc w1 (.cells #[.int .i64 0, .int .i64 0, .int .i64 0] 25)).mono hbw1.size))
    have hB2 := Lib.hid ((Cl.Keeps.below hk1).trans ((Ge.below_alloc w1 (.cells #[.int .i64 ((sayK s : Nat) : Int), .int .i64 ((sayN s : Nat) : Int), .int .i64 ((sayQ s : Nat) : Int)] 25)).mono (Cl.Keeps.below hk1).size))
    have hN1 := Lib.hid (Hed.new w1 (sayK s : Int) (sayN s : Int) (sayQ s : Int))
    have q1 : Hid (∀ w', Below w.heap.size w w' → Calls Try.prog 55 #[.slice (some a) 1 c] w' fun e w'' => e = .returned (.int .i64 ((sayK s : Nat) : Int)) ∧ w' = w'') := fun w' hb => num_part (H.out.far hb) HB.out 0 1 _ (by rw [HL.out]; omega) (by decide) (by rw [numL_one, at_part s (by decide)]; rfl)
    have q2 : Hid (∀ w', Below w.heap.size w w' → Calls Try.prog 55 #[.slice (some ⟨a.block, a.off + 1, none⟩) 2 (c - 1)] w' fun e w'' => e = .returned (.int .i64 ((sayN s : Nat) : Int)) ∧ w' = w'') := fun w' hb => num_part (H.out.far hb) HB.out 1 2 _ (by rw [HL.out]; omega) (by decide) (by rw [numL_two, at_part s (by decide), at_part s (by decide)]; rfl)
    have q3 : Hid (∀ w', Below w.heap.size w w' → Calls Try.prog 55 #[.slice (some ⟨a.block, a.off + 3, none⟩) 4 (c - 3)] w' fun e w'' => e = .returned (.int .i64 ((sayQ s : Nat) : Int)) ∧ w' = w'') := fun w' hb => num_part (H.out.far hb) HB.out 3 4 _ (by rw [HL.out]; omega) (by decide) (by rw [numL_four, at_part s (by decide), at_part s (by decide), at_part s (by decide), at_part s (by decide)]; rfl)
    iterate 6 (refine Cl.tree_r rfl ?_; go_big_quiet_step (fail); refine wpQuiet_nil ?_)
    clear hbw1 hk1 hX hH
    refine Cl.tree_b rfl rfl ?_ ?_
    · go_wp2_with (go_at_call 55; (with_reducible refine (q1.out _ hB0.out).mono ?_); rintro e w2 ⟨rfl, rfl⟩)
      refine Cl.way_on (Cl.Keeps.refl _ _) ?_
      refine Cl.tree_b rfl rfl ?_ ?_
      · go_wp2_with (go_at_call 55; (with_reducible refine (q2.out _ hB0.out).mono ?_); rintro e w2 ⟨rfl, rfl⟩)
        refine Cl.way_on (Cl.Keeps.refl _ _) ?_
        refine Cl.tree_b rfl rfl ?_ ?_
        · go_wp2_with (go_at_call 55; (with_reducible refine (q3.out _ hB0.out).mono ?_); rintro e w2 ⟨rfl, rfl⟩)
          refine Cl.way_on (Cl.Keeps.refl _ _) ?_
          refine Cl.tree_r rfl ?_
          go_big_quiet_step (fail)
          refine wpQuiet_nil ?_
          refine Cl.tree_c rfl ?_
          go_wp2_with fail
          refine Cl.way_on (Cl.Keeps.of_below (Ge.below_alloc _ _)) ?_
          refine Cl.tree_z rfl ?_
          go_wp2_with fail
          refine Cl.Calm.normal ?_
          go_wp2_with fail
          go_meet
          exact ⟨_, rfl, hN1.out, hB2.out⟩
        · go_wp2_with fail
          refine Cl.way_on (Cl.Keeps.of_below (Ge.below_alloc _ _)) ?_
          refine Cl.tree_c rfl ?_
          go_wp2_with (go_at_call 55; (with_reducible refine (q3.out _ hB1.out).mono ?_); rintro e w2 ⟨rfl, rfl⟩)
          refine Cl.way_on (Cl.Keeps.refl _ _) ?_
          refine Cl.tree_r rfl ?_
          go_big_quiet_step (fail)
          refine wpQuiet_nil ?_
          refine Cl.tree_z rfl ?_
          go_wp2_with fail
          refine Cl.Calm.normal ?_
          go_wp2_with fail
          go_meet
          exact ⟨_, rfl, hN1.out, hB2.out⟩
      · go_wp2_with fail
        refine Cl.way_on (Cl.Keeps.of_below (Ge.below_alloc _ _)) ?_
        refine Cl.tree_c rfl ?_
        go_wp2_with (go_at_call 55; (with_reducible refine (q2.out _ hB1.out).mono ?_); rintro e w2 ⟨rfl, rfl⟩)
        refine Cl.way_on (Cl.Keeps.refl _ _) ?_
        refine Cl.tree_c rfl ?_
        go_wp2_with (go_at_call 55; (with_reducible refine (q3.out _ hB1.out).mono ?_); rintro e w2 ⟨rfl, rfl⟩)
        refine Cl.way_on (Cl.Keeps.refl _ _) ?_
        refine Cl.tree_r rfl ?_
        go_big_quiet_step (fail)
        refine wpQuiet_nil ?_
        refine Cl.tree_z rfl ?_
        go_wp2_with fail
        refine Cl.Calm.normal ?_
        go_wp2_with fail
        go_meet
        exact ⟨_, rfl, hN1.out, hB2.out⟩
    · go_wp2_with fail
      refine Cl.way_on (Cl.Keeps.of_below (Ge.below_alloc _ _)) ?_
      refine Cl.tree_c rfl ?_
      go_wp2_with (go_at_call 55; (with_reducible refine (q1.out _ hB1.out).mono ?_); rintro e w2 ⟨rfl, rfl⟩)
      refine Cl.way_on (Cl.Keeps.refl _ _) ?_
      refine Cl.tree_c rfl ?_
      go_wp2_with (go_at_call 55; (with_reducible refine (q2.out _ hB1.out).mono ?_); rintro e w2 ⟨rfl, rfl⟩)
      refine Cl.way_on (Cl.Keeps.refl _ _) ?_
      refine Cl.tree_c rfl ?_
      go_wp2_with (go_at_call 55; (with_reducible refine (q3.out _ hB1.out).mono ?_); rintro e w2 ⟨rfl, rfl⟩)
      refine Cl.way_on (Cl.Keeps.refl _ _) ?_
      refine Cl.tree_r rfl ?_
      go_big_quiet_step (fail)
      refine wpQuiet_nil ?_
      refine Cl.tree_z rfl ?_
      go_wp2_with fail
      refine Cl.Calm.normal ?_
      go_wp2_with fail
      go_meet
      exact ⟨_, rfl, hN1.out, hB2.out⟩
  case rest =>
    obtain ⟨g, rfl, hG, hbc⟩ := hcut
    have hbw := hbb.out.trans (hbc.mono hbb.out.size)
    have hX0 := Lib.hid (hX.out.keep hbc)
    have hH0 := Lib.hid (hH.out.keep hbc)
    replace hbw := Lib.hid hbw
    replace hG := Lib.hid hG
    clear hbc hX hH hbb
    go_wp2_with fail
    refine Cl.region_way (fun _ => True) 10 [(0, .r), (1, .r), (2, .r), (3, .c), (4, .c), (5, .r), (6, .r), (7, .r), (8, .r), (9, .r)] (by kernel_rfl) (by kernel_rfl) ?_
    intro w1 hk1
    have hX1 := hX0.out.keep (Cl.Keeps.below hk1)
    have hH1 := Lib.hid (hH0.out.keep (Cl.Keeps.below hk1))
    have hG1 := Lib.hid (hG.out.keep (Cl.Keeps.below hk1))
    have hb1 := Lib.hid (hbw.out.trans ((Cl.Keeps.below hk1).mono hbw.out.size))
    have x0 : ∀ y : Cl.Since (fun _ => True) w1, y.w.cell? ⟨w.heap.size, 0, none⟩ = some (.int .i64 B) := fun y => (hX1.keep (Cl.Keeps.below y.keeps)).c0
    have x1 : ∀ y : Cl.Since (fun _ => True) w1, y.w.cell? ⟨w.heap.size, 1, none⟩ = some (.int .i64 P) := fun y => (hX1.keep (Cl.Keeps.below y.keeps)).c1
    have x2 : ∀ y : Cl.Since (fun _ => True) w1, y.w.cell? ⟨w.heap.size, 2, none⟩ = some (.int .i64 (W : Int)) := fun y => (hX1.keep (Cl.Keeps.below y.keeps)).c2
    have x3 : ∀ y : Cl.Since (fun _ => True) w1, y.w.cell? ⟨w.heap.size, 3, none⟩ = some (.int .i64 (K : Int)) := fun y => (hX1.keep (Cl.Keeps.below y.keeps)).c3
    obtain ⟨D, hD⟩ : ∃ D, 10 * (N' - 8) / 8 = D := ⟨_, rfl⟩
    have hD4 : D ≤ 400 := by omega
    have hsz := Ge.size_any B P (W : Int) (K : Int) w1
    rw [hsg, hD] at hsz
    replace hsz := Lib.hid hsz
    replace hX1 := Lib.hid hX1
    clear hk1 hX0 hH0 hG hbw
    iterate 3 (refine Cl.way_r rfl ?_; go_big_quiet_step (fail); refine wpQuiet_nil ?_)
    clear x0 x1 x2 x3
    refine Cl.way_c rfl ?_
    go_wp2_with (go_at_call 24; (with_reducible refine hsz.out.mono ?_); rintro e w2 ⟨rfl, hb2⟩)
    refine Cl.way_on (Cl.Keeps.of_below hb2) ?_
    have hX2 := hX1.out.keep hb2
    have hH2 := hH1.out.keep hb2
    have hG2 := hG1.out.keep hb2
    have hbw2 := hb1.out.trans (hb2.mono hb1.out.size)
    have hdl : (s.drop 8).length = N' - 8 := by rw [List.length_drop, HL.out]
    have hdb : ∀ x ∈ s.drop 8, x < 1024 := fun x hx => HB.out x (List.mem_of_mem_drop hx)
    have hs8 : Sl w2 w2.heap.size (some ⟨a.block, a.off + 8, none⟩) (s.drop 8) := by
      have := (H.out.far hbw2).part 8 (N' - 8) (by rw [HL.out]; omega)
      rwa [List.take_of_length_le (by rw [hdl]; exact Nat.le_refl _)] at this
    have hup := pak_unpack (c := c - 8) (n := (D : Int)) hs8 (by omega)
    have hE : upkE (s.drop 8) (D : Int) = 0 := by
      unfold upkE
      rw [if_neg (by rw [hdl]; unfold bytN; omega), if_neg]
      intro h
      rw [List.any_eq_true] at h
      obtain ⟨x, hx, h⟩ := h
      have := hdb x hx
      rw [decide_eq_true_eq] at h
      omega
    have hW' : upkW (s.drop 8) (D : Int) = sayD N' s := by
      unfold upkW sayD
      rw [hE, if_pos rfl, Int.toNat_natCast, hD]
    rw [hE, hW', hdl] at hup
    have hDl : (sayD N' s).length = D := by unfold sayD; rw [upk_len, hD]
    replace hup := Lib.hid hup
    replace hX2 := Lib.hid hX2
    replace hH2 := Lib.hid hH2
    replace hG2 := Lib.hid hG2
    replace hbw2 := Lib.hid hbw2
    replace hDl := Lib.hid hDl
    clear hs8 hdl hdb hb2 hX1 hH1 hG1 hb1 hsz hE hW'
    refine Cl.way_c rfl ?_
    go_wp2_with (go_at_call 56; (with_reducible refine hup.out.mono ?_); rintro e w3 ⟨A3, c3, rfl, hc3, hs3, hb3⟩)
    refine Cl.way_on (Cl.Keeps.of_below hb3) ?_
    rw [hDl.out] at hc3 ⊢
    have hX3 := hX2.out.keep hb3
    have hH3 := Lib.hid (hH2.out.keep hb3)
    have hG3 := hG2.out.keep hb3
    have hbw3 := Lib.hid (hbw2.out.trans (hb3.mono hbw2.out.size))
    replace hs3 := Lib.hid hs3
    clear hX2 hH2 hG2 hbw2 hb3 hup
    iterate 5 (refine Cl.way_r rfl ?_; go_big_quiet_step (fail); refine wpQuiet_nil ?_)
    refine Cl.way_end ?_
    obtain ⟨f1, f2, f3⟩ := say_of (N := N') HB.out
    have hsK := Lib.hid f1
    have hmB : mkB (sayK s : Int) (sayN s : Int) (sayQ s : Int) = decide (1 ≤ sayK s) := by
      unfold mkB
      rw [decide_eq_decide]
      omega
    have hfm := fmay_any (sayK s : Int) (sayN s : Int) (sayQ s : Int) w3
    rw [hmB] at hfm
    have hsB : sayB N' s = (decide (1 ≤ sayK s) && decide (sayL N' (sayK s) (sayN s) (sayQ s) (sayD N' s) = s)) := rfl
    obtain ⟨g1, g2, g3, g4⟩ := id hG3
    obtain ⟨m1, hm1⟩ : ∃ b, decide (1 ≤ sayK s) = b := ⟨_, rfl⟩
    rw [hm1] at hfm hsB
    replace hfm := Lib.hid hfm
    cases m1
    · have hsB := Lib.hid hsB
      go_wp2_with (go_at_call 23; (with_reducible refine hfm.out.mono ?_); rintro e w4 ⟨rfl, hb4⟩; have hH4 := hH3.out.keep hb4; obtain ⟨j1, j2, j3, j4⟩ := hH4.hed; have jf := hH4.frozen; have hbw4 := hbw3.out.trans (hb4.mono hbw3.out.size))
      refine bodyPost_ret (results_m3 rfl rfl (hH4.set_ 0 0 0).hed) rfl ?_
      exact ⟨Or.inl ⟨hsB.out, rfl⟩, below_set3 hbw4 (by omega) _ _ _⟩
    · rw [Bool.true_and] at hsB
      obtain ⟨m2, hm2⟩ : ∃ b, decide (sayL N' (sayK s) (sayN s) (sayQ s) (sayD N' s) = s) = b := ⟨_, rfl⟩
      rw [hm2] at hsB
      replace hsB := Lib.hid hsB
      have hsl := say_len (k := sayK s) (l := sayN s) (q := sayQ s) (d := sayD N' s) (by rw [hDl.out, hD]) (by omega)
      have hsb := say_bd (N := N') (d := sayD N' s) f1 f2 f3
      have hpl : Hid (∀ w', Below w3.heap.size w3 w' → Calls Try.prog 26 #[.agg #[.int .i64 B, .int .i64 P, .int .i64 (W : Int), .int .i64 (K : Int)], .agg #[.int .i64 (sayK s : Int), .int .i64 (sayN s : Int), .int .i64 (sayQ s : Int)], .slice A3 D c3] w'
          fun e w'' => ∃ g, e = .returned (.slice (some ⟨g, 0, none⟩) N' N') ∧ w'.heap.size ≤ g ∧ Arr w'' g (sayL N' (sayK s) (sayN s) (sayQ s) (sayD N' s)) ∧ Below w'.heap.size w' w'') := fun w' hb => by
        have := plain_any (B := B) (P := P) (c := c3) hN h8 h256 f1 f2 f3 (hs3.out.far hb) (by rw [hDl.out, hD])
        rw [hDl.out] at this
        exact this
      have heq : Hid (∀ w' g', Below w.heap.size w w' → Arr w' g' (sayL N' (sayK s) (sayN s) (sayQ s) (sayD N' s)) → Calls Try.prog 57 #[.slice (some ⟨g', 0, none⟩) N' N', .slice (some a) N' c] w' fun e w'' => e = .returned (.bool m2) ∧ Below w'.heap.size w' w'') := fun w' g' hb hA => by
        have := equal_any (ca := N') (cb := c) (hA.sl (fun x hx => by have := hsb x hx; omega)) (H.out.far hb) (by rw [hsl]; omega) (by rw [HL.out]; omega)
        rw [hsl, HL.out, hm2] at this
        exact this
      obtain ⟨v1, v2, v3, v4, v5⟩ := hX3
      have hX3 := Lib.hid (Ge.Box.mk v1 v2 v3 v4 v5)
      clear hsl hsb hm2
      cases m2
      all_goals
        go_wp2_with (first
          | (go_at_call 23; (with_reducible refine hfm.out.mono ?_); rintro e w4 ⟨rfl, hb4⟩; have hbw4 := hbw3.out.trans (hb4.mono hbw3.out.size); obtain ⟨n1, n2, n3, n4, n5⟩ := hX3.out.keep hb4; have hG4 := hG3.keep hb4; obtain ⟨e1, e2, e3, e4⟩ := id hG4; have hp4 := Lib.hid (hpl.out w4 hb4))
          | (go_at_call 26; (with_reducible refine hp4.out.mono ?_); rintro e w5 ⟨g5, rfl, hg5, hA5, hb5⟩; have hb35 := hb4.trans (hb5.mono hb4.size); have hbw5 := hbw3.out.trans (hb35.mono hbw3.out.size); have hq5 := Lib.hid (heq.out w5 g5 hbw5 hA5))
          | (go_at_call 57; (with_reducible refine hq5.out.mono ?_); rintro e w6 ⟨rfl, hb6⟩; have hb36 := hb35.trans (hb6.mono hb35.size); have hbw6 := hbw3.out.trans (hb36.mono hbw3.out.size); have hH6 := hH3.out.keep hb36; have hG6 := hG3.keep hb36; obtain ⟨j1, j2, j3, j4⟩ := hH6.hed; have jf := hH6.frozen; obtain ⟨o1, o2, o3, o4⟩ := hG6))
      · refine bodyPost_ret (results_m3 rfl rfl (hH6.set_ 0 0 0).hed) rfl ?_
        exact ⟨Or.inl ⟨hsB.out, rfl⟩, below_set3 hbw6 (by omega) _ _ _⟩
      · refine bodyPost_ret (results_m3 rfl rfl (hH6.set_ _ _ _).hed) rfl ?_
        refine ⟨Or.inr ⟨A3, c3, hsB.out, ?_, by rw [hDl.out]; exact hc3, ?_⟩, below_set3 hbw6 (by omega) _ _ _⟩
        · rw [hDl.out]; rfl
        · have hsb6 := hs3.out.far hb36
          have hne6 := hH6.ne hsb6
          simp only [World.size_setCell]
          exact ((hsb6.setOther hne6).setOther hne6).setOther hne6
end Go.Proofs.Ytbggjlgdgpemkaa
namespace Go.Proofs.Ytbggjlgdgpemkaa
open Go.RowKit Go.Gf Go.Fl
set_option linter.unusedVariables false
set_option linter.unusedSimpArgs false
set_option maxRecDepth 20000
attribute [local go_sem ↓] exec_load_tb Cl.quiet_since
attribute [local go_sem] tbAt_ptr tbIn_ptr

/-- which points are nought -/
def zX (xs : List (Nat × Nat)) : Nat → Bool := fun i => zP (xA xs i)
/-- what is to be read from the points xs, whose symbols are ss: a head, a number, data, an error's number -/
inductive RdS (B P W K : Int) (xs : List (Nat × Nat)) (ss : List Nat) : Nat → Nat → Nat → Nat → List Nat → Nat → Prop where
  | arg (h : Ge.mayG B P W K = false) : RdS B P W K xs ss 0 0 0 0 [] 1
  | size (h : Ge.mayG B P W K = true) (h2 : (xs.length : Int) ≠ Ge.celG B P W K) : RdS B P W K xs ss 0 0 0 0 [] 3
  | none (h : Ge.mayG B P W K = true) (h2 : (xs.length : Int) = Ge.celG B P W K) (h3 : blkB xs = true) : RdS B P W K xs ss 0 0 0 0 [] 13
  | data (h : Ge.mayG B P W K = true) (h2 : (xs.length : Int) = Ge.celG B P W K) (h3 : blkB xs = false) (j : Nat) (hj : j < W.toNat) (h4 : ∀ ys, ¬ GoodR W.toNat (K.toNat + 16) ss (zX xs) j ys) : RdS B P W K xs ss 0 0 0 0 [] 4
  | form (h : Ge.mayG B P W K = true) (h2 : (xs.length : Int) = Ge.celG B P W K) (h3 : blkB xs = false) (ws : Nat → List Nat) (hg : ∀ j, j < W.toNat → GoodR W.toNat (K.toNat + 16) ss (zX xs) j (ws j)) (h4 : sayB (W.toNat * K.toNat) (sayW W.toNat K.toNat ws) = false) : RdS B P W K xs ss 0 0 0 0 [] 12
  | ok (h : Ge.mayG B P W K = true) (h2 : (xs.length : Int) = Ge.celG B P W K) (h3 : blkB xs = false) (ws : Nat → List Nat) (hg : ∀ j, j < W.toNat → GoodR W.toNat (K.toNat + 16) ss (zX xs) j (ws j)) (h4 : sayB (W.toNat * K.toNat) (sayW W.toNat K.toNat ws) = true) :
      RdS B P W K xs ss (sayK (sayW W.toNat K.toNat ws)) (sayN (sayW W.toNat K.toNat ws)) (sayQ (sayW W.toNat K.toNat ws)) (mxF (fun j => nbW W.toNat (K.toNat + 16) ss (zX xs) j (ws j)) W.toNat) (sayD (W.toNat * K.toNat) (sayW W.toNat K.toNat ws)) 0
/-- .. as it is answered -/
def RdV (k l q n : Nat) (d : List Nat) (er : Nat) (w : World) (e : Ending) (w' : World) : Prop :=
  ∃ A c, e = .returned (.tuple #[.agg #[.int .i64 (k : Int), .int .i64 (l : Int), .int .i64 (q : Int)], .slice A d.length c, .int .i64 (n : Int), .int .i64 (er : Int)]) ∧ d.length ≤ c ∧ Sb w' w'.heap.size A d ∧ Below w.heap.size w w'
theorem sayW_len {W K : Nat} {ws : Nat → List Nat} {n : Nat} (h0 : 0 < W) (hl : ∀ j, j < W → (ws j).length = n) (hK : K ≤ n) : (sayW W K ws).length = W * K := by
  have hall : ∀ x ∈ (List.range W).map (fun j => (ws j).take K), x.length = K := by
    intro x hx
    obtain ⟨j, hj, rfl⟩ := List.mem_map.1 hx
    rw [List.length_take, hl j (List.mem_range.1 hj)]
    omega
  unfold sayW
  rw [wvOf_len, wvN_all hall (by intro e; have := congrArg List.length e; simp at this; omega)]
  simp
theorem sayW_bd {W K : Nat} {ws : Nat → List Nat} (hb : ∀ j, j < W → ∀ y ∈ ws j, y < 1024) : ∀ y ∈ sayW W K ws, y < 1024 := by
  unfold sayW wvOf
  refine rm_mem fun i _ => ?_
  unfold wvF
  refine at_lt (fun y hy => ?_) (by decide)
  rw [List.getD_eq_getElem?_getD] at hy
  rcases Nat.lt_or_ge (i % ((List.range W).map fun j => (ws j).take K).length) ((List.range W).map fun j => (ws j).take K).length with h | h
  · rw [List.getElem?_eq_getElem h, Option.getD_some, List.getElem_map, List.getElem_range] at hy
    have hW : i % ((List.range W).map fun j => (ws j).take K).length < W := by simpa using h
    exact hb _ hW y (List.mem_of_mem_take hy)
  · rw [List.getElem?_eq_none h, Option.getD_none] at hy
    cases hy
theorem sayW_congr {W K : Nat} {ws vs : Nat → List Nat} (h : ∀ j, j < W → ws j = vs j) : sayW W K ws = sayW W K vs := by
  unfold sayW
  rw [List.map_congr_left fun j hj => by rw [h j (List.mem_range.1 hj)]]
/-- mended, where a word can't be read; and where all can -/
theorem mended_no {cs : List Nat} (hcs : Tab cs) {B P : Int} {W K : Nat} {A : Option Addr} {c : Nat} {xs : List (Nat × Nat)} {ss : List Nat} {w : World} (hW : 1 ≤ W ∧ W ≤ 4) (hK : 1 ≤ K ∧ K ≤ 64) (hs : Cx w w.heap.size A xs) (hl : xs.length = W * (K + 16))
    (hn : ss.length = xs.length) (hsl : ∀ i, i < xs.length → SlcIs (xA xs i) (at_ ss i)) (hb : ∀ y ∈ ss, y < 1024) (hno : ∃ j, j < W ∧ ∀ ys, ¬ GoodR W (K + 16) ss (zX xs) j ys) :
    Calls Try.prog 34 #[.agg (cells cs), .agg #[.int .i64 B, .int .i64 P, .int .i64 (W : Int), .int .i64 (K : Int)], .slice A xs.length c] w fun e w' => e = .returned (.tuple #[.slice none 0 0, .int .i64 0, .bool false]) ∧ Below w.heap.size w w' := by
  refine (mended_any hcs hW hK hs hl hn hsl hb).mono ?_
  rintro e w' ⟨h, hbb⟩
  rcases h with ⟨he, _⟩ | ⟨v, ws, he, hg, _⟩
  · exact ⟨he, hbb⟩
  · obtain ⟨j, hj, h⟩ := hno
    exact absurd (hg j hj) (h (ws j))
theorem mended_yes {cs : List Nat} (hcs : Tab cs) {B P : Int} {W K : Nat} {A : Option Addr} {c : Nat} {xs : List (Nat × Nat)} {ss : List Nat} {w : World} (hW : 1 ≤ W ∧ W ≤ 4) (hK : 1 ≤ K ∧ K ≤ 64) (hs : Cx w w.heap.size A xs) (hl : xs.length = W * (K + 16))
    (hn : ss.length = xs.length) (hsl : ∀ i, i < xs.length → SlcIs (xA xs i) (at_ ss i)) (hb : ∀ y ∈ ss, y < 1024) (ws : Nat → List Nat) (hg : ∀ j, j < W → GoodR W (K + 16) ss (zX xs) j (ws j)) :
    Calls Try.prog 34 #[.agg (cells cs), .agg #[.int .i64 B, .int .i64 P, .int .i64 (W : Int), .int .i64 (K : Int)], .slice A xs.length c] w fun e w' => ∃ v, e = .returned (.tuple #[v, .int .i64 ((mxF (fun j => nbW W (K + 16) ss (zX xs) j (ws j)) W : Nat) : Int), .bool true]) ∧ OwnS w w' v (sayW W K ws) ∧ Below w.heap.size w w' := by
  refine (mended_any hcs hW hK hs hl hn hsl hb).mono ?_
  rintro e w' ⟨h, hbb⟩
  rcases h with ⟨_, j, hj, h⟩ | ⟨v, vs, rfl, hv, ho⟩
  · exact absurd (hg j hj) (h (ws j))
  · have e : ∀ j, j < W → vs j = ws j := fun j hj => good_unique (by omega) (hv j hj) (hg j hj)
    refine ⟨v, ?_, ?_, hbb⟩
    · rw [show mxF (fun j => nbW W (K + 16) ss (fun i => zP (xA xs i)) j (vs j)) W = mxF (fun j => nbW W (K + 16) ss (zX xs) j (ws j)) W from mxF_congr fun j hj => by show nbW W (K + 16) ss (zX xs) j (vs j) = _; rw [e j hj]]
    · rw [← sayW_congr e]; exact ho
set_option maxHeartbeats 8000000 in
theorem read_any {cs : List Nat} (hcs : Tab cs) {B P W K : Int} {A : Option Addr} {c : Nat} {xs : List (Nat × Nat)} {ss : List Nat} {w : World} (hs : Cx w w.heap.size A xs) (h6 : xs.length ≤ 1000000)
    (hn : ss.length = xs.length) (hsl : ∀ i, i < xs.length → SlcIs (xA xs i) (at_ ss i)) (hb : ∀ y ∈ ss, y < 1024) :
    Calls Try.prog 15 #[.agg (cells cs), .agg #[.int .i64 B, .int .i64 P, .int .i64 W, .int .i64 K], .slice A xs.length c] w fun e w' => ∃ k l q n d er, RdS B P W K xs ss k l q n d er ∧ RdV k l q n d er w e w' := by
  have H := Lib.hid hs
  have HCS := Lib.hid hcs
  obtain ⟨wa, hwa⟩ : ∃ wa, wa = w.alloc (.cells (cells cs) 33) := ⟨_, rfl⟩
  obtain ⟨wb, hwb⟩ : ∃ wb, wb = wa.alloc (.cells #[.int .i64 B, .int .i64 P, .int .i64 W, .int .i64 K] 23) := ⟨_, rfl⟩
  obtain ⟨wc, hwc⟩ : ∃ wc, wc = wb.alloc (.cells #[.int .i64 0, .int .i64 0, .int .i64 0] 25) := ⟨_, rfl⟩
  have hza : wa.heap.size = w.heap.size + 1 := by rw [hwa, World.size_alloc]
  have hzb : wb.heap.size = w.heap.size + 1 + 1 := by rw [hwb, World.size_alloc, hza]
  have hba : Below w.heap.size w wa := by rw [hwa]; exact Ge.below_alloc w _
  have hbc' : Below wb.heap.size wb wc := by rw [hwc]; exact Ge.below_alloc wb _
  have hab : Below wa.heap.size wa wb := by rw [hwb]; exact Ge.below_alloc wa _
  have hbb : Below w.heap.size w wb := hba.trans (hab.mono hba.size)
  have hbc : Below w.heap.size w wc := hbb.trans (hbc'.mono hbb.size)
  have hT : Tb wc w.heap.size cs := by
    have h1 : Tb wa w.heap.size cs := by rw [hwa]; exact tb_new w cs
    exact (h1.keep hab).keep hbc'
  have hX : Ge.Box wc (w.heap.size + 1) B P W K := by
    have := Ge.Box.new wa B P W K
    rw [← hwb, hza] at this
    exact this.keep hbc'
  have hH : Hdo wc (w.heap.size + 1 + 1) 0 0 0 := by
    have := Hdo.new wb 0 0 0
    rwa [← hwc, hzb] at this
  have hmay := Lib.hid (Ge.may_any B P W K wc)
  obtain ⟨x1, x2, x3, x4, x5⟩ := id hX
  rw [hwc, hwb, hwa] at hmay x2 x3 x4 x5
  cases hM : Ge.mayG B P W K
  · have hR := RdS.arg (xs := xs) (ss := ss) hM
    rw [hM] at hmay
    go_enter Try.func15, Try.ntmps15
    go_wp2_with (go_at_call 22; (with_reducible refine hmay.out.mono ?_); rintro e w1 ⟨rfl, hb1⟩; rw [← hwa, ← hwb, ← hwc] at hb1; have hH1 := hH.keep hb1; obtain ⟨j1, j2, j3, j4⟩ := hH1.hed; have jf := hH1.frozen; have hbw1 := hbc.trans (hb1.mono hbc.size))
    refine bodyPost_ret (results_m4 rfl rfl (hH1.set_ 0 0 0).hed) rfl ?_
    exact ⟨0, 0, 0, 0, [], 1, hR, none, 0, rfl, Nat.le_refl _, Sb.nil _ _ _, below_set3 hbw1 (by omega) _ _ _⟩
  · rw [hM] at hmay
    by_cases hsz : (xs.length : Int) = Ge.celG B P W K
    · have hne : ((xs.length : Int) != Ge.celG B P W K) = false := by simp [hsz]
      cases hbk : blkB xs
      · obtain ⟨W', K', N, rfl, rfl, hN, hW1, hW4, hK1, hK64, h8, h256, hsg, hcg⟩ := mayG_of hM
        have hxl : xs.length = W' * (K' + 16) := by rw [hcg] at hsz; exact Int.ofNat.inj hsz
        have hsz' := hsz
        replace hn := Lib.hid hn
        replace hsl := Lib.hid hsl
        replace hb := Lib.hid hb
        replace hxl := Lib.hid hxl
        replace hsz' := Lib.hid hsz'
        clear hsz hcg
        by_cases hbad : ∃ j, j < W' ∧ ∀ ys, ¬ GoodR W' (K' + 16) ss (zX xs) j ys
        · have hR : Hid (RdS B P (W' : Int) (K' : Int) xs ss 0 0 0 0 [] 4) := by
            obtain ⟨j, hj, h⟩ := hbad
            exact RdS.data hM hsz'.out hbk j hj h
          have HM : Hid (∀ w', Cx w' w'.heap.size A xs → Calls Try.prog 34 #[.agg (cells cs), .agg #[.int .i64 B, .int .i64 P, .int .i64 (W' : Int), .int .i64 (K' : Int)], .slice A xs.length c] w' fun e w'' => e = .returned (.tuple #[.slice none 0 0, .int .i64 0, .bool false]) ∧ Below w'.heap.size w' w'') := fun w' h => mended_no HCS.out ⟨hW1, hW4⟩ ⟨hK1, hK64⟩ h hxl.out hn.out hsl.out hb.out hbad
          clear hbad
          go_enter Try.func15, Try.ntmps15
          go_wp2_with (first
            | (go_at_call 22; (with_reducible refine hmay.out.mono ?_); rintro e w1 ⟨rfl, hb1⟩; rw [← hwa, ← hwb, ← hwc] at hb1; have hT1 := hT.keep hb1; have hX1 := hX.keep hb1; have hH1 := hH.keep hb1; obtain ⟨n1, n2, n3, n4, n5⟩ := id hX1; have hbw1 := hbc.trans (hb1.mono hbc.size); have hcl := Lib.hid (Ge.cells_any B P (W' : Int) (K' : Int) w1))
            | (go_at_call 33; (with_reducible refine hcl.out.mono ?_); rintro e w2 ⟨rfl, hb2⟩; have hT2 := hT1.keep hb2; have hX2 := hX1.keep hb2; have hH2 := hH1.keep hb2; have hbw2 := hbw1.trans (hb2.mono hbw1.size); obtain ⟨m1, m2, m3, m4, m5⟩ := id hX2; have hi1 := hT2.is HCS.out.1; have hi2 := hT2.of; have hbl := Lib.hid (blank_any A c xs w2 (H.out.far hbw2) h6); rw [hbk] at hbl; have hmd := Lib.hid (HM.out w2 (H.out.far hbw2)))
            | (go_at_call 19; (with_reducible refine hbl.out.mono ?_); rintro e w3 ⟨rfl, rfl⟩)
            | (go_at_call 34; (with_reducible refine hmd.out.mono ?_); rintro e w4 ⟨rfl, hb4⟩; have hH4 := hH2.keep hb4; obtain ⟨j1, j2, j3, j4⟩ := hH4.hed; have jf := hH4.frozen; have hbw4 := hbw2.trans (hb4.mono hbw2.size)))
          refine bodyPost_ret (results_m4 rfl rfl (hH4.set_ 0 0 0).hed) rfl ?_
          exact ⟨0, 0, 0, 0, [], 4, hR.out, none, 0, rfl, Nat.le_refl _, Sb.nil _ _ _, below_set3 hbw4 (by omega) _ _ _⟩
        · have hex : ∀ j, ∃ ys, j < W' → GoodR W' (K' + 16) ss (zX xs) j ys := fun j => by
            by_cases hj : j < W'
            · rcases Classical.em (∃ ys, GoodR W' (K' + 16) ss (zX xs) j ys) with ⟨ys, h⟩ | h
              · exact ⟨ys, fun _ => h⟩
              · exact absurd ⟨j, hj, fun ys hy => h ⟨ys, hy⟩⟩ hbad
            · exact ⟨[], fun h => absurd h hj⟩
          obtain ⟨ws, hws⟩ := Classical.axiomOfChoice hex
          clear hbad hex
          have hwl : ∀ j, j < W' → (ws j).length = K' + 16 := fun j hj => near_len (hws j hj).1
          have hsl' := sayW_len (W := W') (K := K') (ws := ws) hW1 hwl (by omega)
          have hsb' := sayW_bd (W := W') (K := K') (ws := ws) (fun j hj => (hws j hj).1.bd)
          have HM : Hid (∀ w', Cx w' w'.heap.size A xs → Calls Try.prog 34 #[.agg (cells cs), .agg #[.int .i64 B, .int .i64 P, .int .i64 (W' : Int), .int .i64 (K' : Int)], .slice A xs.length c] w' fun e w'' => ∃ v, e = .returned (.tuple #[v, .int .i64 ((mxF (fun j => nbW W' (K' + 16) ss (zX xs) j (ws j)) W' : Nat) : Int), .bool true]) ∧ OwnS w' w'' v (sayW W' K' ws) ∧ Below w'.heap.size w' w'') := fun w' h => mended_yes HCS.out ⟨hW1, hW4⟩ ⟨hK1, hK64⟩ h hxl.out hn.out hsl.out hb.out ws hws
          obtain ⟨S, hS⟩ : ∃ S, sayW W' K' ws = S := ⟨_, rfl⟩
          obtain ⟨M, hMx⟩ : ∃ M, mxF (fun j => nbW W' (K' + 16) ss (zX xs) j (ws j)) W' = M := ⟨_, rfl⟩
          rw [hS, hMx] at HM
          rw [hS] at hsl' hsb'
          rw [hN] at hsl'
          cases hSB : sayB N S
          · have hR : Hid (RdS B P (W' : Int) (K' : Int) xs ss 0 0 0 0 [] 12) := RdS.form hM hsz'.out hbk ws hws (by show sayB (W' * K') (sayW W' K' ws) = false; rw [hS, hN]; exact hSB)
            have HD : Hid (∀ w' A' c', Sl w' w'.heap.size A' S → S.length ≤ c' → Calls Try.prog 35 #[.agg #[.int .i64 B, .int .i64 P, .int .i64 (W' : Int), .int .i64 (K' : Int)], .slice A' S.length c'] w' fun e w'' => e = .returned (.tuple #[.agg #[.int .i64 0, .int .i64 0, .int .i64 0], .slice none 0 0, .bool false]) ∧ Below w'.heap.size w' w'') := fun w' A' c' h1 h2 => by
              refine (said_any hM hN h1 hsl' hsb' (by rw [← hsl']; exact h2)).mono ?_
              rintro e w'' ⟨h, hbb⟩
              rcases h with ⟨_, he⟩ | ⟨_, _, h, _⟩
              · exact ⟨he, hbb⟩
              · rw [hSB] at h; cases h
            clear hMx hS hSB hws hsl' hsb'
            go_enter Try.func15, Try.ntmps15
            go_wp2_with (first
              | (go_at_call 22; (with_reducible refine hmay.out.mono ?_); rintro e w1 ⟨rfl, hb1⟩; rw [← hwa, ← hwb, ← hwc] at hb1; have hT1 := hT.keep hb1; have hX1 := hX.keep hb1; have hH1 := hH.keep hb1; obtain ⟨n1, n2, n3, n4, n5⟩ := id hX1; have hbw1 := hbc.trans (hb1.mono hbc.size); have hcl := Lib.hid (Ge.cells_any B P (W' : Int) (K' : Int) w1))
              | (go_at_call 33; (with_reducible refine hcl.out.mono ?_); rintro e w2 ⟨rfl, hb2⟩; have hT2 := hT1.keep hb2; have hX2 := hX1.keep hb2; have hH2 := hH1.keep hb2; have hbw2 := hbw1.trans (hb2.mono hbw1.size); obtain ⟨m1, m2, m3, m4, m5⟩ := id hX2; have hi1 := hT2.is HCS.out.1; have hi2 := hT2.of; have hbl := Lib.hid (blank_any A c xs w2 (H.out.far hbw2) h6); rw [hbk] at hbl; have hmd := Lib.hid (HM.out w2 (H.out.far hbw2)))
              | (go_at_call 19; (with_reducible refine hbl.out.mono ?_); rintro e w3 ⟨rfl, rfl⟩)
              | (go_at_call 34; (with_reducible refine hmd.out.mono ?_); rintro e w4 ⟨v4, rfl, ho4, hb4⟩; have hX4 := hX2.keep hb4; have hH4 := hH2.keep hb4; have hbw4 := hbw2.trans (hb4.mono hbw2.size); obtain ⟨p1, p2, p3, p4, p5⟩ := id hX4; obtain ⟨A4, c4, rfl, hc4, hs4⟩ := ho4.sl; have hsd := Lib.hid (HD.out w4 A4 c4 hs4 hc4))
              | (go_at_call 35; (with_reducible refine hsd.out.mono ?_); rintro e w5 ⟨rfl, hb5⟩; have hb5' := hb5.trans ((Ge.below_alloc w5 (.cells #[.int .i64 0, .int .i64 0, .int .i64 0] 25)).mono hb5.size); have hH5 := hH4.keep hb5'; obtain ⟨j1, j2, j3, j4⟩ := hH5.hed; have jf := hH5.frozen; have hbw5 := hbw4.trans (hb5'.mono hbw4.size)))
            refine bodyPost_ret (results_m4 rfl rfl (hH5.set_ 0 0 0).hed) rfl ?_
            exact ⟨0, 0, 0, 0, [], 12, hR.out, none, 0, rfl, Nat.le_refl _, Sb.nil _ _ _, below_set3 hbw5 (by omega) _ _ _⟩
          · have hR : Hid (RdS B P (W' : Int) (K' : Int) xs ss (sayK S) (sayN S) (sayQ S) M (sayD N S) 0) := by
              have := RdS.ok hM hsz'.out hbk ws hws (by show sayB (W' * K') (sayW W' K' ws) = true; rw [hS, hN]; exact hSB)
              simp only [Int.toNat_natCast] at this
              rw [hS, hMx, hN] at this
              exact this
            have HD : Hid (∀ w' A' c', Sl w' w'.heap.size A' S → S.length ≤ c' → Calls Try.prog 35 #[.agg #[.int .i64 B, .int .i64 P, .int .i64 (W' : Int), .int .i64 (K' : Int)], .slice A' S.length c'] w' fun e w'' => ∃ A c, e = .returned (.tuple #[.agg #[.int .i64 ((sayK S : Nat) : Int), .int .i64 ((sayN S : Nat) : Int), .int .i64 ((sayQ S : Nat) : Int)], .slice A (sayD N S).length c, .bool true]) ∧ (sayD N S).length ≤ c ∧ Sb w'' w''.heap.size A (sayD N S) ∧ Below w'.heap.size w' w'') := fun w' A' c' h1 h2 => by
              refine (said_any hM hN h1 hsl' hsb' (by rw [← hsl']; exact h2)).mono ?_
              rintro e w'' ⟨h, hbb⟩
              rcases h with ⟨h, _⟩ | ⟨A, c, _, he, hc, hs⟩
              · rw [hSB] at h; cases h
              · exact ⟨A, c, he, hc, hs, hbb⟩
            clear hMx hS hSB hws hsl' hsb'
            go_enter Try.func15, Try.ntmps15
            go_wp2_with (first
              | (go_at_call 22; (with_reducible refine hmay.out.mono ?_); rintro e w1 ⟨rfl, hb1⟩; rw [← hwa, ← hwb, ← hwc] at hb1; have hT1 := hT.keep hb1; have hX1 := hX.keep hb1; have hH1 := hH.keep hb1; obtain ⟨n1, n2, n3, n4, n5⟩ := id hX1; have hbw1 := hbc.trans (hb1.mono hbc.size); have hcl := Lib.hid (Ge.cells_any B P (W' : Int) (K' : Int) w1))
              | (go_at_call 33; (with_reducible refine hcl.out.mono ?_); rintro e w2 ⟨rfl, hb2⟩; have hT2 := hT1.keep hb2; have hX2 := hX1.keep hb2; have hH2 := hH1.keep hb2; have hbw2 := hbw1.trans (hb2.mono hbw1.size); obtain ⟨m1, m2, m3, m4, m5⟩ := id hX2; have hi1 := hT2.is HCS.out.1; have hi2 := hT2.of; have hbl := Lib.hid (blank_any A c xs w2 (H.out.far hbw2) h6); rw [hbk] at hbl; have hmd := Lib.hid (HM.out w2 (H.out.far hbw2)))
              | (go_at_call 19; (with_reducible refine hbl.out.mono ?_); rintro e w3 ⟨rfl, rfl⟩)
              | (go_at_call 34; (with_reducible refine hmd.out.mono ?_); rintro e w4 ⟨v4, rfl, ho4, hb4⟩; have hX4 := hX2.keep hb4; have hH4 := hH2.keep hb4; have hbw4 := hbw2.trans (hb4.mono hbw2.size); obtain ⟨p1, p2, p3, p4, p5⟩ := id hX4; obtain ⟨A4, c4, rfl, hc4, hs4⟩ := ho4.sl; have hsd := Lib.hid (HD.out w4 A4 c4 hs4 hc4))
              | (go_at_call 35; (with_reducible refine hsd.out.mono ?_); rintro e w5 ⟨A5, c5, rfl, hc5, hs5, hb5⟩; have ha5 := Ge.below_alloc w5 (.cells #[.int .i64 ((sayK S : Nat) : Int), .int .i64 ((sayN S : Nat) : Int), .int .i64 ((sayQ S : Nat) : Int)] 25); have hb5' := hb5.trans (ha5.mono hb5.size); have hH5 := hH4.keep hb5'; obtain ⟨j1, j2, j3, j4⟩ := hH5.hed; have jf := hH5.frozen; have hbw5 := hbw4.trans (hb5'.mono hbw4.size); have hs6 := hs5.far ha5))
            refine bodyPost_ret (results_m4 rfl rfl (hH5.set_ _ _ _).hed) rfl ?_
            refine ⟨sayK S, sayN S, sayQ S, M, sayD N S, 0, hR.out, A5, c5, rfl, hc5, ?_, below_set3 hbw5 (by omega) _ _ _⟩
            have hne6 := hH5.ne hs6
            simp only [World.size_setCell]
            exact ((hs6.setOther hne6).setOther hne6).setOther hne6
      · have hR := RdS.none (ss := ss) hM hsz hbk
        go_enter Try.func15, Try.ntmps15
        go_wp2_with (first
          | (go_at_call 22; (with_reducible refine hmay.out.mono ?_); rintro e w1 ⟨rfl, hb1⟩; rw [← hwa, ← hwb, ← hwc] at hb1; have hT1 := hT.keep hb1; have hX1 := hX.keep hb1; have hH1 := hH.keep hb1; obtain ⟨n1, n2, n3, n4, n5⟩ := id hX1; have hbw1 := hbc.trans (hb1.mono hbc.size); have hcl := Lib.hid (Ge.cells_any B P W K w1))
          | (go_at_call 33; (with_reducible refine hcl.out.mono ?_); rintro e w2 ⟨rfl, hb2⟩; have hT2 := hT1.keep hb2; have hX2 := hX1.keep hb2; have hH2 := hH1.keep hb2; have hbw2 := hbw1.trans (hb2.mono hbw1.size); obtain ⟨j1, j2, j3, j4⟩ := hH2.hed; have jf := hH2.frozen; have hbl := Lib.hid (blank_any A c xs w2 (H.out.far hbw2) h6); rw [hbk] at hbl)
          | (go_at_call 19; (with_reducible refine hbl.out.mono ?_); rintro e w3 ⟨rfl, rfl⟩))
        refine bodyPost_ret (results_m4 rfl rfl (hH2.set_ 0 0 0).hed) rfl ?_
        exact ⟨0, 0, 0, 0, [], 13, hR, none, 0, rfl, Nat.le_refl _, Sb.nil _ _ _, below_set3 hbw2 (by omega) _ _ _⟩
    · have hR := RdS.size (ss := ss) hM hsz
      have hne : ((xs.length : Int) != Ge.celG B P W K) = true := by simp [hsz]
      go_enter Try.func15, Try.ntmps15
      go_wp2_with (first
        | (go_at_call 22; (with_reducible refine hmay.out.mono ?_); rintro e w1 ⟨rfl, hb1⟩; rw [← hwa, ← hwb, ← hwc] at hb1; have hT1 := hT.keep hb1; have hX1 := hX.keep hb1; have hH1 := hH.keep hb1; obtain ⟨n1, n2, n3, n4, n5⟩ := id hX1; have hbw1 := hbc.trans (hb1.mono hbc.size); have hcl := Lib.hid (Ge.cells_any B P W K w1))
        | (go_at_call 33; (with_reducible refine hcl.out.mono ?_); rintro e w2 ⟨rfl, hb2⟩; have hT2 := hT1.keep hb2; have hX2 := hX1.keep hb2; have hH2 := hH1.keep hb2; have hbw2 := hbw1.trans (hb2.mono hbw1.size); obtain ⟨j1, j2, j3, j4⟩ := hH2.hed; have jf := hH2.frozen; have hbl := Lib.hid (blank_any A c xs w2 (H.out.far hbw2) h6)))
      refine bodyPost_ret (results_m4 rfl rfl (hH2.set_ 0 0 0).hed) rfl ?_
      exact ⟨0, 0, 0, 0, [], 3, hR, none, 0, rfl, Nat.le_refl _, Sb.nil _ _ _, below_set3 hbw2 (by omega) _ _ _⟩
end Go.Proofs.Ytbggjlgdgpemkaa
