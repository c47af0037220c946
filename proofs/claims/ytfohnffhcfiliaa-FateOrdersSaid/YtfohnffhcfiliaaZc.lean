/- What befalls: what the program's fates answer, said of triples; the awake of chapter 9. -/
import Derived.Test.YtfohnffhcfiliaaZn
import Derived.Laws.ResultCell
import Derived.Laws.Rows
namespace Go.Proofs.Ytfohnffhcfiliaa
open Go.RowKit
set_option linter.unusedVariables false
set_option linter.unusedSimpArgs false

/-- THE FATES (the program's own way to keep them: sorted) -/
def Fts (w : World) (p : Addr) (ts : List (Int × Int × Int)) : Prop := ∃ g A c, ∃ ss : List (Int × Int × Int), p = ⟨g, 0, none⟩ ∧ g < w.heap.size ∧ w.cell? ⟨g, 0, none⟩ = some (.slice A ss.length c) ∧ S3 w w.heap.size A ss ∧ ss.length ≤ c ∧ ss.Perm ts ∧ Rises ss
section
variable {w w' : World} {p : Addr} {ts : List (Int × Int × Int)}
theorem Fts.below (h : Fts w p ts) (hb : Below w.heap.size w w') : Fts w' p ts := by
  obtain ⟨g, A, c, ss, rfl, h1, h2, h3, h4⟩ := h
  exact ⟨g, A, c, ss, rfl, Nat.lt_of_lt_of_le h1 hb.size, (hb.cell h1).trans h2, h3.far hb, h4⟩
theorem size30 : (Try.prog.info? 30).map (·.size) = some 3 := by kernel_rfl
theorem elem22 : Try.prog.elem 22 = 30 := by kernel_rfl
theorem add_zero' (a : Addr) : a.add 0 = a := by unfold Addr.add; rw [if_pos rfl]
theorem add_add' (a : Addr) (k m : Nat) : (a.add k).add m = a.add (k + m) := by
  by_cases hm : m = 0
  · subst hm; rw [add_zero', Nat.add_zero]
  · rw [add_more a k m hm]
    unfold Addr.add
    rw [if_neg hm]
/-- s[m:] -/
theorem slice_from (A : Option Addr) (n c m : Nat) (hm : m ≤ n) (w : World) : (Instr.slice 22 (.slice A n c) (some (.int .i64 (m : Int))) none none).run Try.prog w = .ok (sliced A m n c 3) w := by
  rw [run_slice_l (P := Try.prog) w 22 A n c (by rw [elem22]; exact Try.underlying22) .i64 (m : Int) (by omega) (by omega), elem22, Try.sizeOf30]
  simp only [Result.andThen_ok, Int.toNat_natCast]
theorem S3.drop {w : World} {B : Nat} {A : Option Addr} {ss : List (Int × Int × Int)} {n c : Nat} (h : S3 w B A ss) (hn : ss.length = n) (hc : n ≤ c) (m : Nat) (hm : m ≤ n) : ∃ A', sliced A m n c 3 = .slice A' (n - m) (c - m) ∧ S3 w B A' (ss.drop m) := by
  unfold sliced
  refine ⟨_, rfl, ?_⟩
  by_cases e : m = n
  · subst e
    left
    rw [← hn, List.drop_length]
  · rw [if_neg (by omega)]
    rcases h with e0 | ⟨a, rfl, hb, hcl⟩
    · rw [e0] at hn; simp at hn; omega
    · refine Or.inr ⟨_, rfl, by rw [add_block]; exact hb, fun i hi => ?_⟩
      have hi' : m + i < ss.length := by simp at hi; omega
      obtain ⟨c0, c1, c2⟩ := hcl (m + i) hi'
      have et : tAt (ss.drop m) i = tAt ss (m + i) := by
        unfold tAt; simp [List.getD, List.getElem?_drop]
      rw [et, add_add', add_add', add_add', show m * 3 + i * 3 = (m + i) * 3 by omega, show m * 3 + (i * 3 + 1) = (m + i) * 3 + 1 by omega, show m * 3 + (i * 3 + 2) = (m + i) * 3 + 2 by omega]
      exact ⟨c0, c1, c2⟩
set_option maxHeartbeats 1000000 in
/-- the fates from an operation on -/
theorem from_any (h : Fts w p ts) (hm : mayF ts = true) (x : Int) :
    Calls Try.prog 17 #[.pointer (some p), .int .i64 x] w fun e w' => ∃ (ss : List (Int × Int × Int)) (A : Option Addr) (c m k : Nat), e = .returned (.slice A k c) ∧ ss.length - m = k ∧ Below w.heap.size w w' ∧ S3 w' w'.heap.size A (ss.drop m) ∧ m ≤ ss.length ∧ ss.Perm ts ∧ Rises ss ∧ (∀ t, t < m → (tAt ss t).1 < x) ∧ (∀ t, m ≤ t → t < ss.length → x ≤ (tAt ss t).1) := by
  obtain ⟨g, A, c, ss, rfl, hg, hcell, hS, hnc, hp, hr⟩ := h
  have hl : ss.length ≤ 1000000 := by rw [hp.length_eq]; have := (mayF_iff.1 hm).1; omega
  obtain ⟨n, hn⟩ : ∃ n, ss.length = n := ⟨_, rfl⟩
  unfold Rises at hr
  rw [hn] at hcell hnc hl hr
  have hc := Lib.hid (search_any A c n ss x w hS hn hl hr)
  replace hS := Lib.hid hS
  replace hn := Lib.hid hn
  replace hr := Lib.hid hr
  replace hp := Lib.hid hp
  go_enter Try.func17, Try.ntmps17
  go_wp2_with (go_at_call 22; (with_reducible refine hc.out.mono ?_))
  rintro e w1 ⟨m, b, rfl, hmn, h1, h2, hb⟩
  have hcell1 := (hb.cell (p := ⟨g, 0, none⟩) hg).trans hcell
  have hsl := slice_from A n c m hmn w1
  obtain ⟨A', hA', hS'⟩ := (hS.out.far hb).drop hn.out hnc m hmn
  rw [hA'] at hsl
  have hmI : (m : Int) ≤ (n : Int) := by omega
  have hS2 := Lib.hid hS'
  have hb2 := Lib.hid hb
  have h12 := Lib.hid h1
  have h22 := Lib.hid h2
  clear hb hcell h1 h2 hS hc hS' hA'
  go_wp2_with fail
  go_ret
  exact ⟨ss, A', _, m, _, rfl, by rw [hn.out], hb2.out, hS2.out, by rw [hn.out]; exact hmn, hp.out, (by unfold Rises; rw [hn.out]; exact hr.out), h12.out, by rw [hn.out]; exact h22.out⟩
theorem heap3 {w1 : World} {g : Nat} {T : TypeId} {fr : Nat × Nat} {a b c : Value} (h : w1.heap[g]? = some (.cells #[a, b, c] T fr)) (x y z : Value) :
    (((w1.setCell ⟨g, 0, none⟩ x).setCell ⟨g, 1, none⟩ y).setCell ⟨g, 2, none⟩ z).heap[g]? = some (.cells #[x, y, z] T fr) := by
  simp [Sort.setCell_eq, Sort.mapBlock, Array.getElem?_modify, h, Sort.onCells]
theorem below3 {w1 : World} {g : Nat} (x y z : Value) : Below g w1 (((w1.setCell ⟨g, 0, none⟩ x).setCell ⟨g, 1, none⟩ y).setCell ⟨g, 2, none⟩ z) := by
  refine ⟨rfl, rfl, rfl, by simp [Sort.setCell_eq, Sort.mapBlock], fun k hk => ?_⟩
  have : g ≠ k := by omega
  simp [Sort.setCell_eq, Sort.mapBlock, Array.getElem?_modify, this]
theorem ret_fate {W : World} {g : Nat} {T : TypeId} {fr : Nat × Nat} {x y z v : Value} (h : W.heap[g]? = some (.cells #[x, y, z] T fr)) (tmps : Array Value) (h4 : tmps.getD 4 undef = .pointer (some ⟨g, 0, none⟩)) (h5 : tmps.getD 5 undef = v) :
    (results Try.f9 tmps).run Try.prog W = .ok (.tuple #[.agg #[x, y, z], v]) W := by
  rw [results_cell_tmp (fn := Try.f9) (p := 4) (u := 5) (ty := 30) rfl, h4, h5]
  simp [asAddr, run_loadVar_row W g T 30 _ fr _ h Try.underlying30 rfl size30]
set_option maxHeartbeats 1000000 in
theorem c_at (h : Fts w p ts) (hm : mayF ts = true) (n : Int) {x : Int × Int × Int} (hx : atF ts n ts.length = x) {b : Bool} (hb : isF ts n ts.length = b) :
    Calls Try.prog 9 #[.pointer (some p), .int .i64 n] w (Ans w (.tuple #[.agg #[.int .i64 x.1, .int .i64 x.2.1, .int .i64 x.2.2], .bool b])) := by
  have hA := below_alloc w (.cells #[.int .i64 0, .int .i64 0, .int .i64 0] 30)
  have hc := Lib.hid (from_any (h.below hA) hm n)
  replace hA := Lib.hid hA
  replace hm := Lib.hid hm
  replace hx := Lib.hid hx
  replace hb := Lib.hid hb
  clear h
  go_enter Try.func9, Try.ntmps9
  go_wp2_with (go_at_call 17; (with_reducible refine hc.out.mono ?_))
  clear hc
  rintro e w1 ⟨ss, A, c, m, k, rfl, hk, hB, hS, hms, hp, hr, h1, h2⟩
  have hB1 := hA.out.trans (hB.mono hA.out.size)
  have hgl : w.heap.size < (w.alloc (.cells #[.int .i64 0, .int .i64 0, .int .i64 0] 30)).heap.size := by rw [World.size_alloc]; omega
  have hb0 := (hB.block w.heap.size hgl).trans (heap_alloc_new w (.cells #[.int .i64 0, .int .i64 0, .int .i64 0] 30))
  have hbox : ∀ i, w1.cell? ⟨w.heap.size, i, none⟩ = (#[.int .i64 0, .int .i64 0, .int .i64 0] : Array Value)[i]? := cell_of hb0
  have hbf : ∀ i, w1.frozen? ⟨w.heap.size, i, none⟩ = false := fun i => by simp [World.frozen?, hb0]
  have b0 := hbox 0
  have b1 := hbox 1
  have b2 := hbox 2
  have f0 := hbf 0
  have f1 := hbf 1
  have f2 := hbf 2
  have hgl1 : w.heap.size < w1.heap.size := Nat.lt_of_lt_of_le hgl hB.size
  clear hbox hbf
  by_cases hk0 : k = 0
  · subst hk0
    have hno : ∀ y ∈ ts, y.1 ≠ n := fun y hy => by
      obtain ⟨t, ht, rfl⟩ := mem_tAt (hp.mem_iff.2 hy)
      have := h1 t (by omega)
      omega
    have h0 := at_none hno ts.length (Nat.le_refl _)
    rw [hx.out, hb.out] at h0
    obtain ⟨rfl, rfl⟩ := h0
    go_wp2_with fail
    exact bodyPost_ret (ret_fate (heap3 hb0 _ _ _) _ rfl rfl) rfl ⟨rfl, hB1.trans (below3 _ _ _)⟩
  · have hm1 : m < ss.length := by omega
    have h0 := h2 m (Nat.le_refl _) hm1
    obtain ⟨a, rfl, hab, c0, c1, c2⟩ := hS.at_ (i := 0) (by rw [List.length_drop]; omega)
    have et : tAt (ss.drop m) 0 = tAt ss m := by unfold tAt; simp [List.getD, List.getElem?_drop]
    rw [et] at c0 c1 c2
    rw [Nat.zero_mul, add_zero'] at c0 c1 c2
    obtain ⟨y, hy⟩ : ∃ y, tAt ss m = y := ⟨_, rfl⟩
    have hmem : y ∈ ts := hp.mem_iff.1 (by rw [← hy]; exact tAt_mem hm1)
    rw [hy] at c0 c1 c2 h0
    have hkI : ¬ (k : Int) = 0 := by omega
    have hkI1 : (0 : Int) < (k : Int) := by omega
    have hk1 : 0 < k := by omega
    have hke : ((k : Int) == 0) = false := by simpa using hkI
    have hke2 : (k == 0) = false := by simpa using hk0
    by_cases hyn : y.1 = n
    · have h3 := at_some hm.out hmem hyn
      rw [hx.out, hb.out] at h3
      obtain ⟨rfl, rfl⟩ := h3
      have e1 : (x.1 != n) = false := by simpa using hyn
      clear h1 h2 hyn h0 hr
      go_wp2_with fail
      exact bodyPost_ret (ret_fate (heap3 hb0 _ _ _) _ rfl rfl) rfl ⟨rfl, hB1.trans (below3 _ _ _)⟩
    · have hno : ∀ z ∈ ts, z.1 ≠ n := fun z hz e => by
        obtain ⟨t, ht, rfl⟩ := mem_tAt (hp.mem_iff.2 hz)
        rcases Nat.lt_or_ge t m with h | h
        · have := h1 t h; omega
        · rcases (by omega : t = m ∨ m < t) with rfl | h
          · rw [hy] at e; exact hyn e
          · have := hr m t h ht
            rw [hy] at this
            omega
      have h3 := at_none hno ts.length (Nat.le_refl _)
      rw [hx.out, hb.out] at h3
      obtain ⟨rfl, rfl⟩ := h3
      have e1 : (y.1 != n) = true := by simpa using hyn
      clear h1 h2 hyn h0 hr
      go_wp2_with fail
      exact bodyPost_ret (ret_fate (heap3 hb0 _ _ _) _ rfl rfl) rfl ⟨rfl, hB1.trans (below3 _ _ _)⟩
set_option maxHeartbeats 1000000 in
theorem c_left (h : Fts w p ts) (hm : mayF ts = true) (n : Int) {m : Nat} (hl : leftF ts n ts.length = m) {M : Int} (hM : M = (m : Int)) : Calls Try.prog 10 #[.pointer (some p), .int .i64 n] w (Ans w (.int .i64 M)) := by
  subst hM
  have hc := Lib.hid (from_any h hm n)
  replace hl := Lib.hid hl
  clear h
  go_enter Try.func10, Try.ntmps10
  go_wp2_with (go_at_call 17; (with_reducible refine hc.out.mono ?_))
  clear hc
  rintro e w1 ⟨ss, A, c, m1, k, rfl, hk, hB, hS, hms, hp, hr, h1, h2⟩
  have e := leftF_sorted hp hms h1 h2
  rw [hl.out, hk] at e
  subst e
  replace hB := Lib.hid hB
  clear hr h1 h2 hS hp hk hms
  go_wp2_with fail
  go_ret
  exact ⟨rfl, hB.out⟩
theorem S3.none_nil {w : World} {B : Nat} {ts : List (Int × Int × Int)} (h : S3 w B none ts) : ts = [] := by
  rcases h with e | ⟨a, e, _⟩
  · exact e
  · cases e
set_option maxHeartbeats 1000000 in
/-- New -/
theorem new_any {A : Option Addr} {c n : Nat} (hs : S3 w w.heap.size A ts) (hn : ts.length = n) (hl : n ≤ 1000000) :
    Calls Try.prog 7 #[.slice A n c] w fun e w' => Below w.heap.size w w' ∧ ((mayF ts = true ∧ ∃ p, e = .returned (.tuple #[.pointer (some p), .int .i64 0]) ∧ Fts w' p ts) ∨ (mayF ts = false ∧ e = .returned (.tuple #[.pointer none, .int .i64 1]))) := by
  by_cases h256 : 256 < n
  · have hI : (256 : Int) < (n : Int) := by omega
    have hm := Lib.hid (mayF_long (ts := ts) (by omega))
    clear hs
    go_enter Try.func7, Try.ntmps7
    go_wp2_with fail
    go_ret2
    exact ⟨Below.refl _ _, Or.inr ⟨hm.out, rfl⟩⟩
  have hI : ¬ (256 : Int) < (n : Int) := by omega
  have hd : decide (256 < n) = false := decide_eq_false h256
  have hhas := Lib.hid (contains_any A c n ts w hs hn hl)
  have hA : A = none → n = 0 := fun e => by rw [e] at hs; rw [← hn, hs.none_nil]; rfl
  cases hbad : badT ts
  · rw [hbad] at hhas
    replace hbad := Lib.hid hbad
    replace hs := Lib.hid hs
    go_enter Try.func7, Try.ntmps7
    go_wp2_with (go_at_call 11; (with_reducible refine hhas.out.mono ?_))
    rintro e w1 ⟨rfl, hB⟩
    have hsz := hB.size
    have hcl := Lib.hid (clone_any (c := c) (hs.out.far hB) hn hl hA)
    replace hB := Lib.hid hB
    clear hhas hs
    go_wp2_with (go_at_call 13; (with_reducible refine hcl.out.mono ?_))
    rintro e w2 ⟨v, rfl, hB2, hO⟩
    have hso := Lib.hid (sort_any hO (by omega) hB2.size)
    have hB2 := Lib.hid (hB.out.trans (hB2.mono hB.out.size))
    clear hcl hO hB
    go_wp2_with (go_at_call 14; (with_reducible refine hso.out.mono ?_))
    rintro e w3 ⟨rfl, ss, hp, hr, hO, hB3⟩
    obtain ⟨A', c', rfl, hc', hS⟩ := hO.s3
    have hmay := mayF_sorted hp hr (by omega) hbad.out
    have htw := Lib.hid (twice_any A' c' ss.length ss w3 hS rfl (by rw [hp.length_eq]; omega))
    have hB3 := Lib.hid (hB2.out.trans (hB3.mono hsz))
    replace hS := Lib.hid hS
    replace hr := Lib.hid hr
    replace hp := Lib.hid hp
    clear hB2 hso hO
    obtain ⟨k, hk⟩ : ∃ k, Hid (ss.length = k) := ⟨_, Lib.hid rfl⟩
    rw [hk.out] at hc' htw ⊢
    cases htws : twT ss
    · rw [htws] at htw hmay
      replace hmay := Lib.hid hmay
      go_wp2_with (go_at_call 16; (with_reducible refine htw.out.mono ?_); rintro e w4 ⟨rfl, hb4⟩; have hb5 := Lib.hid (hb4.mono (Nat.le_trans hB3.out.size (Nat.le_refl _))); have hb4 := Lib.hid hb4)
      go_ret2
      have hA := below_alloc w4 (.cells #[.slice A' k c'] 44)
      refine ⟨(hB3.out.trans hb5.out).trans (hA.mono (hB3.out.trans hb5.out).size), Or.inl ⟨hmay.out, _, rfl, ?_⟩⟩
      refine ⟨_, A', c', ss, rfl, by rw [World.size_alloc]; exact Nat.lt_succ_self _, ?_, (hS.out.far hb4.out).far hA, by rw [hk.out]; exact hc', hp.out, hr.out⟩
      rw [cell_new, hk.out]
      rfl
    · rw [htws] at htw hmay
      replace hmay := Lib.hid hmay
      go_wp2_with (go_at_call 16; (with_reducible refine htw.out.mono ?_); rintro e w4 ⟨rfl, hb4⟩; have hb5 := Lib.hid (hb4.mono (Nat.le_trans hB3.out.size (Nat.le_refl _))))
      go_ret2
      exact ⟨hB3.out.trans hb5.out, Or.inr ⟨hmay.out, rfl⟩⟩
  · rw [hbad] at hhas
    have hm := Lib.hid (mayF_bad hbad)
    clear hs
    go_enter Try.func7, Try.ntmps7
    go_wp2_with (go_at_call 11; (with_reducible refine hhas.out.mono ?_); rintro e w1 ⟨rfl, hB⟩; have hB := Lib.hid hB)
    go_ret2
    exact ⟨hB.out, Or.inr ⟨hm.out, rfl⟩⟩
theorem c_yes {A : Option Addr} {c n : Nat} (hs : S3 w w.heap.size A ts) (hn : ts.length = n) (hm : mayF ts = true) :
    Calls Try.prog 7 #[.slice A n c] w fun e w' => ∃ p, e = .returned (.tuple #[.pointer (some p), .int .i64 0]) ∧ Below w.heap.size w w' ∧ Fts w' p ts :=
  (new_any hs hn (by have := (mayF_iff.1 hm).1; omega)).mono fun e w' ⟨hb, h⟩ => by
    rcases h with ⟨_, p, he, hf⟩ | ⟨h, _⟩
    · exact ⟨p, he, hb, hf⟩
    · rw [hm] at h; cases h
theorem c_no {A : Option Addr} {c n : Nat} (hs : S3 w w.heap.size A ts) (hn : ts.length = n) (hl : n ≤ 1000000) (hm : mayF ts = false) :
    Calls Try.prog 7 #[.slice A n c] w (Ans w (.tuple #[.pointer none, .int .i64 1])) :=
  (new_any hs hn hl).mono fun e w' ⟨hb, h⟩ => by
    rcases h with ⟨h, _⟩ | ⟨_, he⟩
    · rw [hm] at h; cases h
    · exact ⟨he, hb⟩
end
/-- a row made in the text -/
theorem S3.new (w : World) (cs : Array Value) (ts : List (Int × Int × Int)) (t : TypeId) (h : ∀ i, i < ts.length → cs[i * 3]? = some (.int .i64 (tAt ts i).1) ∧ cs[i * 3 + 1]? = some (.int .i64 (tAt ts i).2.1) ∧ cs[i * 3 + 2]? = some (.int .i64 (tAt ts i).2.2)) :
    S3 (w.alloc (.cells cs t)) (w.alloc (.cells cs t)).heap.size (some ⟨w.heap.size, 0, none⟩) ts := by
  refine Or.inr ⟨_, rfl, by rw [World.size_alloc]; show w.heap.size < _; omega, fun i hi => ?_⟩
  have e : ∀ k, (⟨w.heap.size, 0, none⟩ : Addr).add k = ⟨w.heap.size, k, none⟩ := fun k => by unfold Addr.add; split <;> simp_all
  obtain ⟨h0, h1, h2⟩ := h i hi
  rw [e, e, e, cell_new, cell_new, cell_new]
  exact ⟨h0, h1, h2⟩
set_option maxHeartbeats 2000000 in
theorem awake_any (w : World) : Calls Try.prog 6 #[] w (Ans w (.bool true)) := by
  have hS := Lib.hid (S3.new w #[.int .i64 3, .int .i64 2, .int .i64 5] [(3, 2, 5)] 30 (fun i hi => by
    obtain rfl : i = 0 := by simpa using hi
    exact ⟨rfl, rfl, rfl⟩))
  have hA := Lib.hid (below_alloc w (.cells #[.int .i64 3, .int .i64 2, .int .i64 5] 30))
  have hm : mayF [(3, 2, 5)] = true := by decide +kernel
  go_enter Try.func6, Try.ntmps6
  go_wp2_with fail
  refine (c_yes hS.out (n := 1) rfl hm).mono ?_
  rintro e w1 ⟨p, rfl, hb, hp⟩
  have hb1 := Lib.hid (hA.out.trans (hb.mono hA.out.size))
  have hp1 := Lib.hid hp
  clear hb hp hS hA
  go_wp2_with fail
  refine (c_at hp1.out hm 3 (x := (3, 2, 5)) (by decide +kernel) (b := true) (by decide +kernel)).mono ?_
  rintro e w2 ⟨rfl, hb⟩
  have hb2 := Lib.hid (hb1.out.trans (hb.mono hb1.out.size))
  have hp2 := Lib.hid (hp1.out.below hb)
  clear hb hp1 hb1
  dsimp only
  have hA := below_alloc w2 (.cells #[.int .i64 3, .int .i64 2, .int .i64 5] 30)
  have hb3 := Lib.hid (hb2.out.trans (hA.mono hb2.out.size))
  have hp3 := Lib.hid (hp2.out.below hA)
  have hK := Lib.hid (cell_new w2 #[.int .i64 3, .int .i64 2, .int .i64 5] 30 2)
  have hKl := Lib.hid (show w2.heap.size < (w2.alloc (.cells #[.int .i64 3, .int .i64 2, .int .i64 5] 30)).heap.size from by rw [World.size_alloc]; omega)
  clear hA hb2 hp2
  go_wp2_with fail
  generalize w2.alloc (.cells #[.int .i64 3, .int .i64 2, .int .i64 5] 30) = w3 at *
  refine (c_at hp3.out hm 2 (x := (0, 0, 0)) (by decide +kernel) (b := false) (by decide +kernel)).mono ?_
  rintro e w4 ⟨rfl, hb⟩
  dsimp only
  have hA := below_alloc w4 (.cells #[.int .i64 0, .int .i64 0, .int .i64 0] 30)
  have hb4 := Lib.hid ((hb3.out.trans (hb.mono hb3.out.size)).trans (hA.mono (hb3.out.trans (hb.mono hb3.out.size)).size))
  have hp4 := Lib.hid ((hp3.out.below hb).below hA)
  have hK4 : (w4.alloc (.cells #[.int .i64 0, .int .i64 0, .int .i64 0] 30)).cell? ⟨w2.heap.size, 2, none⟩ = some (.int .i64 5) := (hA.cell (Nat.lt_of_lt_of_le hKl.out hb.size)).trans ((hb.cell (p := ⟨w2.heap.size, 2, none⟩) hKl.out).trans hK.out)
  clear hA hb hb3 hp3 hK hKl
  go_wp2_with (first
    | (go_at_call 10; first
        | (with_reducible refine (c_left hp4.out hm 3 (m := 1) (M := 1) (by decide +kernel) rfl).mono ?_))
    | fail)
  generalize w4.alloc (.cells #[.int .i64 0, .int .i64 0, .int .i64 0] 30) = w5 at *
  rintro e w6 ⟨rfl, hb⟩
  have hb6 := Lib.hid (hb4.out.trans (hb.mono hb4.out.size))
  have hp6 := Lib.hid (hp4.out.below hb)
  clear hb hb4 hp4
  go_wp2_with fail
  refine (c_left hp6.out hm 4 (m := 0) (M := 0) (by decide +kernel) rfl).mono ?_
  rintro e w7 ⟨rfl, hb⟩
  have hb7 := Lib.hid (hb6.out.trans (hb.mono hb6.out.size))
  clear hb
  go_wp2_with fail
  go_ret
  exact ⟨rfl, hb7.out⟩
end Go.Proofs.Ytfohnffhcfiliaa
