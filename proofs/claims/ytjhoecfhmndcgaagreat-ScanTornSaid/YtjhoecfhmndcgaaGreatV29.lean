/- The program's package poly: addTimes. · The program's package poly: Mul. · The program's package poly: At. · The program's package poly: Div. -/
import Derived.Test.YtjhoecfhmndcgaaGreatV27
import Derived.Test.YtjhoecfhmndcgaaGreatV28
import Derived.Test.YtjhoecfhmndcgaaGreatV06
import Derived.Test.YtjhoecfhmndcgaaGreatV18
import Derived.WalkMore
import Derived.ScopeJumps
namespace Go.Proofs.YtjhoecfhmndcgaaGreat
open Go.RowKit Go.Gf
attribute [local go_sem ↓] exec_load_tb Cl.quiet_since
attribute [local go_sem] tbAt_ptr tbIn_ptr

/-- all but block g is as it was -/
def But (g : Nat) (w w' : World) : Prop := Cl.Keeps (fun b => b ≠ g) w w'
theorem But.trans {g : Nat} {a b c : World} (h : But g a b) (k : But g b c) : But g a c := Cl.Keeps.trans h k
theorem But.of_below {g : Nat} {w w' : World} (h : Below w.heap.size w w') : But g w w' := Cl.Keeps.of_below h
theorem But.set_ {g : Nat} {w w' : World} (h : But g w w') (i : Nat) (v : Value) : But g w (w'.setCell ⟨g, i, none⟩ v) :=
  ⟨h.os, h.tape, h.output, by simpa [World.setCell] using h.size, fun b hb hk => (Below.heap_setCell _ _ v b hk).trans (h.block b hb hk)⟩
theorem But.below {g B : Nat} {w₀ w w' : World} (h : But g w w') (hb : Below B w₀ w) (hg : B ≤ g) (hB : B ≤ w.heap.size) : Below B w₀ w' :=
  hb.trans ⟨h.os, h.tape, h.output, h.size, fun k hk => h.block k (by omega) (by omega)⟩
theorem But.arr {g g' : Nat} {w w' : World} {cs : List Nat} (h : But g w w') (ha : Arr w g' cs) (hg : g' ≠ g) : Arr w' g' cs := (h.block g' ha.lt hg).trans ha
theorem Tb.lt {w : World} {g : Nat} {cs : List Nat} (h : Tb w g cs) : g < w.heap.size := by
  rcases Nat.lt_or_ge g w.heap.size with hlt | hge
  · exact hlt
  · unfold Tb at h; rw [Array.getElem?_eq_none hge] at h; cases h
theorem But.tb {g g' : Nat} {w w' : World} {cs : List Nat} (h : But g w w') (ha : Tb w g' cs) (hg : g' ≠ g) : Tb w' g' cs := (h.block g' ha.lt hg).trans ha
theorem Tb.is {w : World} {g : Nat} {cs : List Nat} (h : Tb w g cs) (hl : cs.length = 2047) : isTb w g = true := by
  unfold isTb
  have e : w.heap[g]? = _ := h
  rw [e]
  simp [cells_size, hl]
theorem Tb.of {w : World} {g : Nat} {cs : List Nat} (h : Tb w g cs) : tbOf w g = cells cs := by
  unfold tbOf
  have e : w.heap[g]? = _ := h
  rw [e]
theorem Keeps.arr {w w' : World} {g : Nat} {cs : List Nat} (h : Cl.Keeps (fun _ => True) w w') (ha : Arr w g cs) : Arr w' g cs := (h.block g ha.lt trivial).trans ha
theorem Keeps.tb {w w' : World} {g : Nat} {cs : List Nat} (h : Cl.Keeps (fun _ => True) w w') (ha : Tb w g cs) : Tb w' g cs := (h.block g ha.lt trivial).trans ha
theorem Sl.but {g B : Nat} {w w' : World} {A : Option Addr} {xs : List Nat} (h : Sl w B A xs) (hb : But g w w') (hB : B ≤ g) (hB2 : B ≤ w.heap.size) : Sl w' B A xs := by
  refine h.keep fun p hp => ?_
  exact World.cell?_of_block (w := w) (hb.block p.block (by omega) (by omega))

/-- the loop of addTimes: tables lie in block h, the row in block g -/
def AddR (w : World) (h g n : Nat) (cs : List Nat) (f : Nat → Nat) (wr : World) : Prop := But g w wr ∧ Tb wr h cs ∧ Arr wr g (rm n f)
/-- its ending -/
def Added (w : World) (g n : Nat) (f : Nat → Nat) (e : Ending) (w' : World) : Prop := e = .returned (.tuple #[]) ∧ But g w w' ∧ Arr w' g (rm n f)
theorem tb_new (w : World) (cs : List Nat) : Tb (w.alloc (.cells (cells cs) 50)) w.heap.size cs := heap_alloc_new w _

set_option maxRecDepth 20000 in
set_option maxHeartbeats 4000000 in
theorem addTimes_any (cs : List Nat) (hcs : cs.length = 2047) (g n i m c : Nat) (f : Nat → Nat) (B : Option Addr) (cb : Nat) (ys : List Nat) (x : Int) (w : World)
    (hg : Arr w g (rm n f)) (hf : ∀ j, f j < 1024) (hm : ys.length ≤ m) (hi : i + ys.length ≤ n) (hn : n ≤ 1000000) (hB : Sl w g B ys) (x0 : 0 ≤ x) (x1 : x < 65536) :
    Calls Tryz.prog 169 #[.agg (cells cs), .slice (some ⟨g, i, none⟩) m c, .slice B ys.length cb, .int .u16 x] w
      (Added w g n (mrow f (x.toNat % 1024) (ys.map (· % 1024)) i ys.length)) := by
  have HB := Lib.hid hB
  have HG := Lib.hid hg
  have HF := Lib.hid hf
  have HCS := Lib.hid hcs
  have glt := hg.lt
  have HN : Hid (w.heap.size ≠ g) := by unfold Hid; omega
  clear hB hg hf glt hcs
  go_enter Tryz.func169, Tryz.ntmps169
  go_wp2_with fail
  go_loopw [12] (fun q wr => ∃ k : Nat, k ≤ ys.length ∧ q = .int .i64 k ∧ AddR w w.heap.size g n cs (mrow f (x.toNat % 1024) (ys.map (· % 1024)) i k) wr) (fun q _ => ys.length - (intOf q).toNat)
  case atStart => exact ⟨0, Nat.zero_le _, rfl, But.of_below ((Below.refl _ _).alloc (Nat.le_refl _) _), tb_new w cs, HG.out.alloc _⟩
  case round =>
    obtain ⟨k, hk, rfl, HA⟩ := hrel
    by_cases hlt : k < ys.length
    · obtain ⟨b, rfl, hbb, hcellb⟩ := (HB.out.but HA.1 (Nat.le_refl _) (Nat.le_of_lt HG.out.lt)).at_ hlt
      have hy := HB.out.1 ys[k] (List.getElem_mem hlt)
      have HR := Lib.hid HA
      obtain ⟨V, HV⟩ : ∃ V, Hid (V = mrow f (x.toNat % 1024) (ys.map (· % 1024)) i k (i + k)) := ⟨_, rfl⟩
      have hV : V < 1024 := by rw [HV.out]; exact mrow_lt HF.out (Nat.mod_lt _ (by decide)) _ _
      obtain ⟨G, HGm⟩ : ∃ G, Hid (G = gm (x.toNat % 1024) (ys[k] % 1024)) := ⟨_, Lib.hid rfl⟩
      have hG : G < 1024 := by rw [HGm.out]; exact gm_lt _ (Nat.mod_lt _ (by decide))
      have hMul : MulIs x ys[k] G := mulIs x0 x1 (by omega) (by omega) (by unfold mulI; rw [HGm.out]; simp)
      have hAdd : AddIs V G ((V ^^^ G : Nat) : Int) := addIs (by omega) (by omega) (by omega) (by omega) (by
        unfold addI
        rw [Int.toNat_natCast, Int.toNat_natCast, Nat.mod_eq_of_lt (xor_lt hV hG)])
      have HE : Hid (∀ j, j < n → (if j = i + k then V ^^^ G else mrow f (x.toNat % 1024) (ys.map (· % 1024)) i k j) = mrow f (x.toNat % 1024) (ys.map (· % 1024)) i (k + 1) j) := by
        intro j _
        conv => rhs; unfold mrow
        rw [HV.out, HGm.out]
        by_cases h1 : j = i + k
        · rw [if_pos h1, if_pos h1, h1, at_get (by simpa using hlt)]; simp
        · rw [if_neg h1, if_neg h1]
      clear HGm
      go_wp2_with fail
      refine Cl.region_way (fun _ => True) 12 [(0, .r), (1, .r), (2, .r), (3, .r), (4, .r), (5, .r), (6, .r), (7, .r), (8, .r), (9, .c), (10, .c), (11, .r), (12, .z)] (by kernel_rfl) (by kernel_rfl) ?_
      intro w1 hk1
      have hiA : ∀ x : Cl.Since (fun _ => True) w1, isTb x.w w.heap.size = true := fun x => (Keeps.tb (hk1.trans x.keeps) HR.out.2.1).is HCS.out
      have hoA : ∀ x : Cl.Since (fun _ => True) w1, tbOf x.w w.heap.size = cells cs := fun x => (Keeps.tb (hk1.trans x.keeps) HR.out.2.1).of
      have hcA : ∀ x : Cl.Since (fun _ => True) w1, x.w.cell? ⟨g, i + k, none⟩ = some (.int .u16 (V : Int)) := fun y => by rw [HV.out]; exact arr_rm_cell (Keeps.arr (hk1.trans y.keeps) HR.out.2.2) (by omega)
      iterate 9 (refine Cl.way_r rfl ?_; go_big_quiet_step (fail); refine wpQuiet_nil ?_)
      refine Cl.way_c rfl ?_
      go_wp2_with (go_at_call 163; (with_reducible refine (hMul.at cs _).mono ?_); rintro e w2 ⟨rfl, hb2⟩)
      refine Cl.way_on (Cl.Keeps.of_below hb2) ?_
      have hk2 := Cl.Keeps.trans hk1 (Cl.Keeps.of_below hb2)
      have HT2 := Lib.hid (Keeps.tb hk2 HR.out.2.1)
      have HA2 := Keeps.arr hk2 HR.out.2.2
      have HB2 := Lib.hid (But.trans HR.out.1 ⟨hk2.os, hk2.tape, hk2.output, hk2.size, fun b hb _ => hk2.block b hb trivial⟩)
      have hc2 := arr_rm_cell HA2 (i := i + k) (by omega)
      have hf2 := HA2.frozen (i + k)
      replace HA2 := Lib.hid HA2
      refine Cl.way_c rfl ?_
      go_wp2_with (go_at_call 161; (with_reducible refine (hAdd.at _).mono ?_); rintro e w3 ⟨rfl, rfl⟩)
      refine Cl.way_on (Cl.Keeps.refl _ _) ?_
      refine Cl.way_r rfl ?_; go_big_quiet_step (fail); refine wpQuiet_nil ?_
      refine Cl.way_z rfl ?_
      clear hk1 hiA hoA hcA hk2 hb2 hcellb
      go_wp2_with fail
      refine Cl.Calm.normal ?_
      go_wp2_with fail
      go_roundw
      case rel => exact ⟨k + 1, by omega, by go_num, HB2.out.set_ _ _, Tb.other HT2.out _ _ HN.out, by
        have h := HA2.out.set_ (i + k) (V ^^^ G)
        rw [rm_set, rm_congr HE.out] at h
        exact h⟩
      case measure => simp [intOf]; omega
    · obtain rfl : k = ys.length := by omega
      have HR := Lib.hid HA
      clear HA
      go_wp2_with fail
      go_end0
      exact ⟨rfl, HR.out.1, HR.out.2.2⟩
end Go.Proofs.YtjhoecfhmndcgaaGreat
namespace Go.Proofs.YtjhoecfhmndcgaaGreat
open Go.RowKit Go.Gf
attribute [local go_sem ↓] exec_load_tb Cl.quiet_since
attribute [local go_sem] tbAt_ptr tbIn_ptr

theorem Sl.drewN {w : World} {B : Nat} {A : Option Addr} {xs : List Nat} (h : Sl w B A xs) (n : Nat) : Sl (w.drewN n) B A xs := h
/-- the loop of Mul: tables lie in block h, the row in block g, which is one's own -/
def MulR (w : World) (h g n : Nat) (cs : List Nat) (f : Nat → Nat) (wr : World) : Prop := Below w.heap.size w wr ∧ Tb wr h cs ∧ Arr wr g (rm n f)

set_option maxRecDepth 20000 in
set_option maxHeartbeats 4000000 in
theorem pmul_any (cs : List Nat) (hcs : cs.length = 2047) (A B : Option Addr) (ca cb : Nat) (xs ys : List Nat) (w : World) (ha : Sl w w.heap.size A xs) (hb : Sl w w.heap.size B ys)
    (hla : xs.length ≤ 1000000) (hlb : ys.length ≤ 1000000) (hca : xs.length ≤ ca) (hcb : ys.length ≤ cb) :
    Calls Tryz.prog 159 #[.agg (cells cs), .slice A xs.length ca, .slice B ys.length cb] w (Gives w (pmul xs ys)) := by
  have HCS := Lib.hid hcs
  have la := tr_self xs
  have lb := tr_self ys
  have HT : Hid (pmul xs ys = if (tr xs).length = 0 ∨ (tr ys).length = 0 ∨ 4096 < (tr xs).length + (tr ys).length - 1 then [] else tr (rm ((tr xs).length + (tr ys).length - 1) (mall (tr xs) (tr ys) (tr xs).length))) := rfl
  have HLen : Hid ((tr xs).length + (tr ys).length - 1 ≤ 4096 → tr xs ≠ [] → tr ys ≠ [] → (pmul xs ys).length = (tr xs).length + (tr ys).length - 1) := fun h1 h2 h3 => pmul_len h1 h2 h3
  have hbW : Below w.heap.size w (w.alloc (.cells (cells cs) 50)) := (Below.refl _ _).alloc (Nat.le_refl _) _
  have HA := Lib.hid ha
  have HB := Lib.hid hb
  have HA1 := Lib.hid (ha.far hbW)
  have HB1 := Lib.hid (hb.far hbW)
  have tA : ∀ n, Calls Tryz.prog 167 #[.slice A xs.length ca] ((w.alloc (.cells (cells cs) 50)).drewN n) fun e w' => e = .returned (.int .i64 (((tr xs).length : Nat) : Int)) ∧ (w.alloc (.cells (cells cs) 50)).drewN n = w' := fun n => plen_any A ca xs _ (HA1.out.drewN n) hla
  have tB : ∀ n, Calls Tryz.prog 167 #[.slice B ys.length cb] ((w.alloc (.cells (cells cs) 50)).drewN n) fun e w' => e = .returned (.int .i64 (((tr ys).length : Nat) : Int)) ∧ (w.alloc (.cells (cells cs) 50)).drewN n = w' := fun n => plen_any B cb ys _ (HB1.out.drewN n) hlb
  have HX := Lib.hid (tr_bd xs)
  have HY := Lib.hid (tr_bd ys)
  have HXM : Hid (∀ j, j < (tr xs).length → ∃ h : j < xs.length, xs[j] % 1024 = at_ (tr xs) j) := by
    intro j hj
    have e := la.1
    have h1 : j < xs.length := by omega
    refine ⟨h1, ?_⟩
    rw [← e, at_get (by simp; omega)]; simp
  have HYM : Hid ((ys.take (tr ys).length).map (· % 1024) = tr ys) := lb.1
  replace la := la.2
  replace lb := lb.2
  generalize hT : pmul xs ys = T at HT HLen
  have hL : (tr xs).length = (tr xs).length := rfl
  generalize tr xs = a at *
  generalize tr ys = b at *
  clear hT hL hbW ha hb hcs
  have HTA := Lib.hid tA
  have HTB := Lib.hid tB
  clear tA tB
  have hsA := slice_head A xs.length ca a.length (by omega)
  have hsB := slice_head B ys.length cb b.length (by omega)
  by_cases hc : a.length = 0 ∨ b.length = 0 ∨ 4096 < a.length + b.length - 1
  · have HT' : Hid (T = []) := by unfold Hid; rw [HT.out, if_pos hc]
    clear HT
    have hcases : ∃ b1 b2 b3 : Bool, ((a.length : Int) == 0) = b1 ∧ ((b.length : Int) == 0) = b2 ∧ decide ((4096 : Int) < (a.length : Int) + (b.length : Int) - 1) = b3 ∧ (b1 || b2 || b3) = true := by
      refine ⟨_, _, _, rfl, rfl, rfl, ?_⟩
      simp only [Bool.or_eq_true, beq_iff_eq, decide_eq_true_eq]
      omega
    obtain ⟨b1, b2, b3, h1, h2, h3, h4⟩ := hcases
    clear hc
    have h4' := Lib.hid h4
    clear h4
    cases b1 <;> cases b2 <;> cases b3 <;> (try exact absurd h4'.out (by decide))
    all_goals
      go_enter Tryz.func159, Tryz.ntmps159
      go_wp2_with fail
      go_quiet ((go_at_call 167; first | with_reducible exact quiet_left (HTA.out _) | with_reducible exact quiet_left (HTB.out _)))
      go_wp2_with fail
      go_ret
      rw [HT'.out]
      exact gives_nil (below_drewN ((Below.refl _ _).alloc (Nat.le_refl _) _) _)
  · have ap : 0 < a.length := by omega
    have bp : 0 < b.length := by omega
    obtain ⟨n, hn⟩ : ∃ n, n = a.length + b.length - 1 := ⟨_, rfl⟩
    have HT' : Hid (T = rm n (mall a b a.length)) := by
      unfold Hid
      have e := HLen.out (by omega) (by intro e; rw [e] at ap; exact absurd ap (by decide)) (by intro e; rw [e] at bp; exact absurd bp (by decide))
      rw [HT.out, if_neg hc] at e ⊢
      rw [hn]
      exact tr_row (fun j => mall_lt HX.out _ j) e
    clear HT HLen
    have ha0 : ((a.length : Int) == 0) = false := by rw [beq_eq_false_iff_ne]; omega
    have hb0 : ((b.length : Int) == 0) = false := by rw [beq_eq_false_iff_ne]; omega
    have hab : decide ((4096 : Int) < (a.length : Int) + (b.length : Int) - 1) = false := by rw [decide_eq_false_iff_not]; omega
    have hN : n ≤ 4096 := by omega
    have hmk : ∀ w, (Instr.makeSlice 41 (.int .i64 ((a.length : Int) + (b.length : Int) - 1)) (.int .i64 ((a.length : Int) + (b.length : Int) - 1))).run Tryz.prog w = .ok (.slice (some ⟨w.heap.size, 0, none⟩) n n) (w.alloc (.cells (madeCells #[.int .u16 0] n) 46)) := by
      intro w
      have := run_make_row' (P := Tryz.prog) 41 46 (.int .u16 0) 2 Tryz.underlying41 info22 rfl .i64 .i64 n (by omega) (by omega) w
      rw [show (n : Int) = (a.length : Int) + (b.length : Int) - 1 by omega] at this
      exact this
    have HN := Lib.hid hn
    have HNf : Hid (n < a.length + b.length) := by unfold Hid; omega
    clear hc hn
    have HAT : Hid (∀ (i : Nat) (h : i < a.length) (x : Int) (w1 : World), x = (xs[i]'(by omega) : Nat) → Tb w1 w.heap.size cs → Arr w1 (w.heap.size + 1) (rm n (mall a b i)) → Below w.heap.size w w1 →
        Calls Tryz.prog 169 #[.agg (cells cs), .slice (some ⟨w.heap.size + 1, i, none⟩) (n - i) (n - i), .slice B b.length cb, .int .u16 x] w1 (Added w1 (w.heap.size + 1) n (mall a b (i + 1)))) := by
      intro i h x w1 hx h1 h2 h3
      have hl : (ys.take b.length).length = b.length := by simp; omega
      have hix : i < xs.length := by omega
      have hxi := HA.out.1 xs[i] (List.getElem_mem hix)
      have hfin := HN.out
      have hs : Sl w1 (w.heap.size + 1) B (ys.take b.length) := ((HB.out.below h3).more (by omega)).take _
      have := addTimes_any cs HCS.out (w.heap.size + 1) n i (n - i) (n - i) (mall a b i) B cb (ys.take b.length) x w1 h2 (mall_lt HX.out i) (by rw [hl]; omega) (by rw [hl]; omega) (by omega) hs (by omega) (by omega)
      rw [hl, HYM.out] at this
      obtain ⟨_, e⟩ := HXM.out i h
      rw [show x.toNat % 1024 = at_ a i by rw [← e, hx]; simp] at this
      exact this
    go_enter Tryz.func159, Tryz.ntmps159
    go_wp2_with fail
    go_quiet ((go_at_call 167; first | with_reducible exact quiet_left (HTA.out _) | with_reducible exact quiet_left (HTB.out _)))
    go_wp2_with fail
    go_loopw [41] (fun q wr => ∃ i : Nat, i ≤ a.length ∧ q = .int .i64 i ∧ MulR w w.heap.size (w.heap.size + 1) n cs (mall a b i) wr) (fun q _ => a.length - (intOf q).toNat)
    case atStart =>
      refine ⟨0, Nat.zero_le _, rfl, ?_, ?_, ?_⟩
      · exact (below_drewN ((Below.refl _ _).alloc (Nat.le_refl _) _) nq).alloc (by simp) _
      · exact (Below.heap_alloc _ _ _ (by simp)).trans (tb_new w cs)
      · have h := heap_alloc_new ((w.alloc (.cells (cells cs) 50)).drewN nq) (.cells (madeCells #[.int .u16 0] n) 46)
        rw [made_uv, rm_zero] at h
        rw [made_uv, rm_zero]
        have e : ((w.alloc (.cells (cells cs) 50)).drewN nq).heap.size = w.heap.size + 1 := by simp
        rw [e] at h
        exact h
    case round =>
      clear hmk
      obtain ⟨i, hi, rfl, HO⟩ := hrel
      by_cases hlt : i < a.length
      · have hix : i < xs.length := by omega
        obtain ⟨ad, rfl, hab2, hcell⟩ := (HA.out.below HO.1).at_ hix
        have hxi := HA.out.1 xs[i] (List.getElem_mem hix)
        have hin : i < n := by have := HN.out; omega
        have hsl := slice_tail (w.heap.size + 1) n n i hin (by omega)
        have HR := Lib.hid HO
        clear HO
        go_wp2_with fail
        refine Cl.region_way (fun _ => True) 6 [(0, .r), (1, .r), (2, .r), (3, .r), (4, .r), (5, .r), (6, .z)] (by kernel_rfl) (by kernel_rfl) ?_
        intro w1 hk1
        have hiA : ∀ x : Cl.Since (fun _ => True) w1, isTb x.w w.heap.size = true := fun x => (Keeps.tb (hk1.trans x.keeps) HR.out.2.1).is HCS.out
        have hoA : ∀ x : Cl.Since (fun _ => True) w1, tbOf x.w w.heap.size = cells cs := fun x => (Keeps.tb (hk1.trans x.keeps) HR.out.2.1).of
        iterate 6 (refine Cl.way_r rfl ?_; go_big_quiet_step (fail); refine wpQuiet_nil ?_)
        refine Cl.way_z rfl ?_
        have hbw1 := HR.out.1.trans ((Cl.Keeps.below hk1).mono HR.out.1.size)
        have HC := Lib.hid (HAT.out i hlt xs[i] w1 rfl (Keeps.tb hk1 HR.out.2.1) (Keeps.arr hk1 HR.out.2.2) hbw1)
        have HT1 := Lib.hid (Keeps.tb hk1 HR.out.2.1)
        have HBW := Lib.hid hbw1
        clear hk1 hiA hoA hbw1 hcell hsl
        go_wp2_with (go_at_call 169; (with_reducible refine HC.out.mono ?_); rintro e w2 ⟨rfl, hbut, harr⟩; replace hbut := Lib.hid hbut; replace harr := Lib.hid harr)
        refine Cl.Calm.normal ?_
        go_wp2_with fail
        go_roundw
        case rel => exact ⟨i + 1, by omega, by go_num, But.below hbut.out HBW.out (by omega) HBW.out.size, But.tb hbut.out HT1.out (by omega), harr.out⟩
        case measure => simp [intOf]; omega
      · obtain rfl : i = a.length := by omega
        have HR := Lib.hid HO
        clear HO
        go_wp2_with fail
        go_ret
        exact ⟨.slice (some ⟨w.heap.size + 1, 0, none⟩) n n, rfl, HR.out.1, by rw [HT'.out]; exact rm_mem fun j _ => by have := mall_lt (ys := b) HX.out a.length j; omega, Or.inr ⟨w.heap.size + 1, by omega, by rw [HT'.out, rm_len], by rw [HT'.out]; exact HR.out.2.2⟩⟩
end Go.Proofs.YtjhoecfhmndcgaaGreat
namespace Go.Proofs.YtjhoecfhmndcgaaGreat
open Go.RowKit Go.Gf
attribute [local go_sem ↓] exec_load_tb Cl.quiet_since
attribute [local go_sem] tbAt_ptr tbIn_ptr

/-- a call answers v and leaves old memory as it was -/
def Leaves (w : World) (v : Value) (e : Ending) (w' : World) : Prop := e = .returned v ∧ Below w.heap.size w w'
/-- the loop of At -/
def AtR (w : World) (h : Nat) (cs : List Nat) (wr : World) : Prop := Below w.heap.size w wr ∧ Tb wr h cs

set_option maxRecDepth 20000 in
set_option maxHeartbeats 4000000 in
theorem pat_any (cs : List Nat) (hcs : cs.length = 2047) (A : Option Addr) (ca : Nat) (xs : List Nat) (x : Int) (w : World) (ha : Sl w w.heap.size A xs)
    (hla : xs.length ≤ 1000000) (x0 : 0 ≤ x) (x1 : x < 65536) :
    Calls Tryz.prog 154 #[.agg (cells cs), .slice A xs.length ca, .int .u16 x] w (Leaves w (.int .u16 ((ev (x.toNat % 1024) xs : Nat) : Int))) := by
  have HA := Lib.hid ha
  have HCS := Lib.hid hcs
  clear ha hcs
  generalize hX : x.toNat % 1024 = X
  replace hX := Lib.hid hX
  by_cases h0 : xs.length = 0
  · have hz : ((xs.length : Int) == 0) = true := by rw [beq_iff_eq]; omega
    have he : Hid (ev X xs = 0) := by rw [List.eq_nil_of_length_eq_zero h0]; exact Lib.hid rfl
    generalize ev X xs = V at he ⊢
    clear h0
    go_enter Tryz.func154, Tryz.ntmps154
    go_wp2_with fail
    go_step3
    go_wp2_with fail
    try rw [Exit.noGoto_ret]
    go_ret
    exact ⟨by rw [he.out]; rfl, (Below.refl _ _).alloc (Nat.le_refl _) _⟩
  · go_enter Tryz.func154, Tryz.ntmps154
    go_wp2_with fail
    refine wp_scope_jumps 0 (fun a' w' => AtR w w.heap.size cs w' ∧ ∃ (m v : Nat) (u9 u10 u11 u12 u13 u14 u15 u16 u17 u18 u19 u20 u21 u22 u23 u24 u25 u26 u27 u28 u29 : Value), a' = { tmps := #[.agg (cells cs), .slice A xs.length ca, .int .u16 x, .pointer (some ⟨w.heap.size, 0, none⟩), undef, undef, .int .u16 0, .int .i64 m, .int .u16 v, u9, u10, u11, u12, u13, u14, u15, u16, u17, u18, u19, u20, u21, u22, u23, u24, u25, u26, u27, u28, u29], defers := [] } ∧ m < xs.length ∧ Hid (v = gm (ev X (xs.drop (m + 1))) X)) (fun a' _ => (intOf (a'.tmps.getD 7 undef)).toNat) rfl ?_ ?_
    · go_wp2_with fail
      obtain ⟨m, hmN⟩ : ∃ m, m + 1 = xs.length := ⟨xs.length - 1, by omega⟩
      have hmI : (xs.length : Int) - 1 = (m : Int) := by omega
      rw [hmI]
      obtain ⟨v, hv0⟩ : ∃ v : Nat, v = 0 := ⟨0, rfl⟩
      have hm : m < xs.length := by omega
      have hv : Hid (v = gm (ev X (xs.drop (m + 1))) X) := by
        rw [hmN, List.drop_length, hv0]
        exact Lib.hid (gm_zero_left X).symm
      have hR : AtR w w.heap.size cs (w.alloc (.cells (cells cs) 50)) := ⟨(Below.refl _ _).alloc (Nat.le_refl _) _, tb_new w cs⟩
      have hvI : (0 : Int) = (v : Int) := by omega
      generalize hw' : w.alloc (.cells (cells cs) 50) = w' at hR ⊢
      clear hw' hmI
      go_step3
      obtain ⟨ad, hAe, hab, hcell⟩ := (HA.out.below hR.1).at_ hm
      have hxm := HA.out.1 xs[m] (List.getElem_mem hm)
      have hV := ev_lt X (xs.drop m)
      have hv2 : v < 1024 := by rw [hv.out]; exact gm_lt _ (ev_lt _ _)
      have hAdd : AddIs v xs[m] ((ev X (xs.drop m) : Nat) : Int) := addIs (by omega) (by omega) (by omega) (by omega) (by
        unfold addI
        rw [Int.toNat_natCast, Int.toNat_natCast, ev_drop hm, ← hv.out, xor_mod, Nat.mod_eq_of_lt hv2])
      rw [← hvI] at hAdd
      clear hvI hv0
      by_cases hm0 : m = 0
      · have hz : ((m : Int) == 0) = true := by rw [beq_iff_eq]; omega
        have he : Hid (ev X (xs.drop m) = ev X xs) := by rw [hm0, List.drop_zero]; exact Lib.hid rfl
        subst hAe
        generalize ev X (xs.drop m) = V at *
        clear hv hm0
        go_wp2_with (go_at_call 161; (with_reducible refine (hAdd.at _).mono ?_); rintro e w1 ⟨rfl, rfl⟩)
        simp only [Exit.jump]
        go_ret
        exact ⟨by rw [he.out]; rfl, hR.1⟩
      · obtain ⟨m1, hm1⟩ : ∃ m1, m = m1 + 1 := ⟨m - 1, by omega⟩
        subst hAe
        have hMul : MulIs ((ev X (xs.drop m) : Nat) : Int) x ((gm (ev X (xs.drop m)) X : Nat) : Int) := mulIs (by omega) (by omega) x0 x1 (by
          unfold mulI
          rw [Int.toNat_natCast, hX.out, Nat.mod_eq_of_lt hV])
        have hnext : Hid (gm (ev X (xs.drop m)) X = gm (ev X (xs.drop (m1 + 1))) X) := by rw [hm1]; exact Lib.hid rfl
        generalize ev X (xs.drop m) = V at *
        have hz : ((m : Int) == 0) = false := by rw [beq_eq_false_iff_ne]; omega
        have hjj : (m : Int) - 1 = (m1 : Int) := by omega
        have hi := hR.2.is HCS.out
        have ho := hR.2.of
        replace hR := Lib.hid hR
        replace hm1 := Lib.hid hm1
        clear hv hm0
        go_wp2_with (first
          | (go_at_call 161; (with_reducible refine (hAdd.at _).mono ?_); rintro e w1 ⟨rfl, rfl⟩)
          | (go_at_call 163; (with_reducible refine (hMul.at cs _).mono ?_); rintro e w1 ⟨rfl, hb⟩; have hR2 := Lib.hid (show AtR w w.heap.size cs w1 from ⟨hR.out.1.trans (hb.mono hR.out.1.size), hR.out.2.below hb hR.out.2.lt⟩); clear hb))
        go_step3
        exact ⟨rfl, hR2.out, m1, _, _, _, _, _, _, _, _, _, _, _, _, _, _, _, _, _, _, _, _, _, _, rfl, by have := hm1.out; omega, hnext⟩
    · rintro a' w' ⟨hR, m, v, u9, u10, u11, u12, u13, u14, u15, u16, u17, u18, u19, u20, u21, u22, u23, u24, u25, u26, u27, u28, u29, rfl, hm, hv⟩
      obtain ⟨ad, hAe, hab, hcell⟩ := (HA.out.below hR.1).at_ hm
      have hxm := HA.out.1 xs[m] (List.getElem_mem hm)
      have hV := ev_lt X (xs.drop m)
      have hv2 : v < 1024 := by rw [hv.out]; exact gm_lt _ (ev_lt _ _)
      have hAdd : AddIs v xs[m] ((ev X (xs.drop m) : Nat) : Int) := addIs (by omega) (by omega) (by omega) (by omega) (by
        unfold addI
        rw [Int.toNat_natCast, Int.toNat_natCast, ev_drop hm, ← hv.out, xor_mod, Nat.mod_eq_of_lt hv2])
      by_cases hm0 : m = 0
      · have hz : ((m : Int) == 0) = true := by rw [beq_iff_eq]; omega
        have he : Hid (ev X (xs.drop m) = ev X xs) := by rw [hm0, List.drop_zero]; exact Lib.hid rfl
        subst hAe
        generalize ev X (xs.drop m) = V at *
        clear hv hm0
        go_wp2_with (go_at_call 161; (with_reducible refine (hAdd.at _).mono ?_); rintro e w1 ⟨rfl, rfl⟩)
        simp only [Exit.jump]
        go_ret
        exact ⟨by rw [he.out]; rfl, hR.1⟩
      · obtain ⟨m1, hm1⟩ : ∃ m1, m = m1 + 1 := ⟨m - 1, by omega⟩
        subst hAe
        have hMul : MulIs ((ev X (xs.drop m) : Nat) : Int) x ((gm (ev X (xs.drop m)) X : Nat) : Int) := mulIs (by omega) (by omega) x0 x1 (by
          unfold mulI
          rw [Int.toNat_natCast, hX.out, Nat.mod_eq_of_lt hV])
        have hnext : Hid (gm (ev X (xs.drop m)) X = gm (ev X (xs.drop (m1 + 1))) X) := by rw [hm1]; exact Lib.hid rfl
        generalize ev X (xs.drop m) = V at *
        have hz : ((m : Int) == 0) = false := by rw [beq_eq_false_iff_ne]; omega
        have hjj : (m : Int) - 1 = (m1 : Int) := by omega
        have hi := hR.2.is HCS.out
        have ho := hR.2.of
        replace hR := Lib.hid hR
        replace hm1 := Lib.hid hm1
        clear hv hm0
        go_wp2_with (first
          | (go_at_call 161; (with_reducible refine (hAdd.at _).mono ?_); rintro e w1 ⟨rfl, rfl⟩)
          | (go_at_call 163; (with_reducible refine (hMul.at cs _).mono ?_); rintro e w1 ⟨rfl, hb⟩; have hR2 := Lib.hid (show AtR w w.heap.size cs w1 from ⟨hR.out.1.trans (hb.mono hR.out.1.size), hR.out.2.below hb hR.out.2.lt⟩); clear hb))
        go_step3
        refine ⟨rfl, ⟨hR2.out, m1, _, _, _, _, _, _, _, _, _, _, _, _, _, _, _, _, _, _, _, _, _, _, rfl, by have := hm1.out; omega, hnext⟩, ?_⟩
        have := hm1.out
        simp [intOf]; omega
end Go.Proofs.YtjhoecfhmndcgaaGreat
namespace Go.Proofs.YtjhoecfhmndcgaaGreat
open Go.RowKit Go.Gf
attribute [local go_sem ↓] exec_load_tb Cl.quiet_since
attribute [local go_sem] tbAt_ptr tbIn_ptr

/-- the loop of Div: tables lie in block h, what is left in block g1, the quotient in block g2 -/
def DivR (w : World) (g1 g2 la nq : Nat) (cs : List Nat) (fr fq : Nat → Nat) (wr : World) : Prop :=
  w.heap.size < g1 ∧ g1 < g2 ∧ Below w.heap.size w wr ∧ Tb wr w.heap.size cs ∧ Arr wr g1 (rm la fr) ∧ Arr wr g2 (rm nq fq)
/-- a division's ending: quotient and rest are one's own -/
def GivesD (w : World) (q r : List Nat) (e : Ending) (w' : World) : Prop :=
  ∃ g1 c1 g2 c2, e = .returned (.tuple #[.slice (some ⟨g2, 0, none⟩) q.length c2, .slice (some ⟨g1, 0, none⟩) r.length c1, .bool true]) ∧ q.length ≤ c2 ∧ r.length ≤ c1 ∧ Sl w' w'.heap.size (some ⟨g2, 0, none⟩) q ∧ Sl w' w'.heap.size (some ⟨g1, 0, none⟩) r ∧ Below w.heap.size w w' ∧ w.heap.size ≤ g1

set_option maxRecDepth 20000 in
set_option maxHeartbeats 4000000 in
theorem pdiv_none (cs : List Nat) (A B : Option Addr) (ca cb : Nat) (xs ys : List Nat) (w : World) (hb : Sl w w.heap.size B ys)
    (hlb : ys.length ≤ 1000000) (hne : tr ys = []) :
    Calls Tryz.prog 157 #[.agg (cells cs), .slice A xs.length ca, .slice B ys.length cb] w (GivesNo w) := by
  have hbW : Below w.heap.size w (w.alloc (.cells (cells cs) 50)) := (Below.refl _ _).alloc (Nat.le_refl _) _
  have tB : Calls Tryz.prog 167 #[.slice B ys.length cb] (w.alloc (.cells (cells cs) 50)) fun e w' => e = .returned (.int .i64 0) ∧ (w.alloc (.cells (cells cs) 50)) = w' := by
    have := plen_any B cb ys _ (hb.far hbW) hlb
    rw [hne] at this
    exact this
  have hsB := slice_head B ys.length cb 0 (by omega)
  replace tB := Lib.hid tB
  clear hb hne hbW
  go_enter Tryz.func157, Tryz.ntmps157
  go_wp2_with fail
  go_step3
  go_wp2_with (go_at_call 167; (with_reducible refine tB.out.mono ?_); rintro e w' ⟨rfl, rfl⟩)
  try rw [Exit.noGoto_ret]
  go_ret3
  exact ⟨rfl, (Below.refl _ _).alloc (Nat.le_refl _) _⟩

def lenOf : Value → Nat
  | .slice _ n _ => n
  | _ => 0
theorem jump_ret {l : Nat} {J : Act → World → Prop} {Q : Exit → Act → World → Prop} {a : Act} {w : World} : Exit.jump l J Q .ret a w = Q .ret a w := rfl
theorem frame_list : ∀ (n : Nat) (l : List Value), l.length = n → l = (List.range n).map fun i => l.toArray.getD i undef := by
  intro n l h
  apply List.ext_getElem
  · simp [h]
  · intro i h1 h2
    simp [h1]
/-- what holds where Div comes back to its top -/
structure DivJ (w : World) (na nq sa sb ca cb : Nat) (A B : Option Addr) (iv : Nat) (cs a b : List Nat) (t : Array Value) (g1 g2 L M : Nat) (fr fq : Nat → Nat) (wr : World) : Prop where
  r : DivR w g1 g2 na nq cs fr fq wr
  i : DivI a b nq L M fr fq
  ml : M < L
  size : t.size = 76
  t0 : t.getD 0 undef = .agg (cells cs)
  t1 : t.getD 1 undef = .slice A sa ca
  t2 : t.getD 2 undef = .slice B sb cb
  t3 : t.getD 3 undef = .pointer (some ⟨w.heap.size, 0, none⟩)
  t4 : t.getD 4 undef = undef
  t5 : t.getD 5 undef = undef
  t6 : t.getD 6 undef = .slice none 0 0
  t7 : t.getD 7 undef = .slice none 0 0
  t8 : t.getD 8 undef = .bool false
  t9 : t.getD 9 undef = .int .u16 iv
  t11 : t.getD 11 undef = .slice (some ⟨g1, 0, none⟩) L na
  t12 : t.getD 12 undef = .slice (some ⟨g2, 0, none⟩) nq nq
theorem frame76 (t : Array Value) (h : t.size = 76) : t = #[t.getD 0 undef, t.getD 1 undef, t.getD 2 undef, t.getD 3 undef, t.getD 4 undef, t.getD 5 undef, t.getD 6 undef, t.getD 7 undef, t.getD 8 undef, t.getD 9 undef, t.getD 10 undef, t.getD 11 undef, t.getD 12 undef, t.getD 13 undef, t.getD 14 undef, t.getD 15 undef, t.getD 16 undef, t.getD 17 undef, t.getD 18 undef, t.getD 19 undef, t.getD 20 undef, t.getD 21 undef, t.getD 22 undef, t.getD 23 undef, t.getD 24 undef, t.getD 25 undef, t.getD 26 undef, t.getD 27 undef, t.getD 28 undef, t.getD 29 undef, t.getD 30 undef, t.getD 31 undef, t.getD 32 undef, t.getD 33 undef, t.getD 34 undef, t.getD 35 undef, t.getD 36 undef, t.getD 37 undef, t.getD 38 undef, t.getD 39 undef, t.getD 40 undef, t.getD 41 undef, t.getD 42 undef, t.getD 43 undef, t.getD 44 undef, t.getD 45 undef, t.getD 46 undef, t.getD 47 undef, t.getD 48 undef, t.getD 49 undef, t.getD 50 undef, t.getD 51 undef, t.getD 52 undef, t.getD 53 undef, t.getD 54 undef, t.getD 55 undef, t.getD 56 undef, t.getD 57 undef, t.getD 58 undef, t.getD 59 undef, t.getD 60 undef, t.getD 61 undef, t.getD 62 undef, t.getD 63 undef, t.getD 64 undef, t.getD 65 undef, t.getD 66 undef, t.getD 67 undef, t.getD 68 undef, t.getD 69 undef, t.getD 70 undef, t.getD 71 undef, t.getD 72 undef, t.getD 73 undef, t.getD 74 undef, t.getD 75 undef] := by
  have e := frame_list 76 t.toList (by simpa using h)
  apply Array.toList_inj.1
  rw [e]
  simp only [Array.toArray_toList]
  rfl
theorem rm_take {n k : Nat} (f : Nat → Nat) (h : k ≤ n) : (rm n f).take k = rm k f := by
  unfold rm
  rw [← List.map_take, List.take_range, Nat.min_eq_left h]

set_option maxRecDepth 20000 in
set_option maxHeartbeats 8000000 in
theorem pdiv_any (cs : List Nat) (hcs : Tab cs) (A B : Option Addr) (ca cb : Nat) (xs ys : List Nat) (w : World) (ha : Sl w w.heap.size A xs) (hb : Sl w w.heap.size B ys)
    (hla : xs.length ≤ 1000000) (hlb : ys.length ≤ 1000000) (hcb : ys.length ≤ cb) (hne : tr ys ≠ []) :
    Calls Tryz.prog 157 #[.agg (cells cs), .slice A xs.length ca, .slice B ys.length cb] w (GivesD w (pquo xs ys) (prem xs ys)) := by
  have HCS := Lib.hid hcs
  have HA := Lib.hid ha
  have HB := Lib.hid hb
  have la := tr_self xs
  have lb := tr_self ys
  have hbW : Below w.heap.size w (w.alloc (.cells (cells cs) 50)) := (Below.refl _ _).alloc (Nat.le_refl _) _
  have HEnd : Hid (∀ L M T fr fq, DivI (tr xs) (tr ys) (divN xs ys) L M fr fq → (tr (rm L fr)).length = T → T < (tr ys).length → rm (divN xs ys) fq = pquo xs ys ∧ rm T fr = prem xs ys) :=
    fun L M T fr fq h hT hlt => divI_end h hne hT hlt
  have HN : Hid (divN xs ys = (tr xs).length + 1 - (tr ys).length) := rfl
  have HIV : Hid (gm (divI ys) (at_ (tr ys) ((tr ys).length - 1)) = 1) := divI_one hne
  have HIL : Hid (divI ys < 1024) := ginv_lt _
  have bp : 0 < (tr ys).length := by
    rcases Nat.eq_zero_or_pos (tr ys).length with h | h
    · exact absurd (List.eq_nil_of_length_eq_zero h) hne
    · exact h
  have tB : Calls Tryz.prog 167 #[.slice B ys.length cb] (w.alloc (.cells (cells cs) 50)) fun e w' => e = .returned (.int .i64 (((tr ys).length : Nat) : Int)) ∧ (w.alloc (.cells (cells cs) 50)) = w' :=
    plen_any B cb ys _ (hb.far hbW) hlb
  have HX := Lib.hid (tr_bd xs)
  have HY := Lib.hid (tr_bd ys)
  have HYM : Hid ((ys.take (tr ys).length).map (· % 1024) = tr ys) := lb.1
  -- the divisor's last factor
  obtain ⟨z, hz⟩ : ∃ z, Hid (z = (tr ys).length - 1) := ⟨_, Lib.hid rfl⟩
  have hzy : z < ys.length := by have := lb.2; have := hz.out; omega
  have hzi : (((tr ys).length : Nat) : Int) - 1 = (z : Int) := by have := hz.out; omega
  have HInv : Hid (InvIs ys[z] ((divI ys : Nat) : Int) true) := by
    have hy := hb.1 ys[z] (List.getElem_mem hzy)
    have e1 : at_ (tr ys) ((tr ys).length - 1) = ys[z] % 1024 := by
      rw [← hz.out, ← lb.1, at_get (by simp; have := hz.out; have := lb.2; omega)]; simp
    refine invIs (by omega) (by omega) ?_ ?_
    · unfold invI divI
      rw [Int.toNat_natCast, e1]
    · have e2 := tr_last ys hne
      rw [e1] at e2
      simp; omega
  replace la := la.2
  replace lb := lb.2
  replace tB := Lib.hid tB
  obtain ⟨iv, hiv⟩ : ∃ iv, iv = divI ys := ⟨_, rfl⟩
  rw [← hiv] at HIV HIL HInv
  have HAdd : Hid (∀ (g i m c : Nat) (f : Nat → Nat) (F : Nat) (w1 : World), w.heap.size ≤ g → Arr w1 g (rm (tr xs).length f) → (∀ j, f j < 1024) → Below w.heap.size w w1 → (tr ys).length ≤ m → i + (tr ys).length ≤ (tr xs).length → F < 1024 →
      Calls Tryz.prog 169 #[.agg (cells cs), .slice (some ⟨g, i, none⟩) m c, .slice B (tr ys).length cb, .int .u16 (F : Int)] w1 (Added w1 g (tr xs).length (mrow f F (tr ys) i (tr ys).length))) := by
    intro g i m c f F w1 hg h1 h2 h3 h4 h5 h6
    have hl : (ys.take (tr ys).length).length = (tr ys).length := by simp; omega
    have hs : Sl w1 g B (ys.take (tr ys).length) := ((hb.below h3).more hg).take _
    have := addTimes_any cs hcs.1 g (tr xs).length i m c f B cb (ys.take (tr ys).length) (F : Int) w1 h1 h2 (by rw [hl]; exact h4) (by rw [hl]; exact h5) (by omega) hs (by omega) (by omega)
    rw [hl, HYM.out, show ((F : Nat) : Int).toNat % 1024 = F by rw [Int.toNat_natCast]; omega] at this
    exact this
  have HTrim : Hid (∀ w1, Below w.heap.size w w1 → Calls Tryz.prog 156 #[.slice A xs.length ca] w1 (GivesB w1 (tr xs))) := fun w1 h1 => ptrim_blk A ca xs w1 ((HA.out.below h1).more h1.size) hla
  generalize pquo xs ys = Q at HEnd ⊢
  generalize prem xs ys = R at HEnd ⊢
  generalize divN xs ys = nq at *
  generalize tr xs = a at *
  generalize tr ys = b at *
  clear hiv hne hbW ha hb
  have hsB := slice_head B ys.length cb b.length (by omega)
  have hb0 : ((b.length : Int) == 0) = false := by rw [beq_eq_false_iff_ne]; omega
  have HNQ : Hid (nq ≤ 1000000) := by have := HN.out; unfold Hid; omega
  have hmx : (if (a.length : Int) - (b.length : Int) + 1 < 0 then 0 else (a.length : Int) - (b.length : Int) + 1) = (nq : Int) := by have := HN.out; split <;> omega
  have hmk := run_make_row' (P := Tryz.prog) 41 46 (.int .u16 0) 2 Tryz.underlying41 info22 rfl .i64 .i64 nq (by have := HNQ.out; omega) (by have := HNQ.out; omega)
  go_enter Tryz.func157, Tryz.ntmps157
  go_wp2_with fail
  refine wp_scope_jumps 0 (fun a' w' => a'.defers = [] ∧ ∃ (g1 g2 L M : Nat) (fr fq : Nat → Nat), DivJ w a.length nq xs.length b.length ca cb A B iv cs a b a'.tmps g1 g2 L M fr fq w') (fun a' _ => lenOf (a'.tmps.getD 11 undef)) rfl ?_ ?_
  · go_wp2_with (go_at_call 167; (with_reducible refine tB.out.mono ?_); rintro e w' ⟨rfl, rfl⟩)
    refine Cl.region_way (fun _ => True) 13 [(0, .r), (1, .r), (2, .r), (3, .r), (4, .r), (5, .r), (6, .r), (7, .c), (8, .r), (9, .r), (10, .r), (11, .r), (12, .r)] (by kernel_rfl) (by kernel_rfl) ?_
    intro w1 hk1
    have hbW : Below w.heap.size w (w.alloc (.cells (cells cs) 50)) := (Below.refl _ _).alloc (Nat.le_refl _) _
    have hbw1 := hbW.trans ((Cl.Keeps.below hk1).mono hbW.size)
    obtain ⟨ad, rfl, hab, _⟩ := (HB.out.below hbw1).at_ hzy
    have hcA : ∀ y : Cl.Since (fun _ => True) w1, y.w.cell? (ad.add z) = some (.int .u16 ((ys[z] : Nat) : Int)) := fun y => by
      obtain ⟨ad', h1, _, h2⟩ := (HB.out.below (hbw1.trans ((Cl.Keeps.below y.keeps).mono hbw1.size))).at_ hzy
      injection h1 with h1
      rw [h1]; exact h2
    have hiA : ∀ y : Cl.Since (fun _ => True) w1, isTb y.w w.heap.size = true := fun y => (Keeps.tb (hk1.trans y.keeps) (tb_new w cs)).is HCS.out.1
    have hoA : ∀ y : Cl.Since (fun _ => True) w1, tbOf y.w w.heap.size = cells cs := fun y => (Keeps.tb (hk1.trans y.keeps) (tb_new w cs)).of
    iterate 7 (refine Cl.way_r rfl ?_; go_big_quiet_step (fail); refine wpQuiet_nil ?_)
    refine Cl.way_c rfl ?_
    have HT1 := Lib.hid (Keeps.tb hk1 (tb_new w cs))
    have HBW := Lib.hid hbw1
    clear hk1 hiA hoA hcA hbw1 hbW
    go_wp2_with (go_at_call 168; (with_reducible refine (HInv.out.at HCS.out _).mono ?_); rintro e w2 ⟨rfl, hb2⟩)
    refine Cl.way_on (Cl.Keeps.of_below hb2) ?_
    have HT2 := Lib.hid (HT1.out.below hb2 HT1.out.lt)
    have HBW2 := Lib.hid (HBW.out.trans (hb2.mono HBW.out.size))
    clear hb2
    iterate 5 (refine Cl.way_r rfl ?_; go_big_quiet_step (fail); refine wpQuiet_nil ?_)
    refine Cl.way_end ?_
    go_wp2_with (go_at_call 156; (with_reducible refine (HTrim.out w2 HBW2.out).mono ?_); rintro e w3 ⟨g1, hg1, rfl, har, hb3, _⟩; replace hg1 := Lib.hid hg1; replace har := Lib.hid har; replace hb3 := Lib.hid hb3)
    clear hmk hmx
    have hR : DivR w g1 w3.heap.size a.length nq cs (at_ a) (fun _ => 0) (w3.alloc (.cells (madeCells #[.int .u16 0] nq) 46)) := by
      have h1 := hg1.out
      have h2 := HBW2.out.size
      have h3 := HT2.out.lt
      refine ⟨by omega, har.out.lt, (HBW2.out.trans (hb3.out.mono h2)).alloc (Nat.le_trans h2 hb3.out.size) _, ?_, ?_, ?_⟩
      · exact (Below.heap_alloc _ _ _ (by have := hb3.out.size; omega)).trans (HT2.out.below hb3.out h3)
      · rw [rm_at]; exact har.out.alloc _
      · rw [made_uv, rm_zero]; exact Arr.new w3 _
    have hI : DivI a b nq a.length a.length (at_ a) (fun _ => 0) := divI_start HX.out nq
    generalize hg2 : w3.heap.size = g2 at hR ⊢
    generalize w3.alloc (.cells (madeCells #[.int .u16 0] nq) 46) = wr at hR ⊢
    generalize at_ a = fr at hR hI
    generalize (fun _ => 0 : Nat → Nat) = fq at hR hI
    clear hg2 HT1 HBW HT2 HBW2 hg1 har hb3
    go_step3
    · skip
      obtain ⟨T, hT⟩ : ∃ T, Hid ((tr (rm a.length fr)).length = T) := ⟨_, Lib.hid rfl⟩
      have htr := hI.trimmed hT.out
      have hTa : T ≤ a.length := Nat.le_trans htr.1 (Nat.le_trans hI.ml hI.la)
      have htM := Lib.hid htr.1
      have HC := plen_any (some ⟨g1, 0, none⟩) a.length (rm a.length fr) wr (by
        have h := hR.2.2.2.2.1.sl (rm_mem fun j _ => by have := hI.rl j; omega)
        have h2 := h.take a.length
        rwa [rm_take fr hI.la] at h2) (by have := hI.la; rw [rm_len]; omega)
      rw [rm_len, hT.out] at HC
      replace HC := Lib.hid HC
      have hsl := slice_head (some ⟨g1, 0, none⟩) a.length a.length T hTa
      have HR := Lib.hid hR
      have HI := Lib.hid hI
      clear hR hI htr
      by_cases hlt : T < b.length
      · have hd : decide ((T : Int) - (b.length : Int) < 0) = true := by rw [decide_eq_true_eq]; omega
        have he := HEnd.out _ _ T fr fq HI.out hT.out hlt
        have he1 := Lib.hid he.1
        have he2 := Lib.hid he.2
        clear he
        go_wp2_with (go_at_call 167; (with_reducible refine HC.out.mono ?_); rintro e w' ⟨rfl, rfl⟩)
        try rw [jump_ret]
        go_ret3
        refine ⟨g1, a.length, g2, nq, by
          show Ending.returned (Value.tuple #[.slice (some ⟨g2, 0, none⟩) nq nq, .slice (some ⟨g1, 0, none⟩) T a.length, .bool true]) = _
          rw [← he1.out, ← he2.out, rm_len, rm_len], by rw [← he1.out, rm_len]; exact Nat.le_refl _, by rw [← he2.out, rm_len]; exact hTa, ?_, ?_, HR.out.2.2.1, Nat.le_of_lt HR.out.1⟩
        · rw [← he1.out]
          exact HR.out.2.2.2.2.2.sl (rm_mem fun j _ => by have := HI.out.ql j; omega)
        · rw [← he2.out, ← rm_take fr hTa]
          exact (HR.out.2.2.2.2.1.sl (rm_mem fun j _ => by have := HI.out.rl j; omega)).take T
      · have hTb := Lib.hid (Nat.le_of_not_lt hlt)
        obtain ⟨k, hk⟩ : ∃ k, Hid (k = T - b.length) := ⟨_, Lib.hid rfl⟩
        have hkI : (T : Int) - (b.length : Int) = (k : Int) := by have := hk.out; omega
        obtain ⟨t1, ht1⟩ : ∃ t1, Hid (t1 = T - 1) := ⟨_, Lib.hid rfl⟩
        have ht1I : (T : Int) - 1 = (t1 : Int) := by have := ht1.out; omega
        have ht1a : t1 < a.length := by have := ht1.out; omega
        have hkn : k < nq := by have := hk.out; have := HN.out; omega
        have hkb : k + b.length = T := by have := hk.out; have := hTb.out; omega
        obtain ⟨V, hV⟩ : ∃ V, Hid (V = fr t1) := ⟨_, Lib.hid rfl⟩
        have hV1 : V < 1024 := by rw [hV.out]; exact HI.out.rl _
        obtain ⟨F, hF⟩ : ∃ F, Hid (F = gm V iv) := ⟨_, Lib.hid rfl⟩
        have hF1 : F < 1024 := by rw [hF.out]; exact gm_lt _ hV1
        have hMul : MulIs V iv F := by
          have h1 := HIL.out
          exact mulIs (by omega) (by omega) (by omega) (by omega) (by rw [hF.out]; exact mulI_nat hV1 h1)
        have HI4 := HI.out.step hT.out HY.out bp HIL.out HIV.out hTb.out (f := F) (by rw [hF.out, hV.out, ht1.out]) HN.out
        rw [← hk.out] at HI4
        replace HI4 := Lib.hid HI4
        replace hkb := Lib.hid hkb
        go_wp2_with (go_at_call 167; (with_reducible refine HC.out.mono ?_); rintro e w' ⟨rfl, rfl⟩)
        refine Cl.region_way (fun _ => True) 10 [(0, .r), (1, .r), (2, .r), (3, .r), (4, .r), (5, .r), (6, .r), (7, .r), (8, .c), (9, .r)] (by kernel_rfl) (by kernel_rfl) ?_
        intro w4 hk4
        have hcA : ∀ y : Cl.Since (fun _ => True) w4, y.w.cell? ⟨g1, t1, none⟩ = some (.int .u16 (V : Int)) := fun y => by rw [hV.out]; exact arr_rm_cell (Keeps.arr (hk4.trans y.keeps) HR.out.2.2.2.2.1) ht1a
        have hiA : ∀ y : Cl.Since (fun _ => True) w4, isTb y.w w.heap.size = true := fun y => (Keeps.tb (hk4.trans y.keeps) HR.out.2.2.2.1).is HCS.out.1
        have hoA : ∀ y : Cl.Since (fun _ => True) w4, tbOf y.w w.heap.size = cells cs := fun y => (Keeps.tb (hk4.trans y.keeps) HR.out.2.2.2.1).of
        iterate 8 (refine Cl.way_r rfl ?_; go_big_quiet_step (fail); refine wpQuiet_nil ?_)
        refine Cl.way_c rfl ?_
        clear hcA hiA hoA
        replace hk4 := Lib.hid hk4
        go_wp2_with (go_at_call 163; (with_reducible refine (hMul.at cs _).mono ?_); rintro e w5 ⟨rfl, hb5⟩)
        refine Cl.way_on (Cl.Keeps.of_below hb5) ?_
        iterate 1 (refine Cl.way_r rfl ?_; go_big_quiet_step (fail); refine wpQuiet_nil ?_)
        refine Cl.way_end ?_
        have hk5 := hk4.out.trans (Cl.Keeps.of_below hb5)
        have hR5 : DivR w g1 g2 a.length nq cs fr fq w5 := ⟨HR.out.1, HR.out.2.1, HR.out.2.2.1.trans ((Cl.Keeps.below hk5).mono HR.out.2.2.1.size), Keeps.tb hk5 HR.out.2.2.2.1, Keeps.arr hk5 HR.out.2.2.2.2.1, Keeps.arr hk5 HR.out.2.2.2.2.2⟩
        clear hb5 hk5 hk4
        have hc5 := arr_rm_cell hR5.2.2.2.2.2 hkn
        have hf5 := hR5.2.2.2.2.2.frozen k
        have hR6 : DivR w g1 g2 a.length nq cs fr (fun j => if j = k then F else fq j) (w5.setCell ⟨g2, k, none⟩ (.int .u16 (F : Int))) := by
          obtain ⟨h1, h2, h3, h4, h5, h6⟩ := hR5
          refine ⟨h1, h2, h3.setCell (p := ⟨g2, k, none⟩) (by show w.heap.size ≤ g2; omega) _, h4.other _ _ (by show w.heap.size ≠ g2; omega), h5.far (p := ⟨g2, k, none⟩) (by show g1 ≠ g2; omega) _, ?_⟩
          rw [← rm_set]; exact h6.set_ k F
        replace hR5 := Lib.hid hR5
        replace hR6 := Lib.hid hR6
        go_wp2_with fail
        have HS6 := hR6
        clear hR5 hc5 hf5
        generalize w5.setCell ⟨g2, k, none⟩ (.int .u16 (F : Int)) = w6 at hR6 HS6 ⊢
        have hst := slice_tail g1 T a.length k (by have := hk.out; have := hTb.out; omega) (by have := hk.out; omega)
        refine Cl.region_way (fun _ => True) 6 [(0, .r), (1, .r), (2, .r), (3, .r), (4, .r), (5, .r), (6, .z)] (by kernel_rfl) (by kernel_rfl) ?_
        intro w7 hk7
        have hiA : ∀ y : Cl.Since (fun _ => True) w7, isTb y.w w.heap.size = true := fun y => (Keeps.tb (hk7.trans y.keeps) hR6.out.2.2.2.1).is HCS.out.1
        have hoA : ∀ y : Cl.Since (fun _ => True) w7, tbOf y.w w.heap.size = cells cs := fun y => (Keeps.tb (hk7.trans y.keeps) hR6.out.2.2.2.1).of
        iterate 6 (refine Cl.way_r rfl ?_; go_big_quiet_step (fail); refine wpQuiet_nil ?_)
        refine Cl.way_z rfl ?_
        clear hiA hoA hst
        have hR7 : DivR w g1 g2 a.length nq cs fr (fun j => if j = k then F else fq j) w7 := ⟨hR6.out.1, hR6.out.2.1, hR6.out.2.2.1.trans ((Cl.Keeps.below hk7).mono hR6.out.2.2.1.size), Keeps.tb hk7 hR6.out.2.2.2.1, Keeps.arr hk7 hR6.out.2.2.2.2.1, Keeps.arr hk7 hR6.out.2.2.2.2.2⟩
        have HC7 := HAdd.out g1 k (T - k) (a.length - k) fr F w7 (by have := hR7.1; omega) hR7.2.2.2.2.1 HI.out.rl hR7.2.2.1 (by have := hkb.out; omega) (by have := hkb.out; omega) hF1
        replace HC7 := Lib.hid HC7
        replace hR7 := Lib.hid hR7
        clear hk7 hR6 HS6
        go_wp2_with (go_at_call 169; (with_reducible refine HC7.out.mono ?_); rintro e w8 ⟨rfl, hbut, harr⟩; replace hbut := Lib.hid hbut; replace harr := Lib.hid harr)
        refine Cl.Calm.normal ?_
        go_wp2_with fail
        have HR4 : DivR w g1 g2 a.length nq cs (mrow fr F b k b.length) (fun j => if j = k then F else fq j) w8 := by
          obtain ⟨h1, h2, h3, h4, h5, h6⟩ := hR7.out
          exact ⟨h1, h2, But.below hbut.out h3 (by omega) h3.size, But.tb hbut.out h4 (by omega), harr.out, But.arr hbut.out h6 (by omega)⟩
        go_step3
        refine ⟨rfl, rfl, g1, g2, T, T - 1, _, _, HR4, HI4.out, by have := hTb.out; omega, rfl, rfl, rfl, rfl, rfl, rfl, rfl, rfl, rfl, rfl, rfl, rfl, rfl⟩
  · rintro ⟨t, df⟩ wr ⟨hdf, g1, g2, L, M, fr, fq, HJ⟩
    have hR := HJ.r
    have hI := HJ.i
    have hML := Lib.hid HJ.ml
    replace hdf : df = [] := hdf
    subst hdf
    rw [show t = _ from frame76 t HJ.size]
    have e0 : t.getD 0 undef = _ := HJ.t0
    have e1 : t.getD 1 undef = _ := HJ.t1
    have e2 : t.getD 2 undef = _ := HJ.t2
    have e3 : t.getD 3 undef = _ := HJ.t3
    have e4 : t.getD 4 undef = _ := HJ.t4
    have e5 : t.getD 5 undef = _ := HJ.t5
    have e6 : t.getD 6 undef = _ := HJ.t6
    have e7 : t.getD 7 undef = _ := HJ.t7
    have e8 : t.getD 8 undef = _ := HJ.t8
    have e9 : t.getD 9 undef = _ := HJ.t9
    have e11 : t.getD 11 undef = _ := HJ.t11
    have e12 : t.getD 12 undef = _ := HJ.t12
    rw [e0, e1, e2, e3, e4, e5, e6, e7, e8, e9, e11, e12]
    generalize t.getD 10 undef = OO
    generalize t.getD 13 undef = u13
    generalize t.getD 14 undef = u14
    generalize t.getD 15 undef = u15
    generalize t.getD 16 undef = u16
    generalize t.getD 17 undef = u17
    generalize t.getD 18 undef = u18
    generalize t.getD 19 undef = u19
    generalize t.getD 20 undef = u20
    generalize t.getD 21 undef = u21
    generalize t.getD 22 undef = u22
    generalize t.getD 23 undef = u23
    generalize t.getD 24 undef = u24
    generalize t.getD 25 undef = u25
    generalize t.getD 26 undef = u26
    generalize t.getD 27 undef = u27
    generalize t.getD 28 undef = u28
    generalize t.getD 29 undef = u29
    generalize t.getD 30 undef = u30
    generalize t.getD 31 undef = u31
    generalize t.getD 32 undef = u32
    generalize t.getD 33 undef = u33
    generalize t.getD 34 undef = u34
    generalize t.getD 35 undef = u35
    generalize t.getD 36 undef = u36
    generalize t.getD 37 undef = u37
    generalize t.getD 38 undef = u38
    generalize t.getD 39 undef = u39
    generalize t.getD 40 undef = u40
    generalize t.getD 41 undef = u41
    generalize t.getD 42 undef = u42
    generalize t.getD 43 undef = u43
    generalize t.getD 44 undef = u44
    generalize t.getD 45 undef = u45
    generalize t.getD 46 undef = u46
    generalize t.getD 47 undef = u47
    generalize t.getD 48 undef = u48
    generalize t.getD 49 undef = u49
    generalize t.getD 50 undef = u50
    generalize t.getD 51 undef = u51
    generalize t.getD 52 undef = u52
    generalize t.getD 53 undef = u53
    generalize t.getD 54 undef = u54
    generalize t.getD 55 undef = u55
    generalize t.getD 56 undef = u56
    generalize t.getD 57 undef = u57
    generalize t.getD 58 undef = u58
    generalize t.getD 59 undef = u59
    generalize t.getD 60 undef = u60
    generalize t.getD 61 undef = u61
    generalize t.getD 62 undef = u62
    generalize t.getD 63 undef = u63
    generalize t.getD 64 undef = u64
    generalize t.getD 65 undef = u65
    generalize t.getD 66 undef = u66
    generalize t.getD 67 undef = u67
    generalize t.getD 68 undef = u68
    generalize t.getD 69 undef = u69
    generalize t.getD 70 undef = u70
    generalize t.getD 71 undef = u71
    generalize t.getD 72 undef = u72
    generalize t.getD 73 undef = u73
    generalize t.getD 74 undef = u74
    generalize t.getD 75 undef = u75
    clear e11
    clear HJ e0 e1 e2 e3 e4 e5 e6 e7 e8 e9 e12
    · skip
      obtain ⟨T, hT⟩ : ∃ T, Hid ((tr (rm L fr)).length = T) := ⟨_, Lib.hid rfl⟩
      have htr := hI.trimmed hT.out
      have hTa : T ≤ a.length := Nat.le_trans htr.1 (Nat.le_trans hI.ml hI.la)
      have htM := Lib.hid htr.1
      have HC := plen_any (some ⟨g1, 0, none⟩) a.length (rm L fr) wr (by
        have h := hR.2.2.2.2.1.sl (rm_mem fun j _ => by have := hI.rl j; omega)
        have h2 := h.take L
        rwa [rm_take fr hI.la] at h2) (by have := hI.la; rw [rm_len]; omega)
      rw [rm_len, hT.out] at HC
      replace HC := Lib.hid HC
      have hsl := slice_head (some ⟨g1, 0, none⟩) L a.length T hTa
      have HR := Lib.hid hR
      have HI := Lib.hid hI
      clear hR hI htr
      by_cases hlt : T < b.length
      · have hd : decide ((T : Int) - (b.length : Int) < 0) = true := by rw [decide_eq_true_eq]; omega
        have he := HEnd.out _ _ T fr fq HI.out hT.out hlt
        have he1 := Lib.hid he.1
        have he2 := Lib.hid he.2
        clear he
        go_wp2_with (go_at_call 167; (with_reducible refine HC.out.mono ?_); rintro e w' ⟨rfl, rfl⟩)
        try rw [jump_ret]
        go_ret3
        refine ⟨g1, a.length, g2, nq, by
          show Ending.returned (Value.tuple #[.slice (some ⟨g2, 0, none⟩) nq nq, .slice (some ⟨g1, 0, none⟩) T a.length, .bool true]) = _
          rw [← he1.out, ← he2.out, rm_len, rm_len], by rw [← he1.out, rm_len]; exact Nat.le_refl _, by rw [← he2.out, rm_len]; exact hTa, ?_, ?_, HR.out.2.2.1, Nat.le_of_lt HR.out.1⟩
        · rw [← he1.out]
          exact HR.out.2.2.2.2.2.sl (rm_mem fun j _ => by have := HI.out.ql j; omega)
        · rw [← he2.out, ← rm_take fr hTa]
          exact (HR.out.2.2.2.2.1.sl (rm_mem fun j _ => by have := HI.out.rl j; omega)).take T
      · have hTb := Lib.hid (Nat.le_of_not_lt hlt)
        obtain ⟨k, hk⟩ : ∃ k, Hid (k = T - b.length) := ⟨_, Lib.hid rfl⟩
        have hkI : (T : Int) - (b.length : Int) = (k : Int) := by have := hk.out; omega
        obtain ⟨t1, ht1⟩ : ∃ t1, Hid (t1 = T - 1) := ⟨_, Lib.hid rfl⟩
        have ht1I : (T : Int) - 1 = (t1 : Int) := by have := ht1.out; omega
        have ht1a : t1 < a.length := by have := ht1.out; omega
        have hkn : k < nq := by have := hk.out; have := HN.out; omega
        have hkb : k + b.length = T := by have := hk.out; have := hTb.out; omega
        obtain ⟨V, hV⟩ : ∃ V, Hid (V = fr t1) := ⟨_, Lib.hid rfl⟩
        have hV1 : V < 1024 := by rw [hV.out]; exact HI.out.rl _
        obtain ⟨F, hF⟩ : ∃ F, Hid (F = gm V iv) := ⟨_, Lib.hid rfl⟩
        have hF1 : F < 1024 := by rw [hF.out]; exact gm_lt _ hV1
        have hMul : MulIs V iv F := by
          have h1 := HIL.out
          exact mulIs (by omega) (by omega) (by omega) (by omega) (by rw [hF.out]; exact mulI_nat hV1 h1)
        have HI4 := HI.out.step hT.out HY.out bp HIL.out HIV.out hTb.out (f := F) (by rw [hF.out, hV.out, ht1.out]) HN.out
        rw [← hk.out] at HI4
        replace HI4 := Lib.hid HI4
        replace hkb := Lib.hid hkb
        go_wp2_with (go_at_call 167; (with_reducible refine HC.out.mono ?_); rintro e w' ⟨rfl, rfl⟩)
        refine Cl.region_way (fun _ => True) 10 [(0, .r), (1, .r), (2, .r), (3, .r), (4, .r), (5, .r), (6, .r), (7, .r), (8, .c), (9, .r)] (by kernel_rfl) (by kernel_rfl) ?_
        intro w4 hk4
        have hcA : ∀ y : Cl.Since (fun _ => True) w4, y.w.cell? ⟨g1, t1, none⟩ = some (.int .u16 (V : Int)) := fun y => by rw [hV.out]; exact arr_rm_cell (Keeps.arr (hk4.trans y.keeps) HR.out.2.2.2.2.1) ht1a
        have hiA : ∀ y : Cl.Since (fun _ => True) w4, isTb y.w w.heap.size = true := fun y => (Keeps.tb (hk4.trans y.keeps) HR.out.2.2.2.1).is HCS.out.1
        have hoA : ∀ y : Cl.Since (fun _ => True) w4, tbOf y.w w.heap.size = cells cs := fun y => (Keeps.tb (hk4.trans y.keeps) HR.out.2.2.2.1).of
        iterate 8 (refine Cl.way_r rfl ?_; go_big_quiet_step (fail); refine wpQuiet_nil ?_)
        refine Cl.way_c rfl ?_
        clear hcA hiA hoA
        replace hk4 := Lib.hid hk4
        go_wp2_with (go_at_call 163; (with_reducible refine (hMul.at cs _).mono ?_); rintro e w5 ⟨rfl, hb5⟩)
        refine Cl.way_on (Cl.Keeps.of_below hb5) ?_
        iterate 1 (refine Cl.way_r rfl ?_; go_big_quiet_step (fail); refine wpQuiet_nil ?_)
        refine Cl.way_end ?_
        have hk5 := hk4.out.trans (Cl.Keeps.of_below hb5)
        have hR5 : DivR w g1 g2 a.length nq cs fr fq w5 := ⟨HR.out.1, HR.out.2.1, HR.out.2.2.1.trans ((Cl.Keeps.below hk5).mono HR.out.2.2.1.size), Keeps.tb hk5 HR.out.2.2.2.1, Keeps.arr hk5 HR.out.2.2.2.2.1, Keeps.arr hk5 HR.out.2.2.2.2.2⟩
        clear hb5 hk5 hk4
        have hc5 := arr_rm_cell hR5.2.2.2.2.2 hkn
        have hf5 := hR5.2.2.2.2.2.frozen k
        have hR6 : DivR w g1 g2 a.length nq cs fr (fun j => if j = k then F else fq j) (w5.setCell ⟨g2, k, none⟩ (.int .u16 (F : Int))) := by
          obtain ⟨h1, h2, h3, h4, h5, h6⟩ := hR5
          refine ⟨h1, h2, h3.setCell (p := ⟨g2, k, none⟩) (by show w.heap.size ≤ g2; omega) _, h4.other _ _ (by show w.heap.size ≠ g2; omega), h5.far (p := ⟨g2, k, none⟩) (by show g1 ≠ g2; omega) _, ?_⟩
          rw [← rm_set]; exact h6.set_ k F
        replace hR5 := Lib.hid hR5
        replace hR6 := Lib.hid hR6
        go_wp2_with fail
        have HS6 := hR6
        clear hR5 hc5 hf5
        generalize w5.setCell ⟨g2, k, none⟩ (.int .u16 (F : Int)) = w6 at hR6 HS6 ⊢
        have hst := slice_tail g1 T a.length k (by have := hk.out; have := hTb.out; omega) (by have := hk.out; omega)
        refine Cl.region_way (fun _ => True) 6 [(0, .r), (1, .r), (2, .r), (3, .r), (4, .r), (5, .r), (6, .z)] (by kernel_rfl) (by kernel_rfl) ?_
        intro w7 hk7
        have hiA : ∀ y : Cl.Since (fun _ => True) w7, isTb y.w w.heap.size = true := fun y => (Keeps.tb (hk7.trans y.keeps) hR6.out.2.2.2.1).is HCS.out.1
        have hoA : ∀ y : Cl.Since (fun _ => True) w7, tbOf y.w w.heap.size = cells cs := fun y => (Keeps.tb (hk7.trans y.keeps) hR6.out.2.2.2.1).of
        iterate 6 (refine Cl.way_r rfl ?_; go_big_quiet_step (fail); refine wpQuiet_nil ?_)
        refine Cl.way_z rfl ?_
        clear hiA hoA hst
        have hR7 : DivR w g1 g2 a.length nq cs fr (fun j => if j = k then F else fq j) w7 := ⟨hR6.out.1, hR6.out.2.1, hR6.out.2.2.1.trans ((Cl.Keeps.below hk7).mono hR6.out.2.2.1.size), Keeps.tb hk7 hR6.out.2.2.2.1, Keeps.arr hk7 hR6.out.2.2.2.2.1, Keeps.arr hk7 hR6.out.2.2.2.2.2⟩
        have HC7 := HAdd.out g1 k (T - k) (a.length - k) fr F w7 (by have := hR7.1; omega) hR7.2.2.2.2.1 HI.out.rl hR7.2.2.1 (by have := hkb.out; omega) (by have := hkb.out; omega) hF1
        replace HC7 := Lib.hid HC7
        replace hR7 := Lib.hid hR7
        clear hk7 hR6 HS6
        go_wp2_with (go_at_call 169; (with_reducible refine HC7.out.mono ?_); rintro e w8 ⟨rfl, hbut, harr⟩; replace hbut := Lib.hid hbut; replace harr := Lib.hid harr)
        refine Cl.Calm.normal ?_
        go_wp2_with fail
        have HR4 : DivR w g1 g2 a.length nq cs (mrow fr F b k b.length) (fun j => if j = k then F else fq j) w8 := by
          obtain ⟨h1, h2, h3, h4, h5, h6⟩ := hR7.out
          exact ⟨h1, h2, But.below hbut.out h3 (by omega) h3.size, But.tb hbut.out h4 (by omega), harr.out, But.arr hbut.out h6 (by omega)⟩
        go_step3
        refine ⟨rfl, ⟨rfl, g1, g2, T, T - 1, _, _, HR4, HI4.out, by have := hTb.out; omega, rfl, rfl, rfl, rfl, rfl, rfl, rfl, rfl, rfl, rfl, rfl, rfl, rfl⟩, ?_⟩
        have h1 := htM.out; have h2 := hML.out
        show T < L
        omega
end Go.Proofs.YtjhoecfhmndcgaaGreat
