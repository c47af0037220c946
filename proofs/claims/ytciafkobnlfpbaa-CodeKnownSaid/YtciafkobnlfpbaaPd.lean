/- The program's package poly: Mul. -/
import Derived.Test.YtciafkobnlfpbaaPc
import Derived.Test.YtciafkobnlfpbaaPq
namespace Go.Proofs.Ytciafkobnlfpbaa
open Go.RowKit Go.Gf
attribute [local go_sem ↓] exec_load_tb Cl.quiet_since
attribute [local go_sem] tbAt_ptr tbIn_ptr

theorem Sl.drewN {w : World} {B : Nat} {A : Option Addr} {xs : List Nat} (h : Sl w B A xs) (n : Nat) : Sl (w.drewN n) B A xs := h
/-- the loop of Mul: tables lie in block h, the row in block g, which is one's own -/
def MulR (w : World) (h g n : Nat) (cs : List Nat) (f : Nat → Nat) (wr : World) : Prop := Below w.heap.size w wr ∧ Tb wr h cs ∧ Arr wr g (rm n f)

set_option maxRecDepth 20000 in
set_option maxHeartbeats 4000000 in
theorem pmul_any (cs : List Nat) (hcs : cs.length = 2047) (A B : Option Addr) (ca cb : Nat) (xs ys : List Nat) (w : World) (ha : Sl w w.heap.size A xs) (hb : Sl w w.heap.size B ys)
    (hla : xs.length ≤ 1000000) (hlb : ys.length ≤ 1000000) (hca : xs.length ≤ ca) (hcb : ys.length ≤ cb) :
    Calls Try.prog 30 #[.agg (cells cs), .slice A xs.length ca, .slice B ys.length cb] w (Gives w (pmul xs ys)) := by
  have HCS := Lib.hid hcs
  have la := tr_self xs
  have lb := tr_self ys
  have HT : Hid (pmul xs ys = if (tr xs).length = 0 ∨ (tr ys).length = 0 ∨ 4096 < (tr xs).length + (tr ys).length - 1 then [] else tr (rm ((tr xs).length + (tr ys).length - 1) (mall (tr xs) (tr ys) (tr xs).length))) := rfl
  have HLen : Hid ((tr xs).length + (tr ys).length - 1 ≤ 4096 → tr xs ≠ [] → tr ys ≠ [] → (pmul xs ys).length = (tr xs).length + (tr ys).length - 1) := fun h1 h2 h3 => pmul_len h1 h2 h3
  have hbW : Below w.heap.size w (w.alloc (.cells (cells cs) 28)) := (Below.refl _ _).alloc (Nat.le_refl _) _
  have HA := Lib.hid ha
  have HB := Lib.hid hb
  have HA1 := Lib.hid (ha.far hbW)
  have HB1 := Lib.hid (hb.far hbW)
  have tA : ∀ n, Calls Try.prog 49 #[.slice A xs.length ca] ((w.alloc (.cells (cells cs) 28)).drewN n) fun e w' => e = .returned (.int .i64 (((tr xs).length : Nat) : Int)) ∧ (w.alloc (.cells (cells cs) 28)).drewN n = w' := fun n => plen_any A ca xs _ (HA1.out.drewN n) hla
  have tB : ∀ n, Calls Try.prog 49 #[.slice B ys.length cb] ((w.alloc (.cells (cells cs) 28)).drewN n) fun e w' => e = .returned (.int .i64 (((tr ys).length : Nat) : Int)) ∧ (w.alloc (.cells (cells cs) 28)).drewN n = w' := fun n => plen_any B cb ys _ (HB1.out.drewN n) hlb
  have HX := Lib.hid (tr_bd xs)
  have HY := Lib.hid (tr_bd ys)
  have HXM : Hid (∀ j, j < (tr xs).length → ∃ h : j < xs.length, xs[j] % 1024 = at_ (tr xs) j) := by
    intro j hj
    have e := la.1
    have h1 : j < xs.length := by omega
    refine ⟨h1, ?_⟩
    rw [← e, at_get (by simp; omega)]; simp
  have HYM : Hid ((ys.take (tr ys).length).map (· % 1024) = tr ys) := lb.1
  replace la := la.2
  replace lb := lb.2
  generalize hT : pmul xs ys = T at HT HLen
  have hL : (tr xs).length = (tr xs).length := rfl
  generalize tr xs = a at *
  generalize tr ys = b at *
  clear hT hL hbW ha hb hcs
  have HTA := Lib.hid tA
  have HTB := Lib.hid tB
  clear tA tB
  have hsA := slice_head A xs.length ca a.length (by omega)
  have hsB := slice_head B ys.length cb b.length (by omega)
  by_cases hc : a.length = 0 ∨ b.length = 0 ∨ 4096 < a.length + b.length - 1
  · have HT' : Hid (T = []) := by unfold Hid; rw [HT.out, if_pos hc]
    clear HT
    have hcases : ∃ b1 b2 b3 : Bool, ((a.length : Int) == 0) = b1 ∧ ((b.length : Int) == 0) = b2 ∧ decide ((4096 : Int) < (a.length : Int) + (b.length : Int) - 1) = b3 ∧ (b1 || b2 || b3) = true := by
      refine ⟨_, _, _, rfl, rfl, rfl, ?_⟩
      simp only [Bool.or_eq_true, beq_iff_eq, decide_eq_true_eq]
      omega
    obtain ⟨b1, b2, b3, h1, h2, h3, h4⟩ := hcases
    clear hc
    have h4' := Lib.hid h4
    clear h4
    cases b1 <;> cases b2 <;> cases b3 <;> (try exact absurd h4'.out (by decide))
    all_goals
      go_enter Try.func30, Try.ntmps30
      go_wp2_with fail
      go_quiet ((go_at_call 49; first | with_reducible exact quiet_left (HTA.out _) | with_reducible exact quiet_left (HTB.out _)))
      go_wp2_with fail
      go_ret
      rw [HT'.out]
      exact gives_nil (below_drewN ((Below.refl _ _).alloc (Nat.le_refl _) _) _)
  · have ap : 0 < a.length := by omega
    have bp : 0 < b.length := by omega
    obtain ⟨n, hn⟩ : ∃ n, n = a.length + b.length - 1 := ⟨_, rfl⟩
    have HT' : Hid (T = rm n (mall a b a.length)) := by
      unfold Hid
      have e := HLen.out (by omega) (by intro e; rw [e] at ap; exact absurd ap (by decide)) (by intro e; rw [e] at bp; exact absurd bp (by decide))
      rw [HT.out, if_neg hc] at e ⊢
      rw [hn]
      exact tr_row (fun j => mall_lt HX.out _ j) e
    clear HT HLen
    have ha0 : ((a.length : Int) == 0) = false := by rw [beq_eq_false_iff_ne]; omega
    have hb0 : ((b.length : Int) == 0) = false := by rw [beq_eq_false_iff_ne]; omega
    have hab : decide ((4096 : Int) < (a.length : Int) + (b.length : Int) - 1) = false := by rw [decide_eq_false_iff_not]; omega
    have hN : n ≤ 4096 := by omega
    have hmk : ∀ w, (Instr.makeSlice 22 (.int .i64 ((a.length : Int) + (b.length : Int) - 1)) (.int .i64 ((a.length : Int) + (b.length : Int) - 1))).run Try.prog w = .ok (.slice (some ⟨w.heap.size, 0, none⟩) n n) (w.alloc (.cells (madeCells #[.int .u16 0] n) 23)) := by
      intro w
      have := run_make_row' (P := Try.prog) 22 23 (.int .u16 0) 2 Try.underlying22 info22 rfl .i64 .i64 n (by omega) (by omega) w
      rw [show (n : Int) = (a.length : Int) + (b.length : Int) - 1 by omega] at this
      exact this
    have HN := Lib.hid hn
    have HNf : Hid (n < a.length + b.length) := by unfold Hid; omega
    clear hc hn
    have HAT : Hid (∀ (i : Nat) (h : i < a.length) (x : Int) (w1 : World), x = (xs[i]'(by omega) : Nat) → Tb w1 w.heap.size cs → Arr w1 (w.heap.size + 1) (rm n (mall a b i)) → Below w.heap.size w w1 →
        Calls Try.prog 52 #[.agg (cells cs), .slice (some ⟨w.heap.size + 1, i, none⟩) (n - i) (n - i), .slice B b.length cb, .int .u16 x] w1 (Added w1 (w.heap.size + 1) n (mall a b (i + 1)))) := by
      intro i h x w1 hx h1 h2 h3
      have hl : (ys.take b.length).length = b.length := by simp; omega
      have hix : i < xs.length := by omega
      have hxi := HA.out.1 xs[i] (List.getElem_mem hix)
      have hfin := HN.out
      have hs : Sl w1 (w.heap.size + 1) B (ys.take b.length) := ((HB.out.below h3).more (by omega)).take _
      have := addTimes_any cs HCS.out (w.heap.size + 1) n i (n - i) (n - i) (mall a b i) B cb (ys.take b.length) x w1 h2 (mall_lt HX.out i) (by rw [hl]; omega) (by rw [hl]; omega) (by omega) hs (by omega) (by omega)
      rw [hl, HYM.out] at this
      obtain ⟨_, e⟩ := HXM.out i h
      rw [show x.toNat % 1024 = at_ a i by rw [← e, hx]; simp] at this
      exact this
    go_enter Try.func30, Try.ntmps30
    go_wp2_with fail
    go_quiet ((go_at_call 49; first | with_reducible exact quiet_left (HTA.out _) | with_reducible exact quiet_left (HTB.out _)))
    go_wp2_with fail
    go_loopw [41] (fun q wr => ∃ i : Nat, i ≤ a.length ∧ q = .int .i64 i ∧ MulR w w.heap.size (w.heap.size + 1) n cs (mall a b i) wr) (fun q _ => a.length - (intOf q).toNat)
    case atStart =>
      refine ⟨0, Nat.zero_le _, rfl, ?_, ?_, ?_⟩
      · exact (below_drewN ((Below.refl _ _).alloc (Nat.le_refl _) _) nq).alloc (by simp) _
      · exact (Below.heap_alloc _ _ _ (by simp)).trans (tb_new w cs)
      · have h := heap_alloc_new ((w.alloc (.cells (cells cs) 28)).drewN nq) (.cells (madeCells #[.int .u16 0] n) 23)
        rw [made_uv, rm_zero] at h
        rw [made_uv, rm_zero]
        have e : ((w.alloc (.cells (cells cs) 28)).drewN nq).heap.size = w.heap.size + 1 := by simp
        rw [e] at h
        exact h
    case round =>
      clear hmk
      obtain ⟨i, hi, rfl, HO⟩ := hrel
      by_cases hlt : i < a.length
      · have hix : i < xs.length := by omega
        obtain ⟨ad, rfl, hab2, hcell⟩ := (HA.out.below HO.1).at_ hix
        have hxi := HA.out.1 xs[i] (List.getElem_mem hix)
        have hin : i < n := by have := HN.out; omega
        have hsl := slice_tail (w.heap.size + 1) n n i hin (by omega)
        have HR := Lib.hid HO
        clear HO
        go_wp2_with fail
        refine Cl.region_way (fun _ => True) 6 [(0, .r), (1, .r), (2, .r), (3, .r), (4, .r), (5, .r), (6, .z)] (by kernel_rfl) (by kernel_rfl) ?_
        intro w1 hk1
        have hiA : ∀ x : Cl.Since (fun _ => True) w1, isTb x.w w.heap.size = true := fun x => (Keeps.tb (hk1.trans x.keeps) HR.out.2.1).is HCS.out
        have hoA : ∀ x : Cl.Since (fun _ => True) w1, tbOf x.w w.heap.size = cells cs := fun x => (Keeps.tb (hk1.trans x.keeps) HR.out.2.1).of
        iterate 6 (refine Cl.way_r rfl ?_; go_big_quiet_step (fail); refine wpQuiet_nil ?_)
        refine Cl.way_z rfl ?_
        have hbw1 := HR.out.1.trans ((Cl.Keeps.below hk1).mono HR.out.1.size)
        have HC := Lib.hid (HAT.out i hlt xs[i] w1 rfl (Keeps.tb hk1 HR.out.2.1) (Keeps.arr hk1 HR.out.2.2) hbw1)
        have HT1 := Lib.hid (Keeps.tb hk1 HR.out.2.1)
        have HBW := Lib.hid hbw1
        clear hk1 hiA hoA hbw1 hcell hsl
        go_wp2_with (go_at_call 52; (with_reducible refine HC.out.mono ?_); rintro e w2 ⟨rfl, hbut, harr⟩; replace hbut := Lib.hid hbut; replace harr := Lib.hid harr)
        refine Cl.Calm.normal ?_
        go_wp2_with fail
        go_roundw
        case rel => exact ⟨i + 1, by omega, by go_num, But.below hbut.out HBW.out (by omega) HBW.out.size, But.tb hbut.out HT1.out (by omega), harr.out⟩
        case measure => simp [intOf]; omega
      · obtain rfl : i = a.length := by omega
        have HR := Lib.hid HO
        clear HO
        go_wp2_with fail
        go_ret
        exact ⟨.slice (some ⟨w.heap.size + 1, 0, none⟩) n n, rfl, HR.out.1, by rw [HT'.out]; exact rm_mem fun j _ => by have := mall_lt (ys := b) HX.out a.length j; omega, Or.inr ⟨w.heap.size + 1, by omega, by rw [HT'.out, rm_len], by rw [HT'.out]; exact HR.out.2.2⟩⟩
end Go.Proofs.Ytciafkobnlfpbaa
