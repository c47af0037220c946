/- The device: a block's pages, made blank. -/
import Derived.Test.YtnndhbppgmnefaaDl
import Derived.Test.YtnndhbppgmnefaaZc
namespace Go.Proofs.Ytnndhbppgmnefaa
open Go.RowKit Go.Gf Go.Fl
set_option linter.unusedVariables false
set_option linter.unusedSimpArgs false
attribute [local go_sem ↓] Cl.quiet_after Cl.quiet_since
theorem info74 : (Try.prog.info? 74).map (fun i => (i.zero, i.size, i.bytes)) = some (some (.pointer none), 1, 8) := by kernel_rfl
/-- n pointers to nothing -/
def zP (n : Nat) : Array Value := madeCells #[.pointer none] n
theorem zP_size (n : Nat) : (zP n).size = n := size_madeCells _ _
theorem run_makeP (w : World) (n : Nat) (hn : n ≤ 65536) : (Instr.makeSlice 65 (.int .i64 (n : Int)) (.int .i64 (n : Int))).run Try.prog w = .ok (.slice (some ⟨w.heap.size, 0, none⟩) n n) (w.alloc (.cells (zP n) 74)) := by
  have hi0 := info74
  obtain ⟨i, hi, hrest⟩ := Option.map_eq_some_iff.1 hi0
  simp only [Prod.mk.injEq] at hrest
  obtain ⟨i1, i2, i3⟩ := hrest
  have h := run_make (P := Try.prog) w 65 74 i _ Try.underlying65 hi i1 .i64 .i64 (n : Int) (n : Int) (by omega) (Int.le_refl _) (by rw [i3]; omega) (by omega)
  rw [i2, Int.toNat_natCast, Nat.mul_one] at h
  exact h
/-- a row of P pages, of which m are made; t the blocks' tags -/
structure Row (w : World) (lo k P n m : Nat) (pa : Nat → Addr) (t : Nat → Nat) : Prop where
  new : ∀ b, w.heap.size ≤ b → t b = 9
  kl : lo ≤ k ∧ k < w.heap.size
  kt : t k = 2
  kr : ∃ cs, w.heap[k]? = some (.cells cs 74 (0, 0)) ∧ P ≤ cs.size
  pp : ∀ j, j < m → w.cell? ⟨k, j, none⟩ = some (.pointer (some (pa j)))
  pg : ∀ j, j < m → Page w (fun b => lo ≤ b ∧ t b = 10 + j) (pa j) (List.replicate n (0, 0)) [] 0
theorem Row.below {w w' : World} {lo k P n m : Nat} {pa : Nat → Addr} {t : Nat → Nat} (h : Row w lo k P n m pa t) (hb : Below w.heap.size w w') : Row w' lo k P n m pa t where
  new := fun b hb' => h.new b (Nat.le_trans hb.size hb')
  kl := ⟨h.kl.1, Nat.lt_of_lt_of_le h.kl.2 hb.size⟩
  kt := h.kt
  kr := by obtain ⟨cs, h1, h2⟩ := h.kr; exact ⟨cs, (hb.block k h.kl.2).trans h1, h2⟩
  pp := fun j hj => (hb.cell (p := ⟨k, j, none⟩) h.kl.2).trans (h.pp j hj)
  pg := fun j hj => (h.pg j hj).below hb
theorem Row.step {w w' : World} {lo k P n m : Nat} {pa : Nat → Addr} {t : Nat → Nat} (h : Row w lo k P n m pa t) (hm : m < P) (hb : Below w.heap.size w w') {p : Addr} (hp : Page w' (fun b => w.heap.size ≤ b) p (List.replicate n (0, 0)) [] 0) :
    (∃ v, w'.cell? ⟨k, m, none⟩ = some v) ∧ w'.frozen? ⟨k, m, none⟩ = false ∧ ∃ pa' t', Row (w'.setCell ⟨k, m, none⟩ (.pointer (some p))) lo k P n (m + 1) pa' t' := by
  have h' := h.below hb
  obtain ⟨cs, hcs, hsz⟩ := h'.kr
  have hcell : w'.cell? ⟨k, m, none⟩ = some (cs[m]'(by omega)) := by rw [cell_of hcs, Array.getElem?_eq_getElem (by omega)]
  have hs : (w'.setCell ⟨k, m, none⟩ (.pointer (some p))).heap.size = w'.heap.size := by simp [World.setCell]
  have ot : ∀ b, b ≠ k → (w'.setCell ⟨k, m, none⟩ (.pointer (some p))).heap[b]? = w'.heap[b]? := fun b hb => Below.heap_setCell _ _ _ _ (by show b ≠ k; exact hb)
  refine ⟨⟨_, hcell⟩, frozen_new hcs m, fun j => if j = m then p else pa j, fun b => if w.heap.size ≤ b ∧ b < w'.heap.size then 10 + m else t b, ?_⟩
  exact {
    new := fun b hb' => by
      rw [hs] at hb'
      show (if w.heap.size ≤ b ∧ b < w'.heap.size then 10 + m else t b) = 9
      rw [if_neg (by omega)]
      exact h'.new b hb'
    kl := ⟨h'.kl.1, by rw [hs]; exact h'.kl.2⟩
    kt := by
      show (if w.heap.size ≤ k ∧ k < w'.heap.size then 10 + m else t k) = 2
      rw [if_neg (by have := h.kl.2; omega)]
      exact h.kt
    kr := by
      refine ⟨cs.setIfInBounds m (.pointer (some p)), ?_, by simpa using hsz⟩
      simp only [World.setCell]
      rw [Array.getElem?_modify, hcs]
      simp
    pp := fun j hj => by
      show _ = some (Value.pointer (some (if j = m then p else pa j)))
      by_cases e : j = m
      · subst e
        rw [if_pos rfl]
        exact World.cell?_setCell_same _ _ _ hcell
      · rw [if_neg e]
        exact (World.cell?_setCell_other _ _ _ _ (by intro e'; injection e'; omega)).trans (h'.pp j (by omega))
    pg := fun j hj => by
      show Page _ (fun b => lo ≤ b ∧ (if w.heap.size ≤ b ∧ b < w'.heap.size then 10 + m else t b) = 10 + j) (if j = m then p else pa j) _ _ _
      by_cases e : j = m
      · subst e
        rw [if_pos rfl]
        refine (hp.block (by rw [hs]; exact Nat.le_refl _) fun b hb' hF => ot b (fun e => ?_)).only fun b hb' hF => ⟨?_, ?_⟩
        · have := h.kl.2; omega
        · have := h.kl; omega
        · rw [hs] at hb'
          rw [if_pos ⟨hF, hb'⟩]
      · rw [if_neg e]
        refine ((h'.pg j (by omega)).block (by rw [hs]; exact Nat.le_refl _) fun b hb' hF => ot b (fun e => ?_)).only fun b hb' hF => ⟨hF.1, ?_⟩
        · have := h.kt; rw [← e] at this; omega
        · rw [if_neg (fun hh => ?_)]
          · exact hF.2
          · have := h.new b hh.1
            omega }
set_option maxRecDepth 20000 in
set_option maxHeartbeats 4000000 in
theorem blank_any (B P W K : Nat) (hg : Ge.mayG B P W K = true) (w : World) :
    Calls Try.prog 27 #[.agg #[.int .i64 (B : Int), .int .i64 (P : Int), .int .i64 (W : Int), .int .i64 (K : Int)]] w fun e w' => ∃ k pa t, e = .returned (.slice (some ⟨k, 0, none⟩) P P) ∧ Below w.heap.size w w' ∧ Row w' w.heap.size k P (W * (K + 16)) P pa t := by
  have hP := Ge.may_of hg
  have hA := below_alloc' w (.cells #[.int .i64 (B : Int), .int .i64 (P : Int), .int .i64 (W : Int), .int .i64 (K : Int)] 24)
  have hx := Ge.Box.new w (B : Int) (P : Int) (W : Int) (K : Int)
  generalize hw1 : w.alloc (.cells #[.int .i64 (B : Int), .int .i64 (P : Int), .int .i64 (W : Int), .int .i64 (K : Int)] 24) = w1 at *
  have hmk := run_makeP w1 P (by omega)
  have hA1 := below_alloc' w1 (.cells (zP P) 74)
  have hx1 := hx
  have hnew := heap_alloc_new w1 (.cells (zP P) 74)
  have hsz := World.size_alloc w1 (.cells (zP P) 74)
  have hA2 := hA.trans (hA1.mono hA.size)
  obtain ⟨n, hn⟩ : ∃ n, W * (K + 16) = n := ⟨_, rfl⟩
  have hn6 : n ≤ 65536 := by rw [← hn]; have := Nat.mul_le_mul (show W ≤ 4 by omega) (show K + 16 ≤ 80 by omega); omega
  have hce : Ge.celG B P W K = (n : Int) := by
    unfold Ge.celG
    rw [if_pos hg, ← hn]
    simp
  have cc := Lib.hid (Ge.cells_lit hce)
  have hrow : Row (w1.alloc (.cells (zP P) 74)) w.heap.size w1.heap.size P n 0 (fun _ => ⟨0, 0, none⟩) (fun b => if b = w1.heap.size then 2 else 9) := {
    new := fun b hb => if_neg (by rw [hsz] at hb; omega)
    kl := ⟨hA.size, by rw [hsz]; omega⟩
    kt := if_pos rfl
    kr := ⟨zP P, hnew, by rw [zP_size]; exact Nat.le_refl _⟩
    pp := fun j hj => absurd hj (by omega)
    pg := fun j hj => absurd hj (by omega) }
  have hrow0 : Hid (∃ pa t, Row (w1.alloc (.cells (zP P) 74)) w.heap.size w1.heap.size P n 0 pa t) := ⟨_, _, hrow⟩
  have c1 := hx.c1
  rw [hn]
  generalize hw2 : w1.alloc (.cells (zP P) 74) = w2 at *
  replace hA2 := Lib.hid hA2
  have hA3 := Lib.hid hA1
  replace hx1 := Lib.hid hx1
  obtain ⟨k, hk⟩ : ∃ k, Hid (w1.heap.size = k) := ⟨_, Lib.hid rfl⟩
  rw [hk.out] at hmk hrow0
  clear hA hA1 hx hnew hsz hrow hce hn
  go_enter Try.func27, Try.ntmps27
  go_wp2_with (simp only [hmk])
  go_loopw [10] (fun q wr => ∃ i : Nat, i ≤ P ∧ q = .int .i64 i ∧ Below w.heap.size w wr ∧ Below w1.heap.size w1 wr ∧ ∃ pa t, Row wr w.heap.size k P n i pa t) (fun q _ => P - (intOf q).toNat)
  case atStart => exact ⟨0, Nat.zero_le _, rfl, hA2.out, hA3.out, hrow0.out⟩
  case round =>
    obtain ⟨i, hi, rfl, hB, hB2, hR⟩ := hrel
    by_cases hin : i < P
    · have hiI : (i : Int) < (P : Int) := by omega
      have hdi : decide (i < P) = true := decide_eq_true hin
      have hi32 : i < 32 := by omega
      obtain ⟨pa, t, hR⟩ := hR
      have hxr := hx1.out.keep hB2
      obtain ⟨_, c0, c1, c2, c3⟩ := hxr
      replace hR := Lib.hid hR
      replace hB := Lib.hid hB
      replace hB2 := Lib.hid hB2
      have hcn := Lib.hid (fun w => c_new (w := w) n (n : Int) rfl hn6 (fun b => w.heap.size ≤ b) (fun b hb => hb))
      go_wp2_with (first
        | (go_at_call 37; (with_reducible refine (cc.out _).mono ?_); rintro e w3 ⟨rfl, hb3⟩)
        | (go_at_call 36; (with_reducible refine (hcn.out _).mono ?_); rintro e w4 ⟨p, rfl, hb4, hp⟩; obtain ⟨⟨v, hv⟩, hfz, hR2⟩ := (hR.out.below hb3).step hin hb4 hp; have hb34 := hb3.trans (hb4.mono hb3.size); have hB' := hB.out.trans (hb34.mono hB.out.size); have hB2' := hB2.out.trans (hb34.mono hB2.out.size); have hkl := hR.out.kl; clear hb3 hb4 hp))
      go_roundw
      case rel => exact ⟨i + 1, by omega, by go_num, hB'.setCell (p := ⟨k, i, none⟩) hkl.1 _, hB2'.setCell (p := ⟨k, i, none⟩) (by rw [← hk.out]; exact Nat.le_refl _) _, hR2⟩
      case measure => simp [intOf]; omega
    · obtain rfl : i = P := by omega
      have hdi : decide (i < i) = false := decide_eq_false (Nat.lt_irrefl _)
      replace hR := Lib.hid hR
      replace hB := Lib.hid hB
      go_wp2_with fail
      go_ret
      obtain ⟨pa, t, hR⟩ := hR.out
      exact ⟨k, pa, t, rfl, hB.out, hR⟩
end Go.Proofs.Ytnndhbppgmnefaa
/- The fates of a device, in memory of their own. -/
namespace Go.Proofs.Ytnndhbppgmnefaa
open Go.RowKit
set_option linter.unusedVariables false
set_option linter.unusedSimpArgs false
theorem own_s3 {w0 w : World} {v : Value} {ts : List (Int × Int × Int)} (h : Ft.OwnT w0 w v ts) : ∃ A c, v = .slice A ts.length c ∧ ts.length ≤ c ∧ Ft.S3 w w.heap.size A ts ∧ ∀ a, A = some a → w0.heap.size ≤ a.block := by
  have h1 := h
  obtain ⟨A, c, rfl, hc, hS⟩ := h.s3
  obtain ⟨hl, h2⟩ := h1
  refine ⟨A, c, rfl, hc, hS, fun a ha => ?_⟩
  rcases h2 with ⟨e, h0⟩ | ⟨g, cap, cur, e, hg, _⟩
  · injection e with e1
    rw [ha] at e1
    cases e1
  · injection e with e1
    rw [ha] at e1
    injection e1 with e1
    rw [e1]
    exact hg
set_option maxHeartbeats 2000000 in
theorem fates_new {w : World} {A : Option Addr} {c n : Nat} {ts : List (Int × Int × Int)} (hs : Ft.S3 w w.heap.size A ts) (hn : ts.length = n) (hm : Ft.mayF ts = true) :
    Calls Try.prog 28 #[.slice A n c] w fun e w' => ∃ p, e = .returned (.tuple #[.pointer (some p), .int .i64 0]) ∧ Below w.heap.size w w' ∧ FtIn w' (fun b => w.heap.size ≤ b) p ts := by
  have hl : n ≤ 1000000 := by have := (Ft.mayF_iff.1 hm).1; omega
  have h256 : ¬ 256 < n := by have := (Ft.mayF_iff.1 hm).1; omega
  have hI : ¬ (256 : Int) < (n : Int) := by omega
  have hd : decide (256 < n) = false := decide_eq_false h256
  have hhas := Lib.hid (Ft.contains_any A c n ts w hs hn hl)
  have hA : A = none → n = 0 := fun e => by rw [e] at hs; rw [← hn, hs.none_nil]; rfl
  have hbad := (Ft.mayF_iff.1 hm).2.1
  rw [hbad] at hhas
  replace hbad := Lib.hid hbad
  replace hs := Lib.hid hs
  replace hm := Lib.hid hm
  go_enter Try.func28, Try.ntmps28
  go_wp2_with (go_at_call 38; (with_reducible refine hhas.out.mono ?_))
  rintro e w1 ⟨rfl, hB⟩
  have hsz := hB.size
  have hcl := Lib.hid (Ft.clone_any (c := c) (hs.out.far hB) hn hl hA)
  replace hB := Lib.hid hB
  clear hhas hs
  go_wp2_with (go_at_call 40; (with_reducible refine hcl.out.mono ?_))
  rintro e w2 ⟨v, rfl, hB2, hO⟩
  have hso := Lib.hid (Ft.sort_any hO (by omega) hB2.size)
  have hB2 := Lib.hid (hB.out.trans (hB2.mono hB.out.size))
  clear hcl hO hB
  go_wp2_with (go_at_call 41; (with_reducible refine hso.out.mono ?_))
  rintro e w3 ⟨rfl, ss, hp, hr, hO, hB3⟩
  obtain ⟨A', c', rfl, hc', hS, hown⟩ := own_s3 hO
  have hmay := Ft.mayF_sorted hp hr (by omega) hbad.out
  have htw := Lib.hid (Ft.twice_any A' c' ss.length ss w3 hS rfl (by rw [hp.length_eq]; omega))
  have hB3 := Lib.hid (hB2.out.trans (hB3.mono hsz))
  replace hS := Lib.hid hS
  replace hr := Lib.hid hr
  replace hp := Lib.hid hp
  replace hown := Lib.hid hown
  clear hB2 hso hO
  obtain ⟨k, hk⟩ : ∃ k, Hid (ss.length = k) := ⟨_, Lib.hid rfl⟩
  rw [hk.out] at hc' htw ⊢
  cases htws : Ft.twT ss
  · rw [htws] at htw
    clear hmay
    go_wp2_with (go_at_call 43; (with_reducible refine htw.out.mono ?_); rintro e w4 ⟨rfl, hb4⟩; have hb5 := Lib.hid (hb4.mono (Nat.le_trans hB3.out.size (Nat.le_refl _))); have hb4 := Lib.hid hb4)
    go_ret2
    have hA := Ft.below_alloc w4 (.cells #[.slice A' k c'] 94)
    have h45 := hB3.out.trans hb5.out
    refine ⟨_, rfl, h45.trans (hA.mono h45.size), ?_⟩
    refine ⟨_, A', c', ss, rfl, by rw [World.size_alloc]; exact Nat.lt_succ_self _, h45.size, ?_, (hS.out.far hb4.out).far hA, fun a ha _ => Nat.le_trans hsz (hown.out a ha), by rw [hk.out]; exact hc', hp.out, hr.out⟩
    rw [Ft.cell_new, hk.out]
    rfl
  · rw [hm.out, htws] at hmay
    cases hmay
end Go.Proofs.Ytnndhbppgmnefaa
