/- The fates of a device, in memory of their own. -/
import Derived.Test.YtnndhbppgmnefaaDm
import Derived.Test.YtnndhbppgmnefaaZc
namespace Go.Proofs.Ytnndhbppgmnefaa
open Go.RowKit
set_option linter.unusedVariables false
set_option linter.unusedSimpArgs false
theorem own_s3 {w0 w : World} {v : Value} {ts : List (Int × Int × Int)} (h : Ft.OwnT w0 w v ts) : ∃ A c, v = .slice A ts.length c ∧ ts.length ≤ c ∧ Ft.S3 w w.heap.size A ts ∧ ∀ a, A = some a → w0.heap.size ≤ a.block := by
  have h1 := h
  obtain ⟨A, c, rfl, hc, hS⟩ := h.s3
  obtain ⟨hl, h2⟩ := h1
  refine ⟨A, c, rfl, hc, hS, fun a ha => ?_⟩
  rcases h2 with ⟨e, h0⟩ | ⟨g, cap, cur, e, hg, _⟩
  · injection e with e1
    rw [ha] at e1
    cases e1
  · injection e with e1
    rw [ha] at e1
    injection e1 with e1
    rw [e1]
    exact hg
set_option maxHeartbeats 2000000 in
theorem fates_new {w : World} {A : Option Addr} {c n : Nat} {ts : List (Int × Int × Int)} (hs : Ft.S3 w w.heap.size A ts) (hn : ts.length = n) (hm : Ft.mayF ts = true) :
    Calls Try.prog 28 #[.slice A n c] w fun e w' => ∃ p, e = .returned (.tuple #[.pointer (some p), .int .i64 0]) ∧ Below w.heap.size w w' ∧ FtIn w' (fun b => w.heap.size ≤ b) p ts := by
  have hl : n ≤ 1000000 := by have := (Ft.mayF_iff.1 hm).1; omega
  have h256 : ¬ 256 < n := by have := (Ft.mayF_iff.1 hm).1; omega
  have hI : ¬ (256 : Int) < (n : Int) := by omega
  have hd : decide (256 < n) = false := decide_eq_false h256
  have hhas := Lib.hid (Ft.contains_any A c n ts w hs hn hl)
  have hA : A = none → n = 0 := fun e => by rw [e] at hs; rw [← hn, hs.none_nil]; rfl
  have hbad := (Ft.mayF_iff.1 hm).2.1
  rw [hbad] at hhas
  replace hbad := Lib.hid hbad
  replace hs := Lib.hid hs
  replace hm := Lib.hid hm
  go_enter Try.func28, Try.ntmps28
  go_wp2_with (go_at_call 38; (with_reducible refine hhas.out.mono ?_))
  rintro e w1 ⟨rfl, hB⟩
  have hsz := hB.size
  have hcl := Lib.hid (Ft.clone_any (c := c) (hs.out.far hB) hn hl hA)
  replace hB := Lib.hid hB
  clear hhas hs
  go_wp2_with (go_at_call 40; (with_reducible refine hcl.out.mono ?_))
  rintro e w2 ⟨v, rfl, hB2, hO⟩
  have hso := Lib.hid (Ft.sort_any hO (by omega) hB2.size)
  have hB2 := Lib.hid (hB.out.trans (hB2.mono hB.out.size))
  clear hcl hO hB
  go_wp2_with (go_at_call 41; (with_reducible refine hso.out.mono ?_))
  rintro e w3 ⟨rfl, ss, hp, hr, hO, hB3⟩
  obtain ⟨A', c', rfl, hc', hS, hown⟩ := own_s3 hO
  have hmay := Ft.mayF_sorted hp hr (by omega) hbad.out
  have htw := Lib.hid (Ft.twice_any A' c' ss.length ss w3 hS rfl (by rw [hp.length_eq]; omega))
  have hB3 := Lib.hid (hB2.out.trans (hB3.mono hsz))
  replace hS := Lib.hid hS
  replace hr := Lib.hid hr
  replace hp := Lib.hid hp
  replace hown := Lib.hid hown
  clear hB2 hso hO
  obtain ⟨k, hk⟩ : ∃ k, Hid (ss.length = k) := ⟨_, Lib.hid rfl⟩
  rw [hk.out] at hc' htw ⊢
  cases htws : Ft.twT ss
  · rw [htws] at htw
    clear hmay
    go_wp2_with (go_at_call 43; (with_reducible refine htw.out.mono ?_); rintro e w4 ⟨rfl, hb4⟩; have hb5 := Lib.hid (hb4.mono (Nat.le_trans hB3.out.size (Nat.le_refl _))); have hb4 := Lib.hid hb4)
    go_ret2
    have hA := Ft.below_alloc w4 (.cells #[.slice A' k c'] 94)
    have h45 := hB3.out.trans hb5.out
    refine ⟨_, rfl, h45.trans (hA.mono h45.size), ?_⟩
    refine ⟨_, A', c', ss, rfl, by rw [World.size_alloc]; exact Nat.lt_succ_self _, h45.size, ?_, (hS.out.far hb4.out).far hA, fun a ha _ => Nat.le_trans hsz (hown.out a ha), by rw [hk.out]; exact hc', hp.out, hr.out⟩
    rw [Ft.cell_new, hk.out]
    rfl
  · rw [hm.out, htws] at hmay
    cases hmay
end Go.Proofs.Ytnndhbppgmnefaa
