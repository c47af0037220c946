/- Nine wrong, by hand (plain mathematics). -/
import Derived.Test.YtciafkobnlfpbaaEa
namespace Go.Proofs.Ytciafkobnlfpbaa
open Go.Gf

structure Eu where
  a : List Nat
  b : List Nat
  u : List Nat
  v : List Nat
/-- Euclid's divisions, n of them at most -/
def euc : Nat → Eu → Eu
  | 0, s => s
  | n + 1, s => if 8 < s.b.length then euc n ⟨s.b, prem s.a s.b, s.v, padd s.u (pmul (pquo s.a s.b) s.v)⟩ else s
def wd9 : List Nat := rm 40 fun j => if j = 39 then 1 else if j % 5 = 0 then j / 5 + 1 else 0
theorem euc_ei {S : Nat → Nat} (hS : ∀ i, S i < 1024) : ∀ (n : Nat) (s : Eu), EI S s.a s.b s.u s.v → 9 ≤ s.a.length → s.b.length ≤ n + 8 → EI S (euc n s).a (euc n s).b (euc n s).u (euc n s).v ∧ 9 ≤ (euc n s).a.length ∧ (euc n s).b.length ≤ 8 := by
  intro n
  induction n with
  | zero => intro s h h9 h8; exact ⟨h, h9, by show s.b.length ≤ 8; omega⟩
  | succ n ih =>
    intro s h h9 h8
    unfold euc
    split
    · rename_i hb
      obtain ⟨h1, h2⟩ := ei_step h hS (by omega)
      exact ih ⟨s.b, prem s.a s.b, s.v, padd s.u (pmul (pquo s.a s.b) s.v)⟩ h1 (by show 9 ≤ s.b.length; omega) (by show (prem s.a s.b).length ≤ n + 8; omega)
    · exact ⟨h, h9, by omega⟩
/-- where Euclid's divisions end -/
def eucW (w : List Nat) : Eu := euc 17 ⟨x16, tr (sums w), [], [1]⟩
/-- NO WORD OF THE CODE IS NEAR, where the locator has not as many roots as it ought to have -/
theorem far_of {w : List Nat} (hn : w.length ≤ 1023) (hw : ∀ y ∈ w, y < 1024) (hbad : ¬ isCw w) (hm : manyR (eucW w).v w.length w.length ≠ (eucW w).v.length - 1) (c : List Nat) : ¬ Near w c := by
  intro hc
  have hl := sums_len w
  obtain ⟨h1, h2, h3⟩ := euc_ei (S := at_ (tr (sums w))) (at_lt' (tr_bd _)) 17 ⟨x16, tr (sums w), [], [1]⟩ (ei_start (tr_tr _) hl) (by show 9 ≤ x16.length; decide) (by show (tr (sums w)).length ≤ 25; omega)
  exact hm (dec_near hn hw h1 h3 h2 hc hbad).2.2.2
theorem bad_of {w : List Nat} (h : at_ (sums w) 0 ≠ 0) : ¬ isCw w := fun hc => h (cw_sums.1 hc 0 (by decide))
theorem w9_far (c : List Nat) : ¬ Near wd9 c :=
  far_of (by decide +kernel) (by decide +kernel) (bad_of (by decide +kernel)) (by decide +kernel) c
/-- the word of eight wrong: noughts are near -/
def wd8 : List Nat := rm 40 fun j => if j % 5 = 0 then j / 5 + 1 else 0
theorem zeros_cw (n : Nat) : isCw (List.replicate n 0) := by
  intro i _ _
  have := hv_front (k := n) (a := []) (E i) (E_lt i)
  unfold front at this
  rw [List.append_nil] at this
  rw [this]; rfl
theorem w8_near : Near wd8 (List.replicate 40 0) := ⟨by decide +kernel, by decide +kernel, zeros_cw 40, by decide +kernel⟩
theorem w8_dl : dl (List.replicate 40 0) wd8 = 8 := by decide +kernel
end Go.Proofs.Ytciafkobnlfpbaa
