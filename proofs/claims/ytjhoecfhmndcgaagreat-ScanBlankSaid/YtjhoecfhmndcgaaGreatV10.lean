/- THE LIBRARY's CompactFunc, over elements of k cells: of each run of alike ones the first is left. -/
import Derived.Test.YtjhoecfhmndcgaaGreatV02
import Derived.Shelf.SlSortCmp.KitK
import Derived.Sort.WalkB2
import Derived.Sort.WalkB12
import Derived.Deep.LoopGhost
import Derived.Lib.Hide
namespace Go.Proofs.YtjhoecfhmndcgaaGreat.So
open Go.Shelf Go.RowKit Go.Lib Go.Sort Go.Proofs
set_option linter.unusedVariables false
set_option linter.unusedSimpArgs false
set_option linter.unusedSectionVars false
variable {P : Program} {α : Type} [Inhabited α]

/-- what is asked of 'eq': as CmpLays -/
def EqLays (P : Program) (g : Nat) (cb : Array Value) (enc : α → List Value) (k : Nat) (ef : α → α → Bool) (blk off size : Nat) (w : World) : Prop :=
  ∀ (m : Nat) (os : Array Obj) (dk : Array α), dk.size = size → ∀ x y : α,
    Calls P g (#[.agg (enc x).toArray, .agg (enc y).toArray] ++ cb) (sortWorldK enc k w blk off m dk os) fun e w' => e = .returned (.bool (ef x y)) ∧ ∃ q os', w' = grow ((sortWorldK enc k w blk off m dk os).drewN q) os'
section
variable {enc : α → List Value} {k : Nat} {w0 W : World} {blk off : Nat} {dk d0 : Array α}
theorem _root_.Go.Proofs.SWK.eqs {g : Nat} {cb : Array Value} {ef : α → α → Bool} {size : Nat} (h : SWK enc k w0 blk off dk W) (hC : EqLays P g cb enc k ef blk off size w0) (hs : dk.size = size) (x y : α) (n : Nat) (os : Array Obj) :
    Calls P g (#[.agg (enc x).toArray, .agg (enc y).toArray] ++ cb) (grow (W.drewN n) os) fun e w' => e = .returned (.bool (ef x y)) ∧ ∃ q os', w' = grow ((grow (W.drewN n) os).drewN q) os' := by
  obtain ⟨m, os0, hw⟩ := h.grown n os
  rw [hw]
  exact hC m os0 dk hs x y
theorem setMany_set (hk : ∀ x, (enc x).length = k) (d : Array α) (i : Nat) (y : α) (hi : i < d.size) : setMany (flatK enc k d) (i * k) (enc y) = flatK enc k (d.setIfInBounds i y) := by
  refine ext_get! (by simp) fun t ht => ?_
  have ht' : t < d.size * k := by simpa using ht
  have k0 : 0 < k := by
    rcases Nat.eq_zero_or_pos k with h | h
    · subst h; simp at ht'
    · exact h
  rw [get_setMany _ _ _ t (by simpa using ht'), get_flatK _ _ _ t ht', get_flatK _ _ _ t (by simpa using ht'), hk]
  by_cases a : t / k = i
  · rw [if_pos ((blk_iff k i t k0).2 a), ← a, ← Nat.mod_eq_sub_div_mul]
    have hlt : t / k < d.size := by rw [a]; exact hi
    rw [a, getElem!_pos (d.setIfInBounds i y) i (by simpa using hi)]
    simp
  · rw [if_neg (fun h => a ((blk_iff k i t k0).1 h))]
    have hlt : t / k < d.size := (Nat.div_lt_iff_lt_mul k0).2 ht'
    rw [getElem!_pos d _ hlt, getElem!_pos (d.setIfInBounds i y) _ (by simpa using hlt), Array.getElem_setIfInBounds]
    rw [if_neg (fun h => a h.symm)]
theorem SWK_put (h : SWK enc k w0 blk off dk W) (hk : ∀ x, (enc x).length = k) (hblk : blk < w0.heap.size) (i : Nat) (hi : i < dk.size) (y : α) : SWK enc k w0 blk off (dk.setIfInBounds i y) (W.setCells blk (off + i * k) (enc y)) := by
  obtain ⟨n, os, rfl⟩ := h
  refine ⟨n, os, ?_⟩
  unfold sortWorldK
  rw [← putRowK_grow enc k (Sort.ahead w0 n) os blk off dk hblk, ← putRowK_grow enc k (Sort.ahead w0 n) os blk off _ hblk]
  unfold putRowK
  rw [setCells_putRow _ _ _ _ _ _ (by rw [hk, size_flatK]; exact rowK_bnd dk k i hi), setMany_set hk dk i y hi]
theorem SWK_st (h : SWK enc k w0 blk off dk W) (R : RowK enc k w0 blk off d0) (hs : dk.size = d0.size) (P : Program) (i : Nat) (hi : i < dk.size) (y : α) :
    Sem.run P (storeCells ⟨blk, off + i * k, none⟩ (enc y) 0) W = .ok () (W.setCells blk (off + i * k) (enc y)) :=
  stores_of_holds P (h.holds R.hblk R.hH hs) (i * k) _ (by rw [R.hk, size_flatK]; exact rowK_bnd dk k i hi) (R.h1 _)
end
/-- the first of each run -/
def fstG (ef : α → α → Bool) (F : Nat → α) : Nat → List α
  | 0 => []
  | n + 1 => if n = 0 ∨ ef (F n) (F (n - 1)) = false then fstG ef F n ++ [F n] else fstG ef F n
section
variable {ef : α → α → Bool} {F : Nat → α}
theorem fstG_app {n : Nat} (h : n = 0 ∨ ef (F n) (F (n - 1)) = false) : fstG ef F (n + 1) = fstG ef F n ++ [F n] := by
  conv => lhs; unfold fstG
  rw [if_pos h]
theorem fstG_same {n : Nat} (h0 : n ≠ 0) (h : ef (F n) (F (n - 1)) = true) : fstG ef F (n + 1) = fstG ef F n := by
  conv => lhs; unfold fstG
  rw [if_neg (fun e => e.elim h0 (fun e => by rw [e] at h; cases h))]
theorem fstG_all : ∀ {n : Nat}, (∀ t, t < n → 0 < t → ef (F t) (F (t - 1)) = false) → (fstG ef F n).length = n ∧ ∀ t, t < n → (fstG ef F n)[t]? = some (F t)
  | 0, _ => ⟨rfl, fun t h => absurd h (by omega)⟩
  | n + 1, h => by
    obtain ⟨h1, h2⟩ := fstG_all (n := n) fun t ht h0 => h t (by omega) h0
    have hc : n = 0 ∨ ef (F n) (F (n - 1)) = false := by
      rcases Nat.eq_zero_or_pos n with e | e
      · exact Or.inl e
      · exact Or.inr (h n (by omega) e)
    rw [fstG_app hc]
    refine ⟨by rw [List.length_append, h1]; rfl, fun t ht => ?_⟩
    rcases Nat.lt_or_ge t n with c | c
    · rw [List.getElem?_append_left (by omega)]; exact h2 t c
    · rw [show t = n by omega, List.getElem?_append_right (by omega), h1, Nat.sub_self]; rfl
/-- half way: the first kk are those of the first m, the others from m - 1 on as they were -/
structure HalfC (ef : α → α → Bool) (F G : Nat → α) (m kk : Nat) : Prop where
  len : (fstG ef F m).length = kk
  got : ∀ t, t < kk → (fstG ef F m)[t]? = some (G t)
  rest : ∀ t, m ≤ t + 1 → G t = F t
theorem HalfC.skip {G : Nat → α} {m kk : Nat} (h : HalfC ef F G m kk) (h0 : m ≠ 0) (he : ef (F m) (F (m - 1)) = true) : HalfC ef F G (m + 1) kk := by
  have e := fstG_same h0 he
  exact ⟨by rw [e]; exact h.len, fun t ht => by rw [e]; exact h.got t ht, fun t ht => h.rest t (by omega)⟩
theorem HalfC.put {G : Nat → α} {m kk : Nat} (h : HalfC ef F G m kk) (he : ef (F m) (F (m - 1)) = false) (hk : kk + 1 ≤ m) : HalfC ef F (fun t => if t = kk then F m else G t) (m + 1) (kk + 1) := by
  have e := fstG_app (F := F) (n := m) (Or.inr he)
  refine ⟨by rw [e, List.length_append, h.len]; rfl, fun t ht => ?_, fun t ht => ?_⟩
  · rw [e]
    rcases Nat.lt_or_ge t kk with c | c
    · rw [List.getElem?_append_left (by rw [h.len]; exact c), if_neg (by omega)]; exact h.got t c
    · rw [show t = kk by omega, List.getElem?_append_right (by rw [h.len]; exact Nat.le_refl _), h.len, Nat.sub_self, if_pos rfl]; rfl
  · rw [if_neg (by omega)]; exact h.rest t (by omega)
end
theorem vw_set (d : Array α) {i : Nat} (hi : i < d.size) (y : α) (t : Nat) : vw (d.setIfInBounds i y) t = if t = i then y else vw d t := by
  unfold vw
  by_cases h : t = i
  · subst h
    rw [if_pos rfl, getElem!_pos (d.setIfInBounds t y) t (by simpa using hi)]
    simp
  · rw [if_neg h]
    rcases Nat.lt_or_ge t d.size with c | c
    · rw [getElem!_pos d t c, getElem!_pos (d.setIfInBounds i y) t (by simpa using c), Array.getElem_setIfInBounds, if_neg (fun e => h e.symm)]
    · rw [getElem!_neg d t (by omega), getElem!_neg (d.setIfInBounds i y) t (by simp; omega)]
structure PB (P : Program) : Prop where
  L : PG P
  t70 : P.underlying 70 = some (TypeDesc.func #[29, 29] #[4] false)
  a70 : ∀ w, (isAgg 70).run P w = .ok false w
  z70 : ∀ w, (Go.sizeOf 70).run P w = .ok 1 w
  v70 : ∀ w, (zeroValue 70).run P w = .ok (Value.nilFunc) w
  fco : P.funcs[26]? = some Tryz.f26
theorem pb : PB Tryz.prog := {
  L := pg
  t70 := Tryz.underlying70
  a70 := Tryz.isAgg70
  z70 := Tryz.sizeOf70
  v70 := Tryz.zeroValue70
  fco := Tryz.func26 }
set_option maxHeartbeats 8000000 in
set_option maxRecDepth 1000000 in
theorem comp_any (LB : PB P) (k : Nat) (aE : ∀ w, (isAgg 29).run P w = .ok true w) (zE : ∀ w, (Go.sizeOf 29).run P w = .ok k w) (zv : Value) (vE : ∀ w, (zeroValue 29).run P w = .ok zv w) (hzv : zv.cells.size = k) (hz1 : ∀ v ∈ zv.cells.toList, v.oneCell' = true) (enc : α → List Value) (ef : α → α → Bool) (g : Nat) (cb : Array Value) (blk off cap : Nat) (d : Array α) (w0 : World)
    (eg : ∀ args w, (callFunc g args).run P w = .ok (.enter g args) w) (hcmp : EqLays P g cb enc k ef blk off d.size w0) (R : RowK enc k w0 blk off d) (hcap : d.size ≤ cap) (hsz : d.size < 100000000) :
    Calls P 26 #[.slice (some ⟨blk, off, none⟩) d.size cap, .func (.func g) #[] cb] w0 fun e w' =>
      ∃ K : Nat, e = .returned (.slice (some ⟨blk, off, none⟩) K cap) ∧ ∃ d' : Array α, d'.size = d.size ∧ ∃ W : World, SWK enc k w0 blk off d' W ∧ (fstG ef (vw d) d.size).length = K ∧ K ≤ d.size ∧ (∀ t, t < K → (fstG ef (vw d) d.size)[t]? = some (vw d' t)) ∧
        (w' = W ∨ ∃ vs, w' = W.setCells blk (off + K * k) vs) := by
  have L := LB.L
  have mixed := L.mixed; have t0 := L.t0; have a0 := L.a0; have z0 := L.z0; have v0 := L.v0; have t3 := L.t3; have a3 := L.a3; have z3 := L.z3; have v3 := L.v3; have t4 := L.t4; have a4 := L.a4; have z4 := L.z4; have v4 := L.v4; have t22 := L.t22; have a22 := L.a22; have z22 := L.z22; have v22 := L.v22; have t25 := L.t25; have a25 := L.a25; have z25 := L.z25; have v25 := L.v25; have t39 := L.t39; have a39 := L.a39; have z39 := L.z39; have v39 := L.v39
  have t70 := LB.t70; have a70 := LB.a70; have z70 := LB.z70; have v70 := LB.v70
  have FG := LB.fco
  clear L LB
  have S0 : Aside (SWK enc k w0 blk off d w0) := SWK.start R.hH
  have HC : Aside _ := hcmp
  clear hcmp
  by_cases hn2 : d.size < 2
  · have hn2z : (d.size : Int) < 2 := by omega
    go_enter FG, Tryz.ntmps26
    go_wp2
    go_ret
    obtain ⟨q1, q2⟩ := fstG_all (ef := ef) (F := vw d) (n := d.size) (fun t h1 h2 => by omega)
    exact ⟨d.size, rfl, d, rfl, w0, S0, q1, Nat.le_refl _, q2, Or.inl rfl⟩
  have hn2z : ¬ (d.size : Int) < 2 := by omega
  go_enter FG, Tryz.ntmps26
  go_wp2
  go_loopg [5] d.size (fun kx s5 wr => ∃ i : Nat, s5 = .int .i64 i ∧ 1 ≤ i ∧ i ≤ d.size ∧ d.size - i ≤ kx ∧ Aside (SWK enc k w0 blk off d wr) ∧ Hid (∀ t, t < i → 0 < t → ef (vw d t) (vw d (t - 1)) = false))
  case atStart => exact ⟨1, rfl, Nat.le_refl _, by omega, by omega, S0, fun t h1 h2 => by omega⟩
  case round =>
    clear S0
    obtain ⟨i, rfl, hi1, hin, hkx, S1, HN⟩ := hrel
    by_cases hlt : i < d.size
    · have hltz : (i : Int) < (d.size : Int) := by omega
      obtain ⟨u, rfl⟩ : ∃ u, i = u + 1 := ⟨i - 1, by omega⟩
      have hltz : (u : Int) + 1 < (d.size : Int) := by omega
      have hwu : IntKind.i64.wrap (u : Int) = (u : Int) := by rw [IntKind.wrap_i64]; omega
      cases hE : ef d[u + 1]! d[u]! with
      | false =>
        have HN2 : Hid (∀ t, t < u + 1 + 1 → 0 < t → ef (vw d t) (vw d (t - 1)) = false) := fun t h1 h2 => by
          rcases (by omega : t < u + 1 ∨ t = u + 1) with h | rfl
          · exact HN.out t h h2
          · exact hE
        have eaqa : ((u : Int) + 1).toNat = u + 1 := by omega
        have paqa : (0 : Int) ≤ (u : Int) + 1 := by omega
        have baqa : (u : Int) + 1 < (d.size : Int) := by omega
        have raqa : IntKind.i64.wrap ((u : Int) + 1) = (u : Int) + 1 := by rw [IntKind.wrap_i64]; omega
        have eaqb : ((u : Int)).toNat = u := by omega
        have paqb : (0 : Int) ≤ (u : Int) := by omega
        have baqb : (u : Int) < (d.size : Int) := by omega
        have raqb : IntKind.i64.wrap ((u : Int)) = (u : Int) := by rw [IntKind.wrap_i64]; omega
        obtain ⟨xq, hxq⟩ : ∃ x, x = d[u + 1]! := ⟨_, rfl⟩
        obtain ⟨yq, hyq⟩ : ∃ x, x = d[u]! := ⟨_, rfl⟩
        have lqa := S1.out.ld R (by omega) P (u + 1) (by omega)
        have lqb := S1.out.ld R (by omega) P (u) (by omega)
        rw [← hxq] at lqa
        rw [← hyq] at lqb
        have hcq := S1.out.eqs HC.out (by omega) xq yq
        have hvq : ef xq yq = false := by rw [hxq, hyq]; exact hE
        rw [hvq] at hcq
        clear hxq hyq hvq
        go_wp2_with fail
        go_quiet_grown (first | (go_at_fn g; refine Calls.grown_of (hcq _ _)))
        have S2 : Aside (SWK enc k w0 blk off d (grow (wr.drewN nq) osq)) := S1.out.grown nq osq
        clear lqa lqb hcq S1
        generalize grow (wr.drewN nq) osq = w2 at S2 ⊢
        clear nq osq
        go_wp2_with fail
        go_roundg (d.size - (u + 1 + 1))
        case measure => omega
        case rel => exact ⟨u + 1 + 1, by first | rfl | go_num | (congr 1; omega), by omega, by omega, Nat.le_refl _, S2, HN2⟩
      | true =>
        have HH : Hid (HalfC ef (vw d) (vw d) (u + 1 + 1) (u + 1)) := by
          obtain ⟨q1, q2⟩ := fstG_all (ef := ef) (F := vw d) (n := u + 1) HN.out
          exact HalfC.skip ⟨q1, q2, fun t ht => rfl⟩ (by omega) hE
        obtain ⟨M, hM⟩ : ∃ M, d.size - (u + 1) = M := ⟨_, rfl⟩
        obtain ⟨C, hC⟩ : ∃ C, cap - (u + 1) = C := ⟨_, rfl⟩
        have hMs : u + 1 + M = d.size := by omega
        have hMi : ((M : Nat) : Int) < 1000000000 := by omega
        have eaqa : ((u : Int) + 1).toNat = u + 1 := by omega
        have paqa : (0 : Int) ≤ (u : Int) + 1 := by omega
        have baqa : (u : Int) + 1 < (d.size : Int) := by omega
        have raqa : IntKind.i64.wrap ((u : Int) + 1) = (u : Int) + 1 := by rw [IntKind.wrap_i64]; omega
        have eaqb : ((u : Int)).toNat = u := by omega
        have paqb : (0 : Int) ≤ (u : Int) := by omega
        have baqb : (u : Int) < (d.size : Int) := by omega
        have raqb : IntKind.i64.wrap ((u : Int)) = (u : Int) := by rw [IntKind.wrap_i64]; omega
        obtain ⟨xq, hxq⟩ : ∃ x, x = d[u + 1]! := ⟨_, rfl⟩
        obtain ⟨yq, hyq⟩ : ∃ x, x = d[u]! := ⟨_, rfl⟩
        have lqa := S1.out.ld R (by omega) P (u + 1) (by omega)
        have lqb := S1.out.ld R (by omega) P (u) (by omega)
        rw [← hxq] at lqa
        rw [← hyq] at lqb
        have hcq := S1.out.eqs HC.out (by omega) xq yq
        have hvq : ef xq yq = true := by rw [hxq, hyq]; exact hE
        rw [hvq] at hcq
        clear hxq hyq hvq
        go_wp2_with fail
        go_quiet_grown (first | (go_at_fn g; refine Calls.grown_of (hcq _ _)))
        have S2 : Aside (SWK enc k w0 blk off d (grow (wr.drewN nq) osq)) := S1.out.grown nq osq
        clear lqa lqb hcq S1
        generalize grow (wr.drewN nq) osq = w2 at S2 ⊢
        clear nq osq
        go_wp2_with fail
        replace hMs := Lib.hid hMs
        clear hM hC
        go_loopg [5, 7] M (fun kx s5 s7 wr => ∃ (kk j : Nat) (dk : Array α), s5 = .int .i64 kk ∧ s7 = .int .i64 j ∧ 1 ≤ j ∧ j ≤ M ∧ kk + 1 ≤ u + 1 + j ∧ M - j ≤ kx ∧ dk.size = d.size ∧ Aside (SWK enc k w0 blk off dk wr) ∧ Hid (HalfC ef (vw d) (vw dk) (u + 1 + j) kk))
        case atStart => exact ⟨u + 1, 1, d, by first | rfl | go_num | (congr 1; omega), rfl, Nat.le_refl _, by have := hMs.out; omega, Nat.le_refl _, by omega, rfl, S2, HH⟩
        case round =>
          clear S2 HH
          obtain ⟨kk, j, dk, rfl, rfl, hj1, hjM, hkj, hkx2, hds, S1, HH⟩ := hrel
          have hsz2 := hMs.out
          by_cases hjl : j < M
          · obtain ⟨v, rfl⟩ : ∃ v, j = v + 1 := ⟨j - 1, by omega⟩
            have hjz : (v : Int) + 1 < (M : Int) := by omega
            have hwv : IntKind.i64.wrap (v : Int) = (v : Int) := by rw [IntKind.wrap_i64]; omega
            have r1 : dk[u + 1 + (v + 1)]! = d[u + 1 + (v + 1)]! := HH.out.rest _ (by omega)
            have r2 : dk[u + 1 + v]! = d[u + 1 + v]! := HH.out.rest _ (by omega)
            have a1 : off + (u + 1 + (v + 1)) * k = off + (u + 1) * k + (v + 1) * k := by rw [Nat.add_mul (u + 1), Nat.add_assoc]
            have a2 : off + (u + 1 + v) * k = off + (u + 1) * k + v * k := by rw [Nat.add_mul (u + 1), Nat.add_assoc]
            replace r1 := Lib.hid r1
            replace r2 := Lib.hid r2
            replace a1 := Lib.hid a1
            replace a2 := Lib.hid a2
            clear hsz2
            have hsz3 : u + 1 + M ≤ d.size := by have := hMs.out; omega
            cases hE2 : ef d[u + 1 + (v + 1)]! d[u + 1 + v]! with
            | true =>
              have HH2 : Hid (HalfC ef (vw d) (vw dk) (u + 1 + (v + 1) + 1) kk) := HH.out.skip (by omega) hE2
              have eapa : ((v : Int) + 1).toNat = v + 1 := by omega
              have papa : (0 : Int) ≤ (v : Int) + 1 := by omega
              have bapa : (v : Int) + 1 < (M : Int) := by omega
              have rapa : IntKind.i64.wrap ((v : Int) + 1) = (v : Int) + 1 := by rw [IntKind.wrap_i64]; omega
              have eapb : ((v : Int)).toNat = v := by omega
              have papb : (0 : Int) ≤ (v : Int) := by omega
              have bapb : (v : Int) < (M : Int) := by omega
              have rapb : IntKind.i64.wrap ((v : Int)) = (v : Int) := by rw [IntKind.wrap_i64]; omega
              obtain ⟨xp, hxp⟩ : ∃ x, x = dk[u + 1 + (v + 1)]! := ⟨_, rfl⟩
              obtain ⟨yp, hyp⟩ : ∃ x, x = dk[u + 1 + v]! := ⟨_, rfl⟩
              have lpa := S1.out.ld R (by omega) P (u + 1 + (v + 1)) (by omega)
              have lpb := S1.out.ld R (by omega) P (u + 1 + v) (by omega)
              rw [← hxp] at lpa
              rw [← hyp] at lpb
              rw [a1.out] at lpa
              rw [a2.out] at lpb
              have hcp := S1.out.eqs HC.out (by omega) xp yp
              have hvp : ef xp yp = true := by rw [hxp, hyp]; exact (by rw [r1.out, r2.out]; exact hE2)
              rw [hvp] at hcp
              clear hxp hyp hvp
              go_wp2_with fail
              go_quiet_grown (first | (go_at_fn g; refine Calls.grown_of (hcp _ _)))
              have S2 : Aside (SWK enc k w0 blk off dk (grow (wr.drewN nq) osq)) := S1.out.grown nq osq
              clear lpa lpb hcp S1
              generalize grow (wr.drewN nq) osq = w2 at S2 ⊢
              clear nq osq
              go_wp2_with fail
              go_roundg (M - (v + 1 + 1))
              case measure => omega
              case rel => exact ⟨kk, v + 1 + 1, dk, rfl, by first | rfl | go_num | (congr 1; omega), by omega, by omega, by omega, Nat.le_refl _, hds, S2, HH2⟩
            | false =>
              have eapa : ((v : Int) + 1).toNat = v + 1 := by omega
              have papa : (0 : Int) ≤ (v : Int) + 1 := by omega
              have bapa : (v : Int) + 1 < (M : Int) := by omega
              have rapa : IntKind.i64.wrap ((v : Int) + 1) = (v : Int) + 1 := by rw [IntKind.wrap_i64]; omega
              have eapb : ((v : Int)).toNat = v := by omega
              have papb : (0 : Int) ≤ (v : Int) := by omega
              have bapb : (v : Int) < (M : Int) := by omega
              have rapb : IntKind.i64.wrap ((v : Int)) = (v : Int) := by rw [IntKind.wrap_i64]; omega
              obtain ⟨xp, hxp⟩ : ∃ x, x = dk[u + 1 + (v + 1)]! := ⟨_, rfl⟩
              obtain ⟨yp, hyp⟩ : ∃ x, x = dk[u + 1 + v]! := ⟨_, rfl⟩
              have lpa := S1.out.ld R (by omega) P (u + 1 + (v + 1)) (by omega)
              have lpb := S1.out.ld R (by omega) P (u + 1 + v) (by omega)
              rw [← hxp] at lpa
              rw [← hyp] at lpb
              rw [a1.out] at lpa
              rw [a2.out] at lpb
              have hcp := S1.out.eqs HC.out (by omega) xp yp
              have hvp : ef xp yp = false := by rw [hxp, hyp]; exact (by rw [r1.out, r2.out]; exact hE2)
              rw [hvp] at hcp
              clear hxp hyp hvp
              go_wp2_with fail
              go_quiet_grown (first | (go_at_fn g; refine Calls.grown_of (hcp _ _)))
              have S2 : Aside (SWK enc k w0 blk off dk (grow (wr.drewN nq) osq)) := S1.out.grown nq osq
              clear lpa lpb hcp S1
              generalize grow (wr.drewN nq) osq = w2 at S2 ⊢
              clear nq osq
              have l2 := S2.out.load R (by omega) P (u + 1 + (v + 1)) (by omega)
              have st := SWK_st S2.out R (by omega) P kk (by omega) dk[u + 1 + (v + 1)]!
              have S3 : Aside (SWK enc k w0 blk off (dk.setIfInBounds kk dk[u + 1 + (v + 1)]!) (w2.setCells blk (off + kk * k) (enc dk[u + 1 + (v + 1)]!))) := SWK_put S2.out R.hk R.hblk kk (by omega) _
              have nl : (enc dk[u + 1 + (v + 1)]!).length = k := R.hk _
              rw [a1.out] at l2
              generalize enc dk[u + 1 + (v + 1)]! = c2 at S3 l2 st nl
              have i1 : ((kk : Nat) : Int).toNat = kk := by omega
              have i2 : (0 : Int) ≤ (kk : Int) := by omega
              have i3 : (kk : Int) < (d.size : Int) := by omega
              have i4 : IntKind.i64.wrap ((kk : Int) + 1) = (kk : Int) + 1 := by rw [IntKind.wrap_i64]; omega
              clear S2
              go_wp2_with fail
              clear l2 st
              generalize w2.setCells blk (off + kk * k) c2 = w3 at S3 ⊢
              go_roundg (M - (v + 1 + 1))
              case measure => omega
              case rel =>
                refine ⟨kk + 1, v + 1 + 1, _, by first | rfl | go_num | (congr 1; omega), by first | rfl | go_num | (congr 1; omega), by omega, by omega, by omega, Nat.le_refl _, by simpa using hds, S3, ?_⟩
                show HalfC _ _ _ _ _
                have hp : HalfC ef (vw d) _ (u + 1 + (v + 1 + 1)) (kk + 1) := HH.out.put hE2 (by omega)
                refine ⟨hp.len, fun t ht => ?_, fun t ht => ?_⟩
                · rw [hp.got t ht, vw_set _ (by omega)]
                  show some (if t = kk then vw d (u + 1 + (v + 1)) else vw dk t) = some (if t = kk then dk[u + 1 + (v + 1)]! else vw dk t)
                  rw [r1.out]; rfl
                · rw [vw_set _ (by omega)]
                  have := hp.rest t ht
                  show (if t = kk then dk[u + 1 + (v + 1)]! else vw dk t) = _
                  rw [r1.out]; exact this
          · obtain rfl : j = M := by omega
            have hjz : ¬ ((j : Nat) : Int) < (j : Int) := by omega
            obtain ⟨N, hN⟩ : ∃ N, d.size - kk = N + 1 := ⟨d.size - kk - 1, by omega⟩
            have hNd : kk + (N + 1) = d.size := by omega
            have hNz : (kk : Int) ≤ (d.size : Int) := by omega
            have i1 : ((kk : Nat) : Int).toNat = kk := by omega
            have hb : kk * k + (N + 1) * k = d.size * k := by rw [← Nat.add_mul, hNd]
            have hcl : ∀ (ty : TypeId) (c : Nat), (Builtin.clear_ #[24] ty #[.slice (some ⟨blk, off + kk * k, none⟩) (N + 1) c]).run P wr = .ok (.tuple #[]) (wr.setCells blk (off + kk * k) (Builtin.zeroCells zv.cells (N + 1)).toList) := fun ty c => by
              have hst := stores_of_holds P (S1.out.holds R.hblk R.hH hds) (kk * k) (Builtin.zeroCells zv.cells (N + 1)).toList (by rw [Array.length_toList, size_zeroCells, hzv, size_flatK, hds]; omega) (fun v hv => by
                unfold Builtin.zeroCells at hv
                rw [Array.toList_map, List.mem_map] at hv
                obtain ⟨i, hi, rfl⟩ := hv
                have hk0 : 0 < k := by
                  rcases Nat.eq_zero_or_pos k with e | e
                  · rw [hzv, e] at hi; simp at hi
                  · exact e
                refine hz1 _ ?_
                rw [getElem!_pos zv.cells _ (by rw [hzv]; exact Nat.mod_lt _ hk0)]
                exact Array.getElem_mem_toList _)
              unfold Builtin.clear_
              simp [run_underlying t22, vE, hst, Result.andThen]
            obtain ⟨W5, hW5⟩ : ∃ W5, wr.setCells blk (off + kk * k) (Builtin.zeroCells zv.cells (N + 1)).toList = W5 := ⟨_, rfl⟩
            rw [hW5] at hcl
            have HW5 : Hid (∃ vs, W5 = wr.setCells blk (off + kk * k) vs) := ⟨_, hW5.symm⟩
            clear hW5
            have S4 : Aside (SWK enc k w0 blk off dk wr) := S1
            clear S1 vE hsz2 hjz
            clear hn2z
            replace hNd := Lib.hid hNd
            replace hb := Lib.hid hb
            go_wp2_with fail
            go_ret
            exact ⟨kk, rfl, dk, hds, wr, S4.out, by rw [← hMs.out]; exact HH.out.len, by omega, fun t ht => by rw [← hMs.out]; exact HH.out.got t ht, Or.inr HW5.out⟩
    · have hltz : ¬ (i : Int) < (d.size : Int) := by omega
      obtain rfl : i = d.size := by omega
      go_wp2
      go_ret
      obtain ⟨q1, q2⟩ := fstG_all (ef := ef) (F := vw d) (n := d.size) HN.out
      exact ⟨d.size, rfl, d, rfl, wr, S1.out, q1, Nat.le_refl _, q2, Or.inl rfl⟩
end Go.Proofs.YtjhoecfhmndcgaaGreat.So
