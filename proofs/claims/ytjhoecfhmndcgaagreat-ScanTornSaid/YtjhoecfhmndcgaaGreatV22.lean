/- Where the divisions of Euclid end: the locator's roots and what is wrong there (plain mathematics). · Words of the code, what is wrong in a word, and that one word of the code at most is near (plain mathematics). · What the decoder puts right (plain mathematics). · Encoding by taking away multiples of the generator (plain mathematics). · Words of the code: how far they lie apart, sums, multiples, noughts ahead, and turning one symbol (plain mathematics). · The reference's generator, sums of words, and whether a row is noughts. · Bytes as strings. · The program's stream of bits: put and take. -/
import Derived.Test.YtjhoecfhmndcgaaGreatV21
import Derived.Test.YtjhoecfhmndcgaaGreatV16
import Derived.Laws.IdiomStrings
namespace Go.Proofs.YtjhoecfhmndcgaaGreat
open Go.Gf

theorem gpow_ne {r : Nat} (hr : r < 1024) (h0 : r ≠ 0) (n : Nat) : gpow r n ≠ 0 := by
  rcases cases_E hr with h | ⟨i, _, rfl⟩
  · exact absurd h h0
  · rw [gpow_E]; exact E_ne _
theorem ev_x16 {r : Nat} (hr : r < 1024) : ev r x16 = gpow r 16 := by
  rw [ev_X r hr, show x16.length = 17 from rfl, X_one (k := 16) (by decide) (fun i _ hne => by rw [at_x16, if_neg hne]; exact gm_zero_left _)]
  rw [at_x16, if_pos rfl]
  exact gm_one_left (gpow_lt _)
section
variable {S : Nat → Nat} {a b u v : List Nat} {ps : Errs}
/-- WHERE THE DIVISIONS END -/
theorem ei_end (h : EI S a b u v) (h8 : b.length ≤ 8) (h9 : 9 ≤ a.length) (hg : Gd ps) (hp : ps.length ≤ 8) (hs : ∀ i, i < 16 → Sm ps i = S i) :
    v.length = ps.length + 1 ∧ (∀ r, r < 1024 → (ev r v = 0 ↔ ∃ p ∈ ps, gm p.1 r = 1)) ∧ ∀ p ∈ ps, ∀ r, r < 1024 → gm p.1 r = 1 → ev r (slope v) ≠ 0 ∧ ev r b = gm p.2 (ev r (slope v)) := by
  have hlen := h.len
  have hlv := h.lv
  have hlu := h.lu
  have lL := Lo_len hg
  have lO := Om_len hg
  have hA := at_lt_tr h.ta
  have hB := at_lt_tr h.tb
  have hU := at_lt_tr h.tu
  have hV := at_lt_tr h.tv
  have hL := at_lt_tr (Lo_tr ps)
  have hO := at_lt_tr (Om_tr ps)
  have hSm := Sm_lt hg
  have tL := Lo_tr ps
  have tO := Om_tr ps
  have nV : (tr v).length ≤ 9 := by rw [h.tv]; omega
  have nA : (tr a).length ≤ 17 := by rw [h.ta]; omega
  have nB : (tr b).length ≤ 8 := by rw [h.tb]; omega
  have nU : (tr u).length ≤ 9 := by rw [h.tu]; omega
  have nL : (tr (Lo ps)).length ≤ 9 := by rw [tL]; omega
  have nO : (tr (Om ps)).length ≤ 8 := by rw [tO]; omega
  -- v O = L b
  have hvo : ∀ j, cv (at_ v) (at_ (Om ps)) j = cv (at_ (Lo ps)) (at_ b) j := by
    intro j
    rcases Nat.lt_or_ge j 16 with hj | hj
    · have e1 : cv (at_ v) (at_ (Om ps)) j = cv (at_ v) (cv (at_ (Lo ps)) (Sm ps)) j := cv_congr (fun _ => rfl) (fun i => (key hg i).symm) j
      have e2 : cv (at_ v) (cv (at_ (Lo ps)) (Sm ps)) j = cv (at_ (Lo ps)) (cv (at_ v) (Sm ps)) j := by
        rw [← cv_assoc hV hL hSm, ← cv_assoc hL hV hSm]
        exact cv_congr (fun i => cv_comm hV hL i) (fun _ => rfl) j
      have e3 : cv (at_ (Lo ps)) (cv (at_ v) (Sm ps)) j = cv (at_ (Lo ps)) (at_ b) j := cv_upto (fun _ _ => rfl) fun i hi => by
        rw [← h.sv i (by omega)]
        exact cv_upto (fun _ _ => rfl) fun k hk => hs k (by omega)
      rw [e1, e2, e3]
    · rw [cv_far (by rw [h.tv] at nV; rw [tO] at nO; omega), cv_far (by rw [tL] at nL; rw [h.tb] at nB; omega)]
  have hvoL : pmul v (Om ps) = pmul (Lo ps) b := row_ext (tr_pmul _ _) (tr_pmul _ _) fun j => by
    rw [at_pmul (by omega), at_pmul (by omega), h.tv, tO, tL, h.tb]; exact hvo j
  -- L x^16 = v (L a + O u)
  have atM : ∀ j, at_ (padd (pmul (Lo ps) a) (pmul (Om ps) u)) j = cv (at_ (Lo ps)) (at_ a) j ^^^ cv (at_ (Om ps)) (at_ u) j := by
    intro j
    rw [at_padd, at_pmul (by omega), at_pmul (by omega), tL, h.ta, tO, h.tu, Nat.mod_eq_of_lt (cv_lt _ hL j), Nat.mod_eq_of_lt (cv_lt _ hO j)]
  have lM1 := pmul_len_le (Lo ps) a
  have lM2 := pmul_len_le (Om ps) u
  have lM := padd_len (pmul (Lo ps) a) (pmul (Om ps) u)
  rw [tr_padd, tr_pmul, tr_pmul] at lM
  have hvM : pmul v (padd (pmul (Lo ps) a) (pmul (Om ps) u)) = pmul (Lo ps) x16 := row_ext (tr_pmul _ _) (tr_pmul _ _) fun j => by
    rw [at_pmul (by rw [tr_padd]; omega), at_pmul (by rw [x16_tr]; simp [x16]; omega), h.tv, tr_padd, tL, x16_tr]
    have e0 : cv (at_ v) (at_ (padd (pmul (Lo ps) a) (pmul (Om ps) u))) j = cv (at_ v) (cv (at_ (Lo ps)) (at_ a)) j ^^^ cv (at_ v) (cv (at_ (Om ps)) (at_ u)) j := by
      rw [← cv_xor_right]
      exact cv_congr (fun _ => rfl) atM j
    have e1 : cv (at_ v) (cv (at_ (Lo ps)) (at_ a)) j = cv (at_ (Lo ps)) (cv (at_ a) (at_ v)) j := by
      rw [cv_comm hV (cv_lt _ hL), cv_assoc hL hA hV]
    have e2 : cv (at_ v) (cv (at_ (Om ps)) (at_ u)) j = cv (at_ (Lo ps)) (cv (at_ b) (at_ u)) j := by
      rw [← cv_assoc hV hO hU, ← cv_assoc hL hB hU]
      exact cv_congr hvo (fun _ => rfl) j
    rw [e0, e1, e2, ← cv_xor_right]
    exact cv_congr (fun _ => rfl) (fun i => by rw [h.one i, at_x16]) j
  have lowM : ∀ j, j < 16 → at_ (padd (pmul (Lo ps) a) (pmul (Om ps) u)) j = 0 := by
    intro j hj
    rw [atM]
    have e1 : cv (at_ (Lo ps)) (at_ a) j = cv (at_ (Lo ps)) (cv (at_ u) (Sm ps)) j := cv_upto (fun _ _ => rfl) fun i hi => by
      rw [← h.su i (by omega)]
      exact cv_upto (fun _ _ => rfl) fun k hk => (hs k (by omega)).symm
    have e2 : cv (at_ (Om ps)) (at_ u) j = cv (at_ (Lo ps)) (cv (at_ u) (Sm ps)) j := by
      have a1 : cv (at_ (Om ps)) (at_ u) j = cv (cv (at_ (Lo ps)) (Sm ps)) (at_ u) j := cv_congr (fun i => (key hg i).symm) (fun _ => rfl) j
      rw [a1, cv_assoc hL hSm hU]
      exact cv_congr (fun _ => rfl) (fun i => cv_comm hSm hU i) j
    rw [e1, e2, Nat.xor_self]
  have hvne : tr v ≠ [] := by rw [h.tv]; intro e; rw [e] at hlv; simp at hlv
  have hLne : tr (Lo ps) ≠ [] := by rw [tL]; intro e; rw [e] at lL; simp at lL
  have lLx := pmul_len (p := Lo ps) (q := x16) (by rw [x16_tr]; simp [x16]; omega) hLne (by rw [x16_tr]; simp [x16])
  rw [tL, x16_tr, lL, show x16.length = 17 from rfl] at lLx
  have hMne : tr (padd (pmul (Lo ps) a) (pmul (Om ps) u)) ≠ [] := by
    intro e
    rw [pmul_nil_right e] at hvM
    rw [← hvM] at lLx
    simp at lLx
  have lMM := pmul_len (p := v) (q := padd (pmul (Lo ps) a) (pmul (Om ps) u)) (by rw [tr_padd]; omega) hvne hMne
  rw [hvM, lLx, h.tv, tr_padd] at lMM
  rw [tr_padd] at hMne
  have lM17 : 17 ≤ (padd (pmul (Lo ps) a) (pmul (Om ps) u)).length := by
    have e := tr_last (padd (pmul (Lo ps) a) (pmul (Om ps) u)) (by rw [tr_padd]; exact hMne)
    rw [tr_padd] at e
    have hp0 := List.length_pos_iff.2 hMne
    rcases Nat.lt_or_ge ((padd (pmul (Lo ps) a) (pmul (Om ps) u)).length - 1) 16 with h1 | h1
    · exact absurd (lowM _ h1) e
    · omega
  have degv : v.length ≤ ps.length + 1 := by omega
  -- roots of L are roots of v
  have rootv : ∀ p ∈ ps, ∀ r, r < 1024 → gm p.1 r = 1 → ev r v = 0 := by
    intro p hp1 r hr h1
    have e := ev_pmul r hr (p := v) (q := Om ps) (by omega)
    have hL0 := (Lo_root hg hr).2 ⟨p, hp1, h1⟩
    obtain ⟨f1, f2⟩ := forney hg hr hp1 h1
    have hb := hg.bd p hp1
    rw [hvoL, ev_pmul r hr (by omega), hL0, gm_zero_left] at e
    rcases (gm_eq_zero (ev_lt r v) (ev_lt r (Om ps))).1 e.symm with h2 | h2
    · exact h2
    · rw [f2] at h2
      rcases (gm_eq_zero hb.2.2.2 (ev_lt _ _)).1 h2 with h3 | h3
      · exact absurd h3 hb.2.2.1
      · exact absurd h3 f1
  have hginv : ∀ p ∈ ps, gm p.1 (ginv p.1) = 1 := fun p hp1 => gm_ginv (hg.bd p hp1).2.1 (hg.bd p hp1).1
  have hnd : (ps.map fun p => ginv p.1).Nodup := by
    have : (ps.map fun p => ginv p.1) = (ps.map Prod.fst).map ginv := by rw [List.map_map]; rfl
    rw [this]
    refine List.Pairwise.map ginv ?_ (List.Pairwise.and_mem.1 hg.nd)
    rintro x y ⟨hx, hy, hxy⟩ he
    obtain ⟨p, hp1, rfl⟩ := List.mem_map.1 hx
    obtain ⟨q, hq1, rfl⟩ := List.mem_map.1 hy
    refine hxy (one_inv (hg.bd p hp1).2.1 (hg.bd q hq1).2.1 (ginv_lt p.1) (hginv p hp1) ?_)
    rw [he]; exact hginv q hq1
  have topv : at_ v (v.length - 1) % 1024 ≠ 0 := by
    have e := tr_last v hvne
    rw [h.tv] at e
    rw [Nat.mod_eq_of_lt (hV _)]; exact e
  have highv : ∀ j, v.length - 1 < j → at_ v j % 1024 = 0 := fun j hj => by rw [at_far (by omega)]
  have hrs : ∀ r ∈ ps.map (fun p => ginv p.1), r < 1024 ∧ ev r v = 0 := by
    intro r hr
    obtain ⟨p, hp1, rfl⟩ := List.mem_map.1 hr
    exact ⟨ginv_lt _, rootv p hp1 _ (ginv_lt _) (hginv p hp1)⟩
  have cnt := roots_le (v.length - 1) v topv highv _ hnd hrs
  rw [List.length_map] at cnt
  have hlenv : v.length = ps.length + 1 := by omega
  refine ⟨hlenv, fun r hr => ⟨fun h0 => ?_, fun ⟨p, hp1, h1⟩ => rootv p hp1 r hr h1⟩, fun p hp1 r hr h1 => ?_⟩
  · by_cases hm : r ∈ ps.map (fun p => ginv p.1)
    · obtain ⟨p, hp1, rfl⟩ := List.mem_map.1 hm
      exact ⟨p, hp1, hginv p hp1⟩
    · have := roots_le (v.length - 1) v topv highv (r :: ps.map fun p => ginv p.1) (List.nodup_cons.2 ⟨hm, hnd⟩) (fun x hx => by
        rcases List.mem_cons.1 hx with rfl | hx
        · exact ⟨hr, h0⟩
        · exact hrs x hx)
      rw [List.length_cons, List.length_map] at this
      omega
  · obtain ⟨f1, f2⟩ := forney hg hr hp1 h1
    have hb := hg.bd p hp1
    have hv0 := rootv p hp1 r hr h1
    have hL0 := (Lo_root hg hr).2 ⟨p, hp1, h1⟩
    have sv := slope_len v
    have sO := slope_len (Om ps)
    have sL := slope_len (Lo ps)
    have sb := slope_len b
    have e1 : ev r (slope (pmul v (Om ps))) = gm (ev r (slope v)) (ev r (Om ps)) := by
      rw [slope_pmul (by omega), ev_padd r hr, ev_pmul r hr (by omega), ev_pmul r hr (by omega), hv0, gm_zero_left, Nat.xor_zero]
    have e2 : ev r (slope (pmul (Lo ps) b)) = gm (ev r (slope (Lo ps))) (ev r b) := by
      rw [slope_pmul (by omega), ev_padd r hr, ev_pmul r hr (by omega), ev_pmul r hr (by omega), hL0, gm_zero_left, Nat.xor_zero]
    rw [hvoL, e2, f2] at e1
    have hdL := ev_lt r (slope (Lo ps))
    have hdv := ev_lt r (slope v)
    have hbl := ev_lt r b
    -- b is not nought there
    have hb0 : ev r b ≠ 0 := by
      have hx : padd (pmul a v) (pmul b u) = x16 := row_ext (tr_padd _ _) x16_tr fun j => by
        rw [at_padd, at_pmul (by omega), at_pmul (by omega), h.ta, h.tv, h.tb, h.tu, Nat.mod_eq_of_lt (cv_lt _ hA j), Nat.mod_eq_of_lt (cv_lt _ hB j), h.one j, at_x16]
      have e := ev_x16 hr
      rw [← hx, ev_padd r hr, ev_pmul r hr (by omega), ev_pmul r hr (by omega), hv0, gm_zero_right, Nat.zero_xor] at e
      intro h2
      rw [h2, gm_zero_left] at e
      have hr0 : r ≠ 0 := by rintro rfl; rw [gm_zero_right] at h1; cases h1
      exact gpow_ne hr hr0 16 e.symm
    have e3 : ev r b = gm p.2 (ev r (slope v)) := by
      have e4 : gm (ev r (slope (Lo ps))) (ev r b) = gm (ev r (slope (Lo ps))) (gm p.2 (ev r (slope v))) := by
        rw [e1, ← gm_assoc hdv hb.2.2.2 hdL, gm_comm hdv hb.2.2.2]
        exact gm_comm (gm_lt _ hb.2.2.2) hdL
      have e5 : gm (ev r (slope (Lo ps))) (ev r b ^^^ gm p.2 (ev r (slope v))) = 0 := by
        rw [gm_xor_right, e4, Nat.xor_self]
      rcases (gm_eq_zero hdL (xor_lt hbl (gm_lt _ hb.2.2.2))).1 e5 with h2 | h2
      · exact absurd h2 f1
      · exact xor_zero_eq h2
    refine ⟨fun h2 => hb0 ?_, e3⟩
    rw [e3, h2, gm_zero_right]
end
end Go.Proofs.YtjhoecfhmndcgaaGreat
namespace Go.Proofs.YtjhoecfhmndcgaaGreat
open Go.Gf

/-- a word's value: its first symbol is the factor of the highest power -/
def hv (x : Nat) (w : List Nat) : Nat := ev x w.reverse
theorem hv_lt (x : Nat) (w : List Nat) : hv x w < 1024 := ev_lt _ _
theorem at_reverse {w : List Nat} {i : Nat} (h : i < w.length) : at_ w.reverse i = at_ w (w.length - 1 - i) := by
  rw [at_get (by simpa using h), at_get (by omega), List.getElem_reverse]
theorem X_rev' (n : Nat) (f : Nat → Nat) : X n f = X n fun i => f (n - 1 - i) := by
  cases n with
  | zero => rfl
  | succ n => rw [X_rev]; rfl
theorem hv_syn (w : List Nat) (i : Nat) : hv (E i) w = syn w.length (fun j => at_ w j % 1024) i := by
  unfold hv syn
  rw [ev_X (E i) (E_lt i), List.length_reverse, X_rev']
  refine X_congr fun j hj => ?_
  rw [at_reverse (by omega), show w.length - 1 - (w.length - 1 - j) = j by omega]
  congr 1
  unfold loc
  rw [gpow_E, gpow_E, Nat.mul_comm]
/-- is it a word of the code? -/
def isCw (w : List Nat) : Prop := ∀ i, 1 ≤ i → i ≤ 16 → hv (E i) w = 0
/-- the places in which two words part -/
def posTo (w c : List Nat) (m : Nat) : List Nat := (List.range m).filter fun j => decide (at_ w j ≠ at_ c j)
def errs (w c : List Nat) (m : Nat) : Errs := (posTo w c m).map fun j => (loc w.length j, at_ w j ^^^ at_ c j)
theorem posTo_succ (w c : List Nat) (m : Nat) : posTo w c (m + 1) = posTo w c m ++ if at_ w m ≠ at_ c m then [m] else [] := by
  unfold posTo
  rw [List.range_succ, List.filter_append]
  congr 1
  by_cases h : at_ w m ≠ at_ c m
  · rw [if_pos h]; simp [h]
  · rw [if_neg h]; simp at h; simp [h]
theorem Sm_append (xs ys : Errs) (i : Nat) : Sm (xs ++ ys) i = Sm xs i ^^^ Sm ys i := by
  induction xs with
  | nil => show Sm ys i = 0 ^^^ _; rw [Nat.zero_xor]
  | cons p xs ih => show gm _ _ ^^^ Sm (xs ++ ys) i = (gm _ _ ^^^ Sm xs i) ^^^ _; rw [ih, Nat.xor_assoc]
theorem Sm_errs (w c : List Nat) (m i : Nat) : Sm (errs w c m) i = X m fun j => gm (at_ w j ^^^ at_ c j) (gpow (loc w.length j) (i + 1)) := by
  induction m with
  | zero => rfl
  | succ m ih =>
    unfold errs at ih ⊢
    rw [posTo_succ, List.map_append, Sm_append, ih, X_succ]
    congr 1
    by_cases h : at_ w m ≠ at_ c m
    · rw [if_pos h]
      show gm _ _ ^^^ 0 = _
      rw [Nat.xor_zero]
    · rw [if_neg h]
      have h' : at_ w m = at_ c m := by simpa using h
      rw [h', Nat.xor_self, gm_zero_left]; rfl
theorem posTo_len (w c : List Nat) (hl : w.length = c.length) (m : Nat) (hm : m ≤ w.length) : (posTo w c m).length = cnt w c m := by
  induction m with
  | zero => rfl
  | succ m ih =>
    have h1 : m < w.length := by omega
    have h2 : m < c.length := by omega
    rw [posTo_succ, List.length_append, ih (by omega), cnt_step h1 h2, at_get h1, at_get h2]
    by_cases h : w[m] = c[m]
    · rw [if_neg (by simpa using h), if_pos h]; rfl
    · rw [if_pos (by simpa using h), if_neg h]; rfl
theorem dl_pos (w c : List Nat) (hl : w.length = c.length) : dl w c = (posTo w c w.length).length := by
  rw [posTo_len w c hl w.length (Nat.le_refl _)]
  unfold dl
  rw [cnt_end (by omega), hl, Nat.max_self, Nat.min_self, Nat.sub_self, Nat.zero_add]
theorem mem_pos {w c : List Nat} {m j : Nat} : j ∈ posTo w c m ↔ j < m ∧ at_ w j ≠ at_ c j := by
  unfold posTo
  rw [List.mem_filter, List.mem_range]
  simp
theorem dl_comm (w c : List Nat) (hl : w.length = c.length) : dl w c = dl c w := by
  rw [dl_pos w c hl, dl_pos c w hl.symm, hl]
  unfold posTo
  congr 2
  funext j
  rw [decide_eq_decide]
  exact ⟨fun h => h.symm, fun h => h.symm⟩
section
variable {w c : List Nat}
theorem errs_gd (hl : w.length = c.length) (hn : w.length ≤ 1023) (hw : ∀ y ∈ w, y < 1024) (hc : ∀ y ∈ c, y < 1024) (h8 : dl w c ≤ 1000) : Gd (errs w c w.length) := by
  refine ⟨?_, ?_, ?_⟩
  · unfold errs; rw [List.length_map, ← dl_pos w c hl]; exact h8
  · intro p hp
    obtain ⟨j, hj, rfl⟩ := List.mem_map.1 hp
    obtain ⟨h1, h2⟩ := mem_pos.1 hj
    exact ⟨E_ne _, loc_lt _ _, fun h => h2 (xor_zero_eq h), xor_lt (at_lt hw (by decide)) (at_lt hc (by decide))⟩
  · have : (errs w c w.length).map Prod.fst = (posTo w c w.length).map (loc w.length) := by unfold errs; rw [List.map_map]; rfl
    rw [this]
    have hnd : (posTo w c w.length).Nodup := List.Pairwise.filter _ List.nodup_range
    refine List.Pairwise.map _ ?_ (List.Pairwise.and_mem.1 hnd)
    rintro x y ⟨hx, hy, hxy⟩ he
    exact hxy (loc_inj hn (mem_pos.1 hx).1 (mem_pos.1 hy).1 he)
/-- the sums of what is wrong are those of the word -/
theorem errs_sums (hl : w.length = c.length) (hw : ∀ y ∈ w, y < 1024) (hc : ∀ y ∈ c, y < 1024) (hcw : isCw c) (i : Nat) (hi : i < 16) : Sm (errs w c w.length) i = hv (E (i + 1)) w := by
  have h0 := hcw (i + 1) (by omega) (by omega)
  rw [hv_syn] at h0 ⊢
  rw [Sm_errs]
  unfold syn at *
  have : (X w.length fun j => gm (at_ w j ^^^ at_ c j) (gpow (loc w.length j) (i + 1))) = (X w.length fun j => gm (at_ w j % 1024) (gpow (loc w.length j) (i + 1))) ^^^ X w.length fun j => gm (at_ c j % 1024) (gpow (loc c.length j) (i + 1)) := by
    rw [← X_xor]
    refine X_congr fun j _ => ?_
    have a1 : at_ w j < 1024 := at_lt hw (by decide)
    have a2 : at_ c j < 1024 := at_lt hc (by decide)
    rw [← hl, Nat.mod_eq_of_lt a1, Nat.mod_eq_of_lt a2, gm_xor_left _ a1 a2]
  rw [this, hl, h0, Nat.xor_zero]
end
/-- a word of the code within eight places -/
structure Near (w c : List Nat) : Prop where
  len : c.length = w.length
  bd : ∀ y ∈ c, y < 1024
  cw : isCw c
  near : dl c w ≤ 8
theorem list_ext_at {a b : List Nat} (hl : a.length = b.length) (h : ∀ j, j < a.length → at_ a j = at_ b j) : a = b := by
  apply List.ext_getElem hl
  intro j h1 h2
  have := h j h1
  rwa [at_get h1, at_get h2] at this
/-- THERE IS AT MOST ONE -/
theorem near_unique {w c c' : List Nat} (hn : w.length ≤ 1023) (h : Near w c) (h' : Near w c') : c = c' := by
  have hl : c.length = c'.length := h.len.trans h'.len.symm
  refine list_ext_at hl fun j hj => ?_
  have hc : ∀ j, at_ c j < 1024 := fun j => at_lt h.bd (by decide)
  have hc' : ∀ j, at_ c' j < 1024 := fun j => at_lt h'.bd (by decide)
  have h1 := h.near
  have h2 := h'.near
  rw [dl_pos c w h.len] at h1
  rw [dl_pos c' w h'.len] at h2
  have z := rs_zero (n := w.length) (m := 16) (d := fun j => at_ c j ^^^ at_ c' j) hn (by decide) (fun j => xor_lt (hc j) (hc' j)) (fun i h1 h2 => by
    have e1 := h.cw i h1 h2
    have e2 := h'.cw i h1 h2
    rw [hv_syn] at e1 e2
    rw [h.len] at e1
    rw [h'.len] at e2
    unfold syn at *
    have : (X w.length fun j => gm (at_ c j ^^^ at_ c' j) (gpow (loc w.length j) i)) = (X w.length fun j => gm (at_ c j % 1024) (gpow (loc w.length j) i)) ^^^ X w.length fun j => gm (at_ c' j % 1024) (gpow (loc w.length j) i) := by
      rw [← X_xor]
      refine X_congr fun j _ => ?_
      rw [Nat.mod_eq_of_lt (hc j), Nat.mod_eq_of_lt (hc' j), gm_xor_left _ (hc j) (hc' j)]
    rw [this, e1, e2]; rfl) (posTo c w c.length ++ posTo c' w c'.length) (by rw [List.length_append]; omega) (fun j hj hd => by
    rw [List.mem_append, mem_pos, mem_pos]
    by_cases e : at_ c j = at_ w j
    · right
      refine ⟨by rw [h'.len]; exact hj, fun e2 => hd ?_⟩
      show at_ c j ^^^ at_ c' j = 0
      rw [e, e2, Nat.xor_self]
    · exact Or.inl ⟨by rw [h.len]; exact hj, e⟩) j (by rw [← h.len]; exact hj)
  exact xor_zero_eq z
end Go.Proofs.YtjhoecfhmndcgaaGreat
namespace Go.Proofs.YtjhoecfhmndcgaaGreat
open Go.Gf

/-- the sixteen sums of a word -/
def sums (w : List Nat) : List Nat := rm 16 fun i => hv (E (i + 1)) w
/-- where the locator is looked at for place i -/
def ivp (n i : Nat) : Nat := ginv (loc n i)
theorem ivp_lt (n i : Nat) : ivp n i < 1024 := ginv_lt _
/-- place i, put right -/
def fixd (v b d w : List Nat) (n i : Nat) : Nat := at_ w i ^^^ (if ev (ivp n i) v = 0 then gm (ev (ivp n i) b) (ginv (ev (ivp n i) d)) else 0)
/-- how many of the first m places are roots -/
def manyR (v : List Nat) (n : Nat) : Nat → Nat
  | 0 => 0
  | m + 1 => manyR v n m + if ev (ivp n m) v = 0 then 1 else 0
theorem sums_tr (w : List Nat) (i : Nat) (h : i < 16) : at_ (tr (sums w)) i = hv (E (i + 1)) w := by
  unfold sums
  rw [at_tr, at_rm, if_pos h]
  exact Nat.mod_eq_of_lt (hv_lt _ _)
theorem sums_len (w : List Nat) : (tr (sums w)).length ≤ 16 := by
  refine Nat.le_trans (tr_len _) ?_
  unfold sums; rw [rm_len]; exact Nat.le_refl _
theorem gm_ivp {n i j : Nat} (hn : n ≤ 1023) (hi : i < n) (hj : j < n) : gm (loc n j) (ivp n i) = 1 ↔ j = i := by
  constructor
  · intro h
    have h2 : gm (loc n i) (ivp n i) = 1 := gm_ginv (loc_lt n i) (E_ne _)
    exact loc_inj hn hj hi (one_inv (loc_lt n j) (loc_lt n i) (ivp_lt n i) h h2)
  · rintro rfl
    exact gm_ginv (loc_lt n j) (E_ne _)
/-- IF THERE IS A WORD OF THE CODE WITHIN EIGHT PLACES, THE DECODER FINDS IT -/
theorem dec_near {w c a b u v : List Nat} (hn : w.length ≤ 1023) (hw : ∀ y ∈ w, y < 1024) (h : EI (at_ (tr (sums w))) a b u v) (h8 : b.length ≤ 8) (h9 : 9 ≤ a.length) (hc : Near w c) (hbad : ¬ isCw w) :
    (2 ≤ v.length ∧ v.length ≤ 9) ∧ (∀ i, i < w.length → ev (ivp w.length i) v = 0 → ev (ivp w.length i) (slope v) ≠ 0) ∧ (∀ i, i < w.length → fixd v b (slope v) w w.length i = at_ c i) ∧ manyR v w.length w.length = v.length - 1 := by
  have hl : w.length = c.length := hc.len.symm
  have hdl : dl w c ≤ 8 := by rw [dl_comm w c hl]; exact hc.near
  have hg : Gd (errs w c w.length) := errs_gd hl hn hw hc.bd (by omega)
  have hlen : (errs w c w.length).length = dl w c := by unfold errs; rw [List.length_map, dl_pos w c hl]
  obtain ⟨e1, e2, e3⟩ := ei_end h h8 h9 hg (by omega) (fun i hi => by rw [errs_sums hl hw hc.bd hc.cw i hi, sums_tr w i hi])
  have hne : dl w c ≠ 0 := by
    intro h0
    have : w = c := (dl_zero hl).1 h0
    exact hbad (this ▸ hc.cw)
  have root : ∀ i, i < w.length → (ev (ivp w.length i) v = 0 ↔ at_ w i ≠ at_ c i) := by
    intro i hi
    rw [e2 _ (ivp_lt _ _)]
    constructor
    · rintro ⟨p, hp, h1⟩
      obtain ⟨j, hj, rfl⟩ := List.mem_map.1 hp
      obtain ⟨h2, h3⟩ := mem_pos.1 hj
      rw [(gm_ivp hn hi h2).1 h1] at h3
      exact h3
    · intro h1
      exact ⟨_, List.mem_map.2 ⟨i, mem_pos.2 ⟨hi, h1⟩, rfl⟩, (gm_ivp hn hi hi).2 rfl⟩
  have val : ∀ i, i < w.length → at_ w i ≠ at_ c i → ev (ivp w.length i) (slope v) ≠ 0 ∧ ev (ivp w.length i) b = gm (at_ w i ^^^ at_ c i) (ev (ivp w.length i) (slope v)) := fun i hi h1 =>
    e3 _ (List.mem_map.2 ⟨i, mem_pos.2 ⟨hi, h1⟩, rfl⟩) _ (ivp_lt _ _) ((gm_ivp hn hi hi).2 rfl)
  refine ⟨by omega, fun i hi h0 => (val i hi ((root i hi).1 h0)).1, fun i hi => ?_, ?_⟩
  · unfold fixd
    have a1 : at_ w i < 1024 := at_lt hw (by decide)
    have a2 : at_ c i < 1024 := at_lt hc.bd (by decide)
    by_cases h0 : ev (ivp w.length i) v = 0
    · obtain ⟨v1, v2⟩ := val i hi ((root i hi).1 h0)
      rw [if_pos h0, v2, gm_assoc (xor_lt a1 a2) (ev_lt _ _) (ginv_lt _), gm_ginv (ev_lt _ _) v1, gm_one_right, ← Nat.xor_assoc, Nat.xor_self, Nat.zero_xor]
    · have := mt (root i hi).2 h0
      rw [if_neg h0, Nat.xor_zero]
      simpa using this
  · have hm : ∀ m, m ≤ w.length → manyR v w.length m = (posTo w c m).length := by
      intro m
      induction m with
      | zero => intro _; rfl
      | succ m ih =>
        intro hm
        rw [posTo_succ, List.length_append, ← ih (by omega)]
        show manyR v w.length m + _ = _
        congr 1
        by_cases h1 : at_ w m ≠ at_ c m
        · rw [if_pos ((root m (by omega)).2 h1), if_pos h1]; rfl
        · rw [if_neg (mt (root m (by omega)).1 h1), if_neg h1]; rfl
    rw [hm _ (Nat.le_refl _), ← dl_pos w c hl]
    omega
end Go.Proofs.YtjhoecfhmndcgaaGreat
namespace Go.Proofs.YtjhoecfhmndcgaaGreat
open Go.Gf

/-- the product of (x + E i), i from 1 to k -/
def gens : Nat → List Nat
  | 0 => [1]
  | k + 1 => pmul (gens k) [E (k + 1), 1]
theorem gens_len : (gens 16).length = 17 := by decide +kernel
theorem gens_top : at_ (gens 16) 16 = 1 := by decide +kernel
theorem gens_tr : tr (gens 16) = gens 16 := tr_pmul _ _
theorem gens_root16 : ∀ r : Fin 16, ev (E (r.val + 1)) (gens 16) = 0 := by decide +kernel
theorem gens_root {i : Nat} (h1 : 1 ≤ i) (h2 : i ≤ 16) : ev (E i) (gens 16) = 0 := by
  have := gens_root16 ⟨i - 1, by omega⟩
  rwa [show (⟨i - 1, by omega⟩ : Fin 16).val + 1 = i by show i - 1 + 1 = i; omega] at this
theorem gens_lt (j : Nat) : at_ (gens 16) j < 1024 := at_lt_tr gens_tr j
/-- a row's value -/
def vs (x n : Nat) (f : Nat → Nat) : Nat := X n fun j => gm (f j) (gpow x (n - 1 - j))
theorem hv_vs (x : Nat) (hx : x < 1024) (w : List Nat) (hw : ∀ y ∈ w, y < 1024) : hv x w = vs x w.length (at_ w) := by
  unfold hv vs
  rw [ev_X x hx, List.length_reverse, X_rev']
  refine X_congr fun j hj => ?_
  rw [at_reverse (by omega), show w.length - 1 - (w.length - 1 - j) = j by omega, Nat.mod_eq_of_lt (at_lt hw (by decide))]
theorem vs_xor (x n : Nat) (f g : Nat → Nat) (hf : ∀ j, f j < 1024) (hg : ∀ j, g j < 1024) : vs x n (fun j => f j ^^^ g j) = vs x n f ^^^ vs x n g := by
  unfold vs
  rw [← X_xor]
  exact X_congr fun j _ => gm_xor_left _ (hf j) (hg j)
/-- a multiple of the generator, taken away from place i on, leaves a row's value at the roots as it was -/
theorem vs_mrow {x n i c : Nat} {f : Nat → Nat} (hx : x < 1024) (hr : ev x (gens 16) = 0) (hf : ∀ j, f j < 1024) (hc : c < 1024) (hi : i + 17 ≤ n) :
    vs x n (mrow f c (gens 16).reverse i 17) = vs x n f := by
  have hG := gens_lt
  have hrev : ∀ m, m < 17 → at_ (gens 16).reverse m = at_ (gens 16) (16 - m) := fun m hm => by rw [at_reverse (by rw [gens_len]; omega), gens_len]
  have e1 : vs x n (mrow f c (gens 16).reverse i 17) = vs x n f ^^^ X n fun j => gm (if i ≤ j ∧ j < i + 17 then gm c (at_ (gens 16).reverse (j - i)) else 0) (gpow x (n - 1 - j)) := by
    unfold vs
    rw [← X_xor]
    refine X_congr fun j _ => ?_
    rw [mrow_at]
    refine gm_xor_left _ (hf j) ?_
    split
    · exact gm_lt _ hc
    · decide
  have e2 : (X n fun j => gm (if i ≤ j ∧ j < i + 17 then gm c (at_ (gens 16).reverse (j - i)) else 0) (gpow x (n - 1 - j))) = 0 := by
    rw [X_more (n := i + 17) hi (fun j h1 _ => by rw [if_neg (by omega), gm_zero_left])]
    have e3 : (X (i + 17) fun j => gm (if i ≤ j ∧ j < i + 17 then gm c (at_ (gens 16).reverse (j - i)) else 0) (gpow x (n - 1 - j))) = X (i + 17) fun j => if i ≤ j then gm (gm c (at_ (gens 16).reverse (j - i))) (gpow x (n - 1 - j)) else 0 := X_congr fun j hj => by
      by_cases h : i ≤ j
      · rw [if_pos ⟨h, hj⟩, if_pos h]
      · rw [if_neg (fun h2 => h h2.1), if_neg h, gm_zero_left]
    rw [e3, X_from i 17 (fun j => gm (gm c (at_ (gens 16).reverse (j - i))) (gpow x (n - 1 - j)))]
    have e4 : (X 17 fun m => gm (gm c (at_ (gens 16).reverse (m + i - i))) (gpow x (n - 1 - (m + i)))) = X 17 fun m => gm c (gm (gm (at_ (gens 16) (16 - m)) (gpow x (16 - m))) (gpow x (n - 17 - i))) := X_congr fun m hm => by
      rw [show m + i - i = m by omega, hrev m hm, show n - 1 - (m + i) = (16 - m) + (n - 17 - i) by omega, ← gpow_add x _ _ hx, gm_assoc hc (hG _) (gm_lt _ (gpow_lt _)), ← gm_assoc (hG _) (gpow_lt _) (gpow_lt _)]
    rw [e4, ← X_mul_left, ← X_mul_right _ (fun m _ => gm_lt _ (hG _))]
    have e5 : (X 17 fun m => gm (at_ (gens 16) (16 - m)) (gpow x (16 - m))) = 0 := by
      have := X_rev 16 (fun m => gm (at_ (gens 16) m) (gpow x m))
      rw [← this]
      have e6 := ev_X x hx (gens 16)
      rw [gens_len, hr] at e6
      rw [e6]
      exact X_congr fun m _ => by rw [Nat.mod_eq_of_lt (hG m)]
    rw [e5, gm_zero_left, gm_zero_right]
  rw [e1, e2, Nat.xor_zero]
/-- the row after i steps -/
def er (xs : List Nat) : Nat → Nat → Nat
  | 0, j => at_ xs j
  | i + 1, j => mrow (er xs i) (er xs i i) (gens 16).reverse i 17 j
section
variable {xs : List Nat}
theorem er_lt (hx : ∀ x ∈ xs, x < 1024) (i j : Nat) : er xs i j < 1024 := by
  induction i generalizing j with
  | zero => exact at_lt hx (by decide)
  | succ i ih => exact mrow_lt ih (ih i) _ _
theorem er_low (i j : Nat) (h : j < i) : er xs i j = 0 := by
  induction i generalizing j with
  | zero => omega
  | succ i ih =>
    show mrow (er xs i) (er xs i i) (gens 16).reverse i 17 j = 0
    rw [mrow_at]
    rcases Nat.lt_or_ge j i with h1 | h1
    · rw [ih j h1, if_neg (by omega)]; rfl
    · obtain rfl : j = i := by omega
      rw [if_pos ⟨Nat.le_refl _, by omega⟩, Nat.sub_self, at_reverse (by rw [gens_len]; omega), gens_len, gens_top, gm_one_right, Nat.xor_self]
theorem er_vs (hx : ∀ x ∈ xs, x < 1024) {r : Nat} (h1 : 1 ≤ r) (h2 : r ≤ 16) (i : Nat) (hi : i ≤ xs.length) : vs (E r) (xs.length + 16) (er xs i) = vs (E r) (xs.length + 16) (at_ xs) := by
  induction i with
  | zero => rfl
  | succ i ih =>
    rw [← ih (by omega)]
    exact vs_mrow (E_lt r) (gens_root h1 h2) (er_lt hx i) (er_lt hx i i) (by omega)
end
/-- the word of xs -/
def enc (xs : List Nat) : List Nat := xs ++ rm 16 fun t => er xs xs.length (xs.length + t)
theorem enc_len (xs : List Nat) : (enc xs).length = xs.length + 16 := by unfold enc; rw [List.length_append, rm_len]
theorem at_append (a b : List Nat) (j : Nat) : at_ (a ++ b) j = if j < a.length then at_ a j else at_ b (j - a.length) := by
  unfold at_ List.getD
  split
  · rename_i h; rw [List.getElem?_append_left h]
  · rename_i h; rw [List.getElem?_append_right (by omega)]
theorem enc_bd {xs : List Nat} (hx : ∀ x ∈ xs, x < 1024) : ∀ y ∈ enc xs, y < 1024 := by
  intro y hy
  rcases List.mem_append.1 hy with h | h
  · exact hx y h
  · exact rm_mem (fun j _ => er_lt hx _ _) y h
theorem enc_cw {xs : List Nat} (hx : ∀ x ∈ xs, x < 1024) : isCw (enc xs) := by
  intro r h1 h2
  rw [hv_vs (E r) (E_lt r) _ (enc_bd hx), enc_len]
  have e : vs (E r) (xs.length + 16) (at_ (enc xs)) = vs (E r) (xs.length + 16) (fun j => at_ xs j ^^^ er xs xs.length j) := by
    unfold vs
    refine X_congr fun j hj => ?_
    congr 1
    show at_ (xs ++ rm 16 fun t => er xs xs.length (xs.length + t)) j = at_ xs j ^^^ er xs xs.length j
    rw [at_append]
    by_cases h : j < xs.length
    · rw [if_pos h, er_low _ _ h, Nat.xor_zero]
    · rw [if_neg h, at_far (xs := xs) (by omega), Nat.zero_xor, at_rm, if_pos (by omega), show xs.length + (j - xs.length) = j by omega]
  rw [e, vs_xor _ _ _ _ (fun j => at_lt hx (by decide)) (er_lt hx _), er_vs hx h1 h2 _ (Nat.le_refl _), Nat.xor_self]
end Go.Proofs.YtjhoecfhmndcgaaGreat
namespace Go.Proofs.YtjhoecfhmndcgaaGreat
open Go.Gf

/-- a word times a number -/
def sw (s : Nat) (a : List Nat) : List Nat := rm a.length fun j => gm (at_ a j) s
section
variable {a b : List Nat} {s : Nat}
end
section
variable {a b w : List Nat} {k : Nat}
end
end Go.Proofs.YtjhoecfhmndcgaaGreat
namespace Go.Proofs.YtjhoecfhmndcgaaGreat
open Go.RowKit Go.Gf

theorem pmul_le' (xs ys : List Nat) : (pmul xs ys).length ≤ 4096 := by
  unfold pmul
  split
  · exact Nat.zero_le _
  · refine Nat.le_trans (tr_len _) ?_
    rw [rm_len]; omega
theorem gens_le (k : Nat) : (gens k).length ≤ 4096 := by
  cases k with
  | zero => decide
  | succ k => exact pmul_le' _ _
/-- a slice that holds ys; old memory is as it was -/
def RowC (w : World) (ys : List Nat) (e : Ending) (w' : World) : Prop := ∃ A c, e = .returned (.slice A ys.length c) ∧ ys.length ≤ c ∧ Sl w' w'.heap.size A ys ∧ Below w.heap.size w w'
theorem Gives.rowC {w w' : World} {ys : List Nat} {e : Ending} (h : Gives w ys e w') : RowC w ys e w' := by
  obtain ⟨s, he, hb, hy, h⟩ := h
  rcases h with ⟨rfl, rfl⟩ | ⟨g, hg, rfl, ha⟩
  · exact ⟨none, 0, he, Nat.le_refl _, Sl.nil _ _ _, hb⟩
  · exact ⟨some ⟨g, 0, none⟩, _, he, Nat.le_refl _, ha.sl hy, hb⟩
set_option maxHeartbeats 4000000 in
theorem refgen_any (w : World) : Calls Tryz.prog 56 #[] w (RowC w (gens 16)) := by
  go_enter Tryz.func56, Tryz.ntmps56
  go_wp2_with fail
  have h0 := sl_new w (.cells #[.int .u16 1] 46) [1] w.heap.size rfl rfl (by decide)
  have hb0 := below_alloc w (.cells #[.int .u16 1] 46)
  generalize w.alloc (.cells #[.int .u16 1] 46) = ws at h0 hb0 ⊢
  go_loopw [1, 2] (fun p q wr => ∃ (k : Nat) (A : Option Addr) (c : Nat), k ≤ 16 ∧ q = .int .i64 ((k : Int) + 1) ∧ p = .slice A (gens k).length c ∧ (gens k).length ≤ c ∧ Sl wr wr.heap.size A (gens k) ∧ Below w.heap.size w wr) (fun _ q _ => (17 - intOf q).toNat)
  case atStart => exact ⟨0, _, 1, Nat.zero_le _, rfl, rfl, Nat.le_refl _, h0, hb0⟩
  case round =>
    clear h0 hb0
    obtain ⟨k, A, c, hk, rfl, rfl, hcl, hs, hb⟩ := hrel
    replace hcl := Lib.hid hcl
    have hlen := Lib.hid (gens_le k)
    by_cases hlt : k < 16
    · have hd : decide ((k : Int) + 1 ≤ 16) = true := by rw [decide_eq_true_eq]; omega
      have hE := E_lt (k + 1)
      have hexp : expI ((k : Int) + 1) = ((E (k + 1) : Nat) : Int) := by
        unfold expI
        congr 2
        omega
      have hgen : Hid (gens (k + 1) = pmul (gens k) [E (k + 1), 1]) := rfl
      generalize E (k + 1) = X at *
      generalize hG : gens (k + 1) = G at *
      replace hG := Lib.hid hG
      replace hs := Lib.hid hs
      replace hb := Lib.hid hb
      have hc1 := Lib.hid (refexp_any ((k : Int) + 1) wr)
      rw [hexp] at hc1
      clear hexp
      go_wp2_with fail
      refine hc1.out.mono ?_
      rintro e w1 ⟨rfl, rfl⟩
      go_wp2_with fail
      have hq := sl_new wr (.cells #[.int .u16 (X : Int), .int .u16 1] 46) [X, 1] wr.heap.size rfl rfl (by simp; omega)
      have hp := hs.out.far (below_alloc wr (.cells #[.int .u16 (X : Int), .int .u16 1] 46))
      have hb1 := hb.out.trans ((below_alloc wr (.cells #[.int .u16 (X : Int), .int .u16 1] 46)).mono hb.out.size)
      generalize wr.alloc (.cells #[.int .u16 (X : Int), .int .u16 1] 46) = w2 at hq hp hb1 ⊢
      generalize wr.heap.size = g2 at hq ⊢
      have hc2 := (refpmul_any A (some ⟨g2, 0, none⟩) c 2 (gens k) [X, 1] w2 hp hq (by have := hlen.out; omega) (by simp)).mono fun _ _ h => h.rowC
      rw [← hgen.out] at hc2
      replace hc2 := Lib.hid hc2
      replace hb1 := Lib.hid hb1
      clear hp hq
      refine hc2.out.mono ?_
      rintro e w3 ⟨B, c3, rfl, hcc, h3, hb3⟩
      replace h3 := Lib.hid h3
      replace hcc := Lib.hid hcc
      have hb4 := Lib.hid (hb1.out.trans (hb3.mono hb1.out.size))
      clear hb3 hc1 hc2
      go_wp2_with fail
      go_roundw
      case rel => exact ⟨k + 1, B, c3, by omega, by go_num, by rw [hG.out], by rw [hG.out]; exact hcc.out, by rw [hG.out]; exact h3.out, hb4.out⟩
      case measure => simp [intOf]; omega
    · have hk16 : k = 16 := by omega
      have hd : decide ((k : Int) + 1 ≤ 16) = false := by rw [decide_eq_false_iff_not]; omega
      have hG : Hid (gens k = gens 16) := by rw [hk16]; exact Lib.hid rfl
      generalize gens k = G at *
      replace hs := Lib.hid hs
      replace hb := Lib.hid hb
      clear hk16
      go_wp2_with fail
      go_ret
      exact ⟨A, c, by rw [← hG.out]; rfl, by rw [← hG.out]; exact hcl.out, by rw [← hG.out]; exact hs.out, hb.out⟩

end Go.Proofs.YtjhoecfhmndcgaaGreat
namespace Go.Proofs.YtjhoecfhmndcgaaGreat
open Go.RowKit Go.Gf

end Go.Proofs.YtjhoecfhmndcgaaGreat
namespace Go.Proofs.YtjhoecfhmndcgaaGreat
open Go.RowKit Go.Gf

/-- what lies behind n bits, and n more -/
theorem ofB_add (T n : Nat) (f : Nat → Bool) : ofB (T + n) f = ofB T f * 2 ^ n + ofB n (fun k => f (T + k)) := by
  induction n with
  | zero => simp [ofB]
  | succ n ih =>
    show 2 * ofB (T + n) f + (if f (T + n) then 1 else 0) = _ + (2 * ofB n (fun k => f (T + k)) + if f (T + n) then 1 else 0)
    rw [ih, Nat.pow_succ, ← Nat.mul_assoc]
    omega
/-- n of the last h bits -/
theorem ofB_part (T h n : Nat) (f : Nat → Bool) (h1 : n ≤ h) (h2 : h ≤ T) : ofB T f / 2 ^ (h - n) % 2 ^ n = ofB n (fun k => f (T - h + k)) := by
  apply Nat.eq_of_testBit_eq
  intro t
  rw [Nat.testBit_mod_two_pow, Nat.testBit_div_two_pow, ofB_bit, ofB_bit]
  by_cases ht : t < n
  · have e1 : t + (h - n) < T := by omega
    have e2 : T - 1 - (t + (h - n)) = T - h + (n - 1 - t) := by omega
    simp [ht, e1, e2]
  · simp [ht]
theorem put_bits (V x n : Nat) (hx : x < 2 ^ n) (hn : n ≤ 10) : (V % 18446744073709551616 * 2 ^ n) % 18446744073709551616 ||| x = (V * 2 ^ n + x) % 18446744073709551616 := by
  obtain ⟨k, hk⟩ : ∃ k, 18446744073709551616 = k * 2 ^ n := ⟨2 ^ (64 - n), by rw [← Nat.pow_add, show 64 - n + n = 64 by omega]⟩
  have hkp : 0 < k := by
    rcases Nat.eq_zero_or_pos k with e | e
    · rw [e] at hk; simp at hk
    · exact e
  have e1 : (V % 18446744073709551616 * 2 ^ n) % 18446744073709551616 = (V % k) * 2 ^ n := by
    rw [Nat.mod_mul_mod, hk, Nat.mul_mod_mul_right]
  have e2 : (V % k * 2 ^ n) ||| x = V % k * 2 ^ n + x := by
    rw [← Nat.shiftLeft_eq, ← Nat.shiftLeft_add_eq_or_of_lt hx]
  have e3 : (V * 2 ^ n + x) = (V % k) * 2 ^ n + x + 18446744073709551616 * (V / k) := by
    have := Nat.mod_add_div V k
    rw [hk]
    calc V * 2 ^ n + x = (V % k + k * (V / k)) * 2 ^ n + x := by rw [this]
      _ = _ := by rw [Nat.add_mul, Nat.mul_right_comm]; omega
  have h4 : V % k < k := Nat.mod_lt _ hkp
  have h5 : V % k * 2 ^ n + x < 18446744073709551616 := by
    have : (V % k + 1) * 2 ^ n ≤ k * 2 ^ n := Nat.mul_le_mul_right _ h4
    rw [hk]
    rw [Nat.add_mul] at this
    omega
  rw [e1, e2, e3, Nat.add_mul_mod_self_left, Nat.mod_eq_of_lt h5]
theorem take_bits (V s n : Nat) (h : s + n ≤ 64) : (V % 18446744073709551616) / 2 ^ s % 2 ^ n = V / 2 ^ s % 2 ^ n := by
  apply Nat.eq_of_testBit_eq
  intro t
  rw [show (18446744073709551616 : Nat) = 2 ^ 64 from rfl, Nat.testBit_mod_two_pow, Nat.testBit_div_two_pow, Nat.testBit_mod_two_pow, Nat.testBit_mod_two_pow, Nat.testBit_div_two_pow]
  by_cases ht : t < n
  · have : t + s < 64 := by omega
    simp [ht, this]
  · simp [ht]

/-- block g is the two numbers of a stream -/
def Str (w : World) (g : Nat) (b h : Nat) : Prop := w.heap[g]? = some (.cells #[.int .u64 (b : Int), .int .u64 (h : Int)] 214 (0, 0))
theorem Str.lt {w : World} {g b h : Nat} (H : Str w g b h) : g < w.heap.size := by
  rcases Nat.lt_or_ge g w.heap.size with hlt | hge
  · exact hlt
  · unfold Str at H; rw [Array.getElem?_eq_none hge] at H; cases H
theorem Str.cell0 {w : World} {g b h : Nat} (H : Str w g b h) : w.cell? ⟨g, 0, none⟩ = some (.int .u64 (b : Int)) := by rw [cell_of_row w g 0 _ 214 (0, 0) H]; rfl
theorem Str.cell1 {w : World} {g b h : Nat} (H : Str w g b h) : w.cell? ⟨g, 1, none⟩ = some (.int .u64 (h : Int)) := by rw [cell_of_row w g 1 _ 214 (0, 0) H]; rfl
theorem Str.frozen {w : World} {g b h : Nat} (H : Str w g b h) (i : Nat) : w.frozen? ⟨g, i, none⟩ = false := by unfold Str at H; simp [World.frozen?, H]
theorem Str.set0 {w : World} {g b h : Nat} (H : Str w g b h) (c : Nat) : Str (w.setCell ⟨g, 0, none⟩ (.int .u64 (c : Int))) g c h := by
  unfold Str at *
  simp only [World.setCell]
  rw [Array.getElem?_modify, H]
  simp
theorem Str.set1 {w : World} {g b h : Nat} (H : Str w g b h) (c : Nat) : Str (w.setCell ⟨g, 1, none⟩ (.int .u64 (c : Int))) g b c := by
  unfold Str at *
  simp only [World.setCell]
  rw [Array.getElem?_modify, H]
  simp
theorem grown_refl (w : World) (r : Option Nat) : w.grownBy w r := ⟨rfl, rfl, rfl, Nat.le_refl _, fun _ _ _ => rfl⟩
theorem grown_set {w w' : World} {g i : Nat} (h : w.grownBy w' (some g)) (v : Value) : w.grownBy (w'.setCell ⟨g, i, none⟩ v) (some g) := by
  refine ⟨h.os, h.tape, h.output, ?_, fun k hk hne => ?_⟩
  · simp only [World.setCell, Array.size_modify]; exact h.size
  · simp only [World.setCell]
    rw [Array.getElem?_modify, if_neg (fun e => hne (by rw [e]))]
    exact h.block k hk hne
theorem grown_drewN {w w' : World} {r : Option Nat} (h : w.grownBy w' r) (n : Nat) : w.grownBy (w'.drewN n) r := ⟨h.os, h.tape, h.output, h.size, h.block⟩
set_option maxHeartbeats 1000000 in
theorem put_any (w : World) (g V h x n : Nat) (hs : Str w g (V % 18446744073709551616) h) (hx : x < 2 ^ n) (hn : n ≤ 10) (hh : h ≤ 100) {N Y : Int} (hN : N = (n : Int)) (hY : Y = (x : Int)) :
    Calls Tryz.prog 147 #[.pointer (some ⟨g, 0, none⟩), .int .u64 Y, .int .u64 N] w fun e w' => e = .returned (.tuple #[]) ∧ Str w' g ((V * 2 ^ n + x) % 18446744073709551616) (h + n) ∧ w.grownBy w' (some g) := by
  subst hN hY
  have H := Lib.hid hs
  have hb := put_bits V x n hx hn
  have hp : 2 ^ n ≤ 1024 := Nat.pow_le_pow_right (by decide) hn
  have hV : V % 18446744073709551616 < 18446744073709551616 := Nat.mod_lt _ (by decide)
  generalize V % 18446744073709551616 = b at *
  obtain ⟨c, hc⟩ : ∃ c, Hid ((b * 2 ^ n) % 18446744073709551616 = c) := ⟨_, Lib.hid rfl⟩
  have hc1 : c < 18446744073709551616 := by rw [← hc.out]; exact Nat.mod_lt _ (by decide)
  rw [hc.out] at hb
  generalize (V * 2 ^ n + x) % 18446744073709551616 = d at *
  have hor : bits .or .u64 (c : Int) (x : Int) = (d : Int) := by rw [u64_or_nat c x hc1 (by omega), hb]
  have hmn : min (n : Int) 64 = (n : Int) := by omega
  have hmN : min n 64 = n := by omega
  have hw : IntKind.u64.wrap ((b : Int) * 2 ^ n) = (c : Int) := by
    show ((b : Int) * 2 ^ n) % 18446744073709551616 = (c : Int)
    rw [← hc.out, Int.natCast_emod, Int.natCast_mul, Int.natCast_pow]; rfl
  have hw2 : IntKind.u64.wrap ((h : Int) + (n : Int)) = ((h + n : Nat) : Int) := by
    show ((h : Int) + (n : Int)) % 18446744073709551616 = _
    omega
  have c0 := hs.cell0
  have c1 := hs.cell1
  have f0 := hs.frozen
  have hN : Hid (Str ((w.setCell ⟨g, 0, none⟩ (.int .u64 (d : Int))).setCell ⟨g, 1, none⟩ (.int .u64 ((h + n : Nat) : Int))) g d (h + n)) := (hs.set0 d).set1 (h + n)
  have hG : Hid (w.grownBy ((w.setCell ⟨g, 0, none⟩ (.int .u64 (d : Int))).setCell ⟨g, 1, none⟩ (.int .u64 ((h + n : Nat) : Int))) (some g)) := grown_set (grown_set (grown_refl w _) _) _
  obtain ⟨m, hm⟩ : ∃ m, Hid (h + n = m) := ⟨_, Lib.hid rfl⟩
  rw [hm.out] at hw2 hN hG ⊢
  clear hs H hb hx hn hp
  go_enter Tryz.func147, Tryz.ntmps147
  go_wp2_with fail
  go_end0
  exact ⟨rfl, hN.out, hG.out⟩
set_option maxHeartbeats 1000000 in
theorem take_any (w : World) (g V h n : Nat) (hs : Str w g (V % 18446744073709551616) h) (hn : n ≤ h) (h10 : n ≤ 10) (h1 : 1 ≤ n) (hh : h ≤ 64) {N : Int} (hN : N = (n : Int)) :
    Calls Tryz.prog 148 #[.pointer (some ⟨g, 0, none⟩), .int .u64 N] w fun e w' => e = .returned (.int .u64 ((V / 2 ^ (h - n) % 2 ^ n : Nat) : Int)) ∧ Str w' g (V % 18446744073709551616) (h - n) ∧ w.grownBy w' (some g) := by
  subst hN
  have hb := take_bits V (h - n) n (by omega)
  generalize V / 2 ^ (h - n) % 2 ^ n = d at *
  have hV : V % 18446744073709551616 < 18446744073709551616 := Nat.mod_lt _ (by decide)
  generalize V % 18446744073709551616 = b at *
  obtain ⟨s, hsn⟩ : ∃ s, Hid (h - n = s) := ⟨_, Lib.hid rfl⟩
  rw [hsn.out] at hb ⊢
  have hw2 : IntKind.u64.wrap ((h : Int) - (n : Int)) = (s : Int) := by
    show ((h : Int) - (n : Int)) % 18446744073709551616 = _
    have := hsn.out; omega
  have c0 := hs.cell0
  have f0 := hs.frozen
  have hN : Hid (Str (w.setCell ⟨g, 1, none⟩ (.int .u64 (s : Int))) g b s) := hs.set1 s
  have hG : Hid (w.grownBy (w.setCell ⟨g, 1, none⟩ (.int .u64 (s : Int))) (some g)) := grown_set (grown_refl w _) _
  have c1 := hs.cell1
  have d0 := hN.out.cell0
  have d1 := hN.out.cell1
  have hp : 2 ^ n ≤ 1024 := Nat.pow_le_pow_right (by decide) h10
  have hp2 : 2 ≤ 2 ^ n := by have := Nat.pow_le_pow_right (n := 2) (by decide) h1; omega
  have hmn : min (n : Int) 64 = (n : Int) := by omega
  have hms : min (s : Int) 64 = (s : Int) := by have := hsn.out; omega
  have hmN : min n 64 = n := by omega
  have hmS : min s 64 = s := by have := hsn.out; omega
  have hand : bits .and .u64 ((b : Int) / 2 ^ s) (IntKind.u64.wrap (IntKind.u64.wrap (2 ^ n) - 1)) = (d : Int) := by
    have e1 : ((b : Int) / 2 ^ s) = ((b / 2 ^ s : Nat) : Int) := by push_cast; rfl
    have e2 : IntKind.u64.wrap (IntKind.u64.wrap (2 ^ n) - 1) = ((2 ^ n - 1 : Nat) : Int) := by
      show (((2 : Int) ^ n) % 18446744073709551616 - 1) % 18446744073709551616 = _
      have e3 : ((2 : Int) ^ n) = ((2 ^ n : Nat) : Int) := by push_cast; rfl
      rw [e3]
      omega
    rw [e1, e2, u64_and_nat (b / 2 ^ s) (2 ^ n - 1) (Nat.lt_of_le_of_lt (Nat.div_le_self _ _) hV) (by omega), Nat.and_two_pow_sub_one_eq_mod, hb]
  clear hs hb hn h10 h1
  go_enter Tryz.func148, Tryz.ntmps148
  go_wp2_with fail
  go_quiet (fail)
  go_wp2_with fail
  go_ret
  exact ⟨by rw [← hand]; rfl, hN.out, grown_drewN hG.out _⟩
end Go.Proofs.YtjhoecfhmndcgaaGreat
