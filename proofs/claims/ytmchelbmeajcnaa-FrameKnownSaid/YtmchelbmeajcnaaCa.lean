/- The program's package code: whether all are symbols, a copy of one's own, whether sums are nought. · slices.Reverse at 16-bit numbers, in place. · slices.Clone at 16-bit numbers; a word as a polynomial; whether sums are nought. · The program's package code: Generator, Syndromes. · The program's package code: Encode. · The program's package code: Encode, walked. -/
import Derived.Test.YtmchelbmeajcnaaRq
import Derived.Test.YtmchelbmeajcnaaRw
import Derived.Lib.SliceRun
import Derived.Test.YtmchelbmeajcnaaEa
namespace Go.Proofs.Ytmchelbmeajcnaa
open Go.RowKit Go.Gf
set_option maxRecDepth 20000

def symB (xs : List Nat) : Bool := xs.all fun x => decide (x < 1024)
theorem symB_true {xs : List Nat} : symB xs = true ↔ ∀ x ∈ xs, x < 1024 := by
  unfold symB
  rw [List.all_eq_true]
  constructor
  · intro h x hx; simpa using h x hx
  · intro h x hx; simpa using h x hx
theorem sym_any (x : Nat) (w : World) (_hx : x < 65536) : Calls Try.prog 96 #[.int .u16 (x : Int)] w fun e w' => e = .returned (.bool (decide ((1024 : Int) ≤ (x : Int)))) ∧ w = w' := by
  go_enter Try.func96, Try.ntmps96
  go_wp2_with fail
  go_ret
  exact ⟨rfl, rfl⟩
set_option maxHeartbeats 2000000 in
theorem index_any (A : Option Addr) (c : Nat) (xs : List Nat) (w : World) (h : Sl w w.heap.size A xs) (hl : xs.length ≤ 1000000) :
    Calls Try.prog 112 #[.slice A xs.length c, .func (.func 96) #[] #[]] w fun e w' => (∃ j : Int, e = .returned (.int .i64 j) ∧ decide (0 ≤ j) = !symB xs) ∧ w = w' := by
  have H := Lib.hid h
  clear h
  go_enter Try.func112, Try.ntmps112
  go_wp2_with fail
  go_loop [8] (fun n => ∃ k : Nat, k ≤ xs.length ∧ Hid (∀ j (h : j < xs.length), j < k → xs[j] < 1024) ∧ n = .int .i64 k) (fun n => xs.length - (intOf n).toNat)
  case atStart => exact ⟨0, Nat.zero_le _, Lib.hid (fun j _ h => absurd h (by omega)), rfl⟩
  case round =>
    obtain ⟨k, hk, HK, rfl⟩ := hrel
    by_cases hlt : k < xs.length
    · obtain ⟨a, rfl, hab, hcell⟩ := H.out.at_ hlt
      have hx := H.out.1 xs[k] (List.getElem_mem hlt)
      have hc := Lib.hid (sym_any xs[k] w hx)
      by_cases hb : 1024 ≤ xs[k]
      · have hs : Hid (symB xs = false) := by
          unfold Hid
          rw [Bool.eq_false_iff]
          intro e
          have := symB_true.1 e xs[k] (List.getElem_mem hlt)
          omega
        have hd : decide ((1024 : Int) ≤ (xs[k] : Int)) = true := by rw [decide_eq_true_eq]; omega
        rw [hd] at hc
        clear hb
        go_wp2_with (go_at_call 96; (with_reducible refine hc.out.mono ?_); rintro e w' ⟨rfl, rfl⟩)
        go_ret
        exact ⟨⟨_, rfl, by rw [hs.out]; simp⟩, rfl⟩
      · have hd : decide ((1024 : Int) ≤ (xs[k] : Int)) = false := by rw [decide_eq_false_iff_not]; omega
        have HK' : Hid (∀ j (h : j < xs.length), j < k + 1 → xs[j] < 1024) := fun j hj hjk => by
          rcases Nat.lt_or_ge j k with h1 | h1
          · exact HK.out j hj h1
          · obtain rfl : j = k := by omega
            omega
        rw [hd] at hc
        clear hb HK
        go_wp2_with (go_at_call 96; (with_reducible refine hc.out.mono ?_); rintro e w' ⟨rfl, rfl⟩)
        go_round
        case rel => exact ⟨k + 1, by omega, HK', by go_num⟩
        case measure => simp [intOf]; omega
    · obtain rfl : k = xs.length := by omega
      have hs : Hid (symB xs = true) := symB_true.2 fun x hx => by
        obtain ⟨j, hj, rfl⟩ := List.getElem_of_mem hx
        exact HK.out j hj hj
      clear HK
      go_wp2_with fail
      go_ret
      exact ⟨⟨_, rfl, by rw [hs.out]; decide⟩, rfl⟩
theorem contains_any (A : Option Addr) (c : Nat) (xs : List Nat) (w : World) (h : Sl w w.heap.size A xs) (hl : xs.length ≤ 1000000) :
    Calls Try.prog 92 #[.slice A xs.length c, .func (.func 96) #[] #[]] w fun e w' => e = .returned (.bool (!symB xs)) ∧ w = w' := by
  have hc := Lib.hid (index_any A c xs w h hl)
  clear h
  go_enter Try.func92, Try.ntmps92
  go_wp2_with (go_at_call 112; (with_reducible refine hc.out.mono ?_); rintro e w' ⟨⟨j, rfl, hj⟩, rfl⟩)
  go_ret
  exact ⟨rfl, rfl⟩
/-- are all of them symbols? -/
theorem symbols_any (A : Option Addr) (c : Nat) (xs : List Nat) (w : World) (h : Sl w w.heap.size A xs) (hl : xs.length ≤ 1000000) :
    Calls Try.prog 80 #[.slice A xs.length c] w fun e w' => e = .returned (.bool (symB xs)) ∧ w = w' := by
  have hc := Lib.hid (contains_any A c xs w h hl)
  clear h
  generalize symB xs = T at hc ⊢
  go_enter Try.func80, Try.ntmps80
  go_wp2_with (go_at_call 92; (with_reducible refine hc.out.mono ?_); rintro e w' ⟨rfl, rfl⟩)
  go_ret
  exact ⟨by cases T <;> rfl, rfl⟩
end Go.Proofs.Ytmchelbmeajcnaa
namespace Go.Proofs.Ytmchelbmeajcnaa
open Go.RowKit Go.Gf
set_option maxRecDepth 20000

/-- a row of which k at each end have changed places -/
def rv (f : Nat → Nat) (n k j : Nat) : Nat := if j < k ∨ n ≤ j + k then f (n - 1 - j) else f j
set_option maxHeartbeats 4000000 in
theorem reverse_any (g c n : Nat) (f : Nat → Nat) (w : World) (h : Pre w g n f) (hn : n ≤ 1000000) :
    Calls Try.prog 103 #[.slice (some ⟨g, 0, none⟩) n c] w fun e w' => e = .returned (.tuple #[]) ∧ DecL w g n (fun j => f (n - 1 - j)) w' := by
  have H0 := Lib.hid ((DecL.start h).congr (f' := rv f n 0) fun j hj => by unfold rv; rw [if_neg (by omega)])
  clear h
  go_enter Try.func103, Try.ntmps103
  go_wp2_with fail
  go_loopw [2, 3] (fun p q wr => ∃ k : Nat, 2 * k ≤ n ∧ p = .int .i64 k ∧ q = .int .i64 ((n : Int) - 1 - (k : Int)) ∧ DecL w g n (rv f n k) wr) (fun p _ _ => n - (intOf p).toNat)
  case atStart => exact ⟨0, Nat.zero_le _, rfl, by go_num, H0.out⟩
  case round =>
    clear H0
    obtain ⟨k, hk, rfl, rfl, HD⟩ := hrel
    by_cases hlt : 2 * k + 1 < n
    · obtain ⟨m, hm⟩ : ∃ m : Nat, m + k + 1 = n := ⟨n - 1 - k, by omega⟩
      have hmI : (n : Int) - 1 - (k : Int) = (m : Int) := by omega
      rw [hmI]
      have hd : decide ((k : Int) < (m : Int)) = true := by rw [decide_eq_true_eq]; omega
      have hkn : k < n := by omega
      have hmn : m < n := by omega
      have hkm : k ≠ m := by omega
      have hkI : (k : Int) < (n : Int) := by omega
      have hmI2 : (m : Int) < (n : Int) := by omega
      have hc1 := HD.2.cell hkn
      have hc2 := HD.2.cell hmn
      have hf1 := HD.2.frozen k
      have hf2 := HD.2.frozen m
      have e1 : rv f n k k = f k := by unfold rv; rw [if_neg (by omega)]
      have e2 : rv f n k m = f m := by unfold rv; rw [if_neg (by omega)]
      rw [e1] at hc1
      rw [e2] at hc2
      have HD2 : Hid (∀ q, DecL w g n (rv f n (k + 1)) (((wr.drewN q).setCell ⟨g, k, none⟩ (.int .u16 ((f m : Nat) : Int))).setCell ⟨g, m, none⟩ (.int .u16 ((f k : Nat) : Int)))) := fun q => by
        refine (((HD.drawn ⟨q, rfl⟩).set_ k (f m)).set_ m (f k)).congr fun j hj => ?_
        unfold rv
        by_cases a1 : j = m
        · subst a1
          rw [if_pos rfl, if_pos (by omega), show n - 1 - j = k by omega]
        · rw [if_neg a1]
          by_cases a2 : j = k
          · subst a2
            rw [if_pos rfl, if_pos (by omega), show n - 1 - j = m by omega]
          · rw [if_neg a2]
            by_cases a3 : j < k ∨ n ≤ j + k
            · rw [if_pos a3, if_pos (by omega)]
            · rw [if_neg a3, if_neg (by omega)]
      generalize f m = Fm at *
      generalize f k = Fk at *
      clear e1 e2 HD
      replace hm := Lib.hid hm
      go_wp2_with fail
      go_region
      go_wp2_with fail
      go_roundw
      case rel => exact ⟨k + 1, by omega, by go_num, by have h := hm.out; congr 1; omega, HD2.out _⟩
      case measure => simp [intOf]; omega
    · have hd : decide ((k : Int) < (n : Int) - 1 - (k : Int)) = false := by rw [decide_eq_false_iff_not]; omega
      have HD2 := Lib.hid (HD.congr (f' := fun j => f (n - 1 - j)) fun j hj => by
        unfold rv
        by_cases a3 : j < k ∨ n ≤ j + k
        · rw [if_pos a3]
        · rw [if_neg a3, show n - 1 - j = j by omega])
      clear HD
      go_wp2_with fail
      go_end0
      exact ⟨rfl, HD2.out⟩
theorem reverse_nil (A : Option Addr) (c : Nat) (w : World) :
    Calls Try.prog 103 #[.slice A 0 c] w fun e w' => e = .returned (.tuple #[]) ∧ w = w' := by
  go_enter Try.func103, Try.ntmps103
  go_wp2_with fail
  go_loop [2, 3] (fun p q => p = .int .i64 0 ∧ q = .int .i64 (-1)) (fun _ _ => 0)
  case atStart => exact ⟨rfl, rfl⟩
  case round =>
    obtain ⟨rfl, rfl⟩ := hrel
    go_wp2_with fail
    go_end0
    exact ⟨rfl, rfl⟩
end Go.Proofs.Ytmchelbmeajcnaa
namespace Go.Proofs.Ytmchelbmeajcnaa
open Go.RowKit Go.Gf
set_option maxRecDepth 20000

/-- a copy of one's own -/
def CopyR (w : World) (xs : List Nat) (e : Ending) (w' : World) : Prop :=
  ∃ A c, e = .returned (.slice A xs.length c) ∧ xs.length ≤ c ∧ (xs ≠ [] → ∃ g, A = some ⟨g, 0, none⟩ ∧ w.heap.size ≤ g ∧ Pre w' g xs.length (at_ xs)) ∧ Sl w' w'.heap.size A xs ∧ Below w.heap.size w w'
theorem OwnS.copy {w w' : World} {v : Value} {xs : List Nat} (h : OwnS w w' v xs) (hb : Below w.heap.size w w') : CopyR w xs (.returned v) w' := by
  by_cases he : xs = []
  · obtain ⟨A, c, rfl, h1, h2⟩ := h.sl
    exact ⟨A, c, rfl, h1, fun h => absurd he h, h2, hb⟩
  · obtain ⟨g, c, rfl, h1, h2, h3⟩ := h.pre he
    refine ⟨_, c, rfl, h1, fun _ => ⟨g, rfl, h2, h3⟩, ?_, hb⟩
    have := h3.sl fun j _ => at_lt h.2 (by decide)
    rwa [rm_at] at this
theorem app_law2 {w0 w : World} {ops : Array Oper} {rest : List Oper} {o : Oper} {a : Act} {Q : Exit → Act → World → Prop} (hgd : o.guard = none) (s x : Operand)
    (ho : o.op = .call { callee := .builtin .append, args := #[s, x], argTypes := #[35, 35] }) (v : Value) (ys : List Nat) (hs : a.eval s = v) (hown : OwnS w0 w v ys) (hb : Below w0.heap.size w0 w)
    (ad : Addr) (c : Nat) (zs : List Nat) (hx : a.eval x = .slice (some ad) zs.length c) (hz : Sl w w.heap.size (some ad) zs) (h63 : ys.length + zs.length ≤ 1000000)
    (h : ∀ v' w', OwnS w0 w' v' (ys ++ zs) → Below w0.heap.size w0 w' → wpList Try.prog ops Q rest (a.put o.dst v') w') :
    wpList Try.prog ops Q (o :: rest) a w := by
  have hi0 := info22
  obtain ⟨i, hi, hrest⟩ := Option.map_eq_some_iff.1 hi0
  simp only [Prod.mk.injEq] at hrest
  obtain ⟨i1, i2, i3⟩ := hrest
  have hcell : ∀ j (hj : j < zs.length), w.cell? (ad.add j) = some (uv zs[j]) := by
    intro j hj
    rcases hz.2 with e | ⟨ad', e, _, hc⟩
    · rw [e] at hj; exact absurd hj (by simp)
    · injection e with e; subst e; exact hc j hj
  refine wpList_append_own_at w hgd s x 35 ho w0.heap.size 29 i (.int .u16 0) 1 2 Try.underlying35 hi i1 i2 i3 rfl (by decide) v ys.length (ys.map uv) hs hown.1 ad zs.length c (zs.map uv) hx (by simp) (fun j u hu => ?_) (fun u hu => ?_) (by unfold maxLen; omega) (by omega) hb.size (fun v' w' h1 h2 _ _ => ?_)
  · rw [List.getElem?_map] at hu
    rcases Nat.lt_or_ge j zs.length with hj | hj
    · rw [List.getElem?_eq_getElem hj] at hu
      injection hu with hu
      rw [← hu]; exact hcell j hj
    · rw [List.getElem?_eq_none hj] at hu; cases hu
  · obtain ⟨y, _, rfl⟩ := List.mem_map.1 hu; rfl
  · refine h v' w' ⟨?_, ?_⟩ (hb.grown h2 hb.size (OwnS.block hown))
    · rw [List.length_append, List.map_append]; exact h1
    · intro y hy
      rcases List.mem_append.1 hy with hy | hy
      · exact hown.2 y hy
      · exact hz.1 y hy
theorem OwnS.empty (w : World) : OwnS w (w.alloc (.cells #[] 29)) (.slice (some ⟨w.heap.size, 0, none⟩) 0 0) [] :=
  ⟨⟨rfl, Or.inr ⟨w.heap.size, 0, #[], rfl, Nat.le_refl _, heap_alloc_new w _, Nat.le_refl _, Nat.zero_le _, rfl, rfl⟩⟩, by simp⟩
set_option maxHeartbeats 2000000 in
theorem clone_any (A : Option Addr) (c : Nat) (xs : List Nat) (w : World) (h : Sl w w.heap.size A xs) (hl : xs.length ≤ 1000000) :
    Calls Try.prog 102 #[.slice A xs.length c] w (CopyR w xs) := by
  have q22 : ∀ (w : World) (a : Option Addr) (n c n' c' : Nat), (binOp .eql 35 (.slice a n c) (.slice none n' c')).run Try.prog w = .ok (.bool a.isNone) w := fun w a n c n' c' => Lib.run_eql_slice_nil w 35 29 a n c n' c' Try.underlying35
  cases A with
  | none =>
    obtain rfl : xs = [] := by
      rcases h.2 with e | ⟨a, e, _⟩
      · exact e
      · cases e
    clear h
    go_enter Try.func102, Try.ntmps102
    go_wp2_with fail
    go_ret
    exact ⟨none, 0, rfl, Nat.le_refl _, fun h => absurd rfl h, Sl.nil _ _ _, Below.refl _ _⟩
  | some ad =>
    have HO := Lib.hid (OwnS.empty w)
    have HB := Lib.hid (below_alloc w (.cells #[] 29))
    have HS := Lib.hid (h.far (below_alloc w (.cells #[] 29)))
    clear h
    go_enter Try.func102, Try.ntmps102
    go_wp2_with (refine app_law2 (w0 := w) rfl (.tmp 5) (.tmp 6) rfl (.slice (some ⟨w.heap.size, 0, none⟩) 0 0) [] rfl HO.out HB.out ad c xs rfl HS.out (by simp; omega) ?_)
    intro v1 w1 h1 h2
    have h3 := h1.copy h2
    go_wp2_with fail
    go_ret
    exact h3
theorem rm_reverse (xs : List Nat) : rm xs.length (fun j => at_ xs (xs.length - 1 - j)) = xs.reverse := by
  refine list_ext_at (by rw [rm_len, List.length_reverse]) fun j hj => ?_
  rw [rm_len] at hj
  rw [at_rm, if_pos hj, at_reverse hj]
set_option maxHeartbeats 2000000 in
theorem polynomial_any (A : Option Addr) (c : Nat) (xs : List Nat) (w : World) (h : Sl w w.heap.size A xs) (hl : xs.length ≤ 1000000) :
    Calls Try.prog 82 #[.slice A xs.length c] w (RowC w xs.reverse) := by
  have hc := Lib.hid (clone_any A c xs w h hl)
  have hb16 := Lib.hid h.1
  clear h
  go_enter Try.func82, Try.ntmps82
  go_wp2_with (go_at_call 102; (with_reducible refine hc.out.mono ?_); rintro e w1 ⟨A1, c1, rfl, hc1, hp, hs, hb⟩; replace hp := Lib.hid hp; replace hs := Lib.hid hs; replace hb := Lib.hid hb; replace hc1 := Lib.hid hc1)
  by_cases he : xs = []
  · have hr := Lib.hid (reverse_nil A1 c1 w1)
    have h0 : xs.length = 0 := by rw [he]; rfl
    rw [← h0] at hr
    clear h0
    go_wp2_with (go_at_call 103; (with_reducible refine hr.out.mono ?_); rintro e w2 ⟨rfl, rfl⟩)
    go_ret
    subst he
    exact ⟨A1, c1, rfl, Nat.zero_le _, Sl.nil _ _ _, hb.out⟩
  · obtain ⟨g, rfl, hg, hpre⟩ := hp.out he
    have hr := Lib.hid (reverse_any g c1 xs.length (at_ xs) w1 hpre hl)
    clear hpre hp hs
    go_wp2_with (go_at_call 103; (with_reducible refine hr.out.mono ?_); rintro e w2 ⟨rfl, hD⟩; replace hD := Lib.hid hD)
    go_ret
    refine ⟨_, c1, by rw [List.length_reverse]; rfl, by rw [List.length_reverse]; exact hc1.out, ?_, hD.out.below hb.out hg⟩
    have := hD.out.2.sl fun j _ => at_lt hb16.out (by decide)
    rwa [rm_reverse] at this
theorem clean_any (A : Option Addr) (c : Nat) (xs : List Nat) (T : Bool) (w : World) (h : Sl w w.heap.size A xs) (hl : xs.length ≤ 1000000) (hT : ((((tr xs).length : Nat) : Int) == 0) = T) :
    Calls Try.prog 108 #[.slice A xs.length c] w (Leaves w (.bool T)) := by
  have hc := Lib.hid (row_trim (ca := c) h hl)
  clear h
  generalize tr xs = ys at hc hT
  go_enter Try.func108, Try.ntmps108
  go_wp2_with (go_at_call 99; (with_reducible refine hc.out.mono ?_); rintro e w1 ⟨B, rfl, hs, hb⟩; replace hs := Lib.hid hs; replace hb := Lib.hid hb)
  go_ret
  exact ⟨rfl, hb.out⟩
end Go.Proofs.Ytmchelbmeajcnaa
namespace Go.Proofs.Ytmchelbmeajcnaa
open Go.RowKit Go.Gf
set_option maxRecDepth 20000
attribute [local go_sem ↓] exec_load_tb Cl.quiet_since
attribute [local go_sem] tbAt_ptr tbIn_ptr

/-- the tables lie in block h; old memory is as it was -/
def GenR (w : World) (h : Nat) (cs ys : List Nat) (A : Option Addr) (wr : World) : Prop := Below w.heap.size w wr ∧ Tb wr h cs ∧ Sl wr wr.heap.size A ys
theorem expIs_nat (k : Nat) : ExpIs ((k : Int) + 1) ((E (k + 1) : Nat) : Int) := expIs (by
  rw [expI_nat, Int.natCast_add]
  rfl)
theorem Tb.keep {w w' : World} {h : Nat} {cs : List Nat} (t : Tb w h cs) (hb : Below w.heap.size w w') : Tb w' h cs := t.below hb t.lt
set_option maxRecDepth 20000 in
set_option maxHeartbeats 4000000 in
theorem gen_any (cs : List Nat) (hcs : Tab cs) (w : World) : Calls Try.prog 83 #[.agg (cells cs)] w (RowC w (gens 16)) := by
  have HCS := Lib.hid hcs
  clear hcs
  have hR : GenR w w.heap.size cs [1] (some ⟨w.heap.size + 1, 0, none⟩) ((w.alloc (.cells (cells cs) 33)).alloc (.cells #[.int .u16 1] 29)) := by
    refine ⟨((Below.refl _ _).alloc (Nat.le_refl _) _).alloc (by simp) _, ?_, sl_new (w.alloc (.cells (cells cs) 33)) (.cells #[.int .u16 1] 29) [1] _ (by simp) rfl (by decide)⟩
    exact (Below.heap_alloc _ _ _ (by simp)).trans (tb_new w cs)
  go_enter Try.func83, Try.ntmps83
  go_wp2_with fail
  generalize (w.alloc (.cells (cells cs) 33)).alloc (.cells #[.int .u16 1] 29) = W at hR ⊢
  go_loopw [3, 6] (fun p q wr => ∃ (k : Nat) (A : Option Addr) (c : Nat), k ≤ 16 ∧ q = .int .i64 k ∧ p = .slice A (gens k).length c ∧ (gens k).length ≤ c ∧ GenR w w.heap.size cs (gens k) A wr) (fun _ q _ => (16 - intOf q).toNat)
  case atStart => exact ⟨0, _, 1, Nat.zero_le _, rfl, rfl, Nat.le_refl _, hR⟩
  case round =>
    clear hR
    obtain ⟨k, A, c, hk, rfl, rfl, hcl, hR⟩ := hrel
    replace hcl := Lib.hid hcl
    replace hR := Lib.hid hR
    have hlen := Lib.hid (gens_le k)
    by_cases hlt : k < 16
    · have hd : decide ((k : Int) < 16) = true := by rw [decide_eq_true_eq]; omega
      have hE := E_lt (k + 1)
      have hExp := Lib.hid (expIs_nat k)
      have hgen : Hid (gens (k + 1) = pmul (gens k) [E (k + 1), 1]) := rfl
      generalize E (k + 1) = X at *
      generalize hG : gens (k + 1) = G at *
      replace hG := Lib.hid hG
      go_wp2_with fail
      refine Cl.region_way (fun _ => True) 9 [(0, .r), (1, .r), (2, .r), (3, .r), (4, .r), (5, .c), (6, .c), (7, .c), (8, .r)] (by kernel_rfl) (by kernel_rfl) ?_
      intro w1 hk1
      have hbw1 := Lib.hid (hR.out.1.trans ((Cl.Keeps.below hk1).mono hR.out.1.size))
      have HT1 := Lib.hid (Keeps.tb hk1 hR.out.2.1)
      have HS1 := Lib.hid (hR.out.2.2.far (Cl.Keeps.below hk1))
      have hiA : ∀ y : Cl.Since (fun _ => True) w1, isTb y.w w.heap.size = true := fun y => (Keeps.tb y.keeps HT1.out).is HCS.out.1
      have hoA : ∀ y : Cl.Since (fun _ => True) w1, tbOf y.w w.heap.size = cells cs := fun y => (Keeps.tb y.keeps HT1.out).of
      iterate 5 (refine Cl.way_r rfl ?_; go_big_quiet_step (fail); refine wpQuiet_nil ?_)
      clear hk1 hiA hoA hR
      refine Cl.way_c rfl ?_
      go_wp2_with (go_at_call 105; (with_reducible refine (hExp.out.at HCS.out _).mono ?_); rintro e w2 ⟨rfl, hb2⟩)
      refine Cl.way_on (Cl.Keeps.of_below hb2) ?_
      have hbw2 := Lib.hid (hbw1.out.trans (hb2.mono hbw1.out.size))
      have HT2 := Lib.hid (HT1.out.keep hb2)
      have HS2 := Lib.hid (HS1.out.far hb2)
      clear hb2 hbw1 HT1 HS1 hExp
      refine Cl.way_c rfl ?_
      have hq := sl_new w2 (.cells #[.int .u16 (X : Int), .int .u16 1] 29) [X, 1] w2.heap.size rfl rfl (by simp; omega)
      have hb3 := below_alloc w2 (.cells #[.int .u16 (X : Int), .int .u16 1] 29)
      go_wp2_with fail
      refine Cl.way_on (Cl.Keeps.of_below hb3) ?_
      generalize w2.alloc (.cells #[.int .u16 (X : Int), .int .u16 1] 29) = w3 at hq hb3 ⊢
      generalize w2.heap.size = g2 at hq ⊢
      have hbw3 := Lib.hid (hbw2.out.trans (hb3.mono hbw2.out.size))
      have HT3 := Lib.hid (HT2.out.keep hb3)
      have hc2 := row_mul (w := w3) (ca := c) (cb := 2) HCS.out (HS2.out.far hb3) hq (by have := hlen.out; omega) (by simp) hcl.out (Nat.le_refl _)
      rw [← hgen.out] at hc2
      replace hc2 := Lib.hid hc2
      clear hb3 hq hbw2 HT2 HS2 hgen
      refine Cl.way_c rfl ?_
      go_wp2_with (go_at_call 104; refine hc2.out.mono ?_; rintro e w4 ⟨B, rfl, hs4, hb4⟩)
      refine Cl.way_on (Cl.Keeps.of_below hb4) ?_
      have hR4 : Hid (GenR w w.heap.size cs G B w4) := ⟨hbw3.out.trans (hb4.mono hbw3.out.size), HT3.out.keep hb4, hs4⟩
      clear hb4 hs4 hbw3 HT3 hc2
      iterate 1 (refine Cl.way_r rfl ?_; go_big_quiet_step (fail); refine wpQuiet_nil ?_)
      refine Cl.way_end ?_
      go_wp2_with fail
      go_roundw
      case rel => exact ⟨k + 1, B, G.length, by omega, by go_num, by rw [hG.out], by rw [hG.out]; exact Nat.le_refl _, by rw [hG.out]; exact hR4.out⟩
      case measure => simp [intOf]; omega
    · have hk16 : k = 16 := by omega
      have hd : decide ((k : Int) < 16) = false := by rw [decide_eq_false_iff_not]; omega
      have hG : Hid (gens k = gens 16) := by rw [hk16]; exact Lib.hid rfl
      generalize gens k = G at *
      clear hk16
      go_wp2_with fail
      go_ret
      exact ⟨A, c, by rw [← hG.out]; rfl, by rw [← hG.out]; exact hcl.out, by rw [← hG.out]; exact hR.out.2.2, hR.out.1⟩

theorem made16 : ∃ N : Nat, N = 16 ∧ ∀ w, (Instr.makeSlice 35 (.int .i64 16) (.int .i64 16)).run Try.prog w = .ok (.slice (some ⟨w.heap.size, 0, none⟩) N N) (w.alloc (.cells (madeCells #[.int .u16 0] N) 29)) :=
  ⟨16, rfl, run_make_row' (P := Try.prog) 35 29 (.int .u16 0) 2 Try.underlying35 info22 rfl .i64 .i64 16 (by decide) (by decide)⟩
/-- the loop of Syndromes: k sums are laid in block g, which is one's own -/
def SumR (w : World) (h g : Nat) (cs ps xs : List Nat) (P : Option Addr) (k : Nat) (wr : World) : Prop :=
  h < g ∧ w.heap.size ≤ h ∧ Below w.heap.size w wr ∧ Tb wr h cs ∧ Sl wr g P ps ∧ Arr wr g (rm 16 fun i => if i < k then hv (E (i + 1)) xs else 0)
set_option maxRecDepth 20000 in
set_option maxHeartbeats 4000000 in
theorem syn_any (cs : List Nat) (hcs : Tab cs) (A : Option Addr) (c : Nat) (xs : List Nat) (w : World) (h : Sl w w.heap.size A xs) (hl : xs.length ≤ 1000000) :
    Calls Try.prog 107 #[.agg (cells cs), .slice A xs.length c] w (RowC w (sums xs)) := by
  have HCS := Lib.hid hcs
  have hbW : Below w.heap.size w (w.alloc (.cells (cells cs) 33)) := (Below.refl _ _).alloc (Nat.le_refl _) _
  have hT := Lib.hid (tb_new w cs)
  have hc := Lib.hid (polynomial_any A c xs (w.alloc (.cells (cells cs) 33)) (h.far hbW) hl)
  obtain ⟨N, hN, hmk⟩ := made16
  have hN1 := Lib.hid hN
  clear hN
  replace hbW := Lib.hid hbW
  clear hcs h
  go_enter Try.func107, Try.ntmps107
  go_wp2_with (go_at_call 82; refine hc.out.mono ?_; rintro e w1 ⟨P, c1, rfl, hcp, hs, hb⟩; replace hs := Lib.hid hs; replace hb := Lib.hid hb; replace hcp := Lib.hid hcp)
  have hg := hb.out.size
  have hHT := Lib.hid (hT.out.keep hb.out)
  have hR : SumR w w.heap.size w1.heap.size cs xs.reverse xs P 0 (w1.alloc (.cells (madeCells #[.int .u16 0] N) 29)) := by
    have h1 : w.heap.size < w1.heap.size := hHT.out.lt
    refine ⟨h1, Nat.le_refl _, (hbW.out.trans (hb.out.mono hbW.out.size)).alloc (by omega) _, hHT.out.keep (below_alloc _ _), hs.out.below (below_alloc _ _), ?_⟩
    have e : (rm 16 fun i => if i < 0 then hv (E (i + 1)) xs else 0) = List.replicate N 0 := by
      rw [hN1.out, rm_zero]
      exact rm_congr fun j _ => if_neg (Nat.not_lt_zero j)
    rw [e, made_uv]
    exact Arr.new w1 _
  generalize hg1 : w1.heap.size = g at hR ⊢
  generalize w1.alloc (.cells (madeCells #[.int .u16 0] N) 29) = wr0 at hR ⊢
  clear hg1 hg hHT hs hb hmk hT hbW hc
  go_loopw [13] (fun q wr => ∃ k : Nat, k ≤ 16 ∧ q = .int .i64 k ∧ SumR w w.heap.size g cs xs.reverse xs P k wr) (fun q _ => (16 - intOf q).toNat)
  case atStart => exact ⟨0, Nat.zero_le _, rfl, hR⟩
  case round =>
    clear hR
    obtain ⟨k, hk, rfl, hR⟩ := hrel
    replace hR := Lib.hid hR
    by_cases hlt : k < 16
    · have hkN : k < N := by rw [hN1.out]; exact hlt
      have hd : decide ((k : Int) < (N : Int)) = true := by rw [decide_eq_true_eq]; omega
      have hkI : (k : Int) < (N : Int) := by omega
      have hE := E_lt (k + 1)
      have hExp := Lib.hid (expIs_nat k)
      obtain ⟨V, hV⟩ : ∃ V, Hid (hv (E (k + 1)) xs = V) := ⟨_, Lib.hid rfl⟩
      have hev : Hid (ev (E (k + 1)) xs.reverse = V) := hV
      have hV1 : V < 1024 := by rw [← hV.out]; exact hv_lt _ _
      have hrl : Hid (xs.reverse.length ≤ 1000000) := by unfold Hid; rw [List.length_reverse]; exact hl
      generalize E (k + 1) = X at hExp hev hE
      generalize hps : xs.reverse = ps at *
      have hpl : Hid (ps.length = xs.length) := by rw [← hps]; exact Lib.hid List.length_reverse
      replace hps := Lib.hid hps
      go_wp2_with fail
      refine Cl.region_way (fun _ => True) 10 [(0, .r), (1, .r), (2, .r), (3, .r), (4, .r), (5, .r), (6, .r), (7, .c), (8, .c), (9, .r), (10, .z)] (by kernel_rfl) (by kernel_rfl) ?_
      intro w2 hk1
      have hbw2 := Lib.hid (hR.out.2.2.1.trans ((Cl.Keeps.below hk1).mono hR.out.2.2.1.size))
      have HT2 := Lib.hid (Keeps.tb hk1 hR.out.2.2.2.1)
      have HS2 := Lib.hid (hR.out.2.2.2.2.1.keep fun p hp => World.cell?_of_block (hk1.block p.block (Nat.lt_trans hp hR.out.2.2.2.2.2.lt) trivial))
      have HA2 := Lib.hid (Keeps.arr hk1 hR.out.2.2.2.2.2)
      have hgg := Lib.hid hR.out.1
      have hiA : ∀ y : Cl.Since (fun _ => True) w2, isTb y.w w.heap.size = true := fun y => (Keeps.tb y.keeps HT2.out).is HCS.out.1
      have hoA : ∀ y : Cl.Since (fun _ => True) w2, tbOf y.w w.heap.size = cells cs := fun y => (Keeps.tb y.keeps HT2.out).of
      iterate 7 (refine Cl.way_r rfl ?_; go_big_quiet_step (fail); refine wpQuiet_nil ?_)
      clear hk1 hiA hoA hR
      refine Cl.way_c rfl ?_
      go_wp2_with (go_at_call 105; (with_reducible refine (hExp.out.at HCS.out _).mono ?_); rintro e w3 ⟨rfl, hb3⟩)
      refine Cl.way_on (Cl.Keeps.of_below hb3) ?_
      have hbw3 := Lib.hid (hbw2.out.trans (hb3.mono hbw2.out.size))
      have HT3 := Lib.hid (HT2.out.keep hb3)
      have HA3 := Lib.hid (HA2.out.below hb3 HA2.out.lt)
      have HS3 := Lib.hid (Sl.below HS2.out (hb3.mono (Nat.le_of_lt HA2.out.lt)))
      clear hb3 hbw2 HT2 HS2 HA2 hExp
      refine Cl.way_c rfl ?_
      have hc2 := val_at (w := w3) (ca := c1) (x := (X : Int)) HCS.out (HS3.out.more (Nat.le_of_lt HA3.out.lt)) hrl.out (by omega) (by omega)
      rw [show ((X : Int).toNat % 1024) = X by rw [Int.toNat_natCast]; omega, hev.out, hpl.out] at hc2
      replace hc2 := Lib.hid hc2
      go_wp2_with (go_at_call 117; (with_reducible refine hc2.out.mono ?_); rintro e w4 ⟨rfl, hb4⟩)
      refine Cl.way_on (Cl.Keeps.of_below hb4) ?_
      have hbw4 := Lib.hid (hbw3.out.trans (hb4.mono hbw3.out.size))
      have HT4 := Lib.hid (HT3.out.keep hb4)
      have HA4 := Lib.hid (HA3.out.below hb4 HA3.out.lt)
      have HS4 := Lib.hid (Sl.below HS3.out (hb4.mono (Nat.le_of_lt HA3.out.lt)))
      clear hb4 hbw3 HT3 HS3 HA3 hc2
      iterate 1 (refine Cl.way_r rfl ?_; go_big_quiet_step (fail); refine wpQuiet_nil ?_)
      refine Cl.way_z rfl ?_
      have hc4 := arr_rm_cell HA4.out hlt
      have hf4 := HA4.out.frozen k
      go_wp2_with fail
      refine Cl.Calm.normal ?_
      have hR5 : Hid (SumR w w.heap.size g cs ps xs P (k + 1) (w4.setCell ⟨g, k, none⟩ (.int .u16 (V : Int)))) := by
        have h1 := hgg.out
        refine ⟨h1, Nat.le_refl _, hbw4.out.setCell (p := ⟨g, k, none⟩) (by show w.heap.size ≤ g; omega) _, HT4.out.other _ _ (by show w.heap.size ≠ g; omega), HS4.out.keep (fun p hp => ?_), ?_⟩
        · exact World.cell?_of_block (Below.heap_setCell _ _ _ _ (by show p.block ≠ g; omega))
        · have := HA4.out.set_ k V
          rw [rm_set] at this
          have e : (rm 16 fun i => if i < k + 1 then hv (E (i + 1)) xs else 0) = rm 16 fun j => if j = k then V else (fun i => if i < k then hv (E (i + 1)) xs else 0) j := by
            refine rm_congr fun j _ => ?_
            by_cases e : j = k
            · rw [if_pos e, if_pos (by omega), e, hV.out]
            · rw [if_neg e]
              by_cases e2 : j < k
              · rw [if_pos (by omega : j < k + 1)]; show _ = if j < k then _ else _; rw [if_pos e2]
              · rw [if_neg (by omega : ¬ j < k + 1)]; show _ = if j < k then _ else _; rw [if_neg e2]
          rw [e]; exact this
      clear hbw4 HT4 HS4 HA4 hc4 hf4
      go_wp2_with fail
      go_roundw
      case rel => exact ⟨k + 1, by omega, by go_num, hR5.out⟩
      case measure => simp [intOf]; omega
    · have hk16 : k = 16 := by omega
      have hd : decide (k < N) = false := by rw [decide_eq_false_iff_not]; have := hN1.out; omega
      have hs : Hid (Sl wr wr.heap.size (some ⟨g, 0, none⟩) (sums xs)) := by
        have h := hR.out.2.2.2.2.2
        rw [hk16] at h
        have e : (rm 16 fun i => if i < 16 then hv (E (i + 1)) xs else 0) = sums xs := rm_congr fun j hj => if_pos hj
        rw [e] at h
        refine h.sl ?_
        unfold sums
        exact rm_mem fun j _ => Nat.lt_trans (hv_lt _ _) (by decide)
      have hsl : Hid ((sums xs).length = N) := by
        unfold Hid
        rw [hN1.out]; unfold sums; exact rm_len _ _
      clear hk16
      go_wp2_with fail
      go_ret
      exact ⟨_, N, by rw [hsl.out]; rfl, by rw [hsl.out]; exact Nat.le_refl _, hs.out, hR.out.2.2.1⟩
end Go.Proofs.Ytmchelbmeajcnaa
namespace Go.Proofs.Ytmchelbmeajcnaa
open Go.RowKit Go.Gf
set_option maxRecDepth 20000
attribute [local go_sem ↓] exec_load_tb Cl.quiet_since
attribute [local go_sem] tbAt_ptr tbIn_ptr

/-- a word of one's own and an error's number -/
def RowEF (w : World) (ys : List Nat) (n : Nat) (e : Ending) (w' : World) : Prop :=
  ∃ A c, e = .returned (.tuple #[.slice A ys.length c, .int .i64 (n : Int)]) ∧ ys.length ≤ c ∧ Sl w' w'.heap.size A ys ∧ (ys ≠ [] → ∃ g, A = some ⟨g, 0, none⟩ ∧ w.heap.size ≤ g ∧ Pre w' g ys.length (at_ ys)) ∧ Below w.heap.size w w'
theorem RowEF.nil {w w' : World} {f : Nat} (hb : Below w.heap.size w w') : RowEF w [] f (.returned (.tuple #[.slice none 0 0, .int .i64 (f : Int)])) w' :=
  ⟨none, 0, rfl, Nat.le_refl _, Sl.nil _ _ _, fun h => absurd rfl h, hb⟩
/-- the word as a polynomial, divided by the generator: what is left -/
def restP (xs : List Nat) : List Nat := prem (rm (xs.length + 16) (at_ xs)).reverse (gens 16)
theorem gens_ne : tr (gens 16) ≠ [] := by
  intro e
  have h := gens_len
  rw [← gens_tr, e] at h
  cases h
theorem restP_len (xs : List Nat) : (restP xs).length ≤ 16 := by
  have h := prem_len (xs := (rm (xs.length + 16) (at_ xs)).reverse) gens_ne
  rw [gens_tr, gens_len] at h
  unfold restP; omega
theorem restP_lt (xs : List Nat) (j : Nat) : at_ (restP xs) j < 1024 := at_lt_tr tr_prem j
/-- what Encode's loop has laid after k of the rest -/
def ef (xs R : List Nat) (k j : Nat) : Nat := if j < xs.length then at_ xs j else if xs.length + 15 - j < k then at_ R (xs.length + 15 - j) else 0
theorem ef_lt {xs R : List Nat} (hx : ∀ x ∈ xs, x < 1024) (hR : ∀ j, at_ R j < 1024) (k j : Nat) : ef xs R k j < 1024 := by
  unfold ef
  split
  · exact at_lt hx (by decide)
  · split
    · exact hR _
    · decide
theorem ef_end {xs R : List Nat} {k : Nat} (hk : R.length ≤ k) (j : Nat) : ef xs R k j = if j < xs.length then at_ xs j else at_ R (xs.length + 15 - j) := by
  unfold ef
  split
  · rfl
  · split
    · rfl
    · rw [at_far (by omega)]
theorem enc_rest {xs : List Nat} (hx : ∀ x ∈ xs, x < 1024) (hn : xs.length ≤ 1007) : rm (xs.length + 16) (ef xs (restP xs) (restP xs).length) = enc xs := by
  have hb := rm_bd (n := xs.length + 16) (ef_lt hx (restP_lt xs) (restP xs).length)
  have hR := restP_len xs
  have hR1 := restP_lt xs
  have hP : padd (pmul (pquo (rm (xs.length + 16) (at_ xs)).reverse (gens 16)) (gens 16)) (restP xs) = tr (rm (xs.length + 16) (at_ xs)).reverse := quo_rem gens_ne (by
    have := tr_len (rm (xs.length + 16) (at_ xs)).reverse
    rw [List.length_reverse, rm_len] at this
    rw [gens_tr, gens_len]; omega)
  have hq : (tr (pquo (rm (xs.length + 16) (at_ xs)).reverse (gens 16))).length + (tr (gens 16)).length - 1 ≤ 4096 := by
    have h1 := pquo_len_le (xs := (rm (xs.length + 16) (at_ xs)).reverse) (ys := gens 16)
    have h2 := tr_len (rm (xs.length + 16) (at_ xs)).reverse
    rw [List.length_reverse, rm_len] at h2
    have h3 : divN (rm (xs.length + 16) (at_ xs)).reverse (gens 16) ≤ (tr (rm (xs.length + 16) (at_ xs)).reverse).length + 1 := by unfold divN; omega
    rw [tr_pquo, gens_tr, gens_len]; omega
  refine enc_unique hx (rm_len _ _) (by rw [rm_len]; omega) hb ?_ fun j hj => ?_
  · intro r h1 h2
    have hE := E_lt r
    have eA : ∀ (f : Nat → Nat) (j : Nat), j < xs.length + 16 → at_ (rm (xs.length + 16) f).reverse j = f (xs.length + 15 - j) := fun f j hj => by
      rw [at_reverse (by rw [rm_len]; exact hj), rm_len, at_rm, if_pos (by omega), show xs.length + 16 - 1 - j = xs.length + 15 - j by omega]
    unfold hv
    have e : ev (E r) (rm (xs.length + 16) (ef xs (restP xs) (restP xs).length)).reverse = ev (E r) (padd (rm (xs.length + 16) (at_ xs)).reverse (restP xs)) := by
      refine ev_ext _ hE fun j => ?_
      rw [at_padd]
      rcases Nat.lt_or_ge j (xs.length + 16) with hj | hj
      · rw [eA _ j hj, eA _ j hj, ef_end (Nat.le_refl _)]
        rcases Nat.lt_or_ge j 16 with h16 | h16
        · have a0 : at_ xs (xs.length + 15 - j) = 0 := at_far (by omega)
          rw [if_neg (by omega), a0, show xs.length + 15 - (xs.length + 15 - j) = j by omega, Nat.zero_mod, Nat.zero_xor, Nat.mod_mod]
        · have a0 : at_ (restP xs) j = 0 := at_far (by omega)
          rw [if_pos (by omega), a0, Nat.zero_mod, Nat.xor_zero, Nat.mod_mod]
      · rw [at_far (by rw [List.length_reverse, rm_len]; exact hj), at_far (by rw [List.length_reverse, rm_len]; exact hj), at_far (show (restP xs).length ≤ j by omega)]
        rfl
    rw [e, ev_padd _ hE, ← ev_tr _ hE (rm (xs.length + 16) (at_ xs)).reverse, ← hP, ev_padd _ hE, ev_pmul _ hE hq, gens_root h1 h2, gm_zero_right, Nat.zero_xor, Nat.xor_self]
  · rw [at_rm, if_pos (by omega)]
    unfold ef
    rw [if_pos hj]
theorem rev_rm {n : Nat} (f : Nat → Nat) (j : Nat) (hj : j < n) : at_ (rm n f).reverse j = f (n - 1 - j) := by
  rw [at_reverse (by rw [rm_len]; exact hj), rm_len, at_rm, if_pos (by omega)]
theorem gen_row (cs : List Nat) (hcs : Tab cs) (w : World) : Calls Try.prog 83 #[.agg (cells cs)] w fun e w' => ∃ A c, e = .returned (.slice A 17 c) ∧ 17 ≤ c ∧ Sl w' w'.heap.size A (gens 16) ∧ Below w.heap.size w w' := by
  refine (gen_any cs hcs w).mono ?_
  rintro e w' ⟨A, c, rfl, h1, h2, h3⟩
  rw [gens_len] at h1 ⊢
  exact ⟨A, c, rfl, h1, h2, h3⟩
/-- the loop of Encode: block g begins with what f says; all else is as it was -/
def EncL (w0 w9 : World) (g n : Nat) (f : Nat → Nat) (wr : World) : Prop := DecL w9 g n f wr ∧ Below w0.heap.size w0 w9
end Go.Proofs.Ytmchelbmeajcnaa
namespace Go.Proofs.Ytmchelbmeajcnaa
open Go.RowKit Go.Gf
set_option maxRecDepth 20000
attribute [local go_sem ↓] exec_load_tb Cl.quiet_since
attribute [local go_sem] tbAt_ptr tbIn_ptr

theorem poly_row {n : Nat} (A : Option Addr) (c : Nat) (xs : List Nat) (w : World) (hn : xs.length = n) (h : Sl w w.heap.size A xs) (hl : n ≤ 1000000) :
    Calls Try.prog 82 #[.slice A n c] w fun e w' => ∃ B cb, e = .returned (.slice B n cb) ∧ n ≤ cb ∧ Sl w' w'.heap.size B xs.reverse ∧ Below w.heap.size w w' := by
  subst hn
  refine (polynomial_any A c xs w h hl).mono ?_
  rintro e w' ⟨B, cb, rfl, h1, h2, h3⟩
  rw [List.length_reverse] at h1 ⊢
  exact ⟨B, cb, rfl, h1, h2, h3⟩
theorem div_row {n m : Nat} {cs : List Nat} (hl : Tab cs) (A B : Option Addr) (ca cb : Nat) (xs ys : List Nat) (w : World) (hn : xs.length = n) (hm : ys.length = m) (ha : Sl w w.heap.size A xs) (hb : Sl w w.heap.size B ys)
    (hla : n ≤ 1000000) (hlb : m ≤ 1000000) (hcb : m ≤ cb) (hne : tr ys ≠ []) : Calls Try.prog 81 #[.agg (cells cs), .slice A n ca, .slice B m cb] w (GivesD w (pquo xs ys) (prem xs ys)) := by
  subst hn hm
  exact pdiv_any cs hl A B ca cb xs ys w ha hb hla hlb hcb hne
theorem Arr.pre {w : World} {g n : Nat} {f : Nat → Nat} (h : Arr w g (rm n f)) : Pre w g n f :=
  ⟨_, h, fun i hi => by
    have : i < (rm n f).length := by rw [rm_len]; exact hi
    simp [this, rm_get]⟩
theorem symB_false {xs : List Nat} (h : symB xs = false) : ∃ k, ∃ h : k < xs.length, 1024 ≤ xs[k] := by
  refine Classical.byContradiction fun hn => ?_
  have : symB xs = true := symB_true.2 fun x hx => by
    obtain ⟨k, hk, rfl⟩ := List.getElem_of_mem hx
    refine Classical.byContradiction fun hb => hn ⟨k, hk, by omega⟩
  rw [this] at h; cases h

set_option maxHeartbeats 8000000 in
set_option maxRecDepth 20000 in
theorem encode_any (cs : List Nat) (hcs : Tab cs) (A : Option Addr) (c : Nat) (xs : List Nat) (w : World) (h : Sl w w.heap.size A xs) (hl : xs.length ≤ 1000000) :
    Calls Try.prog 58 #[.agg (cells cs), .slice A xs.length c] w (RowEF w (encW xs) (encE xs)) := by
  have H := Lib.hid h
  have HCS := Lib.hid hcs
  have hbW : Hid (Below w.heap.size w (w.alloc (.cells (cells cs) 33))) := (Below.refl _ _).alloc (Nat.le_refl _) _
  have hT := Lib.hid (tb_new w cs)
  have HW := Lib.hid (h.far hbW.out)
  have hsym := Lib.hid (symbols_any A c xs _ HW.out hl)
  clear h hcs
  by_cases hsz : xs.length = 0 ∨ 1007 < xs.length
  · have e1 := Lib.hid (encE_size hsz)
    have e2 : Hid (encW xs = []) := by unfold Hid encW; rw [e1.out]; rfl
    have hc : ∃ b1 b2 : Bool, ((xs.length : Int) == 0) = b1 ∧ decide ((1007 : Int) < (xs.length : Int)) = b2 ∧ (b1 || b2) = true := by
      refine ⟨_, _, rfl, rfl, ?_⟩
      simp only [Bool.or_eq_true, beq_iff_eq, decide_eq_true_eq]; omega
    obtain ⟨b1, b2, d1, d2, hor⟩ := hc
    replace hor := Lib.hid hor
    clear hsz
    cases b1
    · cases b2
      · exact absurd hor.out (by decide)
      · go_enter Try.func58, Try.ntmps58
        go_wp2_with fail
        go_ret2
        rw [e1.out, e2.out]
        exact RowEF.nil hbW.out
    · go_enter Try.func58, Try.ntmps58
      go_wp2_with fail
      go_ret2
      rw [e1.out, e2.out]
      exact RowEF.nil hbW.out
  · have d1 : ((xs.length : Int) == 0) = false := by rw [beq_eq_false_iff_ne]; omega
    have d2 : decide ((1007 : Int) < (xs.length : Int)) = false := by rw [decide_eq_false_iff_not]; omega
    have hl2 : xs.length ≤ 1007 := by omega
    have hl1 : 0 < xs.length := by omega
    cases hs : symB xs
    · obtain ⟨k, hk, hb⟩ := symB_false hs
      have e1 := Lib.hid (encE_big hsz hk hb)
      have e2 : Hid (encW xs = []) := by unfold Hid encW; rw [e1.out]; rfl
      rw [hs] at hsym
      clear hs hb hsz
      go_enter Try.func58, Try.ntmps58
      go_wp2_with (go_at_call 80; (with_reducible refine hsym.out.mono ?_); rintro e w1 ⟨rfl, rfl⟩)
      go_ret2
      rw [e1.out, e2.out]
      exact RowEF.nil hbW.out
    · have HX := Lib.hid (symB_true.1 hs)
      have e1 := Lib.hid (encE_ok hsz fun k hk => HX.out _ (List.getElem_mem hk))
      have e2 : Hid (encW xs = enc xs) := by unfold Hid encW; rw [e1.out]; rfl
      have HEnd : Hid (rm (xs.length + 16) (ef xs (restP xs) (restP xs).length) = enc xs) := enc_rest HX.out hl2
      rw [hs] at hsym
      clear hs hsz
      obtain ⟨n, hn⟩ : ∃ n, n = xs.length + 16 := ⟨_, rfl⟩
      have hnI : (xs.length : Int) + 16 = (n : Int) := by omega
      have hmk : ∀ w, (Instr.makeSlice 35 (.int .i64 (n : Int)) (.int .i64 (n : Int))).run Try.prog w = .ok (.slice (some ⟨w.heap.size, 0, none⟩) n n) (w.alloc (.cells (madeCells #[.int .u16 0] n) 29)) :=
        run_make_row' (P := Try.prog) 35 29 (.int .u16 0) 2 Try.underlying35 info22 rfl .i64 .i64 n (by omega) (by omega)
      have HN := Lib.hid hn
      have hn6 : n ≤ 1023 := by omega
      have hxn : Hid (xs.length ≤ n) := by unfold Hid; omega
      clear hn
      go_enter Try.func58, Try.ntmps58
      go_wp2_with (first
        | (go_at_call 80; (with_reducible refine hsym.out.mono ?_); rintro e w1 ⟨rfl, hw1⟩; have HX1 : Hid (Sl w1 w1.heap.size A xs) := (by rw [← hw1]; exact HW); replace hw1 := Lib.hid hw1)
        | (refine wpList_copy_splice rfl (.tmp 29) (.tmp 30) 35 35 rfl 29 Try.underlying35 size23 (some ⟨w1.heap.size, 0, none⟩) A n n xs.length c rfl rfl w1.heap.size 0 ((List.replicate n 0).map uv) 29 (by have := heap_alloc_new w1 (.cells (madeCells #[.int .u16 0] n) 29); rw [made_uv] at this; rw [made_uv]; exact this) (xs.map uv) (by have := hxn.out; rw [List.length_map]; exact (Nat.min_eq_left this).symm) (by
          intro hp
          rw [List.length_map] at hp
          refine ⟨rfl, ?_⟩
          obtain ⟨a, e, hab, hcell⟩ := ((HX1.out.far (own_start w1 n).2.1).2.resolve_left (by intro e; rw [e] at hp; exact absurd hp (by decide)))
          refine ⟨a, e, fun j v hv => ?_⟩
          rw [List.getElem?_map] at hv
          rcases Nat.lt_or_ge j xs.length with hj | hj
          · rw [List.getElem?_eq_getElem hj] at hv
            injection hv with hv
            rw [← hv]; exact hcell j hj
          · rw [List.getElem?_eq_none hj] at hv; cases hv) (by have := hxn.out; simp; exact this) (by intro v hv; obtain ⟨x, _, rfl⟩ := List.mem_map.1 hv; rfl) w1.heap.size w1 (own_start w1 n).2.1 (Nat.le_refl _) ?_))
      rintro w3 HC1 HB1
      have HO1 : Own w1 w3 w1.heap.size n (at_ xs) := by
        refine ⟨Nat.le_refl _, HB1, ?_⟩
        have e := HC1.out
        rw [← List.map_replicate, splice_own xs n hxn.out] at e
        exact e
      have hbw1 : Below w.heap.size w w1 := by rw [← hw1.out]; exact hbW.out
      have hT1 : Tb w1 w.heap.size cs := by rw [← hw1.out]; exact hT.out
      have HT3 := Lib.hid (hT1.keep HB1)
      have HP3 := Lib.hid HO1.2.2.pre
      have HB3 := Lib.hid (hbw1.trans (HB1.mono hbw1.size))
      have hgw : Hid (w.heap.size < w1.heap.size) := hT1.lt
      generalize w1.heap.size = g at *
      clear HC1 HB1 HO1 hmk HX1 hbw1 hT1 hw1 hbW hT HW hsym H
      go_wp2_with fail
      refine Cl.region_way (fun _ => True) 13 [(0, .r), (1, .r), (3, .r), (2, .c), (4, .c), (5, .c), (6, .r), (7, .r), (8, .r), (9, .r), (10, .r), (11, .r), (12, .r)] (by kernel_rfl) (by kernel_rfl) ?_
      intro w4 hk4
      have HT4 := Lib.hid (Keeps.tb hk4 HT3.out)
      have HP4 := Lib.hid (HP3.out.keep (hk4.block g HP3.out.lt trivial))
      have HB4 := Lib.hid (HB3.out.trans ((Cl.Keeps.below hk4).mono HB3.out.size))
      have hiA : ∀ y : Cl.Since (fun _ => True) w4, isTb y.w w.heap.size = true := fun y => (Keeps.tb y.keeps HT4.out).is HCS.out.1
      have hoA : ∀ y : Cl.Since (fun _ => True) w4, tbOf y.w w.heap.size = cells cs := fun y => (Keeps.tb y.keeps HT4.out).of
      iterate 3 (refine Cl.way_r rfl ?_; go_big_quiet_step (fail); refine wpQuiet_nil ?_)
      clear hk4 hiA hoA HT3 HP3 HB3
      obtain ⟨ws, hws⟩ : ∃ ws, Hid (rm n (at_ xs) = ws) := ⟨_, Lib.hid rfl⟩
      have hwl : Hid (ws.length = n) := by rw [← hws.out]; exact Lib.hid (rm_len _ _)
      have hs4 : Sl w4 w4.heap.size (some ⟨g, 0, none⟩) ws := by
        rw [← hws.out]
        exact HP4.out.sl fun j _ => at_lt (fun x hx => by have := HX.out x hx; omega) (by decide)
      have hc4 := Lib.hid (poly_row (some ⟨g, 0, none⟩) n ws w4 hwl.out hs4 (by omega))
      refine Cl.way_c rfl ?_
      go_wp2_with (go_at_call 82; (with_reducible refine hc4.out.mono ?_); rintro e w5 ⟨P, cp, rfl, hcp, hs5, hb5⟩)
      refine Cl.way_on (Cl.Keeps.of_below hb5) ?_
      have HT5 := Lib.hid (HT4.out.keep hb5)
      have HP5 := Lib.hid (HP4.out.keep (hb5.block g HP4.out.lt))
      have HB5 := Lib.hid (HB4.out.trans (hb5.mono HB4.out.size))
      replace hs5 := Lib.hid hs5
      clear hc4 hs4 hb5 HT4 HP4 HB4
      have hc5 := Lib.hid (gen_row cs HCS.out w5)
      refine Cl.way_c rfl ?_
      go_wp2_with (go_at_call 83; (with_reducible refine hc5.out.mono ?_); rintro e w6 ⟨G, cg, rfl, hcg, hs6, hb6⟩)
      refine Cl.way_on (Cl.Keeps.of_below hb6) ?_
      have HT6 := Lib.hid (HT5.out.keep hb6)
      have HP6 := Lib.hid (HP5.out.keep (hb6.block g HP5.out.lt))
      have HB6 := Lib.hid (HB5.out.trans (hb6.mono HB5.out.size))
      have hs56 := Lib.hid (hs5.out.far hb6)
      obtain ⟨Q, hQ⟩ : ∃ Q, Hid (pquo ws.reverse (gens 16) = Q) := ⟨_, Lib.hid rfl⟩
      obtain ⟨R, hR⟩ : ∃ R, Hid (restP xs = R) := ⟨_, Lib.hid rfl⟩
      have hR2 : prem ws.reverse (gens 16) = R := by
        rw [← hws.out, ← hR.out, HN.out]; rfl
      have hR16 : R.length ≤ 16 := by rw [← hR.out]; exact restP_len xs
      have hRlt : Hid (∀ j, at_ R j < 1024) := by rw [← hR.out]; exact restP_lt xs
      have hc6 := div_row HCS.out P G cp cg ws.reverse (gens 16) w6 (n := n) (m := 17) (by rw [List.length_reverse]; exact hwl.out) gens_len hs56.out hs6 (by omega) (by decide) hcg gens_ne
      rw [hQ.out, hR2] at hc6
      replace hc6 := Lib.hid hc6
      clear hc5 hb6 HT5 HP5 HB5 hs5 hs56 hs6 hR2
      refine Cl.way_c rfl ?_
      go_wp2_with (go_at_call 81; (with_reducible refine hc6.out.mono ?_); rintro e w7 ⟨g1, c1, g2, c2, rfl, _, hc1, _, hs7, hb7, hg1⟩)
      refine Cl.way_on (Cl.Keeps.of_below hb7) ?_
      have HP7 := Lib.hid (HP6.out.keep (hb7.block g HP6.out.lt))
      have HB7 := Lib.hid (HB6.out.trans (hb7.mono HB6.out.size))
      have hg7 : Hid (g < g1) := Nat.lt_of_lt_of_le HP6.out.lt hg1
      have hF7 := Lib.hid (hs7.fresh (lo := g1) fun a e => by injection e with e; rw [← e]; exact Nat.le_refl _)
      clear hc6 hb7 HT6 HP6 HB6 hs7 hg1
      iterate 7 (refine Cl.way_r rfl ?_; go_big_quiet_step (fail); refine wpQuiet_nil ?_)
      refine Cl.way_end ?_
      go_wp2_with fail
      have HL0 : Hid (DecL w7 g n (ef xs R 0) w7) := (DecL.start HP7.out).congr fun j _ => by
        unfold ef
        split
        · rfl
        · rw [if_neg (by omega), at_far (by omega)]
      go_loopw [44] (fun q wr => ∃ k : Nat, k ≤ R.length ∧ q = .int .i64 k ∧ DecL w7 g n (ef xs R k) wr) (fun q _ => R.length - (intOf q).toNat)
      case atStart => exact ⟨0, Nat.zero_le _, rfl, HL0.out⟩
      case round =>
        clear HL0
        obtain ⟨k, hk, rfl, HL⟩ := hrel
        replace HL := Lib.hid HL
        by_cases hlt : k < R.length
        · obtain ⟨ad, hRe, _, hcR⟩ := (HL.out.slf hF7.out hg7.out).at_ hlt
          injection hRe with hRe
          rw [← hRe, show (⟨g1, 0, none⟩ : Addr).add k = ⟨g1, k, none⟩ by unfold Addr.add; split <;> simp_all] at hcR
          clear hRe
          obtain ⟨m, hm⟩ : ∃ m : Nat, m + k + 1 = n := ⟨n - 1 - k, by have := HN.out; omega⟩
          have hmI : (n : Int) - 1 - (k : Int) = (m : Int) := by omega
          have hmn : m < n := by omega
          have hc8 := HL.out.2.cell hmn
          have hf8 := HL.out.2.frozen m
          obtain ⟨V, hV⟩ : ∃ V, Hid (R[k] = V) := ⟨_, Lib.hid rfl⟩
          rw [hV.out] at hcR
          replace hm := Lib.hid hm
          have HL2 : Hid (DecL w7 g n (ef xs R (k + 1)) (wr.setCell ⟨g, m, none⟩ (.int .u16 (V : Int)))) := (HL.out.set_ m V).congr fun j hj => by
            have h1 := hm.out
            have h2 := HN.out
            unfold ef
            by_cases e : j = m
            · rw [if_pos e, if_neg (by omega), if_pos (by omega), show xs.length + 15 - j = k by omega, at_get hlt, hV.out]
            · rw [if_neg e]
              by_cases e2 : j < xs.length
              · rw [if_pos e2, if_pos e2]
              · rw [if_neg e2, if_neg e2]
                by_cases e3 : xs.length + 15 - j < k
                · rw [if_pos e3, if_pos (by omega)]
                · rw [if_neg e3, if_neg (by omega)]
          clear HL
          go_wp2_with fail
          go_roundw
          case rel => exact ⟨k + 1, by omega, by go_num, HL2.out⟩
          case measure => simp [intOf]; omega
        · obtain rfl : k = R.length := by omega
          have hE2 : Hid (rm n (ef xs R R.length) = enc xs) := by
            have := HEnd.out
            rw [hR.out] at this
            unfold Hid
            rw [HN.out]; exact this
          have hel : Hid ((enc xs).length = n) := by rw [← hE2.out]; exact Lib.hid (rm_len _ _)
          have hea : Hid (∀ j, j < n → ef xs R R.length j = at_ (enc xs) j) := fun j hj => by rw [← hE2.out, at_rm, if_pos hj]
          go_wp2_with fail
          go_ret2
          rw [e1.out, e2.out]
          have hp := HL.out.2.congr hea.out
          have hsl := hp.sl fun j hj => by rw [← hea.out j hj]; have := ef_lt HX.out hRlt.out R.length j; omega
          have e3 : rm n (at_ (enc xs)) = enc xs := by rw [← hel.out]; exact rm_at _
          rw [e3] at hsl
          refine ⟨_, n, by rw [hel.out]; rfl, by rw [hel.out]; exact Nat.le_refl _, hsl, fun _ => ⟨g, rfl, Nat.le_of_lt hgw.out, by rw [hel.out]; exact hp⟩, HL.out.below HB7.out (Nat.le_of_lt hgw.out)⟩
end Go.Proofs.Ytmchelbmeajcnaa
