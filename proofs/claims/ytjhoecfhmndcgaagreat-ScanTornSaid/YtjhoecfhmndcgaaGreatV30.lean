/- What the calls of this layer answer, in one form: a slice of one's own that holds a list, a value; old memory is as it was. · The program's package code: whether all are symbols, a copy of one's own, whether sums are nought. · slices.Reverse at 16-bit numbers, in place. · slices.Clone at 16-bit numbers; a word as a polynomial; whether sums are nought. · The program's package code: Generator, Syndromes. · The program's package code: Encode. · The program's package code: Encode, walked. · The program's package code: search. · The program's package code: off, mend. -/
import Derived.Test.YtjhoecfhmndcgaaGreatV29
import Derived.Test.YtjhoecfhmndcgaaGreatV23
import Derived.Lib.SliceRun
import Derived.Test.YtjhoecfhmndcgaaGreatV22
import Derived.Deep.RegionWith
namespace Go.Proofs.YtjhoecfhmndcgaaGreat
open Go.RowKit Go.Gf

/-- a slice as long as it may be, which holds ys -/
def Row (w : World) (ys : List Nat) (e : Ending) (w' : World) : Prop := ∃ A, e = .returned (.slice A ys.length ys.length) ∧ Sl w' w'.heap.size A ys ∧ Below w.heap.size w w'
theorem Gives.row {w w' : World} {ys : List Nat} {e : Ending} (h : Gives w ys e w') : Row w ys e w' := by
  obtain ⟨s, he, hb, hy, h⟩ := h
  rcases h with ⟨rfl, rfl⟩ | ⟨g, hg, rfl, ha⟩
  · exact ⟨none, he, Sl.nil _ _ _, hb⟩
  · exact ⟨some ⟨g, 0, none⟩, he, ha.sl hy, hb⟩
section
variable {A B : Option Addr} {ca cb : Nat} {xs ys : List Nat} {cs : List Nat} {w : World}
theorem row_trim (ha : Sl w w.heap.size A xs) (hl : xs.length ≤ 1000000) : Calls Tryz.prog 156 #[.slice A xs.length ca] w (Row w (tr xs)) := (ptrim_blk A ca xs w ha hl).mono fun _ _ h => h.gives.row
theorem row_add (ha : Sl w w.heap.size A xs) (hb : Sl w w.heap.size B ys) (hla : xs.length ≤ 1000000) (hlb : ys.length ≤ 1000000) :
    Calls Tryz.prog 158 #[.slice A xs.length ca, .slice B ys.length cb] w (Row w (padd xs ys)) := (padd_blk A B ca cb xs ys w ha hb hla hlb).mono fun _ _ h => h.gives.row
theorem row_mul (hl : Tab cs) (ha : Sl w w.heap.size A xs) (hb : Sl w w.heap.size B ys) (hla : xs.length ≤ 1000000) (hlb : ys.length ≤ 1000000) (hca : xs.length ≤ ca) (hcb : ys.length ≤ cb) :
    Calls Tryz.prog 159 #[.agg (cells cs), .slice A xs.length ca, .slice B ys.length cb] w (Row w (pmul xs ys)) := (pmul_any cs hl.1 A B ca cb xs ys w ha hb hla hlb hca hcb).mono fun _ _ h => h.row
theorem val_at {x : Int} (hl : Tab cs) (ha : Sl w w.heap.size A xs) (hla : xs.length ≤ 1000000) (x0 : 0 ≤ x) (x1 : x < 65536) :
    Calls Tryz.prog 154 #[.agg (cells cs), .slice A xs.length ca, .int .u16 x] w (Leaves w (.int .u16 ((ev (x.toNat % 1024) xs : Nat) : Int))) := pat_any cs hl.1 A ca xs x w ha hla x0 x1
end
section
variable {A B : Option Addr} {ca cb : Nat} {xs ys : List Nat} {cs : List Nat} {w : World}
end
end Go.Proofs.YtjhoecfhmndcgaaGreat
namespace Go.Proofs.YtjhoecfhmndcgaaGreat
open Go.RowKit Go.Gf
set_option maxRecDepth 20000

def symB (xs : List Nat) : Bool := xs.all fun x => decide (x < 1024)
theorem symB_true {xs : List Nat} : symB xs = true ↔ ∀ x ∈ xs, x < 1024 := by
  unfold symB
  rw [List.all_eq_true]
  constructor
  · intro h x hx; simpa using h x hx
  · intro h x hx; simpa using h x hx
theorem sym_any (x : Nat) (w : World) (_hx : x < 65536) : Calls Tryz.prog 152 #[.int .u16 (x : Int)] w fun e w' => e = .returned (.bool (decide ((1024 : Int) ≤ (x : Int)))) ∧ w = w' := by
  go_enter Tryz.func152, Tryz.ntmps152
  go_wp2_with fail
  go_ret
  exact ⟨rfl, rfl⟩
set_option maxHeartbeats 2000000 in
theorem index_any (A : Option Addr) (c : Nat) (xs : List Nat) (w : World) (h : Sl w w.heap.size A xs) (hl : xs.length ≤ 1000000) :
    Calls Tryz.prog 132 #[.slice A xs.length c, .func (.func 152) #[] #[]] w fun e w' => (∃ j : Int, e = .returned (.int .i64 j) ∧ decide (0 ≤ j) = !symB xs) ∧ w = w' := by
  have H := Lib.hid h
  clear h
  go_enter Tryz.func132, Tryz.ntmps132
  go_wp2_with fail
  go_loop [8] (fun n => ∃ k : Nat, k ≤ xs.length ∧ Hid (∀ j (h : j < xs.length), j < k → xs[j] < 1024) ∧ n = .int .i64 k) (fun n => xs.length - (intOf n).toNat)
  case atStart => exact ⟨0, Nat.zero_le _, Lib.hid (fun j _ h => absurd h (by omega)), rfl⟩
  case round =>
    obtain ⟨k, hk, HK, rfl⟩ := hrel
    by_cases hlt : k < xs.length
    · obtain ⟨a, rfl, hab, hcell⟩ := H.out.at_ hlt
      have hx := H.out.1 xs[k] (List.getElem_mem hlt)
      have hc := Lib.hid (sym_any xs[k] w hx)
      by_cases hb : 1024 ≤ xs[k]
      · have hs : Hid (symB xs = false) := by
          unfold Hid
          rw [Bool.eq_false_iff]
          intro e
          have := symB_true.1 e xs[k] (List.getElem_mem hlt)
          omega
        have hd : decide ((1024 : Int) ≤ (xs[k] : Int)) = true := by rw [decide_eq_true_eq]; omega
        rw [hd] at hc
        clear hb
        go_wp2_with (go_at_call 152; (with_reducible refine hc.out.mono ?_); rintro e w' ⟨rfl, rfl⟩)
        go_ret
        exact ⟨⟨_, rfl, by rw [hs.out]; simp⟩, rfl⟩
      · have hd : decide ((1024 : Int) ≤ (xs[k] : Int)) = false := by rw [decide_eq_false_iff_not]; omega
        have HK' : Hid (∀ j (h : j < xs.length), j < k + 1 → xs[j] < 1024) := fun j hj hjk => by
          rcases Nat.lt_or_ge j k with h1 | h1
          · exact HK.out j hj h1
          · obtain rfl : j = k := by omega
            omega
        rw [hd] at hc
        clear hb HK
        go_wp2_with (go_at_call 152; (with_reducible refine hc.out.mono ?_); rintro e w' ⟨rfl, rfl⟩)
        go_round
        case rel => exact ⟨k + 1, by omega, HK', by go_num⟩
        case measure => simp [intOf]; omega
    · obtain rfl : k = xs.length := by omega
      have hs : Hid (symB xs = true) := symB_true.2 fun x hx => by
        obtain ⟨j, hj, rfl⟩ := List.getElem_of_mem hx
        exact HK.out j hj hj
      clear HK
      go_wp2_with fail
      go_ret
      exact ⟨⟨_, rfl, by rw [hs.out]; decide⟩, rfl⟩
theorem contains_any (A : Option Addr) (c : Nat) (xs : List Nat) (w : World) (h : Sl w w.heap.size A xs) (hl : xs.length ≤ 1000000) :
    Calls Tryz.prog 108 #[.slice A xs.length c, .func (.func 152) #[] #[]] w fun e w' => e = .returned (.bool (!symB xs)) ∧ w = w' := by
  have hc := Lib.hid (index_any A c xs w h hl)
  clear h
  go_enter Tryz.func108, Tryz.ntmps108
  go_wp2_with (go_at_call 132; (with_reducible refine hc.out.mono ?_); rintro e w' ⟨⟨j, rfl, hj⟩, rfl⟩)
  go_ret
  exact ⟨rfl, rfl⟩
/-- are all of them symbols? -/
theorem symbols_any (A : Option Addr) (c : Nat) (xs : List Nat) (w : World) (h : Sl w w.heap.size A xs) (hl : xs.length ≤ 1000000) :
    Calls Tryz.prog 139 #[.slice A xs.length c] w fun e w' => e = .returned (.bool (symB xs)) ∧ w = w' := by
  have hc := Lib.hid (contains_any A c xs w h hl)
  clear h
  generalize symB xs = T at hc ⊢
  go_enter Tryz.func139, Tryz.ntmps139
  go_wp2_with (go_at_call 108; (with_reducible refine hc.out.mono ?_); rintro e w' ⟨rfl, rfl⟩)
  go_ret
  exact ⟨by cases T <;> rfl, rfl⟩
end Go.Proofs.YtjhoecfhmndcgaaGreat
namespace Go.Proofs.YtjhoecfhmndcgaaGreat
open Go.RowKit Go.Gf
set_option maxRecDepth 20000

/-- a row of which k at each end have changed places -/
def rv (f : Nat → Nat) (n k j : Nat) : Nat := if j < k ∨ n ≤ j + k then f (n - 1 - j) else f j
set_option maxHeartbeats 4000000 in
theorem reverse_any (g c n : Nat) (f : Nat → Nat) (w : World) (h : Pre w g n f) (hn : n ≤ 1000000) :
    Calls Tryz.prog 164 #[.slice (some ⟨g, 0, none⟩) n c] w fun e w' => e = .returned (.tuple #[]) ∧ DecL w g n (fun j => f (n - 1 - j)) w' := by
  have H0 := Lib.hid ((DecL.start h).congr (f' := rv f n 0) fun j hj => by unfold rv; rw [if_neg (by omega)])
  clear h
  go_enter Tryz.func164, Tryz.ntmps164
  go_wp2_with fail
  go_loopw [2, 3] (fun p q wr => ∃ k : Nat, 2 * k ≤ n ∧ p = .int .i64 k ∧ q = .int .i64 ((n : Int) - 1 - (k : Int)) ∧ DecL w g n (rv f n k) wr) (fun p _ _ => n - (intOf p).toNat)
  case atStart => exact ⟨0, Nat.zero_le _, rfl, by go_num, H0.out⟩
  case round =>
    clear H0
    obtain ⟨k, hk, rfl, rfl, HD⟩ := hrel
    by_cases hlt : 2 * k + 1 < n
    · obtain ⟨m, hm⟩ : ∃ m : Nat, m + k + 1 = n := ⟨n - 1 - k, by omega⟩
      have hmI : (n : Int) - 1 - (k : Int) = (m : Int) := by omega
      rw [hmI]
      have hd : decide ((k : Int) < (m : Int)) = true := by rw [decide_eq_true_eq]; omega
      have hkn : k < n := by omega
      have hmn : m < n := by omega
      have hkm : k ≠ m := by omega
      have hkI : (k : Int) < (n : Int) := by omega
      have hmI2 : (m : Int) < (n : Int) := by omega
      have hc1 := HD.2.cell hkn
      have hc2 := HD.2.cell hmn
      have hf1 := HD.2.frozen k
      have hf2 := HD.2.frozen m
      have e1 : rv f n k k = f k := by unfold rv; rw [if_neg (by omega)]
      have e2 : rv f n k m = f m := by unfold rv; rw [if_neg (by omega)]
      rw [e1] at hc1
      rw [e2] at hc2
      have HD2 : Hid (∀ q, DecL w g n (rv f n (k + 1)) (((wr.drewN q).setCell ⟨g, k, none⟩ (.int .u16 ((f m : Nat) : Int))).setCell ⟨g, m, none⟩ (.int .u16 ((f k : Nat) : Int)))) := fun q => by
        refine (((HD.drawn ⟨q, rfl⟩).set_ k (f m)).set_ m (f k)).congr fun j hj => ?_
        unfold rv
        by_cases a1 : j = m
        · subst a1
          rw [if_pos rfl, if_pos (by omega), show n - 1 - j = k by omega]
        · rw [if_neg a1]
          by_cases a2 : j = k
          · subst a2
            rw [if_pos rfl, if_pos (by omega), show n - 1 - j = m by omega]
          · rw [if_neg a2]
            by_cases a3 : j < k ∨ n ≤ j + k
            · rw [if_pos a3, if_pos (by omega)]
            · rw [if_neg a3, if_neg (by omega)]
      generalize f m = Fm at *
      generalize f k = Fk at *
      clear e1 e2 HD
      replace hm := Lib.hid hm
      go_wp2_with fail
      go_region
      go_wp2_with fail
      go_roundw
      case rel => exact ⟨k + 1, by omega, by go_num, by have h := hm.out; congr 1; omega, HD2.out _⟩
      case measure => simp [intOf]; omega
    · have hd : decide ((k : Int) < (n : Int) - 1 - (k : Int)) = false := by rw [decide_eq_false_iff_not]; omega
      have HD2 := Lib.hid (HD.congr (f' := fun j => f (n - 1 - j)) fun j hj => by
        unfold rv
        by_cases a3 : j < k ∨ n ≤ j + k
        · rw [if_pos a3]
        · rw [if_neg a3, show n - 1 - j = j by omega])
      clear HD
      go_wp2_with fail
      go_end0
      exact ⟨rfl, HD2.out⟩
theorem reverse_nil (A : Option Addr) (c : Nat) (w : World) :
    Calls Tryz.prog 164 #[.slice A 0 c] w fun e w' => e = .returned (.tuple #[]) ∧ w = w' := by
  go_enter Tryz.func164, Tryz.ntmps164
  go_wp2_with fail
  go_loop [2, 3] (fun p q => p = .int .i64 0 ∧ q = .int .i64 (-1)) (fun _ _ => 0)
  case atStart => exact ⟨rfl, rfl⟩
  case round =>
    obtain ⟨rfl, rfl⟩ := hrel
    go_wp2_with fail
    go_end0
    exact ⟨rfl, rfl⟩
end Go.Proofs.YtjhoecfhmndcgaaGreat
namespace Go.Proofs.YtjhoecfhmndcgaaGreat
open Go.RowKit Go.Gf
set_option maxRecDepth 20000

/-- a copy of one's own -/
def CopyR (w : World) (xs : List Nat) (e : Ending) (w' : World) : Prop :=
  ∃ A c, e = .returned (.slice A xs.length c) ∧ xs.length ≤ c ∧ (xs ≠ [] → ∃ g, A = some ⟨g, 0, none⟩ ∧ w.heap.size ≤ g ∧ Pre w' g xs.length (at_ xs)) ∧ Sl w' w'.heap.size A xs ∧ Below w.heap.size w w'
theorem OwnS.copy {w w' : World} {v : Value} {xs : List Nat} (h : OwnS w w' v xs) (hb : Below w.heap.size w w') : CopyR w xs (.returned v) w' := by
  by_cases he : xs = []
  · obtain ⟨A, c, rfl, h1, h2⟩ := h.sl
    exact ⟨A, c, rfl, h1, fun h => absurd he h, h2, hb⟩
  · obtain ⟨g, c, rfl, h1, h2, h3⟩ := h.pre he
    refine ⟨_, c, rfl, h1, fun _ => ⟨g, rfl, h2, h3⟩, ?_, hb⟩
    have := h3.sl fun j _ => at_lt h.2 (by decide)
    rwa [rm_at] at this
theorem app_law2 {w0 w : World} {ops : Array Oper} {rest : List Oper} {o : Oper} {a : Act} {Q : Exit → Act → World → Prop} (hgd : o.guard = none) (s x : Operand)
    (ho : o.op = .call { callee := .builtin .append, args := #[s, x], argTypes := #[41, 41] }) (v : Value) (ys : List Nat) (hs : a.eval s = v) (hown : OwnS w0 w v ys) (hb : Below w0.heap.size w0 w)
    (ad : Addr) (c : Nat) (zs : List Nat) (hx : a.eval x = .slice (some ad) zs.length c) (hz : Sl w w.heap.size (some ad) zs) (h63 : ys.length + zs.length ≤ 1000000)
    (h : ∀ v' w', OwnS w0 w' v' (ys ++ zs) → Below w0.heap.size w0 w' → wpList Tryz.prog ops Q rest (a.put o.dst v') w') :
    wpList Tryz.prog ops Q (o :: rest) a w := by
  have hi0 := info22
  obtain ⟨i, hi, hrest⟩ := Option.map_eq_some_iff.1 hi0
  simp only [Prod.mk.injEq] at hrest
  obtain ⟨i1, i2, i3⟩ := hrest
  have hcell : ∀ j (hj : j < zs.length), w.cell? (ad.add j) = some (uv zs[j]) := by
    intro j hj
    rcases hz.2 with e | ⟨ad', e, _, hc⟩
    · rw [e] at hj; exact absurd hj (by simp)
    · injection e with e; subst e; exact hc j hj
  refine wpList_append_own_at w hgd s x 41 ho w0.heap.size 46 i (.int .u16 0) 1 2 Tryz.underlying41 hi i1 i2 i3 rfl (by decide) v ys.length (ys.map uv) hs hown.1 ad zs.length c (zs.map uv) hx (by simp) (fun j u hu => ?_) (fun u hu => ?_) (by unfold maxLen; omega) (by omega) hb.size (fun v' w' h1 h2 _ _ => ?_)
  · rw [List.getElem?_map] at hu
    rcases Nat.lt_or_ge j zs.length with hj | hj
    · rw [List.getElem?_eq_getElem hj] at hu
      injection hu with hu
      rw [← hu]; exact hcell j hj
    · rw [List.getElem?_eq_none hj] at hu; cases hu
  · obtain ⟨y, _, rfl⟩ := List.mem_map.1 hu; rfl
  · refine h v' w' ⟨?_, ?_⟩ (hb.grown h2 hb.size (OwnS.block hown))
    · rw [List.length_append, List.map_append]; exact h1
    · intro y hy
      rcases List.mem_append.1 hy with hy | hy
      · exact hown.2 y hy
      · exact hz.1 y hy
theorem OwnS.empty (w : World) : OwnS w (w.alloc (.cells #[] 46)) (.slice (some ⟨w.heap.size, 0, none⟩) 0 0) [] :=
  ⟨⟨rfl, Or.inr ⟨w.heap.size, 0, #[], rfl, Nat.le_refl _, heap_alloc_new w _, Nat.le_refl _, Nat.zero_le _, rfl, rfl⟩⟩, by simp⟩
set_option maxHeartbeats 2000000 in
theorem clone_any (A : Option Addr) (c : Nat) (xs : List Nat) (w : World) (h : Sl w w.heap.size A xs) (hl : xs.length ≤ 1000000) :
    Calls Tryz.prog 142 #[.slice A xs.length c] w (CopyR w xs) := by
  have q22 : ∀ (w : World) (a : Option Addr) (n c n' c' : Nat), (binOp .eql 41 (.slice a n c) (.slice none n' c')).run Tryz.prog w = .ok (.bool a.isNone) w := fun w a n c n' c' => Lib.run_eql_slice_nil w 41 46 a n c n' c' Tryz.underlying41
  cases A with
  | none =>
    obtain rfl : xs = [] := by
      rcases h.2 with e | ⟨a, e, _⟩
      · exact e
      · cases e
    clear h
    go_enter Tryz.func142, Tryz.ntmps142
    go_wp2_with fail
    go_ret
    exact ⟨none, 0, rfl, Nat.le_refl _, fun h => absurd rfl h, Sl.nil _ _ _, Below.refl _ _⟩
  | some ad =>
    have HO := Lib.hid (OwnS.empty w)
    have HB := Lib.hid (below_alloc w (.cells #[] 46))
    have HS := Lib.hid (h.far (below_alloc w (.cells #[] 46)))
    clear h
    go_enter Tryz.func142, Tryz.ntmps142
    go_wp2_with (refine app_law2 (w0 := w) rfl (.tmp 5) (.tmp 6) rfl (.slice (some ⟨w.heap.size, 0, none⟩) 0 0) [] rfl HO.out HB.out ad c xs rfl HS.out (by simp; omega) ?_)
    intro v1 w1 h1 h2
    have h3 := h1.copy h2
    go_wp2_with fail
    go_ret
    exact h3
theorem rm_reverse (xs : List Nat) : rm xs.length (fun j => at_ xs (xs.length - 1 - j)) = xs.reverse := by
  refine list_ext_at (by rw [rm_len, List.length_reverse]) fun j hj => ?_
  rw [rm_len] at hj
  rw [at_rm, if_pos hj, at_reverse hj]
set_option maxHeartbeats 2000000 in
theorem polynomial_any (A : Option Addr) (c : Nat) (xs : List Nat) (w : World) (h : Sl w w.heap.size A xs) (hl : xs.length ≤ 1000000) :
    Calls Tryz.prog 153 #[.slice A xs.length c] w (RowC w xs.reverse) := by
  have hc := Lib.hid (clone_any A c xs w h hl)
  have hb16 := Lib.hid h.1
  clear h
  go_enter Tryz.func153, Tryz.ntmps153
  go_wp2_with (go_at_call 142; (with_reducible refine hc.out.mono ?_); rintro e w1 ⟨A1, c1, rfl, hc1, hp, hs, hb⟩; replace hp := Lib.hid hp; replace hs := Lib.hid hs; replace hb := Lib.hid hb; replace hc1 := Lib.hid hc1)
  by_cases he : xs = []
  · have hr := Lib.hid (reverse_nil A1 c1 w1)
    have h0 : xs.length = 0 := by rw [he]; rfl
    rw [← h0] at hr
    clear h0
    go_wp2_with (go_at_call 164; (with_reducible refine hr.out.mono ?_); rintro e w2 ⟨rfl, rfl⟩)
    go_ret
    subst he
    exact ⟨A1, c1, rfl, Nat.zero_le _, Sl.nil _ _ _, hb.out⟩
  · obtain ⟨g, rfl, hg, hpre⟩ := hp.out he
    have hr := Lib.hid (reverse_any g c1 xs.length (at_ xs) w1 hpre hl)
    clear hpre hp hs
    go_wp2_with (go_at_call 164; (with_reducible refine hr.out.mono ?_); rintro e w2 ⟨rfl, hD⟩; replace hD := Lib.hid hD)
    go_ret
    refine ⟨_, c1, by rw [List.length_reverse]; rfl, by rw [List.length_reverse]; exact hc1.out, ?_, hD.out.below hb.out hg⟩
    have := hD.out.2.sl fun j _ => at_lt hb16.out (by decide)
    rwa [rm_reverse] at this
theorem clean_any (A : Option Addr) (c : Nat) (xs : List Nat) (T : Bool) (w : World) (h : Sl w w.heap.size A xs) (hl : xs.length ≤ 1000000) (hT : ((((tr xs).length : Nat) : Int) == 0) = T) :
    Calls Tryz.prog 141 #[.slice A xs.length c] w (Leaves w (.bool T)) := by
  have hc := Lib.hid (row_trim (ca := c) h hl)
  clear h
  generalize tr xs = ys at hc hT
  go_enter Tryz.func141, Tryz.ntmps141
  go_wp2_with (go_at_call 156; (with_reducible refine hc.out.mono ?_); rintro e w1 ⟨B, rfl, hs, hb⟩; replace hs := Lib.hid hs; replace hb := Lib.hid hb)
  go_ret
  exact ⟨rfl, hb.out⟩
end Go.Proofs.YtjhoecfhmndcgaaGreat
namespace Go.Proofs.YtjhoecfhmndcgaaGreat
open Go.RowKit Go.Gf
set_option maxRecDepth 20000
attribute [local go_sem ↓] exec_load_tb Cl.quiet_since
attribute [local go_sem] tbAt_ptr tbIn_ptr

theorem expIs_nat (k : Nat) : ExpIs ((k : Int) + 1) ((E (k + 1) : Nat) : Int) := expIs (by
  rw [expI_nat, Int.natCast_add]
  rfl)
theorem Tb.keep {w w' : World} {h : Nat} {cs : List Nat} (t : Tb w h cs) (hb : Below w.heap.size w w') : Tb w' h cs := t.below hb t.lt
theorem made16 : ∃ N : Nat, N = 16 ∧ ∀ w, (Instr.makeSlice 41 (.int .i64 16) (.int .i64 16)).run Tryz.prog w = .ok (.slice (some ⟨w.heap.size, 0, none⟩) N N) (w.alloc (.cells (madeCells #[.int .u16 0] N) 46)) :=
  ⟨16, rfl, run_make_row' (P := Tryz.prog) 41 46 (.int .u16 0) 2 Tryz.underlying41 info22 rfl .i64 .i64 16 (by decide) (by decide)⟩
/-- the loop of Syndromes: k sums are laid in block g, which is one's own -/
def SumR (w : World) (h g : Nat) (cs ps xs : List Nat) (P : Option Addr) (k : Nat) (wr : World) : Prop :=
  h < g ∧ w.heap.size ≤ h ∧ Below w.heap.size w wr ∧ Tb wr h cs ∧ Sl wr g P ps ∧ Arr wr g (rm 16 fun i => if i < k then hv (E (i + 1)) xs else 0)
set_option maxRecDepth 20000 in
set_option maxHeartbeats 4000000 in
theorem syn_any (cs : List Nat) (hcs : Tab cs) (A : Option Addr) (c : Nat) (xs : List Nat) (w : World) (h : Sl w w.heap.size A xs) (hl : xs.length ≤ 1000000) :
    Calls Tryz.prog 140 #[.agg (cells cs), .slice A xs.length c] w (RowC w (sums xs)) := by
  have HCS := Lib.hid hcs
  have hbW : Below w.heap.size w (w.alloc (.cells (cells cs) 50)) := (Below.refl _ _).alloc (Nat.le_refl _) _
  have hT := Lib.hid (tb_new w cs)
  have hc := Lib.hid (polynomial_any A c xs (w.alloc (.cells (cells cs) 50)) (h.far hbW) hl)
  obtain ⟨N, hN, hmk⟩ := made16
  have hN1 := Lib.hid hN
  clear hN
  replace hbW := Lib.hid hbW
  clear hcs h
  go_enter Tryz.func140, Tryz.ntmps140
  go_wp2_with (go_at_call 153; refine hc.out.mono ?_; rintro e w1 ⟨P, c1, rfl, hcp, hs, hb⟩; replace hs := Lib.hid hs; replace hb := Lib.hid hb; replace hcp := Lib.hid hcp)
  have hg := hb.out.size
  have hHT := Lib.hid (hT.out.keep hb.out)
  have hR : SumR w w.heap.size w1.heap.size cs xs.reverse xs P 0 (w1.alloc (.cells (madeCells #[.int .u16 0] N) 46)) := by
    have h1 : w.heap.size < w1.heap.size := hHT.out.lt
    refine ⟨h1, Nat.le_refl _, (hbW.out.trans (hb.out.mono hbW.out.size)).alloc (by omega) _, hHT.out.keep (below_alloc _ _), hs.out.below (below_alloc _ _), ?_⟩
    have e : (rm 16 fun i => if i < 0 then hv (E (i + 1)) xs else 0) = List.replicate N 0 := by
      rw [hN1.out, rm_zero]
      exact rm_congr fun j _ => if_neg (Nat.not_lt_zero j)
    rw [e, made_uv]
    exact Arr.new w1 _
  generalize hg1 : w1.heap.size = g at hR ⊢
  generalize w1.alloc (.cells (madeCells #[.int .u16 0] N) 46) = wr0 at hR ⊢
  clear hg1 hg hHT hs hb hmk hT hbW hc
  go_loopw [13] (fun q wr => ∃ k : Nat, k ≤ 16 ∧ q = .int .i64 k ∧ SumR w w.heap.size g cs xs.reverse xs P k wr) (fun q _ => (16 - intOf q).toNat)
  case atStart => exact ⟨0, Nat.zero_le _, rfl, hR⟩
  case round =>
    clear hR
    obtain ⟨k, hk, rfl, hR⟩ := hrel
    replace hR := Lib.hid hR
    by_cases hlt : k < 16
    · have hkN : k < N := by rw [hN1.out]; exact hlt
      have hd : decide ((k : Int) < (N : Int)) = true := by rw [decide_eq_true_eq]; omega
      have hkI : (k : Int) < (N : Int) := by omega
      have hE := E_lt (k + 1)
      have hExp := Lib.hid (expIs_nat k)
      obtain ⟨V, hV⟩ : ∃ V, Hid (hv (E (k + 1)) xs = V) := ⟨_, Lib.hid rfl⟩
      have hev : Hid (ev (E (k + 1)) xs.reverse = V) := hV
      have hV1 : V < 1024 := by rw [← hV.out]; exact hv_lt _ _
      have hrl : Hid (xs.reverse.length ≤ 1000000) := by unfold Hid; rw [List.length_reverse]; exact hl
      generalize E (k + 1) = X at hExp hev hE
      generalize hps : xs.reverse = ps at *
      have hpl : Hid (ps.length = xs.length) := by rw [← hps]; exact Lib.hid List.length_reverse
      replace hps := Lib.hid hps
      go_wp2_with fail
      refine Cl.region_way (fun _ => True) 10 [(0, .r), (1, .r), (2, .r), (3, .r), (4, .r), (5, .r), (6, .r), (7, .c), (8, .c), (9, .r), (10, .z)] (by kernel_rfl) (by kernel_rfl) ?_
      intro w2 hk1
      have hbw2 := Lib.hid (hR.out.2.2.1.trans ((Cl.Keeps.below hk1).mono hR.out.2.2.1.size))
      have HT2 := Lib.hid (Keeps.tb hk1 hR.out.2.2.2.1)
      have HS2 := Lib.hid (hR.out.2.2.2.2.1.keep fun p hp => World.cell?_of_block (hk1.block p.block (Nat.lt_trans hp hR.out.2.2.2.2.2.lt) trivial))
      have HA2 := Lib.hid (Keeps.arr hk1 hR.out.2.2.2.2.2)
      have hgg := Lib.hid hR.out.1
      have hiA : ∀ y : Cl.Since (fun _ => True) w2, isTb y.w w.heap.size = true := fun y => (Keeps.tb y.keeps HT2.out).is HCS.out.1
      have hoA : ∀ y : Cl.Since (fun _ => True) w2, tbOf y.w w.heap.size = cells cs := fun y => (Keeps.tb y.keeps HT2.out).of
      iterate 7 (refine Cl.way_r rfl ?_; go_big_quiet_step (fail); refine wpQuiet_nil ?_)
      clear hk1 hiA hoA hR
      refine Cl.way_c rfl ?_
      go_wp2_with (go_at_call 155; (with_reducible refine (hExp.out.at HCS.out _).mono ?_); rintro e w3 ⟨rfl, hb3⟩)
      refine Cl.way_on (Cl.Keeps.of_below hb3) ?_
      have hbw3 := Lib.hid (hbw2.out.trans (hb3.mono hbw2.out.size))
      have HT3 := Lib.hid (HT2.out.keep hb3)
      have HA3 := Lib.hid (HA2.out.below hb3 HA2.out.lt)
      have HS3 := Lib.hid (Sl.below HS2.out (hb3.mono (Nat.le_of_lt HA2.out.lt)))
      clear hb3 hbw2 HT2 HS2 HA2 hExp
      refine Cl.way_c rfl ?_
      have hc2 := val_at (w := w3) (ca := c1) (x := (X : Int)) HCS.out (HS3.out.more (Nat.le_of_lt HA3.out.lt)) hrl.out (by omega) (by omega)
      rw [show ((X : Int).toNat % 1024) = X by rw [Int.toNat_natCast]; omega, hev.out, hpl.out] at hc2
      replace hc2 := Lib.hid hc2
      go_wp2_with (go_at_call 154; (with_reducible refine hc2.out.mono ?_); rintro e w4 ⟨rfl, hb4⟩)
      refine Cl.way_on (Cl.Keeps.of_below hb4) ?_
      have hbw4 := Lib.hid (hbw3.out.trans (hb4.mono hbw3.out.size))
      have HT4 := Lib.hid (HT3.out.keep hb4)
      have HA4 := Lib.hid (HA3.out.below hb4 HA3.out.lt)
      have HS4 := Lib.hid (Sl.below HS3.out (hb4.mono (Nat.le_of_lt HA3.out.lt)))
      clear hb4 hbw3 HT3 HS3 HA3 hc2
      iterate 1 (refine Cl.way_r rfl ?_; go_big_quiet_step (fail); refine wpQuiet_nil ?_)
      refine Cl.way_z rfl ?_
      have hc4 := arr_rm_cell HA4.out hlt
      have hf4 := HA4.out.frozen k
      go_wp2_with fail
      refine Cl.Calm.normal ?_
      have hR5 : Hid (SumR w w.heap.size g cs ps xs P (k + 1) (w4.setCell ⟨g, k, none⟩ (.int .u16 (V : Int)))) := by
        have h1 := hgg.out
        refine ⟨h1, Nat.le_refl _, hbw4.out.setCell (p := ⟨g, k, none⟩) (by show w.heap.size ≤ g; omega) _, HT4.out.other _ _ (by show w.heap.size ≠ g; omega), HS4.out.keep (fun p hp => ?_), ?_⟩
        · exact World.cell?_of_block (Below.heap_setCell _ _ _ _ (by show p.block ≠ g; omega))
        · have := HA4.out.set_ k V
          rw [rm_set] at this
          have e : (rm 16 fun i => if i < k + 1 then hv (E (i + 1)) xs else 0) = rm 16 fun j => if j = k then V else (fun i => if i < k then hv (E (i + 1)) xs else 0) j := by
            refine rm_congr fun j _ => ?_
            by_cases e : j = k
            · rw [if_pos e, if_pos (by omega), e, hV.out]
            · rw [if_neg e]
              by_cases e2 : j < k
              · rw [if_pos (by omega : j < k + 1)]; show _ = if j < k then _ else _; rw [if_pos e2]
              · rw [if_neg (by omega : ¬ j < k + 1)]; show _ = if j < k then _ else _; rw [if_neg e2]
          rw [e]; exact this
      clear hbw4 HT4 HS4 HA4 hc4 hf4
      go_wp2_with fail
      go_roundw
      case rel => exact ⟨k + 1, by omega, by go_num, hR5.out⟩
      case measure => simp [intOf]; omega
    · have hk16 : k = 16 := by omega
      have hd : decide (k < N) = false := by rw [decide_eq_false_iff_not]; have := hN1.out; omega
      have hs : Hid (Sl wr wr.heap.size (some ⟨g, 0, none⟩) (sums xs)) := by
        have h := hR.out.2.2.2.2.2
        rw [hk16] at h
        have e : (rm 16 fun i => if i < 16 then hv (E (i + 1)) xs else 0) = sums xs := rm_congr fun j hj => if_pos hj
        rw [e] at h
        refine h.sl ?_
        unfold sums
        exact rm_mem fun j _ => Nat.lt_trans (hv_lt _ _) (by decide)
      have hsl : Hid ((sums xs).length = N) := by
        unfold Hid
        rw [hN1.out]; unfold sums; exact rm_len _ _
      clear hk16
      go_wp2_with fail
      go_ret
      exact ⟨_, N, by rw [hsl.out]; rfl, by rw [hsl.out]; exact Nat.le_refl _, hs.out, hR.out.2.2.1⟩
end Go.Proofs.YtjhoecfhmndcgaaGreat
namespace Go.Proofs.YtjhoecfhmndcgaaGreat
open Go.RowKit Go.Gf
set_option maxRecDepth 20000
attribute [local go_sem ↓] exec_load_tb Cl.quiet_since
attribute [local go_sem] tbAt_ptr tbIn_ptr

/-- what Encode's loop has laid after k of the rest -/
def ef (xs R : List Nat) (k j : Nat) : Nat := if j < xs.length then at_ xs j else if xs.length + 15 - j < k then at_ R (xs.length + 15 - j) else 0
end Go.Proofs.YtjhoecfhmndcgaaGreat
namespace Go.Proofs.YtjhoecfhmndcgaaGreat
open Go.RowKit Go.Gf
set_option maxRecDepth 20000
attribute [local go_sem ↓] exec_load_tb Cl.quiet_since
attribute [local go_sem] tbAt_ptr tbIn_ptr

theorem symB_false {xs : List Nat} (h : symB xs = false) : ∃ k, ∃ h : k < xs.length, 1024 ≤ xs[k] := by
  refine Classical.byContradiction fun hn => ?_
  have : symB xs = true := symB_true.2 fun x hx => by
    obtain ⟨k, hk, rfl⟩ := List.getElem_of_mem hx
    refine Classical.byContradiction fun hb => hn ⟨k, hk, by omega⟩
  rw [this] at h; cases h

end Go.Proofs.YtjhoecfhmndcgaaGreat
namespace Go.Proofs.YtjhoecfhmndcgaaGreat
open Go.RowKit Go.Gf
set_option maxRecDepth 20000
attribute [local go_sem ↓] exec_load_tb Cl.quiet_since
attribute [local go_sem] tbAt_ptr tbIn_ptr

theorem scope_jumps {P : Program} {a : Act} {w : World} {Q : Exit → Act → World → Prop} {c rest : Code} (l : Nat) (J : Act → World → Prop) (μ : Act → World → Nat) (hf : findLabel c l = some (Code.skip.seq rest))
    (pass : ∀ a w, J a w → rest.wp P (Exit.jump l (fun a' w' => J a' w' ∧ μ a' w' < μ a w) Q) a w)
    (first : (∀ a w, J a w → rest.wp P (Exit.jump l J Q) a w) → c.wp P (Exit.jump l J Q) a w) : (Code.scope c).wp P Q a w :=
  wp_scope_jumps l J μ hf (first fun a w h => wp_mono (pass a w h) fun e a' w' h' => by
    cases e
    case goto l' => exact ⟨h'.1, h'.2.1⟩
    all_goals exact h') fun a w h => wp_seq (wp_skip (pass a w h))
/-- what holds where search comes to its top -/
structure SearchJ (w : World) (S : Nat → Nat) (cs : List Nat) (v1 : Value) (t : Array Value) (a b u v : List Nat) (A B U V : Option Addr) (ca cb cu cv : Nat) (wr : World) : Prop where
  ei : EI S a b u v
  h9 : 9 ≤ a.length
  hb : b.length ≤ cb
  hv : v.length ≤ cv
  sa : Sl wr wr.heap.size A a
  sb : Sl wr wr.heap.size B b
  su : Sl wr wr.heap.size U u
  sv : Sl wr wr.heap.size V v
  be : Below w.heap.size w wr
  tb : Tb wr w.heap.size cs
  size : t.size = 42
  t0 : t.getD 0 undef = .agg (cells cs)
  t1 : t.getD 1 undef = v1
  t2 : t.getD 2 undef = .pointer (some ⟨w.heap.size, 0, none⟩)
  t3 : t.getD 3 undef = undef
  t4 : t.getD 4 undef = .slice none 0 0
  t5 : t.getD 5 undef = .slice none 0 0
  t6 : t.getD 6 undef = .slice A a.length ca
  t7 : t.getD 7 undef = .slice B b.length cb
  t8 : t.getD 8 undef = .slice U u.length cu
  t9 : t.getD 9 undef = .slice V v.length cv
def midQ (M : Act → World → Prop) : Exit → Act → World → Prop
  | .normal, a, w => M a w
  | _, _, _ => False
/-- the locator and the evaluator -/
def SearchR (w : World) (S : Nat → Nat) (e : Ending) (w' : World) : Prop :=
  ∃ a b u v B cb V cv, e = .returned (.tuple #[.slice V v.length cv, .slice B b.length cb]) ∧ EI S a b u v ∧ 9 ≤ a.length ∧ b.length ≤ 8 ∧ Sl w' w'.heap.size V v ∧ Sl w' w'.heap.size B b ∧ Below w.heap.size w w'
theorem frame42 (t : Array Value) (h : t.size = 42) : t = #[t.getD 0 undef, t.getD 1 undef, t.getD 2 undef, t.getD 3 undef, t.getD 4 undef, t.getD 5 undef, t.getD 6 undef, t.getD 7 undef, t.getD 8 undef, t.getD 9 undef, t.getD 10 undef, t.getD 11 undef, t.getD 12 undef, t.getD 13 undef, t.getD 14 undef, t.getD 15 undef, t.getD 16 undef, t.getD 17 undef, t.getD 18 undef, t.getD 19 undef, t.getD 20 undef, t.getD 21 undef, t.getD 22 undef, t.getD 23 undef, t.getD 24 undef, t.getD 25 undef, t.getD 26 undef, t.getD 27 undef, t.getD 28 undef, t.getD 29 undef, t.getD 30 undef, t.getD 31 undef, t.getD 32 undef, t.getD 33 undef, t.getD 34 undef, t.getD 35 undef, t.getD 36 undef, t.getD 37 undef, t.getD 38 undef, t.getD 39 undef, t.getD 40 undef, t.getD 41 undef] := by
  have e := frame_list 42 t.toList (by simpa using h)
  apply Array.toList_inj.1
  rw [e]
  simp only [Array.toArray_toList]
  rfl
def lenA (a : Act) (_ : World) : Nat := lenV (a.tmps.getD 7 undef)
set_option maxRecDepth 20000 in
set_option maxHeartbeats 8000000 in
theorem search_any (cs : List Nat) (hcs : Tab cs) (A : Option Addr) (c : Nat) (xs : List Nat) (w : World) (h : Sl w w.heap.size A xs) (hl : xs.length ≤ 16) :
    Calls Tryz.prog 143 #[.agg (cells cs), .slice A xs.length c] w (SearchR w (at_ (tr xs))) := by
  have HCS := Lib.hid hcs
  have hbW : Below w.heap.size w (w.alloc (.cells (cells cs) 50)) := (Below.refl _ _).alloc (Nat.le_refl _) _
  have hT := Lib.hid (tb_new w cs)
  have HA := Lib.hid (h.far hbW)
  replace hbW := Lib.hid hbW
  clear h hcs
  have hmk : ∀ w, (Instr.makeSlice 41 (.int .i64 17) (.int .i64 17)).run Tryz.prog w = .ok (.slice (some ⟨w.heap.size, 0, none⟩) x16.length x16.length) (w.alloc (.cells (madeCells #[.int .u16 0] x16.length) 46)) :=
    run_make_row' (P := Tryz.prog) 41 46 (.int .u16 0) 2 Tryz.underlying41 info22 rfl .i64 .i64 x16.length (by decide) (by decide)
  go_enter Tryz.func143, Tryz.ntmps143
  go_wp2_with fail
  refine scope_jumps 0 (fun a' w' => a'.defers = [] ∧ ∃ (a b u v : List Nat) (A' B U V : Option Addr) (ca cb cu cv : Nat), SearchJ w (at_ (tr xs)) cs (.slice A xs.length c) a'.tmps a b u v A' B U V ca cb cu cv w') lenA rfl ?_ ?_
  · rintro ⟨t, df⟩ wr ⟨hdf, a, b, u, v, A', B, U, V, ca, cb, cu, cv, HJ⟩
    have hEI := HJ.ei
    have h9 := HJ.h9
    have hcb := HJ.hb
    have hcv := HJ.hv
    have HSa := Lib.hid HJ.sa
    have HSb := Lib.hid HJ.sb
    have HSu := Lib.hid HJ.su
    have HSv := Lib.hid HJ.sv
    have HBe := Lib.hid HJ.be
    have HTb := Lib.hid HJ.tb
    replace hdf : df = [] := hdf
    subst hdf
    have e0 : t.getD 0 undef = _ := HJ.t0
    have e1 : t.getD 1 undef = _ := HJ.t1
    have e2 : t.getD 2 undef = _ := HJ.t2
    have e3 : t.getD 3 undef = _ := HJ.t3
    have e4 : t.getD 4 undef = _ := HJ.t4
    have e5 : t.getD 5 undef = _ := HJ.t5
    have e6 : t.getD 6 undef = _ := HJ.t6
    have e7 : t.getD 7 undef = _ := HJ.t7
    have e8 : t.getD 8 undef = _ := HJ.t8
    have e9 : t.getD 9 undef = _ := HJ.t9
    have eM : lenA { tmps := t, defers := [] } wr = b.length := by
      show lenV (t.getD 7 undef) = _
      rw [e7]; rfl
    rw [eM]
    rw [show t = _ from frame42 t HJ.size]
    rw [e0, e1, e2, e3, e4, e5, e6, e7, e8, e9]
    generalize t.getD 10 undef = u10
    generalize t.getD 11 undef = u11
    generalize t.getD 12 undef = u12
    generalize t.getD 13 undef = u13
    generalize t.getD 14 undef = u14
    generalize t.getD 15 undef = u15
    generalize t.getD 16 undef = u16
    generalize t.getD 17 undef = u17
    generalize t.getD 18 undef = u18
    generalize t.getD 19 undef = u19
    generalize t.getD 20 undef = u20
    generalize t.getD 21 undef = u21
    generalize t.getD 22 undef = u22
    generalize t.getD 23 undef = u23
    generalize t.getD 24 undef = u24
    generalize t.getD 25 undef = u25
    generalize t.getD 26 undef = u26
    generalize t.getD 27 undef = u27
    generalize t.getD 28 undef = u28
    generalize t.getD 29 undef = u29
    generalize t.getD 30 undef = u30
    generalize t.getD 31 undef = u31
    generalize t.getD 32 undef = u32
    generalize t.getD 33 undef = u33
    generalize t.getD 34 undef = u34
    generalize t.getD 35 undef = u35
    generalize t.getD 36 undef = u36
    generalize t.getD 37 undef = u37
    generalize t.getD 38 undef = u38
    generalize t.getD 39 undef = u39
    generalize t.getD 40 undef = u40
    generalize t.getD 41 undef = u41
    clear HJ e0 e1 e2 e3 e4 e5 e6 e7 e8 e9 eM hmk
    have hlen := hEI.len
    have hlb := hEI.lb
    have hlu := hEI.lu
    by_cases h8 : b.length ≤ 8
    · have hd : decide ((b.length : Int) ≤ 8) = true := by rw [decide_eq_true_eq]; omega
      replace hEI := Lib.hid hEI
      go_wp2_with fail
      try rw [jump_ret]
      go_ret2
      exact ⟨a, b, u, v, B, cb, V, cv, rfl, hEI.out, h9, h8, HSv.out, HSb.out, HBe.out⟩
    · have hd : decide ((b.length : Int) ≤ 8) = false := by rw [decide_eq_false_iff_not]; omega
      have hst := ei_step hEI (at_lt' (tr_bd _)) (by omega)
      have hne : tr b ≠ [] := by rw [hEI.tb]; intro e; rw [e] at h8; simp at h8
      have hi := HTb.out.is HCS.out.1
      have ho := HTb.out.of
      have hcd := pdiv_any cs HCS.out A' B ca cb a b wr HSa.out HSb.out (by omega) (by omega) hcb hne
      obtain ⟨Qq, hQ⟩ : ∃ Qq, Hid (pquo a b = Qq) := ⟨_, Lib.hid rfl⟩
      obtain ⟨Rr, hR⟩ : ∃ Rr, Hid (prem a b = Rr) := ⟨_, Lib.hid rfl⟩
      have hql : Qq.length ≤ 1000000 := by rw [← hQ.out]; exact Nat.le_trans pquo_len_le (by have := tr_len a; unfold divN; omega)
      rw [hQ.out, hR.out] at hst hcd
      obtain ⟨Pp, hP⟩ : ∃ Pp, Hid (pmul Qq v = Pp) := ⟨_, Lib.hid rfl⟩
      have hpl : Pp.length ≤ 1000000 := by rw [← hP.out]; exact Nat.le_trans (pmul_le' _ _) (by decide)
      rw [hP.out] at hst
      obtain ⟨Nn, hN⟩ : ∃ Nn, Hid (padd u Pp = Nn) := ⟨_, Lib.hid rfl⟩
      rw [hN.out] at hst
      have hst1 := Lib.hid hst.1
      have hst2 := Lib.hid hst.2
      replace hcd := Lib.hid hcd
      clear hst hne hEI
      go_wp2_with (first
        | (go_at_call 157; (with_reducible refine hcd.out.mono ?_); rintro e w1 ⟨g1, c1, g2, c2, rfl, hq1, hr1, hsq, hsr, hb1, _⟩; have HTb1 := Lib.hid (HTb.out.keep hb1); have hi1 := HTb1.out.is HCS.out.1; have ho1 := HTb1.out.of; replace hsq := Lib.hid hsq; replace hsr := Lib.hid hsr; replace hb1 := Lib.hid hb1; replace hr1 := Lib.hid hr1; have hcm := row_mul HCS.out hsq.out (HSv.out.far hb1.out) hql (by omega) hq1 hcv; rw [hP.out] at hcm; replace hcm := Lib.hid hcm)
        | (go_at_call 159; (with_reducible refine hcm.out.mono ?_); rintro e w2 ⟨Mm, rfl, hsm, hb2⟩; replace hsm := Lib.hid hsm; replace hb2 := Lib.hid hb2; have hcs := row_add (ca := cu) (cb := Pp.length) ((HSu.out.far hb1.out).far hb2.out) hsm.out (by omega) hpl; rw [hN.out] at hcs; replace hcs := Lib.hid hcs)
        | (go_at_call 158; (with_reducible refine hcs.out.mono ?_); rintro e w3 ⟨Oo, rfl, hsn, hb3⟩; replace hsn := Lib.hid hsn; replace hb3 := Lib.hid hb3))
      go_step3
      have hb12 := hb1.out.trans (hb2.out.mono hb1.out.size)
      have hb13 := hb12.trans (hb3.out.mono hb12.size)
      have hb23 := hb2.out.trans (hb3.out.mono hb2.out.size)
      refine ⟨rfl, ⟨rfl, b, Rr, v, Nn, _, _, _, _, _, _, _, _, ⟨hst1.out, by omega, hr1.out, Nat.le_refl _, HSb.out.far hb13, hsr.out.far hb23, HSv.out.far hb13, hsn.out, HBe.out.trans (hb13.mono HBe.out.size), HTb.out.keep hb13, rfl, rfl, rfl, rfl, rfl, rfl, rfl, rfl, rfl, rfl, rfl⟩⟩, ?_⟩
      exact hst2.out
  · intro body
    generalize w.alloc (.cells (cells cs) 50) = W at *
    have hct : Hid (∀ W', Below W.heap.size W W' → Calls Tryz.prog 156 #[.slice A xs.length c] W' (GivesB W' (tr xs))) := fun W' hb => ptrim_blk A c xs W' (HA.out.far hb) (by omega)
    go_wp2_with fail
    obtain ⟨T, hTr⟩ : ∃ T, Hid (tr xs = T) := ⟨_, Lib.hid rfl⟩
    rw [hTr.out] at hct
    refine wp_mono (Q := midQ fun a' w' => ∃ (g g2 : Nat), a' = { tmps := #[.agg (cells cs), .slice A xs.length c, .pointer (some ⟨w.heap.size, 0, none⟩), undef, .slice none 0 0, .slice none 0 0, .slice (some ⟨g, 0, none⟩) x16.length x16.length, .slice (some ⟨g2, 0, none⟩) T.length T.length, undef, undef, undef, undef, undef, .slice (some ⟨g, 0, none⟩) x16.length x16.length, .slice A xs.length c, .slice (some ⟨g2, 0, none⟩) T.length T.length, undef, undef, undef, undef, undef, undef, undef, undef, undef, undef, undef, undef, undef, undef, undef, undef, undef, undef, undef, undef, undef, undef, undef, undef, undef, undef], defers := [] } ∧
      Arr w' g (List.replicate x16.length 0) ∧ W.heap.size ≤ g ∧ Arr w' g2 T ∧ g2 ≠ g ∧ (∀ y ∈ T, y < 65536) ∧ Below W.heap.size W w') ?_ ?_
    · go_region_with (go_at_call 156; (refine (hct.out _ (by first | exact below_drewN (Below.refl _ _) _ | exact (below_drewN (Below.refl _ _) _).alloc (Nat.le_refl _) _)).mono ?_); rintro e w1 ⟨g2, hg2, rfl, hs1, hb1, hy⟩)
      · have hn : Below W.heap.size W (W.alloc (.cells (madeCells #[.int .u16 0] x16.length) 46)) := below_alloc _ _
        have hb1' : Below (W.alloc (.cells (madeCells #[.int .u16 0] x16.length) 46)).heap.size (W.alloc (.cells (madeCells #[.int .u16 0] x16.length) 46)) w1 := ⟨hb1.os, hb1.tape, hb1.output, hb1.size, hb1.block⟩
        have har : Arr (W.alloc (.cells (madeCells #[.int .u16 0] x16.length) 46)) W.heap.size (List.replicate x16.length 0) := by rw [made_uv]; exact Arr.new W _
        exact ⟨_, g2, rfl, har.below hb1' har.lt, Nat.le_refl _, hs1, Nat.ne_of_gt (Nat.lt_of_lt_of_le har.lt hg2), hy, hn.trans (hb1'.mono hn.size)⟩
      · have hb1' : Below W.heap.size W w1 := ⟨hb1.os, hb1.tape, hb1.output, hb1.size, hb1.block⟩
        have hn : Below w1.heap.size w1 (w1.alloc (.cells (madeCells #[.int .u16 0] x16.length) 46)) := below_alloc _ _
        have har : Arr (w1.alloc (.cells (madeCells #[.int .u16 0] x16.length) 46)) w1.heap.size (List.replicate x16.length 0) := by rw [made_uv]; exact Arr.new w1 _
        exact ⟨_, g2, rfl, har, hb1'.size, hs1.below hn hs1.lt, Nat.ne_of_lt hs1.lt, hy, hb1'.trans (hn.mono hb1'.size)⟩
    · intro e a' w3 hm
      cases e
      case normal =>
        obtain ⟨g, g2, rfl, hA3, hg, hs3, hne, hy, hb3⟩ := hm
        have hx16 : (16 : Int) < (x16.length : Int) := by decide
        have hc16 : w3.cell? ⟨g, 16, none⟩ = some (.int .u16 0) := by
          have h := hA3.cell (i := 16) (by rw [List.length_replicate]; decide)
          simpa using h
        have hf16 := hA3.frozen 16
        have hbW3 := Lib.hid (hbW.out.trans (hb3.mono hbW.out.size))
        have hT3 := Lib.hid (hT.out.keep hb3)
        have ha4 : Arr (w3.setCell ⟨g, 16, none⟩ (.int .u16 1)) g x16 := hA3.set_ 16 1
        have hb4 : Below W.heap.size W (w3.setCell ⟨g, 16, none⟩ (.int .u16 1)) := hb3.setCell (p := ⟨g, 16, none⟩) hg _
        have hgT : w.heap.size ≠ g := by have := hT.out.lt; omega
        have hT4 : Tb (w3.setCell ⟨g, 16, none⟩ (.int .u16 1)) w.heap.size cs := hT3.out.other _ _ (by show w.heap.size ≠ g; exact hgT)
        go_wp2_with fail
        have h9w : w3.heap.size = (w3.setCell ⟨g, 16, none⟩ (.int .u16 1)).heap.size := by simp [World.setCell]
        go_step3
        rename_i K1 hk1
        have hW4 : Below w.heap.size w (w3.setCell ⟨g, 16, none⟩ (.int .u16 1)) := hbW.out.trans (hb4.mono hbW.out.size)
        have hs4 : Sl (w3.setCell ⟨g, 16, none⟩ (.int .u16 1)) (w3.setCell ⟨g, 16, none⟩ (.int .u16 1)).heap.size (some ⟨g2, 0, none⟩) T := (hs3.far (p := ⟨g, 16, none⟩) hne _).sl hy
        rw [h9w]
        generalize w3.setCell ⟨g, 16, none⟩ (.int .u16 1) = w4 at *
        have hn5 := below_alloc w4 (.cells #[] 46)
        have hn6 := below_alloc (w4.alloc (.cells #[] 46)) (.cells #[.int .u16 1] 46)
        have hn := hn5.trans (hn6.mono hn5.size)
        have hv := sl_new (w4.alloc (.cells #[] 46)) (.cells #[.int .u16 1] 46) [1] (w4.heap.size + 1) (by simp) rfl (by decide)
        exact hk1 _ _ (body _ _ ⟨rfl, x16, T, [], [1], _, _, _, _, x16.length, T.length, 0, 1, by
          refine ⟨?_, by decide, Nat.le_refl _, Nat.le_refl _, ?_, hs4.far hn, Sl.nil _ _ _, hv, hW4.trans (hn.mono hW4.size), hT4.keep hn, rfl, rfl, rfl, rfl, rfl, rfl, rfl, rfl, rfl, rfl, rfl⟩
          · rw [← hTr.out]
            exact ei_start (tr_tr xs) (Nat.le_trans (tr_len xs) hl)
          · exact (ha4.sl (by decide)).far hn⟩)
      all_goals exact hm.elim
end Go.Proofs.YtjhoecfhmndcgaaGreat
namespace Go.Proofs.YtjhoecfhmndcgaaGreat
open Go.RowKit Go.Gf
set_option maxRecDepth 20000
attribute [local go_sem ↓] exec_load_tb Cl.quiet_since
attribute [local go_sem] tbAt_ptr tbIn_ptr

theorem at_row {cs : List Nat} (hl : Tab cs) (A : Option Addr) (c : Nat) (xs : List Nat) (w : World) {x V : Nat} (ha : Sl w w.heap.size A xs) (hla : xs.length ≤ 1000000) (hx : x < 1024) (hV : ev x xs = V) :
    Calls Tryz.prog 154 #[.agg (cells cs), .slice A xs.length c, .int .u16 (x : Int)] w (Leaves w (.int .u16 (V : Int))) := by
  have := val_at (w := w) (ca := c) (x := (x : Int)) hl ha hla (by omega) (by omega)
  rwa [show ((x : Int).toNat % 1024) = x by rw [Int.toNat_natCast]; omega, hV] at this
set_option maxHeartbeats 4000000 in
set_option maxRecDepth 20000 in
theorem off_any (cs : List Nat) (hcs : Tab cs) (A B : Option Addr) (ca cb : Nat) (b d : List Nat) (x : Nat) (w : World) (ha : Sl w w.heap.size A b) (hb : Sl w w.heap.size B d) (hla : b.length ≤ 1000000) (hlb : d.length ≤ 1000000) (hx : x < 1024) :
    Calls Tryz.prog 162 #[.agg (cells cs), .slice A b.length ca, .slice B d.length cb, .int .u16 (x : Int)] w (Leaves w (.int .u16 ((gm (ev x b) (ginv (ev x d)) : Nat) : Int))) := by
  have HCS := Lib.hid hcs
  have hbW : Hid (Below w.heap.size w (w.alloc (.cells (cells cs) 50))) := (Below.refl _ _).alloc (Nat.le_refl _) _
  have hT := Lib.hid (tb_new w cs)
  have HA := Lib.hid (ha.far hbW.out)
  have HB := Lib.hid (hb.far hbW.out)
  obtain ⟨D, hD⟩ : ∃ D, Hid (ev x d = D) := ⟨_, Lib.hid rfl⟩
  obtain ⟨V, hV⟩ : ∃ V, Hid (ev x b = V) := ⟨_, Lib.hid rfl⟩
  have hD1 : D < 1024 := by rw [← hD.out]; exact ev_lt _ _
  have hV1 : V < 1024 := by rw [← hV.out]; exact ev_lt _ _
  rw [hV.out, hD.out]
  obtain ⟨G, hG⟩ : ∃ G, Hid (ginv D = G) := ⟨_, Lib.hid rfl⟩
  have hG1 : G < 1024 := by rw [← hG.out]; exact ginv_lt _
  obtain ⟨ok, hok⟩ : ∃ ok, (((D : Int) % 1024 != 0) = ok) := ⟨_, rfl⟩
  have hInv : Hid (InvIs D G ok) := invIs (by omega) (by omega) (by
    unfold invI
    rw [Int.toNat_natCast, Nat.mod_eq_of_lt hD1, hG.out]) hok
  have hMul : Hid (MulIs V G ((gm V G : Nat) : Int)) := mulIs (by omega) (by omega) (by omega) (by omega) (mulI_nat hV1 hG1)
  rw [hG.out]
  generalize gm V G = Z at *
  clear ha hb hcs hok
  go_enter Tryz.func162, Tryz.ntmps162
  go_wp2_with fail
  refine Cl.region_way (fun _ => True) 11 [(0, .r), (1, .r), (2, .r), (3, .r), (4, .c), (5, .c), (6, .r), (7, .r), (8, .r), (9, .r), (10, .r)] (by kernel_rfl) (by kernel_rfl) ?_
  intro w1 hk1
  have HT1 := Lib.hid (Keeps.tb hk1 hT.out)
  have HB1 := Lib.hid (hbW.out.trans ((Cl.Keeps.below hk1).mono hbW.out.size))
  have HA1 := Lib.hid (HA.out.far (Cl.Keeps.below hk1))
  have HD1 := Lib.hid (HB.out.far (Cl.Keeps.below hk1))
  have hiA : ∀ y : Cl.Since (fun _ => True) w1, isTb y.w w.heap.size = true := fun y => (Keeps.tb y.keeps HT1.out).is HCS.out.1
  have hoA : ∀ y : Cl.Since (fun _ => True) w1, tbOf y.w w.heap.size = cells cs := fun y => (Keeps.tb y.keeps HT1.out).of
  iterate 4 (refine Cl.way_r rfl ?_; go_big_quiet_step (fail); refine wpQuiet_nil ?_)
  clear hk1 hiA hoA hT hbW HA HB
  have hc1 := Lib.hid (at_row HCS.out B cb d w1 HD1.out hlb hx hD.out)
  refine Cl.way_c rfl ?_
  go_wp2_with (go_at_call 154; (with_reducible refine hc1.out.mono ?_); rintro e w2 ⟨rfl, hb2⟩)
  refine Cl.way_on (Cl.Keeps.of_below hb2) ?_
  have HT2 := Lib.hid (HT1.out.keep hb2)
  have HB2 := Lib.hid (HB1.out.trans (hb2.mono HB1.out.size))
  have HA2 := Lib.hid (HA1.out.far hb2)
  clear hc1 hb2 HT1 HB1 HA1 HD1
  refine Cl.way_c rfl ?_
  go_wp2_with (go_at_call 168; (with_reducible refine (hInv.out.at HCS.out _).mono ?_); rintro e w3 ⟨rfl, hb3⟩)
  refine Cl.way_on (Cl.Keeps.of_below hb3) ?_
  have HT3 := Lib.hid (HT2.out.keep hb3)
  have HB3 := Lib.hid (HB2.out.trans (hb3.mono HB2.out.size))
  have HA3 := Lib.hid (HA2.out.far hb3)
  clear hb3 HT2 HB2 HA2
  iterate 5 (refine Cl.way_r rfl ?_; go_big_quiet_step (fail); refine wpQuiet_nil ?_)
  refine Cl.way_end ?_
  go_wp2_with fail
  refine Cl.region_way (fun _ => True) 8 [(0, .r), (1, .r), (2, .r), (3, .r), (5, .r), (4, .c), (6, .c), (7, .r)] (by kernel_rfl) (by kernel_rfl) ?_
  intro w4 hk4
  have HT4 := Lib.hid (Keeps.tb hk4 HT3.out)
  have HB4 := Lib.hid (HB3.out.trans ((Cl.Keeps.below hk4).mono HB3.out.size))
  have HA4 := Lib.hid (HA3.out.far (Cl.Keeps.below hk4))
  have hiA : ∀ y : Cl.Since (fun _ => True) w4, isTb y.w w.heap.size = true := fun y => (Keeps.tb y.keeps HT4.out).is HCS.out.1
  have hoA : ∀ y : Cl.Since (fun _ => True) w4, tbOf y.w w.heap.size = cells cs := fun y => (Keeps.tb y.keeps HT4.out).of
  iterate 5 (refine Cl.way_r rfl ?_; go_big_quiet_step (fail); refine wpQuiet_nil ?_)
  clear hk4 hiA hoA HT3 HB3 HA3
  have hc4 := Lib.hid (at_row HCS.out A ca b w4 HA4.out hla hx hV.out)
  refine Cl.way_c rfl ?_
  go_wp2_with (go_at_call 154; (with_reducible refine hc4.out.mono ?_); rintro e w5 ⟨rfl, hb5⟩)
  refine Cl.way_on (Cl.Keeps.of_below hb5) ?_
  have HB5 := Lib.hid (HB4.out.trans (hb5.mono HB4.out.size))
  clear hc4 hb5 HB4 HT4 HA4
  refine Cl.way_c rfl ?_
  go_wp2_with (go_at_call 163; (with_reducible refine (hMul.out.at cs _).mono ?_); rintro e w6 ⟨rfl, hb6⟩)
  refine Cl.way_on (Cl.Keeps.of_below hb6) ?_
  have HB6 := Lib.hid (HB5.out.trans (hb6.mono HB5.out.size))
  clear hb6 HB5
  iterate 1 (refine Cl.way_r rfl ?_; go_big_quiet_step (fail); refine wpQuiet_nil ?_)
  refine Cl.way_end ?_
  go_wp2_with fail
  go_ret
  exact ⟨rfl, HB6.out⟩
end Go.Proofs.YtjhoecfhmndcgaaGreat
