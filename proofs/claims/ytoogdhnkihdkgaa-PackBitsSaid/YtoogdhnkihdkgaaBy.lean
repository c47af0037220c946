/- Slices of bytes as lists; the reference's Symbols, Bytes. -/
import Derived.Test.YtoogdhnkihdkgaaAp
import Derived.Test.YtoogdhnkihdkgaaKa
namespace Go.Proofs.Ytoogdhnkihdkgaa
open Go.RowKit Go.Gf

def ub (n : Nat) : Value := .int .u8 (n : Int)
/-- a slice of bytes that holds xs, in blocks below B -/
def Sb (w : World) (B : Nat) (A : Option Addr) (xs : List Nat) : Prop := (∀ x ∈ xs, x < 256) ∧ (xs = [] ∨ ∃ a, A = some a ∧ a.block < B ∧ ∀ i (h : i < xs.length), w.cell? (a.add i) = some (ub xs[i]))
section
variable {w w' : World} {B B' : Nat} {A : Option Addr} {xs : List Nat}
theorem Sb.nil (w : World) (B : Nat) (A : Option Addr) : Sb w B A [] := ⟨by simp, Or.inl rfl⟩
theorem Sb.keep (h : Sb w B A xs) (hk : ∀ p : Addr, p.block < B → w'.cell? p = w.cell? p) : Sb w' B A xs := by
  refine ⟨h.1, ?_⟩
  rcases h.2 with e | ⟨a, e, h1, h2⟩
  · exact Or.inl e
  · exact Or.inr ⟨a, e, h1, fun i hi => by rw [hk _ (by rw [add_block]; exact h1)]; exact h2 i hi⟩
theorem Sb.more (h : Sb w B A xs) (hB : B ≤ B') : Sb w B' A xs := by
  refine ⟨h.1, ?_⟩
  rcases h.2 with e | ⟨a, e, h1, h2⟩
  · exact Or.inl e
  · exact Or.inr ⟨a, e, Nat.lt_of_lt_of_le h1 hB, h2⟩
theorem Sb.below (h : Sb w B A xs) (hb : Below B w w') : Sb w' B A xs := h.keep fun _ hp => hb.cell hp
theorem Sb.far (h : Sb w w.heap.size A xs) (hb : Below w.heap.size w w') : Sb w' w'.heap.size A xs := (h.below hb).more hb.size
theorem Sb.at_ {i : Nat} (h : Sb w B A xs) (hi : i < xs.length) : ∃ a, A = some a ∧ a.block < B ∧ w.cell? (a.add i) = some (.int .u8 ((xs[i] : Nat) : Int)) := by
  rcases h.2 with e | ⟨a, e, h1, h2⟩
  · rw [e] at hi; exact absurd hi (by simp)
  · exact ⟨a, e, h1, h2 i hi⟩
theorem Sb.take (h : Sb w B A xs) (k : Nat) : Sb w B A (xs.take k) := by
  refine ⟨fun x hx => h.1 x (List.mem_of_mem_take hx), ?_⟩
  rcases h.2 with e | ⟨a, e, h1, h2⟩
  · left; rw [e]; simp
  · right
    refine ⟨a, e, h1, fun i hi => ?_⟩
    have hi' : i < xs.length := by rw [List.length_take] at hi; omega
    rw [h2 i hi', List.getElem_take]
end
/-- block g holds these bytes, and no others -/
def Ab (w : World) (g : Nat) (cs : List Nat) : Prop := w.heap[g]? = some (.cells (cs.map ub).toArray 5 (0, 0))
section
variable {w w' : World} {g B : Nat} {cs : List Nat}
theorem Ab.lt (h : Ab w g cs) : g < w.heap.size := by
  rcases Nat.lt_or_ge g w.heap.size with hlt | hge
  · exact hlt
  · unfold Ab at h; rw [Array.getElem?_eq_none hge] at h; cases h
theorem Ab.cell (h : Ab w g cs) {i : Nat} (hi : i < cs.length) : w.cell? ⟨g, i, none⟩ = some (.int .u8 ((cs[i] : Nat) : Int)) := by
  rw [cell_of_row w g i _ 5 (0, 0) h]
  simp [hi, ub]
theorem Ab.frozen (h : Ab w g cs) (i : Nat) : w.frozen? ⟨g, i, none⟩ = false := by
  unfold Ab at h
  simp [World.frozen?, h]
theorem Ab.new (w : World) (cs : List Nat) : Ab (w.alloc (.cells (cs.map ub).toArray 5)) w.heap.size cs := heap_alloc_new w _
theorem Ab.set_ (h : Ab w g cs) (i n : Nat) : Ab (w.setCell ⟨g, i, none⟩ (.int .u8 (n : Int))) g (cs.set i n) := by
  unfold Ab at *
  simp only [World.setCell]
  rw [Array.getElem?_modify, h]
  simp [List.map_set, ub]
theorem Ab.below (h : Ab w g cs) (hb : Below B w w') (hg : g < B) : Ab w' g cs := (hb.block g hg).trans h
theorem Ab.sb (h : Ab w g cs) (hc : ∀ x ∈ cs, x < 256) : Sb w w.heap.size (some ⟨g, 0, none⟩) cs := by
  refine ⟨hc, Or.inr ⟨_, rfl, h.lt, fun i hi => ?_⟩⟩
  have e : (⟨g, 0, none⟩ : Addr).add i = ⟨g, i, none⟩ := by unfold Addr.add; split <;> simp_all
  rw [e]; exact h.cell hi
end
theorem made_ub (n : Nat) : madeCells #[.int .u8 0] n = ((List.replicate n 0).map ub).toArray := by
  unfold madeCells
  apply Array.ext
  · simp
  · intro i h1 h2
    simp [ub, Nat.mod_one]
theorem info5 : (Try.prog.info? 5).map (fun i => (i.zero, i.size, i.bytes)) = some (some (.int .u8 0), 1, 1) := by kernel_rfl

/-- a number, none below nought and none above 2^40 -/
def clampN (n : Int) : Nat := (min (max n 0) 1099511627776).toNat
def bytN (n : Nat) : Nat := 10 * n / 8
set_option maxHeartbeats 1000000 in
theorem refsymbols_any (n : Int) (w : World) : Calls Try.prog 15 #[.int .i64 n] w fun e w' => e = .returned (.int .i64 ((symN (clampN n) : Nat) : Int)) ∧ w = w' := by
  obtain ⟨m, hm⟩ : ∃ m : Nat, m = clampN n := ⟨_, rfl⟩
  have hm1 : m ≤ 1099511627776 := by rw [hm]; unfold clampN; omega
  have hs : ((symN m : Nat) : Int) = (8 * (m : Int) + 9) / 10 := by unfold symN; omega
  rw [← hm]
  rcases Int.lt_or_le n 0 with h0 | h0
  · have hn : m = 0 := by rw [hm]; unfold clampN; omega
    go_enter Try.func15, Try.ntmps15
    go_wp2_with fail
    go_ret
    exact ⟨by rw [hs, hn]; rfl, rfl⟩
  · rcases Int.lt_or_le 1099511627776 n with h1 | h1
    · have hn : m = 1099511627776 := by rw [hm]; unfold clampN; omega
      go_enter Try.func15, Try.ntmps15
      go_wp2_with fail
      go_ret
      exact ⟨by rw [hs, hn]; rfl, rfl⟩
    · have hn : n = (m : Int) := by rw [hm]; unfold clampN; omega
      clear hm
      subst hn
      go_enter Try.func15, Try.ntmps15
      go_wp2_with fail
      go_ret
      exact ⟨by rw [hs]; rfl, rfl⟩
set_option maxHeartbeats 1000000 in
theorem refbytes_any (n : Int) (w : World) : Calls Try.prog 17 #[.int .i64 n] w fun e w' => e = .returned (.int .i64 ((bytN (clampN n) : Nat) : Int)) ∧ w = w' := by
  obtain ⟨m, hm⟩ : ∃ m : Nat, m = clampN n := ⟨_, rfl⟩
  have hm1 : m ≤ 1099511627776 := by rw [hm]; unfold clampN; omega
  have hs : ((bytN m : Nat) : Int) = 10 * (m : Int) / 8 := by unfold bytN; omega
  rw [← hm]
  rcases Int.lt_or_le n 0 with h0 | h0
  · have hn : m = 0 := by rw [hm]; unfold clampN; omega
    go_enter Try.func17, Try.ntmps17
    go_wp2_with fail
    go_ret
    exact ⟨by rw [hs, hn]; rfl, rfl⟩
  · rcases Int.lt_or_le 1099511627776 n with h1 | h1
    · have hn : m = 1099511627776 := by rw [hm]; unfold clampN; omega
      go_enter Try.func17, Try.ntmps17
      go_wp2_with fail
      go_ret
      exact ⟨by rw [hs, hn]; rfl, rfl⟩
    · have hn : n = (m : Int) := by rw [hm]; unfold clampN; omega
      clear hm
      subst hn
      go_enter Try.func17, Try.ntmps17
      go_wp2_with fail
      go_ret
      exact ⟨by rw [hs]; rfl, rfl⟩
theorem shr_bit8 (X s : Nat) (hX : X < 256) : (bits .and .u8 ((X : Int) / 2 ^ s) 1 == 1) = X.testBit s := by
  have e : ((X : Int) / 2 ^ s) = ((X / 2 ^ s : Nat) : Int) := by push_cast; rfl
  have h : bits .and .u8 ((X / 2 ^ s : Nat) : Int) 1 = ((X / 2 ^ s &&& 1 : Nat) : Int) := u8_and_nat (X / 2 ^ s) 1 (Nat.lt_of_le_of_lt (Nat.div_le_self _ _) hX) (by decide)
  rw [e, h, nat_mask1, Nat.testBit_eq_decide_div_mod_eq]
  by_cases h2 : X / 2 ^ s % 2 = 1
  · rw [h2]; rfl
  · rw [show X / 2 ^ s % 2 = 0 by omega]; rfl
theorem shr_bit16 (X s : Nat) (hX : X < 65536) : (bits .and .u16 ((X : Int) / 2 ^ s) 1 == 1) = X.testBit s := by
  have e : ((X : Int) / 2 ^ s) = ((X / 2 ^ s : Nat) : Int) := by push_cast; rfl
  have h : bits .and .u16 ((X / 2 ^ s : Nat) : Int) 1 = ((X / 2 ^ s &&& 1 : Nat) : Int) := u16_and_nat (X / 2 ^ s) 1 (Nat.lt_of_le_of_lt (Nat.div_le_self _ _) hX) (by decide)
  rw [e, h, nat_mask1, Nat.testBit_eq_decide_div_mod_eq]
  by_cases h2 : X / 2 ^ s % 2 = 1
  · rw [h2]; rfl
  · rw [show X / 2 ^ s % 2 = 0 by omega]; rfl
theorem wrap16 (s : Nat) (h : s < 16) : IntKind.u16.wrap (2 ^ s) = ((2 ^ s : Nat) : Int) := (by decide : ∀ s : Fin 16, IntKind.u16.wrap (2 ^ s.val) = ((2 ^ s.val : Nat) : Int)) ⟨s, h⟩
theorem wrap8 (s : Nat) (h : s < 8) : IntKind.u8.wrap (2 ^ s) = ((2 ^ s : Nat) : Int) := (by decide : ∀ s : Fin 8, IntKind.u8.wrap (2 ^ s.val) = ((2 ^ s.val : Nat) : Int)) ⟨s, h⟩
theorem or_set16 {V s : Nat} (hV : V < 1024) (hs : s < 10) : bits .or .u16 (V : Int) (IntKind.u16.wrap (2 ^ s)) = ((V ||| 2 ^ s : Nat) : Int) := by
  have : 2 ^ s < 1024 := Nat.pow_lt_pow_right (by decide) hs
  rw [wrap16 s (by omega), u16_or_nat V (2 ^ s) (by omega) (by omega)]
theorem or_set8 {V s : Nat} (hV : V < 256) (hs : s < 8) : bits .or .u8 (V : Int) (IntKind.u8.wrap (2 ^ s)) = ((V ||| 2 ^ s : Nat) : Int) := by
  have : 2 ^ s < 256 := Nat.pow_lt_pow_right (by decide) hs
  rw [wrap8 s hs, u8_or_nat V (2 ^ s) (by omega) (by omega)]
theorem or_set8' {V s : Nat} (hV : V < 256) (hs : s < 8) : bits .or .u8 (V : Int) (2 ^ s % 256) = ((V ||| 2 ^ s : Nat) : Int) := by
  have h := or_set8 hV hs
  rw [show IntKind.u8.wrap (2 ^ s) = 2 ^ s % 256 from rfl] at h
  exact h
/-- a row of 16-bit numbers in new memory -/
def RowU (w : World) (ys : List Nat) (e : Ending) (w' : World) : Prop := ∃ g, e = .returned (.slice (some ⟨g, 0, none⟩) ys.length ys.length) ∧ w.heap.size ≤ g ∧ Arr w' g ys ∧ Below w.heap.size w w'
set_option maxHeartbeats 4000000 in
theorem refpack_any (A : Option Addr) (c : Nat) (xs : List Nat) (w : World) (h : Sb w w.heap.size A xs) (hl : xs.length ≤ 1000000) :
    Calls Try.prog 13 #[.slice A xs.length c] w (RowU w (pk xs)) := by
  have H := Lib.hid h
  clear h
  obtain ⟨n, hn⟩ : ∃ n, Hid (symN xs.length = n) := ⟨_, Lib.hid rfl⟩
  have hn1 : n ≤ 1000000 := by rw [← hn.out]; unfold symN; omega
  have hcl : clampN (xs.length : Int) = xs.length := by unfold clampN; omega
  have hc := refsymbols_any (xs.length : Int) w
  rw [hcl, hn.out] at hc
  replace hc := Lib.hid hc
  have hmk : ∀ w, (Instr.makeSlice 23 (.int .i64 (n : Int)) (.int .i64 (n : Int))).run Try.prog w = .ok (.slice (some ⟨w.heap.size, 0, none⟩) n n) (w.alloc (.cells (madeCells #[.int .u16 0] n) 34)) :=
    run_make_row' (P := Try.prog) 23 34 (.int .u16 0) 2 Try.underlying23 info22 rfl .i64 .i64 n (by omega) (by omega)
  go_enter Try.func13, Try.ntmps13
  go_wp2_with (go_at_call 15; (with_reducible refine hc.out.mono ?_); rintro e w1 ⟨rfl, rfl⟩)
  have hO := (own_start w n).congr (f' := pkTo xs 0) fun j _ => (pkTo_zero xs j).symm
  generalize w.alloc (.cells (madeCells #[.int .u16 0] n) 34) = w0 at hO ⊢
  go_loopw [4] (fun q wr => ∃ i : Nat, i ≤ 8 * xs.length ∧ q = .int .i64 i ∧ Own w wr w.heap.size n (pkTo xs i)) (fun q _ => 8 * xs.length - (intOf q).toNat)
  case atStart => exact ⟨0, Nat.zero_le _, rfl, hO⟩
  case round =>
    clear hO
    obtain ⟨i, hi, rfl, HO⟩ := hrel
    replace HO := Lib.hid HO
    by_cases hlt : i < 8 * xs.length
    · have hd : decide ((i : Int) < 8 * (xs.length : Int)) = true := by rw [decide_eq_true_eq]; omega
      obtain ⟨q, hq⟩ : ∃ q : Nat, (i : Int) / 8 = (q : Int) := ⟨i / 8, by omega⟩
      obtain ⟨s, hs⟩ : ∃ s : Nat, 7 - (i : Int) % 8 = (s : Int) := ⟨7 - i % 8, by omega⟩
      have hql : q < xs.length := by omega
      have hqI : (q : Int) < (xs.length : Int) := by omega
      have hs8 : s < 8 := by omega
      obtain ⟨a, hAe, hab, hcell⟩ := (H.out.far HO.out.2.1).at_ hql
      subst hAe
      have hx := H.out.1 xs[q] (List.getElem_mem hql)
      obtain ⟨q2, hq2⟩ : ∃ q : Nat, (i : Int) / 10 = (q : Int) := ⟨i / 10, by omega⟩
      obtain ⟨s2, hs2⟩ : ∃ s : Nat, 9 - (i : Int) % 10 = (s : Int) := ⟨9 - i % 10, by omega⟩
      have hs10 : s2 < 10 := by omega
      have hq2n : q2 < n := by have := hn.out; unfold symN at this; omega
      have hq2I : (q2 : Int) < (n : Int) := by omega
      have hc2 := HO.out.cell hq2n
      have hf2 := HO.out.2.2.frozen q2
      obtain ⟨X, hX⟩ : ∃ X, Hid (xs[q] = X) := ⟨_, Lib.hid rfl⟩
      rw [hX.out] at hcell hx
      obtain ⟨V, hV⟩ : ∃ V, Hid (pkTo xs i q2 = V) := ⟨_, Lib.hid rfl⟩
      have hV1 : V < 1024 := by rw [← hV.out]; exact pkTo_lt _ _ _
      rw [hV.out] at hc2
      have hbt := shr_bit8 X s hx
      have hbe : Hid (bit8 xs i = X.testBit s) := by
        unfold Hid bit8
        rw [show i / 8 = q by omega, show 7 - i % 8 = s by omega, at_get hql, hX.out]
      have hor := or_set16 hV1 hs10
      obtain ⟨b, hb⟩ : ∃ b, Hid (X.testBit s = b) := ⟨_, Lib.hid rfl⟩
      rw [hb.out] at hbt hbe
      cases b
      · have HO2 : Hid (Own w wr w.heap.size n (pkTo xs (i + 1))) := HO.out.congr fun j _ => by
          rw [pkTo_step, if_neg]
          intro h
          rw [hbe.out] at h
          cases h.2
        clear hc2 hf2 HO
        go_wp2_with fail
        go_roundw
        case rel => exact ⟨i + 1, by omega, by go_num, HO2.out⟩
        case measure => simp [intOf]; omega
      · have HO2 : Hid (Own w (wr.setCell ⟨w.heap.size, q2, none⟩ (.int .u16 ((V ||| 2 ^ s2 : Nat) : Int))) w.heap.size n (pkTo xs (i + 1))) := (HO.out.set_ q2 (V ||| 2 ^ s2)).congr fun j _ => by
          rw [pkTo_step, hbe.out]
          by_cases e : j = q2
          · rw [if_pos e, if_pos ⟨by omega, rfl⟩, e, hV.out, show 9 - i % 10 = s2 by omega]
          · rw [if_neg e, if_neg (fun h => e (by have := h.1; omega))]
        obtain ⟨Z, hZ⟩ : ∃ Z, Hid (V ||| 2 ^ s2 = Z) := ⟨_, Lib.hid rfl⟩
        rw [hZ.out] at hor HO2
        clear HO
        go_wp2_with fail
        go_roundw
        case rel => exact ⟨i + 1, by omega, by go_num, HO2.out⟩
        case measure => simp [intOf]; omega
    · obtain rfl : i = 8 * xs.length := by omega
      have hd : decide ((((8 * xs.length : Nat)) : Int) < 8 * (xs.length : Int)) = false := by rw [decide_eq_false_iff_not]; omega
      have hA := HO.out.2.2
      have e : rm n (pkTo xs (8 * xs.length)) = pk xs := by
        unfold pk
        rw [hn.out]
        exact rm_congr fun j _ => pkTo_end xs j
      rw [e] at hA
      have hpl : Hid ((pk xs).length = n) := by rw [← hn.out]; exact Lib.hid (pk_len xs)
      have hb := HO.out.2.1
      replace hA := Lib.hid hA
      replace hb := Lib.hid hb
      clear HO e
      go_wp2_with fail
      go_ret
      exact ⟨w.heap.size, by rw [hpl.out]; rfl, Nat.le_refl _, hA.out, hb.out⟩
/-- what Unpack answers: an error's number, and bytes -/
def upkE (s : List Nat) (n : Int) : Nat := if n < 0 ∨ (bytN s.length : Int) < n then 3 else if s.any (fun x => decide (1024 ≤ x)) = true then 1 else 0
def upkW (s : List Nat) (n : Int) : List Nat := if upkE s n = 0 then upk s n.toNat else []
/-- a slice of bytes and an error's number -/
def RowB (w : World) (ys : List Nat) (f : Nat) (e : Ending) (w' : World) : Prop := ∃ A c, e = .returned (.tuple #[.slice A ys.length c, .int .i64 (f : Int)]) ∧ ys.length ≤ c ∧ Sb w' w'.heap.size A ys ∧ Below w.heap.size w w'
theorem upkE_size {s : List Nat} {n : Int} (h : n < 0 ∨ (bytN s.length : Int) < n) : upkE s n = 3 := by unfold upkE; rw [if_pos h]
theorem upkE_big {s : List Nat} {n : Int} (h : ¬ (n < 0 ∨ (bytN s.length : Int) < n)) {k : Nat} (hk : k < s.length) (hb : 1024 ≤ s[k]) : upkE s n = 1 := by
  unfold upkE
  rw [if_neg h, if_pos]
  exact List.any_eq_true.2 ⟨s[k], List.getElem_mem hk, by simpa using hb⟩
theorem upkE_ok {s : List Nat} {n : Int} (h : ¬ (n < 0 ∨ (bytN s.length : Int) < n)) (hb : ∀ k (h : k < s.length), s[k] < 1024) : upkE s n = 0 := by
  unfold upkE
  rw [if_neg h, if_neg]
  intro e
  obtain ⟨x, hx, h2⟩ := List.any_eq_true.1 e
  obtain ⟨k, hk, rfl⟩ := List.getElem_of_mem hx
  have := hb k hk
  simp at h2; omega
/-- a row of bytes of one's own -/
def OwnB (w wr : World) (g n : Nat) (f : Nat → Nat) : Prop := w.heap.size ≤ g ∧ Below w.heap.size w wr ∧ Ab wr g (rm n f)
section
variable {w wr : World} {g n : Nat} {f f' : Nat → Nat}
theorem ownB_start (w : World) (n : Nat) : OwnB w (w.alloc (.cells (madeCells #[.int .u8 0] n) 5)) w.heap.size n (fun _ => 0) := by
  refine ⟨Nat.le_refl _, (Below.refl _ _).alloc (Nat.le_refl _) _, ?_⟩
  rw [made_ub, rm_zero]
  exact Ab.new w _
theorem OwnB.set_ (h : OwnB w wr g n f) (i v : Nat) : OwnB w (wr.setCell ⟨g, i, none⟩ (.int .u8 (v : Int))) g n (fun j => if j = i then v else f j) := by
  refine ⟨h.1, h.2.1.setCell h.1 _, ?_⟩
  rw [← rm_set]; exact h.2.2.set_ i v
theorem OwnB.congr (h : OwnB w wr g n f) (e : ∀ j, j < n → f j = f' j) : OwnB w wr g n f' := by
  refine ⟨h.1, h.2.1, ?_⟩
  rw [← rm_congr e]; exact h.2.2
theorem OwnB.cell (h : OwnB w wr g n f) {i : Nat} (hi : i < n) : wr.cell? ⟨g, i, none⟩ = some (.int .u8 ((f i : Nat) : Int)) := by
  have := h.2.2.cell (i := i) (by rw [rm_len]; exact hi)
  rw [rm_get] at this; exact this
end
set_option maxHeartbeats 4000000 in
theorem refunpack_any (A : Option Addr) (c : Nat) (xs : List Nat) (n : Int) (w : World) (h : Sl w w.heap.size A xs) (hl : xs.length ≤ 1000000) :
    Calls Try.prog 11 #[.slice A xs.length c, .int .i64 n] w (RowB w (upkW xs n) (upkE xs n)) := by
  have H := Lib.hid h
  clear h
  have hcl : clampN (xs.length : Int) = xs.length := by unfold clampN; omega
  have hc := refbytes_any (xs.length : Int) w
  rw [hcl] at hc
  obtain ⟨bl, hbl⟩ : ∃ bl, Hid (bytN xs.length = bl) := ⟨_, Lib.hid rfl⟩
  have hbl1 : bl ≤ 2000000 := by rw [← hbl.out]; unfold bytN; omega
  rw [hbl.out] at hc
  replace hc := Lib.hid hc
  have hbig : Hid (¬ (n < 0 ∨ (bl : Int) < n) → ∀ k (h : k < xs.length), 1024 ≤ xs[k] → upkE xs n = 1 ∧ upkW xs n = []) := fun hs k hk hb => by
    rw [← hbl.out] at hs
    have e := upkE_big hs hk hb
    exact ⟨e, by unfold upkW; rw [e]; rfl⟩
  have hok : Hid (¬ (n < 0 ∨ (bl : Int) < n) → (∀ k (h : k < xs.length), xs[k] < 1024) → upkE xs n = 0 ∧ upkW xs n = upk xs n.toNat) := fun hs hb => by
    rw [← hbl.out] at hs
    have e := upkE_ok hs hb
    exact ⟨e, by unfold upkW; rw [if_pos e]⟩
  have hno : Hid ((n < 0 ∨ (bl : Int) < n) → upkE xs n = 3 ∧ upkW xs n = []) := fun hs => by
    rw [← hbl.out] at hs
    have e := upkE_size hs
    exact ⟨e, by unfold upkW; rw [e]; rfl⟩
  obtain ⟨W, hW⟩ : ∃ W, upkW xs n = W := ⟨_, rfl⟩
  obtain ⟨E, hE⟩ : ∃ E, upkE xs n = E := ⟨_, rfl⟩
  rw [hW, hE] at hbig hok hno ⊢
  clear hW hE
  rcases Int.lt_or_le n 0 with hn0 | hn0
  · obtain ⟨rfl, rfl⟩ := hno.out (Or.inl hn0)
    have hd : decide (n < 0) = true := decide_eq_true hn0
    go_enter Try.func11, Try.ntmps11
    go_wp2_with fail
    go_ret2
    exact ⟨none, 0, rfl, Nat.le_refl _, Sb.nil _ _ _, Below.refl _ _⟩
  · have hd0 : decide (n < 0) = false := decide_eq_false (by omega)
    by_cases hn1 : (bl : Int) < n
    · obtain ⟨rfl, rfl⟩ := hno.out (Or.inr hn1)
      have hd1 : decide ((bl : Int) < n) = true := decide_eq_true hn1
      go_enter Try.func11, Try.ntmps11
      go_wp2_with (go_at_call 17; (with_reducible refine hc.out.mono ?_); rintro e w1 ⟨rfl, rfl⟩)
      go_ret2
      exact ⟨none, 0, rfl, Nat.le_refl _, Sb.nil _ _ _, Below.refl _ _⟩
    · have hd1 : decide ((bl : Int) < n) = false := decide_eq_false hn1
      obtain ⟨m, rfl⟩ : ∃ m : Nat, n = (m : Int) := ⟨n.toNat, by omega⟩
      have hs : ¬ ((m : Int) < 0 ∨ (bl : Int) < (m : Int)) := by omega
      have hbig2 := Lib.hid (hbig.out hs)
      have hok2 := Lib.hid (hok.out hs)
      have hml : Hid (m ≤ 10 * xs.length / 8) := by have := hbl.out; unfold bytN at this; unfold Hid; omega
      have hm6 : m ≤ 2000000 := by omega
      have hd2 : decide (bl < m) = false := by rw [decide_eq_false_iff_not]; omega
      have hmk : ∀ w, (Instr.makeSlice 22 (.int .i64 (m : Int)) (.int .i64 (m : Int))).run Try.prog w = .ok (.slice (some ⟨w.heap.size, 0, none⟩) m m) (w.alloc (.cells (madeCells #[.int .u8 0] m) 5)) :=
        run_make_row' (P := Try.prog) 22 5 (.int .u8 0) 1 Try.underlying22 info5 rfl .i64 .i64 m (by omega) (by omega)
      clear hbig hok hno hs hn1
      go_enter Try.func11, Try.ntmps11
      go_wp2_with (go_at_call 17; (with_reducible refine hc.out.mono ?_); rintro e w1 ⟨rfl, rfl⟩)
      go_loop [6] (fun n => ∃ k : Nat, k ≤ xs.length ∧ Hid (∀ j (h : j < xs.length), j < k → xs[j] < 1024) ∧ n = .int .i64 k) (fun n => xs.length - (intOf n).toNat)
      case atStart => exact ⟨0, Nat.zero_le _, Lib.hid (fun j _ h => absurd h (by omega)), rfl⟩
      case round =>
        obtain ⟨k, hk, HK, rfl⟩ := hrel
        by_cases hlt : k < xs.length
        · obtain ⟨a, rfl, hab, hcell⟩ := H.out.at_ hlt
          have hx := H.out.1 xs[k] (List.getElem_mem hlt)
          by_cases hb : 1024 ≤ xs[k]
          · obtain ⟨rfl, rfl⟩ := hbig2.out k hlt hb
            have hd : decide ((1024 : Int) ≤ (xs[k] : Int)) = true := by rw [decide_eq_true_eq]; omega
            clear hb
            go_wp2_with fail
            go_ret2
            exact ⟨none, 0, rfl, Nat.le_refl _, Sb.nil _ _ _, Below.refl _ _⟩
          · have hd : decide ((1024 : Int) ≤ (xs[k] : Int)) = false := by rw [decide_eq_false_iff_not]; omega
            have HK' : Hid (∀ j (h : j < xs.length), j < k + 1 → xs[j] < 1024) := fun j hj hjk => by
              rcases Nat.lt_or_ge j k with h1 | h1
              · exact HK.out j hj h1
              · obtain rfl : j = k := by omega
                omega
            clear hb HK
            go_wp2_with fail
            go_round
            case rel => exact ⟨k + 1, by omega, HK', by go_num⟩
            case measure => simp [intOf]; omega
        · obtain rfl : k = xs.length := by omega
          obtain ⟨rfl, rfl⟩ := hok2.out (fun j hj => HK.out j hj hj)
          rw [Int.toNat_natCast]
          clear HK hbig2 hok2
          go_wp2_with fail
          have hO := (ownB_start w m).congr (f' := upkTo xs 0) fun j _ => (upkTo_zero xs j).symm
          generalize w.alloc (.cells (madeCells #[.int .u8 0] m) 5) = w0 at hO ⊢
          go_loopw [8] (fun q wr => ∃ i : Nat, i ≤ 8 * m ∧ q = .int .i64 i ∧ OwnB w wr w.heap.size m (upkTo xs i)) (fun q _ => 8 * m - (intOf q).toNat)
          case atStart => exact ⟨0, Nat.zero_le _, rfl, hO⟩
          case round =>
            clear hO
            obtain ⟨i, hi, rfl, HO⟩ := hrel
            replace HO := Lib.hid HO
            by_cases hlt : i < 8 * m
            · have hd : decide ((i : Int) < 8 * (m : Int)) = true := by rw [decide_eq_true_eq]; omega
              obtain ⟨q, hq⟩ : ∃ q : Nat, (i : Int) / 10 = (q : Int) := ⟨i / 10, by omega⟩
              obtain ⟨s, hs⟩ : ∃ s : Nat, 9 - (i : Int) % 10 = (s : Int) := ⟨9 - i % 10, by omega⟩
              have hql : q < xs.length := by have := hml.out; omega
              have hqI : (q : Int) < (xs.length : Int) := by omega
              have hs8 : s < 10 := by omega
              obtain ⟨a, hAe, hab, hcell⟩ := (H.out.far HO.out.2.1).at_ hql
              subst hAe
              have hx := H.out.1 xs[q] (List.getElem_mem hql)
              obtain ⟨q2, hq2⟩ : ∃ q : Nat, (i : Int) / 8 = (q : Int) := ⟨i / 8, by omega⟩
              obtain ⟨s2, hs2⟩ : ∃ s : Nat, 7 - (i : Int) % 8 = (s : Int) := ⟨7 - i % 8, by omega⟩
              have hs10 : s2 < 8 := by omega
              have hq2n : q2 < m := by omega
              have hq2I : (q2 : Int) < (m : Int) := by omega
              have hc2 := HO.out.cell hq2n
              have hf2 := HO.out.2.2.frozen q2
              obtain ⟨X, hX⟩ : ∃ X, Hid (xs[q] = X) := ⟨_, Lib.hid rfl⟩
              rw [hX.out] at hcell hx
              obtain ⟨V, hV⟩ : ∃ V, Hid (upkTo xs i q2 = V) := ⟨_, Lib.hid rfl⟩
              have hV1 : V < 256 := by rw [← hV.out]; exact upkTo_lt _ _ _
              rw [hV.out] at hc2
              have hbt := shr_bit16 X s hx
              have hbe : Hid (bit10 xs i = X.testBit s) := by
                unfold Hid bit10
                rw [show i / 10 = q by omega, show 9 - i % 10 = s by omega, at_get hql, hX.out]
              have hor := or_set8' hV1 hs10
              obtain ⟨b, hb⟩ : ∃ b, Hid (X.testBit s = b) := ⟨_, Lib.hid rfl⟩
              rw [hb.out] at hbt hbe
              cases b
              · have HO2 : Hid (OwnB w wr w.heap.size m (upkTo xs (i + 1))) := HO.out.congr fun j _ => by
                  rw [upkTo_step, if_neg]
                  intro h
                  rw [hbe.out] at h
                  cases h.2
                clear hc2 hf2 HO
                go_wp2_with fail
                go_roundw
                case rel => exact ⟨i + 1, by omega, by go_num, HO2.out⟩
                case measure => simp [intOf]; omega
              · have HO2 : Hid (OwnB w (wr.setCell ⟨w.heap.size, q2, none⟩ (.int .u8 ((V ||| 2 ^ s2 : Nat) : Int))) w.heap.size m (upkTo xs (i + 1))) := (HO.out.set_ q2 (V ||| 2 ^ s2)).congr fun j _ => by
                  rw [upkTo_step, hbe.out]
                  by_cases e : j = q2
                  · rw [if_pos e, if_pos ⟨by omega, rfl⟩, e, hV.out, show 7 - i % 8 = s2 by omega]
                  · rw [if_neg e, if_neg (fun h => e (by have := h.1; omega))]
                obtain ⟨Z, hZ⟩ : ∃ Z, Hid (V ||| 2 ^ s2 = Z) := ⟨_, Lib.hid rfl⟩
                rw [hZ.out] at hor HO2
                clear HO
                go_wp2_with fail
                go_roundw
                case rel => exact ⟨i + 1, by omega, by go_num, HO2.out⟩
                case measure => simp [intOf]; omega
            · obtain rfl : i = 8 * m := by omega
              have hd : decide ((((8 * m : Nat)) : Int) < 8 * (m : Int)) = false := by rw [decide_eq_false_iff_not]; omega
              have hA := HO.out.2.2
              have e : rm m (upkTo xs (8 * m)) = upk xs m := by
                unfold upk
                exact rm_congr fun j hj => upkTo_end hj
              rw [e] at hA
              have hpl : Hid ((upk xs m).length = m) := upk_len xs m
              have hb := HO.out.2.1
              have hsb := Lib.hid (hA.sb (upk_bd xs m))
              replace hb := Lib.hid hb
              clear HO e hA
              go_wp2_with fail
              go_ret2
              exact ⟨some ⟨w.heap.size, 0, none⟩, m, by rw [Int.toNat_natCast, hpl.out]; rfl, by rw [Int.toNat_natCast, hpl.out]; exact Nat.le_refl _, by rw [Int.toNat_natCast]; exact hsb.out, hb.out⟩
end Go.Proofs.Ytoogdhnkihdkgaa
