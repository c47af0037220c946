/- Slices of bytes as lists; the reference's Symbols, Bytes. · Bytes as strings. · What the calls of chapter 5 answer: words. -/
import Derived.Test.YtmchelbmeajcnaaAp
import Derived.Test.YtmchelbmeajcnaaKa
import Derived.Laws.IdiomStrings
import Derived.Test.YtmchelbmeajcnaaSi
namespace Go.Proofs.Ytmchelbmeajcnaa
open Go.RowKit Go.Gf

def ub (n : Nat) : Value := .int .u8 (n : Int)
/-- a slice of bytes that holds xs, in blocks below B -/
def Sb (w : World) (B : Nat) (A : Option Addr) (xs : List Nat) : Prop := (∀ x ∈ xs, x < 256) ∧ (xs = [] ∨ ∃ a, A = some a ∧ a.block < B ∧ ∀ i (h : i < xs.length), w.cell? (a.add i) = some (ub xs[i]))
section
variable {w w' : World} {B B' : Nat} {A : Option Addr} {xs : List Nat}
theorem Sb.nil (w : World) (B : Nat) (A : Option Addr) : Sb w B A [] := ⟨by simp, Or.inl rfl⟩
theorem Sb.keep (h : Sb w B A xs) (hk : ∀ p : Addr, p.block < B → w'.cell? p = w.cell? p) : Sb w' B A xs := by
  refine ⟨h.1, ?_⟩
  rcases h.2 with e | ⟨a, e, h1, h2⟩
  · exact Or.inl e
  · exact Or.inr ⟨a, e, h1, fun i hi => by rw [hk _ (by rw [add_block]; exact h1)]; exact h2 i hi⟩
theorem Sb.more (h : Sb w B A xs) (hB : B ≤ B') : Sb w B' A xs := by
  refine ⟨h.1, ?_⟩
  rcases h.2 with e | ⟨a, e, h1, h2⟩
  · exact Or.inl e
  · exact Or.inr ⟨a, e, Nat.lt_of_lt_of_le h1 hB, h2⟩
theorem Sb.below (h : Sb w B A xs) (hb : Below B w w') : Sb w' B A xs := h.keep fun _ hp => hb.cell hp
theorem Sb.far (h : Sb w w.heap.size A xs) (hb : Below w.heap.size w w') : Sb w' w'.heap.size A xs := (h.below hb).more hb.size
theorem Sb.at_ {i : Nat} (h : Sb w B A xs) (hi : i < xs.length) : ∃ a, A = some a ∧ a.block < B ∧ w.cell? (a.add i) = some (.int .u8 ((xs[i] : Nat) : Int)) := by
  rcases h.2 with e | ⟨a, e, h1, h2⟩
  · rw [e] at hi; exact absurd hi (by simp)
  · exact ⟨a, e, h1, h2 i hi⟩
theorem Sb.take (h : Sb w B A xs) (k : Nat) : Sb w B A (xs.take k) := by
  refine ⟨fun x hx => h.1 x (List.mem_of_mem_take hx), ?_⟩
  rcases h.2 with e | ⟨a, e, h1, h2⟩
  · left; rw [e]; simp
  · right
    refine ⟨a, e, h1, fun i hi => ?_⟩
    have hi' : i < xs.length := by rw [List.length_take] at hi; omega
    rw [h2 i hi', List.getElem_take]
end
/-- block g holds these bytes, and no others -/
def Ab (w : World) (g : Nat) (cs : List Nat) : Prop := w.heap[g]? = some (.cells (cs.map ub).toArray 5 (0, 0))
section
variable {w w' : World} {g B : Nat} {cs : List Nat}
theorem Ab.lt (h : Ab w g cs) : g < w.heap.size := by
  rcases Nat.lt_or_ge g w.heap.size with hlt | hge
  · exact hlt
  · unfold Ab at h; rw [Array.getElem?_eq_none hge] at h; cases h
theorem Ab.cell (h : Ab w g cs) {i : Nat} (hi : i < cs.length) : w.cell? ⟨g, i, none⟩ = some (.int .u8 ((cs[i] : Nat) : Int)) := by
  rw [cell_of_row w g i _ 5 (0, 0) h]
  simp [hi, ub]
theorem Ab.frozen (h : Ab w g cs) (i : Nat) : w.frozen? ⟨g, i, none⟩ = false := by
  unfold Ab at h
  simp [World.frozen?, h]
theorem Ab.new (w : World) (cs : List Nat) : Ab (w.alloc (.cells (cs.map ub).toArray 5)) w.heap.size cs := heap_alloc_new w _
theorem Ab.set_ (h : Ab w g cs) (i n : Nat) : Ab (w.setCell ⟨g, i, none⟩ (.int .u8 (n : Int))) g (cs.set i n) := by
  unfold Ab at *
  simp only [World.setCell]
  rw [Array.getElem?_modify, h]
  simp [List.map_set, ub]
theorem Ab.below (h : Ab w g cs) (hb : Below B w w') (hg : g < B) : Ab w' g cs := (hb.block g hg).trans h
theorem Ab.sb (h : Ab w g cs) (hc : ∀ x ∈ cs, x < 256) : Sb w w.heap.size (some ⟨g, 0, none⟩) cs := by
  refine ⟨hc, Or.inr ⟨_, rfl, h.lt, fun i hi => ?_⟩⟩
  have e : (⟨g, 0, none⟩ : Addr).add i = ⟨g, i, none⟩ := by unfold Addr.add; split <;> simp_all
  rw [e]; exact h.cell hi
end
theorem made_ub (n : Nat) : madeCells #[.int .u8 0] n = ((List.replicate n 0).map ub).toArray := by
  unfold madeCells
  apply Array.ext
  · simp
  · intro i h1 h2
    simp [ub, Nat.mod_one]
theorem info5 : (Try.prog.info? 5).map (fun i => (i.zero, i.size, i.bytes)) = some (some (.int .u8 0), 1, 1) := by kernel_rfl

/-- a number, none below nought and none above 2^40 -/
def clampN (n : Int) : Nat := (min (max n 0) 1099511627776).toNat
def bytN (n : Nat) : Nat := 10 * n / 8
set_option maxHeartbeats 1000000 in
theorem refsymbols_any (n : Int) (w : World) : Calls Try.prog 62 #[.int .i64 n] w fun e w' => e = .returned (.int .i64 ((symN (clampN n) : Nat) : Int)) ∧ w = w' := by
  obtain ⟨m, hm⟩ : ∃ m : Nat, m = clampN n := ⟨_, rfl⟩
  have hm1 : m ≤ 1099511627776 := by rw [hm]; unfold clampN; omega
  have hs : ((symN m : Nat) : Int) = (8 * (m : Int) + 9) / 10 := by unfold symN; omega
  rw [← hm]
  rcases Int.lt_or_le n 0 with h0 | h0
  · have hn : m = 0 := by rw [hm]; unfold clampN; omega
    go_enter Try.func62, Try.ntmps62
    go_wp2_with fail
    go_ret
    exact ⟨by rw [hs, hn]; rfl, rfl⟩
  · rcases Int.lt_or_le 1099511627776 n with h1 | h1
    · have hn : m = 1099511627776 := by rw [hm]; unfold clampN; omega
      go_enter Try.func62, Try.ntmps62
      go_wp2_with fail
      go_ret
      exact ⟨by rw [hs, hn]; rfl, rfl⟩
    · have hn : n = (m : Int) := by rw [hm]; unfold clampN; omega
      clear hm
      subst hn
      go_enter Try.func62, Try.ntmps62
      go_wp2_with fail
      go_ret
      exact ⟨by rw [hs]; rfl, rfl⟩
set_option maxHeartbeats 1000000 in
theorem refbytes_any (n : Int) (w : World) : Calls Try.prog 46 #[.int .i64 n] w fun e w' => e = .returned (.int .i64 ((bytN (clampN n) : Nat) : Int)) ∧ w = w' := by
  obtain ⟨m, hm⟩ : ∃ m : Nat, m = clampN n := ⟨_, rfl⟩
  have hm1 : m ≤ 1099511627776 := by rw [hm]; unfold clampN; omega
  have hs : ((bytN m : Nat) : Int) = 10 * (m : Int) / 8 := by unfold bytN; omega
  rw [← hm]
  rcases Int.lt_or_le n 0 with h0 | h0
  · have hn : m = 0 := by rw [hm]; unfold clampN; omega
    go_enter Try.func46, Try.ntmps46
    go_wp2_with fail
    go_ret
    exact ⟨by rw [hs, hn]; rfl, rfl⟩
  · rcases Int.lt_or_le 1099511627776 n with h1 | h1
    · have hn : m = 1099511627776 := by rw [hm]; unfold clampN; omega
      go_enter Try.func46, Try.ntmps46
      go_wp2_with fail
      go_ret
      exact ⟨by rw [hs, hn]; rfl, rfl⟩
    · have hn : n = (m : Int) := by rw [hm]; unfold clampN; omega
      clear hm
      subst hn
      go_enter Try.func46, Try.ntmps46
      go_wp2_with fail
      go_ret
      exact ⟨by rw [hs]; rfl, rfl⟩
theorem shr_bit8 (X s : Nat) (hX : X < 256) : (bits .and .u8 ((X : Int) / 2 ^ s) 1 == 1) = X.testBit s := by
  have e : ((X : Int) / 2 ^ s) = ((X / 2 ^ s : Nat) : Int) := by push_cast; rfl
  have h : bits .and .u8 ((X / 2 ^ s : Nat) : Int) 1 = ((X / 2 ^ s &&& 1 : Nat) : Int) := u8_and_nat (X / 2 ^ s) 1 (Nat.lt_of_le_of_lt (Nat.div_le_self _ _) hX) (by decide)
  rw [e, h, nat_mask1, Nat.testBit_eq_decide_div_mod_eq]
  by_cases h2 : X / 2 ^ s % 2 = 1
  · rw [h2]; rfl
  · rw [show X / 2 ^ s % 2 = 0 by omega]; rfl
theorem shr_bit16 (X s : Nat) (hX : X < 65536) : (bits .and .u16 ((X : Int) / 2 ^ s) 1 == 1) = X.testBit s := by
  have e : ((X : Int) / 2 ^ s) = ((X / 2 ^ s : Nat) : Int) := by push_cast; rfl
  have h : bits .and .u16 ((X / 2 ^ s : Nat) : Int) 1 = ((X / 2 ^ s &&& 1 : Nat) : Int) := u16_and_nat (X / 2 ^ s) 1 (Nat.lt_of_le_of_lt (Nat.div_le_self _ _) hX) (by decide)
  rw [e, h, nat_mask1, Nat.testBit_eq_decide_div_mod_eq]
  by_cases h2 : X / 2 ^ s % 2 = 1
  · rw [h2]; rfl
  · rw [show X / 2 ^ s % 2 = 0 by omega]; rfl
theorem wrap16 (s : Nat) (h : s < 16) : IntKind.u16.wrap (2 ^ s) = ((2 ^ s : Nat) : Int) := (by decide : ∀ s : Fin 16, IntKind.u16.wrap (2 ^ s.val) = ((2 ^ s.val : Nat) : Int)) ⟨s, h⟩
theorem wrap8 (s : Nat) (h : s < 8) : IntKind.u8.wrap (2 ^ s) = ((2 ^ s : Nat) : Int) := (by decide : ∀ s : Fin 8, IntKind.u8.wrap (2 ^ s.val) = ((2 ^ s.val : Nat) : Int)) ⟨s, h⟩
theorem or_set16 {V s : Nat} (hV : V < 1024) (hs : s < 10) : bits .or .u16 (V : Int) (IntKind.u16.wrap (2 ^ s)) = ((V ||| 2 ^ s : Nat) : Int) := by
  have : 2 ^ s < 1024 := Nat.pow_lt_pow_right (by decide) hs
  rw [wrap16 s (by omega), u16_or_nat V (2 ^ s) (by omega) (by omega)]
theorem or_set8 {V s : Nat} (hV : V < 256) (hs : s < 8) : bits .or .u8 (V : Int) (IntKind.u8.wrap (2 ^ s)) = ((V ||| 2 ^ s : Nat) : Int) := by
  have : 2 ^ s < 256 := Nat.pow_lt_pow_right (by decide) hs
  rw [wrap8 s hs, u8_or_nat V (2 ^ s) (by omega) (by omega)]
theorem or_set8' {V s : Nat} (hV : V < 256) (hs : s < 8) : bits .or .u8 (V : Int) (2 ^ s % 256) = ((V ||| 2 ^ s : Nat) : Int) := by
  have h := or_set8 hV hs
  rw [show IntKind.u8.wrap (2 ^ s) = 2 ^ s % 256 from rfl] at h
  exact h
/-- a row of 16-bit numbers in new memory -/
def RowU (w : World) (ys : List Nat) (e : Ending) (w' : World) : Prop := ∃ g, e = .returned (.slice (some ⟨g, 0, none⟩) ys.length ys.length) ∧ w.heap.size ≤ g ∧ Arr w' g ys ∧ Below w.heap.size w w'
set_option maxHeartbeats 4000000 in
theorem refpack_any (A : Option Addr) (c : Nat) (xs : List Nat) (w : World) (h : Sb w w.heap.size A xs) (hl : xs.length ≤ 1000000) :
    Calls Try.prog 36 #[.slice A xs.length c] w (RowU w (pk xs)) := by
  have H := Lib.hid h
  clear h
  obtain ⟨n, hn⟩ : ∃ n, Hid (symN xs.length = n) := ⟨_, Lib.hid rfl⟩
  have hn1 : n ≤ 1000000 := by rw [← hn.out]; unfold symN; omega
  have hcl : clampN (xs.length : Int) = xs.length := by unfold clampN; omega
  have hc := refsymbols_any (xs.length : Int) w
  rw [hcl, hn.out] at hc
  replace hc := Lib.hid hc
  have hmk : ∀ w, (Instr.makeSlice 35 (.int .i64 (n : Int)) (.int .i64 (n : Int))).run Try.prog w = .ok (.slice (some ⟨w.heap.size, 0, none⟩) n n) (w.alloc (.cells (madeCells #[.int .u16 0] n) 29)) :=
    run_make_row' (P := Try.prog) 35 29 (.int .u16 0) 2 Try.underlying35 info22 rfl .i64 .i64 n (by omega) (by omega)
  go_enter Try.func36, Try.ntmps36
  go_wp2_with (go_at_call 62; (with_reducible refine hc.out.mono ?_); rintro e w1 ⟨rfl, rfl⟩)
  have hO := (own_start w n).congr (f' := pkTo xs 0) fun j _ => (pkTo_zero xs j).symm
  generalize w.alloc (.cells (madeCells #[.int .u16 0] n) 29) = w0 at hO ⊢
  go_loopw [4] (fun q wr => ∃ i : Nat, i ≤ 8 * xs.length ∧ q = .int .i64 i ∧ Own w wr w.heap.size n (pkTo xs i)) (fun q _ => 8 * xs.length - (intOf q).toNat)
  case atStart => exact ⟨0, Nat.zero_le _, rfl, hO⟩
  case round =>
    clear hO
    obtain ⟨i, hi, rfl, HO⟩ := hrel
    replace HO := Lib.hid HO
    by_cases hlt : i < 8 * xs.length
    · have hd : decide ((i : Int) < 8 * (xs.length : Int)) = true := by rw [decide_eq_true_eq]; omega
      obtain ⟨q, hq⟩ : ∃ q : Nat, (i : Int) / 8 = (q : Int) := ⟨i / 8, by omega⟩
      obtain ⟨s, hs⟩ : ∃ s : Nat, 7 - (i : Int) % 8 = (s : Int) := ⟨7 - i % 8, by omega⟩
      have hql : q < xs.length := by omega
      have hqI : (q : Int) < (xs.length : Int) := by omega
      have hs8 : s < 8 := by omega
      obtain ⟨a, hAe, hab, hcell⟩ := (H.out.far HO.out.2.1).at_ hql
      subst hAe
      have hx := H.out.1 xs[q] (List.getElem_mem hql)
      obtain ⟨q2, hq2⟩ : ∃ q : Nat, (i : Int) / 10 = (q : Int) := ⟨i / 10, by omega⟩
      obtain ⟨s2, hs2⟩ : ∃ s : Nat, 9 - (i : Int) % 10 = (s : Int) := ⟨9 - i % 10, by omega⟩
      have hs10 : s2 < 10 := by omega
      have hq2n : q2 < n := by have := hn.out; unfold symN at this; omega
      have hq2I : (q2 : Int) < (n : Int) := by omega
      have hc2 := HO.out.cell hq2n
      have hf2 := HO.out.2.2.frozen q2
      obtain ⟨X, hX⟩ : ∃ X, Hid (xs[q] = X) := ⟨_, Lib.hid rfl⟩
      rw [hX.out] at hcell hx
      obtain ⟨V, hV⟩ : ∃ V, Hid (pkTo xs i q2 = V) := ⟨_, Lib.hid rfl⟩
      have hV1 : V < 1024 := by rw [← hV.out]; exact pkTo_lt _ _ _
      rw [hV.out] at hc2
      have hbt := shr_bit8 X s hx
      have hbe : Hid (bit8 xs i = X.testBit s) := by
        unfold Hid bit8
        rw [show i / 8 = q by omega, show 7 - i % 8 = s by omega, at_get hql, hX.out]
      have hor := or_set16 hV1 hs10
      obtain ⟨b, hb⟩ : ∃ b, Hid (X.testBit s = b) := ⟨_, Lib.hid rfl⟩
      rw [hb.out] at hbt hbe
      cases b
      · have HO2 : Hid (Own w wr w.heap.size n (pkTo xs (i + 1))) := HO.out.congr fun j _ => by
          rw [pkTo_step, if_neg]
          intro h
          rw [hbe.out] at h
          cases h.2
        clear hc2 hf2 HO
        go_wp2_with fail
        go_roundw
        case rel => exact ⟨i + 1, by omega, by go_num, HO2.out⟩
        case measure => simp [intOf]; omega
      · have HO2 : Hid (Own w (wr.setCell ⟨w.heap.size, q2, none⟩ (.int .u16 ((V ||| 2 ^ s2 : Nat) : Int))) w.heap.size n (pkTo xs (i + 1))) := (HO.out.set_ q2 (V ||| 2 ^ s2)).congr fun j _ => by
          rw [pkTo_step, hbe.out]
          by_cases e : j = q2
          · rw [if_pos e, if_pos ⟨by omega, rfl⟩, e, hV.out, show 9 - i % 10 = s2 by omega]
          · rw [if_neg e, if_neg (fun h => e (by have := h.1; omega))]
        obtain ⟨Z, hZ⟩ : ∃ Z, Hid (V ||| 2 ^ s2 = Z) := ⟨_, Lib.hid rfl⟩
        rw [hZ.out] at hor HO2
        clear HO
        go_wp2_with fail
        go_roundw
        case rel => exact ⟨i + 1, by omega, by go_num, HO2.out⟩
        case measure => simp [intOf]; omega
    · obtain rfl : i = 8 * xs.length := by omega
      have hd : decide ((((8 * xs.length : Nat)) : Int) < 8 * (xs.length : Int)) = false := by rw [decide_eq_false_iff_not]; omega
      have hA := HO.out.2.2
      have e : rm n (pkTo xs (8 * xs.length)) = pk xs := by
        unfold pk
        rw [hn.out]
        exact rm_congr fun j _ => pkTo_end xs j
      rw [e] at hA
      have hpl : Hid ((pk xs).length = n) := by rw [← hn.out]; exact Lib.hid (pk_len xs)
      have hb := HO.out.2.1
      replace hA := Lib.hid hA
      replace hb := Lib.hid hb
      clear HO e
      go_wp2_with fail
      go_ret
      exact ⟨w.heap.size, by rw [hpl.out]; rfl, Nat.le_refl _, hA.out, hb.out⟩
/-- what Unpack answers: an error's number, and bytes -/
def upkE (s : List Nat) (n : Int) : Nat := if n < 0 ∨ (bytN s.length : Int) < n then 3 else if s.any (fun x => decide (1024 ≤ x)) = true then 1 else 0
def upkW (s : List Nat) (n : Int) : List Nat := if upkE s n = 0 then upk s n.toNat else []
/-- a slice of bytes and an error's number -/
def RowB (w : World) (ys : List Nat) (f : Nat) (e : Ending) (w' : World) : Prop := ∃ A c, e = .returned (.tuple #[.slice A ys.length c, .int .i64 (f : Int)]) ∧ ys.length ≤ c ∧ Sb w' w'.heap.size A ys ∧ Below w.heap.size w w'
theorem upkE_size {s : List Nat} {n : Int} (h : n < 0 ∨ (bytN s.length : Int) < n) : upkE s n = 3 := by unfold upkE; rw [if_pos h]
theorem upkE_big {s : List Nat} {n : Int} (h : ¬ (n < 0 ∨ (bytN s.length : Int) < n)) {k : Nat} (hk : k < s.length) (hb : 1024 ≤ s[k]) : upkE s n = 1 := by
  unfold upkE
  rw [if_neg h, if_pos]
  exact List.any_eq_true.2 ⟨s[k], List.getElem_mem hk, by simpa using hb⟩
theorem upkE_ok {s : List Nat} {n : Int} (h : ¬ (n < 0 ∨ (bytN s.length : Int) < n)) (hb : ∀ k (h : k < s.length), s[k] < 1024) : upkE s n = 0 := by
  unfold upkE
  rw [if_neg h, if_neg]
  intro e
  obtain ⟨x, hx, h2⟩ := List.any_eq_true.1 e
  obtain ⟨k, hk, rfl⟩ := List.getElem_of_mem hx
  have := hb k hk
  simp at h2; omega
/-- a row of bytes of one's own -/
def OwnB (w wr : World) (g n : Nat) (f : Nat → Nat) : Prop := w.heap.size ≤ g ∧ Below w.heap.size w wr ∧ Ab wr g (rm n f)
section
variable {w wr : World} {g n : Nat} {f f' : Nat → Nat}
theorem ownB_start (w : World) (n : Nat) : OwnB w (w.alloc (.cells (madeCells #[.int .u8 0] n) 5)) w.heap.size n (fun _ => 0) := by
  refine ⟨Nat.le_refl _, (Below.refl _ _).alloc (Nat.le_refl _) _, ?_⟩
  rw [made_ub, rm_zero]
  exact Ab.new w _
theorem OwnB.set_ (h : OwnB w wr g n f) (i v : Nat) : OwnB w (wr.setCell ⟨g, i, none⟩ (.int .u8 (v : Int))) g n (fun j => if j = i then v else f j) := by
  refine ⟨h.1, h.2.1.setCell h.1 _, ?_⟩
  rw [← rm_set]; exact h.2.2.set_ i v
theorem OwnB.congr (h : OwnB w wr g n f) (e : ∀ j, j < n → f j = f' j) : OwnB w wr g n f' := by
  refine ⟨h.1, h.2.1, ?_⟩
  rw [← rm_congr e]; exact h.2.2
theorem OwnB.cell (h : OwnB w wr g n f) {i : Nat} (hi : i < n) : wr.cell? ⟨g, i, none⟩ = some (.int .u8 ((f i : Nat) : Int)) := by
  have := h.2.2.cell (i := i) (by rw [rm_len]; exact hi)
  rw [rm_get] at this; exact this
end
end Go.Proofs.Ytmchelbmeajcnaa
namespace Go.Proofs.Ytmchelbmeajcnaa
open Go.RowKit Go.Gf

def bstr (xs : List Nat) : ByteArray := ⟨(xs.map fun x => UInt8.ofNat x).toArray⟩
theorem str_run {w : World} {B : Nat} {A : Option Addr} {xs : List Nat} (h : Sb w B A xs) (c : Nat) : (convert 26 9 (.slice A xs.length c)).run Try.prog w = .ok (.string (bstr xs)) w := by
  cases A with
  | none =>
    obtain rfl : xs = [] := by
      rcases h.2 with e | ⟨a, e, _⟩
      · exact e
      · cases e
    rw [run_convert_bytes_string w 26 9 5 none [].length c Try.underlying26 Try.underlying5 Try.underlying9]
    rfl
  | some a =>
    have hl : (xs.map fun x => UInt8.ofNat x).length = xs.length := List.length_map ..
    have := run_convert_bytes_back (P := Try.prog) w 26 9 5 a c (xs.map fun x => UInt8.ofNat x) Try.underlying26 Try.underlying5 Try.underlying9 (fun j hj => by
      rw [hl] at hj
      have hx := h.1 xs[j] (List.getElem_mem hj)
      obtain ⟨a', e, _, hc⟩ := h.at_ hj
      injection e with e
      subst e
      rw [hc, List.getElem_map]
      congr 3
      show _ = (UInt8.ofNat xs[j]).toNat
      rw [UInt8.toNat_ofNat', Nat.mod_eq_of_lt hx])
    rw [hl] at this
    exact this
theorem str_eq (a : ByteArray) (w : World) : (binOp .eql 9 (.string a) (.string a)).run Try.prog w = .ok (.bool true) w := by
  simp [binOp, Op.stringOp]
end Go.Proofs.Ytmchelbmeajcnaa
namespace Go.Proofs.Ytmchelbmeajcnaa
open Go.RowKit Go.Gf

/-- an answer; old memory is as it was -/
def Ans (w : World) (v : Value) (e : Ending) (w' : World) : Prop := e = .returned v ∧ Below w.heap.size w w'
/-- a row of 16-bit numbers of one's own -/
def RowP (w : World) (ys : List Nat) (e : Ending) (w' : World) : Prop := ∃ v, e = .returned v ∧ OwnS w w' v ys ∧ Below w.heap.size w w'
section
variable {A : Option Addr} {c : Nat} {xs : List Nat} {n : Int} {w : World}
theorem RowU.rowP {w w' : World} {ys : List Nat} {e : Ending} (h : RowU w ys e w') (hy : ∀ y ∈ ys, y < 65536) (hl : ys.length ≤ 1000000) : RowP w ys e w' := by
  obtain ⟨g, he, hg, ha, hb⟩ := h
  exact ⟨_, he, ⟨⟨by simp, Or.inr ⟨g, ys.length, (ys.map uv).toArray, rfl, hg, ha, Nat.le_refl _, by unfold maxLen; omega, by simp, by simp [List.take_of_length_le]⟩⟩, hy⟩, hb⟩
theorem pk_le (hl : xs.length ≤ 1000000) : (pk xs).length ≤ 1000000 := by rw [pk_len]; unfold symN; omega
theorem pk_u16 (xs : List Nat) : ∀ y ∈ pk xs, y < 65536 := fun y hy => Nat.lt_trans (pk_bd xs y hy) (by decide)
end
/-- a row of bytes made in the text -/
theorem sb_new (w : World) (o : Obj) (xs : List Nat) (g : Nat) (hg : w.heap.size = g) (ho : o = .cells (xs.map ub).toArray 5) (h : ∀ x ∈ xs, x < 256) : Sb (w.alloc o) (w.alloc o).heap.size (some ⟨g, 0, none⟩) xs := by
  subst hg ho
  exact (Ab.new w xs).sb h
/-- whether two slices hold the same -/
theorem ans_same {A B : Option Addr} {ca cb : Nat} {xs ys : List Nat} {w : World} {b : Bool} (ha : Sl w w.heap.size A xs) (hb : Sl w w.heap.size B ys) (hla : xs.length ≤ 1000000) (hlb : ys.length ≤ 1000000) (h : decide (xs = ys) = b) :
    Calls Try.prog 18 #[.slice A xs.length ca, .slice B ys.length cb] w (Ans w (.bool b)) := (refsame_any A B ca cb xs ys w ha hb hla hlb).mono fun _ _ h' => by
  obtain ⟨he, n, rfl⟩ := h'
  exact ⟨by rw [← h]; exact he, ⟨rfl, rfl, rfl, Nat.le_refl _, fun _ _ => rfl⟩⟩
end Go.Proofs.Ytmchelbmeajcnaa
