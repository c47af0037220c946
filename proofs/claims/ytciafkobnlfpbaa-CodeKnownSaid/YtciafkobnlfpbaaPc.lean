/- The program's package poly: addTimes. -/
import Derived.Test.YtciafkobnlfpbaaPb
import Derived.Test.YtciafkobnlfpbaaFb
import Derived.Test.YtciafkobnlfpbaaWy
namespace Go.Proofs.Ytciafkobnlfpbaa
open Go.RowKit Go.Gf
attribute [local go_sem ↓] exec_load_tb Cl.quiet_since
attribute [local go_sem] tbAt_ptr tbIn_ptr

/-- all but block g is as it was -/
def But (g : Nat) (w w' : World) : Prop := Cl.Keeps (fun b => b ≠ g) w w'
theorem But.trans {g : Nat} {a b c : World} (h : But g a b) (k : But g b c) : But g a c := Cl.Keeps.trans h k
theorem But.refl (g : Nat) (w : World) : But g w w := Cl.Keeps.refl _ _
theorem But.of_below {g : Nat} {w w' : World} (h : Below w.heap.size w w') : But g w w' := Cl.Keeps.of_below h
theorem But.set_ {g : Nat} {w w' : World} (h : But g w w') (i : Nat) (v : Value) : But g w (w'.setCell ⟨g, i, none⟩ v) :=
  ⟨h.os, h.tape, h.output, by simpa [World.setCell] using h.size, fun b hb hk => (Below.heap_setCell _ _ v b hk).trans (h.block b hb hk)⟩
theorem But.below {g B : Nat} {w₀ w w' : World} (h : But g w w') (hb : Below B w₀ w) (hg : B ≤ g) (hB : B ≤ w.heap.size) : Below B w₀ w' :=
  hb.trans ⟨h.os, h.tape, h.output, h.size, fun k hk => h.block k (by omega) (by omega)⟩
theorem But.arr {g g' : Nat} {w w' : World} {cs : List Nat} (h : But g w w') (ha : Arr w g' cs) (hg : g' ≠ g) : Arr w' g' cs := (h.block g' ha.lt hg).trans ha
theorem Tb.lt {w : World} {g : Nat} {cs : List Nat} (h : Tb w g cs) : g < w.heap.size := by
  rcases Nat.lt_or_ge g w.heap.size with hlt | hge
  · exact hlt
  · unfold Tb at h; rw [Array.getElem?_eq_none hge] at h; cases h
theorem But.tb {g g' : Nat} {w w' : World} {cs : List Nat} (h : But g w w') (ha : Tb w g' cs) (hg : g' ≠ g) : Tb w' g' cs := (h.block g' ha.lt hg).trans ha
theorem Tb.is {w : World} {g : Nat} {cs : List Nat} (h : Tb w g cs) (hl : cs.length = 2047) : isTb w g = true := by
  unfold isTb
  have e : w.heap[g]? = _ := h
  rw [e]
  simp [cells_size, hl]
theorem Tb.of {w : World} {g : Nat} {cs : List Nat} (h : Tb w g cs) : tbOf w g = cells cs := by
  unfold tbOf
  have e : w.heap[g]? = _ := h
  rw [e]
theorem Keeps.arr {w w' : World} {g : Nat} {cs : List Nat} (h : Cl.Keeps (fun _ => True) w w') (ha : Arr w g cs) : Arr w' g cs := (h.block g ha.lt trivial).trans ha
theorem Keeps.tb {w w' : World} {g : Nat} {cs : List Nat} (h : Cl.Keeps (fun _ => True) w w') (ha : Tb w g cs) : Tb w' g cs := (h.block g ha.lt trivial).trans ha
theorem Sl.but {g B : Nat} {w w' : World} {A : Option Addr} {xs : List Nat} (h : Sl w B A xs) (hb : But g w w') (hB : B ≤ g) (hB2 : B ≤ w.heap.size) : Sl w' B A xs := by
  refine h.keep fun p hp => ?_
  exact World.cell?_of_block (w := w) (hb.block p.block (by omega) (by omega))

/-- the loop of addTimes: tables lie in block h, the row in block g -/
def AddR (w : World) (h g n : Nat) (cs : List Nat) (f : Nat → Nat) (wr : World) : Prop := But g w wr ∧ Tb wr h cs ∧ Arr wr g (rm n f)
/-- its ending -/
def Added (w : World) (g n : Nat) (f : Nat → Nat) (e : Ending) (w' : World) : Prop := e = .returned (.tuple #[]) ∧ But g w w' ∧ Arr w' g (rm n f)
theorem tb_new (w : World) (cs : List Nat) : Tb (w.alloc (.cells (cells cs) 28)) w.heap.size cs := heap_alloc_new w _

set_option maxRecDepth 20000 in
set_option maxHeartbeats 4000000 in
theorem addTimes_any (cs : List Nat) (hcs : cs.length = 2047) (g n i m c : Nat) (f : Nat → Nat) (B : Option Addr) (cb : Nat) (ys : List Nat) (x : Int) (w : World)
    (hg : Arr w g (rm n f)) (hf : ∀ j, f j < 1024) (hm : ys.length ≤ m) (hi : i + ys.length ≤ n) (hn : n ≤ 1000000) (hB : Sl w g B ys) (x0 : 0 ≤ x) (x1 : x < 65536) :
    Calls Try.prog 52 #[.agg (cells cs), .slice (some ⟨g, i, none⟩) m c, .slice B ys.length cb, .int .u16 x] w
      (Added w g n (mrow f (x.toNat % 1024) (ys.map (· % 1024)) i ys.length)) := by
  have HB := Lib.hid hB
  have HG := Lib.hid hg
  have HF := Lib.hid hf
  have HCS := Lib.hid hcs
  have glt := hg.lt
  have HN : Hid (w.heap.size ≠ g) := by unfold Hid; omega
  clear hB hg hf glt hcs
  go_enter Try.func52, Try.ntmps52
  go_wp2_with fail
  go_loopw [12] (fun q wr => ∃ k : Nat, k ≤ ys.length ∧ q = .int .i64 k ∧ AddR w w.heap.size g n cs (mrow f (x.toNat % 1024) (ys.map (· % 1024)) i k) wr) (fun q _ => ys.length - (intOf q).toNat)
  case atStart => exact ⟨0, Nat.zero_le _, rfl, But.of_below ((Below.refl _ _).alloc (Nat.le_refl _) _), tb_new w cs, HG.out.alloc _⟩
  case round =>
    obtain ⟨k, hk, rfl, HA⟩ := hrel
    by_cases hlt : k < ys.length
    · obtain ⟨b, rfl, hbb, hcellb⟩ := (HB.out.but HA.1 (Nat.le_refl _) (Nat.le_of_lt HG.out.lt)).at_ hlt
      have hy := HB.out.1 ys[k] (List.getElem_mem hlt)
      have HR := Lib.hid HA
      obtain ⟨V, HV⟩ : ∃ V, Hid (V = mrow f (x.toNat % 1024) (ys.map (· % 1024)) i k (i + k)) := ⟨_, rfl⟩
      have hV : V < 1024 := by rw [HV.out]; exact mrow_lt HF.out (Nat.mod_lt _ (by decide)) _ _
      obtain ⟨G, HGm⟩ : ∃ G, Hid (G = gm (x.toNat % 1024) (ys[k] % 1024)) := ⟨_, Lib.hid rfl⟩
      have hG : G < 1024 := by rw [HGm.out]; exact gm_lt _ (Nat.mod_lt _ (by decide))
      have hMul : MulIs x ys[k] G := mulIs x0 x1 (by omega) (by omega) (by unfold mulI; rw [HGm.out]; simp)
      have hAdd : AddIs V G ((V ^^^ G : Nat) : Int) := addIs (by omega) (by omega) (by omega) (by omega) (by
        unfold addI
        rw [Int.toNat_natCast, Int.toNat_natCast, Nat.mod_eq_of_lt (xor_lt hV hG)])
      have HE : Hid (∀ j, j < n → (if j = i + k then V ^^^ G else mrow f (x.toNat % 1024) (ys.map (· % 1024)) i k j) = mrow f (x.toNat % 1024) (ys.map (· % 1024)) i (k + 1) j) := by
        intro j _
        conv => rhs; unfold mrow
        rw [HV.out, HGm.out]
        by_cases h1 : j = i + k
        · rw [if_pos h1, if_pos h1, h1, at_get (by simpa using hlt)]; simp
        · rw [if_neg h1, if_neg h1]
      clear HGm
      go_wp2_with fail
      refine Cl.region_way (fun _ => True) 12 [(0, .r), (1, .r), (2, .r), (3, .r), (4, .r), (5, .r), (6, .r), (7, .r), (8, .r), (9, .c), (10, .c), (11, .r), (12, .z)] (by kernel_rfl) (by kernel_rfl) ?_
      intro w1 hk1
      have hiA : ∀ x : Cl.Since (fun _ => True) w1, isTb x.w w.heap.size = true := fun x => (Keeps.tb (hk1.trans x.keeps) HR.out.2.1).is HCS.out
      have hoA : ∀ x : Cl.Since (fun _ => True) w1, tbOf x.w w.heap.size = cells cs := fun x => (Keeps.tb (hk1.trans x.keeps) HR.out.2.1).of
      have hcA : ∀ x : Cl.Since (fun _ => True) w1, x.w.cell? ⟨g, i + k, none⟩ = some (.int .u16 (V : Int)) := fun y => by rw [HV.out]; exact arr_rm_cell (Keeps.arr (hk1.trans y.keeps) HR.out.2.2) (by omega)
      iterate 9 (refine Cl.way_r rfl ?_; go_big_quiet_step (fail); refine wpQuiet_nil ?_)
      refine Cl.way_c rfl ?_
      go_wp2_with (go_at_call 23; (with_reducible refine (hMul.at cs _).mono ?_); rintro e w2 ⟨rfl, hb2⟩)
      refine Cl.way_on (Cl.Keeps.of_below hb2) ?_
      have hk2 := Cl.Keeps.trans hk1 (Cl.Keeps.of_below hb2)
      have HT2 := Lib.hid (Keeps.tb hk2 HR.out.2.1)
      have HA2 := Keeps.arr hk2 HR.out.2.2
      have HB2 := Lib.hid (But.trans HR.out.1 ⟨hk2.os, hk2.tape, hk2.output, hk2.size, fun b hb _ => hk2.block b hb trivial⟩)
      have hc2 := arr_rm_cell HA2 (i := i + k) (by omega)
      have hf2 := HA2.frozen (i + k)
      replace HA2 := Lib.hid HA2
      refine Cl.way_c rfl ?_
      go_wp2_with (go_at_call 56; (with_reducible refine (hAdd.at _).mono ?_); rintro e w3 ⟨rfl, rfl⟩)
      refine Cl.way_on (Cl.Keeps.refl _ _) ?_
      refine Cl.way_r rfl ?_; go_big_quiet_step (fail); refine wpQuiet_nil ?_
      refine Cl.way_z rfl ?_
      clear hk1 hiA hoA hcA hk2 hb2 hcellb
      go_wp2_with fail
      refine Cl.Calm.normal ?_
      go_wp2_with fail
      go_roundw
      case rel => exact ⟨k + 1, by omega, by go_num, HB2.out.set_ _ _, Tb.other HT2.out _ _ HN.out, by
        have h := HA2.out.set_ (i + k) (V ^^^ G)
        rw [rm_set, rm_congr HE.out] at h
        exact h⟩
      case measure => simp [intOf]; omega
    · obtain rfl : k = ys.length := by omega
      have HR := Lib.hid HA
      clear HA
      go_wp2_with fail
      go_end0
      exact ⟨rfl, HR.out.1, HR.out.2.2⟩
end Go.Proofs.Ytciafkobnlfpbaa
