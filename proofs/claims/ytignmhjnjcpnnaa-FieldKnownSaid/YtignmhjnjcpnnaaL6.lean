/- Statement FieldKnown: the law returns true. -/
import Derived.Test.YtignmhjnjcpnnaaFb
import Derived.Test.YtignmhjnjcpnnaaX2
namespace Go.Proofs.Ytignmhjnjcpnnaa
open Go.RowKit Go.Gf
attribute [local go_sem ↓] exec_load_tb Cl.quiet_after
attribute [local go_sem] tbAt_ptr tbIn_ptr

def ZB : Array Value := Array.replicate 1024 (.bool false)
theorem zero35 : ∀ w, (zeroValue 35).run Try.prog w = .ok (.agg ZB) w := (zero_of_info (n := 1024) (by kernel_rfl)).1
/-- of the symbols from the k-th power of x on none has been seen -/
structure Sn (w : World) (s k : Nat) : Prop where
  cell : ∀ j, k ≤ j → j < 1023 → w.cell? ⟨s, E j, none⟩ = some (.bool false)
  frozen : ∀ o, w.frozen? ⟨s, o, none⟩ = false
  lt : s < w.heap.size
theorem Sn.next {w w' : World} {s k : Nat} (h : Sn w s k) (hb : Below w.heap.size w w') : Sn w' s k :=
  ⟨fun j h1 h2 => (hb.cell h.lt).trans (h.cell j h1 h2), fun o => (hb.frozen (p := ⟨s, o, none⟩) h.lt).trans (h.frozen o), Nat.lt_of_lt_of_le h.lt hb.size⟩
theorem Sn.new (w : World) : Sn (w.alloc (.cells ZB 35)) w.heap.size 0 := by
  refine ⟨fun j _ _ => ?_, fun o => ?_, by simp⟩
  · rw [cell_of_row _ _ _ _ _ _ (heap_alloc_new w _)]
    unfold ZB
    rw [Array.getElem?_replicate, if_pos (E_lt j)]
  · simp
theorem Sn.set_ {w : World} {s k : Nat} (h : Sn w s k) (hk : k < 1023) : Sn (w.setCell ⟨s, E k, none⟩ (.bool true)) s (k + 1) := by
  refine ⟨fun j h1 h2 => ?_, fun o => ?_, by simpa [World.setCell] using h.lt⟩
  · rw [World.cell?_setCell_other]
    · exact h.cell j (by omega) h2
    · intro e
      injection e with _ e2 _
      have := (E_inj (i := k) (j := j)).1 (by omega)
      omega
  · rw [World.frozen?_setCell]; exact h.frozen o
theorem St.setOther {w w1 : World} {g s : Nat} {cs : List Nat} (h : St w g cs w1) (hs : w.heap.size ≤ s) (hne : g ≠ s) (o : Nat) (v : Value) : St w g cs (w1.setCell ⟨s, o, none⟩ v) :=
  ⟨h.below.setCell hs v, h.ge, by simpa [World.setCell] using h.lt, h.tb.other _ _ hne⟩
theorem St.alloc {w w1 : World} {g : Nat} {cs : List Nat} (h : St w g cs w1) (o : Obj) : St w g cs (w1.alloc o) := h.next ((Below.refl _ _).alloc (Nat.le_refl _) o)

set_option maxRecDepth 20000 in
set_option maxHeartbeats 4000000 in
theorem known_law (w : World) : Calls Try.prog 5 #[] w fun e w' => e = .returned (.bool true) ∧ Below w.heap.size w w' := by
  have hz := zero27
  have hz5 := zero35
  · go_enter Try.func5, Try.ntmps5
    go_wp2_with fail
    refine (awake_any _).mono ?_
    rintro e w0 ⟨rfl, hb0⟩
    go_wp2_with fail
    refine (make_any _).mono ?_
    rintro e w1 ⟨cs, rfl, hl, hb1⟩
    have hb := hb0.trans (hb1.mono hb0.size)
    clear hb0 hb1
    go_wp2_with (first
      | (refine wpList_store_row rfl 27 _ _ rfl w1.heap.size (cells cs) rfl rfl 27 (cells ZT) (heap_alloc_new w1 _) (rsize hl) (zsize hl) (cells_one cs) ?_; have hS := St.start (cs := cs) hb (cells ZT); generalize hg : w1.heap.size = g at hS ⊢; generalize (w1.alloc (Obj.cells (cells ZT) 27)).setRow g (cells cs) = w2 at hS ⊢; have hi := hS.is hl.1; have ho := hS.of; have hgB := hg ▸ hb.size; clear hb hg hz w1)
)
    have hS0 := hS
    have hS := hS.alloc (.cells ZB 35)
    have hq := Sn.new w2
    have hs1 : w.heap.size ≤ w2.heap.size := hS0.below.size
    have hne : g ≠ w2.heap.size := by have := hS0.lt; omega
    generalize w2.heap.size = s at hq hs1 hne ⊢
    generalize w2.alloc (.cells ZB 35) = W at hS hq ⊢
    clear hi ho hz5 hS0
    go_loopw [3, 4] (fun x i wr => ∃ k : Nat, k ≤ 1023 ∧ i = .int .i64 k ∧ x = .int .u16 (expI k) ∧ St w g cs wr ∧ Sn wr s k) (fun _ i _ => 1023 - (intOf i).toNat)
    case atStart => exact ⟨0, by omega, rfl, by rw [show ((0 : Nat) : Int) = 0 from rfl, expI_zero], hS, hq⟩
    case round =>
      clear hS hq
      obtain ⟨k, hk, rfl, rfl, hS, hq⟩ := hrel
      by_cases hlt : k < 1023
      · have hE : expI k = ((E k : Nat) : Int) := (expI_nat k).symm
        have hEl := E_lt k
        have bE := expI_bd k
        have gl : LogIs (E k) k true := logIs (by omega) (by omega) (by rw [← hE, logI_exp]; omega) (by rw [← hE, expI_mod]; simp; omega)
        have gx1 : ExpIs k (E k) := expIs hE
        have gx2 : ExpIs ((k : Int) - 1023) (E k) := expIs (by rw [← hE]; exact expI_of (by omega))
        have gx3 : ExpIs ((k : Int) + 5115) (E k) := expIs (by rw [← hE]; exact expI_of (by omega))
        have gm : MulIs (E k) 2 (expI ((k + 1 : Nat) : Int)) := mulIs (by omega) (by omega) (by omega) (by omega) (by
          rw [← hE, show (2 : Int) = expI 1 by decide +kernel, mulI_exp]; rfl)
        rw [hE]
        clear hE bE
        have hc := hq.cell k (Nat.le_refl _) hlt
        have hf := hq.frozen (E k)
        have hi := hS.is hl.1
        have ho := hS.of
        go_wp2_with (first
      | (go_at_call 15; first
          | (with_reducible refine (gl.at hl _).mono ?_)
         rintro e w2 ⟨rfl, hb⟩; have hS := hS.next hb; have hi := hS.is hl.1; have ho := hS.of; have hq := (hq.next hb); have hc := (hq.cell k (Nat.le_refl _) hlt); have hf := (hq.frozen (E k)); have hi2 := ((hS.setOther hs1 hne (E k) (.bool true)).is hl.1); have ho2 := ((hS.setOther hs1 hne (E k) (.bool true)).of); clear hb)
      | (go_at_call 16; first
          | (with_reducible refine (gx1.at hl _).mono ?_)
          | (with_reducible refine (gx2.at hl _).mono ?_)
          | (with_reducible refine (gx3.at hl _).mono ?_)
         rintro e w2 ⟨rfl, hb⟩; have hS := hS.next hb; have hi := hS.is hl.1; have ho := hS.of; have hq := (hq.next hb); have hc := (hq.cell k (Nat.le_refl _) hlt); have hf := (hq.frozen (E k)); have hi2 := ((hS.setOther hs1 hne (E k) (.bool true)).is hl.1); have ho2 := ((hS.setOther hs1 hne (E k) (.bool true)).of); clear hb)
      | (go_at_call 13; (with_reducible refine (gm.at cs _).mono ?_); rintro e w3 ⟨rfl, hb⟩; have hS := (hS.setOther hs1 hne (E k) (.bool true)).next hb; have hq := (hq.set_ hlt).next hb; clear hb))
        go_roundw
        case rel => exact ⟨k + 1, by omega, by go_num, rfl, hS, hq⟩
        case measure => simp [intOf]; omega
      · obtain rfl : k = 1023 := by omega
        have hx : expI ((1023 : Nat) : Int) = 1 := by decide +kernel
        rw [hx]
        clear hq hne hs1 hx
        have hi := hS.is hl.1
        have ho := hS.of
        have j1 : InvIs 0 0 false := invIs (by omega) (by omega) (by decide +kernel) rfl
        have j2 : InvIs 7 (invI 7) true := invIs (by omega) (by omega) rfl rfl
        have j3 : LogIs 1024 0 false := logIs (by omega) (by omega) rfl rfl
        have p1 : PowIs 0 0 1 := powIs (by omega) (by omega) (by decide +kernel)
        have p2 : PowIs 0 5 0 := powIs (by omega) (by omega) (by decide +kernel)
        have p3 : PowIs 0 (-5) 0 := powIs (by omega) (by omega) (by decide +kernel)
        have p4 : PowIs 7 (-1) (invI 7) := powIs (by omega) (by omega) (by decide +kernel)
        have p5 : PowIs 7 1023 1 := powIs (by omega) (by omega) (by decide +kernel)
        have m1 : MulIs 1025 5 5 := mulIs (by omega) (by omega) (by omega) (by omega) (by decide +kernel)
        have m2 : MulIs 512 512 (expI 18) := mulIs (by omega) (by omega) (by omega) (by omega) (by decide +kernel)
        have a1 : AddIs 1023 1024 1023 := addIs (by omega) (by omega) (by omega) (by omega) (by decide +kernel)
        have x1 : ExpIs 18 (expI 18) := expIs rfl
        generalize invI 7 = V at j2 p4
        generalize expI 18 = T at m2 x1
        clear hlt hk
        go_wp2_with (first
          | (go_at_call 12; first
              | (with_reducible refine (j1.at hl _).mono ?_)
              | (with_reducible refine (j2.at hl _).mono ?_)
             rintro e w2 ⟨rfl, hb⟩; have hS := hS.next hb; have hi := hS.is hl.1; have ho := hS.of; clear hb)
          | (go_at_call 15; first
              | (with_reducible refine (j3.at hl _).mono ?_)
             rintro e w2 ⟨rfl, hb⟩; have hS := hS.next hb; have hi := hS.is hl.1; have ho := hS.of; clear hb)
          | (go_at_call 17; first
              | (with_reducible refine (p1.at hl _).mono ?_)
              | (with_reducible refine (p2.at hl _).mono ?_)
              | (with_reducible refine (p3.at hl _).mono ?_)
              | (with_reducible refine (p4.at hl _).mono ?_)
              | (with_reducible refine (p5.at hl _).mono ?_)
             rintro e w2 ⟨rfl, hb⟩; have hS := hS.next hb; have hi := hS.is hl.1; have ho := hS.of; clear hb)
          | (go_at_call 13; first
              | (with_reducible refine (m1.at cs _).mono ?_)
              | (with_reducible refine (m2.at cs _).mono ?_)
             rintro e w2 ⟨rfl, hb⟩; have hS := hS.next hb; have hi := hS.is hl.1; have ho := hS.of; clear hb)
          | (go_at_call 14; first
              | (with_reducible refine (a1.at _).mono ?_)
             rintro e w2 ⟨rfl, rfl⟩)
          | (go_at_call 16; first
              | (with_reducible refine (x1.at hl _).mono ?_)
             rintro e w2 ⟨rfl, hb⟩; have hS := hS.next hb; have hi := hS.is hl.1; have ho := hS.of; clear hb))
        have hiA := hS.isA hl.1
        have hoA := hS.ofA
        refine Cl.region_after_at w2.heap.size (by kernel_rfl) lex5_17 (by kernel_rfl) ?_
        try simp only [List.append]
        repeat (go_big_quiet_step (first
          | (go_at_call 12; first
              | (with_reducible exact Cl.after_of (Nat.le_refl _) (j1.at hl _))
              | (with_reducible exact Cl.after_of (Nat.le_refl _) (j2.at hl _)))
          | (go_at_call 15; first
              | (with_reducible exact Cl.after_of (Nat.le_refl _) (j3.at hl _)))
          | (go_at_call 17; first
              | (with_reducible exact Cl.after_of (Nat.le_refl _) (p1.at hl _))
              | (with_reducible exact Cl.after_of (Nat.le_refl _) (p2.at hl _))
              | (with_reducible exact Cl.after_of (Nat.le_refl _) (p3.at hl _))
              | (with_reducible exact Cl.after_of (Nat.le_refl _) (p4.at hl _))
              | (with_reducible exact Cl.after_of (Nat.le_refl _) (p5.at hl _)))
          | (go_at_call 13; first
              | (with_reducible exact Cl.after_of (Nat.le_refl _) (m1.at cs _))
              | (with_reducible exact Cl.after_of (Nat.le_refl _) (m2.at cs _)))
          | (go_at_call 14; first
              | (with_reducible exact Cl.after_same (a1.at _)))
          | (go_at_call 16; first
              | (with_reducible exact Cl.after_of (Nat.le_refl _) (x1.at hl _)))))
        refine wpQuiet_nil ?_
        rintro _ ⟨x, rfl⟩
        have hS := hS.after x
        clear hiA hoA 
        generalize x.w = w2 at hS ⊢
        have hi := hS.is hl.1; have ho := hS.of
        go_wp2_with fail
        go_ret
        exact ⟨rfl, hS.below⟩
end Go.Proofs.Ytignmhjnjcpnnaa
namespace Go.Proofs.Ytignmhjnjcpnnaa.fieldKnown
open Go.ChangeShapes Go.WideShapes Go.ChangeAt Go.RowKit Go.Gf
set_option linter.unusedVariables false

theorem own : ownKnob Try.prog.godebug = none := by kernel_rfl

theorem walk  (w : World) :
    Calls Try.prog 5 #[] w fun e w' => e = .returned (.bool true) ∧ Below w.heap.size w w' := known_law  w

set_option maxRecDepth 100000 in
theorem lifted (os : Os) (started : os.Started) (H : Type) (enc : TypeId × Value → H) :
    ReturnsInHanded {} Try.checked os 5 .any (Rows.fieldKnownSpec.pre6 enc Try.prog Try.f5 Rows.fieldKnownRow.domain false) (Rows.fieldKnownSpec.post enc Try.prog Try.f5 false true false false) := by
  refine returnsInHanded_of_change (C := Try.checked) own started (by kernel_rfl) Try.func5
    (ChangeSpec.witness6 (enc := enc) (C := Try.checked) false ⟨#[], #[], []⟩ 8 (by kernel_rfl) (by kernel_rfl) (by kernel_rfl) (by kernel_rfl)) ?_
  intro W base args ds gs before hval0 hW hcnd _
  have hval : ∀ (j : Nat) t v, Try.f5.params[j]? = some t → args[j]? = some v → Value.okWide Try.prog W .any base t v := hval0
  have hW' := hW
  obtain ⟨p, q, hA0, hV, rfl, hfz, hnd⟩ := hW
  have hA : DataW.TrodAll enc Try.prog W 0 (fun _ => true) true Try.f5.params.toList args.toList ds p := hA0
  rw [Try.params5] at hA hval
  obtain ⟨hargs, rfl, rfl⟩ := trodAll_nil hA
  obtain rfl : args = #[] := by cases args; simp_all
  obtain ⟨rfl, rfl⟩ := trodVars_none hV
  clear hA0 hval0
  simp only [List.append_nil] at hW'
  refine (walk  W).mono fun e W' ⟨he, hg⟩ => ?_
  subst he
  exact ⟨_, rfl, Cl.post_below (pa := []) (pv := []) hW' (fun _ _ _ => (trodAll_cons_mk (shut_bool Try.underlying4 _) trodAll_mk0)) (fun sp _ => rfl) (fun _ _ => rfl) rfl
    hg (ok_one (by kernel_rfl) rfl (okWide_bool_mk Try.underlying4 _))⟩

theorem over : Rows.fieldKnownRow.holds Try.pinned (OpenSpec.ofChange Rows.fieldKnownSpec) :=
  OpenClaim.holds_of_wide 5 Try.f5 rfl rfl rfl rfl rfl rfl rfl ⟨rfl, rfl, rfl, rfl, rfl⟩ rfl rfl rfl rfl rfl (by kernel_rfl) Try.func5 (by kernel_rfl)
    (of_decide_eq_true (by kernel_rfl)) (by unfold Func.isWrapper; first | (rw [if_pos (by decide +kernel)]; kernel_rfl) | (rw [if_neg (by decide +kernel)]; exact ⟨rfl, rfl⟩))
    (fun os started H enc _ => lifted os started H enc)

/-- THE STATEMENT -/
theorem proved : Rows.FieldKnownSaid := over
end Go.Proofs.Ytignmhjnjcpnnaa.fieldKnown
