/- What ScanTorn does to a device: a page programmed, the next one cut after k cells: plain. · Bytes copied into bytes made anew. · ScanTorn walked, for whatever has scan's contracts. · ScanTorn's law, as its shell asks for it, for whatever has scan's contracts: mkT.sh's THM is '(Sc.torn_row Sc.the_scan)'. · A slice of bytes among the arguments: how it is read as data, and read again behind a call that leaves old memory alone. -/
import Derived.Test.YtjhoecfhmndcgaaGreatV45
import Derived.Test.YtjhoecfhmndcgaaGreatV36
import Derived.Test.YtjhoecfhmndcgaaGreatWSci
import Derived.Deep.Cut
import Derived.Test.YtjhoecfhmndcgaaGreatV21
import Derived.ProofKit
import Derived.OpenShut
namespace Go.Proofs.YtjhoecfhmndcgaaGreat.Sc
open Go.RowKit Go.Gf Go.Fl
set_option linter.unusedVariables false
set_option linter.unusedSimpArgs false
theorem at_one (k n : Int) (h : n ≠ 1) : Ft.atF [(1, 2, k)] n 1 = (0, 0, 0) := by
  unfold Ft.atF
  rw [if_neg (show ¬ (Ft.tAt [(1, 2, k)] 0).1 = n from fun e => h (by rw [← e]; rfl))]
  rfl
theorem at_hit (k : Int) : Ft.atF [(1, 2, k)] 1 1 = (1, 2, k) := rfl
/-- a device whose second operation is cut -/
def dtT (x y W K k : Nat) : Dev := freshD x y W K (marksOf [] 0) [(1, 2, (k : Int))]
/-- page 0 of block 0 is programmed -/
def dtA (x y W K k : Nat) (S0 : List Nat) : Dev := { dtT x y W K k with ops := 1, pg := setPg (dtT x y W K k).pg 0 0 (progPg (blankPg (W * (K + 16))) S0 ((W * (K + 16) : Nat) : Int)) }
/-- page 1 was cut -/
def dtB (x y W K k : Nat) (S0 S1 : List Nat) (r : Bool) : Dev := { dtA x y W K k S0 with ops := 2, pg := setPg (dtA x y W K k S0).pg 0 1 (progPg (blankPg (W * (K + 16))) S1 (k : Int)), dark := r }
theorem dtA_step {x y W K k : Nat} (S0 : List Nat) : stepD (dtT x y W K k) 2 0 0 S0 = (0, dtA x y W K k S0) := by
  have hf : fateOf (dtT x y W K k) = (0, 0, 0) := at_one _ 0 (by decide)
  exact st_prog (M := dtT x y W K k) (b := 0) (p := 0) (xs := S0) rfl (progE_ok rfl (nextB_yes (fun j _ _ => rfl) (Or.inl rfl)) rfl) (by rw [hf]; decide) (by rw [hf]; decide)
theorem dtB_step {x y W K k : Nat} {S0 S1 : List Nat} (hS : S0.length = W * (K + 16)) (h0 : 0 < W * (K + 16)) : stepD (dtA x y W K k S0) 2 0 1 S1 = (8, dtB x y W K k S0 S1 true) := by
  have hf : fateOf (dtA x y W K k S0) = (1, 2, (k : Int)) := at_hit _
  have h := st_prog_cut (M := dtA x y W K k S0) (b := 0) (p := 1) (xs := S1) rfl (progE_ok rfl (nextB_yes (fun j _ hj => by
    show (if 0 = 0 ∧ j = 0 then progPg (blankPg (W * (K + 16))) S0 ((W * (K + 16) : Nat) : Int) else blankPg (W * (K + 16))).st = 0
    rw [if_neg (by omega)]; rfl) (Or.inr (by
      show progS S0.length _ ≠ 0
      rw [hS]
      unfold progS
      rw [if_neg (by omega), if_pos (Int.le_refl _)]
      decide))) rfl) (by rw [hf])
  rw [h, hf]
  rfl
/-- what the pages of the block say -/
def kT (s n W k : Nat) (p : Nat) : Kd := match p with
  | 0 => .said 2 1 3 0
  | 1 => if k = 0 then .blank else if 8 < (n - k + W - 1) / W then .torn else .said 1 4 s ((n - k + W - 1) / W)
  | _ => .blank
theorem kT_rest (s n W k b P : Nat) : ∀ p, fdL (kT s n W k) b P (p + 2) = fdL (kT s n W k) b P 2 ∧ usN (kT s n W k) (p + 2) = usN (kT s n W k) 2 ∧ trN (kT s n W k) (p + 2) = trN (kT s n W k) 2
  | 0 => ⟨rfl, rfl, rfl⟩
  | p + 1 => kT_rest s n W k b P p
theorem kT_zero {s n W k b P : Nat} (h : k = 0) : fdL (kT s n W k) b P 2 = [⟨((b * P : Nat) : Int), 2, 1, 3, 0⟩] ∧ usN (kT s n W k) 2 = 1 ∧ trN (kT s n W k) 2 = 0 := by
  subst h; exact ⟨rfl, rfl, rfl⟩
theorem kT_torn {s n W k b P : Nat} (h : k ≠ 0) (h8 : 8 < (n - k + W - 1) / W) : fdL (kT s n W k) b P 2 = [⟨((b * P : Nat) : Int), 2, 1, 3, 0⟩] ∧ usN (kT s n W k) 2 = 2 ∧ trN (kT s n W k) 2 = 1 := by
  have e : kT s n W k 1 = .torn := by show (if k = 0 then _ else _) = _; rw [if_neg h, if_pos h8]
  refine ⟨?_, ?_, ?_⟩
  · unfold fdL; rw [e]; rfl
  · unfold usN; rw [e]
  · unfold trN; rw [e]; rfl
theorem kT_said {s n W k b P : Nat} (h : k ≠ 0) (h8 : ¬ 8 < (n - k + W - 1) / W) : fdL (kT s n W k) b P 2 = [⟨((b * P : Nat) : Int), 2, 1, 3, 0⟩, ⟨((b * P + 1 : Nat) : Int), 1, 4, s, (((n - k + W - 1) / W : Nat) : Int)⟩] ∧ usN (kT s n W k) 2 = 2 ∧ trN (kT s n W k) 2 = 0 := by
  have e : kT s n W k 1 = .said 1 4 s ((n - k + W - 1) / W) := by show (if k = 0 then _ else _) = _; rw [if_neg h, if_neg h8]
  refine ⟨?_, ?_, ?_⟩
  · unfold fdL; rw [e]; rfl
  · unfold usN; rw [e]
  · unfold trN; rw [e]; rfl
theorem halfP_over {ss : List Nat} {n k : Nat} (hn : ss.length = n) (hk : n ≤ k) : halfP ss k = halfP ss n := by
  unfold halfP
  refine List.map_congr_left fun i hi => ?_
  have hi' : i < n := by rw [← hn]; exact List.mem_range.mp hi
  rw [if_neg (by omega), if_neg (by omega)]
theorem halfP_zero (ss : List Nat) : halfP ss 0 = List.replicate ss.length (0, 0) := by
  unfold halfP
  refine List.eq_replicate_iff.mpr ⟨by simp, fun y hy => ?_⟩
  obtain ⟨i, _, rfl⟩ := List.mem_map.mp hy
  rw [if_pos (Nat.zero_le _)]
theorem dtB_kd {x y W K N k s : Nat} {d0 d1 : List Nat} (hM : Ge.mayG (x : Int) (y : Int) (W : Int) (K : Int) = true) (hN : W * K = N) (hv0 : sayV N 2 1 3 d0) (hv1 : sayV N 1 4 s d1) (m : Nat) : ∀ p, p < y → KdIs (x : Int) (y : Int) (W : Int) (K : Int) ((dtB x y W K k (pageL W (sayL N 2 1 3 d0)) (pageL W (sayL N 1 4 s d1)) false).pg 0 p).ps (kT s (W * (K + 16)) W k p) := by
  intro p hp
  have hl0 := (said_len hM hN hv0).1
  have hl1 := (said_len hM hN hv1).1
  match p with
  | 0 =>
    show KdIs _ _ _ _ (progP (List.replicate (W * (K + 16)) (0, 0)) (pageL W (sayL N 2 1 3 d0)) ((W * (K + 16) : Nat) : Int)) (.said 2 1 3 0)
    rw [prog_half hl0]
    exact kd_whole hM hN hv0
  | 1 =>
    show KdIs _ _ _ _ (progP (List.replicate (W * (K + 16)) (0, 0)) (pageL W (sayL N 1 4 s d1)) (k : Int)) (if k = 0 then .blank else if 8 < (W * (K + 16) - k + W - 1) / W then .torn else .said 1 4 s ((W * (K + 16) - k + W - 1) / W))
    rw [prog_half hl1]
    by_cases h0 : k = 0
    · rw [if_pos h0]
      subst h0
      rw [halfP_zero, hl1]
      exact kd_blank _ _ _ _ _
    · rw [if_neg h0]
      by_cases hk : k ≤ W * (K + 16)
      · by_cases h8 : 8 < (W * (K + 16) - k + W - 1) / W
        · rw [if_pos h8]
          exact kd_torn hM hN hv1 (by omega) hk h8
        · rw [if_neg h8]
          exact kd_half hM hN hv1 (by omega) hk (by omega)
      · have hW : 0 < W := (said_len hM hN hv1).2.2.1
        have e : (W * (K + 16) - k + W - 1) / W = 0 := by
          rw [show W * (K + 16) - k = 0 by omega, Nat.zero_add]
          exact Nat.div_eq_of_lt (by omega)
        rw [e, if_neg (by omega), halfP_over hl1 (by omega)]
        exact kd_whole hM hN hv1
  | p + 2 =>
    show KdIs _ _ _ _ (List.replicate (W * (K + 16)) (0, 0)) .blank
    exact kd_blank _ _ _ _ _
theorem dtB_fine (x y W K k : Nat) (S0 S1 : List Nat) (r : Bool) : Fine (dtB x y W K k S0 S1 r) := ⟨by show (2 : Nat) < _; decide, by show (0 : Nat) < _; decide, fun _ => by show (0 : Nat) < _; decide⟩
/-- the block is scanned -/
theorem dt_scan (C : SC) {w0 w : World} {F : Nat → Prop} {a : Addr} {x y W K N k s : Nat} {d0 d1 : List Nat} {cs : List Nat} (h : Env w0 F a (dtB x y W K k (pageL W (sayL N 2 1 3 d0)) (pageL W (sayL N 1 4 s d1)) false) w) (hT : Tab cs) (hM : Ge.mayG (x : Int) (y : Int) (W : Int) (K : Int) = true) (hN : W * K = N) (hv0 : sayV N 2 1 3 d0) (hv1 : sayV N 1 4 s d1) (hx : 0 < x) (hy : y ≤ 32) (hy2 : 2 ≤ y) :
    Calls Tryz.prog 19 #[.agg (cells cs), .pointer (some a), .int .i64 0] w fun e w' => ∃ A c u r l, e = .returned (.tuple #[.agg #[.slice A l.length c, .int .i64 ((u : Nat) : Int), .int .i64 ((r : Nat) : Int)], .int .i64 0]) ∧ Below w0.heap.size w0 w' ∧ FS w' w'.heap.size A l ∧
      l = fdL (kT s (W * (K + 16)) W k) 0 y 2 ∧ u = usN (kT s (W * (K + 16)) W k) 2 ∧ r = trN (kT s (W * (K + 16)) W k) 2 := by
  have hc := C.block h (dtB_fine x y W K k _ _ false) hT rfl (show 2 + y < 1000000000 by omega) 0 hx (kT s (W * (K + 16)) W k) (dtB_kd hM hN hv0 hv1 0) (fun p _ => by
    have hf : fateOf { dtB x y W K k (pageL W (sayL N 2 1 3 d0)) (pageL W (sayL N 1 4 s d1)) false with ops := 2 + p } = (0, 0, 0) := at_one _ _ (show ((2 + p : Nat) : Int) ≠ 1 by omega)
    show (fateOf { dtB x y W K k (pageL W (sayL N 2 1 3 d0)) (pageL W (sayL N 1 4 s d1)) false with ops := 2 + p }).2.1 ≠ 2
    rw [hf]; decide) 0 rfl
  obtain ⟨z, rfl⟩ : ∃ z, y = z + 2 := ⟨y - 2, by omega⟩
  obtain ⟨e1, e2, e3⟩ := kT_rest s (W * (K + 16)) W k 0 (z + 2) z
  refine hc.mono fun e w' ⟨A, c, he, hk, hE, hS⟩ => ⟨A, c, _, _, _, he, hE.low, hS, e1, e2, e3⟩
/-- block g is that mark -/
def K3 (w : World) (g : Nat) (x y z : Value) : Prop := w.heap[g]? = some (.cells #[x, y, z] 27 (0, 0))
section
variable {w w' : World} {g : Nat} {x y z : Value}
theorem K3.lt (h : K3 w g x y z) : g < w.heap.size := by
  rcases Nat.lt_or_ge g w.heap.size with hlt | hge
  · exact hlt
  · unfold K3 at h; rw [Array.getElem?_eq_none hge] at h; cases h
theorem K3.new (w : World) (x y z : Value) : K3 (w.alloc (.cells #[x, y, z] 27)) w.heap.size x y z := heap_alloc_new w _
theorem K3.c0 (h : K3 w g x y z) : w.cell? ⟨g, 0, none⟩ = some x := cell_of_row w g 0 _ _ _ h
theorem K3.c1 (h : K3 w g x y z) : w.cell? ⟨g, 1, none⟩ = some y := cell_of_row w g 1 _ _ _ h
theorem K3.c2 (h : K3 w g x y z) : w.cell? ⟨g, 2, none⟩ = some z := cell_of_row w g 2 _ _ _ h
theorem K3.keep (h : K3 w g x y z) (hb : w'.heap[g]? = w.heap[g]?) : K3 w' g x y z := hb.trans h
theorem K3.below (h : K3 w g x y z) (hb : Below w.heap.size w w') : K3 w' g x y z := h.keep (hb.block g h.lt)
end
/-- symbols made before the device is -/
theorem own_far {w w' : World} {v : Value} {ys : List Nat} (ho : OwnS w w' v ys) (hne : ys ≠ []) (hs : ∀ y ∈ ys, y < 1024) : ∃ g c, v = .slice (some ⟨g, 0, none⟩) ys.length c ∧ Syms w' (fun b => w'.heap.size ≤ b) (some ⟨g, 0, none⟩) ys.length c ys := by
  obtain ⟨g, c, rfl, hc, hg, hp⟩ := ho.pre hne
  obtain ⟨A', c', e, _, hsl⟩ := ho.sl
  injection e with e1 e2 e3
  subst e1 e3
  have hlt : g < w'.heap.size := by
    rcases hsl.2 with hsl | ⟨a', ea, hl, _⟩
    · exact absurd hsl hne
    · cases ea; exact hl
  exact ⟨g, c, rfl, hsl, fun a' ea => by cases ea; exact ⟨hlt, fun hh => by have hh : w'.heap.size ≤ g := hh; omega⟩, rfl, hc, hs⟩
theorem Syms.far {w w' : World} {A : Option Addr} {n c : Nat} {ys : List Nat} (h : Syms w (fun b => w.heap.size ≤ b) A n c ys) (hb : Below w.heap.size w w') : Syms w' (fun b => w'.heap.size ≤ b) A n c ys := by
  have h' := Syms.below h hb
  exact ⟨h'.sl, fun a e => ⟨(h'.out a e).1, fun hh => by have hh : w'.heap.size ≤ a.block := hh; have := (h'.out a e).1; omega⟩, h'.len, h'.cap, h'.sym⟩
theorem may_one (k : Nat) : Ft.mayF [(1, 2, (k : Int))] = true := by
  unfold Ft.mayF Ft.newT Ft.okT
  simp [Ft.tAt]
theorem fate_one (w : World) (k : Nat) : Ft.S3 (w.alloc (.cells #[.int .i64 1, .int .i64 2, .int .i64 (k : Int)] 61)) (w.alloc (.cells #[.int .i64 1, .int .i64 2, .int .i64 (k : Int)] 61)).heap.size (some ⟨w.heap.size, 0, none⟩) [(1, 2, (k : Int))] := Ft.S3.new w _ _ _ fun i hi => by
  obtain rfl : i = 0 := by simp at hi; omega
  exact ⟨rfl, rfl, rfl⟩
theorem Syms.less {w : World} {F G : Nat → Prop} {A : Option Addr} {n c : Nat} {ys : List Nat} (h : Syms w F A n c ys) (hG : ∀ b, G b → F b) : Syms w G A n c ys := ⟨h.sl, fun a e => ⟨(h.out a e).1, fun hh => (h.out a e).2 (hG _ hh)⟩, h.len, h.cap, h.sym⟩
theorem dt_prog0 {w0 w : World} {F : Nat → Prop} {a : Addr} {x y W K k n c : Nat} {A : Option Addr} {S : List Nat} (h : Env w0 F a (freshD x y W K (marksOf [] 0) [(1, 2, (k : Int))]) w) (hs : Syms w F A n c S) (hn : W * (K + 16) = n) (hx : 0 < x) (hy : 2 ≤ y) :
    Calls Tryz.prog 16 #[.pointer (some a), .int .i64 0, .int .i64 0, .slice A n c] w fun e w' => e = .returned (.int .i64 0) ∧ Cl.Keeps (fun b => ¬ F b) w w' ∧ Env w0 F a (dtA x y W K k S) w' :=
  e_program (M := dtT x y W K k) h ⟨by show (0 : Nat) < _; decide, by show (0 : Nat) < _; decide, fun _ => by show (0 : Nat) < _; decide⟩ 0 0 hx (show 0 < y by omega) rfl rfl hs hn.symm (dtA_step S)
theorem dt_prog1 {w0 w : World} {F : Nat → Prop} {a : Addr} {x y W K k n c : Nat} {A : Option Addr} {S0 S : List Nat} (h : Env w0 F a (dtA x y W K k S0) w) (hs : Syms w F A n c S) (hn : W * (K + 16) = n) (h0 : 0 < n) (hS : S0.length = n) (hx : 0 < x) (hy : 2 ≤ y) :
    Calls Tryz.prog 16 #[.pointer (some a), .int .i64 0, .int .i64 1, .slice A n c] w fun e w' => e = .returned (.int .i64 8) ∧ Cl.Keeps (fun b => ¬ F b) w w' ∧ Env w0 F a (dtB x y W K k S0 S true) w' :=
  e_program (M := dtA x y W K k S0) h ⟨by show (1 : Nat) < _; decide, by show (0 : Nat) < _; decide, fun _ => by show (0 : Nat) < _; decide⟩ 0 1 hx (show 1 < y by omega) rfl rfl hs hn.symm (dtB_step (by rw [hS, hn]) (by omega))
theorem dt_power {w0 w : World} {F : Nat → Prop} {a : Addr} {x y W K k : Nat} {S0 S : List Nat} (h : Env w0 F a (dtB x y W K k S0 S true) w) :
    Calls Tryz.prog 22 #[.pointer (some a)] w fun e w' => e = .returned (.tuple #[]) ∧ Cl.Keeps (fun b => ¬ F b) w w' ∧ Env w0 F a (dtB x y W K k S0 S false) w' := e_power h
end Go.Proofs.YtjhoecfhmndcgaaGreat.Sc
namespace Go.Proofs.YtjhoecfhmndcgaaGreat
open Go.RowKit Go.Gf Go.Fl
set_option linter.unusedVariables false
set_option linter.unusedSimpArgs false
set_option maxRecDepth 20000

theorem sizeB : (Tryz.prog.info? 5).map (·.size) = some 1 := by kernel_rfl
theorem splice_bytes (xs : List Nat) (n : Nat) : splice ((List.replicate n 0).map ub) 0 ((xs.take n).map ub) = (rm n (at_ xs)).map ub := by
  unfold splice
  apply List.ext_getElem
  · simp [rm]; omega
  · intro j h1 h2
    have hj : j < n := by simpa [rm] using h2
    simp only [List.take_zero, List.nil_append, Nat.zero_add, List.length_map]
    rw [List.getElem_append]
    by_cases hx : j < xs.length
    · have hm : j < min n xs.length := by omega
      simp [hx, hj, rm, at_, hm]
    · have hm : ¬ j < min n xs.length := by omega
      simp [hx, hj, rm, at_, hm]
theorem wpList_copy_bytes {w0 w : World} {ops : Array Oper} {rest : List Oper} {o : Oper} {a : Act} {Q : Exit → Act → World → Prop} (hgd : o.guard = none) (d s : Operand)
    (ho : o.op = .call { callee := .builtin .copy, args := #[d, s], argTypes := #[44, 44] }) (g n : Nat) (hd : a.eval d = .slice (some ⟨g, 0, none⟩) n n) (A : Option Addr) (xs : List Nat) (c : Nat) (hs : a.eval s = .slice A xs.length c)
    (hg : Ab w g (List.replicate n 0)) (hx : Sb w w.heap.size A xs) (hb : Below w0.heap.size w0 w) (hg0 : w0.heap.size ≤ g)
    (h : ∀ w', Ab w' g (rm n (at_ xs)) → Below w0.heap.size w0 w' → wpList Tryz.prog ops Q rest (a.put o.dst (goInt ((xs.take n).map ub).length)) w') :
    wpList Tryz.prog ops Q (o :: rest) a w := by
  refine wpList_copy_splice hgd d s 44 44 ho 5 Tryz.underlying44 sizeB (some ⟨g, 0, none⟩) A n n xs.length c hd hs g 0 ((List.replicate n 0).map ub) 5 hg ((xs.take n).map ub) (by rw [List.length_map, List.length_take]; exact Nat.min_comm _ _) (by
    intro hp
    refine ⟨rfl, ?_⟩
    have hne : xs ≠ [] := by intro e; rw [e] at hp; simp at hp
    obtain ⟨ad, e, hab, hcell⟩ := hx.2.resolve_left hne
    refine ⟨ad, e, fun j v hv => ?_⟩
    rw [List.getElem?_map] at hv
    rcases Nat.lt_or_ge j (xs.take n).length with hj | hj
    · rw [List.getElem?_eq_getElem hj] at hv
      injection hv with hv
      rw [← hv, List.getElem_take]
      exact hcell j (by rw [List.length_take] at hj; omega)
    · rw [List.getElem?_eq_none hj] at hv; cases hv) (by rw [List.length_map, List.length_map, List.length_take, List.length_replicate]; omega) (by intro v hv; obtain ⟨x, _, rfl⟩ := List.mem_map.1 hv; rfl) w0.heap.size w0 hb hg0 ?_
  intro w' h1 h2
  refine h w' ?_ h2
  have := h1.out
  rw [splice_bytes] at this
  exact this
theorem ab_new (w : World) (n : Nat) : Ab (w.alloc (.cells (madeCells #[.int .u8 0] n) 5)) w.heap.size (List.replicate n 0) := by
  rw [made_ub]
  exact heap_alloc_new w _
theorem Ab.keep {w w' : World} {g : Nat} {cs : List Nat} (h : Ab w g cs) (hb : Below w.heap.size w w') : Ab w' g cs := by
  have hlt : g < w.heap.size := by
    rcases Nat.lt_or_ge g w.heap.size with hlt | hge
    · exact hlt
    · unfold Ab at h; rw [Array.getElem?_eq_none hge] at h; cases h
  exact (hb.block g hlt).trans h
theorem Ab.lt' {w : World} {g : Nat} {cs : List Nat} (h : Ab w g cs) : g < w.heap.size := by
  rcases Nat.lt_or_ge g w.heap.size with hlt | hge
  · exact hlt
  · unfold Ab at h; rw [Array.getElem?_eq_none hge] at h; cases h
end Go.Proofs.YtjhoecfhmndcgaaGreat
namespace Go.Proofs.YtjhoecfhmndcgaaGreat.Sc
open Go.RowKit Go.Gf Go.Fl
set_option linter.unusedVariables false
set_option linter.unusedSimpArgs false
set_option maxRecDepth 20000
attribute [local go_sem ↓] exec_load_tb Cl.quiet_since
attribute [local go_sem] tbAt_ptr tbIn_ptr
/-- how many of a page's cells are blank, at most so many in each codeword -/
theorem sum_torn {n k W : Nat} (hn : n ≤ 320) (hk : k < n + 2) (h1 : 1 ≤ W) (h4 : W ≤ 4) :
    ∃ b c X : Nat, n - k = b ∧ b + W - 1 = c ∧ c / W = X ∧ X ≤ 400 ∧ wrap64 ((n : Int) - (k : Int)) = (n : Int) - (k : Int) ∧ max 0 ((n : Int) - (k : Int)) = (b : Int) ∧ (if (n : Int) - (k : Int) < 0 then 0 else (n : Int) - (k : Int)) = (b : Int) ∧
      (if 0 ≤ (n : Int) - (k : Int) then (n : Int) - (k : Int) else 0) = (b : Int) ∧ (if 0 < (n : Int) - (k : Int) then (n : Int) - (k : Int) else 0) = (b : Int) ∧ wrap64 ((b : Int) + (W : Int)) = (b : Int) + (W : Int) ∧ wrap64 ((b : Int) + (W : Int) - 1) = (c : Int) ∧ (c : Int).tdiv (W : Int) = (X : Int) ∧ (c : Int) / (W : Int) = (X : Int) ∧ wrap64 (X : Int) = (X : Int) ∧ ¬ (W : Int) = 0 ∧ ((W : Int) == 0) = false := by
  refine ⟨n - k, n - k + W - 1, (n - k + W - 1) / W, rfl, rfl, rfl, Nat.le_trans (Nat.div_le_self _ _) (by omega), IntWalk.wrap64_in _ (by omega), by omega, by omega, by omega, by omega, IntWalk.wrap64_in _ (by omega), ?_, rfl, (Int.natCast_ediv _ _).symm, IntWalk.wrap64_in _ ?_, by omega, by simp; omega⟩
  · rw [show ((n - k : Nat) : Int) + (W : Int) - 1 = ((n - k + W - 1 : Nat) : Int) by omega]
    exact IntWalk.wrap64_in _ (by omega)
  · have := Nat.div_le_self (n - k + W - 1) W
    generalize (n - k + W - 1) / W = q at *
    omega
theorem since_cell {w w' : World} {p : Addr} {v : Value} (h : w.cell? p = some v) (hk : Below w.heap.size w w') (z : Cl.Since (fun _ => True) w') : z.w.cell? p = some v := by
  have h1 : w'.cell? p = some v := (hk.cell (World.block_lt_of_cell? w _ h)).trans h
  exact (z.keeps.below.cell (World.block_lt_of_cell? w' _ h1)).trans h1
set_option maxHeartbeats 16000000 in
theorem torn_law (C : SC) (B P W K : Int) (A : Option Addr) (xs : List Nat) (c : Nat) (Q : Nat) (hQ : Q < 65536) (w : World) (hs : Sb w w.heap.size A xs) :
    Calls Tryz.prog 6 #[.agg #[.int .i64 B, .int .i64 P, .int .i64 W, .int .i64 K], .slice A xs.length c, .int .u16 (Q : Int)] w (We.Ans w (.bool true)) := by
  have bx := Lib.hid (G4.new w B P W K)
  have hb := Lib.hid (We.below_alloc w (.cells #[.int .i64 B, .int .i64 P, .int .i64 W, .int .i64 K] 34))
  have ha := Lib.hid (awake_any C (w.alloc (.cells #[.int .i64 B, .int .i64 P, .int .i64 W, .int .i64 K] 34)))
  have hr := fun w => Ge.refmay_any B P W K w
  have C' := Lib.hid C
  clear C
  have H := Lib.hid hs
  clear hs
  obtain ⟨n, hn⟩ : ∃ n, xs.length = n := ⟨_, rfl⟩
  rw [hn]
  replace hn := Lib.hid hn
  go_enter Tryz.func6, Tryz.ntmps6
  go_wp2_with (go_at_call 8; (with_reducible refine ha.out.mono ?_); clear ha; rintro e w1 ⟨rfl, hb1⟩; have b1 := Lib.hid (bx.out.below hb1); replace hb1 := Lib.hid (We.below_trans hb.out hb1); clear bx hb)
  refine Cl.region_way (fun _ => True) 18 [(0, .r), (1, .c), (2, .r), (3, .r), (4, .r), (5, .r), (6, .r), (7, .r), (8, .r), (9, .r), (10, .c), (11, .r), (12, .r), (13, .r), (14, .r), (15, .r), (16, .r), (17, .r), (18, .z)] (by kernel_rfl) (by kernel_rfl) ?_
  intro w2 hk2
  have b2 := Lib.hid (b1.out.below hk2.below)
  have B2 := Lib.hid (We.below_trans hb1.out hk2.below)
  clear hk2 b1 hb1
  have t0 : ∀ z : Cl.Since (fun _ => True) w2, z.w.cell? ⟨w.heap.size, 0, none⟩ = some (.int .i64 B) := fun z => (b2.out.below z.keeps.below).c0
  have t1 : ∀ z : Cl.Since (fun _ => True) w2, z.w.cell? ⟨w.heap.size, 1, none⟩ = some (.int .i64 P) := fun z => (b2.out.below z.keeps.below).c1
  have t2 : ∀ z : Cl.Since (fun _ => True) w2, z.w.cell? ⟨w.heap.size, 2, none⟩ = some (.int .i64 W) := fun z => (b2.out.below z.keeps.below).c2
  have t3 : ∀ z : Cl.Since (fun _ => True) w2, z.w.cell? ⟨w.heap.size, 3, none⟩ = some (.int .i64 K) := fun z => (b2.out.below z.keeps.below).c3
  refine Cl.way_r rfl ?_
  go_big_quiet_step (fail)
  refine wpQuiet_nil ?_
  refine Cl.way_c rfl ?_
  have hc := Lib.hid (hr w2)
  clear t0 t1 t2 t3
  go_wp2_with (go_at_call 11; (with_reducible refine hc.out.mono ?_); clear hc; rintro e w3 ⟨rfl, hb3⟩)
  refine Cl.way_on (Cl.Keeps.of_below hb3) ?_
  have b3 := Lib.hid (b2.out.below hb3)
  have B3 := Lib.hid (We.below_trans B2.out hb3)
  clear hb3 b2 B2 hr
  have t0 : ∀ z : Cl.Since (fun _ => True) w3, z.w.cell? ⟨w.heap.size, 0, none⟩ = some (.int .i64 B) := fun z => (b3.out.below z.keeps.below).c0
  have t1 : ∀ z : Cl.Since (fun _ => True) w3, z.w.cell? ⟨w.heap.size, 1, none⟩ = some (.int .i64 P) := fun z => (b3.out.below z.keeps.below).c1
  have t2 : ∀ z : Cl.Since (fun _ => True) w3, z.w.cell? ⟨w.heap.size, 2, none⟩ = some (.int .i64 W) := fun z => (b3.out.below z.keeps.below).c2
  have t3 : ∀ z : Cl.Since (fun _ => True) w3, z.w.cell? ⟨w.heap.size, 3, none⟩ = some (.int .i64 K) := fun z => (b3.out.below z.keeps.below).c3
  cases hm : Ge.mayG B P W K
  · iterate 8 (with_reducible refine (no_implicit_lambda% (Cl.way_r rfl ?_)); go_big_quiet_step (fail); with_reducible refine (no_implicit_lambda% (wpQuiet_nil ?_)))
    refine Cl.way_c rfl ?_
    go_wp2_with fail
    refine Cl.way_on (Cl.Keeps.refl _ _) ?_
    iterate 7 (with_reducible refine (no_implicit_lambda% (Cl.way_r rfl ?_)); go_big_quiet_step (fail); with_reducible refine (no_implicit_lambda% (wpQuiet_nil ?_)))
    refine Cl.way_z rfl ?_
    clear t0 t1 t2 t3
    go_wp2_with fail
    refine Cl.Calm.normal ?_
    go_wp2_with fail
    go_ret
    exact ⟨rfl, B3.out⟩
  · obtain ⟨W', K', N', rfl, rfl, hN', hW1, hW4, hK1, hK64, h8', h256, hsg, hcg⟩ := mayG_of hm
    obtain ⟨x, y, rfl, rfl, hx1, hx2, hy1, hy2⟩ : ∃ x y : Nat, B = (x : Int) ∧ P = (y : Int) ∧ 4 ≤ x ∧ x ≤ 64 ∧ 2 ≤ y ∧ y ≤ 32 := by
      have h := Ge.may_of hm
      exact ⟨B.toNat, P.toNat, by omega, by omega, by omega, by omega, by omega, by omega⟩
    obtain ⟨n0, hn0⟩ : ∃ n0, W' * (K' + 16) = n0 := ⟨_, rfl⟩
    have hn1 : n0 ≤ 320 ∧ 0 < n0 := by rw [← hn0]; exact cells_in hW1 hW4 hK64
    have e3 := prod_in hx2 hy2 hn1.1
    obtain ⟨e1, e2⟩ := prod_two hx2 hy2 hn1.1
    replace hN' := Lib.hid hN'
    replace hn0 := Lib.hid hn0
    obtain ⟨Z, hZ⟩ : ∃ z, x * y * n0 = z := ⟨_, rfl⟩
    rw [hZ] at e3 e2
    clear hZ
    obtain ⟨XY, hXY⟩ : ∃ z, x * y = z := ⟨_, rfl⟩
    rw [hXY] at e1 e2
    clear hXY
    have hcel := fun w => Ge.refcells_any (x : Int) (y : Int) (W' : Int) (K' : Int) w
    rw [hcg, hn0.out] at hcel
    replace hcel := Lib.hid hcel
    iterate 8 (with_reducible refine (no_implicit_lambda% (Cl.way_r rfl ?_)); go_big_quiet_step (fail); with_reducible refine (no_implicit_lambda% (wpQuiet_nil ?_)))
    clear t0 t1 t2 t3
    refine Cl.way_c rfl ?_
    go_wp2_with (go_at_call 12; (with_reducible refine (hcel.out _).mono ?_); clear hcel; rintro e w4 ⟨rfl, hb4⟩)
    refine Cl.way_on (Cl.Keeps.of_below hb4) ?_
    have b4 := Lib.hid (b3.out.below hb4)
    have B4 := Lib.hid (We.below_trans B3.out hb4)
    clear hb4 b3 B3
    by_cases h6 : (6000 : Int) < (Z : Int)
    · have d1 : decide ((6000 : Int) < wrap64 ((x : Int) * (y : Int) * (n0 : Int))) = true := by rw [e3]; exact decide_eq_true h6
      have d2 : decide ((6000 : Int) < (Z : Int)) = true := decide_eq_true h6
      iterate 7 (with_reducible refine (no_implicit_lambda% (Cl.way_r rfl ?_)); go_big_quiet_step (fail); with_reducible refine (no_implicit_lambda% (wpQuiet_nil ?_)))
      refine Cl.way_z rfl ?_
      go_wp2_with fail
      refine Cl.Calm.normal ?_
      go_wp2_with fail
      go_ret
      exact ⟨rfl, B4.out⟩
    · have d1 : decide ((6000 : Int) < wrap64 ((x : Int) * (y : Int) * (n0 : Int))) = false := by rw [e3]; exact decide_eq_false h6
      have d2 : decide ((6000 : Int) < (Z : Int)) = false := decide_eq_false h6
      iterate 7 (with_reducible refine (no_implicit_lambda% (Cl.way_r rfl ?_)); go_big_quiet_step (fail); with_reducible refine (no_implicit_lambda% (wpQuiet_nil ?_)))
      refine Cl.way_z rfl ?_
      go_wp2_with fail
      refine Cl.Calm.normal ?_
      clear d1 d2 e1 e2 e3 h6
      by_cases hlen : (500 : Int) < (n : Int)
      · have d5 : decide ((500 : Int) < (n : Int)) = true := decide_eq_true hlen
        go_wp2_with fail
        go_ret
        exact ⟨rfl, B4.out⟩
      have d5 : decide ((500 : Int) < (n : Int)) = false := decide_eq_false hlen
      have c0 := b4.out.c0
      have c1 := b4.out.c1
      have c2 := b4.out.c2
      have c3 := b4.out.c3
      obtain ⟨D, hD⟩ : ∃ D, 10 * (N' - 8) / 8 = D := ⟨_, rfl⟩
      have hsz := fun w => Ge.refsize_any (x : Int) (y : Int) (W' : Int) (K' : Int) w
      rw [hsg, hD] at hsz
      replace hsz := Lib.hid hsz
      have hD6 : D ≤ 1000000 := by omega
      have hD6' := Lib.hid hD6
      have mk := make_u8 D hD6
      have hm' := Lib.hid hm
      replace hD := Lib.hid hD
      have hW14 := Lib.hid (show 1 ≤ W' ∧ W' ≤ 4 from ⟨hW1, hW4⟩)
      clear hm hcg hsg h8' h256 hD6 hW1 hW4
      have hx1' := Lib.hid (show 0 < x ∧ 2 ≤ y from ⟨by omega, hy1⟩)
      replace hx2 := Lib.hid hx2
      replace hy2 := Lib.hid hy2
      replace hn1 := Lib.hid hn1
      clear hx1 hy1
      go_wp2_with fail
      refine (hsz.out _).mono ?_
      clear hsz c0 c1 c2 c3 d5 hlen
      rintro e w5 ⟨rfl, hb5⟩
      have B5 := Lib.hid (We.below_trans B4.out hb5)
      have b5 := Lib.hid (b4.out.below hb5)
      have hba := Ge.below_alloc w5 (.cells (madeCells #[.int .u8 0] D) 5)
      have hgl := Lib.hid (Nat.lt_of_lt_of_le b4.out.lt hb5.size)
      clear B4 b4 hb5
      rw [← hn.out]
      go_wp2_with (refine wpList_copy_bytes (w0 := w5) rfl (.tmp 44) (.tmp 45) rfl w5.heap.size D rfl A xs c rfl (ab_new w5 D) ((H.out.far B5.out).far hba) hba (Nat.le_refl _) ?_)
      intro w6 hA6 hb6
      have b6 := Lib.hid (b5.out.below hb6)
      have B6 := Lib.hid (We.below_trans B5.out hb6)
      generalize w5.heap.size = gd at *
      clear hba mk b5 B5 hb6
      obtain ⟨d, hd⟩ : ∃ d, rm D (at_ xs) = d := ⟨_, rfl⟩
      have hdl : d.length = D := by rw [← hd, rm_len]
      have hdb : ∀ x ∈ d, x < 256 := by rw [← hd]; exact rm_mem fun j _ => at_lt H.out.1 (by decide)
      rw [hd] at hA6
      replace hA6 := Lib.hid hA6
      clear hd
      have hv1 : sayV N' 1 4 Q d := ⟨by decide, by decide, by decide, by omega, by rw [hdl, hD.out], hdb⟩
      have hv0 : sayV N' 2 1 3 d := ⟨by decide, by decide, by decide, by decide, by rw [hdl, hD.out], hdb⟩
      have hb7 := Ge.below_alloc w6 (.cells #[.int .i64 1, .int .i64 4, .int .i64 (Q : Int)] 27)
      have A7 := Lib.hid (hA6.out.keep hb7)
      have b7 := Lib.hid (b6.out.below hb7)
      have B7 := Lib.hid (We.below_trans B6.out hb7)
      have k7 := Lib.hid (K3.new w6 (.int .i64 1) (.int .i64 4) (.int .i64 (Q : Int)))
      have hmk := Lib.hid (make_page (n := D) (c := D) (kI := 1) (lI := 4) (qI := (Q : Int)) hm'.out hN'.out hv1 rfl rfl rfl hdl (A7.out.sb hdb) hD6'.out)
      replace hv0 := Lib.hid hv0
      replace hv1 := Lib.hid hv1
      replace hdl := Lib.hid hdl
      replace hdb := Lib.hid hdb
      have c0 := b7.out.c0
      have c1 := b7.out.c1
      have c2 := b7.out.c2
      have c3 := b7.out.c3
      have q0 := k7.out.c0
      have q1 := k7.out.c1
      have q2 := k7.out.c2
      have hQ6 : wrap64 (Q : Int) = (Q : Int) := IntWalk.wrap64_in _ (by omega)
      clear b6 B6 hA6 hb7
      obtain ⟨S1, hS1⟩ : ∃ S, pageL W' (sayL N' 1 4 Q d) = S := ⟨_, rfl⟩
      have hSl := (said_len hm'.out hN'.out hv1.out).1
      have hSb := (said_len hm'.out hN'.out hv1.out).2.1
      rw [hn0.out, hS1] at hSl
      rw [hS1] at hSb hmk
      replace hS1 := Lib.hid hS1
      replace hSl := Lib.hid hSl
      replace hSb := Lib.hid hSb
      go_wp2_with fail
      refine hmk.out.mono ?_
      clear hmk c0 c1 c2 c3 q0 q1 q2
      rintro e w8 ⟨v, rfl, ho, hb8⟩
      have A8 := Lib.hid (A7.out.keep hb8)
      have b8 := Lib.hid (b7.out.below hb8)
      have B8 := Lib.hid (We.below_trans B7.out hb8)
      have k8 := Lib.hid (k7.out.below hb8)
      clear A7 b7 B7 k7
      generalize w6.alloc (.cells #[.int .i64 1, .int .i64 4, .int .i64 (Q : Int)] 27) = w7 at *
      generalize w6.heap.size = g7 at *
      obtain ⟨g8, c8, rfl, S8⟩ := own_far ho (by intro e; have := hSl.out; rw [e] at this; have := hn1.out.2; simp at *; omega) hSb.out
      rw [hSl.out] at S8 ⊢
      replace S8 := Lib.hid S8
      clear ho hb8
      obtain ⟨k, hk⟩ : ∃ k, Q % (n0 + 2) = k := ⟨_, rfl⟩
      have hkn : k < n0 + 2 := by rw [← hk]; exact Nat.mod_lt _ (Nat.succ_pos _)
      have f1 : (Q : Int).tmod ((n0 : Int) + 2) = (k : Int) := by rw [← hk]; rfl
      have f2 : (Q : Int) % ((n0 : Int) + 2) = (k : Int) := by rw [← hk]; exact (Int.natCast_emod _ _).symm
      have f5 : wrap64 ((n0 : Int) + 2) = (n0 : Int) + 2 := IntWalk.wrap64_in _ (by have := hn1.out.1; omega)
      have n3 : ¬ (n0 : Int) + 2 = 0 := by omega
      have n5 : (((n0 : Int) + 2) == 0) = false := by simp; omega
      have f6 : wrap64 (k : Int) = (k : Int) := IntWalk.wrap64_in _ (by have := hn1.out.1; omega)
      clear hk
      have hba := Ge.below_alloc w8 (.cells #[.int .i64 1, .int .i64 2, .int .i64 (k : Int)] 61)
      have hnw := e_new (w := w8.alloc (.cells #[.int .i64 1, .int .i64 2, .int .i64 (k : Int)] 61)) x y W' K' (b := x) (p := y) (k := W') (l := K') rfl rfl rfl rfl hm'.out (A := none) (bs := []) (n := 0) (c := 0) (Or.inl rfl) rfl (by decide) (by simp) (c2 := 1) (fate_one w8 k) rfl (may_one k) (fun x hx => by rw [List.mem_singleton.1 hx]; show (k : Int) ≤ _; have := hn1.out.1; omega)
      replace hnw := Lib.hid hnw
      replace hkn := Lib.hid hkn
      have A9 := Lib.hid (A8.out.keep hba)
      have b9 := Lib.hid (b8.out.below hba)
      have B9 := Lib.hid (We.below_trans B8.out hba)
      have k9 := Lib.hid (k8.out.below hba)
      have S9 := Lib.hid (Syms.far S8.out hba)
      have c0 := b8.out.c0
      have c1 := b8.out.c1
      have c2 := b8.out.c2
      have c3 := b8.out.c3
      clear A8 b8 B8 k8 S8 hba
      go_wp2_with fail
      refine hnw.out.mono ?_
      clear hnw c0 c1 c2 c3 f1 f2 f5 f6 n3 n5
      rintro e w10 ⟨a, rfl, hb10, E10⟩
      have A10 := Lib.hid (A9.out.keep hb10)
      have b10 := Lib.hid (b9.out.below hb10)
      have B10 := Lib.hid (We.below_trans B9.out hb10)
      have k10 := Lib.hid (k9.out.below hb10)
      have S10 := Lib.hid (Syms.below S9.out hb10)
      replace E10 := Lib.hid E10
      generalize w8.alloc (.cells #[.int .i64 1, .int .i64 2, .int .i64 (k : Int)] 61) = w9 at *
      have hlo := Lib.hid (show gd < w9.heap.size ∧ g7 < w9.heap.size ∧ w.heap.size < w9.heap.size from ⟨A9.out.lt', k9.out.lt, b9.out.lt⟩)
      clear A9 S9
      obtain ⟨S0, hS0⟩ : ∃ S, pageL W' (sayL N' 2 1 3 d) = S := ⟨_, rfl⟩
      have hSl0 := (said_len hm'.out hN'.out hv0.out).1
      have hSb0 := (said_len hm'.out hN'.out hv0.out).2.1
      have hmk := make_page (n := D) (c := D) (kI := 2) (lI := 1) (qI := 3) hm'.out hN'.out hv0.out rfl rfl rfl hdl.out (A10.out.sb hdb.out) hD6'.out
      rw [hn0.out, hS0] at hSl0
      rw [hS0] at hSb0 hmk
      replace hS0 := Lib.hid hS0
      replace hSl0 := Lib.hid hSl0
      replace hSb0 := Lib.hid hSb0
      replace hmk := Lib.hid hmk
      have c0 := b10.out.c0
      have c1 := b10.out.c1
      have c2 := b10.out.c2
      have c3 := b10.out.c3
      clear hb10
      go_wp2_with fail
      refine hmk.out.mono ?_
      clear hmk c0 c1 c2 c3 A10
      rintro e w12 ⟨v, rfl, ho, hb12⟩
      have T12 := Lib.hid (Syms.below S10.out hb12)
      obtain ⟨g12, c12, rfl, hq1, hq2, E12, S12⟩ := own_syms E10.out ho hb12 (by intro e; have := hSl0.out; rw [e] at this; have := hn1.out.2; simp at *; omega) hSb0.out
      rw [hSl0.out] at S12 ⊢
      have U12 := Lib.hid (Syms.less T12.out (G := fun b => w9.heap.size ≤ b ∧ b ≠ g12) (fun b h => h.1))
      clear ho hb12 hq1 hq2 E10 S10 b10 k10 T12 B10
      have hp0 := Lib.hid (dt_prog0 E12 S12 hn0.out hx1'.out.1 hx1'.out.2)
      clear E12 S12
      go_wp2_with fail
      refine hp0.out.mono ?_
      clear hp0
      rintro e w13 ⟨rfl, hk13, E13⟩
      have U13 := Lib.hid (Syms.keep U12.out hk13)
      clear U12 hk13
      have hp1 := Lib.hid (dt_prog1 E13 U13.out hn0.out hn1.out.2 hSl0.out hx1'.out.1 hx1'.out.2)
      clear E13 U13
      go_wp2_with fail
      refine hp1.out.mono ?_
      clear hp1
      rintro e w14 ⟨rfl, hk14, E14⟩
      clear hk14
      have hp2 := Lib.hid (dt_power E14)
      clear E14
      go_wp2_with fail
      refine hp2.out.mono ?_
      clear hp2
      rintro e w15 ⟨rfl, hk15, E15⟩
      replace E15 := Lib.hid E15
      clear hk15
      have hc := Lib.hid (make_any w15)
      go_wp2_with fail
      refine hc.out.mono ?_
      clear hc
      rintro e w16 ⟨cs, rfl, hT, hb16⟩
      replace hT := Lib.hid hT.tab
      have E16 := Env.below E15.out hb16
      rw [← hS0.out, ← hS1.out] at E16
      have hd := dt_scan C'.out E16 hT.out hm'.out hN'.out hv0.out hv1.out hx1'.out.1 hy2.out hx1'.out.2
      rw [hn0.out] at hd
      replace hd := Lib.hid hd
      clear E15 E16 hb16
      go_wp2_with fail
      refine hd.out.mono ?_
      clear hd hT
      rintro e w17 ⟨A2, c17, u, r, l, rfl, hb17, f17, hl, hu, hr⟩
      have hbA := We.below_alloc w17 (.cells #[.slice A2 l.length c17, .int .i64 ((u : Nat) : Int), .int .i64 ((r : Nat) : Int)] 54)
      have hb18 := We.below_trans hb17 hbA
      have b18 := Lib.hid (b9.out.below hb18)
      have k18 := Lib.hid (k9.out.below hb18)
      have B18 := Lib.hid (We.below_trans B9.out hb18)
      have f18 := Lib.hid (f17.below hbA)
      have hl' := Lib.hid hl
      have hu' := Lib.hid hu
      have hr' := Lib.hid hr
      have hW14' := hW14
      clear hb17 b9 k9 B9 hS0 hS1 hSl hSl0 hSb hSb0 hv0 hv1 hdl hdb hD hD6' hN' hm' hlo hbA hb18 f17 C' H hn hl hu hr hn0 hx2 hy2 hx1'
      obtain ⟨bl, cl, X, hb, hc, hX, hX4, g1, g2, g2a, g2b, g2c, g3, g4, g5, g5a, g6, n3, n5⟩ := sum_torn hn1.out.1 hkn.out hW14.out.1 hW14.out.2
      replace hX4 := Lib.hid hX4
      replace hn1 := Lib.hid hn1
      obtain ⟨L, hL⟩ : ∃ L, l.length = L := ⟨_, rfl⟩
      rw [hL] at b18 k18 B18 f18 ⊢
      replace hL := Lib.hid hL
      by_cases hk0 : k = 0
      · obtain ⟨e1, e2, e3⟩ := kT_zero (s := Q) (n := n0) (W := W') (b := 0) (P := y) hk0
        have hl1 := hl'.out.trans e1
        obtain rfl : L = 1 := by rw [← hL.out, hl1]; rfl
        obtain rfl : u = 1 := hu'.out.trans e2
        obtain rfl : r = 0 := hr'.out.trans e3
        clear e1 e2 e3 hl' hu' hr' hL
        obtain ⟨a2, rfl, ha2, x0, x1, x2, x3, x4⟩ := FS.at_ f18.out (i := 0) (by rw [hl1]; exact Nat.zero_lt_one)
        rw [hl1, show a2.add (0 * 5) = a2 from We.add_zero' _] at x2
        clear x0 x1 x3 x4 hl1
        have n1 : ((1 : Nat) : Int) = 1 := rfl
        have n0' : ((0 : Nat) : Int) = 0 := rfl
        rw [n1, n0'] at f18 B18 k18 b18 x2 ⊢
        clear n1 n0' f18
        replace x2 : (w17.alloc (.cells #[.slice (some a2) 1 c17, .int .i64 1, .int .i64 0] 54)).cell? ⟨a2.block, a2.off + 1 + 1, none⟩ = some (.int .i64 1) := x2
        obtain ⟨hW0, hW4'⟩ := hW14'.out
        have c2 := b18.out.c2
        have dk : ((k : Int) == 0) = true := by rw [hk0]; rfl
        clear hk0 hW0 hW4' hW14' hb hc hX
        go_wp2_with fail
        go_ret
        exact ⟨rfl, B18.out⟩
      by_cases h8 : 8 < X
      · have h8' : 8 < (n0 - k + W' - 1) / W' := by rw [hb, hc, hX]; exact h8
        obtain ⟨e1, e2, e3⟩ := kT_torn (s := Q) (b := 0) (P := y) hk0 h8'
        have hl1 := hl'.out.trans e1
        obtain rfl : L = 1 := by rw [← hL.out, hl1]; rfl
        obtain rfl : u = 2 := hu'.out.trans e2
        obtain rfl : r = 1 := hr'.out.trans e3
        clear e1 e2 e3 hl' hu' hr' hL h8'
        obtain ⟨a2, rfl, ha2, x0, x1, x2, x3, x4⟩ := FS.at_ f18.out (i := 0) (by rw [hl1]; exact Nat.zero_lt_one)
        rw [hl1, show a2.add (0 * 5) = a2 from We.add_zero' _] at x2
        clear x0 x1 x3 x4 hl1
        have n1 : ((1 : Nat) : Int) = 1 := rfl
        have n2' : ((2 : Nat) : Int) = 2 := rfl
        rw [n1, n2'] at f18 B18 k18 b18 x2 ⊢
        clear n1 n2' f18
        replace x2 : (w17.alloc (.cells #[.slice (some a2) 1 c17, .int .i64 2, .int .i64 1] 54)).cell? ⟨a2.block, a2.off + 1 + 1, none⟩ = some (.int .i64 1) := x2
        obtain ⟨hW0, hW4'⟩ := hW14'.out
        have c2 := b18.out.c2
        have dk : ((k : Int) == 0) = false := by simp; omega
        have d8 : decide ((8 : Int) < (X : Int)) = true := decide_eq_true (Int.ofNat_lt.mpr h8)
        have d8w : decide ((8 : Int) < wrap64 (X : Int)) = true := by rw [g6]; exact d8
        clear hk0 hW0 hW4' hW14' hb hc hX h8
        go_wp2_with fail
        go_ret
        exact ⟨rfl, B18.out⟩
      · have h8' : ¬ 8 < (n0 - k + W' - 1) / W' := by rw [hb, hc, hX]; exact h8
        obtain ⟨e1, e2, e3⟩ := kT_said (s := Q) (b := 0) (P := y) hk0 h8'
        rw [hb, hc, hX, Nat.zero_mul] at e1
        have hl1 := hl'.out.trans e1
        obtain rfl : L = 2 := by rw [← hL.out, hl1]; rfl
        obtain rfl : u = 2 := hu'.out.trans e2
        obtain rfl : r = 0 := hr'.out.trans e3
        clear e1 e2 e3 hl' hu' hr' hL h8'
        obtain ⟨a2, rfl, ha2, x0, x1, x2, x3, x4⟩ := FS.at_ f18.out (i := 0) (by rw [hl1]; exact Nat.zero_lt_two)
        obtain ⟨a3, ea, ha3, y0, y1, y2, y3, y4⟩ := FS.at_ f18.out (i := 1) (by rw [hl1]; exact Nat.one_lt_two)
        obtain rfl : a2 = a3 := by injection ea
        rw [hl1, show a2.add (0 * 5) = a2 from We.add_zero' _] at x2
        rw [hl1, show a2.add (1 * 5) = ⟨a2.block, a2.off + 5, none⟩ from We.add_pos _ _ (by decide)] at y0 y1 y2 y3 y4
        clear x0 x1 x3 x4 hl1 ea
        have n2' : ((2 : Nat) : Int) = 2 := rfl
        have n0' : ((0 : Nat) : Int) = 0 := rfl
        rw [n2', n0'] at f18 B18 k18 b18 x2 y0 y1 y2 y3 y4 ⊢
        clear n2' n0' f18
        replace x2 : (w17.alloc (.cells #[.slice (some a2) 2 c17, .int .i64 2, .int .i64 0] 54)).cell? ⟨a2.block, a2.off + 1 + 1, none⟩ = some (.int .i64 1) := x2
        obtain ⟨hW0, hW4'⟩ := hW14'.out
        have c2 := b18.out.c2
        have dk : ((k : Int) == 0) = false := by simp; omega
        have d8 : decide ((8 : Int) < (X : Int)) = false := decide_eq_false (Int.not_lt.mpr (Int.ofNat_le.mpr (Nat.le_of_not_lt h8)))
        have d8w : decide ((8 : Int) < wrap64 (X : Int)) = false := by rw [g6]; exact d8
        clear hk0 hW0 hW4' hW14' hb hc hX h8
        have s18 := S3.new w17 (.slice (some a2) 2 c17) (.int .i64 2) (.int .i64 0)
        go_wp2_with fail
        clear d8 d8w dk c2 x2 g1 g2 g2a g2b g2c g3 g4 g5 g5a n3 n5 ha2 ha3
        replace y0 : (w17.alloc (.cells #[.slice (some a2) 2 c17, .int .i64 2, .int .i64 0] 54)).cell? ⟨a2.block, a2.off + 5, none⟩ = some (.int .i64 1) := y0
        replace y1 : (w17.alloc (.cells #[.slice (some a2) 2 c17, .int .i64 2, .int .i64 0] 54)).cell? ⟨a2.block, a2.off + 5 + 1, none⟩ = some (.int .i64 1) := y1
        replace y2 : (w17.alloc (.cells #[.slice (some a2) 2 c17, .int .i64 2, .int .i64 0] 54)).cell? ⟨a2.block, a2.off + 5 + 2, none⟩ = some (.int .i64 4) := y2
        replace y3 : (w17.alloc (.cells #[.slice (some a2) 2 c17, .int .i64 2, .int .i64 0] 54)).cell? ⟨a2.block, a2.off + 5 + 3, none⟩ = some (.int .i64 (Q : Int)) := y3
        replace y4 : (w17.alloc (.cells #[.slice (some a2) 2 c17, .int .i64 2, .int .i64 0] 54)).cell? ⟨a2.block, a2.off + 5 + 4, none⟩ = some (.int .i64 (X : Int)) := y4
        generalize w17.alloc (.cells #[.slice (some a2) 2 c17, .int .i64 2, .int .i64 0] 54) = w18 at *
        generalize w17.heap.size = gs at *
        refine Cl.region_way (fun _ => True) 24 [(0, .r), (1, .r), (2, .r), (3, .r), (4, .r), (5, .r), (6, .r), (7, .r), (8, .r), (9, .r), (10, .r), (11, .r), (12, .r), (13, .r), (14, .r), (15, .r), (16, .r), (17, .r), (18, .r), (19, .r), (20, .r), (21, .r), (22, .r), (23, .r), (24, .z)] (by kernel_rfl) (by kernel_rfl) ?_
        intro w19 hk19
        have hk := hk19.below
        have B19 := Lib.hid (We.below_trans B18.out hk)
        have t0 := since_cell s18.c0 hk
        have t1 := since_cell s18.c1 hk
        have t2 := since_cell s18.c2 hk
        have u0 := since_cell y0 hk
        have u1 := since_cell y1 hk
        have u2 := since_cell y2 hk
        have u3 := since_cell y3 hk
        have u4 := since_cell y4 hk
        have v0 := since_cell k18.out.c0 hk
        have v1 := since_cell k18.out.c1 hk
        have v2 := since_cell k18.out.c2 hk
        clear y0 y1 y2 y3 y4 s18 k18 hk hk19 B18
        rw [g6]
        iterate 24 (refine Cl.way_r rfl ?_; go_big_quiet_step (fail); refine wpQuiet_nil ?_)
        refine Cl.way_z rfl ?_
        clear t0 t1 t2 u0 u1 u2 u3 u4 v0 v1 v2
        go_wp2_with fail
        refine Cl.Calm.normal ?_
        go_wp2_with fail
        go_ret
        exact ⟨rfl, B19.out⟩
end Go.Proofs.YtjhoecfhmndcgaaGreat.Sc
namespace Go.Proofs.YtjhoecfhmndcgaaGreat.Sc
open Go.RowKit
set_option linter.unusedVariables false
set_option linter.unusedSimpArgs false
theorem u16_nat {a : Int} (h : (Lit.int .u16 a).wf = true) : ∃ n : Nat, n < 65536 ∧ a = (n : Int) := by
  have hr : 0 ≤ a ∧ a < 65536 := by simp [Lit.wf, IntKind.min, IntKind.max, IntKind.signed, IntKind.bits] at h; omega
  exact ⟨a.toNat, by omega, (Int.toNat_of_nonneg hr.1).symm⟩
theorem torn_row (C : SC) (B P W K : Int) (hB : (Lit.int .i64 B).wf = true) (hP : (Lit.int .i64 P).wf = true) (hW : (Lit.int .i64 W).wf = true) (hK : (Lit.int .i64 K).wf = true) (A : Option Addr) (xs : List Nat) (c : Nat) (hl : xs.length ≤ c) (hm : c ≤ maxLen) (a : Int) (ha : (Lit.int .u16 a).wf = true) (w : World) (hs : Sb w w.heap.size A xs) :
    Calls Tryz.prog 6 #[.agg #[.int .i64 B, .int .i64 P, .int .i64 W, .int .i64 K], .slice A xs.length c, .int .u16 a] w (We.Ans w (.bool true)) := by
  obtain ⟨Q, hQ, rfl⟩ := u16_nat ha
  exact torn_law C B P W K A xs c Q hQ w hs
end Go.Proofs.YtjhoecfhmndcgaaGreat.Sc
namespace Go.Proofs.YtjhoecfhmndcgaaGreat
open Go.ChangeShapes Go.WideShapes Go.ChangeAt Go.RowKit
theorem u8_range {a : Int} (h : (Lit.int .u8 a).wf = true) : 0 ≤ a ∧ a < 256 := by
  simp [Lit.wf, IntKind.min, IntKind.max, IntKind.signed, IntKind.bits] at h; omega
section
variable {H : Type} {enc : TypeId × Value → H} {P : Program} {W : World}
theorem open_sb {r : Reach} {b0 : Nat} {t e : TypeId} {v : Value} {d : DataW H} {p : List MemPlace} (ht : P.underlying t = some (.slice e)) (he : P.underlying e = some (.int .u8)) (hc : P.cellsOf e = 1)
    (hv : Value.okWide P W r b0 t v) (h : DataW.Trod enc P W 0 (fun _ => true) true t v d p) :
    ∃ (A : Option Addr) (xs : List Nat) (c : Nat), v = .slice A xs.length c ∧ xs.length ≤ c ∧ c ≤ maxLen ∧ Sb W W.heap.size A xs ∧
      ∀ (W' : World), Below W.heap.size W W' → ∀ sp : Nat → Bool, (∀ q ∈ p, sp q.block = true) → DataW.Trod enc P W' 0 sp true t v d p := by
  obtain ⟨A, len, cap, rfl⟩ := okWide_slice ht hv
  obtain ⟨fuel, hf⟩ := h
  rcases open_ints ht he hc hf with ⟨h1, h2⟩ | ⟨a, len', cap', zs, h1, hb, hl, hm, hz, hx, hcell, hw⟩
  · simp [Value.cells] at h1
    obtain ⟨rfl, rfl, rfl⟩ := h1
    simp only [Prod.mk.injEq] at h2
    obtain ⟨rfl, rfl⟩ := h2
    exact ⟨none, [], 0, rfl, Nat.le_refl _, Nat.zero_le _, Sb.nil _ _ _, fun W' _ sp _ => shut_slice_nil ht⟩
  · simp [Value.cells] at h1
    obtain ⟨rfl, rfl, rfl⟩ := h1
    simp only [Prod.mk.injEq] at hx
    obtain ⟨rfl, rfl⟩ := hx
    simp only [if_true] at hz
    have hlen : ((zs.take len).map Int.toNat).length = len := by simp; omega
    have hrange : ∀ i, i < zs.length → 0 ≤ zs.getD i 0 ∧ zs.getD i 0 < 256 := fun i hi => by
      have : zs.getD i 0 = zs[i] := by simp [List.getD, hi]
      rw [this]; exact u8_range (hw _ (List.getElem_mem hi))
    have hlt : 0 < zs.length → a.block < W.heap.size := fun hp => by
      have e := hcell 0 hp
      rcases Nat.lt_or_ge a.block W.heap.size with h | h
      · exact h
      · have e2 : (a.add 0).block = a.block := add_block a 0
        unfold World.cell? at e
        rw [Array.getElem?_eq_none (by rw [e2]; exact h)] at e
        cases e
    refine ⟨some a, (zs.take len).map Int.toNat, cap, by rw [hlen], by rw [hlen]; exact hl, hm, ⟨?_, ?_⟩, ?_⟩
    · intro x hx
      obtain ⟨n, hn, rfl⟩ := List.mem_map.1 hx
      have := u8_range (hw n (List.mem_of_mem_take hn))
      omega
    · by_cases h0 : len = 0
      · left; subst h0; simp
      · right
        refine ⟨a, rfl, hlt (by omega), fun i hi => ?_⟩
        rw [hlen] at hi
        have hiz : i < zs.length := by omega
        rw [hcell i hiz]
        have hr := hrange i hiz
        have e1 : zs.getD i 0 = zs[i] := by simp [List.getD, hiz]
        rw [e1] at hr ⊢
        simp only [ub, List.getElem_map, List.getElem_take]
        rw [Int.toNat_of_nonneg hr.1]
    · intro W' hB sp hsp
      refine ⟨0 + 2, ?_⟩
      have hz' : zs.length = (if sp a.block then cap else len) := by
        by_cases hp : 0 < zs.length
        · have : sp a.block = true := hsp (.cell a.block (a.off + 0)) (List.mem_map.2 ⟨0, List.mem_range.2 hp, rfl⟩)
          rw [if_pos this]; exact hz
        · split <;> omega
      exact shut_ints 0 ht he hc hb hl hm hz' (fun i hi => by rw [hB.cell (by rw [add_block]; exact hlt (by omega))]; exact hcell i hi) hw
end
end Go.Proofs.YtjhoecfhmndcgaaGreat
