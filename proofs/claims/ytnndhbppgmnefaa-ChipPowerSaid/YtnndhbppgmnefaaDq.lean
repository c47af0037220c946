/- The device in a law's hands: what stays true from call to call. -/
import Derived.Test.YtnndhbppgmnefaaDp
namespace Go.Proofs.Ytnndhbppgmnefaa
open Go.RowKit Go.Fl
set_option linter.unusedVariables false
set_option linter.unusedSimpArgs false
/-- the device, made behind world w0, in blocks of F -/
structure Env (w0 : World) (F : Nat → Prop) (a : Addr) (M : Dev) (w : World) : Prop where
  low : Below w0.heap.size w0 w
  all : ∀ b, w.heap.size ≤ b → F b
  own : ∀ b, F b → w0.heap.size ≤ b
  dev : Chip w F a M
section
variable {w0 w w' : World} {F : Nat → Prop} {a : Addr} {M : Dev}
theorem Env.geo (h : Env w0 F a M w) : Ge.mayG M.B M.P M.W M.K = true := by
  obtain ⟨L, _, o, h⟩ := h.dev
  exact h.geo
theorem Env.below (h : Env w0 F a M w) (hb : Below w.heap.size w w') : Env w0 F a M w' :=
  ⟨h.low.trans (hb.mono h.low.size), fun b hb' => h.all b (Nat.le_trans hb.size hb'), h.own, h.dev.below hb⟩
theorem Env.keep (h : Env w0 F a M w) (hk : Cl.Keeps (fun b => ¬ F b) w w') {M' : Dev} (hc : Chip w' F a M') : Env w0 F a M' w' :=
  ⟨Cl.Keeps.low h.low h.own hk, fun b hb => h.all b (Nat.le_trans hk.size hb), h.own, hc⟩
/-- a block that is none of the device's is left to others -/
theorem Env.leave (h : Env w0 F a M w) (hb : Below w.heap.size w w') (s : Nat) (hs : w.heap.size ≤ s) (hs2 : s < w'.heap.size) : Env w0 (fun b => F b ∧ b ≠ s) a M w' := by
  obtain ⟨L, e, o, hd⟩ := h.dev
  refine ⟨h.low.trans (hb.mono h.low.size), fun b hb' => ⟨h.all b (Nat.le_trans hb.size hb'), by omega⟩, fun b hh => h.own b hh.1, L, e, o, (hd.below hb).only fun b _ h1 h2 => ⟨h1, fun e => h2 (by rw [e]; exact hd.new s hs)⟩⟩
theorem keeps_mono {F G : Nat → Prop} (h : Cl.Keeps (fun b => ¬ G b) w w') (hg : ∀ b, G b → F b) : Cl.Keeps (fun b => ¬ F b) w w' := Cl.keeps_of h fun b hb e => hb (hg b e)
/-- a row of symbols that is not the device's -/
structure Syms (w : World) (F : Nat → Prop) (A : Option Addr) (n c : Nat) (xs : List Nat) : Prop where
  sl : Sl w w.heap.size A xs
  out : ∀ a, A = some a → a.block < w.heap.size ∧ ¬ F a.block
  len : xs.length = n
  cap : n ≤ c
  sym : ∀ x ∈ xs, x < 1024
theorem Syms.keep {A : Option Addr} {n c : Nat} {xs : List Nat} (h : Syms w F A n c xs) (hk : Cl.Keeps (fun b => ¬ F b) w w') : Syms w' F A n c xs :=
  ⟨keeps_sl h.sl h.out hk, fun a e => ⟨Nat.lt_of_lt_of_le (h.out a e).1 hk.size, (h.out a e).2⟩, h.len, h.cap, h.sym⟩
theorem Syms.below {A : Option Addr} {n c : Nat} {xs : List Nat} (h : Syms w F A n c xs) (hb : Below w.heap.size w w') : Syms w' F A n c xs := h.keep (Cl.Keeps.of_below hb)
theorem Syms.less {G : Nat → Prop} {A : Option Addr} {n c : Nat} {xs : List Nat} (h : Syms w F A n c xs) (hg : ∀ b, G b → F b) : Syms w G A n c xs :=
  ⟨h.sl, fun a e => ⟨(h.out a e).1, fun hh => (h.out a e).2 (hg _ hh)⟩, h.len, h.cap, h.sym⟩
theorem Syms.given {A : Option Addr} {n c : Nat} {xs : List Nat} (h : Syms w F A n c xs) (hn : n = M.n) : Given w F A n c xs M := ⟨h.sl, h.out, h.len, hn, h.cap, h.sym⟩
theorem info54 : (Try.prog.info? 54).map (fun i => (i.zero, i.size, i.bytes)) = some (some (.int .u16 0), 1, 2) := by kernel_rfl
theorem run_make33 (w : World) (n : Nat) (hn : n ≤ 65536) : (Instr.makeSlice 33 (.int .i64 (n : Int)) (.int .i64 (n : Int))).run Try.prog w = .ok (.slice (some ⟨w.heap.size, 0, none⟩) n n) (w.alloc (.cells ((List.replicate n 0).map uv).toArray 54)) := by
  have hi0 := info54
  obtain ⟨i, hi, hrest⟩ := Option.map_eq_some_iff.1 hi0
  simp only [Prod.mk.injEq] at hrest
  obtain ⟨i1, i2, i3⟩ := hrest
  have h := run_make (P := Try.prog) w 33 54 i _ Try.underlying33 hi i1 .i64 .i64 (n : Int) (n : Int) (by omega) (Int.le_refl _) (by rw [i3]; omega) (by omega)
  rw [i2, Int.toNat_natCast, Nat.mul_one, show madeCells (Value.int .u16 0).cells n = ((List.replicate n 0).map uv).toArray from made_uv n] at h
  exact h
/-- symbols of one's own, in a new block -/
theorem Env.syms (h : Env w0 F a M w) (cs : List Nat) (hc : ∀ x ∈ cs, x < 1024) {n : Nat} (hn : cs.length = n) : Env w0 (fun b => F b ∧ b ≠ w.heap.size) a M (w.alloc (.cells (cs.map uv).toArray 54)) ∧ Arr (w.alloc (.cells (cs.map uv).toArray 54)) w.heap.size cs ∧ Syms (w.alloc (.cells (cs.map uv).toArray 54)) (fun b => F b ∧ b ≠ w.heap.size) (some ⟨w.heap.size, 0, none⟩) n n cs := by
  have hA := below_alloc' w (.cells (cs.map uv).toArray 54)
  have hz := World.size_alloc w (.cells (cs.map uv).toArray 54)
  have hr := Arr.new w cs
  refine ⟨h.leave hA w.heap.size (Nat.le_refl _) (by omega), hr, hr.sl (fun x hx => Nat.lt_trans (hc x hx) (by decide)), fun a e => ?_, hn, Nat.le_refl _, hc⟩
  injection e with e
  subst e
  exact ⟨by rw [hz]; exact Nat.lt_succ_self _, fun hh => hh.2 rfl⟩
theorem e_program (h : Env w0 F a M w) (hf : Fine M) (b p : Nat) (hb : b < M.B) (hp : p < M.P) {bI pI : Int} (e1 : bI = (b : Int)) (e2 : pI = (p : Int)) {A : Option Addr} {n c : Nat} {xs : List Nat} (hs : Syms w F A n c xs) (hn : n = M.n) {r : Int} {M' : Dev} (hR : stepD M 2 b p xs = (r, M')) :
    Calls Try.prog 10 #[.pointer (some a), .int .i64 bI, .int .i64 pI, .slice A n c] w fun e w' => e = .returned (.int .i64 r) ∧ Cl.Keeps (fun b => ¬ F b) w w' ∧ Env w0 F a M' w' := by
  subst e1 e2
  refine (d_program h.dev h.all hf hb hp (hs.given hn)).mono fun e w' hh => ?_
  obtain ⟨he, hk, hc⟩ := hh
  rw [hR] at he hc
  exact ⟨he, hk, h.keep hk hc⟩
theorem e_erase (h : Env w0 F a M w) (hf : Fine M) (b : Nat) (hb : b < M.B) {bI : Int} (e1 : bI = (b : Int)) {r : Int} {M' : Dev} (hR : stepD M 3 b 0 [] = (r, M')) :
    Calls Try.prog 11 #[.pointer (some a), .int .i64 bI] w fun e w' => e = .returned (.int .i64 r) ∧ Cl.Keeps (fun b => ¬ F b) w w' ∧ Env w0 F a M' w' := by
  subst e1
  refine (d_erase h.dev h.all hf hb (by have := Ge.may_of h.geo; omega)).mono fun e w' hh => ?_
  obtain ⟨he, hk, hc⟩ := hh
  rw [hR] at he hc
  exact ⟨he, hk, h.keep hk hc⟩
theorem e_erase_no (h : Env w0 F a M w) (hf : Fine M) (bI : Int) (hb : ¬ (0 ≤ bI ∧ bI < (M.B : Int))) {r : Int} {M' : Dev} (hR : stepN M = (r, M')) :
    Calls Try.prog 11 #[.pointer (some a), .int .i64 bI] w fun e w' => e = .returned (.int .i64 r) ∧ Cl.Keeps (fun b => ¬ F b) w w' ∧ Env w0 F a M' w' := by
  refine (d_erase_no h.dev h.all hf hb).mono fun e w' hh => ?_
  obtain ⟨he, hk, hc⟩ := hh
  rw [hR] at he hc
  exact ⟨he, hk, h.keep hk hc⟩
theorem e_mark (h : Env w0 F a M w) (hf : Fine M) (b : Nat) (hb : b < M.B) {bI : Int} (e1 : bI = (b : Int)) {r : Int} {M' : Dev} (hR : stepD M 4 b 0 [] = (r, M')) :
    Calls Try.prog 15 #[.pointer (some a), .int .i64 bI] w fun e w' => e = .returned (.int .i64 r) ∧ Cl.Keeps (fun b => ¬ F b) w w' ∧ Env w0 F a M' w' := by
  subst e1
  refine (d_mark h.dev h.all hf hb (by have := Ge.may_of h.geo; omega)).mono fun e w' hh => ?_
  obtain ⟨he, hk, hc⟩ := hh
  rw [hR] at he hc
  exact ⟨he, hk, h.keep hk hc⟩
theorem e_marked (h : Env w0 F a M w) (hf : Fine M) (b : Nat) (hb : b < M.B) {bI : Int} (e1 : bI = (b : Int)) {r : Int} {M' : Dev} (hR : stepD M 5 b 0 [] = (r, M')) {v : Bool} (hv : (decide (r = 0) && M'.md b) = v) :
    Calls Try.prog 16 #[.pointer (some a), .int .i64 bI] w fun e w' => e = .returned (.tuple #[.bool v, .int .i64 r]) ∧ Cl.Keeps (fun b => ¬ F b) w w' ∧ Env w0 F a M' w' := by
  subst e1
  refine (d_marked h.dev h.all hf hb (by have := Ge.may_of h.geo; omega)).mono fun e w' hh => ?_
  obtain ⟨he, hk, hc⟩ := hh
  rw [hR] at he hc
  rw [show (decide ((r, M').1 = 0) && (r, M').2.md b) = v from hv] at he
  exact ⟨he, hk, h.keep hk hc⟩
theorem e_power (h : Env w0 F a M w) : Calls Try.prog 13 #[.pointer (some a)] w fun e w' => e = .returned (.tuple #[]) ∧ Cl.Keeps (fun b => ¬ F b) w w' ∧ Env w0 F a { M with dark := false } w' :=
  (d_power h.dev h.all).mono fun e w' ⟨he, hk, hc⟩ => ⟨he, hk, h.keep hk hc⟩
theorem e_sense_no (h : Env w0 F a M w) (hf : Fine M) (bI pI : Int) (hb : ¬ (0 ≤ bI ∧ bI < (M.B : Int) ∧ 0 ≤ pI ∧ pI < (M.P : Int))) {r : Int} {M' : Dev} (hR : stepN M = (r, M')) :
    Calls Try.prog 14 #[.pointer (some a), .int .i64 bI, .int .i64 pI] w fun e w' => e = .returned (.tuple #[.slice none 0 0, .int .i64 r]) ∧ Cl.Keeps (fun b => ¬ F b) w w' ∧ Env w0 F a M' w' := by
  refine (d_sense_no h.dev h.all hf hb).mono fun e w' hh => ?_
  obtain ⟨he, hk, hc⟩ := hh
  rw [hR] at he hc
  exact ⟨he, hk, h.keep hk hc⟩
theorem e_sense_err (h : Env w0 F a M w) (hf : Fine M) (b p : Nat) (hb : b < M.B) (hp : p < M.P) {bI pI : Int} (e1 : bI = (b : Int)) (e2 : pI = (p : Int)) {r : Int} {M' : Dev} (hR : stepD M 1 b p [] = (r, M')) (hr : r ≠ 0) :
    Calls Try.prog 14 #[.pointer (some a), .int .i64 bI, .int .i64 pI] w fun e w' => e = .returned (.tuple #[.slice none 0 0, .int .i64 r]) ∧ Cl.Keeps (fun b => ¬ F b) w w' ∧ Env w0 F a M' w' := by
  subst e1 e2
  refine (d_sense_err h.dev h.all hf hb hp (by rw [hR]; exact hr)).mono fun e w' hh => ?_
  obtain ⟨he, hk, hc⟩ := hh
  rw [hR] at he hc
  exact ⟨he, hk, h.keep hk hc⟩
/-- the points that were sensed lie in a block of their own -/
theorem e_sense (h : Env w0 F a M w) (hf : Fine M) (b p : Nat) (hb : b < M.B) (hp : p < M.P) {bI pI : Int} (e1 : bI = (b : Int)) (e2 : pI = (p : Int)) {M' : Dev} (hR : stepD M 1 b p [] = (0, M')) {n : Nat} (hn : M.n = n) {ps : List (Int × Int)} (hps : (M'.pg b p).ps = ps) (hne : ps ≠ []) :
    Calls Try.prog 14 #[.pointer (some a), .int .i64 bI, .int .i64 pI] w fun e w' => ∃ g c, e = .returned (.tuple #[.slice (some ⟨g, 0, none⟩) n c, .int .i64 0]) ∧ n ≤ c ∧ Cl.Keeps (fun b => ¬ F b) w w' ∧ w.heap.size ≤ g ∧ g < w'.heap.size ∧ Env w0 (fun b => F b ∧ b ≠ g) a M' w' ∧ ∀ i, i < ps.length → IsP w' ⟨g, i, none⟩ (ptAt ps i) := by
  subst e1 e2
  refine (d_sense h.dev h.all hf hb hp (by rw [hR]) hn).mono fun e w' hh => ?_
  obtain ⟨A, c, he, hnc, hk, hc, hpt⟩ := hh
  rw [hR] at hc hpt
  rw [show ((0, M').2.pg b p).ps = ps from hps] at hpt
  rcases hpt with hpt | ⟨g, rfl, hg, hrow, hcells⟩
  · exact absurd hpt hne
  · have hgl := hrow.lt
    have hG : ∀ b', (F b' ∧ ∀ q, some (⟨g, 0, none⟩ : Addr) = some q → b' ≠ q.block) → F b' ∧ b' ≠ g := fun b' hh => ⟨hh.1, hh.2 _ rfl⟩
    refine ⟨g, c, he, hnc, hk, hg, hgl, ⟨Cl.Keeps.low h.low h.own hk, fun b' hb' => ⟨h.all b' (Nat.le_trans hk.size hb'), by omega⟩, fun b' hh => h.own b' hh.1, ?_⟩, hcells⟩
    obtain ⟨L, el, hrep⟩ := hc
    exact ⟨L, el, hrep.only fun b' _ hh => hG b' hh⟩
theorem e_drift (h : Env w0 F a M w) (b p : Nat) (hb : b < M.B) (hp : p < M.P) {bI pI : Int} (e1 : bI = (b : Int)) (e2 : pI = (p : Int)) {x y : Nat} {u v : Int} (hx : Is x (u : Rat)) (hy : Is y (v : Rat)) (hu : -1000000 ≤ u ∧ u ≤ 1000000) (hv : -1000000 ≤ v ∧ v ≤ 1000000) (i : Int) {r : Bool} (hr : movB (M.pg b p).ps (M.pg b p).st i u v = r) :
    Calls Try.prog 20 #[.pointer (some a), .int .i64 bI, .int .i64 pI, .int .i64 i, .complex .f64 x y] w fun e w' => e = .returned (.bool r) ∧ Cl.Keeps (fun b => ¬ F b) w w' ∧ Env w0 F a { M with pg := setPg M.pg b p (driftPg (M.pg b p) i u v) } w' := by
  subst e1 e2 hr
  exact (d_drift h.dev h.all hb hp hx hy hu hv i).mono fun e w' ⟨he, hk, hc⟩ => ⟨he, hk, h.keep hk hc⟩
theorem e_ops (h : Env w0 F a M w) {r : Int} (hr : r = (M.ops : Int)) : Calls Try.prog 12 #[.pointer (some a)] w (Ans w (.int .i64 r)) := by subst hr; exact d_ops h.dev
theorem e_refused (h : Env w0 F a M w) {r : Int} (hr : r = (M.rf : Int)) : Calls Try.prog 17 #[.pointer (some a)] w (Ans w (.int .i64 r)) := by subst hr; exact d_refused h.dev
theorem e_erases (h : Env w0 F a M w) (b : Nat) (hb : b < M.B) {bI : Int} (e1 : bI = (b : Int)) {r : Int} (hr : r = (M.er b : Int)) : Calls Try.prog 19 #[.pointer (some a), .int .i64 bI] w (Ans w (.int .i64 r)) := by subst hr e1; exact d_erases h.dev hb
theorem e_broken (h : Env w0 F a M w) (b : Nat) (hb : b < M.B) {bI : Int} (e1 : bI = (b : Int)) {r : Bool} (hr : M.bk b = r) : Calls Try.prog 18 #[.pointer (some a), .int .i64 bI] w (Ans w (.bool r)) := by subst hr e1; exact d_broken h.dev hb
theorem e_worst (h : Env w0 F a M w) (hle : ∀ i j, (M.pg i j).ps.length ≤ 100000) {r : Int} (hr : r = (worstD M : Int)) : Calls Try.prog 21 #[.pointer (some a)] w (Ans w (.int .i64 r)) := by subst hr; exact d_worst h.dev hle
end
/-- New, in a law's hands -/
theorem e_new {w : World} (B P W K : Nat) {b p k l : Int} (e1 : b = (B : Int)) (e2 : p = (P : Int)) (e3 : k = (W : Int)) (e4 : l = (K : Int)) (hg : Ge.mayG B P W K = true) {A : Option Addr} {bs : List Nat} {n c : Nat} (hbs : Ints w 0 A bs) (hn : bs.length = n) (hl : n ≤ 1000000) (hx : ∀ x ∈ bs, x < B)
    {A2 : Option Addr} {ts : List (Int × Int × Int)} {n2 c2 : Nat} (hts : Ft.S3 w w.heap.size A2 ts) (hn2 : ts.length = n2) (hm : Ft.mayF ts = true) (hk : ∀ x ∈ ts, x.2.2 ≤ 9223372036854775807) :
    Calls Try.prog 9 #[.agg #[.int .i64 b, .int .i64 p, .int .i64 k, .int .i64 l], .slice A n c, .slice A2 n2 c2] w fun e w' => ∃ a, e = .returned (.tuple #[.pointer (some a), .int .i64 0]) ∧ Below w.heap.size w w' ∧ Env w (fun b => w.heap.size ≤ b) a (freshD B P W K (marksOf bs n) ts) w' := by
  subst e1 e2 e3 e4
  exact (d_new B P W K hg hbs hn hl hx hts hn2 hm hk (fun b => w.heap.size ≤ b) (fun b hb => hb)).mono fun e w' ⟨a, he, hb, hc⟩ => ⟨a, he, hb, hb, fun b hb' => Nat.le_trans hb.size hb', fun b hb' => hb', hc⟩
end Go.Proofs.Ytnndhbppgmnefaa
