/- The page's contracts, by their names. -/
import Derived.Test.YtnndhbppgmnefaaYw
namespace Go.Proofs.Ytnndhbppgmnefaa
open Go.RowKit Go.Gf Go.Fl
set_option linter.unusedVariables false
set_option linter.unusedSimpArgs false
section
variable {w w' : World} {F F' : Nat → Prop} {p : Addr} {ps : List (Int × Int)} {ss : List Nat} {st : Int}
theorem c_new (n : Nat) (N : Int) (hN : N = (n : Int)) (hn : n ≤ 65536) (F : Nat → Prop) (hF : ∀ b, w.heap.size ≤ b → F b) :
    Calls Try.prog 36 #[.int .i64 N] w fun e w' => ∃ p, e = .returned (.pointer (some p)) ∧ Below w.heap.size w w' ∧ Page w' F p (List.replicate n (0, 0)) [] 0 := p_new n N hN hn F hF
theorem c_new_neg (N : Int) (hN : N < 0) (hN2 : -9223372036854775808 ≤ N) (F : Nat → Prop) (hF : ∀ b, w.heap.size ≤ b → F b) :
    Calls Try.prog 36 #[.int .i64 N] w fun e w' => ∃ p, e = .returned (.pointer (some p)) ∧ Below w.heap.size w w' ∧ Page w' F p [] [] 0 := p_new_neg N hN F hF
theorem c_part (h : Page w F p ps ss st) {x y : Nat} {q r : Rat} (hx : Is x q) (hy : Is y r) (hq : ∀ n : Int, q ≠ (n : Rat)) (b1 : -4503599627370496 ≤ q) (b2 : q ≤ 4503599627370496) (i : Int) : Calls Try.prog 32 #[.pointer (some p), .int .i64 i, .complex .f64 x y] w (Ans w (.bool false)) := p_part h hx hy hq b1 b2 i
theorem c_state (h : Page w F p ps ss st) : Calls Try.prog 94 #[.pointer (some p)] w (Ans w (.int .i64 st)) := p_state h
theorem c_prog (h : Page w F p ps ss 0) (hF : ∀ b, w.heap.size ≤ b → F b) {A : Option Addr} {xs : List Nat} {c n : Nat} (hn' : xs.length = n) (hnc : n ≤ c) (hs : Sl w w.heap.size A xs) (hA : ∀ a, A = some a → ¬ F a.block) (hl : xs.length = ps.length) (hn : xs.length ≤ 65536) (hx : ∀ x ∈ xs, x < 1024) (keep : Int) (hk : -9223372036854775808 ≤ keep ∧ keep ≤ 9223372036854775807) :
    Calls Try.prog 82 #[.pointer (some p), .slice A n c, .int .i64 keep] w fun e w' => e = .returned (.int .i64 0) ∧ Cl.Keeps (fun b => ¬ F b) w w' ∧ ∃ ss', Page w' F p (progP ps xs keep) ss' (progS xs.length keep) ∧ (0 < keep → ss' = xs) := p_prog h hn' hnc hs hA hl hn hx keep hk
theorem c_order (h : Page w F p ps ss st) (hst : st ≠ 0) {A : Option Addr} {n c : Nat} {keep : Int} : Calls Try.prog 82 #[.pointer (some p), .slice A n c, .int .i64 keep] w (Ans w (.int .i64 5)) := p_order h hst
theorem c_size (h : Page w F p ps ss 0) {A : Option Addr} {n c : Nat} {keep : Int} (hn : n ≠ ps.length) : Calls Try.prog 82 #[.pointer (some p), .slice A n c, .int .i64 keep] w (Ans w (.int .i64 3)) := p_size h hn
theorem c_arg (h : Page w F p ps ss 0) {A : Option Addr} {xs : List Nat} {c : Nat} {keep : Int} (hs : Sl w w.heap.size A xs) (hl : xs.length = ps.length) (hn : xs.length ≤ 65536) (hx : ∃ x ∈ xs, 1024 ≤ x) : Calls Try.prog 82 #[.pointer (some p), .slice A xs.length c, .int .i64 keep] w (Ans w (.int .i64 1)) := p_arg h hs hl hn hx
theorem c_erase (h : Page w F p ps ss st) (hF : ∀ b, w.heap.size ≤ b → F b) : Calls Try.prog 98 #[.pointer (some p)] w fun e w' => e = .returned (.tuple #[]) ∧ Cl.Keeps (fun b => ¬ F b) w w' ∧ ∃ ss', Page w' F p (List.replicate ps.length (0, 0)) ss' 0 := p_erase h hF
theorem c_drift (h : Page w F p ps ss st) (hF : ∀ b, w.heap.size ≤ b → F b) {x y : Nat} {a b : Int} (hx : Is x (a : Rat)) (hy : Is y (b : Rat)) (ha : -1000000 ≤ a ∧ a ≤ 1000000) (hb : -1000000 ≤ b ∧ b ≤ 1000000) (i : Int) :
    Calls Try.prog 32 #[.pointer (some p), .int .i64 i, .complex .f64 x y] w fun e w' => e = .returned (.bool (movB ps st i a b)) ∧ Cl.Keeps (fun b => ¬ F b) w w' ∧ Page w' F p (if movB ps st i a b = true then movP ps i.toNat a b else ps) ss st := p_drift h hF hx hy ha hb i
theorem c_sense (h : Page w F p ps ss st) {n : Nat} (hn : ps.length = n) : Calls Try.prog 30 #[.pointer (some p)] w fun e w' => ∃ A c, e = .returned (.slice A n c) ∧ n ≤ c ∧ Below w.heap.size w w' ∧ Pts w' w.heap.size A ps := p_sense h hn
theorem c_wrong (h : Page w F p ps ss st) {l : List Nat} {n : Nat} (hl : (if st = 1 then wrongI ps ss else []) = l) (hn : l.length = n) : Calls Try.prog 34 #[.pointer (some p)] w fun e w' => ∃ A c, e = .returned (.slice A n c) ∧ Below w.heap.size w w' ∧ Ints w' w.heap.size A l := p_wrong h hl hn
end
end Go.Proofs.Ytnndhbppgmnefaa
