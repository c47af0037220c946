/- Bytes as strings. -/
import Derived.Test.YtoogdhnkihdkgaaBy
import Derived.Laws.IdiomStrings
namespace Go.Proofs.Ytoogdhnkihdkgaa
open Go.RowKit Go.Gf

def bstr (xs : List Nat) : ByteArray := ⟨(xs.map fun x => UInt8.ofNat x).toArray⟩
theorem str_run {w : World} {B : Nat} {A : Option Addr} {xs : List Nat} (h : Sb w B A xs) (c : Nat) : (convert 22 9 (.slice A xs.length c)).run Try.prog w = .ok (.string (bstr xs)) w := by
  cases A with
  | none =>
    obtain rfl : xs = [] := by
      rcases h.2 with e | ⟨a, e, _⟩
      · exact e
      · cases e
    rw [run_convert_bytes_string w 22 9 5 none [].length c Try.underlying22 Try.underlying5 Try.underlying9]
    rfl
  | some a =>
    have hl : (xs.map fun x => UInt8.ofNat x).length = xs.length := List.length_map ..
    have := run_convert_bytes_back (P := Try.prog) w 22 9 5 a c (xs.map fun x => UInt8.ofNat x) Try.underlying22 Try.underlying5 Try.underlying9 (fun j hj => by
      rw [hl] at hj
      have hx := h.1 xs[j] (List.getElem_mem hj)
      obtain ⟨a', e, _, hc⟩ := h.at_ hj
      injection e with e
      subst e
      rw [hc, List.getElem_map]
      congr 3
      show _ = (UInt8.ofNat xs[j]).toNat
      rw [UInt8.toNat_ofNat', Nat.mod_eq_of_lt hx])
    rw [hl] at this
    exact this
theorem str_eq (a : ByteArray) (w : World) : (binOp .eql 9 (.string a) (.string a)).run Try.prog w = .ok (.bool true) w := by
  simp [binOp, Op.stringOp]
end Go.Proofs.Ytoogdhnkihdkgaa
