/- Bytes copied into bytes made anew. -/
import Derived.Test.YtmchelbmeajcnaaMp
namespace Go.Proofs.Ytmchelbmeajcnaa
open Go.RowKit Go.Gf Go.Fl
set_option linter.unusedVariables false
set_option linter.unusedSimpArgs false
set_option maxRecDepth 20000

theorem sizeB : (Try.prog.info? 5).map (·.size) = some 1 := by kernel_rfl
theorem splice_bytes (xs : List Nat) (n : Nat) : splice ((List.replicate n 0).map ub) 0 ((xs.take n).map ub) = (rm n (at_ xs)).map ub := by
  unfold splice
  apply List.ext_getElem
  · simp [rm]; omega
  · intro j h1 h2
    have hj : j < n := by simpa [rm] using h2
    simp only [List.take_zero, List.nil_append, Nat.zero_add, List.length_map]
    rw [List.getElem_append]
    by_cases hx : j < xs.length
    · have hm : j < min n xs.length := by omega
      simp [hx, hj, rm, at_, hm]
    · have hm : ¬ j < min n xs.length := by omega
      simp [hx, hj, rm, at_, hm]
theorem wpList_copy_bytes {w0 w : World} {ops : Array Oper} {rest : List Oper} {o : Oper} {a : Act} {Q : Exit → Act → World → Prop} (hgd : o.guard = none) (d s : Operand)
    (ho : o.op = .call { callee := .builtin .copy, args := #[d, s], argTypes := #[26, 26] }) (g n : Nat) (hd : a.eval d = .slice (some ⟨g, 0, none⟩) n n) (A : Option Addr) (xs : List Nat) (c : Nat) (hs : a.eval s = .slice A xs.length c)
    (hg : Ab w g (List.replicate n 0)) (hx : Sb w w.heap.size A xs) (hb : Below w0.heap.size w0 w) (hg0 : w0.heap.size ≤ g)
    (h : ∀ w', Ab w' g (rm n (at_ xs)) → Below w0.heap.size w0 w' → wpList Try.prog ops Q rest (a.put o.dst (goInt ((xs.take n).map ub).length)) w') :
    wpList Try.prog ops Q (o :: rest) a w := by
  refine wpList_copy_splice hgd d s 26 26 ho 5 Try.underlying26 sizeB (some ⟨g, 0, none⟩) A n n xs.length c hd hs g 0 ((List.replicate n 0).map ub) 5 hg ((xs.take n).map ub) (by rw [List.length_map, List.length_take]; exact Nat.min_comm _ _) (by
    intro hp
    refine ⟨rfl, ?_⟩
    have hne : xs ≠ [] := by intro e; rw [e] at hp; simp at hp
    obtain ⟨ad, e, hab, hcell⟩ := hx.2.resolve_left hne
    refine ⟨ad, e, fun j v hv => ?_⟩
    rw [List.getElem?_map] at hv
    rcases Nat.lt_or_ge j (xs.take n).length with hj | hj
    · rw [List.getElem?_eq_getElem hj] at hv
      injection hv with hv
      rw [← hv, List.getElem_take]
      exact hcell j (by rw [List.length_take] at hj; omega)
    · rw [List.getElem?_eq_none hj] at hv; cases hv) (by rw [List.length_map, List.length_map, List.length_take, List.length_replicate]; omega) (by intro v hv; obtain ⟨x, _, rfl⟩ := List.mem_map.1 hv; rfl) w0.heap.size w0 hb hg0 ?_
  intro w' h1 h2
  refine h w' ?_ h2
  have := h1.out
  rw [splice_bytes] at this
  exact this
theorem ab_new (w : World) (n : Nat) : Ab (w.alloc (.cells (madeCells #[.int .u8 0] n) 5)) w.heap.size (List.replicate n 0) := by
  rw [made_ub]
  exact heap_alloc_new w _
theorem Ab.keep {w w' : World} {g : Nat} {cs : List Nat} (h : Ab w g cs) (hb : Below w.heap.size w w') : Ab w' g cs := by
  have hlt : g < w.heap.size := by
    rcases Nat.lt_or_ge g w.heap.size with hlt | hge
    · exact hlt
    · unfold Ab at h; rw [Array.getElem?_eq_none hge] at h; cases h
  exact (hb.block g hlt).trans h
/-- copy into bytes made anew: all other blocks stay -/
theorem wpList_copy_bytesG {w : World} {ops : Array Oper} {rest : List Oper} {o : Oper} {a : Act} {Q : Exit → Act → World → Prop} (hgd : o.guard = none) (d s : Operand)
    (ho : o.op = .call { callee := .builtin .copy, args := #[d, s], argTypes := #[26, 26] }) (g n : Nat) (hd : a.eval d = .slice (some ⟨g, 0, none⟩) n n) (A : Option Addr) (xs : List Nat) (c : Nat) (hs : a.eval s = .slice A xs.length c)
    (hg : Ab w g (List.replicate n 0)) (hx : Sb w w.heap.size A xs)
    (h : ∀ w', Ab w' g (rm n (at_ xs)) → w.grownBy w' (some g) → wpList Try.prog ops Q rest (a.put o.dst (goInt ((xs.take n).map ub).length)) w') :
    wpList Try.prog ops Q (o :: rest) a w := by
  have hsp := splice_bytes xs n
  by_cases h0 : ((xs.take n).map ub).length = 0
  · have e0 : (xs.take n).map ub = [] := List.eq_nil_of_length_eq_zero h0
    rw [e0] at hsp h
    refine wpList_copy_nothing hgd d s 26 26 ho 5 Try.underlying26 sizeB (some ⟨g, 0, none⟩) A n n xs.length c hd hs (by rw [List.length_map, List.length_take] at h0; exact (Nat.min_comm _ _).trans h0) ?_
    refine h w ?_ (grown_refl w _)
    have e : splice ((List.replicate n 0).map ub) 0 [] = (List.replicate n 0).map ub := by simp [splice]
    rw [e] at hsp
    unfold Ab at hg ⊢
    rw [← hsp]
    exact hg
  · have hne : xs ≠ [] := by intro e; rw [e] at h0; simp at h0
    obtain ⟨ad, e, hab, hcell⟩ := hx.2.resolve_left hne
    subst e
    refine wpList_copy_own hgd d s 26 26 ho 5 Try.underlying26 sizeB g 0 n n ad xs.length c hd hs ((List.replicate n 0).map ub).toArray 5 hg ((xs.take n).map ub) (by rw [List.length_map, List.length_take]; exact Nat.min_comm _ _) (fun j v hv => ?_)
      (by rw [List.size_toArray, List.length_map, List.length_map, List.length_take, List.length_replicate]; omega) (by intro v hv; obtain ⟨x, _, rfl⟩ := List.mem_map.1 hv; rfl) ?_
    · rw [List.getElem?_map] at hv
      rcases Nat.lt_or_ge j (xs.take n).length with hj | hj
      · rw [List.getElem?_eq_getElem hj] at hv
        injection hv with hv
        rw [← hv, List.getElem_take]
        exact hcell j (by rw [List.length_take] at hj; omega)
      · rw [List.getElem?_eq_none hj] at hv; cases hv
    · refine h _ ?_ ⟨rfl, rfl, rfl, by simp [World.setRow], fun k _ hk => setRow_other w g k _ (fun e => hk (by rw [e]))⟩
      unfold Ab at hg ⊢
      rw [setRow_heap w g _ _ _ _ hg, ← hsp]
      unfold splice
      simp
theorem bstr_inj {xs ys : List Nat} (hx : ∀ x ∈ xs, x < 256) (hy : ∀ x ∈ ys, x < 256) (h : bstr xs = bstr ys) : xs = ys := by
  have h1 : (xs.map fun x => UInt8.ofNat x) = ys.map fun x => UInt8.ofNat x := by
    have := congrArg (fun b : ByteArray => b.data.toList) h
    simpa [bstr] using this
  have hf : ∀ {l : List Nat}, (∀ x ∈ l, x < 256) → (l.map fun x => UInt8.ofNat x).map UInt8.toNat = l := fun {l} hl => by
    rw [List.map_map]
    conv => rhs; rw [← List.map_id l]
    exact List.map_congr_left fun x hm => by
      show (UInt8.ofNat x).toNat = x
      rw [UInt8.toNat_ofNat', Nat.mod_eq_of_lt (hl x hm)]
  rw [← hf hx, ← hf hy, h1]
theorem str_cmp {xs ys : List Nat} (hx : ∀ x ∈ xs, x < 256) (hy : ∀ x ∈ ys, x < 256) : ((bstr xs).toList == (bstr ys).toList) = decide (xs = ys) := by
  by_cases h : xs = ys
  · subst h
    simp
  · have hn : ¬ (bstr xs).toList = (bstr ys).toList := fun e => h (bstr_inj hx hy (by
      rw [ByteArray.toList_eq, ByteArray.toList_eq] at e
      exact Go.WideShapes.bytes_inj e))
    simp [hn, h]
theorem Ab.lt' {w : World} {g : Nat} {cs : List Nat} (h : Ab w g cs) : g < w.heap.size := by
  rcases Nat.lt_or_ge g w.heap.size with hlt | hge
  · exact hlt
  · unfold Ab at h; rw [Array.getElem?_eq_none hge] at h; cases h
theorem Ab.other {w w' : World} {g g' : Nat} {cs : List Nat} (h : Ab w g cs) (hg : w.grownBy w' (some g')) (hne : g ≠ g') : Ab w' g cs :=
  (hg.block g h.lt' (fun e => hne (by simpa using e))).trans h
theorem mk_okN {B P : Int} {W K N : Nat} {k l q : Int} {d : List Nat} (hN : W * K = N) (hd : ∀ x ∈ d, x < 256) (h : mkE B P (W : Int) (K : Int) k l q d.length = 0) : ∃ k' l' q' : Nat, k = (k' : Int) ∧ l = (l' : Int) ∧ q = (q' : Int) ∧ sayV N k' l' q' d ∧ mkW B P (W : Int) (K : Int) k l q d = pageL W (sayL N k' l' q' d) := by
  obtain ⟨W', K', N', k', l', q', e1, e2, e3, e4, e5, _, hN', hv, hw, _⟩ := mk_ok hd h
  obtain rfl : W = W' := Int.ofNat.inj e1
  obtain rfl : K = K' := Int.ofNat.inj e2
  rw [hN] at hN'
  subst hN'
  exact ⟨k', l', q', e3, e4, e5, hv, hw⟩
end Go.Proofs.Ytmchelbmeajcnaa
