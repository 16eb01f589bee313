/-
  Arenas as plain lists: what is taken, given back, live. No program here.
-/
namespace Go.Proofs.Ytbldjlkofaiikaa
set_option linter.unusedVariables false

/-- An arena: of each slot its generation, and whether it is taken; the numbers of those that are free, the next one last. -/
structure St where
  gens : List Int
  used : List Bool
  free : List Int

/-- The handle of an index and a generation. -/
def hd (i g : Int) : Int := g * 16777216 + i
/-- The slot of number i is taken; free has lost its last one. -/
def St.tk (s : St) (i : Nat) : St := { s with used := s.used.set i true, free := s.free.dropLast }
/-- The slot of number i is free again, with the generation g. -/
def St.gb (s : St) (i : Nat) (g : Int) : St := { gens := s.gens.set i g, used := s.used.set i false, free := s.free ++ [(i : Int)] }
/-- Whether h is live. -/
def St.lv (s : St) (h : Int) : Bool := s.used.getD (h % 16777216).toNat false && (s.gens.getD (h % 16777216).toNat 0 == h / 16777216)
/-- The handles of those of the first k slots that are taken. -/
def St.al (s : St) : Nat → List Int
  | 0 => []
  | k + 1 => if s.used.getD k false then s.al k ++ [hd k (s.gens.getD k 0)] else s.al k

/-- The numbers below k, falling. -/
def downs : Nat → List Int
  | 0 => []
  | k + 1 => (k : Int) :: downs k
/-- An arena of n free slots. -/
def fresh (n : Nat) : St := ⟨List.replicate n 1, List.replicate n false, downs n⟩
/-- No arena. -/
def noSt : St := ⟨[], [], []⟩
theorem downs_length : ∀ k, (downs k).length = k
  | 0 => rfl
  | k + 1 => by rw [downs, List.length_cons, downs_length k]
/-- k slots of n have been laid. -/
def upG (n k : Nat) : List Int := List.replicate k 1 ++ List.replicate (n - k) 0
def upF (n k : Nat) : List Int := List.replicate (n - k) 0 ++ downs k
theorem upG_length {n k : Nat} (h : k ≤ n) : (upG n k).length = n := by simp [upG]; omega
theorem upF_length {n k : Nat} (h : k ≤ n) : (upF n k).length = n := by simp [upF, downs_length]; omega
theorem upG_step {n k : Nat} (h : k < n) : (upG n k).set k 1 = upG n (k + 1) := by
  unfold upG
  obtain ⟨d, hd⟩ : ∃ d, n - k = d + 1 := ⟨n - k - 1, by omega⟩
  rw [hd, show n - (k + 1) = d by omega, List.set_append_right k 1 (by simp), List.length_replicate, Nat.sub_self, List.replicate_succ, List.set_cons_zero, List.replicate_succ' (n := k)]
  simp
theorem upF_step {n k : Nat} (h : k < n) : (upF n k).set (n - 1 - k) (k : Int) = upF n (k + 1) := by
  unfold upF
  obtain ⟨d, hd⟩ : ∃ d, n - k = d + 1 := ⟨n - k - 1, by omega⟩
  rw [hd, show n - (k + 1) = d by omega, show n - 1 - k = d by omega, List.replicate_succ', List.append_assoc, List.set_append_right d _ (by simp), List.length_replicate, Nat.sub_self]
  simp [downs]
theorem upG_all (n : Nat) : upG n n = List.replicate n 1 := by simp [upG]
theorem upF_all (n : Nat) : upF n n = downs n := by simp [upF]
theorem upG_none (n : Nat) : upG n 0 = List.replicate n 0 := by simp [upG]
theorem upF_none (n : Nat) : upF n 0 = List.replicate n 0 := by simp [upF, downs]

end Go.Proofs.Ytbldjlkofaiikaa
