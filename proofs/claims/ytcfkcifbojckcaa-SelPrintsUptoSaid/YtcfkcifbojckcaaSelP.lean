/-
  Parse: what a reader tells, or, recovered, the place of what can not stand there.
-/
import Derived.Test.YtcfkcifbojckcaaSelL
import Derived.Recover
import Derived.Laws.Pointers
namespace Go.Proofs.Ytcfkcifbojckcaa
open Go.ChangeShapes Go.WideShapes Go.ChangeAt Go.RowKit
open Go.PlainAid (bt)
set_option linter.unusedVariables false
set_option linter.unusedSimpArgs false

theorem parse_idle (p q : Addr) (w : World) :
    CallsD Try.prog 16 #[.pointer (some p), .pointer (some q)] .returning w fun e u' w' => e = .returned (.tuple #[]) ∧ u' = .returning ∧ w' = w := by
  refine callsD_of_wpS Try.func16 rfl fun c₀ cs hu => ?_
  apply wpS_seq
  apply wpS_region
  simp [wpOpsS, go_sem, recoverD, hu, Try.ntmps16, Exit.thenS]
  apply wpS_seq
  apply wpS_region
  simp [wpOpsS, go_sem, recoverD, hu, Try.ntmps16, Exit.thenS]
  refine wpS_cond (t := false) (by simp [Act.eval, Array.replicate]) ?_
  simp only [Bool.false_eq_true, if_false]
  refine wpS_of_wp (wp_skip ?_)
  cases c₀
  simp_all [bodyPostS, results, Try.results16]
theorem parse_caught (p q : Addr) (k x y : Int) (w : World) (hp : w.cell? p = some (.int .i64 x)) (fp : w.frozen? p = false) (hq : w.cell? q = some (.int .i64 y)) (fq : w.frozen? q = false) (hne : p ≠ q) :
    CallsD Try.prog 16 #[.pointer (some p), .pointer (some q)] (.panicking [{ v := .iface 55 (.int .i64 k), recovered := false }]) w fun e u' w' => e = .returned (.tuple #[]) ∧ u' = .panicking [{ v := .iface 55 (.int .i64 k), recovered := true }] ∧ w' = (w.setCell p (.int .i64 k)).setCell q (.int .i64 90) := by
  refine callsD_of_wpS Try.func16 rfl fun c₀ cs hu => ?_
  apply wpS_seq
  apply wpS_region
  simp [wpOpsS, go_sem, recoverD, hu, Try.ntmps16, Exit.thenS]
  apply wpS_seq
  apply wpS_region
  simp [wpOpsS, go_sem, recoverD, hu, Try.ntmps16, Exit.thenS]
  refine wpS_cond (t := true) (by simp [Act.eval, Array.replicate]) ?_
  simp only [if_true]
  apply wpS_region
  have hq2 : (w.setCell p (.int .i64 k)).cell? q = some (.int .i64 y) := by
    rw [World.cell?_setCell_other _ _ _ _ (by first | exact hne | exact fun e => hne e.symm)]; exact hq
  have hta : ∀ W, Sem.run Try.prog (Instr.typeAssert (.iface 55 (.int .i64 k)) 20 55 false) W = .ok (.int .i64 k) W := fun W => by kernel_rfl
  have fq2 : (w.setCell p (.int .i64 k)).frozen? q = false := by rw [World.frozen?_setCell]; exact fq
  simp [wpOpsS, go_sem, hta, hp, fp, hq2, fq2, bodyPostS, results, Try.results16]
theorem two_cells {w : World} {g : Nat} {x y : Value} {t t' : TypeId} (b0 : w.heap[g]? = some (.cells #[x] t (0, 0))) (b1 : w.heap[g + 1]? = some (.cells #[y] t' (0, 0))) (u v : Value) :
    ((w.setCell ⟨g, 0, none⟩ u).setCell ⟨g + 1, 0, none⟩ v).cell? ⟨g, 0, none⟩ = some u ∧ ((w.setCell ⟨g, 0, none⟩ u).setCell ⟨g + 1, 0, none⟩ v).cell? ⟨g + 1, 0, none⟩ = some v := by
  constructor <;> simp [World.setCell, World.cell?, Array.getElem?_modify, b0, b1]
/-- What Parse tells. -/
def PRes (s : ByteArray) (w : World) (e : Ending) (w' : World) : Prop :=
  ((∃ (x : List Mr) (v : Value), e = .returned (.tuple #[v, .int .i64 0, .int .i64 0]) ∧ Sr w' w.heap.size v x ∧ Sl.parse (ls s) = .ok (rws x)) ∨ (∃ k : Nat, e = .returned (.tuple #[.slice none 0 0, .int .i64 k, .int .i64 90]) ∧ Sl.parse (ls s) = .error k)) ∧ Below w.heap.size w w'
set_option maxRecDepth 100000 in
set_option maxHeartbeats 4000000 in
theorem sel_parse (s : ByteArray) (w : World) (hs : s.size ≤ 4000000) : Calls Try.prog 9 #[.string s] w (PRes s w) := by
  have hmf : ∀ (fn : Fn) (first cap : Array Value) (w : World), (Instr.makeFunc fn first cap).run Try.prog w = .ok (.func fn first cap) w := fun _ _ _ _ => rfl
  obtain ⟨W0, hW0⟩ : ∃ W0, W0 = ((w.alloc (.cells #[.int .i64 0] 3)).alloc (.cells #[.int .i64 0] 26)).alloc (.cells #[.string s, .int .i64 0] 57) := ⟨_, rfl⟩
  have HB0 : Hid (Below w.heap.size w W0) := Lib.hid (by rw [hW0]; exact (((Below.refl _ _).alloc (Nat.le_refl _) _).alloc (by simp) _).alloc (by simp; omega) _)
  have hX0 : W0.heap[w.heap.size]? = some (.cells #[.int .i64 0] 3 (0, 0)) := by
    rw [hW0]
    exact (Below.heap_alloc _ _ _ (by simp; omega)).trans ((Below.heap_alloc _ _ _ (by simp)).trans (heap_alloc_new w _))
  have hX1 : W0.heap[w.heap.size + 1]? = some (.cells #[.int .i64 0] 26 (0, 0)) := by
    rw [hW0]
    refine (Below.heap_alloc _ _ _ (by simp)).trans ?_
    have := heap_alloc_new (w.alloc (.cells #[.int .i64 0] 3)) (.cells #[.int .i64 0] 26)
    rwa [World.size_alloc] at this
  have hR0 : Rr W0 (w.heap.size + 1 + 1) s 0 := by
    unfold Rr
    rw [hW0]
    have := heap_alloc_new ((w.alloc (.cells #[.int .i64 0] 3)).alloc (.cells #[.int .i64 0] 26)) (.cells #[.string s, .int .i64 0] 57)
    simp only [World.size_alloc] at this
    exact this
  have HX0 := Lib.hid hX0
  have HX1 := Lib.hid hX1
  have hsz : W0.heap.size = w.heap.size + 1 + 1 + 1 := by rw [hW0]; simp
  have HSZ := Lib.hid hsz
  have HS := Lib.hid (sel_selector (w.heap.size + 1 + 1) s W0 hR0 hs)
  have HId := Lib.hid (fun (p q : Addr) (V : World) => parse_idle p q V)
  have HCa := Lib.hid (fun (p q : Addr) (k x y : Int) (V : World) h1 h2 h3 h4 h5 => parse_caught p q k x y V h1 h2 h3 h4 h5)
  clear hX0 hX1 hR0 hsz
  go_enter_defers Try.func9, Try.ntmps9
  go_wp2_with fail
  rw [← hW0]
  clear hW0
  refine HS.out.mono ?_
  rintro e w1 ⟨hcs, hg⟩
  have b0 : w1.heap[w.heap.size]? = some (.cells #[.int .i64 0] 3 (0, 0)) := (hg.block _ (lt_block HX0.out) (by simp; omega)).trans HX0.out
  have b1 : w1.heap[w.heap.size + 1]? = some (.cells #[.int .i64 0] 26 (0, 0)) := (hg.block _ (lt_block HX1.out) (by simp)).trans HX1.out
  have HB1 : Hid (Below w.heap.size w w1) := Lib.hid (HB0.out.trans (hg.below (by omega) (by rw [HSZ.out]; omega)))
  have c0 : w1.cell? ⟨w.heap.size, 0, none⟩ = some (.int .i64 0) := by simp [World.cell?, b0]
  have c1 : w1.cell? ⟨w.heap.size + 1, 0, none⟩ = some (.int .i64 0) := by simp [World.cell?, b1]
  have f0 : w1.frozen? ⟨w.heap.size, 0, none⟩ = false := by simp [World.frozen?, b0]
  have f1 : w1.frozen? ⟨w.heap.size + 1, 0, none⟩ = false := by simp [World.frozen?, b1]
  have HC2 := Lib.hid (fun (u v : Value) => two_cells b0 b1 u v)
  clear b0 b1 hg
  have hne : (⟨w.heap.size, 0, none⟩ : Addr) ≠ ⟨w.heap.size + 1, 0, none⟩ := by simp
  have hne2 : (⟨w.heap.size + 1, 0, none⟩ : Addr) ≠ ⟨w.heap.size, 0, none⟩ := by simp
  rcases hcs with ⟨x, v, rfl, hS, hp⟩ | ⟨k, hm, hp⟩
  · have HP := Lib.hid hp
    have HSx : Hid (Sr ((w1.setCell ⟨w.heap.size, 0, none⟩ (.int .i64 0)).setCell ⟨w.heap.size + 1, 0, none⟩ (.int .i64 0)) w.heap.size v x) := Lib.hid (((hS.gr (b := w.heap.size) (by rw [HSZ.out]; omega) (Gr.set _ 0 _ _)).gr (b := w.heap.size + 1) (by rw [HSZ.out]; omega) (Gr.set _ 0 _ _)).mono (show w.heap.size ≤ W0.heap.size by rw [HSZ.out]; omega))
    clear hS hp
    go_wp2_with fail
    refine leaves_cons (f := 16) (args := #[.pointer (some ⟨w.heap.size, 0, none⟩), .pointer (some ⟨w.heap.size + 1, 0, none⟩)]) (by simp) (by simp [go_sem]) ?_
    refine (HId.out _ _ _).mono ?_
    rintro e u' w'' ⟨rfl, rfl, rfl⟩
    obtain ⟨z0, z1⟩ := HC2.out (.int .i64 0) (.int .i64 0)
    simp [Leaves, settle, results, Try.results9, go_sem, z0, z1]
    exact ⟨.inl ⟨x, v, rfl, HSx.out, HP.out⟩, (HB1.out.setCell (p := ⟨w.heap.size, 0, none⟩) (by simp) _).setCell (p := ⟨w.heap.size + 1, 0, none⟩) (by simp) _⟩
  · have HP := Lib.hid hp
    unfold Mis at hm
    subst hm
    clear hp
    go_wp2_with fail
    refine leaves_cons (f := 16) (args := #[.pointer (some ⟨w.heap.size, 0, none⟩), .pointer (some ⟨w.heap.size + 1, 0, none⟩)]) (by simp) (by simp [go_sem]) ?_
    refine (HCa.out _ _ k 0 0 _ c0 f0 c1 f1 hne).mono ?_
    rintro e u' w'' ⟨rfl, rfl, rfl⟩
    obtain ⟨z0, z1⟩ := HC2.out (.int .i64 k) (.int .i64 90)
    simp [Leaves, settle, results, Try.results9, go_sem, z0, z1]
    exact ⟨.inr ⟨k, rfl, HP.out⟩, (HB1.out.setCell (p := ⟨w.heap.size, 0, none⟩) (by simp) _).setCell (p := ⟨w.heap.size + 1, 0, none⟩) (by simp) _⟩
end Go.Proofs.Ytcfkcifbojckcaa
