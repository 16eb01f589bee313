/-
  read: the node whose Pack the words are, if there is one.
-/
import Derived.Test.YthfeonmaajiajaaDoorRecN
import Derived.Test.YthfeonmaajiajaaDoorRecQ
import Derived.Test.YthfeonmaajiajaaDoorPeel
import Derived.Laws.EntriesVeiled
namespace Go.Proofs.YthfeonmaajiajaaDoor
open Go.ChangeShapes Go.WideShapes Go.ChangeAt Go.RowKit
open Rm
set_option linter.unusedVariables false
set_option linter.unusedSimpArgs false

/-- append onto a row of the call's own, as one step of a region that draws its order. -/
theorem step_own {P : Program} {ops : Array Oper} {o : Oper} {a : Act} {w : World} {K : Act → World → Prop} {Q : Exit → Act → World → Prop} {E : Prop}
    (hgd : o.guard = none) (s x : Operand) (t : TypeId) (ho : o.op = .call { callee := .builtin .append, args := #[s, x], argTypes := #[t, t] })
    (base : Nat) (e : TypeId) (i : TypeInfo) (z : Value) (size bytes : Nat) (ht : P.underlying t = some (.slice e)) (hi : P.info? e = some i) (hz : i.zero = some z)
    (hsize : i.size = size) (hby : i.bytes = bytes) (hzs : z.cells.size = size) (hsz : 0 < size)
    (v : Value) (n : Nat) (xs : List Value) (hs : a.eval s = v) (hown : w.ownsRow base e size v n xs)
    (ad : Addr) (m c : Nat) (news : List Value) (hx : a.eval x = .slice (some ad) m c) (hl : news.length = m * size) (hnews : ∀ j u, news[j]? = some u → w.cell? (ad.add j) = some u) (h1 : ∀ u ∈ news, u.oneCell' = true)
    (h63 : n + m ≤ maxLen) (hbytes : (n + m) * bytes ≤ 140737488355328) (hbase : base ≤ w.heap.size)
    (h : ∀ v' w', w'.ownsRow base e size v' (n + m) (xs ++ news) → w.grownBy w' v.ownBlock → (v'.ownBlock = v.ownBlock ∨ v'.ownBlock = some w.heap.size) → K (a.put o.dst v') w') :
    if Region.wanted o (yielded ops a.tmps) = true then Oper.wp P o a w K Q else E := by
  have hw : Region.wanted o (yielded ops a.tmps) = true := by simp [Region.wanted, hgd]
  rw [if_pos hw]
  obtain ⟨v', w', hr, h2, h3, _, h5⟩ := run_append_own_at (P := P) w base t o.type e i z size bytes ht hi hz hsize hby hzs hsz v n xs hown ad m c news hl hnews h1 h63 hbytes hbase
  unfold Oper.wp execOp
  simp only [ho, resolve, invoke, builtin, Sem.run_bind, Sem.run_pure, Result.andThen_ok, List.map_toArray, List.map_cons, List.map_nil, hs, hx, hr]
  exact h v' w' h2 h3 h5
theorem LV.setO {w : World} {k j : Nat} {A : Option Addr} {vs : List Value} {v : Value} (h : LV w A vs) (hne : ∀ a, A = some a → a.block ≠ k) : LV (w.setCell ⟨k, j, none⟩ v) A vs := fun h0 => by
  obtain ⟨g, off, e, hg, hc⟩ := h h0
  refine ⟨g, off, e, by simpa using hg, fun i u hu => ?_⟩
  have hgk : g ≠ k := hne _ e
  rw [World.cell?_setCell_other w ⟨k, j, none⟩ ⟨g, off + i, none⟩ v (fun e' => by cases e'; exact hgk rfl)]
  exact hc i u hu
theorem own_but {w w' : World} {k base n : Nat} {e : TypeId} {v : Value} {xs : List Value} (h : w.ownsRow base e 1 v n xs) (hb : But k w w') (hk : k < base) : w'.ownsRow base e 1 v n xs := by
  refine ⟨h.1, ?_⟩
  rcases h.2 with h' | ⟨g, cap, cur, h1, h2, h3, h4⟩
  · exact .inl h'
  · exact .inr ⟨g, cap, cur, h1, h2, (hb.other g (lt_of_block h3) (by omega)).trans h3, h4⟩
theorem LV.grown {w w' : World} {A : Option Addr} {vs : List Value} {row : Option Nat} (h : LV w A vs) (hg : w.grownBy w' row) (hne : ∀ a, A = some a → some a.block ≠ row) : LV w' A vs := fun h0 => by
  obtain ⟨g, off, e, hg2, hc⟩ := h h0
  exact ⟨g, off, e, Nat.lt_of_lt_of_le hg2 hg.size, fun i u hu => (World.cell?_of_block (a := ⟨g, off + i, none⟩) (hg.block g hg2 (hne _ e))).trans (hc i u hu)⟩
theorem sizeOf_I2 (W : World) : ((sizeOf (Tryd.prog.elem 55)).run Tryd.prog W) = .ok 1 W := sizeOf_I W
theorem slice_hiI (p : Option Addr) (n cp m : Nat) (h : m ≤ cp) (hp : ∀ a, p = some a → ∃ g, a = ⟨g, 0, none⟩) (W : World) : Sem.run Tryd.prog (Instr.slice 55 (.slice p n cp) none (some (.int .i64 (m : Int))) none) W = .ok (.slice p m cp) W := by
  rw [run_slice_h (P := Tryd.prog) W 55 p n cp Tryd.underlying55 .i64 (m : Int) (by omega) (by omega), sizeOf_I2]
  simp only [Result.andThen, sliced, Int.toNat_natCast, Nat.sub_zero]
  cases p with
  | none => split <;> rfl
  | some a =>
    obtain ⟨g, rfl⟩ := hp a rfl
    split
    · rfl
    · simp [add_plain]
theorem iat {w : World} {A : Option Addr} {l : List Int} (h : LV w A (ivs l)) {j : Nat} (hj : j < l.length) : ∃ g off, A = some ⟨g, off, none⟩ ∧ g < w.heap.size ∧ w.cell? ⟨g, off + j, none⟩ = some (.int .i64 l[j]) := by
  obtain ⟨g, off, e, hg, hc⟩ := h.at_ (j := j) (by rw [ivs_length]; exact hj)
  exact ⟨g, off, e, hg, by rw [hc]; simp [ivs]⟩
abbrev nextF (kb : Nat) : Value := .func (.func 32) #[] #[.pointer (some ⟨kb, 0, none⟩)]
abbrev zrec : Array Value := #[.int .i64 0, .int .i64 0, .string ⟨#[]⟩, .string ⟨#[]⟩, .slice none 0 0, .int .u64 0, .int .i64 0]
/-- Where read stands: the words lr are left; its variables lie where they were laid. -/
structure RS (w X : World) (lr : List Int) : Prop where
  lb : LB X w.heap.size lr
  rs : X.heap[w.heap.size + 1]? = some (.cells zrec 27 (0, 0))
  nx : X.heap[w.heap.size + 2]? = some (.cells #[nextF w.heap.size] 70 (0, 0))
  be : Below w.heap.size w X
theorem RS.sz {w X : World} {lr : List Int} (h : RS w X lr) : w.heap.size + 2 < X.heap.size := lt_of_block h.nx
theorem RS.but {w X Y : World} {lr lr' : List Int} (h : RS w X lr) (hb : But w.heap.size X Y) (hl : LB Y w.heap.size lr') : RS w Y lr' := by
  have := h.sz
  exact ⟨hl, (hb.other _ (by omega) (by omega)).trans h.rs, (hb.other _ (by omega) (by omega)).trans h.nx, h.be.trans hb.below⟩
theorem RS.later {w X Y : World} {lr : List Int} (h : RS w X lr) (hb : Below X.heap.size X Y) : RS w Y lr :=
  h.but (But.of_below (by have := h.sz; omega) hb) (h.lb.below hb (by have := h.sz; omega))
theorem RS.setO {w X : World} {lr : List Int} (h : RS w X lr) {k : Nat} (hk : w.heap.size + 2 < k) (j : Nat) (v : Value) : RS w (X.setCell ⟨k, j, none⟩ v) lr := by
  have hb : Below (w.heap.size + 3) X (X.setCell ⟨k, j, none⟩ v) := (Below.refl _ X).setCell (p := ⟨k, j, none⟩) hk v
  exact ⟨h.lb.below hb (by omega), (hb.block _ (by omega)).trans h.rs, (hb.block _ (by omega)).trans h.nx, h.be.trans (hb.mono (by omega))⟩
theorem RS.drew {w X : World} {lr : List Int} (h : RS w X lr) : RS w X.drew lr := h.later (Below.refl _ X).drew
theorem pad_one {w : World} {b cap : Nat} {g : Nat} {l : List Int} (h : w.ownsRow b 23 1 (.slice (some ⟨g, 0, none⟩) 1 cap) 1 (gvs (pad 1 l))) : w.cell? ⟨g, 0, none⟩ = some (.int .u64 (l.getD 0 0)) := by
  have e : (gvs (pad 1 l))[0]? = some (.int .u64 (l.getD 0 0)) := by cases l <;> simp [gvs, pad]
  have := h.cells rfl 0 _ e
  rwa [add_plain, Nat.zero_add] at this
theorem u64_getD {l : List Int} (h : U64 l) (k : Nat) : 0 ≤ l.getD k 0 ∧ l.getD k 0 ≤ 18446744073709551615 := by
  rw [List.getD]
  cases hx : l[k]? with
  | none => simp
  | some x => exact h x (List.mem_of_getElem? hx)
theorem U64.drop {l : List Int} (h : U64 l) (k : Nat) : U64 (l.drop k) := fun x hx => h x (List.mem_of_mem_drop hx)
/-- Where read stands behind its head: the parts of the head in block h5, the node in block h6. -/
structure RT (w X : World) (h5 h6 : Nat) (f : Nat → Int) (cs : Array Value) (lr : List Int) : Prop where
  s : RS w X lr
  p : PB X h5 f
  r : X.heap[h6]? = some (.cells cs 27 (0, 0))
  l5 : w.heap.size + 2 < h5
  l56 : h5 < h6
theorem RT.sz {w X : World} {h5 h6 : Nat} {f : Nat → Int} {cs : Array Value} {lr : List Int} (h : RT w X h5 h6 f cs lr) : h6 < X.heap.size := lt_of_block h.r
theorem RT.but {w X Y : World} {h5 h6 : Nat} {f : Nat → Int} {cs : Array Value} {lr lr' : List Int} (h : RT w X h5 h6 f cs lr) (hb : But w.heap.size X Y) (hl : LB Y w.heap.size lr') : RT w Y h5 h6 f cs lr' := by
  have h1 := h.sz
  have h2 := h.l5
  have h3 := h.l56
  refine ⟨h.s.but hb hl, fun j hj => ?_, (hb.other _ (by omega) (by omega)).trans h.r, h2, h3⟩
  have hbl := hb.other h5 (by omega) (by omega)
  exact ⟨(World.cell?_of_block (a := ⟨h5, j, none⟩) hbl).trans (h.p j hj).1, by have := (h.p j hj).2; unfold World.frozen? at this ⊢; rw [show Y.heap[h5]? = X.heap[h5]? from hbl]; exact this⟩
theorem RT.later {w X Y : World} {h5 h6 : Nat} {f : Nat → Int} {cs : Array Value} {lr : List Int} (h : RT w X h5 h6 f cs lr) (hb : Below X.heap.size X Y) : RT w Y h5 h6 f cs lr := by
  have h1 := h.sz
  have h2 := h.l5
  have h3 := h.l56
  exact h.but (But.of_below (by omega) hb) (h.s.lb.below hb (by omega))
theorem RT.set {w X : World} {h5 h6 : Nat} {f : Nat → Int} {cs cs' : Array Value} {lr : List Int} (h : RT w X h5 h6 f cs lr) (j : Nat) (v : Value) (hc : (X.setCell ⟨h6, j, none⟩ v).heap[h6]? = some (.cells cs' 27 (0, 0))) : RT w (X.setCell ⟨h6, j, none⟩ v) h5 h6 f cs' lr := by
  have h2 := h.l5
  have h3 := h.l56
  exact ⟨h.s.setO (by omega) j v, h.p.below ((Below.refl (h5 + 1) X).setCell (p := ⟨h6, j, none⟩) (by show h5 + 1 ≤ h6; omega) v) (by omega), hc, h2, h3⟩
theorem RT.grown {w X Y : World} {h5 h6 : Nat} {f : Nat → Int} {cs : Array Value} {lr : List Int} {row : Option Nat} (h : RT w X h5 h6 f cs lr) (hg : X.grownBy Y row) (hr : ∀ r, row = some r → h6 < r) : RT w Y h5 h6 f cs lr := by
  have h1 := h.sz
  have h2 := h.l5
  have h3 := h.l56
  have hb : Below (h6 + 1) X Y := (Below.refl (h6 + 1) X).grown hg (by omega) (fun r e => hr r e)
  have hk : ∀ b, b ≤ h6 → Y.heap[b]? = X.heap[b]? := fun b hb' => hb.block b (by omega)
  refine ⟨⟨h.s.lb.below hb (by omega), (hk _ (by omega)).trans h.s.rs, (hk _ (by omega)).trans h.s.nx, h.s.be.trans (hb.mono (by omega))⟩, h.p.below hb (by omega), (hk _ (Nat.le_refl _)).trans h.r, h2, h3⟩
theorem set_block {w : World} {k : Nat} {cs : Array Value} {t : TypeId} (h : w.heap[k]? = some (.cells cs t (0, 0))) (j : Nat) (x : Value) : (w.setCell ⟨k, j, none⟩ x).heap[k]? = some (.cells (cs.setIfInBounds j x) t (0, 0)) := by
  simp [World.setCell, Array.getElem?_modify, h]
/-- The lengths that are told, and what is left behind them. -/
def lg (l2 : List Int) (p : Nat) : List Int := if 0 < p then lv (pad 2 l2) 16 else []
def l3 (l2 : List Int) (p : Nat) : List Int := if 0 < p then l2.drop 2 else l2
def tx (l : List Int) (n : Nat) : Wd := (txt (pad (nw n) l) n).getD []
theorem tx_length (l : List Int) (n : Nat) : (tx l n).length ≤ n := by
  unfold tx
  cases h : txt (pad (nw n) l) n with
  | none => simp
  | some s => have := (txt_iff.1 h).2; simp; omega
theorem pad_step (s : Wd) (m : List Int) : pad (nw s.length) (wds s ++ m) = wds s := by
  unfold pad
  rw [(step_take s m).1, List.length_append, wds_length]
  simp
theorem tx_step (s : Wd) (m : List Int) : tx (wds s ++ m) s.length = s ∧ (wds s ++ m).drop (nw s.length) = m := by
  refine ⟨?_, (step_take s m).2⟩
  unfold tx
  rw [pad_step, txt_wds]
  rfl
theorem rd_facts {r : Rc} (hm : MayR r) {l : List Int} (hl : pk r = l) {p4 n2 n3 : Nat} (e4 : l.getD 0 0 / 2097152 % 16 = p4) (e2 : l.getD 0 0 / 1024 % 32 = n2) (e3 : l.getD 0 0 / 32768 % 64 = n3) :
    2 * p4 = r.attrs.length ∧ tx (l3 (l.drop 2) p4) n2 = r.name ∧ tx ((l3 (l.drop 2) p4).drop (nw n2)) n3 = r.text ∧ ((l3 (l.drop 2) p4).drop (nw n2)).drop (nw n3) = r.attrs.flatMap wds ∧
      (∀ j, j < r.attrs.length → j < (lg (l.drop 2) p4).length ∧ (lg (l.drop 2) p4).getD j 0 = ((r.attrs.getD j []).length : Int)) := by
  subst hl
  rw [pk_head] at e4 e2 e3
  obtain ⟨q1, q2, q3, q4, q5, q6⟩ := headR_parts hm
  have hd := hm.2.2.2.2.2.2
  have hp : 2 * p4 = r.attrs.length := by omega
  obtain rfl : n2 = r.name.length := by omega
  obtain rfl : n3 = r.text.length := by omega
  have ht : l3 ((pk r).drop 2) p4 = tl r := by
    rw [pk_rest]
    unfold l3
    by_cases h : r.attrs = []
    · rw [if_neg (by rw [h] at hp; simp at hp; omega), lens_none h]; rfl
    · rw [if_pos (by have : r.attrs.length ≠ 0 := fun e => h (List.eq_nil_of_length_eq_zero e); omega)]
      exact (lens_two h _).2
  rw [ht]
  unfold tl
  obtain ⟨t1, t2⟩ := tx_step r.name (wds r.text ++ r.attrs.flatMap wds)
  obtain ⟨t3, t4⟩ := tx_step r.text (r.attrs.flatMap wds)
  refine ⟨hp, t1, by rw [t2]; exact t3, by rw [t2, t4], fun j hj => ?_⟩
  have h : r.attrs ≠ [] := fun e => by rw [e] at hj; simp at hj
  have hpp : 0 < p4 := by omega
  unfold lg
  rw [if_pos hpp, lv_length, pk_rest]
  refine ⟨by omega, ?_⟩
  have hpad : pad 2 (lens r.attrs ++ (wds r.name ++ (wds r.text ++ r.attrs.flatMap wds))) = lens r.attrs := by
    unfold pad
    rw [(lens_two h _).1, List.length_append, lens_some h]
    simp
  rw [show tl r = wds r.name ++ (wds r.text ++ r.attrs.flatMap wds) from rfl, hpad, ← lens_at hd.2.2.1 hj]
  unfold lv lenAt
  have h16 : j < 16 := by omega
  rw [lens_some h]
  simp only [List.getD, List.getElem?_map, List.getElem?_range h16, Option.map_some, Option.getD_some]
  by_cases h8 : j < 8
  · rw [if_pos h8, show j / 8 = 0 by omega, show j % 8 = j by omega]; rfl
  · rw [if_neg h8, show j / 8 = 1 by omega, show j % 8 = j - 8 by omega]; rfl
/-- A box of parts filled. -/
theorem fill8 {w X : World} {lr : List Int} {h5 : Nat} {o : Nat → Int} (f : Nat → Int) (h : RS w X lr) (hk : w.heap.size + 2 < h5) (ho : PB X h5 o) :
    ∀ Z, Z = (((((((X.setCell ⟨h5, 0, none⟩ (.int .i64 (f 0))).setCell ⟨h5, 1, none⟩ (.int .i64 (f 1))).setCell ⟨h5, 2, none⟩ (.int .i64 (f 2))).setCell ⟨h5, 3, none⟩ (.int .i64 (f 3))).setCell ⟨h5, 4, none⟩ (.int .i64 (f 4))).setCell ⟨h5, 5, none⟩ (.int .i64 (f 5))).setCell ⟨h5, 6, none⟩ (.int .i64 (f 6))).setCell ⟨h5, 7, none⟩ (.int .i64 (f 7)) → PB Z h5 f ∧ RS w Z lr := by
  rintro Z rfl
  refine ⟨?_, (((((((h.setO hk _ _).setO hk _ _).setO hk _ _).setO hk _ _).setO hk _ _).setO hk _ _).setO hk _ _).setO hk _ _⟩
  have := (((((((ho.set (show 0 < 8 by omega) (f 0)).set (show 1 < 8 by omega) (f 1)).set (show 2 < 8 by omega) (f 2)).set (show 3 < 8 by omega) (f 3)).set (show 4 < 8 by omega) (f 4)).set (show 5 < 8 by omega) (f 5)).set (show 6 < 8 by omega) (f 6)).set (show 7 < 8 by omega) (f 7)
  refine this.congr (fun j hj => ?_)
  have : j = 0 ∨ j = 1 ∨ j = 2 ∨ j = 3 ∨ j = 4 ∨ j = 5 ∨ j = 6 ∨ j = 7 := by omega
  rcases this with rfl | rfl | rfl | rfl | rfl | rfl | rfl | rfl <;> rfl
/-- What read tells: a node; if the words are a node's, that one. -/
def GivesRd (l : List Int) (w : World) (e : Ending) (w' : World) : Prop :=
  ∃ (r : Rc) (A : Option Addr) (c : Nat), e = .returned (.agg (rcs r A c)) ∧ LV w' A (svs r.attrs) ∧ RcB r ∧ (∀ q, MayR q → pk q = l → r = q) ∧ (∀ a, A = some a → w.heap.size ≤ a.block) ∧ Below w.heap.size w w'
/-- What is asked of every world on the way: next's variable, and the table of the head. -/
def SR (w X : World) : Prop := X.cell? ⟨w.heap.size + 2, 0, none⟩ = some (nextF w.heap.size) ∧ X.cell? ⟨1, 0, none⟩ = some (.int .i64 2) ∧ X.cell? ⟨1, 1, none⟩ = some (.int .i64 8) ∧ X.cell? ⟨1, 2, none⟩ = some (.int .i64 5) ∧ X.cell? ⟨1, 3, none⟩ = some (.int .i64 6) ∧ X.cell? ⟨1, 4, none⟩ = some (.int .i64 4) ∧ X.cell? ⟨1, 5, none⟩ = some (.int .i64 8) ∧ X.cell? ⟨1, 6, none⟩ = some (.int .i64 0) ∧ X.cell? ⟨1, 7, none⟩ = some (.int .i64 0)
theorem RS.sr {w X : World} {lr : List Int} (h : RS w X lr) (hT : BT w) : SR w X := ⟨block_cell h.nx rfl, (hT.below h.be).allH⟩
set_option maxRecDepth 100000 in
set_option maxHeartbeats 8000000 in
theorem read_any (A : Option Addr) (n c : Nat) (l : List Int) (w : World) (hA : LV w A (gvs l)) (hl : l.length = n) (hnc : n ≤ c) (hc : c ≤ maxLen) (hlo : ∀ a, A = some a → a.block < w.heap.size) (hU : U64 l) (hT : BT w) :
    Calls Tryd.prog 22 #[.slice A n c] w (GivesRd l w) := by
  obtain ⟨W, hW⟩ : ∃ W, W = ((w.alloc (.cells #[.slice A n c] 28)).alloc (.cells zrec 27)).alloc (.cells #[nextF w.heap.size] 70) := ⟨_, rfl⟩
  have HZ : Hid (RS w W l) := Lib.hid (by
    have hb : Below w.heap.size w W := by subst hW; exact (((Below.refl _ w).alloc (Nat.le_refl _) _).alloc (by simp) _).alloc (by simp; omega) _
    subst hW
    refine ⟨⟨A, n, c, At1.of_block (t := 28) ?_, hA.below hb, hl, hnc, hc, hlo⟩, ?_, ?_, hb⟩
    · rw [heap_old _ _ (by simp; omega), heap_old _ _ (by simp)]; exact heap_new _ _
    · rw [heap_old _ _ (by simp)]; have := heap_new (w.alloc (.cells #[.slice A n c] 28)) (.cells zrec 27); simpa using this
    · have := heap_new ((w.alloc (.cells #[.slice A n c] 28)).alloc (.cells zrec 27)) (.cells #[nextF w.heap.size] 70); simpa using this)
  have HU := Lib.hid hU
  have HT := Lib.hid hT
  obtain ⟨iS, hi, hz0, hz1, hz2⟩ := info_parts info_S
  have HIS := Lib.hid (And.intro hi (And.intro hz0 (And.intro hz1 hz2)))
  clear hi hz0 hz1 hz2
  obtain ⟨h0, hh0⟩ : ∃ x, x = l.getD 0 0 := ⟨_, rfl⟩
  have HH0 := Lib.hid hh0
  have HH1 : Hid (0 ≤ h0 ∧ h0 ≤ 18446744073709551615) := Lib.hid (by rw [hh0]; exact u64_getD hU 0)
  obtain ⟨f, hf⟩ : ∃ f, f = sp hb h0 := ⟨_, rfl⟩
  have HF := Lib.hid hf
  have HSpl : Hid (∀ X, Calls Tryd.prog 29 #[.agg aH, .int .u64 h0] X fun e w' => e = .returned (.agg (pArr f)) ∧ Below X.heap.size X w') := Lib.hid (fun X => by rw [hf]; exact split_H h0 X HH1.out.1 HH1.out.2)
  clear hA hl hnc hc hlo hU hT hh0 hf
  have hsw := HZ.out.sz
  go_enter Tryd.func22, Tryd.ntmps22
  go_upto_region 3 with fail
  rw [← hW]
  clear hW
  go_cut [5] from 12 to 17 (fun v X => ∃ h5 : Nat, v = .pointer (some ⟨h5, 0, none⟩) ∧ w.heap.size + 2 < h5 ∧ h5 < X.heap.size ∧ Hid (PB X h5 f) ∧ Hid (RS w X (l.drop 1)))
  case first =>
    refine wp_region_peel_at 7 rfl rfl (fun X : World => X.cell? ⟨w.heap.size + 2, 0, none⟩ = some (.func (.func 32) #[] #[.pointer (some ⟨w.heap.size, 0, none⟩)]) ∧ X.cell? ⟨1, 0, none⟩ = some (.int .i64 2) ∧ X.cell? ⟨1, 1, none⟩ = some (.int .i64 8) ∧ X.cell? ⟨1, 2, none⟩ = some (.int .i64 5) ∧ X.cell? ⟨1, 3, none⟩ = some (.int .i64 6) ∧ X.cell? ⟨1, 4, none⟩ = some (.int .i64 4) ∧ X.cell? ⟨1, 5, none⟩ = some (.int .i64 8) ∧ X.cell? ⟨1, 6, none⟩ = some (.int .i64 0) ∧ X.cell? ⟨1, 7, none⟩ = some (.int .i64 0)) (by kernel_rfl) (by kernel_rfl) (HZ.out.drew.sr HT.out) (fun hHeld => ?_)
    simp only [List.take_succ_cons, List.take_zero]
    refine held_take (i := 0) (d := some 12) (v := ?_) rfl rfl (by kernel_rfl) (by kernel_rfl) (by kernel_rfl) (fun _ _ _ h => h) (by rfl) ?_ (by assumption) ?_
    rotate_left
    · intro w hSw
      try dsimp only at hSw
      first | (go_simp; done) | (go_simp; with_reducible rfl)
    simp only [Act.put, List.setIfInBounds_toArray, List.set_cons_zero, List.set_cons_succ]
    refine held_take (i := 1) (d := some 13) (v := ?_) rfl rfl (by kernel_rfl) (by kernel_rfl) (by kernel_rfl) (fun _ _ _ h => h) (by rfl) ?_ (by assumption) ?_
    rotate_left
    · intro w hSw
      try dsimp only at hSw
      first | (go_simp; done) | (go_simp; with_reducible rfl)
    simp only [Act.put, List.setIfInBounds_toArray, List.set_cons_zero, List.set_cons_succ]
    have HZd := Lib.hid HZ.out.drew
    refine wpAnyH_ready (rs := [2, 6]) (by kernel_rfl) (by simp) ?_
    refine AllReadyH.cons rfl (fun K hK => ?_) (AllReadyH.cons rfl (fun K hK => ?_) AllReadyH.nil)
    · go_simp
      refine (next_lb w.heap.size 1 l _ HZd.out.lb (by omega) (by have := HZd.out.sz; omega)).mono ?_
      rintro e wn ⟨v, rfl, ho, hlb, hbut⟩
      obtain ⟨g, cn, rfl⟩ := ownsRow_succ ho
      have Zn : Hid (RS w wn (l.drop 1)) := Lib.hid (HZd.out.but hbut hlb)
      have hcn : wn.cell? ⟨g, 0, none⟩ = some (.int .u64 h0) := by rw [HH0.out]; exact pad_one ho
      have hgn : g < wn.heap.size := (ho.lt g rfl).2
      clear ho hlb hbut
      refine hK.out _ _ (Zn.out.sr HT.out) (fun hHeld2 => ?_)
      clear hK K hHeld
      have hHeld := hHeld2
      clear hHeld2
      try simp only [Act.put, List.setIfInBounds_toArray, List.set_cons_zero, List.set_cons_succ]
      refine held_take (i := 3) (d := some 15) (v := ?_) rfl rfl (by kernel_rfl) (by kernel_rfl) (by kernel_rfl) (fun _ _ _ h => h) (by rfl) ?_ (by assumption) ?_
      rotate_left
      · intro w hSw
        try dsimp only at hSw
        first | (go_simp; done) | (go_simp; with_reducible rfl)
      simp only [Act.put, List.setIfInBounds_toArray, List.set_cons_zero, List.set_cons_succ]
      refine wpAnyH_ready (rs := [4, 6]) (by kernel_rfl) (by simp) ?_
      refine AllReadyH.cons rfl (fun K hK => ?_) (AllReadyH.cons rfl (fun K hK => ?_) AllReadyH.nil)
      · go_simp
        refine hK.out _ _ (Zn.out.sr HT.out) (fun hHeld2 => ?_)
        clear hK K hHeld
        have hHeld := hHeld2
        clear hHeld2
        try simp only [Act.put, List.setIfInBounds_toArray, List.set_cons_zero, List.set_cons_succ]
        refine wpAnyH_ready (rs := [5, 6]) (by kernel_rfl) (by simp) ?_
        refine AllReadyH.cons rfl (fun K hK => ?_) (AllReadyH.cons rfl (fun K hK => ?_) AllReadyH.nil)
        · go_simp
          refine (HSpl.out _).mono ?_
          rintro e ws ⟨rfl, hbs⟩
          have Zs : Hid (RS w ws (l.drop 1)) := Lib.hid (Zn.out.later hbs)
          clear hbs
          refine hK.out _ _ (Zs.out.sr HT.out) (fun hHeld2 => ?_)
          clear hK K hHeld
          have hHeld := hHeld2
          clear hHeld2
          try simp only [Act.put, List.setIfInBounds_toArray, List.set_cons_zero, List.set_cons_succ]
          refine wpAnyH_ready (rs := [6]) (by kernel_rfl) (by simp) ?_
          refine AllReadyH.cons rfl (fun K hK => ?_) AllReadyH.nil
          go_simp
          have Za : Hid (RS w (ws.alloc (.cells (pArr (fun _ => 0)) 63)) (l.drop 1)) := Lib.hid (Zs.out.later ((Below.refl _ _).alloc (Nat.le_refl _) _))
          have HK4 : Hid ((ws.alloc (.cells (pArr (fun _ => 0)) 63)).heap[ws.heap.size]? = some (.cells (pArr (fun _ => 0)) 63 (0, 0))) := Lib.hid (heap_new _ _)
          have hsa := Zs.out.sz
          refine hK.out _ _ (Za.out.sr HT.out) (fun hHeld2 => ?_)
          clear hK K hHeld
          have hHeld := hHeld2
          clear hHeld2
          try simp only [Act.put, List.setIfInBounds_toArray, List.set_cons_zero, List.set_cons_succ]
          refine wpAnyH_done (by kernel_rfl) ?_ _
          clear hHeld
          show wpList _ _ _ [_] _ _
          obtain ⟨a0, a1, a2, a3, a4, a5, a6, a7⟩ := (PB.of_block (o := fun _ => 0) HK4.out).all
          obtain ⟨z0, z1, z2, z3, z4, z5, z6, z7⟩ := (PB.of_block (o := fun _ => 0) HK4.out).fro
          go_wp2
          go_meet
          exact ⟨_, rfl, by have := hsa; omega, by simp, Lib.hid (PB.of_block (heap_new ws _)), Lib.hid (Zs.out.later ((Below.refl _ _).alloc (Nat.le_refl _) _))⟩
        · go_simp
          have Za : Hid (RS w (wn.alloc (.cells (pArr (fun _ => 0)) 63)) (l.drop 1)) := Lib.hid (Zn.out.later ((Below.refl _ _).alloc (Nat.le_refl _) _))
          have HK4 : Hid ((wn.alloc (.cells (pArr (fun _ => 0)) 63)).heap[wn.heap.size]? = some (.cells (pArr (fun _ => 0)) 63 (0, 0))) := Lib.hid (heap_new _ _)
          have hsa := Zn.out.sz
          refine hK.out _ _ (Za.out.sr HT.out) (fun hHeld2 => ?_)
          clear hK K hHeld
          have hHeld := hHeld2
          clear hHeld2
          try simp only [Act.put, List.setIfInBounds_toArray, List.set_cons_zero, List.set_cons_succ]
          refine wpAnyH_ready (rs := [5]) (by kernel_rfl) (by simp) ?_
          refine AllReadyH.cons rfl (fun K hK => ?_) AllReadyH.nil
          go_simp
          refine (HSpl.out _).mono ?_
          rintro e ws ⟨rfl, hbs⟩
          have Zs : Hid (RS w ws (l.drop 1)) := Lib.hid (Za.out.later hbs)
          have HK6 : Hid (ws.heap[wn.heap.size]? = some (.cells (pArr (fun _ => 0)) 63 (0, 0))) := Lib.hid ((hbs.block _ (lt_of_block HK4.out)).trans HK4.out)
          clear hbs
          refine hK.out _ _ (Zs.out.sr HT.out) (fun hHeld2 => ?_)
          clear hK K hHeld
          have hHeld := hHeld2
          clear hHeld2
          try simp only [Act.put, List.setIfInBounds_toArray, List.set_cons_zero, List.set_cons_succ]
          refine wpAnyH_done (by kernel_rfl) ?_ _
          clear hHeld
          show wpList _ _ _ [_] _ _
          obtain ⟨a0, a1, a2, a3, a4, a5, a6, a7⟩ := (PB.of_block (o := fun _ => 0) HK6.out).all
          obtain ⟨z0, z1, z2, z3, z4, z5, z6, z7⟩ := (PB.of_block (o := fun _ => 0) HK6.out).fro
          go_wp2
          go_meet
          have hF := fill8 f Zs.out (by have := hsa; omega) (PB.of_block (o := fun _ => 0) HK6.out) _ rfl
          have hbl : wn.heap.size < ws.heap.size := lt_of_block HK6.out
          exact ⟨_, rfl, by have := hsa; omega, by simpa using hbl, Lib.hid hF.1, Lib.hid hF.2⟩
      · go_simp
        have Za : Hid (RS w (wn.alloc (.cells (pArr (fun _ => 0)) 63)) (l.drop 1)) := Lib.hid (Zn.out.later ((Below.refl _ _).alloc (Nat.le_refl _) _))
        have HK4 : Hid ((wn.alloc (.cells (pArr (fun _ => 0)) 63)).heap[wn.heap.size]? = some (.cells (pArr (fun _ => 0)) 63 (0, 0))) := Lib.hid (heap_new _ _)
        have hsa := Zn.out.sz
        refine hK.out _ _ (Za.out.sr HT.out) (fun hHeld2 => ?_)
        clear hK K hHeld
        have hHeld := hHeld2
        clear hHeld2
        try simp only [Act.put, List.setIfInBounds_toArray, List.set_cons_zero, List.set_cons_succ]
        refine wpAnyH_ready (rs := [4]) (by kernel_rfl) (by simp) ?_
        refine AllReadyH.cons rfl (fun K hK => ?_) AllReadyH.nil
        go_simp
        refine hK.out _ _ (Za.out.sr HT.out) (fun hHeld2 => ?_)
        clear hK K hHeld
        have hHeld := hHeld2
        clear hHeld2
        try simp only [Act.put, List.setIfInBounds_toArray, List.set_cons_zero, List.set_cons_succ]
        refine wpAnyH_ready (rs := [5]) (by kernel_rfl) (by simp) ?_
        refine AllReadyH.cons rfl (fun K hK => ?_) AllReadyH.nil
        go_simp
        refine (HSpl.out _).mono ?_
        rintro e ws ⟨rfl, hbs⟩
        have Zs : Hid (RS w ws (l.drop 1)) := Lib.hid (Za.out.later hbs)
        have HK6 : Hid (ws.heap[wn.heap.size]? = some (.cells (pArr (fun _ => 0)) 63 (0, 0))) := Lib.hid ((hbs.block _ (lt_of_block HK4.out)).trans HK4.out)
        clear hbs
        refine hK.out _ _ (Zs.out.sr HT.out) (fun hHeld2 => ?_)
        clear hK K hHeld
        have hHeld := hHeld2
        clear hHeld2
        try simp only [Act.put, List.setIfInBounds_toArray, List.set_cons_zero, List.set_cons_succ]
        refine wpAnyH_done (by kernel_rfl) ?_ _
        clear hHeld
        show wpList _ _ _ [_] _ _
        obtain ⟨a0, a1, a2, a3, a4, a5, a6, a7⟩ := (PB.of_block (o := fun _ => 0) HK6.out).all
        obtain ⟨z0, z1, z2, z3, z4, z5, z6, z7⟩ := (PB.of_block (o := fun _ => 0) HK6.out).fro
        go_wp2
        go_meet
        have hF := fill8 f Zs.out (by have := hsa; omega) (PB.of_block (o := fun _ => 0) HK6.out) _ rfl
        have hbl : wn.heap.size < ws.heap.size := lt_of_block HK6.out
        exact ⟨_, rfl, by have := hsa; omega, by simpa using hbl, Lib.hid hF.1, Lib.hid hF.2⟩
    · go_simp
      have Za : Hid (RS w (W.drew.alloc (.cells (pArr (fun _ => 0)) 63)) l) := Lib.hid (HZd.out.later ((Below.refl _ _).alloc (Nat.le_refl _) _))
      have HK4 : Hid ((W.drew.alloc (.cells (pArr (fun _ => 0)) 63)).heap[W.drew.heap.size]? = some (.cells (pArr (fun _ => 0)) 63 (0, 0))) := Lib.hid (heap_new _ _)
      have hsa := HZd.out.sz
      refine hK.out _ _ (Za.out.sr HT.out) (fun hHeld2 => ?_)
      clear hK K hHeld
      have hHeld := hHeld2
      clear hHeld2
      try simp only [Act.put, List.setIfInBounds_toArray, List.set_cons_zero, List.set_cons_succ]
      refine wpAnyH_ready (rs := [2]) (by kernel_rfl) (by simp) ?_
      refine AllReadyH.cons rfl (fun K hK => ?_) AllReadyH.nil
      go_simp
      refine (next_lb w.heap.size 1 l _ Za.out.lb (by omega) (by have := Za.out.sz; omega)).mono ?_
      rintro e wn ⟨v, rfl, ho, hlb, hbut⟩
      obtain ⟨g, cn, rfl⟩ := ownsRow_succ ho
      have Zn : Hid (RS w wn (l.drop 1)) := Lib.hid (Za.out.but hbut hlb)
      have hcn : wn.cell? ⟨g, 0, none⟩ = some (.int .u64 h0) := by rw [HH0.out]; exact pad_one ho
      have hgn : g < wn.heap.size := (ho.lt g rfl).2
      have HK5 : Hid (wn.heap[W.heap.size]? = some (.cells (pArr (fun _ => 0)) 63 (0, 0))) := Lib.hid ((hbut.other _ (lt_of_block HK4.out) (by have := hsw; omega)).trans HK4.out)
      clear ho hlb hbut
      refine hK.out _ _ (Zn.out.sr HT.out) (fun hHeld2 => ?_)
      clear hK K hHeld
      have hHeld := hHeld2
      clear hHeld2
      try simp only [Act.put, List.setIfInBounds_toArray, List.set_cons_zero, List.set_cons_succ]
      refine held_take (i := 3) (d := some 15) (v := ?_) rfl rfl (by kernel_rfl) (by kernel_rfl) (by kernel_rfl) (fun _ _ _ h => h) (by rfl) ?_ (by assumption) ?_
      rotate_left
      · intro w hSw
        try dsimp only at hSw
        first | (go_simp; done) | (go_simp; with_reducible rfl)
      simp only [Act.put, List.setIfInBounds_toArray, List.set_cons_zero, List.set_cons_succ]
      refine wpAnyH_ready (rs := [4]) (by kernel_rfl) (by simp) ?_
      refine AllReadyH.cons rfl (fun K hK => ?_) AllReadyH.nil
      go_simp
      refine hK.out _ _ (Zn.out.sr HT.out) (fun hHeld2 => ?_)
      clear hK K hHeld
      have hHeld := hHeld2
      clear hHeld2
      try simp only [Act.put, List.setIfInBounds_toArray, List.set_cons_zero, List.set_cons_succ]
      refine wpAnyH_ready (rs := [5]) (by kernel_rfl) (by simp) ?_
      refine AllReadyH.cons rfl (fun K hK => ?_) AllReadyH.nil
      go_simp
      refine (HSpl.out _).mono ?_
      rintro e ws ⟨rfl, hbs⟩
      have Zs : Hid (RS w ws (l.drop 1)) := Lib.hid (Zn.out.later hbs)
      have HK6 : Hid (ws.heap[W.heap.size]? = some (.cells (pArr (fun _ => 0)) 63 (0, 0))) := Lib.hid ((hbs.block _ (lt_of_block HK5.out)).trans HK5.out)
      clear hbs
      refine hK.out _ _ (Zs.out.sr HT.out) (fun hHeld2 => ?_)
      clear hK K hHeld
      have hHeld := hHeld2
      clear hHeld2
      try simp only [Act.put, List.setIfInBounds_toArray, List.set_cons_zero, List.set_cons_succ]
      refine wpAnyH_done (by kernel_rfl) ?_ _
      clear hHeld
      show wpList _ _ _ [_] _ _
      obtain ⟨a0, a1, a2, a3, a4, a5, a6, a7⟩ := (PB.of_block (o := fun _ => 0) HK6.out).all
      obtain ⟨z0, z1, z2, z3, z4, z5, z6, z7⟩ := (PB.of_block (o := fun _ => 0) HK6.out).fro
      go_wp2
      go_meet
      have hF := fill8 f Zs.out (by have := hsw; omega) (PB.of_block (o := fun _ => 0) HK6.out) _ rfl
      have hbl : W.heap.size < ws.heap.size := lt_of_block HK6.out
      exact ⟨_, rfl, by have := hsw; omega, by simpa using hbl, Lib.hid hF.1, Lib.hid hF.2⟩
  case rest =>
    obtain ⟨h5, rfl, hk5, hx5, HP5, HZ1⟩ := hcut
    clear HSpl hsw
    have hsw := HZ1.out.sz
    have HF0 : Hid (f 0 = h0 % 4 ∧ f 1 = h0 / 4 % 256 ∧ f 2 = h0 / 1024 % 32 ∧ f 3 = h0 / 32768 % 64 ∧ f 4 = h0 / 2097152 % 16 ∧ f 5 = h0 / 33554432 % 256) := Lib.hid (by rw [HF.out]; simp [sp, S, hb])
    obtain ⟨a0, a1, a2, a3, a4, a5, a6, a7⟩ := HP5.out.all
    have hfb : 0 ≤ f 0 ∧ f 0 ≤ 3 ∧ 0 ≤ f 1 ∧ f 1 ≤ 255 ∧ 0 ≤ f 2 ∧ f 2 ≤ 31 ∧ 0 ≤ f 3 ∧ f 3 ≤ 63 ∧ 0 ≤ f 4 ∧ f 4 ≤ 15 ∧ 0 ≤ f 5 ∧ f 5 ≤ 255 := by
      obtain ⟨e0, e1, e2, e3, e4, e5⟩ := HF0.out
      rw [e0, e1, e2, e3, e4, e5]
      omega
    obtain ⟨b0, b0', b1, b1', b2, b2', b3, b3', b4, b4', b5, b5'⟩ := hfb
    go_upto_region 5 with fail
    obtain ⟨X, hX⟩ : ∃ X, X = wc.alloc (.cells #[.int .i64 (f 0), .int .i64 (f 1 + -1), .string ⟨#[]⟩, .string ⟨#[]⟩, .slice none 0 0, .int .u64 0, .int .i64 0] 27) := ⟨_, rfl⟩
    obtain ⟨h6, hh6⟩ : ∃ h, h = wc.heap.size := ⟨_, rfl⟩
    have HT5 : Hid (RT w X h5 h6 f #[.int .i64 (f 0), .int .i64 (f 1 + -1), .string ⟨#[]⟩, .string ⟨#[]⟩, .slice none 0 0, .int .u64 0, .int .i64 0] (l.drop 1)) := Lib.hid (by
      have hb : Below wc.heap.size wc X := by subst hX; exact (Below.refl _ _).alloc (Nat.le_refl _) _
      exact ⟨HZ1.out.later hb, HP5.out.below hb hx5, by subst hX; subst hh6; exact heap_new _ _, hk5, by omega⟩)
    rw [← hX, ← hh6]
    have hs6 := HT5.out.sz
    clear hX hh6 hx5 HP5 HZ1 hsw a0 a1 a2 a3 a4 a5 a6 a7
    obtain ⟨rt, hrt⟩ : ∃ x, x = (l.drop 1).getD 0 0 := ⟨_, rfl⟩
    have HRt := Lib.hid hrt
    have HRb : Hid (0 ≤ rt ∧ rt ≤ 18446744073709551615) := Lib.hid (by rw [hrt]; exact u64_getD (HU.out.drop 1) 0)
    clear hrt
    have hHS : ∀ (Y : World) (cs : Array Value) (lr : List Int), RT w Y h5 h6 f cs lr → Y.cell? ⟨w.heap.size + 1 + 1, 0, none⟩ = some (.func (.func 32) #[] #[.pointer (some ⟨w.heap.size, 0, none⟩)]) ∧ Y.cell? ⟨h5, 5, none⟩ = some (.int .i64 (f 5)) := fun Y cs lr h => ⟨block_cell h.s.nx rfl, (h.p 5 (by omega)).1⟩
    have HHS := Lib.hid hHS
    clear hHS
    refine wp_region_peel_at 8 rfl rfl (fun Y : World => Y.cell? ⟨w.heap.size + 1 + 1, 0, none⟩ = some (.func (.func 32) #[] #[.pointer (some ⟨w.heap.size, 0, none⟩)]) ∧ Y.cell? ⟨h5, 5, none⟩ = some (.int .i64 (f 5))) (by kernel_rfl) (by kernel_rfl) (HHS.out _ _ _ (HT5.out.later (Below.refl _ X).drew)) (fun hHeld => ?_)
    simp only [List.take_succ_cons, List.take_zero]
    refine held_take (i := 0) (d := some 24) (v := ?_) rfl rfl (by kernel_rfl) (by kernel_rfl) (by kernel_rfl) (fun _ _ _ h => h) (by rfl) ?_ (by assumption) ?_
    rotate_left
    · intro w hSw
      try dsimp only at hSw
      first | (go_simp; done) | (go_simp; with_reducible rfl)
    simp only [Act.put, List.setIfInBounds_toArray, List.set_cons_zero, List.set_cons_succ]
    refine held_take (i := 4) (d := some 28) (v := ?_) rfl rfl (by kernel_rfl) (by kernel_rfl) (by kernel_rfl) (fun _ _ _ h => h) (by rfl) ?_ (by assumption) ?_
    rotate_left
    · intro w hSw
      try dsimp only at hSw
      first | (go_simp; done) | (go_simp; with_reducible rfl)
    simp only [Act.put, List.setIfInBounds_toArray, List.set_cons_zero, List.set_cons_succ]
    refine held_take (i := 5) (d := some 29) (v := ?_) rfl rfl (by kernel_rfl) (by kernel_rfl) (by kernel_rfl) (fun _ _ _ h => h) (by rfl) ?_ (by assumption) ?_
    rotate_left
    · intro w hSw
      try dsimp only at hSw
      first | (go_simp; done) | (go_simp; with_reducible rfl)
    simp only [Act.put, List.setIfInBounds_toArray, List.set_cons_zero, List.set_cons_succ]
    refine wpAnyH_ready (rs := [1]) (by kernel_rfl) (by simp) ?_
    refine AllReadyH.cons rfl (fun K hK => ?_) AllReadyH.nil
    go_simp
    refine (next_lb w.heap.size 1 (l.drop 1) _ ((HT5.out.later (Below.refl _ X).drew).s.lb) (by omega) (by have := HT5.out.l5; have := HT5.out.l56; show w.heap.size < X.heap.size; omega)).mono ?_
    rintro e wn ⟨v, rfl, ho, hlb, hbut⟩
    obtain ⟨g, cn, rfl⟩ := ownsRow_succ ho
    have HTn : Hid (RT w wn h5 h6 f #[.int .i64 (f 0), .int .i64 (f 1 + -1), .string ⟨#[]⟩, .string ⟨#[]⟩, .slice none 0 0, .int .u64 0, .int .i64 0] ((l.drop 1).drop 1)) := Lib.hid ((HT5.out.later (Below.refl _ X).drew).but hbut hlb)
    have hcn : wn.cell? ⟨g, 0, none⟩ = some (.int .u64 rt) := by rw [HRt.out]; exact pad_one ho
    have hgn : g < wn.heap.size := (ho.lt g rfl).2
    clear ho hlb hbut
    refine hK.out _ _ (HHS.out _ _ _ HTn.out) (fun hHeld2 => ?_)
    clear hK K hHeld
    have hHeld := hHeld2
    clear hHeld2
    try simp only [Act.put, List.setIfInBounds_toArray, List.set_cons_zero, List.set_cons_succ]
    refine held_take (i := 2) (d := some 26) (v := ?_) rfl rfl (by kernel_rfl) (by kernel_rfl) (by kernel_rfl) (fun _ _ _ h => h) (by rfl) ?_ (by assumption) ?_
    rotate_left
    · intro w hSw
      try dsimp only at hSw
      first | (go_simp; done) | (go_simp; with_reducible rfl)
    simp only [Act.put, List.setIfInBounds_toArray, List.set_cons_zero, List.set_cons_succ]
    refine wpAnyH_ready (rs := [3]) (by kernel_rfl) (by simp) ?_
    refine AllReadyH.cons rfl (fun K hK => ?_) AllReadyH.nil
    go_simp
    refine hK.out _ _ (HHS.out _ _ _ HTn.out) (fun hHeld2 => ?_)
    clear hK K hHeld
    have hHeld := hHeld2
    clear hHeld2
    try simp only [Act.put, List.setIfInBounds_toArray, List.set_cons_zero, List.set_cons_succ]
    refine held_take (i := 6) (d := some 30) (v := ?_) rfl rfl (by kernel_rfl) (by kernel_rfl) (by kernel_rfl) (fun _ _ _ h => h) (by rfl) ?_ (by assumption) ?_
    rotate_left
    · intro w hSw
      try dsimp only at hSw
      first | (go_simp; done) | (go_simp; with_reducible rfl)
    simp only [Act.put, List.setIfInBounds_toArray, List.set_cons_zero, List.set_cons_succ]
    refine held_take (i := 7) (d := some 31) (v := ?_) rfl rfl (by kernel_rfl) (by kernel_rfl) (by kernel_rfl) (fun _ _ _ h => h) (by rfl) ?_ (by assumption) ?_
    rotate_left
    · intro w hSw
      try dsimp only at hSw
      first | (go_simp; done) | (go_simp; with_reducible rfl)
    simp only [Act.put, List.setIfInBounds_toArray, List.set_cons_zero, List.set_cons_succ]
    refine wpAnyH_done (by kernel_rfl) ?_ _
    clear hHeld
    show wpList _ _ _ [_] _ _
    obtain ⟨x0, x1, x2, x3, x4, x5, x6⟩ := block7 HTn.out.r
    have z5 := block_frozen HTn.out.r 5
    have z6 := block_frozen HTn.out.r 6
    go_upto_region 6 with fail
    obtain ⟨Y, hY⟩ : ∃ Y, Y = (wn.setCell ⟨h6, 5, none⟩ (.int .u64 rt)).setCell ⟨h6, 6, none⟩ (.int .i64 (f 5)) := ⟨_, rfl⟩
    have HT7 : Hid (RT w Y h5 h6 f #[.int .i64 (f 0), .int .i64 (f 1 + -1), .string ⟨#[]⟩, .string ⟨#[]⟩, .slice none 0 0, .int .u64 rt, .int .i64 (f 5)] (l.drop 2)) := Lib.hid (by
      have h := HTn.out
      rw [List.drop_drop] at h
      subst hY
      have h1 := RT.set h 5 (.int .u64 rt) (set_block h.r 5 _)
      exact RT.set h1 6 (.int .i64 (f 5)) (set_block h1.r 6 _))
    rw [← hY]
    clear hY x0 x1 x2 x3 x4 x5 x6 z5 z6 hcn hgn hs6
    obtain ⟨p4, hp4⟩ : ∃ q : Nat, f 4 = q := ⟨(f 4).toNat, by omega⟩
    obtain ⟨n2, hn2⟩ : ∃ q : Nat, f 2 = q := ⟨(f 2).toNat, by omega⟩
    obtain ⟨n3, hn3⟩ : ∃ q : Nat, f 3 = q := ⟨(f 3).toNat, by omega⟩
    have hp15 : p4 ≤ 15 := by omega
    have hn231 : n2 ≤ 31 := by omega
    have hn363 : n3 ≤ 63 := by omega
    have HP4 := Lib.hid hp4
    have HN2 := Lib.hid hn2
    have HN3 := Lib.hid hn3
    have hUl : U64 (l.drop 2) := HU.out.drop 2
    obtain ⟨l2, hl2⟩ : ∃ x, x = l.drop 2 := ⟨_, rfl⟩
    have HL2 := Lib.hid hl2
    rw [← hl2] at HT7 hUl
    have HUl := Lib.hid hUl
    have a4 := (HT7.out.p 4 (by omega)).1
    rw [hp4] at a4
    clear hl2 hUl hp4 hn2 hn3 HTn
    have HX7 : ∀ (Z : World) (cs : Array Value) (lr : List Int), RT w Z h5 h6 f cs lr → Z.cell? ⟨w.heap.size + 1 + 1, 0, none⟩ = some (.func (.func 32) #[] #[.pointer (some ⟨w.heap.size, 0, none⟩)]) := fun Z cs lr h => block_cell h.s.nx rfl
    have HX7 := Lib.hid HX7
    have HBT : Hid (∀ (Z : World) (cs : Array Value) (lr : List Int), RT w Z h5 h6 f cs lr → ∀ Z', Below w.heap.size Z Z' → BT Z') := Lib.hid (fun Z cs lr h Z' hb => HT.out.below (h.s.be.trans hb))
    go_upto_if 34 with fail
    go_cut [7] from 34 to 37 (fun v Z => ∃ (q : Option Addr) (m d : Nat), v = .slice q m d ∧ m = (lg l2 p4).length ∧ m ≤ d ∧ Hid (LV Z q (ivs (lg l2 p4))) ∧ (∀ a, q = some a → (∃ g, a = ⟨g, 0, none⟩) ∧ h6 < a.block ∧ a.block < Z.heap.size) ∧ Hid (RT w Z h5 h6 f #[.int .i64 (f 0), .int .i64 (f 1 + -1), .string ⟨#[]⟩, .string ⟨#[]⟩, .slice none 0 0, .int .u64 rt, .int .i64 (f 5)] (l3 l2 p4)))
    case first =>
      by_cases h0p : 0 < p4
      · have y0 := HX7.out _ _ _ HT7.out
        have hsy := HT7.out.s.sz
        go_wp2_with fail
        refine (next_lb w.heap.size 2 l2 _ HT7.out.s.lb (by omega) (by omega)).mono ?_
        rintro e wm ⟨v, rfl, ho, hlb, hbut⟩
        obtain ⟨q, d, rfl, hd1, -, -⟩ := own_form ho
        have HTm := Lib.hid (HT7.out.but hbut hlb)
        have HLb := Lib.hid (lback_any q 2 d (pad 2 l2) wm (LV.of_own ho) (pad_length 2 l2) (by omega) (pad_bound HUl.out 2) (HBT.out _ _ _ HT7.out _ hbut.below))
        clear ho hlb hbut y0
        go_wp2_with fail
        refine HLb.out.mono ?_
        rintro e wk ⟨v, rfl, ho, hb⟩
        obtain ⟨q2, d2, rfl, hd2, -, -⟩ := own_form ho
        have HTk := Lib.hid (HTm.out.later hb)
        have HLV := Lib.hid (LV.of_own ho)
        have HQ2 : Hid (∀ a, q2 = some a → (∃ g, a = ⟨g, 0, none⟩) ∧ h6 < a.block ∧ a.block < wk.heap.size) := Lib.hid (fun a e => by
          rcases ho.2 with ⟨e1, -⟩ | ⟨g, cap, cur, e1, e2, e3, -⟩
          · injection e1 with e2; rw [e2] at e; cases e
          · injection e1 with e4; rw [e4] at e; cases e; exact ⟨⟨g, rfl⟩, by have := HTm.out.sz; show h6 < g; omega, lt_of_block e3⟩)
        have HLL : Hid ((lv (pad 2 l2) (8 * 2)).length = 16 ∧ lg l2 p4 = lv (pad 2 l2) 16 ∧ l3 l2 p4 = l2.drop 2) := Lib.hid ⟨lv_length _ _, by unfold lg; rw [if_pos h0p], by unfold l3; rw [if_pos h0p]⟩
        clear ho hb
        go_wp2
        go_meet
        refine ⟨q2, (lv (pad 2 l2) 16).length, d2, rfl, ?_, hd2, ?_, HQ2.out, ?_⟩
        · rw [HLL.out.2.1]
        · rw [HLL.out.2.1]; exact HLV
        · rw [HLL.out.2.2]; exact HTk
      · have HLL : Hid (lg l2 p4 = [] ∧ l3 l2 p4 = l2) := Lib.hid ⟨by unfold lg; rw [if_neg h0p], by unfold l3; rw [if_neg h0p]⟩
        go_wp2
        go_meet
        refine ⟨none, 0, 0, rfl, ?_, Nat.le_refl _, ?_, (fun a e => by cases e), ?_⟩
        · rw [HLL.out.1]; rfl
        · rw [HLL.out.1]; exact Lib.hid (LV.nil _ _)
        · rw [HLL.out.2]; exact HT7
    case rest =>
      obtain ⟨q, m, d, rfl, hm, hmd, HLV, HQ, HT8⟩ := hcut
      clear a4
      have HM := Lib.hid hm
      have HQQ := Lib.hid HQ
      have hm16 : m = 0 ∨ m = 16 := by rw [hm]; unfold lg; split; exact .inr (lv_length _ _); exact .inl rfl
      have HUl3 : Hid (U64 (l3 l2 p4)) := Lib.hid (by unfold l3; split; exact HUl.out.drop 2; exact HUl.out)
      have HLG : Hid (∀ x ∈ lg l2 p4, 0 ≤ x ∧ x < 64) := Lib.hid (by
        unfold lg; split
        · intro x hx
          simp only [lv, List.mem_map] at hx
          obtain ⟨i, -, rfl⟩ := hx
          exact ⟨Int.emod_nonneg _ (by decide), Int.emod_lt_of_pos _ (by decide)⟩
        · intro x hx; simp at hx)
      obtain ⟨G, hG⟩ : ∃ G, G = lg l2 p4 := ⟨_, rfl⟩
      obtain ⟨l4, hl4⟩ : ∃ G, G = l3 l2 p4 := ⟨_, rfl⟩
      rw [← hG] at HM HLV HLG
      rw [← hl4] at HT8 HUl3
      have HG := Lib.hid hG
      have HL4 := Lib.hid hl4
      clear hG hl4 hm HQ
      have a2 := (HT8.out.p 2 (by omega)).1
      rw [HN2.out] at a2
      have hs8 := HT8.out.s.sz
      have HTx := Lib.hid (tnext_any w.heap.size (w.heap.size + 1 + 1) n2 l4 _ HT8.out.s.lb (by omega) (by omega) HUl3.out (HBT.out _ _ _ HT8.out) (HX7.out _ _ _ HT8.out))
      go_wp2_with fail
      refine HTx.out.mono ?_
      rintro e v1 ⟨rfl, hlb, hbut⟩
      have HV1 := Lib.hid (HT8.out.but hbut hlb)
      have HW1 := Lib.hid hbut
      clear hlb hbut a2
      obtain ⟨x0, x1, x2, x3, x4, x5, x6⟩ := block7 HV1.out.r
      have z2 := block_frozen HV1.out.r 2
      go_upto_region 10 with fail
      obtain ⟨Y9, hY9⟩ : ∃ Y, Y = v1.setCell ⟨h6, 2, none⟩ (.string (str ((txt (pad (nw n2) l4) n2).getD []))) := ⟨_, rfl⟩
      have HT9 : Hid (RT w Y9 h5 h6 f #[.int .i64 (f 0), .int .i64 (f 1 + -1), .string (str (tx l4 n2)), .string ⟨#[]⟩, .slice none 0 0, .int .u64 rt, .int .i64 (f 5)] (l4.drop (nw n2))) := Lib.hid (by
        subst hY9; exact RT.set HV1.out 2 _ (set_block HV1.out.r 2 _))
      have HLV9 : Hid (LV Y9 q (ivs G)) := Lib.hid (by
        subst hY9
        exact (HLV.out.but HW1.out (fun g off e => by have : h6 < g := (HQQ.out _ e).2.1; have := HT8.out.l5; have := HT8.out.l56; omega)).setO (fun a e => by have := (HQQ.out a e).2.1; omega))
      have HZ9 : Hid (wc.heap.size ≤ Y9.heap.size) := Lib.hid (by subst hY9; have := HW1.out.below.size; simp; omega)
      rw [← hY9]
      clear hY9 x0 x1 x2 x3 x4 x5 x6 z2 HV1 HW1 HT8 HLV hs8
      have a3 := (HT9.out.p 3 (by omega)).1
      rw [HN3.out] at a3
      have hs9 := HT9.out.s.sz
      obtain ⟨l5, hl5⟩ : ∃ x, x = l4.drop (nw n2) := ⟨_, rfl⟩
      rw [← hl5] at HT9
      have HL5 := Lib.hid hl5
      have HUl5 : Hid (U64 l5) := Lib.hid (by rw [hl5]; exact HUl3.out.drop _)
      clear hl5
      have HTx := Lib.hid (tnext_any w.heap.size (w.heap.size + 1 + 1) n3 l5 _ HT9.out.s.lb (by omega) (by omega) HUl5.out (HBT.out _ _ _ HT9.out) (HX7.out _ _ _ HT9.out))
      go_wp2_with fail
      refine HTx.out.mono ?_
      rintro e v1 ⟨rfl, hlb, hbut⟩
      have HV1 := Lib.hid (HT9.out.but hbut hlb)
      have HW1 := Lib.hid hbut
      clear hlb hbut a3
      obtain ⟨x0, x1, x2, x3, x4, x5, x6⟩ := block7 HV1.out.r
      have z3 := block_frozen HV1.out.r 3
      go_upto_region 11 with fail
      obtain ⟨Z, hZ⟩ : ∃ Y, Y = v1.setCell ⟨h6, 3, none⟩ (.string (str ((txt (pad (nw n3) l5) n3).getD []))) := ⟨_, rfl⟩
      have HTZ : Hid (RT w Z h5 h6 f #[.int .i64 (f 0), .int .i64 (f 1 + -1), .string (str (tx l4 n2)), .string (str (tx l5 n3)), .slice none 0 0, .int .u64 rt, .int .i64 (f 5)] (l5.drop (nw n3))) := Lib.hid (by
        subst hZ; exact RT.set HV1.out 3 _ (set_block HV1.out.r 3 _))
      have HLVZ : Hid (LV Z q (ivs G)) := Lib.hid (by
        subst hZ
        exact (HLV9.out.but HW1.out (fun g off e => by have : h6 < g := (HQQ.out _ e).2.1; have := HT9.out.l5; have := HT9.out.l56; omega)).setO (fun a e => by have := (HQQ.out a e).2.1; omega))
      have HQZ : Hid (∀ a, q = some a → a.block < Z.heap.size) := Lib.hid (fun a e => by
        have h1 := (HQQ.out a e).2.2
        subst hZ
        have h2 := HW1.out.below.size
        have h3 := HZ9.out
        simp
        omega)
      rw [← hZ]
      clear hZ x0 x1 x2 x3 x4 x5 x6 z3 HV1 HW1 HT9 HLV9 hs9
      have a4 := (HTZ.out.p 4 (by omega)).1
      rw [HP4.out] at a4
      obtain ⟨l6, hl6⟩ : ∃ x, x = l5.drop (nw n3) := ⟨_, rfl⟩
      rw [← hl6] at HTZ
      have HUl6 : Hid (U64 l6) := Lib.hid (by rw [hl6]; exact HUl5.out.drop _)
      have HFacts : Hid (∀ r, MayR r → pk r = l → 2 * p4 = r.attrs.length ∧ tx l4 n2 = r.name ∧ tx l5 n3 = r.text ∧ l6 = r.attrs.flatMap wds ∧ (∀ j, j < r.attrs.length → j < G.length ∧ G.getD j 0 = ((r.attrs.getD j []).length : Int)) ∧ f 0 = r.kind ∧ f 1 + -1 = r.par ∧ rt = r.root ∧ f 5 = r.size) := Lib.hid (fun r hr e => by
        obtain ⟨g0, g1, g2, g3, g4, g5⟩ := HF0.out
        have h1 := HH0.out
        have h2 := rd_facts (p4 := p4) (n2 := n2) (n3 := n3) hr e (by rw [← h1, ← g4]; exact HP4.out) (by rw [← h1, ← g2]; exact HN2.out) (by rw [← h1, ← g3]; exact HN3.out)
        rw [← HL2.out, ← HL4.out, ← HG.out, ← HL5.out, ← hl6] at h2
        obtain ⟨q1, q2, q3, q4, q5⟩ := h2
        have hh : h0 = headR r := by rw [h1, ← e, pk_head]
        obtain ⟨p1, p2, p3, p4', p5, p6⟩ := headR_parts hr
        rw [← hh] at p1 p2 p6
        refine ⟨q1, q2, q3, q4, q5, by omega, by omega, ?_, by omega⟩
        rw [HRt.out, ← e, pk_root])
      clear hl6
      have hNm := tx_length l4 n2
      have hTxl := tx_length l5 n3
      generalize tx l4 n2 = NM at *
      generalize tx l5 n3 = TX at *
      obtain ⟨t2, ht2⟩ : ∃ t : Nat, 2 * p4 = t := ⟨_, rfl⟩
      have hr2 : 2 * (p4 : Int) = (t2 : Int) := by omega
      have ht30 : t2 ≤ 30 := by omega
      have HT2 := Lib.hid ht2
      clear ht2
      have HGl : Hid (G.length = m) := Lib.hid HM.out.symm
      have hQ0 : ∀ a, q = some a → ∃ g, a = ⟨g, 0, none⟩ := fun a e => (HQQ.out a e).1
      have hsl1 := fun (M2 : Nat) (h : M2 ≤ d) (W : World) => slice_hiI q m d M2 h hQ0 W
      have HSL := Lib.hid hsl1
      clear hsl1 hQ0
      have hcase : ∃ M2 : Nat, M2 ≤ m ∧ (t2 ≤ m → M2 = t2) ∧ M2 ≤ 16 ∧ M2 ≤ t2 ∧ (t2 < m ∧ M2 = t2 ∨ m < t2 ∧ M2 = m ∨ t2 = m ∧ M2 = m) := by
        by_cases h : t2 < m
        · exact ⟨t2, by omega, fun _ => rfl, by omega, Nat.le_refl _, .inl ⟨h, rfl⟩⟩
        · exact ⟨m, Nat.le_refl _, fun _ => by omega, by omega, by omega, .inr (by by_cases h2 : m < t2; exact .inl ⟨h2, rfl⟩; exact .inr ⟨by omega, rfl⟩)⟩
      obtain ⟨M2, hMm, hMt, hM16, hMt2, hMc⟩ := hcase
      have hsl2 : ∀ W, Sem.run Tryd.prog (Instr.slice 55 (.slice q m d) none (some (.int .i64 (M2 : Int))) none) W = .ok (.slice q M2 d) W := HSL.out M2 (by omega)
      have HMT := Lib.hid hMt
      clear hMt
      have hsZ := HTZ.out.s.sz
      have hsZ6 := HTZ.out.sz
      go_cut [55, 56, 57] from 48 to 54 (fun v55 v56 v57 Zc => v55 = .slice q M2 d ∧ v56 = .int .i64 (M2 : Nat) ∧ v57 = .int .i64 0 ∧ Z = Zc)
      case first =>
        rcases hMc with ⟨hc, rfl⟩ | ⟨hc, rfl⟩ | ⟨rfl, rfl⟩
        all_goals
          go_wp2
          all_goals
            go_meet
            exact ⟨rfl, rfl, rfl, rfl⟩
      case rest =>
        obtain ⟨rfl, rfl, rfl, rfl⟩ := hcut
        clear hsl2 hMc a4 hr2
        go_wp2_with fail
        go_loopw [57] (fun i wr => ∃ (k : Nat) (acc : List Wd) (pa : Option Addr) (ca : Nat) (lr : List Int), k ≤ M2 ∧ i = .int .i64 k ∧ Hid (acc.length = k) ∧ Hid (RT w wr h5 h6 f #[.int .i64 (f 0), .int .i64 (f 1 + -1), .string (str NM), .string (str TX), .slice pa k ca, .int .u64 rt, .int .i64 (f 5)] lr) ∧ Hid (wr.ownsRow Z.heap.size 9 1 (.slice pa k ca) k (svs acc)) ∧ Hid (LV wr q (ivs G)) ∧ Hid (U64 lr) ∧ Hid (∀ a ∈ acc, a.length ≤ 63) ∧ Z.heap.size ≤ wr.heap.size ∧ Hid (∀ r, MayR r → pk r = l → acc = r.attrs.take k ∧ lr = (r.attrs.drop k).flatMap wds)) (fun i _ => M2 - (intOf i).toNat)
        case atStart => exact ⟨0, [], none, 0, l6, Nat.zero_le _, rfl, Lib.hid rfl, HTZ, Lib.hid (World.ownsRow_nil _ _ _ _), HLVZ, HUl6, Lib.hid (by simp), Nat.le_refl _, Lib.hid (fun r hr e => ⟨by simp, by rw [List.drop_zero]; exact (HFacts.out r hr e).2.2.2.1⟩)⟩
        case round =>
          obtain ⟨k, acc, pa, ca, lr, hk, rfl, HAl, HTr, HO, HLr, HUr, H63, hZr, HRel⟩ := hrel
          have hsr := HTr.out.s.sz
          by_cases hlt : k < M2
          · have hkG : k < G.length := by rw [HGl.out]; omega
            obtain ⟨g, o, rfl, hg, hc2⟩ := iat HLr.out hkG
            obtain ⟨c0, c1⟩ := HLG.out G[k] (List.getElem_mem hkG)
            have HGk : Hid (G.getD k 0 = G[k]) := Lib.hid (by rw [List.getD, List.getElem?_eq_getElem hkG]; rfl)
            generalize G[k] = gk at *
            obtain ⟨nk, hnk⟩ := Int.eq_ofNat_of_zero_le c0
            subst hnk
            have hnk64 : nk ≤ 63 := by omega
            have HTd := Lib.hid (HTr.out.later (Below.refl _ wr).drew)
            have HSS : Hid (∀ (Y : World) (cs : Array Value) (lr : List Int), RT w Y h5 h6 f #[.int .i64 (f 0), .int .i64 (f 1 + -1), .string (str NM), .string (str TX), .slice pa k ca, .int .u64 rt, .int .i64 (f 5)] lr → Y.cell? ⟨h6, 4, none⟩ = some (.slice pa k ca)) := Lib.hid (fun Y cs lr h => block_cell h.r rfl)
            have hkx : w.heap.size < Z.heap.size := by omega
            go_wp2_with fail
            refine wp_region_peel_at 8 rfl rfl (fun Y : World => Y.cell? ⟨h6, 4, none⟩ = some (.slice pa k ca)) (by kernel_rfl) (by kernel_rfl) (HSS.out _ #[] _ HTd.out) (fun hHeld => ?_)
            simp only [List.take_succ_cons, List.take_zero]
            refine held_take (i := 0) (d := some 61) (v := ?_) rfl rfl (by kernel_rfl) (by kernel_rfl) (by kernel_rfl) (fun _ _ _ h => h) (by rfl) ?_ (by assumption) ?_
            rotate_left
            · intro w hSw
              try dsimp only at hSw
              first | (go_simp; done) | (go_simp; with_reducible rfl)
            simp only [Act.put, List.setIfInBounds_toArray, List.set_cons_zero, List.set_cons_succ]
            refine held_take (i := 1) (d := some 62) (v := ?_) rfl rfl (by kernel_rfl) (by kernel_rfl) (by kernel_rfl) (fun _ _ _ h => h) (by rfl) ?_ (by assumption) ?_
            rotate_left
            · intro w hSw
              try dsimp only at hSw
              first | (go_simp; done) | (go_simp; with_reducible rfl)
            simp only [Act.put, List.setIfInBounds_toArray, List.set_cons_zero, List.set_cons_succ]
            refine held_take (i := 2) (d := some 63) (v := ?_) rfl rfl (by kernel_rfl) (by kernel_rfl) (by kernel_rfl) (fun _ _ _ h => h) (by rfl) ?_ (by assumption) ?_
            rotate_left
            · intro w hSw
              try dsimp only at hSw
              first | (go_simp; done) | (go_simp; with_reducible rfl)
            simp only [Act.put, List.setIfInBounds_toArray, List.set_cons_zero, List.set_cons_succ]
            refine held_take (i := 3) (d := some 64) (v := ?_) rfl rfl (by kernel_rfl) (by kernel_rfl) (by kernel_rfl) (fun _ _ _ h => h) (by rfl) ?_ (by assumption) ?_
            rotate_left
            · intro w hSw
              try dsimp only at hSw
              first | (go_simp; done) | (go_simp; with_reducible rfl)
            simp only [Act.put, List.setIfInBounds_toArray, List.set_cons_zero, List.set_cons_succ]
            refine wpAnyH_ready (rs := [4]) (by kernel_rfl) (by simp) ?_
            refine AllReadyH.cons rfl (fun K hK => ?_) AllReadyH.nil
            go_simp
            refine (tnext_any w.heap.size (w.heap.size + 1 + 1) nk lr _ HTd.out.s.lb (by omega) (by show w.heap.size < wr.heap.size; omega) HUr.out (HBT.out _ _ _ HTd.out) (HX7.out _ _ _ HTd.out)).mono ?_
            rintro e wt ⟨rfl, hlb, hbut⟩
            have HTt := Lib.hid (HTd.out.but hbut hlb)
            have HOt := Lib.hid (own_but (HO.out.drew) hbut hkx)
            have HLt := Lib.hid ((HLr.out.below (Below.refl _ wr).drew).but hbut (fun g' off e => by have : h6 < g' := (HQQ.out _ e).2.1; have := HTr.out.l5; have := HTr.out.l56; omega))
            have hst : wr.heap.size ≤ wt.heap.size := hbut.below.size
            obtain ⟨xt, hxt⟩ : ∃ x, x = tx lr nk := ⟨_, rfl⟩
            have HXt : Hid (xt = tx lr nk ∧ xt.length ≤ nk) := Lib.hid ⟨hxt, by rw [hxt]; exact tx_length _ _⟩
            have hxe : (txt (pad (nw nk) lr) nk).getD [] = xt := hxt.symm
            rw [hxe]
            clear hlb hbut hxt hxe
            refine hK.out _ _ (HSS.out _ #[] _ HTt.out) (fun hHeld2 => ?_)
            clear hK K hHeld
            have hHeld := hHeld2
            clear hHeld2
            try simp only [Act.put, List.setIfInBounds_toArray, List.set_cons_zero, List.set_cons_succ]
            refine wpAnyH_ready (rs := [5]) (by kernel_rfl) (by simp) ?_
            refine AllReadyH.cons rfl (fun K hK => ?_) AllReadyH.nil
            go_simp
            have HTa : Hid (RT w (wt.alloc (.cells #[.string (str xt)] 9)) h5 h6 f #[.int .i64 (f 0), .int .i64 (f 1 + -1), .string (str NM), .string (str TX), .slice pa k ca, .int .u64 rt, .int .i64 (f 5)] (lr.drop (nw nk))) := Lib.hid (HTt.out.later ((Below.refl _ _).alloc (Nat.le_refl _) _))
            refine hK.out _ _ (HSS.out _ #[] _ HTa.out) (fun hHeld2 => ?_)
            clear hK K hHeld
            have hHeld := hHeld2
            clear hHeld2
            try simp only [Act.put, List.setIfInBounds_toArray, List.set_cons_zero, List.set_cons_succ]
            refine wpAnyH_ready (rs := [6]) (by kernel_rfl) (by simp) ?_
            refine AllReadyH.cons rfl (fun K hK => ?_) AllReadyH.nil
            refine step_own rfl (.tmp 62) (.tmp 66) 22 rfl Z.heap.size 9 iS (.string ⟨#[]⟩) 1 16 Tryd.underlying22 HIS.out.1 HIS.out.2.1 HIS.out.2.2.1 HIS.out.2.2.2 rfl (by decide) _ k (svs acc) rfl (HOt.out.alloc _) ⟨wt.heap.size, 0, none⟩ 1 1 [.string (str xt)] rfl rfl (cell_one_new _ _ _) (by simp [Value.oneCell']) (by unfold maxLen; omega) (by omega) (by simp; omega) ?_
            intro v' ww hown' hgrow _
            obtain ⟨gw, capw, rfl⟩ := ownsRow_succ hown'
            have HTw : Hid (RT w ww h5 h6 f #[.int .i64 (f 0), .int .i64 (f 1 + -1), .string (str NM), .string (str TX), .slice pa k ca, .int .u64 rt, .int .i64 (f 5)] (lr.drop (nw nk))) := Lib.hid (HTa.out.grown hgrow (fun r e => by have := (HOt.out.lt r e).1; omega))
            have HLw : Hid (LV ww (some ⟨g, o, none⟩) (ivs G)) := Lib.hid ((HLt.out.below ((Below.refl _ _).alloc (Nat.le_refl _) _)).grown hgrow (fun a e e2 => by have h1 := (HOt.out.lt _ e2.symm).1; have h2 := HQZ.out a e; omega))
            have HOw : Hid (ww.ownsRow Z.heap.size 9 1 (.slice (some ⟨gw, 0, none⟩) (k + 1) capw) (k + 1) (svs (acc ++ [xt]))) := Lib.hid (by rw [svs_append]; exact hown')
            have hsw2 : wt.heap.size ≤ ww.heap.size := by have := hgrow.size; simp at this; omega
            clear hown' hgrow
            refine hK.out _ _ (HSS.out _ #[] _ HTw.out) (fun hHeld2 => ?_)
            clear hK K hHeld
            have hHeld := hHeld2
            clear hHeld2
            try simp only [Act.put, List.setIfInBounds_toArray, List.set_cons_zero, List.set_cons_succ]
            refine held_take (i := 7) (d := some 68) (v := ?_) rfl rfl (by kernel_rfl) (by kernel_rfl) (by kernel_rfl) (fun _ _ _ h => h) (by rfl) ?_ (by assumption) ?_
            rotate_left
            · intro w hSw
              try dsimp only at hSw
              first | (go_simp; done) | (go_simp; with_reducible rfl)
            simp only [Act.put, List.setIfInBounds_toArray, List.set_cons_zero, List.set_cons_succ]
            refine wpAnyH_done (by kernel_rfl) ?_ _
            clear hHeld
            show wpList _ _ _ [_] _ _
            obtain ⟨x0, x1, x2, x3, x4, x5, x6⟩ := block7 HTw.out.r
            have z4 := block_frozen HTw.out.r 4
            have hbB := HTw.out.s.sz
            go_wp2
            go_roundw
            case rel =>
              refine ⟨k + 1, acc ++ [xt], _, capw, lr.drop (nw nk), by omega, by go_num, Lib.hid (by rw [List.length_append, HAl.out]; rfl), Lib.hid (RT.set HTw.out 4 _ (set_block HTw.out.r 4 _)), Lib.hid ?_, Lib.hid (HLw.out.setO (fun a e => by have := (HQQ.out a e).2.1; omega)), Lib.hid (HUr.out.drop _), Lib.hid ?_, by simp; omega, Lib.hid ?_⟩
              · exact ownsRow_setCell_other HOw.out (a := ⟨h6, 4, none⟩) (fun e => by have h : Z.heap.size ≤ h6 := (HOw.out.lt _ e).1; omega) _
              · intro x hx
                rcases List.mem_append.1 hx with hx | hx
                · exact H63.out x hx
                · rw [List.mem_singleton] at hx; rw [hx]; have := HXt.out.2; omega
              · intro r hr e
                obtain ⟨h1, h2⟩ := HRel.out r hr e
                obtain ⟨-, -, -, -, h3, -⟩ := HFacts.out r hr e
                have hkr : k < r.attrs.length := by
                  have := (HFacts.out r hr e).1
                  have h4 := HT2.out
                  omega
                have h5 := (h3 k hkr).2
                rw [HGk.out] at h5
                have h6' : nk = r.attrs[k].length := by
                  rw [List.getD, List.getElem?_eq_getElem hkr] at h5
                  simp at h5
                  omega
                rw [flat_drop hkr] at h2
                obtain ⟨t1, t3⟩ := tx_step r.attrs[k] ((r.attrs.drop (k + 1)).flatMap wds)
                rw [List.take_succ_eq_append_getElem hkr, h1, HXt.out.1, h2, h6', t1, t3]
                exact ⟨rfl, rfl⟩
            case measure => simp [intOf]; omega
          · obtain rfl : k = M2 := by omega
            obtain ⟨x0, x1, x2, x3, x4, x5, x6⟩ := block7 HTr.out.r
            obtain ⟨u0, u1, u2, u3, u4, u5, u6⟩ := block7 HTr.out.s.rs
            have z0 := block_frozen HTr.out.s.rs 0
            have z1 := block_frozen HTr.out.s.rs 1
            have z2 := block_frozen HTr.out.s.rs 2
            have z3 := block_frozen HTr.out.s.rs 3
            have z4 := block_frozen HTr.out.s.rs 4
            have z5 := block_frozen HTr.out.s.rs 5
            have z6 := block_frozen HTr.out.s.rs 6
            have l56 := HTr.out.l56
            have l5' := HTr.out.l5
            have hkk := HAl.out
            subst hkk
            go_wp2
            refine bodyPost_ret (v := .agg (rcs ⟨f 0, f 1 + -1, NM, TX, acc, rt, f 5⟩ pa ca)) (by simp [results, Tryd.results22, go_sem, u0, u1, u2, u3, u4, u5, u6]) rfl ?_
            have hW1 : w.heap.size + 1 < Z.heap.size := by omega
            have hLV := LV.of_own HO.out
            have hq : ∀ a, pa = some a → a.block ≠ w.heap.size + 1 := fun a e => by
              rcases HO.out.2 with ⟨e1, -⟩ | ⟨g, cap, cur, e1, e2, -⟩
              · injection e1 with e2; rw [e2] at e; cases e
              · injection e1 with e3; rw [e3] at e; cases e; show g ≠ _; omega
            refine ⟨⟨f 0, f 1 + -1, NM, TX, acc, rt, f 5⟩, pa, ca, rfl, ((((((hLV.setO hq).setO hq).setO hq).setO hq).setO hq).setO hq).setO hq, ?_, ?_, ?_, ?_⟩
            · have h1 := HRb.out
              have h2 := H63.out
              exact ⟨⟨by show _ ≤ f 0; omega, by show f 0 ≤ _; omega⟩, ⟨by show _ ≤ f 1 + -1; omega, by show f 1 + -1 ≤ _; omega⟩, by show NM.length ≤ _; omega, by show TX.length ≤ _; omega, by show acc.length ≤ _; omega, fun a ha => by have := h2 a ha; omega, h1, ⟨by show _ ≤ f 5; omega, by show f 5 ≤ _; omega⟩⟩
            · intro r hr e
              obtain ⟨g1, g2, g3, g4, g5, g6, g7, g8, g9⟩ := HFacts.out r hr e
              obtain ⟨k1, k2⟩ := HRel.out r hr e
              have hlen : acc.length = r.attrs.length := by
                have h16 : r.attrs.length ≤ 16 := hr.2.2.2.2.2.2.2.1
                have hgl : r.attrs.length ≤ G.length := by
                  rcases Nat.eq_zero_or_pos r.attrs.length with h | h
                  · omega
                  · have := (g5 (r.attrs.length - 1) (by omega)).1; omega
                have h5 := HT2.out
                have h6 := HGl.out
                have h7 := HMT.out
                omega
              rw [hlen, List.take_length] at k1
              cases r
              simp_all
            · intro a e
              rcases HO.out.2 with ⟨e1, -⟩ | ⟨g, cap, cur, e1, e2, -⟩
              · injection e1 with e2; rw [e2] at e; cases e
              · injection e1 with e3; rw [e3] at e; cases e; show _ ≤ g; omega
            · exact ((((((HTr.out.s.be.setCell (p := ⟨w.heap.size + 1, 0, none⟩) (by simp) _).setCell (p := ⟨w.heap.size + 1, 1, none⟩) (by simp) _).setCell (p := ⟨w.heap.size + 1, 2, none⟩) (by simp) _).setCell (p := ⟨w.heap.size + 1, 3, none⟩) (by simp) _).setCell (p := ⟨w.heap.size + 1, 4, none⟩) (by simp) _).setCell (p := ⟨w.heap.size + 1, 5, none⟩) (by simp) _).setCell (p := ⟨w.heap.size + 1, 6, none⟩) (by simp) _
end Go.Proofs.YthfeonmaajiajaaDoor
