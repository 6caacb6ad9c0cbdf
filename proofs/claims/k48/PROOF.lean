import PyProof.Rows.All
import Wide.All
import OpenK.AllK
import Wide.FinOn
import HandS.ForMost
import HandS.IsInst
import HandS.Evl
import HandS.Flow
import HandS.Conv
import HandS.Wide
import HandS.Walk
import HandS.Zip
import HandS.OwnEq
import HandS.Style
import HandS.TupAny
import HandS.More
import HandS.SortInts
import HandS.SetFor
import HandS.TupSets
import HandS.Deep
import HandS.Iter
import HandS.Dict
import HandS.DictComp
import HandS.MakeKwOnly
import PySem.Challenge.RW_lagshift_k48_bars_by_names
set_option Elab.async false
set_option linter.all false
set_option maxRecDepth 100000
set_option maxHeartbeats 4000000
namespace Lag
open PySem PySem.Spec PyProof.Rows L2
/-! ### the text by its places -/
def topS (i : Nat) : Stmt := PySem.Challenge.pw_lagshift_k48_bars_by_names.main.body.getD i (.Pass ⟨0, 0, 0, 0⟩)
/-! ### heaps -/
/-- all stands as it stood but at w -/
def But (w : Addr) (H H' : Hp) : Prop := ∀ b o, b ≠ w → H b = some o → H' b = some o
theorem But.refl (w : Addr) (H : Hp) : But w H H := fun _ _ _ h => h
theorem But.trans {w : Addr} {H H1 H2 : Hp} (a : But w H H1) (b : But w H1 H2) : But w H H2 := fun c o n h => b c o n (a c o n h)
theorem But.same {w : Addr} {H H1 : Hp} (a : Same H H1) : But w H H1 := fun c o _ h => a c o h
theorem But.upd {w : Addr} {H : Hp} {o : HO} : But w H (upd H w o) := fun c u n h => by rw [upd_ne n]; exact h
theorem But.new {w p : Addr} {H : Hp} {o : HO} (h : H p = none) : But w H (L2.upd H p o) := fun c u n e => by rw [upd_ne (ne_of_none e h)]; exact e
theorem same_new {H : Hp} {p : Addr} {o : HO} (h : H p = none) : Same H (upd H p o) := fun b x e => by rw [upd_ne (ne_of_none e h)]; exact e
/-- an object that H does not know may be changed -/
theorem same_mut {H H' : Hp} {p : Addr} {o : HO} (e : Same H H') (h : H p = none) : Same H (upd H' p o) := fun a u ha => by rw [upd_ne (ne_of_none ha h)]; exact e a u ha
theorem But.mut {w p : Addr} {H H' : Hp} {o : HO} (e : But w H H') (h : H p = none) : But w H (L2.upd H' p o) := fun a u n ha => by rw [upd_ne (ne_of_none ha h)]; exact e a u n ha
theorem But.seq {K : PySem.W.Frag} {w a : Addr} {H H' : Hp} {xs : List V} (e : But w H H') (n : a ≠ w) (h : SqL K H a xs) : SqL K H' a xs := by
  rcases h with (h | ⟨o, h⟩) | h
  · exact .inl (.inl (e _ _ n h))
  · exact .inl (.inr ⟨o, e _ _ n h⟩)
  · exact .inr h
/-- at w the well: three numbers -/
def StOk (xs : List V) : Prop := ∃ a b c : Int, xs = [.int a, .int b, .int c]
def WellAt (w : Addr) (H : Hp) : Prop := ∃ xs : List V, H w = some (.lst xs) ∧ StOk xs
theorem WellAt.new {w p : Addr} {H : Hp} {o : HO} (W : WellAt w H) (h : H p = none) : WellAt w (upd H p o) := by
  obtain ⟨xs, e, k⟩ := W
  exact ⟨xs, by rw [upd_ne (ne_of_none e h)]; exact e, k⟩
theorem WellAt.same {w : Addr} {H H' : Hp} (W : WellAt w H) (s : Same H H') : WellAt w H' := by
  obtain ⟨xs, e, k⟩ := W
  exact ⟨xs, s _ _ e, k⟩
theorem WellAt.ne {w p : Addr} {H : Hp} (W : WellAt w H) (h : H p = none) : w ≠ p := by
  obtain ⟨xs, e, k⟩ := W
  exact ne_of_none e h
/-- a draw of the well: what stood stands, the well is one -/
structure Dr (w : Addr) (H H' : Hp) : Prop where
  but : But w H H'
  well : WellAt w H'
theorem Dr.trans {w : Addr} {H H1 H2 : Hp} (a : Dr w H H1) (b : Dr w H1 H2) : Dr w H H2 := ⟨a.but.trans b.but, b.well⟩
theorem Dr.free {w p : Addr} {H H' : Hp} (d : Dr w H H') (W : WellAt w H) (h : H' p = none) : H p = none := by
  cases q : H p with
  | none => rfl
  | some o =>
    have n : p ≠ w := (d.well.ne h).symm
    rw [d.but _ _ n q] at h
    cases h
/-! ### the promises of the draws -/
def spCellAt (K : PySem.W.Frag) : Sp := fun vs H Q _ => ∃ (a : Addr) (ns : List Int) (k : Int), vs = [.ref a, .int k] ∧ 0 ≤ k ∧ SqL K H a (ns.map V.int) ∧ ∀ z : Int, Q (.int z) H
section
variable {P : Program} {w : World} {K : PySem.W.Frag} {mg : Str → Option Value} {base : Heap}
/-- a def at its name: it keeps its promise, its name holds it, its arguments bind -/
structure Df (P : Program) (w : World) (K : PySem.W.Frag) (mg : Str → Option Value) (base : Heap) (k : Nat) (name : Str) (ps : List Str) (sp : Sp) (f : Addr) (fd : FuncData) : Prop where
  ok : FnOk P w K mg base CX0 k f fd ps sp
  mg : mg name = some (.ref f)
  kp : PySem.W.keepIn K (.ref f) = true
  bd : Binds K fd ps []
/-! ### _law_cell_at -/
abbrev DCellAt (P : Program) (w : World) (K : PySem.W.Frag) (mg : Str → Option Value) (base : Heap) := Df P w K mg base 1 "_law_cell_at" ["_law_script", "_law_k"] (spCellAt K)
end
/-! ### what is kept of tuples -/
def isT : HO → Prop
  | .tup _ => True
  | .frz _ _ => True
  | _ => False
/-- tuples, and what is locked, stand as they stood -/
def TK (H H' : Hp) : Prop := ∀ a o, isT o → H a = some o → H' a = some o
theorem TK.refl (H : Hp) : TK H H := fun _ _ _ h => h
theorem TK.trans {H H1 H2 : Hp} (a : TK H H1) (b : TK H1 H2) : TK H H2 := fun c o t h => b c o t (a c o t h)
theorem TK.same {H H1 : Hp} (a : Same H H1) : TK H H1 := fun c o _ h => a c o h
theorem TK.new {p : Addr} {H : Hp} {o : HO} (h : H p = none) : TK H (upd H p o) := TK.same (same_new h)
theorem TK.lst {l : Addr} {H : Hp} {xs : List V} {o : HO} (h : H l = some (.lst xs)) : TK H (upd H l o) := fun c u t e => by
  have n : c ≠ l := fun z => by
    rw [z, h] at e
    cases e
    exact t
  rw [upd_ne n]
  exact e
theorem TK.dr {w : Addr} {H H' : Hp} (W : WellAt w H) (d : But w H H') : TK H H' := fun c u t e => by
  obtain ⟨xs, h, _⟩ := W
  have n : c ≠ w := fun z => by
    rw [z, h] at e
    cases e
    exact t
  exact d _ _ n e
theorem TK.seq {K : PySem.W.Frag} {H H' : Hp} {a : Addr} {xs : List V} (t : TK H H') (h : SqT K H a xs) : SqT K H' a xs := by
  rcases h with (h | ⟨o, h⟩) | h
  · exact .inl (.inl (t _ _ trivial h))
  · exact .inl (.inr ⟨o, t _ _ trivial h⟩)
  · exact .inr h
/-! ### gates and wires as data -/
abbrev Gt := Str × Int
abbrev Wr := Nat × Nat × List Int
def kinds : List Str := ["in", "out", "sum", "times", "most", "least", "first", "one"]
def portK (k : Str) : Prop := k = "in" ∨ k = "out"
/-- a gate -/
def GOk (g : Gt) : Prop := g.1 ∈ kinds ∧ 0 ≤ g.2 ∧ g.2 ≤ 100 ∧ (portK g.1 → g.2 = 0)
def GateV (K : PySem.W.Frag) (H : Hp) (v : V) (g : Gt) : Prop := ∃ a, v = .ref a ∧ SqT K H a [.str g.1, .int g.2]
def WireV (K : PySem.W.Frag) (H : Hp) (v : V) (x : Wr) : Prop := ∃ a b, v = .ref a ∧ SqT K H a [.int x.1, .int x.2.1, .ref b] ∧ SqT K H b (x.2.2.map V.int)
theorem GateV.tk {K : PySem.W.Frag} {H H' : Hp} {v : V} {g : Gt} (t : TK H H') (h : GateV K H v g) : GateV K H' v g := by
  obtain ⟨a, e, s⟩ := h
  exact ⟨a, e, t.seq s⟩
theorem WireV.tk {K : PySem.W.Frag} {H H' : Hp} {v : V} {x : Wr} (t : TK H H') (h : WireV K H v x) : WireV K H' v x := by
  obtain ⟨a, b, e, s, s2⟩ := h
  exact ⟨a, b, e, t.seq s, t.seq s2⟩
theorem Dr.new {wl p : Addr} {H : Hp} {o : HO} (W : WellAt wl H) (h : H p = none) : Dr wl H (upd H p o) := ⟨But.new h, W.new h⟩
def ROk (r : List Int) : Prop := ∀ x ∈ r, 0 ≤ x ∧ x ≤ 96
theorem tyes {σ : L2.St} {H : Hp} {A B : Hp → Prop} (h : A H) : tYes σ H (fun b H3 => if b = true then A H3 else B H3) := by
  show if true = true then A H else B H
  rw [if_pos rfl]
  exact h
/-! ### two lists, place by place -/
def All2 {α β : Type} (R : α → β → Prop) (xs : List α) (ys : List β) : Prop := xs.length = ys.length ∧ ∀ (i : Nat) (x : α) (y : β), xs[i]? = some x → ys[i]? = some y → R x y
section
variable {α β : Type} {R S : α → β → Prop} {xs : List α} {ys : List β} {x : α} {y : β}
theorem All2.nil : All2 R [] [] := ⟨rfl, fun i x y h => by simp at h⟩
theorem All2.imp (h : All2 R xs ys) (f : ∀ x y, R x y → S x y) : All2 S xs ys := ⟨h.1, fun i x y a b => f x y (h.2 i x y a b)⟩
theorem All2.snoc (h : All2 R xs ys) (r : R x y) : All2 R (xs ++ [x]) (ys ++ [y]) := by
  refine ⟨by simp [h.1], fun i a b ha hb => ?_⟩
  by_cases hi : i < xs.length
  · rw [List.getElem?_append_left hi] at ha
    rw [List.getElem?_append_left (by rw [← h.1]; exact hi)] at hb
    exact h.2 i a b ha hb
  · rw [List.getElem?_append_right (by omega)] at ha
    rw [List.getElem?_append_right (by rw [← h.1]; omega), ← h.1] at hb
    cases e : i - xs.length with
    | zero =>
      rw [e] at ha hb
      simp at ha hb
      subst ha hb
      exact r
    | succ n =>
      rw [e] at ha
      simp at ha
theorem All2.cons (r : R x y) (h : All2 R xs ys) : All2 R (x :: xs) (y :: ys) := by
  refine ⟨by simp [h.1], fun i a b ha hb => ?_⟩
  cases i with
  | zero =>
    simp at ha hb
    subst ha hb
    exact r
  | succ n => exact h.2 n a b (by simpa using ha) (by simpa using hb)
theorem All2.head {x : α} {y : β} (h : All2 R (x :: xs) (y :: ys)) : R x y := h.2 0 x y rfl rfl
theorem All2.tail {x : α} {y : β} (h : All2 R (x :: xs) (y :: ys)) : All2 R xs ys := ⟨by have := h.1; simp at this; exact this, fun i a b ha hb => h.2 (i + 1) a b (by simpa using ha) (by simpa using hb)⟩
theorem All2.get (h : All2 R xs ys) {i : Nat} {x : α} (e : xs[i]? = some x) : ∃ y, ys[i]? = some y ∧ R x y := by
  have hi := (List.getElem?_eq_some_iff.mp e).1
  have hj : i < ys.length := by rw [← h.1]; exact hi
  exact ⟨ys[i], List.getElem?_eq_getElem hj, h.2 i x _ e (List.getElem?_eq_getElem hj)⟩
theorem All2.getR (h : All2 R xs ys) {i : Nat} {y : β} (e : ys[i]? = some y) : ∃ x, xs[i]? = some x ∧ R x y := by
  have hi := (List.getElem?_eq_some_iff.mp e).1
  have hj : i < xs.length := by rw [h.1]; exact hi
  exact ⟨xs[i], List.getElem?_eq_getElem hj, h.2 i _ y (List.getElem?_eq_getElem hj) e⟩
theorem All2.perm {xs' : List α} (p : xs'.Perm xs) : ∀ {ys : List β}, All2 R xs ys → ∃ ys', ys'.Perm ys ∧ All2 R xs' ys' := by
  induction p with
  | nil => intro ys h; exact ⟨ys, .refl _, h⟩
  | @cons a l1 l2 p ih =>
    intro ys h
    cases ys with
    | nil => have := h.1; simp at this
    | cons y ys =>
      obtain ⟨ys', p', h'⟩ := ih h.tail
      exact ⟨y :: ys', p'.cons y, h'.cons h.head⟩
  | swap a b l =>
    intro ys h
    match ys, h with
    | [], h => have := h.1; simp at this
    | [_], h => have := h.1; simp at this
    | y :: z :: ys, h => exact ⟨z :: y :: ys, .swap _ _ _, All2.cons h.tail.head (All2.cons h.head h.tail.tail)⟩
  | trans p1 p2 ih1 ih2 =>
    intro ys h
    obtain ⟨ys1, q1, h1⟩ := ih2 h
    obtain ⟨ys2, q2, h2⟩ := ih1 h1
    exact ⟨ys2, q2.trans q1, h2⟩
end
/-! ### nets as data -/
def kindAt (gs : List Gt) (i : Nat) : Str := (gs.getD i ("", 0)).1
def cnt (ws : List Wr) (e : Nat) : Nat := ws.countP (fun x => x.2.1 == e)
/-- a wire between these gates -/
structure WOk (gs : List Gt) (x : Wr) : Prop where
  s : x.1 < gs.length
  e : x.2.1 < gs.length
  ks : kindAt gs x.1 ≠ "out"
  ke : kindAt gs x.2.1 ≠ "in"
  r : ROk x.2.2
  rl : x.2.2.length ≤ 100
structure NetOk (gs : List Gt) (ws : List Wr) : Prop where
  ne : gs ≠ []
  gl : gs.length ≤ 100
  wl : ws.length ≤ 1000
  gok : ∀ g ∈ gs, GOk g
  wok : ∀ x ∈ ws, WOk gs x
  one : ∀ e, e < gs.length → kindAt gs e = "out" → cnt ws e = 1
  some : ∀ e, e < gs.length → kindAt gs e = "first" → 1 ≤ cnt ws e
  rank : ∃ ρ : Nat → Nat, ∀ x ∈ ws, x.2.2 = [] → ρ x.1 < ρ x.2.1
/-- numbered anew: the gate k is the old gate at left's place k -/
theorem NetOk.anew {gs : List Gt} {ws : List Wr} {left : List Nat} (N : NetOk gs ws) (p : left.Perm (List.range gs.length)) {ws' : List Wr} (pw : ws'.Perm ws) :
    NetOk (left.map fun k => gs.getD k ("", 0)) (ws'.map fun x => (left.idxOf x.1, left.idxOf x.2.1, x.2.2)) := by
  have hl : left.length = gs.length := by rw [p.length_eq, List.length_range]
  have nd : left.Nodup := p.nodup_iff.mpr List.nodup_range
  have mem : ∀ i, i < gs.length → i ∈ left := fun i hi => p.mem_iff.mpr (List.mem_range.mpr hi)
  have memb : ∀ i, i ∈ left → i < gs.length := fun i hi => List.mem_range.mp (p.mem_iff.mp hi)
  have il : ∀ i, i < gs.length → left.idxOf i < left.length := fun i hi => List.idxOf_lt_length_iff.mpr (mem i hi)
  have ge : ∀ i (h : i < gs.length), left[left.idxOf i]? = Option.some i := fun i h => by
    rw [List.getElem?_eq_getElem (il i h), List.getElem_idxOf]
  have kk : ∀ i, i < gs.length → kindAt (left.map fun k => gs.getD k ("", 0)) (left.idxOf i) = kindAt gs i := fun i h => by
    unfold kindAt
    rw [List.getD_eq_getElem?_getD, List.getElem?_map, ge i h]
    rfl
  have inj : ∀ i j, i < gs.length → j < gs.length → left.idxOf i = left.idxOf j → i = j := fun i j hi hj e => by
    have h1 := ge i hi
    rw [e, ge j hj] at h1
    exact (Option.some.inj h1).symm
  have cc : ∀ e, e < gs.length → cnt (ws'.map fun x => (left.idxOf x.1, left.idxOf x.2.1, x.2.2)) (left.idxOf e) = cnt ws e := fun e he => by
    unfold cnt
    rw [List.countP_map, ← pw.countP_eq]
    refine List.countP_congr fun x hx => ?_
    have := (N.wok x (pw.mem_iff.mp hx)).e
    simp only [Function.comp, beq_iff_eq]
    exact ⟨fun z => inj _ _ this he z, fun z => by rw [z]⟩
  have back : ∀ e, e < left.length → ∃ i, i < gs.length ∧ left.idxOf i = e := fun e he => by
    refine ⟨left[e], memb _ (List.getElem_mem he), ?_⟩
    exact List.Nodup.idxOf_getElem nd e he
  obtain ⟨ρ, hρ⟩ := N.rank
  refine ⟨?_, by simpa [hl] using N.gl, by simpa [pw.length_eq] using N.wl, ?_, ?_, ?_, ?_, ?_⟩
  · intro z
    have := congrArg List.length z
    simp [hl] at this
    exact N.ne this
  · intro g hg
    obtain ⟨k, hk, rfl⟩ := List.mem_map.mp hg
    refine N.gok _ ?_
    rw [List.getD_eq_getElem?_getD, List.getElem?_eq_getElem (memb k hk)]
    exact List.getElem_mem _
  · intro y hy
    obtain ⟨x, hx, rfl⟩ := List.mem_map.mp hy
    have W := N.wok x (pw.mem_iff.mp hx)
    refine ⟨by simpa using il _ W.s, by simpa using il _ W.e, ?_, ?_, W.r, W.rl⟩
    · show kindAt _ (left.idxOf x.1) ≠ _
      rw [kk _ W.s]
      exact W.ks
    · show kindAt _ (left.idxOf x.2.1) ≠ _
      rw [kk _ W.e]
      exact W.ke
  · intro e he hk
    obtain ⟨i, hi, rfl⟩ := back e (by simpa using he)
    rw [kk i hi] at hk
    rw [cc i hi]
    exact N.one i hi hk
  · intro e he hk
    obtain ⟨i, hi, rfl⟩ := back e (by simpa using he)
    rw [kk i hi] at hk
    rw [cc i hi]
    exact N.some i hi hk
  · refine ⟨fun k => ρ (left.getD k 0), fun y hy h => ?_⟩
    obtain ⟨x, hx, rfl⟩ := List.mem_map.mp hy
    have W := N.wok x (pw.mem_iff.mp hx)
    have := hρ x (pw.mem_iff.mp hx) h
    simp only [List.getD_eq_getElem?_getD, ge _ W.s, ge _ W.e, Option.getD_some]
    exact this
theorem set_well {wl D : Addr} {H0 H : Hp} {o : HO} (d : Dr wl H0 H) (h0 : H0 D = none) (n : D ≠ wl) : Dr wl H0 (upd H D o) := by
  refine ⟨fun c u nc e => ?_, ?_⟩
  · rw [upd_ne (ne_of_none e h0)]
    exact d.but c u nc e
  · obtain ⟨xs, hx, k⟩ := d.well
    exact ⟨xs, by rw [upd_ne n.symm]; exact hx, k⟩
def tLen (K : PySem.W.Frag) (i : Nat) : TE := tCB (Evl.rLenS K) (tCons (tVar i) tNil)
/-- the wires into the gates ahead of i -/
structure WInv (gs : List Gt) (ws : List Wr) (i : Nat) : Prop where
  ok : ∀ x ∈ ws, WOk gs x ∧ (x.2.2 = [] → x.1 < x.2.1) ∧ x.2.1 < i
  one : ∀ e, e < i → kindAt gs e = "out" → cnt ws e = 1
  some : ∀ e, e < i → kindAt gs e = "first" → 1 ≤ cnt ws e
  len : ws.length ≤ 3 * i
  r2 : ∀ x ∈ ws, x.2.2.length ≤ 3
/-- .. and j wires into the gate i -/
structure WInv2 (gs : List Gt) (ws : List Wr) (i j : Nat) : Prop where
  ok : ∀ x ∈ ws, WOk gs x ∧ (x.2.2 = [] → x.1 < x.2.1) ∧ x.2.1 < i + 1
  one : ∀ e, e < i → kindAt gs e = "out" → cnt ws e = 1
  some : ∀ e, e < i → kindAt gs e = "first" → 1 ≤ cnt ws e
  here : cnt ws i = j
  len : ws.length ≤ 3 * i + j
  r2 : ∀ x ∈ ws, x.2.2.length ≤ 3
theorem WInv.go {gs : List Gt} {ws : List Wr} {i : Nat} (h : WInv gs ws i) : WInv2 gs ws i 0 := by
  refine ⟨fun x hx => ⟨(h.ok x hx).1, (h.ok x hx).2.1, by have := (h.ok x hx).2.2; omega⟩, h.one, h.some, ?_, h.len, h.r2⟩
  unfold cnt
  rw [List.countP_eq_zero]
  intro x hx z
  have := (h.ok x hx).2.2
  simp at z
  omega
theorem WInv2.app {gs : List Gt} {ws : List Wr} {i j : Nat} {x : Wr} (h : WInv2 gs ws i j) (hx : WOk gs x) (hr : x.2.2 = [] → x.1 < x.2.1) (he : x.2.1 = i) (h2 : x.2.2.length ≤ 3) : WInv2 gs (ws ++ [x]) i (j + 1) := by
  have c : ∀ e, e < i → cnt (ws ++ [x]) e = cnt ws e := fun e he' => by
    unfold cnt
    rw [List.countP_append]
    have : (x.2.1 == e) = false := by simp; omega
    simp [List.countP_cons, this]
  refine ⟨fun y hy => ?_, fun e h1 h2 => by rw [c e h1]; exact h.one e h1 h2, fun e h1 h2 => by rw [c e h1]; exact h.some e h1 h2, ?_, by have := h.len; simp; omega, fun y hy => ?_⟩
  · rcases List.mem_append.mp hy with hy | hy
    · exact h.ok y hy
    · simp at hy
      subst hy
      exact ⟨hx, hr, by omega⟩
  · have := h.here
    unfold cnt at this ⊢
    rw [List.countP_append, this]
    simp [List.countP_cons, he]
  · rcases List.mem_append.mp hy with hy | hy
    · exact h.r2 y hy
    · simp at hy
      subst hy
      exact h2
theorem WInv2.done {gs : List Gt} {ws : List Wr} {i j : Nat} (h : WInv2 gs ws i j) (h1 : kindAt gs i = "out" → j = 1) (h2 : kindAt gs i = "first" → 1 ≤ j) (hj : j ≤ 3) : WInv gs ws (i + 1) := by
  refine ⟨fun x hx => h.ok x hx, fun e he hk => ?_, fun e he hk => ?_, by have := h.len; omega, h.r2⟩
  · by_cases hi : e = i
    · subst hi
      rw [h.here]
      exact h1 hk
    · exact h.one e (by omega) hk
  · by_cases hi : e = i
    · subst hi
      rw [h.here]
      exact h2 hk
    · exact h.some e (by omega) hk
theorem WInv.net {gs : List Gt} {ws : List Wr} (h : WInv gs ws gs.length) (ne : gs ≠ []) (gl : gs.length ≤ 100) (gok : ∀ g ∈ gs, GOk g) : NetOk gs ws :=
  ⟨ne, gl, by have := h.len; omega, gok, fun x hx => (h.ok x hx).1, h.one, h.some, id, fun x hx hr => (h.ok x hx).2.1 hr⟩
/-- lists of gates, of wires, that stand tracked -/
def LG (K : PySem.W.Frag) (H : Hp) (l : Addr) (gs : List Gt) : Prop := ∃ vs, H l = some (.lst vs) ∧ All2 (GateV K H) vs gs
def LW (K : PySem.W.Frag) (H : Hp) (l : Addr) (ws : List Wr) : Prop := ∃ vs, H l = some (.lst vs) ∧ All2 (WireV K H) vs ws
theorem kindAt_get {gs : List Gt} {i : Nat} {g : Gt} (h : gs[i]? = some g) : kindAt gs i = g.1 := by
  unfold kindAt
  rw [List.getD_eq_getElem?_getD, h]
  rfl
theorem all2_eq {α β : Type} {f : β → α} : ∀ {xs : List α} {ys : List β}, All2 (fun x y => x = f y) xs ys → xs = ys.map f
  | [], [], _ => rfl
  | [], _ :: _, h => by have := h.1; simp at this
  | _ :: _, [], h => by have := h.1; simp at this
  | x :: xs, y :: ys, h => by rw [List.map_cons, ← all2_eq h.tail, ← h.head]
theorem eq_all2 {α β : Type} {f : β → α} (ys : List β) : All2 (fun x y => x = f y) (ys.map f) ys := ⟨by simp, fun i x y h1 h2 => by
  rw [List.getElem?_map, h2] at h1
  exact (Option.some.inj h1).symm⟩
theorem rgV_nat (n : Nat) : rgV 0 (n : Int) = (List.range n).map fun i => V.int (i : Nat) := by
  unfold rgV
  have : ((n : Int) - 0).toNat = n := by omega
  rw [this]
  refine List.map_congr_left fun i _ => ?_
  rw [Int.zero_add]
theorem flat_ints (l : List Nat) : (l.map fun i => V.int (i : Nat)).all flatV = true := by
  rw [List.all_eq_true]
  intro x hx
  obtain ⟨i, _, rfl⟩ := List.mem_map.mp hx
  rfl
/-- where a number stands among numbers without two alike -/
theorem idx_at {left : List Nat} {a : Nat} (h : a ∈ left) : (left.map fun i => V.int (i : Nat))[left.idxOf a]? = some (V.int (a : Nat)) := by
  rw [List.getElem?_map, List.getElem?_eq_getElem (List.idxOf_lt_length_iff.mpr h), List.getElem_idxOf]
  rfl
theorem eqV_int (a b : Int) : eqV (V.int a) (V.int b) = decide (a = b) := rfl
theorem idx_no {left : List Nat} {a m : Nat} {z : V} (nd : left.Nodup) (hm : m < left.idxOf a) (h : (left.map fun i => V.int (i : Nat))[m]? = some z) : eqV z (V.int (a : Nat)) = false := by
  rw [List.getElem?_map] at h
  cases e : left[m]? with
  | none =>
    rw [e] at h
    cases h
  | some b =>
    rw [e] at h
    cases h
    rw [eqV_int]
    refine decide_eq_false fun z => ?_
    have z : b = a := by omega
    obtain ⟨hm', eb⟩ := List.getElem?_eq_some_iff.mp e
    have := List.Nodup.idxOf_getElem nd m hm'
    rw [eb, z] at this
    omega
end Lag

set_option maxRecDepth 100000
set_option maxHeartbeats 4000000
namespace Lag
open PySem PySem.Spec PyProof.Rows L2
abbrev sWhole : Stmt := topS 13
abbrev sFromTo : Stmt := topS 14
abbrev sWorth : Stmt := topS 15
abbrev sIsGate : Stmt := topS 35
abbrev sChkGates : Stmt := topS 34
/-! ### o[i] of a list, by values -/
def rGetL (K : PySem.W.Frag) : V → V → Hp → VK → Prop := fun o i H Q => ∃ (p : Addr) (xs : List V) (j : Nat) (v : V), o = .ref p ∧ i = .int (j : Nat) ∧ SqL K H p xs ∧ xs[j]? = some v ∧ Q v H
theorem get_list {X : Cx} : PGet X (rGetL X.K) := by
  intro pins s σ H o i ov iv Q I ro ri h
  obtain ⟨p, xs, j, v, rfl, rfl, hq, he, q⟩ := h
  cases ro
  obtain ⟨t, rfl⟩ := ri
  obtain ⟨its, r, pl, hz⟩ := I.list hq
  obtain ⟨w, ew, rw'⟩ := r.get he
  have hl := r.length
  have hn := line63
  have hj : j < its.length := (List.getElem?_eq_some_iff.mp ew).1
  exact wpAny_getItem_list pl.isList (by omega) (by omega) (by simpa using ew) ⟨v, H, I, rw', q⟩
/-! ### names of built-ins, constants of the text -/
structure Bt (mg : Str → Option Value) : Prop where
  isi : mg "isinstance" = none
  int : mg "int" = none
  bool : mg "bool" = none
  len : mg "len" = none
  tuple : mg "tuple" = none
  str : mg "str" = none
  list : mg "list" = none
  all : mg "all" = none
  enum : mg "enumerate" = none
  zip : mg "zip" = none
  range : mg "range" = none
  max : mg "max" = none
structure Cns (K : PySem.W.Frag) (mg : Str → Option Value) (aK aW aF : Addr) : Prop where
  gw : ∃ t, mg "GREATEST_WORTH" = some (.int 96 t)
  ga : ∃ t, mg "GREATEST_WAIT" = some (.int 100 t)
  mK : mg "KINDS" = some (.ref aK)
  sK : ∀ H, SqT K H aK (kinds.map V.str)
  mW : mg "OUTER_KINDS" = some (.ref aW)
  sW : ∀ H, SqT K H aW [.str "in", .str "out"]
  mF : mg "KINDS_WITH_A_WIRE" = some (.ref aF)
  sF : ∀ H, SqT K H aF [.str "out", .str "first"]
theorem ty_tup {K : PySem.W.Frag} {H : Hp} {a : Addr} {xs : List V} (h : SqT K H a xs) : TyX K H (.ref a) (.type "tuple") := by
  rcases h with (h | ⟨o, h⟩) | ⟨o, its, n, hk, hc, _⟩
  · exact .base (.tup h)
  · exact .fTuple h
  · exact .kTuple hk hc
theorem ty_lst {K : PySem.W.Frag} {H : Hp} {a : Addr} {xs : List V} (h : SqL K H a xs) : TyX K H (.ref a) (.type "list") := by
  rcases h with (h | ⟨o, h⟩) | ⟨o, its, n, hk, hc, _⟩
  · exact .base (.lst h)
  · exact .base (.frz h)
  · exact .kList hk hc
/-! ### promises -/
def spWhole : Sp := fun vs H Q _ => ∃ n : Int, vs = [.int n] ∧ Q (.bl true) H
def spFromTo : Sp := fun vs H Q _ => ∃ n a b : Int, vs = [.int n, .int a, .int b] ∧ Q (.bl (decide (a ≤ n) && decide (n ≤ b))) H
def spWorth : Sp := fun vs H Q _ => ∃ n : Int, vs = [.int n] ∧ Q (.bl (decide (0 ≤ n) && decide (n ≤ 96))) H
def spIsGate (K : PySem.W.Frag) : Sp := fun vs H Q _ => ∃ (v : V) (g : Gt), vs = [v] ∧ GateV K H v g ∧ GOk g ∧ ∀ H', Same H H' → Q (.bl true) H'
/-- lists that are read -/
def RG (K : PySem.W.Frag) (H : Hp) (l : Addr) (gs : List Gt) : Prop := ∃ vs, SqL K H l vs ∧ All2 (GateV K H) vs gs
def RW (K : PySem.W.Frag) (H : Hp) (l : Addr) (ws : List Wr) : Prop := ∃ vs, SqL K H l vs ∧ All2 (WireV K H) vs ws
theorem RG.same {K : PySem.W.Frag} {H H' : Hp} {l : Addr} {gs : List Gt} (h : RG K H l gs) (s : Same H H') : RG K H' l gs := by
  obtain ⟨vs, q, a⟩ := h
  exact ⟨vs, s.seq q, a.imp fun _ _ r => r.tk (TK.same s)⟩
theorem RW.same {K : PySem.W.Frag} {H H' : Hp} {l : Addr} {ws : List Wr} (h : RW K H l ws) (s : Same H H') : RW K H' l ws := by
  obtain ⟨vs, q, a⟩ := h
  exact ⟨vs, s.seq q, a.imp fun _ _ r => r.tk (TK.same s)⟩
def spChkGates (K : PySem.W.Frag) : Sp := fun vs H Q _ => ∃ (l : Addr) (gs : List Gt), vs = [.ref l] ∧ RG K H l gs ∧ gs ≠ [] ∧ (∀ g ∈ gs, GOk g) ∧ ∀ H', Same H H' → Q .non H'
section
variable {P : Program} {w : World} {K : PySem.W.Frag} {mg : Str → Option Value} {base : Heap}
/-! ### is_whole, is_whole_from_to, is_worth -/
theorem scWhole : FnScope ["thing"] ["thing"] (defScope sWhole) := ⟨rfl, rfl, rfl, by decide +kernel, rfl, by decide +kernel, by decide +kernel⟩
abbrev DWhole (P : Program) (w : World) (K : PySem.W.Frag) (mg : Str → Option Value) (base : Heap) := Df P w K mg base 1 "is_whole" ["thing"] spWhole
theorem ok_whole {f : Addr} {fd : FuncData} (F : Fun K "is_whole" "is_whole" sWhole f fd) (hm : mg "is_whole" = some (.ref f)) (B : Bt mg) : DWhole P w K mg base f fd := by
  refine ⟨?_, hm, F.kp, F.binds fun _ _ _ _ _ _ us hl => match us, hl with | [_], _ => rfl⟩
  refine F.ok scWhole (fun vs H Q E h => ?_) (fun cdv A outer s H vs Q E hr h => ?_)
  · obtain ⟨n, rfl, _⟩ := h
    rfl
  · obtain ⟨n, rfl, q⟩ := h
    refine ⟨_, pss_one <| ps_ret <| pe_and (pe_callB call_isi (by rfl) B.isi (by decide +kernel) (pa_cons (pv 0) (pa_cons (pe_bltn (v := .ty "int") (by rfl) B.int (by decide +kernel) rfl) pa_nil)))
      (pe_one (pe_not (pe_callB call_isi (by rfl) B.isi (by decide +kernel) (pa_cons (pv 0) (pa_cons (pe_bltn (v := .ty "bool") (by rfl) B.bool (by decide +kernel) rfl) pa_nil))))), ?_⟩
    refine ⟨_, rfl, _, _, _, _, true, rfl, .ty "int", .base (.int n), kit_ty (by decide +kernel), true, rfl, iteT ?_⟩
    exact ⟨_, rfl, _, _, _, _, false, rfl, .ty "bool", .base (.int n), kit_ty (by decide +kernel), false, rfl, q⟩
theorem scFromTo : FnScope ["thing", "least", "greatest"] ["thing", "least", "greatest"] (defScope sFromTo) := ⟨rfl, rfl, rfl, by decide +kernel, rfl, by decide +kernel, by decide +kernel⟩
abbrev DFromTo (P : Program) (w : World) (K : PySem.W.Frag) (mg : Str → Option Value) (base : Heap) := Df P w K mg base 2 "is_whole_from_to" ["thing", "least", "greatest"] spFromTo
theorem ok_fromTo {f fW : Addr} {fd fdW : FuncData} (F : Fun K "is_whole_from_to" "is_whole_from_to" sFromTo f fd) (hm : mg "is_whole_from_to" = some (.ref f)) (DW : DWhole P w K mg base fW fdW) : DFromTo P w K mg base f fd := by
  refine ⟨?_, hm, F.kp, F.binds fun _ _ _ _ _ _ us hl => match us, hl with | [_, _, _], _ => rfl⟩
  refine F.ok scFromTo (fun vs H Q E h => ?_) (fun cdv A outer s H vs Q E hr h => ?_)
  · obtain ⟨n, a, b, rfl, _⟩ := h
    rfl
  · obtain ⟨n, a, b, rfl, q⟩ := h
    refine ⟨_, pss_one <| ps_ret <| pe_and (pe_call DW.ok hr (by rfl) DW.mg DW.kp DW.bd .nil pass0 (pa_cons (pv 0) pa_nil)) (pe_one (pe_chain op_le op_le (pv 1) (pv 0) (pv 2))), ?_⟩
    refine ⟨_, rfl, n, rfl, true, rfl, iteT ?_⟩
    refine ⟨_, rfl, _, rfl, _, _, rfl, rfl, _, rfl, ?_⟩
    cases e : decide (a ≤ n) with
    | false =>
      rw [e] at q
      exact iteF q
    | true =>
      rw [e] at q
      exact iteT ⟨_, rfl, _, _, rfl, rfl, q⟩
theorem scWorth : FnScope ["thing"] ["thing"] (defScope sWorth) := ⟨rfl, rfl, rfl, by decide +kernel, rfl, by decide +kernel, by decide +kernel⟩
abbrev DWorth (P : Program) (w : World) (K : PySem.W.Frag) (mg : Str → Option Value) (base : Heap) := Df P w K mg base 3 "is_worth" ["thing"] spWorth
theorem ok_worth {f fF aK aW aF : Addr} {fd fdF : FuncData} (F : Fun K "is_worth" "is_worth" sWorth f fd) (hm : mg "is_worth" = some (.ref f)) (C : Cns K mg aK aW aF) (DF : DFromTo P w K mg base fF fdF) : DWorth P w K mg base f fd := by
  obtain ⟨tg, hgw⟩ := C.gw
  refine ⟨?_, hm, F.kp, F.binds fun _ _ _ _ _ _ us hl => match us, hl with | [_], _ => rfl⟩
  refine F.ok scWorth (fun vs H Q E h => ?_) (fun cdv A outer s H vs Q E hr h => ?_)
  · obtain ⟨n, rfl, _⟩ := h
    rfl
  · obtain ⟨n, rfl, q⟩ := h
    refine ⟨_, pss_one <| ps_ret <| pe_call DF.ok hr (by rfl) DF.mg DF.kp DF.bd .nil pass0 <| pa_cons (pv 0) <| pa_cons pe_int <| pa_cons (pe_glob (v := .int 96) (by rfl) hgw ⟨_, rfl⟩) pa_nil, ?_⟩
    exact ⟨_, rfl, n, 0, 96, rfl, q⟩
/-! ### is_gate -/
theorem scIsGate : FnScope ["thing", "kind", "wait"] ["thing"] (defScope sIsGate) := ⟨rfl, rfl, rfl, by decide +kernel, rfl, by decide +kernel, by decide +kernel⟩
abbrev DIsGate (P : Program) (w : World) (K : PySem.W.Frag) (mg : Str → Option Value) (base : Heap) := Df P w K mg base 3 "is_gate" ["thing"] (spIsGate K)
theorem kinds_in {k : Str} (h : k ∈ kinds) : inV (.str k) (kinds.map V.str) = true := by
  unfold inV
  rw [List.any_eq_true]
  exact ⟨.str k, List.mem_map.mpr ⟨k, h, rfl⟩, beq_self_eq_true k⟩
theorem flat_strs (l : List Str) : (l.map V.str).all flatV = true := by
  rw [List.all_eq_true]
  intro x hx
  obtain ⟨i, _, rfl⟩ := List.mem_map.mp hx
  rfl
theorem ok_isGate {f fF aK aW aF : Addr} {fd fdF : FuncData} (F : Fun K "is_gate" "is_gate" sIsGate f fd) (hm : mg "is_gate" = some (.ref f)) (B : Bt mg) (C : Cns K mg aK aW aF) (DF : DFromTo P w K mg base fF fdF) : DIsGate P w K mg base f fd := by
  obtain ⟨tg, hga⟩ := C.ga
  refine ⟨?_, hm, F.kp, F.binds fun _ _ _ _ _ _ us hl => match us, hl with | [_], _ => rfl⟩
  refine F.ok scIsGate (fun vs H Q E h => ?_) (fun cdv A outer s H vs Q E hr h => ?_)
  · obtain ⟨v, g, rfl, _⟩ := h
    rfl
  · obtain ⟨v, g, rfl, ⟨a, rfl, sq⟩, gok, q⟩ := h
    have nd := scIsGate.nd
    refine ⟨_, pss_cons (ps_if (PW.pt (pw_or (pt_not (pt_val (pe_callB call_isi (by rfl) B.isi (by decide +kernel) (pa_cons (pv 0) (pa_cons (pe_bltn (v := .ty "tuple") (by rfl) B.tuple (by decide +kernel) rfl) pa_nil)))))
          (pw_or1 (pt_cmpR op_ne (pe_callB call_len_seq (by rfl) B.len PySem.boot_len (pa_cons (pv 0) pa_nil)) pe_int (nomark _))))) (pss_one (ps_ret pe_bl)) pss_nil) <|
      pss_cons (ps_asg (pv 0) (pg_tup (by rfl) (pgs_cons (pg_name (i := 1) nd rfl (.inl rfl)) (pgs_cons (pg_name (i := 2) nd rfl (.inl rfl)) pgs_nil)))) <|
      pss_cons (ps_if (PW.pt (pw_or (pt_not (pt_val (pe_callB call_isi (by rfl) B.isi (by decide +kernel) (pa_cons (pv 1) (pa_cons (pe_bltn (v := .ty "str") (by rfl) B.str (by decide +kernel) rfl) pa_nil)))))
          (pw_or1 (pt_cmpR op_notIn_seq (pv 1) (pe_glob (v := .ref aK) (by rfl) C.mK rfl) (by rfl))))) (pss_one (ps_ret pe_bl)) pss_nil) <|
      pss_one <| ps_ret <| pe_call DF.ok hr (by rfl) DF.mg DF.kp DF.bd .nil pass0 <| pa_cons (pv 2) <| pa_cons pe_int <| (pa_cons · pa_nil) <|
        pe_ifExp (pt_cmpR op_in_seq (pv 1) (pe_glob (v := .ref aW) (by rfl) C.mW rfl) (by rfl)) pe_int (pe_glob (v := .int 100) (by rfl) hga ⟨_, rfl⟩), ?_⟩
    refine ⟨_, rfl, _, _, _, _, true, rfl, .ty "tuple", ty_tup sq, kit_ty (by decide +kernel), true, rfl, ?_⟩
    refine iteF ⟨_, rfl, a, _, rfl, .inr sq, rfl, _, rfl, iteF ?_⟩
    refine ⟨_, rfl, a, _, rfl, sq, rfl, _, _, rfl, _, _, rfl, rfl, ?_⟩
    refine ⟨_, rfl, _, _, _, _, true, rfl, .ty "str", .base (.str g.1), kit_ty (by decide +kernel), true, rfl, ?_⟩
    refine iteF ⟨_, rfl, aK, _, rfl, .inr (C.sK H), rfl, flat_strs _, false, ?_, iteF ?_⟩
    · show V.bl (!inV (V.str g.1) (kinds.map V.str)) = V.bl false
      rw [kinds_in gok.1]
      rfl
    refine ⟨_, rfl, _, rfl, aW, _, rfl, .inr (C.sW H), rfl, rfl, _, rfl, ite2 (fun e => ?_) (fun e => ?_)⟩
    · have hp : portK g.1 := by
        have e' : inV (V.str g.1) [V.str "in", V.str "out"] = true := e
        unfold inV at e'
        rw [List.any_eq_true] at e'
        obtain ⟨x, hx, hxe⟩ := e'
        simp only [List.mem_cons, List.not_mem_nil, or_false] at hx
        rcases hx with rfl | rfl
        · exact .inl (eq_of_beq hxe).symm
        · exact .inr (eq_of_beq hxe).symm
      have h0 := gok.2.2.2 hp
      refine ⟨g.2, 0, 0, rfl, ?_⟩
      rw [h0]
      exact q H (Same.refl H)
    · refine ⟨g.2, 0, 100, rfl, ?_⟩
      rw [decide_eq_true gok.2.1, decide_eq_true gok.2.2.1]
      exact q H (Same.refl H)
end
end Lag

set_option maxRecDepth 100000
set_option maxHeartbeats 4000000
namespace Lag
open PySem PySem.Spec PyProof.Rows L2
abbrev sIsWire : Stmt := topS 37
abbrev sTaken : Stmt := topS 38
def spIsWire (K : PySem.W.Frag) : Sp := fun vs H Q _ => ∃ (v : V) (x : Wr) (n : Nat), vs = [v, .int (n : Nat)] ∧ WireV K H v x ∧ x.1 < n ∧ x.2.1 < n ∧ ROk x.2.2 ∧ x.2.2.length ≤ 1000 ∧ ∀ H', Same H H' → Q (.bl true) H'
def spTaken (K : PySem.W.Frag) : Sp := fun vs H Q _ => ∃ (v : V) (x : Wr) (lg lc : Addr) (gs : List Gt) (cs : List Nat), vs = [v, .ref lg, .ref lc] ∧ WireV K H v x ∧ RG K H lg gs ∧ SqL K H lc (cs.map fun i => V.int (i : Nat)) ∧ WOk gs x ∧ cs.length = gs.length ∧
  (kindAt gs x.2.1 = "out" → cs[x.2.1]? = some 0) ∧ Q (.bl true) H
section
variable {P : Program} {w : World} {K : PySem.W.Frag} {mg : Str → Option Value} {base : Heap}
/-! ### check_gates -/
theorem scChkGates : FnScope ["gates", "thing"] ["gates"] (defScope sChkGates) := ⟨rfl, rfl, rfl, by decide +kernel, rfl, by decide +kernel, by decide +kernel⟩
abbrev DChkGates (P : Program) (w : World) (K : PySem.W.Frag) (mg : Str → Option Value) (base : Heap) := Df P w K mg base 4 "check_gates" ["gates"] (spChkGates K)
theorem ok_chkGates {f fG : Addr} {fd fdG : FuncData} (F : Fun K "check_gates" "check_gates" sChkGates f fd) (hm : mg "check_gates" = some (.ref f)) (B : Bt mg) (DG : DIsGate P w K mg base fG fdG) : DChkGates P w K mg base f fd := by
  refine ⟨?_, hm, F.kp, F.binds fun _ _ _ _ _ _ us hl => match us, hl with | [_], _ => rfl⟩
  refine F.ok scChkGates (fun vs H Q E h => ?_) (fun cdv A outer s H vs Q E hr h => ?_)
  · obtain ⟨l, gs, rfl, _⟩ := h
    rfl
  · obtain ⟨l, gs, rfl, R, hne, gok, q⟩ := h
    have nd := scChkGates.nd
    refine ⟨_, pss_cons (ps_if (PW.pt (pw_or (pt_not (pt_val (pe_callB call_isi (by rfl) B.isi (by decide +kernel) (pa_cons (pv 0) (pa_cons (pe_bltn (v := .ty "list") (by rfl) B.list (by decide +kernel) rfl) pa_nil)))))
          (pw_or1 (pt_cmpR op_eq (pe_callB call_len_seq (by rfl) B.len PySem.boot_len (pa_cons (pv 0) pa_nil)) pe_int (nomark _))))) (pss_one ps_never) pss_nil) <|
      pss_one <| ps_for PassesOwn.never rfl (pi_list (pv 0)) (pg_name (i := 1) nd rfl (.inl rfl)) <|
        pss_one <| ps_if (pt_not (pt_val (pe_call DG.ok hr (by rfl) DG.mg DG.kp DG.bd .nil pass0 (pa_cons (pv 1) pa_nil)))) (pss_one ps_never) pss_nil, ?_⟩
    obtain ⟨gv, sg, ga⟩ := R
    have hl : gv.length = gs.length := ga.1
    have hpos : 0 < gs.length := by
      cases gs with
      | nil => exact absurd rfl hne
      | cons _ _ => simp
    refine ⟨_, rfl, _, _, _, _, true, rfl, .ty "list", ty_lst sg, kit_ty (by decide +kernel), true, rfl, ?_⟩
    refine iteF ⟨_, rfl, l, gv, rfl, .inl sg, rfl, false, ?_, iteF ?_⟩
    · show V.bl (decide (V.int (gv.length : Int) = V.int 0)) = V.bl false
      rw [decide_eq_false]
      intro z
      have := V.int.inj z
      omega
    refine ⟨_, rfl, l, rfl, ⟨_, sg⟩, for_list (K := K) (a := l) (xs := gv) (fun i σ H2 => ∃ y, σ = [some (.ref l), y] ∧ Same H H2) ⟨_, rfl, Same.refl H⟩ (fun i σ H2 _ ⟨_, _, sm⟩ => sm.seq sg) ?_ ?_⟩
    · rintro i x σ H2 hx ⟨y, rfl, sm⟩
      obtain ⟨g, hg, gv⟩ := ga.get hx
      refine ⟨_, rfl, x, g, rfl, gv.tk (TK.same sm), gok g (List.mem_of_getElem? hg), fun H3 sm3 => ⟨true, rfl, iteF ⟨_, rfl, sm.trans sm3⟩⟩⟩
    · rintro σ H2 ⟨y, rfl, sm⟩
      exact q H2 sm
/-! ### is_wire -/
abbrev nIsWire : List Str := ["thing", "many_gates", "start", "end", "held", "worth"]
theorem scIsWire : FnScope nIsWire ["thing", "many_gates"] (defScope sIsWire) := ⟨rfl, rfl, rfl, by decide +kernel, rfl, by decide +kernel, by decide +kernel⟩
abbrev DIsWire (P : Program) (w : World) (K : PySem.W.Frag) (mg : Str → Option Value) (base : Heap) := Df P w K mg base 4 "is_wire" ["thing", "many_gates"] (spIsWire K)
theorem ok_isWire {f fF fW : Addr} {fd fdF fdW : FuncData} (F : Fun K "is_wire" "is_wire" sIsWire f fd) (hm : mg "is_wire" = some (.ref f)) (B : Bt mg) (DF : DFromTo P w K mg base fF fdF) (DW : DWorth P w K mg base fW fdW) : DIsWire P w K mg base f fd := by
  refine ⟨?_, hm, F.kp, F.binds fun _ _ _ _ _ _ us hl => match us, hl with | [_, _], _ => rfl⟩
  refine F.ok scIsWire (fun vs H Q E h => ?_) (fun cdv A outer s H vs Q E hr h => ?_)
  · obtain ⟨v, x, n, rfl, _⟩ := h
    rfl
  · obtain ⟨v, x, n, rfl, ⟨a, b, rfl, sq1, sq2⟩, hs, he, rok, rl, q⟩ := h
    have nd := scIsWire.nd
    have hr2 : Room 2 _ := hr.mono (by decide)
    refine ⟨_, pss_cons (ps_if (PW.pt (pw_or (pt_not (pt_val (pe_callB call_isi (by rfl) B.isi (by decide +kernel) (pa_cons (pv 0) (pa_cons (pe_bltn (v := .ty "tuple") (by rfl) B.tuple (by decide +kernel) rfl) pa_nil)))))
          (pw_or1 (pt_cmpR op_ne (pe_callB call_len_seq (by rfl) B.len PySem.boot_len (pa_cons (pv 0) pa_nil)) pe_int (nomark _))))) (pss_one (ps_ret pe_bl)) pss_nil) <|
      pss_cons (ps_asg (pv 0) (pg_tup (by rfl) (pgs_cons (pg_name (i := 2) nd rfl (.inl rfl)) (pgs_cons (pg_name (i := 3) nd rfl (.inl rfl)) (pgs_cons (pg_name (i := 4) nd rfl (.inl rfl)) pgs_nil))))) <|
      pss_cons (ps_if (PW.pt (pw_or (pt_not (pt_val (pe_call DF.ok hr2 (by rfl) DF.mg DF.kp DF.bd .nil pass0 (pa_cons (pv 2) (pa_cons pe_int (pa_cons (pe_op op_sub (pv 1) pe_int) pa_nil))))))
          (pw_or1 (pt_not (pt_val (pe_call DF.ok hr2 (by rfl) DF.mg DF.kp DF.bd .nil pass0 (pa_cons (pv 3) (pa_cons pe_int (pa_cons (pe_op op_sub (pv 1) pe_int) pa_nil))))))))) (pss_one (ps_ret pe_bl)) pss_nil) <|
      pss_one <| ps_ret <| pe_and (pe_callB call_isi (by rfl) B.isi (by decide +kernel) (pa_cons (pv 4) (pa_cons (pe_bltn (v := .ty "tuple") (by rfl) B.tuple (by decide +kernel) rfl) pa_nil))) <| pe_one <|
        pe_callB (cr_all rfl) (by rfl) B.all (by decide +kernel) <| (pa_cons · pa_nil) <| pe_lc (own := [("worth", 5)]) (g := gName 5) (tt := tYes) (te := tCall spWorth [] E0 (tCons (tVar 5) tNil)) rfl nd (pi_tup (pv 4)) (blkOk_by (N := nIsWire) (sc := defScope sIsWire) (own := [("worth", 5)]) (by decide +kernel))
          (fun _ _ _ _ _ => pg_name (i := 5) nd rfl (.inl rfl)) (fun _ _ _ _ _ => pts_nil) (fun _ _ _ _ _ => pe_call DW.ok hr (by rfl) DW.mg DW.kp DW.bd .nil pass0 (pa_cons (pv 5) pa_nil)), ?_⟩
    refine ⟨_, rfl, _, _, _, _, true, rfl, .ty "tuple", ty_tup sq1, kit_ty (by decide +kernel), true, rfl, ?_⟩
    refine iteF ⟨_, rfl, a, _, rfl, .inr sq1, rfl, _, rfl, iteF ?_⟩
    refine ⟨_, rfl, a, _, rfl, sq1, rfl, _, _, rfl, _, _, rfl, _, _, rfl, rfl, ?_⟩
    refine ⟨_, rfl, _, rfl, _, _, rfl, rfl, _, _, _, rfl, true, ?_, iteF ?_⟩
    · rw [decide_eq_true (by omega), decide_eq_true (by omega)]
      rfl
    refine ⟨_, rfl, _, rfl, _, _, rfl, rfl, _, _, _, rfl, true, ?_, iteF ?_⟩
    · rw [decide_eq_true (by omega), decide_eq_true (by omega)]
      rfl
    refine ⟨_, rfl, _, _, _, _, true, rfl, .ty "tuple", ty_tup sq2, kit_ty (by decide +kernel), true, rfl, iteT ?_⟩
    refine ⟨_, rfl, b, rfl, ⟨_, sq2⟩, fun D hD => ?_⟩
    refine lc_tup (K := K) (a := b) (xs := x.2.2.map V.int) (fun i Hc => Hc D = some (.lst ((List.replicate i true).map V.bl)) ∧ Same H Hc) ⟨upd_same, same_new hD⟩ (fun i Hc _ ⟨_, sm⟩ => (TK.same sm).seq sq2) ?_ ?_
    · rintro i y Hc hy ⟨hc, sm⟩
      rw [List.getElem?_map] at hy
      cases ey : x.2.2[i]? with
      | none =>
        rw [ey] at hy
        cases hy
      | some z =>
      rw [ey] at hy
      cases hy
      have hz := rok z (List.mem_of_getElem? ey)
      have hi : i < x.2.2.length := (List.getElem?_eq_some_iff.mp ey).1
      refine ⟨rfl, tyes ?_⟩
      refine ⟨_, rfl, z, rfl, _, hc, by rw [List.length_map, List.length_replicate]; exact small1000 (by omega), ?_, same_mut sm hD⟩
      rw [upd_same, decide_eq_true hz.1, decide_eq_true hz.2, List.replicate_succ', List.map_append]
      rfl
    · rintro Hc ⟨hc, sm⟩
      refine ⟨D, _, rfl, SqL.of hc, ?_⟩
      have e : (List.replicate (x.2.2.map V.int).length true).all id = true := by
        rw [List.all_eq_true]
        intro y hy
        rw [List.mem_replicate] at hy
        rw [hy.2]
        rfl
      rw [e]
      exact q Hc sm
/-! ### is_taken -/
theorem scTaken : FnScope ["wire", "gates", "come", "start", "end"] ["wire", "gates", "come"] (defScope sTaken) := ⟨rfl, rfl, rfl, by decide +kernel, rfl, by decide +kernel, by decide +kernel⟩
abbrev DTaken (P : Program) (w : World) (K : PySem.W.Frag) (mg : Str → Option Value) (base : Heap) := Df P w K mg base 1 "is_taken" ["wire", "gates", "come"] (spTaken K)
theorem ok_taken {f : Addr} {fd : FuncData} (F : Fun K "is_taken" "is_taken" sTaken f fd) (hm : mg "is_taken" = some (.ref f)) : DTaken P w K mg base f fd := by
  refine ⟨?_, hm, F.kp, F.binds fun _ _ _ _ _ _ us hl => match us, hl with | [_, _, _], _ => rfl⟩
  refine F.ok scTaken (fun vs H Q E h => ?_) (fun cdv A outer s H vs Q E hr h => ?_)
  · obtain ⟨v, x, lg, lc, gs, cs, rfl, _⟩ := h
    rfl
  · obtain ⟨v, x, lg, lc, gs, cs, rfl, ⟨a, b, rfl, sq1, sq2⟩, ⟨gv, sg, ga⟩, sc, W, hcl, h0, q⟩ := h
    have nd := scTaken.nd
    refine ⟨_, pss_cons (ps_par (i := 3) (j := 4) (by rfl) nd rfl rfl (by decide) rfl rfl (pa_cons (pe_ix ix_tup (pv 0) pe_int (fun _ _ => rfl)) (pa_cons (pe_ix ix_tup (pv 0) pe_int (fun _ _ => rfl)) pa_nil)) (by rfl)) <|
      pss_cons (ps_if (PW.pt (pw_or (pt_cmpR op_eq (pe_ix ix_tup (pe_ix ix_list (pv 1) (pv 3) (fun _ _ => rfl)) pe_int (fun _ _ => rfl)) pe_str (nomark _)) (pw_or1 (pt_cmpR op_eq (pe_ix ix_tup (pe_ix ix_list (pv 1) (pv 4) (fun _ _ => rfl)) pe_int (fun _ _ => rfl)) pe_str (nomark _))))) (pss_one (ps_ret pe_bl)) pss_nil) <|
      pss_one <| ps_ret <| pe_or (pe_cmpR op_ne (pe_ix ix_tup (pe_ix ix_list (pv 1) (pv 4) (fun _ _ => rfl)) pe_int (fun _ _ => rfl)) pe_str (nomark _)) (pe_one (pe_cmpR op_eq (pe_ix ix_list (pv 2) (pv 4) (fun _ _ => rfl)) pe_int (nomark _))), ?_⟩
    have hl : gv.length = gs.length := ga.1
    obtain ⟨vs1, g1, e1, f1, a1, rfl, s1⟩ : ∃ vs1 g1, gv[x.1]? = some vs1 ∧ gs[x.1]? = some g1 ∧ GateV K H vs1 g1 := by
      have e1 : gs[x.1]? = some (gs[x.1]'W.s) := List.getElem?_eq_getElem W.s
      obtain ⟨y, hy, r⟩ := ga.getR e1
      exact ⟨y, _, hy, e1, r⟩
    obtain ⟨vs2, g2, e2, f2, a2, rfl, s2⟩ : ∃ vs2 g2, gv[x.2.1]? = some vs2 ∧ gs[x.2.1]? = some g2 ∧ GateV K H vs2 g2 := by
      have e1 : gs[x.2.1]? = some (gs[x.2.1]'W.e) := List.getElem?_eq_getElem W.e
      obtain ⟨y, hy, r⟩ := ga.getR e1
      exact ⟨y, _, hy, e1, r⟩
    have k1 := kindAt_get f1
    have k2 := kindAt_get f2
    refine ⟨_, rfl, a, _, 0, _, rfl, rfl, sq1, atI_nat (j := 0) rfl, _, rfl, a, _, 1, _, rfl, rfl, sq1, atI_nat (j := 1) rfl, _, _, rfl, ?_⟩
    refine ⟨_, rfl, _, rfl, lg, gv, _, _, rfl, rfl, sg, atI_nat e1, a1, _, 0, _, rfl, rfl, s1, atI_nat (j := 0) rfl, rfl, false, ?_, iteF ?_⟩
    · show V.bl (decide (V.str g1.1 = V.str "out")) = V.bl false
      rw [decide_eq_false]
      intro z
      exact W.ks (by rw [k1]; exact V.str.inj z)
    refine ⟨_, rfl, _, rfl, lg, gv, _, _, rfl, rfl, sg, atI_nat e2, a2, _, 0, _, rfl, rfl, s2, atI_nat (j := 0) rfl, rfl, false, ?_, iteF ?_⟩
    · show V.bl (decide (V.str g2.1 = V.str "in")) = V.bl false
      rw [decide_eq_false]
      intro z
      exact W.ke (by rw [k2]; exact V.str.inj z)
    refine ⟨_, rfl, _, rfl, lg, gv, _, _, rfl, rfl, sg, atI_nat e2, a2, _, 0, _, rfl, rfl, s2, atI_nat (j := 0) rfl, rfl, _, rfl, ite2 (fun e => ?_) (fun e => ?_)⟩
    · exact q
    · have hk : kindAt gs x.2.1 = "out" := by
        rw [k2]
        refine Classical.byContradiction fun z => e ?_
        show (!decide (V.str g2.1 = V.str "out")) = true
        rw [decide_eq_false (fun y => z (V.str.inj y))]
        rfl
      have hc := h0 hk
      refine ⟨_, rfl, _, rfl, lc, _, _, .int 0, rfl, rfl, sc, atI_nat (by rw [List.getElem?_map, hc]; rfl), rfl, q⟩
end
end Lag

set_option maxRecDepth 100000
set_option maxHeartbeats 4000000
namespace Lag
open PySem PySem.Spec PyProof.Rows L2
abbrev sChkWires : Stmt := topS 36
def cntL (n : Nat) (ws : List Wr) : List Nat := (List.range n).map (cnt ws)
theorem cntL_len (n : Nat) (ws : List Wr) : (cntL n ws).length = n := by simp [cntL]
theorem cntL_get {n e : Nat} {ws : List Wr} (h : e < n) : (cntL n ws)[e]? = some (cnt ws e) := by
  unfold cntL
  rw [List.getElem?_map, List.getElem?_range h]
  rfl
theorem cntL_nil (n : Nat) : cntL n [] = List.replicate n 0 := by
  refine List.ext_getElem? fun i => ?_
  by_cases h : i < n
  · rw [cntL_get h, List.getElem?_replicate, if_pos h]
    rfl
  · rw [List.getElem?_eq_none (by rw [cntL_len]; omega), List.getElem?_eq_none (by simp; omega)]
theorem cnt_app (ws : List Wr) (x : Wr) (e : Nat) : cnt (ws ++ [x]) e = cnt ws e + if x.2.1 = e then 1 else 0 := by
  unfold cnt
  rw [List.countP_append, List.countP_cons, List.countP_nil]
  by_cases h : x.2.1 = e <;> simp [h]
theorem cntL_app {n : Nat} {ws : List Wr} {x : Wr} (h : x.2.1 < n) : (cntL n ws).set x.2.1 (cnt ws x.2.1 + 1) = cntL n (ws ++ [x]) := by
  refine List.ext_getElem? fun i => ?_
  by_cases hi : i < n
  · rw [cntL_get hi, cnt_app, List.getElem?_set]
    by_cases e : x.2.1 = i
    · rw [if_pos e, if_pos e, if_pos (by rw [cntL_len]; exact h), e]
    · rw [if_neg e, if_neg e, cntL_get hi]
      rfl
  · rw [List.getElem?_eq_none (by rw [List.length_set, cntL_len]; omega), List.getElem?_eq_none (by rw [cntL_len]; omega)]
theorem cnt_take_lt {ws : List Wr} {i : Nat} {x : Wr} (h : ws[i]? = some x) : cnt (ws.take i) x.2.1 + 1 ≤ cnt ws x.2.1 := by
  have e : ws.take (i + 1) = ws.take i ++ [x] := by rw [List.take_add_one, h]; rfl
  have h1 : cnt (ws.take (i + 1)) x.2.1 ≤ cnt ws x.2.1 := by
    unfold cnt
    exact List.Sublist.countP_le (List.take_sublist _ _)
  rw [e, cnt_app, if_pos rfl] at h1
  exact h1
def spChkWires (K : PySem.W.Frag) : Sp := fun vs H Q _ => ∃ (lg lw : Addr) (gs : List Gt) (ws : List Wr), vs = [.ref lg, .ref lw] ∧ RG K H lg gs ∧ RW K H lw ws ∧ NetOk gs ws ∧ ∀ H', Same H H' → Q .non H'
theorem map_set' {α β : Type} (f : α → β) (l : List α) (i : Nat) (a : α) : (l.map f).set i (f a) = (l.set i a).map f := by simp [List.map_set]
section
variable {P : Program} {w : World} {K : PySem.W.Frag} {mg : Str → Option Value} {base : Heap}
theorem scChkWires : FnScope ["gates", "wires", "come", "place", "thing", "gate", "many"] ["gates", "wires"] (defScope sChkWires) := ⟨rfl, rfl, rfl, by decide +kernel, rfl, by decide +kernel, by decide +kernel⟩
abbrev DChkWires (P : Program) (w : World) (K : PySem.W.Frag) (mg : Str → Option Value) (base : Heap) := Df P w K mg base 5 "check_wires" ["gates", "wires"] (spChkWires K)
theorem ok_chkWires {f fW fT aK aW aF : Addr} {fd fdW fdT : FuncData} (F : Fun K "check_wires" "check_wires" sChkWires f fd) (hm : mg "check_wires" = some (.ref f)) (B : Bt mg) (C : Cns K mg aK aW aF) (DW : DIsWire P w K mg base fW fdW) (DT : DTaken P w K mg base fT fdT) : DChkWires P w K mg base f fd := by
  refine ⟨?_, hm, F.kp, F.binds fun _ _ _ _ _ _ us hl => match us, hl with | [_, _], _ => rfl⟩
  refine F.ok scChkWires (fun vs H Q E h => ?_) (fun cdv A outer s H vs Q E hr h => ?_)
  · obtain ⟨lg, lw, gs, ws, rfl, _⟩ := h
    rfl
  · obtain ⟨lg, lw, gs, ws, rfl, RGs, ⟨wv, sw, wa⟩, N, q⟩ := h
    have nd := scChkWires.nd
    have hr1 : Room 1 _ := hr.mono (by decide)
    refine ⟨_, pss_cons (ps_if (pt_not (pt_val (pe_callB call_isi (by rfl) B.isi (by decide +kernel) (pa_cons (pv 1) (pa_cons (pe_bltn (v := .ty "list") (by rfl) B.list (by decide +kernel) rfl) pa_nil))))) (pss_one ps_never) pss_nil) <|
      pss_cons (ps_set (i := 2) nd rfl (Or.inl rfl) (pe_op op_rep (pe_lst (pa_cons pe_int pa_nil)) (pe_callB call_len_seq (by rfl) B.len PySem.boot_len (pa_cons (pv 0) pa_nil)))) <|
      pss_cons (ps_for PassesOwn.never rfl (pi_enum (by rfl) B.enum (pa_cons (pv 1) pa_nil)) (pg_tup rfl (pgs_cons (pg_name (i := 3) nd rfl (Or.inl rfl)) (pgs_cons (pg_name (i := 4) nd rfl (Or.inl rfl)) pgs_nil))) <|
        pss_cons (ps_if (PW.pt (pw_or (pt_not (pt_val (pe_call DW.ok hr (by rfl) DW.mg DW.kp DW.bd .nil pass0 (pa_cons (pv 4) (pa_cons (pe_callB call_len_seq (by rfl) B.len PySem.boot_len (pa_cons (pv 0) pa_nil)) pa_nil)))))
            (pw_or1 (pt_not (pt_val (pe_call DT.ok hr1 (by rfl) DT.mg DT.kp DT.bd .nil pass0 (pa_cons (pv 4) (pa_cons (pv 0) (pa_cons (pv 2) pa_nil))))))))) (pss_one ps_never) pss_nil) <|
        pss_one <| ps_augS (pv 2) (pe_ix ix_tup (pv 4) pe_int (fun _ _ => rfl)) get_list pe_int ip_add set_list) <|
      pss_one <| ps_for PassesOwn.never rfl (pi_zip (by rfl) B.zip (pa_cons (pv 0) (pa_cons (pv 2) pa_nil))) (pg_tup rfl (pgs_cons (pg_name (i := 5) nd rfl (Or.inl rfl)) (pgs_cons (pg_name (i := 6) nd rfl (Or.inl rfl)) pgs_nil))) <|
        pss_one <| ps_if (PW.pt (pw_and (pt_cmpR op_in_seq (pe_ix ix_tup (pv 5) pe_int (fun _ _ => rfl)) (pe_glob (v := .ref aF) (by rfl) C.mF rfl) (by rfl)) (pw_and1 (pt_cmpR op_eq (pv 6) pe_int (nomark _))))) (pss_one ps_never) pss_nil, ?_⟩
    obtain ⟨gv, sg, ga⟩ := id RGs
    have hlg : gv.length = gs.length := ga.1
    have hlw : wv.length = ws.length := wa.1
    have hgl := N.gl
    refine ⟨_, rfl, _, _, _, _, true, rfl, .ty "list", ty_lst sw, kit_ty (by decide +kernel), true, rfl, iteF ?_⟩
    refine ⟨(by show 1 ≤ sizeLine; decide), fun l0 hl0 => ?_⟩
    refine ⟨_, rfl, lg, gv, rfl, .inl ((same_new hl0).seq sg), ?_⟩
    refine ⟨l0, _, _, rfl, rfl, upd_same, by omega, by omega, ?_, fun lc hlc => ?_⟩
    · show 1 * _ ≤ sizeLine
      have : 1 * ((gv.length : Int)).toNat ≤ 1000 := by omega
      exact Nat.le_of_lt (small1000 this)
    have sm0 : Same H (upd H l0 (.lst [.int 0])) := same_new hl0
    have hlc0 : H lc = none := sm0.free hlc
    have e0 : (List.replicate ((gv.length : Int)).toNat [V.int 0]).flatten = (cntL gs.length (ws.take 0)).map fun i => V.int (i : Nat) := by
      rw [List.take_zero, cntL_nil, List.map_replicate, ← hlg, Int.toNat_natCast]
      generalize gv.length = n
      induction n with
      | zero => rfl
      | succ n ih =>
        rw [List.replicate_succ, List.flatten_cons, ih, List.replicate_succ]
        rfl
    rw [e0]
    -- for place, thing in enumerate(wires)
    refine ⟨_, rfl, lw, wv, rfl, (sm0.trans (same_new hlc)).seq sw, for_it (walk_enum (K := K) (a := lw) (xs := wv)) (fun i σ H2 => ∃ s3 s4 : Option V, σ = [some (.ref lg), some (.ref lw), some (.ref lc), s3, s4, none, none] ∧
        H2 lc = some (.lst ((cntL gs.length (ws.take i)).map fun i => V.int (i : Nat))) ∧ Same H H2)
      ⟨_, _, rfl, upd_same, sm0.trans (same_new hlc)⟩ (fun i σ H2 _ ⟨_, _, _, _, sm⟩ => sm.seq sw) ?_ ?_⟩
    · rintro i v σ H2 H2' hi ⟨s3, s4, rfl, hc, sm⟩ ⟨T, x1, y, rfl, hT, rfl, ex, ey⟩
      cases ex
      obtain ⟨x, hx, wx⟩ := wa.get ey
      have W := N.wok x (List.mem_of_getElem? hx)
      have hxi : i < ws.length := (List.getElem?_eq_some_iff.mp hx).1
      have smT : Same H2 (upd H2 T (.tup [.int (i : Nat), y])) := same_new hT
      have sm2 := sm.trans smT
      refine ⟨T, _, rfl, .inl (.inl upd_same), rfl, _, _, rfl, _, _, rfl, rfl, ?_⟩
      refine ⟨_, rfl, _, rfl, lg, gv, rfl, .inl (sm2.seq sg), y, x, gv.length, rfl, wx.tk (TK.same sm2), by rw [hlg]; exact W.s, by rw [hlg]; exact W.e, W.r, by have := W.rl; omega, fun H3 sm3 => ⟨true, rfl, iteF ?_⟩⟩
      have sm4 := sm2.trans sm3
      have hc3 := sm3 _ _ (smT _ _ hc)
      refine ⟨_, rfl, _, rfl, _, rfl, y, x, lg, lc, gs, cntL gs.length (ws.take i), rfl, wx.tk (TK.same sm4), RGs.same sm4, SqL.of hc3, W, cntL_len _ _, fun hk => ?_, true, rfl, iteF ?_⟩
      · rw [cntL_get W.e]
        have h1 := N.one _ W.e hk
        have h2 := cnt_take_lt hx
        congr 1
        omega
      obtain ⟨a, b, rfl, sq1, sq2⟩ := wx
      have hlen : x.2.1 < (cntL gs.length (ws.take i)).length := by rw [cntL_len]; exact W.e
      refine ⟨_, rfl, _, rfl, a, _, 1, _, rfl, rfl, (TK.same sm4).seq sq1, atI_nat (j := 1) rfl, lc, _, x.2.1, .int (cnt (ws.take i) x.2.1 : Nat), rfl, rfl, SqL.of hc3, by rw [List.getElem?_map, cntL_get W.e]; rfl, _, _, rfl, rfl, lc, _, _, x.2.1, rfl, rfl, hc3, Evl.ixN_nat (by rw [List.length_map]; exact hlen), ?_⟩
      refine ⟨_, _, rfl, ?_, same_mut sm4 hlc0⟩
      have et : ws.take (i + 1) = ws.take i ++ [x] := by rw [List.take_add_one, hx]; rfl
      rw [upd_same, et, ← cntL_app W.e, ← map_set']
      rfl
    · rintro σ H2 ⟨s3, s4, rfl, hc, sm⟩
      rw [hlw, List.take_length] at hc
      -- for gate, many in zip(gates, come)
      refine ⟨_, rfl, _, rfl, lg, lc, gv, _, rfl, sm.seq sg, SqL.of hc, RZ.for_zipL (K := K) (a := lg) (b := lc) (xs := gv) (by rw [List.length_map, cntL_len]; exact hlg) (fun i σ H3 => ∃ s5 s6 : Option V, σ = [some (.ref lg), some (.ref lw), some (.ref lc), s3, s4, s5, s6] ∧ Same H2 H3)
        ⟨_, _, rfl, Same.refl H2⟩ (fun i σ H3 ⟨_, _, _, sm3⟩ => ⟨(sm.trans sm3).seq sg, SqL.of (sm3 _ _ hc)⟩) ?_ ?_⟩
      · rintro i x y T σ H3 hx hy ⟨s5, s6, rfl, sm3⟩ hT
        obtain ⟨g, hg, a, rfl, sq⟩ := ga.get hx
        have hgi : i < gs.length := (List.getElem?_eq_some_iff.mp hg).1
        rw [List.getElem?_map, cntL_get hgi] at hy
        cases hy
        have sm4 : Same H (upd H3 T (.tup [.ref a, .int (cnt ws i : Nat)])) := (sm.trans sm3).trans (same_new hT)
        refine ⟨T, _, rfl, .inl (.inl upd_same), rfl, _, _, rfl, _, _, rfl, rfl, ?_⟩
        refine ⟨_, rfl, a, _, 0, _, rfl, rfl, (TK.same sm4).seq sq, atI_nat (j := 0) rfl, aF, _, rfl, .inr (C.sF _), rfl, rfl, _, rfl, ite2 (fun e => ?_) (fun e => ?_)⟩
        · have e' : inV (V.str g.1) [V.str "out", V.str "first"] = true := e
          have hpos : 1 ≤ cnt ws i := by
            unfold inV at e'
            rw [List.any_eq_true] at e'
            obtain ⟨x, hx, hxe⟩ := e'
            simp only [List.mem_cons, List.not_mem_nil, or_false] at hx
            rcases hx with rfl | rfl
            · have := N.one i hgi (by rw [kindAt_get hg]; exact (eq_of_beq hxe).symm)
              omega
            · exact N.some i hgi (by rw [kindAt_get hg]; exact (eq_of_beq hxe).symm)
          refine ⟨_, rfl, rfl, false, ?_, iteF ⟨_, _, rfl, sm3.trans (same_new hT)⟩⟩
          show V.bl (decide (V.int (cnt ws i : Int) = V.int 0)) = V.bl false
          rw [decide_eq_false]
          intro z
          have := V.int.inj z
          omega
        · exact iteF ⟨_, _, rfl, sm3.trans (same_new hT)⟩
      · rintro σ H3 ⟨s5, s6, rfl, sm3⟩
        exact q H3 (sm.trans sm3)
end
end Lag

set_option maxRecDepth 100000
set_option maxHeartbeats 4000000
namespace Lag
open PySem PySem.Spec PyProof.Rows L2
/-! ### the order of gates along wires without registers: the mathematics -/
def bare (ws : List Wr) : List (Nat × Nat) := (ws.filter fun x => x.2.2.isEmpty).map fun x => (x.1, x.2.1)
/-- how many wires of B lead into e from gates that are not in dn -/
def mis (B : List (Nat × Nat)) (dn : List Nat) (e : Nat) : Nat := B.countP fun b => b.2 == e && !dn.contains b.1
def frm (B : List (Nat × Nat)) (g e : Nat) : Nat := B.countP fun b => b.1 == g && b.2 == e
theorem mis_split {B : List (Nat × Nat)} {dn : List Nat} {g : Nat} (h : g ∉ dn) (e : Nat) : mis B dn e = mis B (dn ++ [g]) e + frm B g e := by
  unfold mis frm
  induction B with
  | nil => rfl
  | cons b B ih =>
    rw [List.countP_cons, List.countP_cons, List.countP_cons, ih]
    by_cases h1 : b.2 = e
    · by_cases h2 : b.1 = g
      · have : b.1 ∉ dn := by rw [h2]; exact h
        simp [h1, h2, h]
        omega
      · by_cases h3 : b.1 ∈ dn
        · simp [h1, h2, h3]
        · simp [h1, h2, h3]
          omega
    · simp [h1]
theorem mis_zero {B : List (Nat × Nat)} {dn : List Nat} {e : Nat} (h : mis B dn e = 0) {b : Nat × Nat} (hb : b ∈ B) (he : b.2 = e) : b.1 ∈ dn := by
  unfold mis at h
  rw [List.countP_eq_zero] at h
  have := h b hb
  simp [he] at this
  exact this
theorem frm_drop {B : List (Nat × Nat)} {j : Nat} {b : Nat × Nat} (h : B[j]? = some b) (g e : Nat) : frm (B.drop j) g e = frm (B.drop (j + 1)) g e + if b.1 = g ∧ b.2 = e then 1 else 0 := by
  obtain ⟨hj, rfl⟩ := List.getElem?_eq_some_iff.mp h
  rw [List.drop_eq_getElem_cons hj]
  unfold frm
  rw [List.countP_cons]
  by_cases h1 : B[j].1 = g <;> by_cases h2 : B[j].2 = e <;> simp [h1, h2]
structure KI (B : List (Nat × Nat)) (n : Nat) (placed : List Nat) (d : Nat) : Prop where
  nd : placed.Nodup
  lt : ∀ e ∈ placed, e < n
  le : d ≤ placed.length
  iff : ∀ e, e < n → (e ∈ placed ↔ mis B (placed.take d) e = 0)
  top : ∀ (j e : Nat), placed[j]? = some e → ∀ b ∈ B, b.2 = e → b.1 ∈ placed.take j
structure KJ (B : List (Nat × Nat)) (n : Nat) (placed : List Nat) (d g j : Nat) : Prop where
  nd : placed.Nodup
  lt : ∀ e ∈ placed, e < n
  at_ : placed[d]? = some g
  iff : ∀ e, e < n → (e ∈ placed ↔ mis B (placed.take (d + 1)) e + frm (B.drop j) g e = 0)
  top : ∀ (j e : Nat), placed[j]? = some e → ∀ b ∈ B, b.2 = e → b.1 ∈ placed.take j
theorem take_add {l : List Nat} {d g : Nat} (h : l[d]? = some g) : l.take (d + 1) = l.take d ++ [g] := by rw [List.take_add_one, h]; rfl
theorem nodup_take {l : List Nat} {d g : Nat} (nd : l.Nodup) (h : l[d]? = some g) : g ∉ l.take d := by
  intro hm
  obtain ⟨i, hi⟩ := List.getElem?_of_mem hm
  have h1 : i < d := by
    have := (List.getElem?_eq_some_iff.mp hi).1
    rw [List.length_take] at this
    omega
  rw [List.getElem?_take_of_lt h1] at hi
  have := nd_ix nd hi h
  omega
theorem KI.go {B : List (Nat × Nat)} {n : Nat} {placed : List Nat} {d g : Nat} (h : KI B n placed d) (hg : placed[d]? = some g) : KJ B n placed d g 0 :=
  ⟨h.nd, h.lt, hg, fun e he => by rw [h.iff e he, take_add hg, mis_split (nodup_take h.nd hg), List.drop_zero], h.top⟩
theorem KJ.done {B : List (Nat × Nat)} {n : Nat} {placed : List Nat} {d g : Nat} (h : KJ B n placed d g B.length) : KI B n placed (d + 1) := by
  have hd : d < placed.length := (List.getElem?_eq_some_iff.mp h.at_).1
  refine ⟨h.nd, h.lt, hd, fun e he => ?_, h.top⟩
  rw [h.iff e he, List.drop_length]
  rfl
theorem KJ.skip {B : List (Nat × Nat)} {n : Nat} {placed : List Nat} {d g j : Nat} {b : Nat × Nat} (h : KJ B n placed d g j) (hb : B[j]? = some b) (hg : b.1 ≠ g) : KJ B n placed d g (j + 1) :=
  ⟨h.nd, h.lt, h.at_, fun e he => by rw [h.iff e he, frm_drop hb, if_neg (fun z => hg z.1)]; rfl, h.top⟩
theorem KJ.not {B : List (Nat × Nat)} {n : Nat} {placed : List Nat} {d g j : Nat} {b : Nat × Nat} (h : KJ B n placed d g j) (hb : B[j]? = some b) (hg : b.1 = g) (hn : mis B (placed.take (d + 1)) b.2 + frm (B.drop (j + 1)) g b.2 ≠ 0) : KJ B n placed d g (j + 1) := by
  refine ⟨h.nd, h.lt, h.at_, fun e he => ?_, h.top⟩
  rw [h.iff e he, frm_drop hb]
  by_cases h2 : b.2 = e
  · subst h2
    rw [if_pos ⟨hg, rfl⟩]
    omega
  · rw [if_neg (fun z => h2 z.2)]
    rfl
theorem KJ.put {B : List (Nat × Nat)} {n : Nat} {placed : List Nat} {d g j : Nat} {b : Nat × Nat} (h : KJ B n placed d g j) (hb : B[j]? = some b) (hg : b.1 = g) (hlt : b.2 < n) (hn : mis B (placed.take (d + 1)) b.2 + frm (B.drop (j + 1)) g b.2 = 0) : KJ B n (placed ++ [b.2]) d g (j + 1) := by
  have hd : d < placed.length := (List.getElem?_eq_some_iff.mp h.at_).1
  have hnot : b.2 ∉ placed := fun z => by
    have := (h.iff _ hlt).mp z
    rw [frm_drop hb, if_pos ⟨hg, rfl⟩] at this
    omega
  have et : (placed ++ [b.2]).take (d + 1) = placed.take (d + 1) := List.take_append_of_le_length (by omega)
  refine ⟨?_, ?_, ?_, ?_, ?_⟩
  · rw [List.nodup_append]
    refine ⟨h.nd, by simp, fun a ha c hc => ?_⟩
    simp at hc
    subst hc
    intro z
    exact hnot (by rw [← z]; exact ha)
  · intro e he
    rcases List.mem_append.mp he with he | he
    · exact h.lt e he
    · simp at he
      subst he
      exact hlt
  · rw [List.getElem?_append_left hd]
    exact h.at_
  · intro e he
    rw [et, List.mem_append]
    by_cases h2 : b.2 = e
    · subst h2
      simp [hn]
    · have := h.iff e he
      rw [frm_drop hb, if_neg (fun z => h2 z.2)] at this
      rw [this]
      simp
      intro z
      exact absurd z.symm h2
  · intro k e hk c hc hce
    by_cases hk' : k < placed.length
    · rw [List.getElem?_append_left hk'] at hk
      rw [List.take_append_of_le_length (by omega)]
      exact h.top k e hk c hc hce
    · have hkl : k = placed.length := by
        have := (List.getElem?_eq_some_iff.mp hk).1
        simp at this
        omega
      subst hkl
      rw [List.getElem?_append_right (by omega)] at hk
      simp at hk
      subst hk
      rw [List.take_left']
      · have := mis_zero (show mis B (placed.take (d + 1)) b.2 = 0 by omega) hc hce
        exact List.mem_of_mem_take this
      · rfl
/-- what the order is: gates without two alike, each behind those it hangs on; all whose wires come from such -/
def Ord (n : Nat) (ws : List Wr) (ord : List Nat) : Prop := KI (bare ws) n ord ord.length
theorem Ord.full {n : Nat} {ws : List Wr} {ord : List Nat} (h : Ord n ws ord) (hw : ∀ x ∈ ws, x.1 < n ∧ x.2.1 < n) (rk : ∃ ρ : Nat → Nat, ∀ x ∈ ws, x.2.2 = [] → ρ x.1 < ρ x.2.1) : ord.Perm (List.range n) := by
  obtain ⟨ρ, hρ⟩ := rk
  have all : ∀ r e, e < n → ρ e = r → e ∈ ord := by
    intro r
    induction r using Nat.strongRecOn with
    | ind r ih =>
      intro e he hr
      rw [h.iff e he, List.take_length]
      unfold mis
      rw [List.countP_eq_zero]
      intro b hb
      obtain ⟨x, hx, rfl⟩ := List.mem_map.mp hb
      rw [List.mem_filter] at hx
      have hr0 : x.2.2 = [] := by simpa using hx.2
      have := hρ x hx.1 hr0
      simp
      intro z
      exact ih (ρ x.1) (by rw [← hr, ← z]; exact this) x.1 (hw x hx.1).1 rfl
  rw [List.perm_iff_count]
  intro a
  rw [h.nd.count, List.nodup_range.count]
  by_cases ha : a < n
  · rw [if_pos (all _ a ha rfl), if_pos (List.mem_range.mpr ha)]
  · rw [if_neg (fun z => ha (h.lt a z)), if_neg (fun z => ha (List.mem_range.mp z))]
end Lag

set_option maxRecDepth 100000
set_option maxHeartbeats 8000000
namespace Lag
open PySem PySem.Spec PyProof.Rows L2
abbrev sAlong : Stmt := topS 18
abbrev sOrder : Stmt := topS 40
def PairV (K : PySem.W.Frag) (H : Hp) (v : V) (b : Nat × Nat) : Prop := ∃ a, v = .ref a ∧ SqT K H a [.int (b.1 : Nat), .int (b.2 : Nat)]
theorem PairV.tk {K : PySem.W.Frag} {H H' : Hp} {v : V} {b : Nat × Nat} (t : TK H H') (h : PairV K H v b) : PairV K H' v b := by
  obtain ⟨a, e, s⟩ := h
  exact ⟨a, e, t.seq s⟩
/-- numbers by a function of the place -/
def fnL (n : Nat) (f : Nat → Nat) : List V := (List.range n).map fun e => V.int (f e : Nat)
theorem fnL_len (n : Nat) (f : Nat → Nat) : (fnL n f).length = n := by simp [fnL]
theorem fnL_get {n e : Nat} {f : Nat → Nat} (h : e < n) : (fnL n f)[e]? = some (V.int (f e : Nat)) := by
  unfold fnL
  rw [List.getElem?_map, List.getElem?_range h]
  rfl
theorem fnL_set {n e : Nat} {f f' : Nat → Nat} {z : Int} (h : e < n) (he : (f' e : Int) = z) (ho : ∀ i, i ≠ e → f' i = f i) : (fnL n f).set e (V.int z) = fnL n f' := by
  refine List.ext_getElem? fun i => ?_
  by_cases hi : i < n
  · rw [fnL_get hi, List.getElem?_set]
    by_cases ei : e = i
    · subst ei
      rw [if_pos rfl, if_pos (by rw [fnL_len]; exact h), he]
    · rw [if_neg ei, fnL_get hi, ho i (fun z => ei z.symm)]
  · rw [List.getElem?_eq_none (by rw [List.length_set, fnL_len]; omega), List.getElem?_eq_none (by rw [fnL_len]; omega)]
theorem fnL_zero (n : Nat) (f : Nat → Nat) (h : ∀ e, f e = 0) : (List.replicate n [V.int 0]).flatten = fnL n f := by
  have e : f = fun _ => 0 := funext h
  subst e
  unfold fnL
  induction n with
  | zero => rfl
  | succ n ih =>
    rw [List.replicate_succ', List.flatten_append, ih, List.range_succ, List.map_append]
    rfl
def spOrder (K : PySem.W.Frag) : Sp := fun vs H Q _ => ∃ (n : Nat) (lw : Addr) (ws : List Wr), vs = [.int (n : Nat), .ref lw] ∧ RW K H lw ws ∧ (∀ x ∈ ws, x.1 < n ∧ x.2.1 < n) ∧ n ≤ 1000 ∧ ws.length ≤ 1000 ∧
  ∀ (ord : List Nat) (p : Addr) (H' : Hp), Ord n ws ord → Same H H' → H p = none → H' p = some (.lst (ord.map fun i => V.int (i : Nat))) → Q (.ref p) H'
def spAlong (K : PySem.W.Frag) : Sp := fun vs H Q _ => ∃ (n : Nat) (lb : Addr) (bv : List V) (B : List (Nat × Nat)), vs = [.int (n : Nat), .ref lb] ∧ SqL K H lb bv ∧ All2 (PairV K H) bv B ∧ (∀ b ∈ B, b.1 < n ∧ b.2 < n) ∧ n ≤ 1000 ∧ B.length ≤ 1000 ∧
  ∀ (ord : List Nat) (p : Addr) (H' : Hp), KI B n ord ord.length → Same H H' → H p = none → H' p = some (.lst (ord.map fun i => V.int (i : Nat))) → Q (.ref p) H'
abbrev nAlong : List Str := ["many", "pairs", "missing", "start", "end", "placed", "done", "place"]
theorem scAlong : FnScope nAlong ["many", "pairs"] (defScope sAlong) := ⟨rfl, rfl, rfl, by decide +kernel, rfl, by decide +kernel, by decide +kernel⟩
abbrev nOrder : List Str := ["many_gates", "wires", "start", "end", "held"]
theorem scOrder : FnScope nOrder ["many_gates", "wires"] (defScope sOrder) := ⟨rfl, rfl, rfl, by decide +kernel, rfl, by decide +kernel, by decide +kernel⟩
theorem bare_take {ws : List Wr} {i : Nat} {x : Wr} (h : ws[i]? = some x) : bare (ws.take (i + 1)) = if x.2.2.isEmpty then bare (ws.take i) ++ [(x.1, x.2.1)] else bare (ws.take i) := by
  unfold bare
  rw [List.take_add_one, h]
  show ((ws.take i ++ [x]).filter _).map _ = _
  rw [List.filter_append]
  by_cases e : x.2.2.isEmpty
  · rw [if_pos e, List.filter_cons, if_pos e, List.map_append]
    rfl
  · rw [if_neg e, List.filter_cons, if_neg e, List.filter_nil, List.append_nil]
theorem bare_len (ws : List Wr) : (bare ws).length ≤ ws.length := by
  unfold bare
  rw [List.length_map]
  exact List.length_filter_le _ _
theorem mis_take {B : List (Nat × Nat)} {i : Nat} {b : Nat × Nat} (h : B[i]? = some b) (e : Nat) : mis (B.take (i + 1)) [] e = mis (B.take i) [] e + if b.2 = e then 1 else 0 := by
  unfold mis
  rw [List.take_add_one, h]
  show (B.take i ++ [b]).countP _ = _
  rw [List.countP_append, List.countP_cons, List.countP_nil]
  by_cases h1 : b.2 = e <;> simp [h1]
section
variable {P : Program} {w : World} {K : PySem.W.Frag} {mg : Str → Option Value} {base : Heap}
abbrev DAlong (P : Program) (w : World) (K : PySem.W.Frag) (mg : Str → Option Value) (base : Heap) := Df P w K mg base 1 "order_along" ["many", "pairs"] (spAlong K)
theorem ok_along {f : Addr} {fd : FuncData} (F : Fun K "order_along" "order_along" sAlong f fd) (hm : mg "order_along" = some (.ref f)) (Bb : Bt mg) : DAlong P w K mg base f fd := by
  refine ⟨?_, hm, F.kp, F.binds fun _ _ _ _ _ _ us hl => match us, hl with | [_, _], _ => rfl⟩
  refine F.ok scAlong (fun vs H Q E h => ?_) (fun cdv A outer s H vs Q E hr h => ?_)
  · obtain ⟨n, lb, bv, B, rfl, _⟩ := h
    rfl
  · obtain ⟨n, lb, bv, B, rfl, sb, ba1, hBlt, hn, hwl, q⟩ := h
    have nd := scAlong.nd
    refine ⟨_, pss_cons (ps_set (i := 2) nd rfl (Or.inr rfl) (pe_op op_rep (pe_lst (pa_cons pe_int pa_nil)) (pv 0))) <|
      pss_cons (ps_for PassesOwn.never rfl (pi_list (pv 1)) (pg_tup rfl (pgs_cons (pg_name (i := 3) nd rfl (Or.inl rfl)) (pgs_cons (pg_name (i := 4) nd rfl (Or.inl rfl)) pgs_nil)))
        (pss_one (ps_augS (pv 2) (pv 4) get_list pe_int ip_add set_list))) <|
      pss_cons (ps_setLc (i := 5) (own := [("place", 7)]) (g := gName 7) (tt := tTest (tOp rEq (tOp (rIxL K) (tVar 2) (tVar 7)) (tC (.int 0)))) (te := tVar 7) rfl nd rfl rfl (sw_true rfl rfl rfl (by decide +kernel))
          (pi_range1 (by rfl) Bb.range (pa_cons (pv 0) pa_nil)) (blkOk_by (N := nAlong) (sc := defScope sAlong) (own := [("place", 7)]) (by decide +kernel)) (fun _ _ _ _ _ => pg_name (i := 7) nd rfl (Or.inl rfl))
          (fun _ _ _ _ _ => pts_one (pt_cmpR op_eq (pe_ix ix_list (pv 2) (pv 7) (fun _ _ => rfl)) pe_int (nomark _))) (fun _ _ _ _ _ => pv 7)) <|
      pss_cons (ps_set (i := 6) nd rfl (Or.inl rfl) pe_int) <|
      pss_cons (ps_while PassesOwn.never (pt_cmpR op_lt (pv 6) (pe_callB call_len_seq (by rfl) Bb.len PySem.boot_len (pa_cons (pv 5) pa_nil)) (nomark _)) <|
        pss_cons (ps_for PassesOwn.never rfl (pi_list (pv 1)) (pg_tup rfl (pgs_cons (pg_name (i := 3) nd rfl (Or.inl rfl)) (pgs_cons (pg_name (i := 4) nd rfl (Or.inl rfl)) pgs_nil))) <|
          pss_one <| ps_if (pt_cmpR op_eq (pv 3) (pe_ix ix_list (pv 5) (pv 6) (fun _ _ => rfl)) (nomark _))
            (pss_cons (ps_augS (pv 2) (pv 4) get_list pe_int ip_sub set_list) <| pss_one <| ps_if (pt_cmpR op_eq (pe_ix ix_list (pv 2) (pv 4) (fun _ _ => rfl)) pe_int (nomark _))
              (pss_one (ps_expr (pe_bm PySem.F.plainAttrs_list PySem.F.slot_list_append PySem.F.type_list_append mt_append (pv 5) (pa_cons (pv 4) pa_nil)))) pss_nil) pss_nil) <|
        pss_one <| ps_aug (i := 6) nd rfl (Or.inl rfl) pe_int ip_add) <|
      pss_one <| ps_ret (pv 5), ?_⟩
    have hbl : bv.length ≤ 1000 := by
      rw [ba1.1]
      omega
    -- missing = [0] * many_gates
    refine ⟨(by show 1 ≤ sizeLine; decide), fun l0 hl0 => ?_⟩
    have sm2 : Same H (upd H l0 (.lst [.int 0])) := same_new hl0
    refine ⟨_, rfl, l0, _, _, rfl, rfl, upd_same, by omega, by omega, ?_, fun lm hlm => ?_⟩
    · show 1 * _ ≤ sizeLine
      have : 1 * ((n : Int)).toNat ≤ 1000 := by omega
      exact Nat.le_of_lt (small1000 this)
    rw [Int.toNat_natCast, fnL_zero n (mis (B.take 0) []) (fun e => by simp [mis])]
    have sm3 : Same H (upd (upd H l0 (.lst [.int 0])) lm (.lst (fnL n (mis (B.take 0) [])))) := sm2.trans (same_new hlm)
    have hm1 : H lm = none := sm2.free hlm
    -- for start, end in bare: missing[end] += 1
    refine ⟨_, rfl, lb, rfl, ⟨_, sm3.seq sb⟩, for_list (K := K) (a := lb) (xs := bv) (fun i σ H4 => ∃ s4 s5 : Option V, σ = [some (.int (n : Nat)), some (.ref lb), some (.ref lm), s4, s5, none, none, none] ∧
        H4 lm = some (.lst (fnL n (mis (B.take i) []))) ∧ Same H H4) ⟨_, _, rfl, upd_same, sm3⟩ (fun i σ H4 _ ⟨_, _, _, _, sm⟩ => sm.seq sb) ?_ ?_⟩
    · rintro i x σ H4 hx ⟨s4, s5, rfl, hml, sm4⟩
      obtain ⟨b, hbb, a, rfl, sq⟩ := ba1.get hx
      have hlt := hBlt b (List.mem_of_getElem? hbb)
      refine ⟨a, _, rfl, (TK.same sm4).seq sq, rfl, _, _, rfl, _, _, rfl, rfl, ?_⟩
      refine ⟨_, rfl, _, rfl, lm, _, b.2, _, rfl, rfl, SqL.of hml, fnL_get hlt.2, _, _, rfl, rfl, lm, _, _, b.2, rfl, rfl, hml, Evl.ixN_nat (by rw [fnL_len]; exact hlt.2), ?_⟩
      refine ⟨_, _, rfl, ?_, same_mut sm4 hm1⟩
      rw [upd_same]
      refine congrArg (fun z => some (HO.lst z)) (fnL_set hlt.2 ?_ ?_)
      · rw [mis_take hbb, if_pos rfl]
        show ((mis (B.take i) [] b.2 + 1 : Nat) : Int) = ((mis (B.take i) [] b.2 : Nat) : Int) + 1
        omega
      · intro j hj
        rw [mis_take hbb, if_neg (fun z => hj z.symm)]
        rfl
    · rintro σ H4 ⟨s4, s5, rfl, hml, sm4⟩
      rw [ba1.1, List.take_length] at hml
      -- placed = [gate for gate in range(many_gates) if missing[gate] == 0]
      refine ⟨_, rfl, _, rfl, by omega, by omega, fun lp hlp => ?_⟩
      refine lc_range (lo := 0) (n := ((n : Int)).toNat) (fun i Hc => Hc lp = some (.lst (((List.range i).filter fun e => mis B [] e == 0).map fun i => V.int (i : Nat))) ∧ Same H4 Hc) ⟨upd_same, same_new hlp⟩ ?_ ?_
      · rintro i Hc hi ⟨hc, sm⟩
        have hi' : i < n := by omega
        have hlen : (((List.range i).filter fun e => mis B [] e == 0).map fun i => V.int (i : Nat)).length ≤ 1000 := by
          rw [List.length_map]
          have := List.length_filter_le (fun e => mis B [] e == 0) (List.range i)
          rw [List.length_range] at this
          omega
        have e0 : (0 : Int) + (i : Int) = (i : Int) := Int.zero_add _
        rw [e0]
        refine ⟨rfl, ?_⟩
        refine ⟨_, rfl, _, rfl, lm, _, _, _, rfl, rfl, SqL.of (sm _ _ hml), atI_nat (fnL_get hi'), rfl, _, rfl, ite2 (fun e => ?_) (fun e => ?_)⟩
        · have hz : mis B [] i = 0 := by
            have := V.int.inj (of_decide_eq_true e)
            omega
          refine ⟨_, rfl, _, hc, Nat.lt_of_le_of_lt hlen (small1000 (Nat.le_refl _)), ?_, same_mut sm hlp⟩
          rw [upd_same, List.range_succ, List.filter_append, List.map_append, List.filter_cons, if_pos (by rw [hz]; rfl)]
          rfl
        · have hz : ¬ (mis B [] i == 0) = true := fun z => by
            apply e
            rw [beq_iff_eq] at z
            rw [z]
            rfl
          refine ⟨?_, sm⟩
          rw [List.range_succ, List.filter_append, List.filter_cons, if_neg hz, List.filter_nil, List.append_nil]
          exact hc
      · rintro H5 ⟨hp5, sm5⟩
        rw [Int.toNat_natCast] at hp5
        have k0 : KI B n ((List.range n).filter fun e => mis B [] e == 0) 0 := by
          refine ⟨List.nodup_range.sublist List.filter_sublist, fun e he => List.mem_range.mp (List.mem_filter.mp he).1, Nat.zero_le _, fun e he => ?_, fun j e hj b hb hbe => ?_⟩
          · rw [List.mem_filter, List.take_zero]
            simp [he]
          · have hm0 := (List.mem_filter.mp (List.mem_of_getElem? hj)).2
            rw [beq_iff_eq] at hm0
            have := mis_zero hm0 hb hbe
            simp at this
        -- the while
        have hp0 : H lp = none := sm4.free hlp
        refine ⟨fun m σ H6 => ∃ (placed : List Nat) (d : Nat) (s4 s5 : Option V), σ = [some (.int (n : Nat)), some (.ref lb), some (.ref lm), s4, s5, some (.ref lp), some (.int (d : Nat)), none] ∧
          KI B n placed d ∧ H6 lp = some (.lst (placed.map fun i => V.int (i : Nat))) ∧ H6 lm = some (.lst (fnL n (mis B (placed.take d)))) ∧ Same H H6 ∧ m = n - d, ?_, ?_⟩
        · have h5m := sm5 _ _ hml
          have e0 : mis B [] = mis B (((List.range n).filter fun e => mis B [] e == 0).take 0) := by rw [List.take_zero]
          rw [e0] at h5m
          exact ⟨n, _, 0, _, _, rfl, k0, hp5, h5m, sm4.trans sm5, rfl⟩
        · rintro m σ H6 ⟨placed, d, s4, s5, rfl, ki, hp6, hm6, sm6, rfl⟩
          have hp1 : H lp = none := sm4.free hlp
          have npm : lp ≠ lm := fun z => by
            rw [z, hml] at hlp
            cases hlp
          refine ⟨_, rfl, _, rfl, lp, _, rfl, .inl (SqL.of hp6), _, _, rfl, rfl, _, rfl, ite2 (fun e => ?_) (fun e => ?_)⟩
          · have hd : d < placed.length := by
              have e' : (d : Int) < ((placed.map fun i => V.int (i : Nat)).length : Int) := of_decide_eq_true e
              rw [List.length_map] at e'
              omega
            have hpl : ∀ placed : List Nat, placed.Nodup → (∀ e ∈ placed, e < n) → placed.length ≤ n := fun l hnd hlt => by
              have h1 : l.length = (l.filter fun e => decide (e < n)).length := by
                rw [List.filter_eq_self.mpr]
                intro a ha
                exact decide_eq_true (hlt a ha)
              have h2 := List.Nodup.length_le_of_subset hnd (l₂ := List.range n) (fun a ha => List.mem_range.mpr (hlt a ha))
              rw [List.length_range] at h2
              exact h2
            have hdn := hpl placed ki.nd ki.lt
            have hg : placed[d]? = some placed[d] := List.getElem?_eq_getElem hd
            refine ⟨fun σ H7 => ∃ (placed : List Nat) (s4 s5 : Option V), σ = [some (.int (n : Nat)), some (.ref lb), some (.ref lm), s4, s5, some (.ref lp), some (.int ((d : Nat) + 1)), none] ∧
              KI B n placed (d + 1) ∧ H7 lp = some (.lst (placed.map fun i => V.int (i : Nat))) ∧ H7 lm = some (.lst (fnL n (mis B (placed.take (d + 1))))) ∧ Same H H7, ?_, ?_⟩
            · rintro σ' H' ⟨placed', t4, t5, rfl, ki', hp', hm', sm'⟩
              exact ⟨n - (d + 1), by omega, placed', d + 1, t4, t5, rfl, ki', hp', hm', sm', rfl⟩
            · have e1 : mis B (placed.take d) = fun e => mis B (placed.take (d + 1)) e + frm (B.drop 0) placed[d] e := funext fun e => by
                rw [take_add hg, List.drop_zero]
                exact mis_split (nodup_take ki.nd hg) e
              rw [e1] at hm6
              generalize placed[d] = g at hg hm6
              refine ⟨_, rfl, lb, rfl, ⟨_, sm6.seq sb⟩, for_list (K := K) (a := lb) (xs := bv) (fun j σ H7 => ∃ (placed : List Nat) (s4 s5 : Option V), σ = [some (.int (n : Nat)), some (.ref lb), some (.ref lm), s4, s5, some (.ref lp), some (.int (d : Nat)), none] ∧
                  KJ B n placed d g j ∧ H7 lp = some (.lst (placed.map fun i => V.int (i : Nat))) ∧ H7 lm = some (.lst (fnL n fun e => mis B (placed.take (d + 1)) e + frm (B.drop j) g e)) ∧ Same H H7)
                ⟨placed, _, _, rfl, ki.go hg, hp6, hm6, sm6⟩ (fun i σ H4 _ ⟨_, _, _, _, _, _, _, sm⟩ => sm.seq sb) ?_ ?_⟩
              · rintro j x σ H7 hx ⟨placed, s4, s5, rfl, kj, hp7, hm7, sm7⟩
                obtain ⟨b, hbb, a, rfl, sq⟩ := ba1.get hx
                have hlt := hBlt b (List.mem_of_getElem? hbb)
                refine ⟨a, _, rfl, (TK.same sm7).seq sq, rfl, _, _, rfl, _, _, rfl, rfl, ?_⟩
                refine ⟨_, rfl, _, rfl, _, rfl, lp, _, _, _, rfl, rfl, SqL.of hp7, atI_nat (j := d) (by rw [List.getElem?_map, kj.at_]; rfl), rfl, _, rfl, ite2 (fun e => ?_) (fun e => ?_)⟩
                · have hbg : b.1 = g := by
                    have := V.int.inj (of_decide_eq_true e)
                    omega
                  have hfd : ∀ e, frm (B.drop j) g e = frm (B.drop (j + 1)) g e + if b.1 = g ∧ b.2 = e then 1 else 0 := fun e => frm_drop hbb g e
                  refine ⟨_, rfl, _, rfl, lm, _, b.2, _, rfl, rfl, SqL.of hm7, fnL_get hlt.2, _, _, rfl, rfl, lm, _, _, b.2, rfl, rfl, hm7, Evl.ixN_nat (by rw [fnL_len]; exact hlt.2), ?_⟩
                  have e2 : (fnL n fun e => mis B (placed.take (d + 1)) e + frm (B.drop j) g e).set b.2 (V.int (((mis B (placed.take (d + 1)) b.2 + frm (B.drop j) g b.2 : Nat) : Int) - 1)) = fnL n fun e => mis B (placed.take (d + 1)) e + frm (B.drop (j + 1)) g e := by
                    refine fnL_set hlt.2 ?_ ?_
                    · rw [hfd, if_pos ⟨hbg, rfl⟩]
                      omega
                    · intro i hi
                      rw [hfd, if_neg (fun z => hi z.2.symm)]
                      rfl
                  have hm8 : (upd H7 lm (.lst (fnL n fun e => mis B (placed.take (d + 1)) e + frm (B.drop (j + 1)) g e))) lm = some (.lst (fnL n fun e => mis B (placed.take (d + 1)) e + frm (B.drop (j + 1)) g e)) := upd_same
                  rw [← e2] at hm8
                  have hp8 : (upd H7 lm (.lst ((fnL n fun e => mis B (placed.take (d + 1)) e + frm (B.drop j) g e).set b.2 (V.int (((mis B (placed.take (d + 1)) b.2 + frm (B.drop j) g b.2 : Nat) : Int) - 1))))) lp = some (.lst (placed.map fun i => V.int (i : Nat))) := by
                    rw [upd_ne npm]
                    exact hp7
                  have sm8 := same_mut (p := lm) (o := .lst ((fnL n fun e => mis B (placed.take (d + 1)) e + frm (B.drop j) g e).set b.2 (V.int (((mis B (placed.take (d + 1)) b.2 + frm (B.drop j) g b.2 : Nat) : Int) - 1)))) sm7 hm1
                  have hg8 : ((fnL n fun e => mis B (placed.take (d + 1)) e + frm (B.drop j) g e).set b.2 (V.int (((mis B (placed.take (d + 1)) b.2 + frm (B.drop j) g b.2 : Nat) : Int) - 1)))[b.2]? = some (V.int ((mis B (placed.take (d + 1)) b.2 + frm (B.drop (j + 1)) g b.2 : Nat) : Int)) := by
                    rw [e2]
                    exact fnL_get hlt.2
                  have hm9 := hm8
                  rw [e2] at hm9
                  refine ⟨_, rfl, _, rfl, lm, _, _, _, rfl, rfl, SqL.of upd_same, atI_nat hg8, rfl, _, rfl, ite2 (fun e3 => ?_) (fun e3 => ?_)⟩
                  · have hz : mis B (placed.take (d + 1)) b.2 + frm (B.drop (j + 1)) g b.2 = 0 := by
                      have := V.int.inj (of_decide_eq_true e3)
                      omega
                    have hlp1 := hpl placed kj.nd kj.lt
                    have hdl : d < placed.length := (List.getElem?_eq_some_iff.mp kj.at_).1
                    refine ⟨_, rfl, .inl ⟨rfl, _, SqL.of hp8⟩, _, rfl, lp, _, _, rfl, rfl, hp8, by rw [List.length_map]; exact small1000 (by omega), ?_⟩
                    refine ⟨placed ++ [b.2], _, _, rfl, kj.put hbb hbg hlt.2 hz, ?_, ?_, same_mut sm8 hp1⟩
                    · rw [upd_same, List.map_append]
                      rfl
                    · rw [upd_ne npm.symm, List.take_append_of_le_length (by omega), ← e2]
                      exact upd_same
                  · have hz : mis B (placed.take (d + 1)) b.2 + frm (B.drop (j + 1)) g b.2 ≠ 0 := fun z => by
                      apply e3
                      rw [z]
                      rfl
                    refine ⟨placed, _, _, rfl, kj.not hbb hbg hz, hp8, ?_, sm8⟩
                    rw [← e2]
                    exact upd_same
                · have hbg : b.1 ≠ g := fun z => by
                    apply e
                    rw [z]
                    exact decide_eq_true rfl
                  refine ⟨placed, _, _, rfl, kj.skip hbb hbg, hp7, ?_, sm7⟩
                  have : (fun e => mis B (placed.take (d + 1)) e + frm (B.drop (j + 1)) g e) = fun e => mis B (placed.take (d + 1)) e + frm (B.drop j) g e := funext fun e => by
                    rw [frm_drop hbb, if_neg (fun z => hbg z.1)]
                    rfl
                  rw [this]
                  exact hm7
              · rintro σ H7 ⟨placed, s4, s5, rfl, kj, hp7, hm7, sm7⟩
                rw [ba1.1] at kj hm7
                refine ⟨_, rfl, _, _, rfl, rfl, placed, _, _, rfl, kj.done, hp7, ?_, sm7⟩
                rw [List.drop_length] at hm7
                exact hm7
          · have hd : d = placed.length := by
              have e' : ¬ (d : Int) < ((placed.map fun i => V.int (i : Nat)).length : Int) := fun z => e (decide_eq_true z)
              rw [List.length_map] at e'
              have := ki.le
              omega
            subst hd
            exact ⟨_, rfl, q placed lp H6 ki sm6 hp0 hp6⟩
abbrev DOrder (P : Program) (w : World) (K : PySem.W.Frag) (mg : Str → Option Value) (base : Heap) := Df P w K mg base 2 "bare_order" ["many_gates", "wires"] (spOrder K)
theorem ok_order {f fA : Addr} {fd fdA : FuncData} (F : Fun K "bare_order" "bare_order" sOrder f fd) (hm : mg "bare_order" = some (.ref f)) (B : Bt mg) (DA : DAlong P w K mg base fA fdA) : DOrder P w K mg base f fd := by
  refine ⟨?_, hm, F.kp, F.binds fun _ _ _ _ _ _ us hl => match us, hl with | [_, _], _ => rfl⟩
  refine F.ok scOrder (fun vs H Q E h => ?_) (fun cdv A outer s H vs Q E hr h => ?_)
  · obtain ⟨n, lw, ws, rfl, _⟩ := h
    rfl
  · obtain ⟨n, lw, ws, rfl, ⟨wv, sw, wa⟩, hws, hn, hwl, q⟩ := h
    have nd := scOrder.nd
    refine ⟨_, pss_one <| ps_ret <| pe_call DA.ok hr (by rfl) DA.mg DA.kp DA.bd .nil pass0 <| pa_cons (pv 0) <| (pa_cons · pa_nil) <|
      pe_lc (own := [("start", 2), ("end", 3), ("held", 4)]) (g := gTup K 3 (gCons (gName 2) (gCons (gName 3) (gCons (gName 4) gNil)))) (tt := tTest (tOp rEq (tCB (Evl.rLenS K) (tCons (tVar 4) tNil)) (tC (.int 0)))) (te := tTup (tCons (tVar 2) (tCons (tVar 3) tNil))) rfl nd
        (pi_list (pv 1)) (blkOk_by (N := nOrder) (sc := defScope sOrder) (own := [("start", 2), ("end", 3), ("held", 4)]) (by decide +kernel))
        (fun _ _ _ _ _ => pg_tup rfl (pgs_cons (pg_name (i := 2) nd rfl (Or.inl rfl)) (pgs_cons (pg_name (i := 3) nd rfl (Or.inl rfl)) (pgs_cons (pg_name (i := 4) nd rfl (Or.inl rfl)) pgs_nil))))
        (fun _ _ _ _ _ => pts_one (pt_cmpR op_eq (pe_callB call_len_seq (by rfl) B.len PySem.boot_len (pa_cons (pv 4) pa_nil)) pe_int (nomark _)))
        (fun _ _ _ _ _ => pe_tup (pa_cons (pv 2) (pa_cons (pv 3) pa_nil))), ?_⟩
    have hlw : wv.length = ws.length := wa.1
    -- bare = [..]
    refine ⟨_, rfl, _, rfl, lw, rfl, ⟨_, sw⟩, fun lb hlb => ?_⟩
    refine lc_list (K := K) (a := lw) (xs := wv) (fun i Hc => ∃ bv, Hc lb = some (.lst bv) ∧ All2 (PairV K Hc) bv (bare (ws.take i)) ∧ Same H Hc) ⟨[], upd_same, by simpa [bare] using All2.nil, same_new hlb⟩ (fun i Hc _ ⟨_, _, _, sm⟩ => sm.seq sw) ?_ ?_
    · rintro i x Hc hx ⟨bv, hb, ba, sm⟩
      obtain ⟨y, hy, a, b, rfl, sq1, sq2⟩ := wa.get hx
      have hyi : i < ws.length := (List.getElem?_eq_some_iff.mp hy).1
      have t := TK.same sm
      have hbl : bv.length ≤ 1000 := by
        rw [ba.1]
        have := bare_len (ws.take i)
        rw [List.length_take] at this
        omega
      refine ⟨a, _, rfl, t.seq sq1, rfl, _, _, rfl, _, _, rfl, _, _, rfl, rfl, rfl, ?_⟩
      refine ⟨_, rfl, b, _, rfl, .inr (t.seq sq2), rfl, _, rfl, ite2 (fun e => ?_) (fun e => ?_)⟩
      · have he : y.2.2.isEmpty = true := by
          have e' : (((y.2.2.map V.int).length : Nat) : Int) = 0 := V.int.inj (of_decide_eq_true e)
          rw [List.length_map] at e'
          rw [List.isEmpty_iff, ← List.length_eq_zero_iff]
          omega
        refine ⟨_, rfl, _, rfl, (by show 2 ≤ sizeLine; decide), fun p hp => ?_⟩
        have smp : Same Hc (upd Hc p (.tup [.int (y.1 : Nat), .int (y.2.1 : Nat)])) := same_new hp
        have npb : p ≠ lb := fun z => by
          rw [z, hb] at hp
          cases hp
        have t2 : TK Hc (upd (upd Hc p (.tup [.int (y.1 : Nat), .int (y.2.1 : Nat)])) lb (.lst (bv ++ [.ref p]))) := (TK.new hp).trans (TK.lst (smp _ _ hb))
        refine ⟨bv, smp _ _ hb, Nat.lt_of_le_of_lt hbl (small1000 (Nat.le_refl _)), bv ++ [.ref p], upd_same, ?_, same_mut (sm.trans smp) hlb⟩
        rw [bare_take hy, if_pos he]
        exact (ba.imp fun _ _ r => r.tk t2).snoc ⟨p, rfl, .inl (.inl (by rw [upd_ne npb]; exact upd_same))⟩
      · have he : ¬ y.2.2.isEmpty = true := fun z => by
          apply e
          rw [List.isEmpty_iff] at z
          rw [z]
          rfl
        exact ⟨bv, hb, by rw [bare_take hy, if_neg he]; exact ba, sm⟩
    · rintro H1 ⟨bv, hb1, ba1, sm1⟩
      rw [hlw, List.take_length] at ba1
      have hbl : bv.length ≤ 1000 := by
        rw [ba1.1]
        have := bare_len ws
        omega
      have hBlt : ∀ b ∈ bare ws, b.1 < n ∧ b.2 < n := by
        intro b hb
        obtain ⟨x, hx, rfl⟩ := List.mem_map.mp hb
        rw [List.mem_filter] at hx
        exact hws x hx.1
      exact ⟨n, lb, bv, bare ws, rfl, SqL.of hb1, ba1, hBlt, hn, by have := bare_len ws; omega, fun ord p H2 ki s2 hp h2 => q ord p H2 ki (sm1.trans s2) (sm1.free hp) h2⟩
end
end Lag

set_option maxRecDepth 100000
set_option maxHeartbeats 4000000
namespace Lag
open PySem PySem.Spec PyProof.Rows L2
abbrev sChkRings : Stmt := topS 39
abbrev sInit : Stmt := inClass (topS 32) 0
abbrev sEq : Stmt := inClass (topS 32) 1
def spChkRings (K : PySem.W.Frag) : Sp := fun vs H Q _ => ∃ (n : Nat) (lw : Addr) (ws : List Wr), vs = [.int (n : Nat), .ref lw] ∧ RW K H lw ws ∧ (∀ x ∈ ws, x.1 < n ∧ x.2.1 < n) ∧ n ≤ 1000 ∧ ws.length ≤ 1000 ∧
  (∃ ρ : Nat → Nat, ∀ x ∈ ws, x.2.2 = [] → ρ x.1 < ρ x.2.1) ∧ ∀ H', Same H H' → Q .non H'
/-! ### a net's object -/
def nf (lg lw : Addr) : List (Str × V) := putF "wires" (.ref lw) (putF "gates" (.ref lg) [])
theorem gw_ne : ¬ (("gates" : Str) = "wires") := by decide +kernel
theorem nf_eq (lg lw : Addr) : nf lg lw = ([("gates", V.ref lg), ("wires", V.ref lw)] : List (Str × V)) := by
  show (if ("gates" : Str) = "wires" then [(("gates" : Str), V.ref lw)] else (("gates" : Str), V.ref lg) :: putF "wires" (V.ref lw) []) = ([("gates", V.ref lg), ("wires", V.ref lw)] : List (Str × V))
  rw [if_neg gw_ne]
  all_goals rfl
theorem nf_gates (lg lw : Addr) : (nf lg lw).lookup ("gates" : Str) = some (.ref lg) := by
  unfold nf
  rw [lookup_putF, if_neg gw_ne, lookup_putF, if_pos rfl]
theorem nf_wires (lg lw : Addr) : (nf lg lw).lookup ("wires" : Str) = some (.ref lw) := by
  unfold nf
  rw [lookup_putF, if_pos rfl]
theorem nf_no (lg lw : Addr) {m : Str} (h1 : ¬ m = "wires") (h2 : ¬ m = "gates") : (nf lg lw).lookup m = none := by
  unfold nf
  rw [lookup_putF, if_neg h1, lookup_putF, if_neg h2]
  all_goals rfl
/-- the class as the top has made it -/
structure NT (K : PySem.W.Frag) (mg : Str → Option Value) (C : Addr) : Prop where
  cl : Cls K C
  nG : NoAttr K C "gates"
  nW : NoAttr K C "wires"
  mg : mg "Net" = some (.ref C)
/-- a net at p: its own lists at lg, lw -/
structure NetAt (K : PySem.W.Frag) (C : Addr) (H : Hp) (p lg lw : Addr) (gs : List Gt) (ws : List Wr) : Prop where
  ob : ∃ dx, H p = some (.ins C dx (nf lg lw))
  g : LG K H lg gs
  w : LW K H lw ws
  ne : lg ≠ lw
theorem LG.same {K : PySem.W.Frag} {H H' : Hp} {l : Addr} {gs : List Gt} (h : LG K H l gs) (s : Same H H') : LG K H' l gs := by
  obtain ⟨vs, q, a⟩ := h
  exact ⟨vs, s _ _ q, a.imp fun _ _ r => r.tk (TK.same s)⟩
theorem LW.same {K : PySem.W.Frag} {H H' : Hp} {l : Addr} {ws : List Wr} (h : LW K H l ws) (s : Same H H') : LW K H' l ws := by
  obtain ⟨vs, q, a⟩ := h
  exact ⟨vs, s _ _ q, a.imp fun _ _ r => r.tk (TK.same s)⟩
theorem LG.rg {K : PySem.W.Frag} {H : Hp} {l : Addr} {gs : List Gt} (h : LG K H l gs) : RG K H l gs := by
  obtain ⟨vs, q, a⟩ := h
  exact ⟨vs, SqL.of q, a⟩
theorem LW.rw {K : PySem.W.Frag} {H : Hp} {l : Addr} {ws : List Wr} (h : LW K H l ws) : RW K H l ws := by
  obtain ⟨vs, q, a⟩ := h
  exact ⟨vs, SqL.of q, a⟩
theorem NetAt.same {K : PySem.W.Frag} {C : Addr} {H H' : Hp} {p lg lw : Addr} {gs : List Gt} {ws : List Wr} (n : NetAt K C H p lg lw gs ws) (s : Same H H') : NetAt K C H' p lg lw gs ws := by
  obtain ⟨dx, h⟩ := n.ob
  exact ⟨⟨dx, s _ _ h⟩, n.g.same s, n.w.same s, n.ne⟩
def spInit (K : PySem.W.Frag) (C : Addr) : Sp := fun vs H Q _ => ∃ (p dx lg lw : Addr) (gs : List Gt) (ws : List Wr), vs = [.ref p, .ref lg, .ref lw] ∧ H p = some (.ins C dx []) ∧ RG K H lg gs ∧ RW K H lw ws ∧ NetOk gs ws ∧
  ∀ (H' : Hp) (lg' lw' : Addr), NetAt K C H' p lg' lw' gs ws → H lg' = none → H lw' = none → (∀ b o, H b = some o → b ≠ p → H' b = some o) → Q .non H'
section
variable {P : Program} {w : World} {K : PySem.W.Frag} {mg : Str → Option Value} {base : Heap}
theorem scChkRings : FnScope ["many_gates", "wires", "placed"] ["many_gates", "wires"] (defScope sChkRings) := ⟨rfl, rfl, rfl, by decide +kernel, rfl, by decide +kernel, by decide +kernel⟩
abbrev DChkRings (P : Program) (w : World) (K : PySem.W.Frag) (mg : Str → Option Value) (base : Heap) := Df P w K mg base 3 "check_rings" ["many_gates", "wires"] (spChkRings K)
theorem ok_chkRings {f fO : Addr} {fd fdO : FuncData} (F : Fun K "check_rings" "check_rings" sChkRings f fd) (hm : mg "check_rings" = some (.ref f)) (B : Bt mg) (DO : DOrder P w K mg base fO fdO) : DChkRings P w K mg base f fd := by
  refine ⟨?_, hm, F.kp, F.binds fun _ _ _ _ _ _ us hl => match us, hl with | [_, _], _ => rfl⟩
  refine F.ok scChkRings (fun vs H Q E h => ?_) (fun cdv A outer s H vs Q E hr h => ?_)
  · obtain ⟨n, lw, ws, rfl, _⟩ := h
    rfl
  · obtain ⟨n, lw, ws, rfl, R, hws, hn, hwl, rk, q⟩ := h
    have nd := scChkRings.nd
    refine ⟨_, pss_cons (ps_set (i := 2) nd rfl (Or.inl rfl) (pe_call DO.ok hr (by rfl) DO.mg DO.kp DO.bd .nil pass0 (pa_cons (pv 0) (pa_cons (pv 1) pa_nil)))) <|
      pss_one <| ps_if (pt_cmpR op_lt (pe_callB call_len_seq (by rfl) B.len PySem.boot_len (pa_cons (pv 2) pa_nil)) (pv 0) (nomark _)) (pss_one ps_never) pss_nil, ?_⟩
    refine ⟨_, rfl, _, rfl, n, lw, ws, rfl, R, hws, hn, hwl, fun ord p H1 ho sm hp h1 => ?_⟩
    have hpl : ord.length = n := by rw [(ho.full hws rk).length_eq, List.length_range]
    refine ⟨_, rfl, p, _, rfl, .inl (SqL.of h1), _, rfl, _, _, rfl, rfl, false, ?_, iteF (q H1 sm)⟩
    show V.bl (decide (((ord.map fun i => V.int (i : Nat)).length : Int) < (n : Int))) = V.bl false
    rw [decide_eq_false]
    rw [List.length_map, hpl]
    omega
theorem scInit : FnScope ["self", "gates", "wires"] ["self", "gates", "wires"] (defScope sInit) := ⟨rfl, rfl, rfl, by decide +kernel, rfl, by decide +kernel, by decide +kernel⟩
theorem ok_init {f fG fW fR C : Addr} {fd fdG fdW fdR : FuncData} (F : Fun K "__init__" "Net.__init__" sInit f fd) (T : NT K mg C) (B : Bt mg) (DG : DChkGates P w K mg base fG fdG) (DW : DChkWires P w K mg base fW fdW) (DR : DChkRings P w K mg base fR fdR) :
    FnOk P w K mg base CX0 6 f fd ["self", "gates", "wires"] (spInit K C) := by
  refine F.ok scInit (fun vs H Q E h => ?_) (fun cdv A outer s H vs Q E hr h => ?_)
  · obtain ⟨p, dx, lg, lw, gs, ws, rfl, _⟩ := h
    rfl
  · obtain ⟨p, dx, lg, lw, gs, ws, rfl, hp, RGs, RWs, N, q⟩ := h
    have hr4 : Room 4 _ := hr.mono (by decide)
    have hr2 : Room 3 _ := hr.mono (by decide)
    refine ⟨_, pss_cons (ps_expr (pe_call DG.ok hr4 (by rfl) DG.mg DG.kp DG.bd .nil pass0 (pa_cons (pv 1) pa_nil))) <|
      pss_cons (ps_expr (pe_call DW.ok hr (by rfl) DW.mg DW.kp DW.bd .nil pass0 (pa_cons (pv 1) (pa_cons (pv 2) pa_nil)))) <|
      pss_cons (ps_expr (pe_call DR.ok hr2 (by rfl) DR.mg DR.kp DR.bd .nil pass0 (pa_cons (pe_callB call_len_seq (by rfl) B.len PySem.boot_len (pa_cons (pv 1) pa_nil)) (pa_cons (pv 2) pa_nil)))) <|
      pss_cons (ps_fld (pv 0) (pe_callTy call_list_of (by rfl) B.list (by decide +kernel) (pa_cons (pv 1) pa_nil)) rfl) <|
      pss_one (ps_fld (pv 0) (pe_callTy call_list_of (by rfl) B.list (by decide +kernel) (pa_cons (pv 2) pa_nil)) rfl), ?_⟩
    refine ⟨_, rfl, lg, gs, rfl, RGs, N.ne, N.gok, fun H1 sm1 => ?_⟩
    refine ⟨_, rfl, _, rfl, lg, lw, gs, ws, rfl, RGs.same sm1, RWs.same sm1, N, fun H2 sm2 => ?_⟩
    have s2 := sm1.trans sm2
    obtain ⟨gv, sg, ga⟩ := RGs.same s2
    have hlg : gv.length = gs.length := ga.1
    refine ⟨_, rfl, lg, gv, rfl, .inl sg, _, rfl, gv.length, lw, ws, rfl, RWs.same s2, fun x hx => ?_, by have := N.gl; omega, N.wl, N.rank, fun H3 sm3 => ?_⟩
    · rw [hlg]
      exact ⟨(N.wok x hx).s, (N.wok x hx).e⟩
    have s3 := s2.trans sm3
    obtain ⟨gv3, sg3, ga3⟩ := RGs.same s3
    obtain ⟨wv3, sw3, wa3⟩ := RWs.same s3
    have hp3 := s3 _ _ hp
    refine ⟨_, rfl, lg, gv3, rfl, .inl sg3, fun l1 hl1 => ?_⟩
    have np1 : p ≠ l1 := ne_of_none hp3 hl1
    have sm4 : Same H3 (upd H3 l1 (.lst gv3)) := same_new hl1
    refine ⟨_, rfl, p, C, dx, [], rfl, sm4 _ _ hp3, T.cl, T.nG, (by show 0 < 1000; decide), ?_⟩
    have hw4 : SqL K (upd (upd H3 l1 (.lst gv3)) p (.ins C dx (putF "gates" (.ref l1) []))) lw wv3 := by
      rcases sm4.seq sw3 with (h | ⟨o, h⟩) | h
      · have n : lw ≠ p := fun z => by
          rw [z, sm4 _ _ hp3] at h
          cases h
        exact .inl (.inl (by rw [upd_ne n]; exact h))
      · have n : lw ≠ p := fun z => by
          rw [z, sm4 _ _ hp3] at h
          cases h
        exact .inl (.inr ⟨o, by rw [upd_ne n]; exact h⟩)
      · exact .inr h
    refine ⟨_, rfl, lw, wv3, rfl, .inl hw4, fun l2 hl2 => ?_⟩
    have np2 : p ≠ l2 := fun z => by
      rw [← z, upd_same] at hl2
      cases hl2
    have h11 : (upd (upd H3 l1 (.lst gv3)) p (.ins C dx (putF "gates" (.ref l1) []))) l1 = some (.lst gv3) := by
      rw [upd_ne np1.symm]
      exact upd_same
    have n12 : l1 ≠ l2 := ne_of_none h11 hl2
    have hl2' : H3 l2 = none := by
      rw [upd_ne np2.symm, upd_ne n12.symm] at hl2
      exact hl2
    refine ⟨_, rfl, p, C, dx, _, rfl, (by rw [upd_ne np2]; exact upd_same), T.cl, T.nW, (by show 1 < 1000; decide), ?_⟩
    have keep : ∀ b o, b ≠ p → H3 b = some o → (upd (upd (upd (upd H3 l1 (.lst gv3)) p (.ins C dx (putF "gates" (.ref l1) []))) l2 (.lst wv3)) p (.ins C dx (putF "wires" (.ref l2) (putF "gates" (.ref l1) [])))) b = some o := fun b o nb e => by
      rw [upd_ne nb, upd_ne (ne_of_none e hl2'), upd_ne nb, upd_ne (ne_of_none e hl1)]
      exact e
    have tk : TK H3 (upd (upd (upd (upd H3 l1 (.lst gv3)) p (.ins C dx (putF "gates" (.ref l1) []))) l2 (.lst wv3)) p (.ins C dx (putF "wires" (.ref l2) (putF "gates" (.ref l1) [])))) := fun b o t e => keep b o (fun z => by
      rw [z, hp3] at e
      cases e
      exact t) e
    refine q _ l1 l2 ⟨⟨dx, upd_same⟩, ⟨gv3, ?_, ga3.imp fun _ _ r => r.tk tk⟩, ⟨wv3, ?_, wa3.imp fun _ _ r => r.tk tk⟩, n12⟩ (s3.free hl1) (s3.free hl2') fun b o e nb => keep b o nb (s3 _ _ e)
    · rw [upd_ne np1.symm, upd_ne n12, upd_ne np1.symm]
      exact upd_same
    · rw [upd_ne np2.symm]
      exact upd_same
end
end Lag

set_option maxRecDepth 100000
set_option maxHeartbeats 4000000
namespace Lag
open PySem PySem.Spec PyProof.Rows L2
/-! ### == and != by an own __eq__, whatever the other thing is -/
section
variable {X : Cx} {pins : List (Addr × Obj)} {σ : L2.St} {H : Hp} {s : Shared}
/-- what typeOf says -/
def TyL (X : Cx) (s : Shared) (v tb : Value) : Prop := PySem.W.Looks (model X.prog X.w) s.heap (typeOf v) tb
theorem ty_looks {y : V} {v tb : Value} (I : Inv X pins σ H s) (r : RelV y v) (t : TyOf X.K H y tb) : TyL X s v tb := by
  cases t with
  | non => cases r; exact .of_pure rfl
  | bl b => cases r; exact .of_pure rfl
  | int i => obtain ⟨t, rfl⟩ := r; exact .of_pure rfl
  | str x => obtain ⟨t, rfl⟩ := r; exact .of_pure rfl
  | flt x => obtain ⟨t, rfl⟩ := r; exact .of_pure rfl
  | @lst a xs ea =>
    cases r
    obtain ⟨_, _, n, _, h1⟩ := (show ObjOk X.prog X.w H s.heap a (.lst xs) from I.hok a _ ea)
    exact (PySem.W.Looks.ld h1).andThen .now
  | @frz a ob xs ea =>
    cases r
    obtain ⟨_, _, _, n, _, h1⟩ := (show ObjOk X.prog X.w H s.heap a (.frz ob (.lst xs)) from I.hok a _ ea)
    exact (PySem.W.Looks.ld h1).andThen .now
  | @tup a xs ea =>
    cases r
    obtain ⟨_, _, _, o, h1, h2, _⟩ := (show ObjOk X.prog X.w H s.heap a (.tup xs) from I.hok a _ ea)
    exact h2 ▸ (PySem.W.Looks.ld h1).andThen .now
  | @dK a kvs ea =>
    cases r
    obtain ⟨_, _, vs, _, o, es, ep, h1, h2, _⟩ := (show ObjOk X.prog X.w H s.heap a (.dK kvs) from I.hok a _ ea)
    exact h2.1 ▸ (PySem.W.Looks.ld h1).andThen .now
  | @dT a kvs ea =>
    cases r
    obtain ⟨_, _, xs, _, o, es, ep, h1, h2, _⟩ := (show ObjOk X.prog X.w H s.heap a (.dT kvs) from I.hok a _ ea)
    exact h2.1 ▸ (PySem.W.Looks.ld h1).andThen .now
  | @ins a C dx fs ea cl ha hn htk hm =>
    cases r
    obtain ⟨mA, O, _⟩ := ins_get I.hok ea
    obtain ⟨od, J, _⟩ := O.look
    exact J.type
/-- a call of a def from within -/
theorem call_own {n : Nat} {f : Addr} {fd : FuncData} {ps : List Str} {sp : Sp} {xs : List V} {us : List Value} {Q : VK} {A : Around} (F : FnOk X.prog X.w X.K X.mg X.base CX0 n f fd ps sp) (hb : Binds X.K fd ps []) (sb : Sub X n A) (I : Inv X pins σ H s) (rx : Vals xs us)
    (h : sp xs H Q E0) : wpAny (model X.prog X.w) A (call (.ref f) us) (EP X pins σ Q) X.xe s := by
  have e0 : Env0 X.prog X.w X.K X.mg X.base A X.stack s H := by
    have e := I.env0
    exact ⟨by rw [sb.fr]; exact e.frames, e.mod, e.bs, e.bsz, e.funs, e.frf, e.hok, e.bare⟩
  have hl := F.len _ _ _ _ h
  have hl' : us.length = ps.length := by rw [← rx.length, hl]
  refine wpAny_call (codeAny_mono (F.run A X.stack s H ⟨us, []⟩ us xs _ E0 sb.room e0 (by
    have := hb s us I.kIn (by simpa using hl')
    simpa using this) rx h) fun r s' hq => ?_)
  cases r with
  | error e => exact False.elim hq
  | ok fl =>
    cases fl with
    | ret w => exact I.after hq
    | next => exact False.elim hq
    | brk => exact False.elim hq
    | cont => exact False.elim hq
/-- a special method that is a built-in -/
theorem ifBound_B {M : Model} {K : PySem.W.Frag} {A : Around} {E : Value → Shared → Prop} {s : Shared} {x C : Addr} {ox : Obj} {od : Option Obj} {name : Str} {id : String} {args : List Value} {Q : Option Value → Shared → Prop} (X : K.In s.heap) (I : PySem.W.InstAt s.heap x ox C od)
    (hs : PySem.W.findIn K (.ref C) name = some (some (.builtin id))) (hb : ∀ self, bindSpecial (.builtin id) self = pure (.builtin id, [self]))
    (h : wpAny M A (call (.builtin id) (.ref x :: args)) (fun v => Q (some v)) E s) : wpAny M A (callSpecialIfBound? (.ref x) name args) Q E s := by
  simp only [callSpecialIfBound?, bindSpecialIfBound?]
  refine wpAny_holding (wpAny_bind (wpAny_bind (wpAny_bind (I.type.here ((PySem.W.looks_findIn X hs).here ?_)))))
  refine wpAny_bind (wpAny_askSetting (wpAny_ite ?_))
  have fin : wpAny M A (call (.builtin id) ([.ref x] ++ args) >>= fun v => pure (some v)) Q E s := wpAny_bind (wpAny_mono h (fun v s' h' => wpAny_pure h') fun _ _ h' => h')
  split
  · exact wpAny_bind (wpAny_of_eq (hb _) (wpAny_pure (by exact fin)))
  · exact wpAny_tryCatch (wpAny_bind (wpAny_of_eq (hb _) (wpAny_pure (by exact fin))))
theorem bind_ne (self : Value) : bindSpecial (.builtin "object.__ne__") self = pure (.builtin "object.__ne__", [self]) := PySem.F.slot_tuple_iterator_ne.bind self
theorem ne_body {K : PySem.W.Frag} {prog : Program} {w : World} {A : Around} {E : Value → Shared → Prop} {s : Shared} {x C f : Addr} {ox : Obj} {od : Option Obj} {b : Value} {Q : Fin → Shared → Prop} (X : K.In s.heap) (I : PySem.W.InstAt s.heap x ox C od)
    (hs : PySem.W.findIn K (.ref C) "__eq__" = some (some (.ref f))) (hf : PySem.W.isFn K (.ref f) = true) (hu : A.units < cLine)
    (hcall : wpAny (model prog w) A (call (.ref f) [.ref x, b]) (fun v s' => ∃ c, v = .bool c ∧ Q (.done (.ret (.bool (!c)))) s') E s) :
    wpAny (model prog w) A (Builtin.«object.__ne__» ⟨[.ref x, b], []⟩) Q E s := by
  obtain ⟨h, g, d, t, os⟩ := s
  unfold Builtin.«object.__ne__»
  repeat (first
    | with_reducible refine wpAny_cRoomFor hu ?_
    | (refine wpAny_bind (m := callSpecialIfBound? (.ref x) (Str.ofString "__eq__") [b])
        (PySem.W.ifBound_K X I hs hf (wpAny_mono hcall (fun r s' hr => by
          obtain ⟨c, rfl, hq⟩ := hr
          repeat (first | exact hq | exact wpAny_pure hq | exact wpAny_truthy_bool hq | (refine wpAny_bind (m := truthy (.bool _)) (wpAny_truthy_bool ?_)) | wp_step)) fun _ _ e => e)))
    | wp_step)
theorem op_eqO {n : Nat} {C f : Addr} {fd : FuncData} {ps : List Str} {sp : Sp} (F : FnOk X.prog X.w X.K X.mg X.base CX0 n f fd ps sp) (hs : PySem.W.findIn X.K (.ref C) "__eq__" = some (some (.ref f))) (hf : PySem.W.isFn X.K (.ref f) = true) (hb : Binds X.K fd ps []) (hr : Room n X.A) :
    OpR X (compareOp .Eq) (fun x y H Q => ∃ a dx fs tb, x = .ref a ∧ H a = some (.ins C dx fs) ∧ TyOf X.K H y tb ∧ PySem.W.notFirst X.K C tb = true ∧ sp [x, y] H (fun v H' => ∃ c, v = .bl c ∧ Q v H') E0) := by
  intro pins s σ H x y u v Q I rx ry h
  obtain ⟨a, dx, fs, tb, rfl, ha, ty, nf, q⟩ := h
  cases rx
  obtain ⟨mA, J, _⟩ := ins_get I.hok ha
  obtain ⟨od, J, _⟩ := J.look
  obtain ⟨m, hF⟩ := I.fr
  show wpAny (model X.prog X.w) X.A (richCompare .Eq (.ref a) v) (EP X pins σ Q) X.xe s
  refine PySem.W.cmp_K (op := .Eq) (tb := tb) hr.units0 hF I.ok.mod.kin J (ty_looks I ry ty) nf hs hf ?_
  refine wpAny_mono (call_own F hb ⟨hr, rfl⟩ I (.cons (show RelV (V.ref a) (Value.ref a) from rfl) (.cons ry .nil)) q) (fun r s' z => ?_) fun _ _ x => x
  obtain ⟨z, H', I', rz, c, ez, q'⟩ := z
  subst ez
  cases rz
  exact ⟨.bl c, H', I', rfl, q'⟩
theorem op_neO {n : Nat} {C f : Addr} {fd : FuncData} {ps : List Str} {sp : Sp} (F : FnOk X.prog X.w X.K X.mg X.base CX0 n f fd ps sp) (hs : PySem.W.findIn X.K (.ref C) "__eq__" = some (some (.ref f))) (hn : PySem.W.findIn X.K (.ref C) "__ne__" = some (some (.builtin "object.__ne__")))
    (ho : PySem.W.mroIn X.K C (.type "object") = some true) (hf : PySem.W.isFn X.K (.ref f) = true) (hb : Binds X.K fd ps []) (hr : Room (n + 1) X.A) :
    OpR X (compareOp .NotEq) (fun x y H Q => ∃ a dx fs tb, x = .ref a ∧ H a = some (.ins C dx fs) ∧ TyOf X.K H y tb ∧ PySem.W.notFirst X.K C tb = true ∧ sp [x, y] H (fun v H' => ∃ c, v = .bl c ∧ Q (.bl (!c)) H') E0) := by
  intro pins s σ H x y u v Q I rx ry h
  obtain ⟨a, dx, fs, tb, rfl, ha, ty, nf, q⟩ := h
  cases rx
  obtain ⟨mA, J, _⟩ := ins_get I.hok ha
  obtain ⟨od, J, _⟩ := J.look
  have hb' := ty_looks I ry ty
  have sb : Sub X (n + 1) X.A := ⟨hr, rfl⟩
  show wpAny (model X.prog X.w) X.A (richCompare .NotEq (.ref a) v) (EP X pins σ Q) X.xe s
  have one : wpAny (model X.prog X.w) X.A (tryCompare (.ref a) "__ne__" v) (fun r s' => ∃ w, r = some w ∧ EP X pins σ Q w s') X.xe s := by
    unfold tryCompare
    refine wpAny_bind (ifBound_B I.kIn J hn bind_ne (wpAny_call (codeAny_call_builtin PySem.F.slot_tuple_iterator_ne.plain PySem.F.cmpEntry_ne
      (PySem.W.check_slot PySem.F.cmpKind_ne PySem.F.cmpSplit_ne (J.type.andThen (PySem.W.looks_mroIn I.kIn ho)) (PySem.F.cmpArgs_ne _ _)
        (ne_body I.kIn J hs hf sb.in1.room.units0 (wpAny_mono (call_own F hb sb.in1 I (.cons (show RelV (V.ref a) (Value.ref a) from rfl) (.cons ry .nil)) q) (fun r s' z => ?_) fun _ _ x => x))))))
    obtain ⟨z, H', I', rz, c, ez, q'⟩ := z
    subst ez
    cases rz
    have fin : EP X pins σ Q (.bool (!c)) s' := ⟨.bl (!c), H', I', rfl, q'⟩
    first | exact ⟨c, rfl, wpAny_pure ⟨_, rfl, fin⟩⟩ | exact ⟨c, rfl, wpAny_pure (wpAny_pure ⟨_, rfl, fin⟩)⟩ | exact ⟨c, rfl, ⟨_, rfl, fin⟩⟩
  unfold richCompare
  simp only [oneThing_ref]
  refine wpAny_holding (wpAny_bind (wpAny_cRoomFor hr.units0 ?_))
  refine wpAny_bind (J.type.here (wpAny_bind (hb'.here ?_)))
  split
  · rename_i q'
    have e : PySem.W.subIn X.K tb (.ref C) = some false := by
      rcases Bool.or_eq_true_iff.mp nf with e | e
      · rw [beq_iff_eq.mp e] at q'; simp at q'
      · exact beq_iff_eq.mp e
    refine wpAny_bind ((PySem.W.looks_subIn I.kIn e).here ?_)
    simp only [Bool.false_eq_true, if_false]
    refine wpAny_bind (wpAny_mono one (fun r s' z => ?_) fun _ _ e => e)
    obtain ⟨v, rfl, hq⟩ := z
    exact wpAny_pure hq
  · refine wpAny_bind (wpAny_pure ?_)
    simp only [Bool.false_eq_true, if_false]
    refine wpAny_bind (wpAny_mono one (fun r s' z => ?_) fun _ _ e => e)
    obtain ⟨v, rfl, hq⟩ := z
    exact wpAny_pure hq
end
end Lag

set_option maxRecDepth 100000
set_option maxHeartbeats 4000000
namespace Lag
open PySem PySem.Spec PyProof.Rows L2
/-! ### nets as data that is compared -/
def gateD (g : Gt) : PyData := .tuple [.str g.1, .int g.2]
def gatesD (gs : List Gt) : PyData := .list (gs.map gateD)
def wireD (x : Wr) : PyData := .tuple [.int (x.1 : Nat), .int (x.2.1 : Nat), .tuple (x.2.2.map PyData.int)]
def wiresD (ws : List Wr) : PyData := .list (ws.map wireD)
def intsD (l : List Nat) : PyData := .list (l.map fun i => .int (i : Nat))
theorem eqvAll_map {α : Type} [DecidableEq α] {f : α → PyData} (h : ∀ x y, PyData.eqv (f x) (f y) = decide (x = y)) : ∀ xs ys : List α, PyData.eqvAll (xs.map f) (ys.map f) = decide (xs = ys)
  | [], [] => rfl
  | [], _ :: _ => rfl
  | _ :: _, [] => rfl
  | x :: xs, y :: ys => by
    show (PyData.eqv (f x) (f y) && PyData.eqvAll (xs.map f) (ys.map f)) = _
    rw [h, eqvAll_map h xs ys, Bool.eq_iff_iff]
    simp
theorem gateD_eq (a b : Gt) : PyData.eqv (gateD a) (gateD b) = decide (a = b) := by
  show ((a.1 == b.1) && ((a.2 == b.2) && true)) = _
  rw [Bool.eq_iff_iff]
  simp [Prod.ext_iff]
theorem gatesD_eq (a b : List Gt) : PyData.eqv (gatesD a) (gatesD b) = decide (a = b) := eqvAll_map gateD_eq a b
theorem intD_eq (a b : Int) : PyData.eqv (.int a) (.int b) = decide (a = b) := rfl
theorem wireD_eq (a b : Wr) : PyData.eqv (wireD a) (wireD b) = decide (a = b) := by
  show ((((a.1 : Nat) : Int) == ((b.1 : Nat) : Int)) && ((((a.2.1 : Nat) : Int) == ((b.2.1 : Nat) : Int)) && (PyData.eqvAll (a.2.2.map PyData.int) (b.2.2.map PyData.int) && true))) = _
  rw [eqvAll_map intD_eq, Bool.eq_iff_iff]
  simp only [Bool.and_eq_true, beq_iff_eq, decide_eq_true_eq, and_true]
  constructor
  · rintro ⟨h1, h2, h3⟩
    exact Prod.ext (by omega) (Prod.ext (by show a.2.1 = b.2.1; omega) h3)
  · rintro rfl
    exact ⟨rfl, rfl, rfl⟩
theorem wiresD_eq (a b : List Wr) : PyData.eqv (wiresD a) (wiresD b) = decide (a = b) := eqvAll_map wireD_eq a b
theorem natD_eq (a b : Nat) : PyData.eqv (.int (a : Nat)) (.int (b : Nat)) = decide (a = b) := by
  show (((a : Nat) : Int) == ((b : Nat) : Int)) = _
  rw [Bool.eq_iff_iff]
  simp
  omega
theorem intsD_eq (a b : List Nat) : PyData.eqv (intsD a) (intsD b) = decide (a = b) := eqvAll_map natD_eq a b
theorem lay_all {ds : List PyData} : (∀ d ∈ ds, PyData.canLay0 d = true) → PyData.canLayAll0 ds = true := by
  induction ds with
  | nil => intro _; rfl
  | cons d ds ih =>
    intro h
    show (PyData.canLay0 d && PyData.canLayAll0 ds) = true
    rw [h d (List.mem_cons_self ..), ih fun x hx => h x (List.mem_cons_of_mem _ hx)]
    rfl
theorem depth_all {ds : List PyData} {k : Nat} : (∀ d ∈ ds, PyData.depth d ≤ k) → PyData.depthAll ds ≤ k := by
  induction ds with
  | nil => intro _; exact Nat.zero_le _
  | cons d ds ih =>
    intro h
    show max (PyData.depth d) (PyData.depthAll ds) ≤ k
    have h1 := h d (List.mem_cons_self ..)
    have h2 := ih fun x hx => h x (List.mem_cons_of_mem _ hx)
    omega
/-- such data may be compared, to the depth k -/
def Sh (k : Nat) (d : PyData) : Prop := PyData.canLay0 d = true ∧ PyData.depth d ≤ k
theorem Sh.ok {k : Nat} {d : PyData} (h : Sh k d) (hk : k ≤ 64) : SeqAt.shaped d = true := by
  show (PyData.canLay0 d && decide (PyData.depth d ≤ 64)) = true
  rw [h.1, decide_eq_true (Nat.le_trans h.2 hk)]
  rfl
theorem sh_list {k : Nat} {ds : List PyData} (h : ∀ d ∈ ds, Sh k d) : Sh (k + 1) (.list ds) := ⟨lay_all fun d hd => (h d hd).1, Nat.succ_le_succ (depth_all fun d hd => (h d hd).2)⟩
theorem sh_tuple {k : Nat} {ds : List PyData} (h : ∀ d ∈ ds, Sh k d) : Sh (k + 1) (.tuple ds) := ⟨lay_all fun d hd => (h d hd).1, Nat.succ_le_succ (depth_all fun d hd => (h d hd).2)⟩
theorem sh_int {k : Nat} (i : Int) : Sh k (.int i) := ⟨rfl, Nat.zero_le _⟩
theorem kinds_str : ∀ k ∈ kinds, PyData.canLay0 (.str k) = true := by decide +kernel
theorem sh_kind {k : Nat} {z : Str} (h : z ∈ kinds) : Sh k (.str z) := ⟨kinds_str z h, Nat.zero_le _⟩
theorem sh_gates {gs : List Gt} (h : ∀ g ∈ gs, GOk g) : Sh 2 (gatesD gs) := by
  refine sh_list fun d hd => ?_
  obtain ⟨g, hg, rfl⟩ := List.mem_map.mp hd
  refine sh_tuple fun d hd => ?_
  simp only [List.mem_cons, List.not_mem_nil, or_false] at hd
  rcases hd with rfl | rfl
  · exact sh_kind (h g hg).1
  · exact sh_int _
theorem sh_wires (ws : List Wr) : Sh 3 (wiresD ws) := by
  refine sh_list fun d hd => ?_
  obtain ⟨g, hg, rfl⟩ := List.mem_map.mp hd
  refine sh_tuple fun d hd => ?_
  simp only [List.mem_cons, List.not_mem_nil, or_false] at hd
  rcases hd with rfl | rfl | rfl
  · exact sh_int _
  · exact sh_int _
  · refine sh_tuple fun d hd => ?_
    obtain ⟨i, _, rfl⟩ := List.mem_map.mp hd
    exact sh_int _
theorem sh_ints (l : List Nat) : Sh 1 (intsD l) := by
  refine sh_list fun d hd => ?_
  obtain ⟨i, _, rfl⟩ := List.mem_map.mp hd
  exact sh_int _
section
variable {K : PySem.W.Frag} {H : Hp}
theorem dp_all {α : Type} {R : V → α → Prop} {f : α → PyData} (h : ∀ v x, R v x → Dp K H v (f x)) : ∀ {vs : List V} {xs : List α}, All2 R vs xs → DpAll K H vs (xs.map f)
  | [], [], _ => .nil
  | [], _ :: _, a => by have := a.1; simp at this
  | _ :: _, [], a => by have := a.1; simp at this
  | _ :: _, _ :: _, a => .cons (h _ _ a.head) (dp_all h a.tail)
theorem GateV.dp {v : V} {g : Gt} (h : GateV K H v g) : Dp K H v (gateD g) := by
  obtain ⟨a, rfl, s⟩ := h
  exact .tup s (.cons (.str _) (.cons (.int _) .nil))
theorem ints_dp : ∀ l : List Int, DpAll K H (l.map V.int) (l.map PyData.int)
  | [] => .nil
  | i :: l => .cons (.int i) (ints_dp l)
theorem nats_dp : ∀ l : List Nat, DpAll K H (l.map fun i => V.int (i : Nat)) (l.map fun i => PyData.int (i : Nat))
  | [] => .nil
  | i :: l => .cons (.int _) (nats_dp l)
theorem WireV.dp {v : V} {x : Wr} (h : WireV K H v x) : Dp K H v (wireD x) := by
  obtain ⟨a, b, rfl, s1, s2⟩ := h
  exact .tup s1 (.cons (.int _) (.cons (.int _) (.cons (.tup s2 (ints_dp _)) .nil)))
theorem RG.dp {l : Addr} {gs : List Gt} (h : RG K H l gs) : Dp K H (.ref l) (gatesD gs) := by
  obtain ⟨vs, s, a⟩ := h
  exact .lst s (dp_all (fun _ _ r => GateV.dp r) a)
theorem RW.dp {l : Addr} {ws : List Wr} (h : RW K H l ws) : Dp K H (.ref l) (wiresD ws) := by
  obtain ⟨vs, s, a⟩ := h
  exact .lst s (dp_all (fun _ _ r => WireV.dp r) a)
theorem dp_ints {l : Addr} {xs : List Nat} (h : SqL K H l (xs.map fun i => V.int (i : Nat))) : Dp K H (.ref l) (intsD xs) := .lst h (nats_dp xs)
end
/-! ### Net.__eq__ -/
structure NTy (K : PySem.W.Frag) (C : Addr) : Prop where
  ha : PySem.W.findIn K (.ref C) "__class__" = some (some (.builtin "object.__class__"))
  hn : PySem.W.specialIn K (.builtin "object.__class__") "__get__" = some (some (.builtin "getset_descriptor.__get__"))
  htk : PySem.W.takesIn K (.builtin "object.__class__") = some true
  hm : PySem.W.mroIn K C (.type "object") = some true
theorem ty_net {K : PySem.W.Frag} {mg : Str → Option Value} {C : Addr} {H : Hp} {p dx : Addr} {fs : List (Str × V)} (T : NT K mg C) (Y : NTy K C) (h : H p = some (.ins C dx fs)) : TyOf K H (.ref p) (.ref C) := .ins h T.cl Y.ha Y.hn Y.htk Y.hm
def spEqN (K : PySem.W.Frag) (C : Addr) : Sp := fun vs H Q _ => ∃ (p lg lw : Addr) (gs : List Gt) (ws : List Wr) (y : V), vs = [.ref p, y] ∧ NetAt K C H p lg lw gs ws ∧
  ((∃ (q lg' lw' : Addr) (gs' : List Gt) (ws' : List Wr), y = .ref q ∧ NetAt K C H q lg' lw' gs' ws' ∧ (∀ g ∈ gs, GOk g) ∧ (∀ g ∈ gs', GOk g) ∧ Q (.bl (decide (gs = gs') && decide (ws = ws'))) H) ∨
    (∃ t, TyX K H y t ∧ PySem.W.kitOne K t (.ref C) = some false ∧ Q (.bl false) H))
section
variable {P : Program} {w : World} {K : PySem.W.Frag} {mg : Str → Option Value} {base : Heap}
theorem scEq : FnScope ["self", "other"] ["self", "other"] (defScope sEq) := ⟨rfl, rfl, rfl, by decide +kernel, rfl, by decide +kernel, by decide +kernel⟩
theorem kit_self {K : PySem.W.Frag} (C : Addr) : PySem.W.kitOne K (.ref C) (.ref C) = some true := by
  unfold PySem.W.kitOne
  rw [if_pos (beq_self_eq_true _)]
theorem ok_eqN {f C : Addr} {fd : FuncData} (F : Fun K "__eq__" "Net.__eq__" sEq f fd) (T : NT K mg C) (Y : NTy K C) (B : Bt mg) : FnOk P w K mg base CX0 1 f fd ["self", "other"] (spEqN K C) := by
  refine F.ok scEq (fun vs H Q E h => ?_) (fun cdv A outer s H vs Q E hr h => ?_)
  · obtain ⟨p, lg, lw, gs, ws, y, rfl, _⟩ := h
    rfl
  · obtain ⟨p, lg, lw, gs, ws, y, rfl, N, h⟩ := h
    refine ⟨_, pss_one <| ps_ret <| pe_and (pe_callB call_isi (by rfl) B.isi (by decide +kernel) (pa_cons (pv 1) (pa_cons (pe_glob (v := .ref C) (by rfl) T.mg rfl) pa_nil))) <|
      pe_and (pe_cmpR (op_eqD hr.units) (pe_fld (pv 0) rfl) (pe_fld (pv 1) rfl) (nomark _)) <| pe_one <| pe_cmpR (op_eqD hr.units) (pe_fld (pv 0) rfl) (pe_fld (pv 1) rfl) (nomark _), ?_⟩
    obtain ⟨dx, hp⟩ := N.ob
    rcases h with ⟨q, lg', lw', gs', ws', rfl, N', gok, gok', k⟩ | ⟨t, ty, kt, k⟩
    · obtain ⟨dx', hq⟩ := N'.ob
      refine ⟨_, rfl, _, _, _, _, true, rfl, .own C, .base (ty_net T Y hq), kit_self C, true, rfl, iteT ?_⟩
      refine ⟨_, rfl, p, C, dx, _, _, rfl, hp, T.cl, T.nG, nf_gates _ _, _, rfl, q, C, dx', _, _, rfl, hq, T.cl, T.nG, nf_gates _ _, _, _, N.g.rg.dp, N'.g.rg.dp, (sh_gates gok).ok (by decide), (sh_gates gok').ok (by decide), _, rfl, ?_⟩
      rw [gatesD_eq]
      cases e : decide (gs = gs') with
      | false =>
        rw [e] at k
        exact iteF k
      | true =>
        rw [e] at k
        refine iteT ⟨_, rfl, p, C, dx, _, _, rfl, hp, T.cl, T.nW, nf_wires _ _, _, rfl, q, C, dx', _, _, rfl, hq, T.cl, T.nW, nf_wires _ _, _, _, N.w.rw.dp, N'.w.rw.dp, (sh_wires _).ok (by decide), (sh_wires _).ok (by decide), ?_⟩
        rw [wiresD_eq]
        exact k
    · exact ⟨_, rfl, _, _, _, _, false, rfl, .own C, ty, kt, false, rfl, iteF k⟩
end
end Lag

set_option maxRecDepth 100000
set_option maxHeartbeats 4000000
namespace Lag
open PySem PySem.Spec PyProof.Rows L2
/-! ### what keeps a net a net -/
theorem kindAt_set {gs : List Gt} {i j : Nat} {g : Gt} (h : i < gs.length) : kindAt (gs.set i g) j = if j = i then g.1 else kindAt gs j := by
  unfold kindAt
  rw [List.getD_eq_getElem?_getD, List.getD_eq_getElem?_getD, List.getElem?_set]
  by_cases e : i = j
  · subst e
    rw [if_pos rfl, if_pos h, if_pos rfl]
    rfl
  · rw [if_neg e, if_neg (fun z => e z.symm)]
/-- another gate at a place whose gate is no port: no port, and no first where it was none -/
theorem NetOk.setG {gs : List Gt} {ws : List Wr} (N : NetOk gs ws) {i : Nat} {g : Gt} (hi : i < gs.length) (hg : GOk g) (h1 : g.1 ≠ "out") (h2 : g.1 ≠ "in") (h3 : g.1 = "first" → kindAt gs i = "first") : NetOk (gs.set i g) ws := by
  have kk := @kindAt_set gs i
  refine ⟨?_, by rw [List.length_set]; exact N.gl, N.wl, ?_, fun x hx => ?_, fun e he hk => ?_, fun e he hk => ?_, N.rank⟩
  · intro z
    have := congrArg List.length z
    rw [List.length_set] at this
    exact N.ne (List.length_eq_zero_iff.mp this)
  · intro y hy
    rcases List.mem_or_eq_of_mem_set hy with hy | hy
    · exact N.gok y hy
    · rw [hy]
      exact hg
  · have W := N.wok x hx
    refine ⟨by rw [List.length_set]; exact W.s, by rw [List.length_set]; exact W.e, ?_, ?_, W.r, W.rl⟩
    · rw [kk hi]
      split
      · exact h1
      · exact W.ks
    · rw [kk hi]
      split
      · exact h2
      · exact W.ke
  · rw [List.length_set] at he
    rw [kk hi] at hk
    split at hk
    · exact absurd hk h1
    · exact N.one e he hk
  · rw [List.length_set] at he
    rw [kk hi] at hk
    split at hk
    · rename_i hei
      subst hei
      exact N.some _ he (h3 hk)
    · exact N.some e he hk
theorem kindAt_app {gs : List Gt} {g : Gt} {j : Nat} (h : j < gs.length) : kindAt (gs ++ [g]) j = kindAt gs j := by
  unfold kindAt
  rw [List.getD_eq_getElem?_getD, List.getD_eq_getElem?_getD, List.getElem?_append_left h]
theorem NetOk.addIn {gs : List Gt} {ws : List Wr} (N : NetOk gs ws) (hl : gs.length < 100) : NetOk (gs ++ [(("in" : Str), (0 : Int))]) ws := by
  have kl : kindAt (gs ++ [(("in" : Str), (0 : Int))]) gs.length = "in" := by
    unfold kindAt
    rw [List.getD_eq_getElem?_getD, List.getElem?_append_right (Nat.le_refl _), Nat.sub_self]
    rfl
  refine ⟨by simp, by simp; omega, N.wl, ?_, fun x hx => ?_, fun e he hk => ?_, fun e he hk => ?_, N.rank⟩
  · intro y hy
    rcases List.mem_append.mp hy with hy | hy
    · exact N.gok y hy
    · simp at hy
      subst hy
      exact ⟨by show ("in" : Str) ∈ kinds; decide +kernel, Int.le_refl 0, (by show (0 : Int) ≤ 100; decide), fun _ => rfl⟩
  · have W := N.wok x hx
    exact ⟨by have := W.s; simp; omega, by have := W.e; simp; omega, by rw [kindAt_app W.s]; exact W.ks, by rw [kindAt_app W.e]; exact W.ke, W.r, W.rl⟩
  · by_cases h : e < gs.length
    · rw [kindAt_app h] at hk
      exact N.one e h hk
    · have : e = gs.length := by simp at he; omega
      subst this
      rw [kl] at hk
      exact absurd hk (by decide +kernel)
  · by_cases h : e < gs.length
    · rw [kindAt_app h] at hk
      exact N.some e h hk
    · have : e = gs.length := by simp at he; omega
      subst this
      rw [kl] at hk
      exact absurd hk (by decide +kernel)
theorem cnt_set {ws : List Wr} {i : Nat} {x y : Wr} (h : ws[i]? = some x) (he : y.2.1 = x.2.1) (e : Nat) : cnt (ws.set i y) e = cnt ws e := by
  obtain ⟨hi, rfl⟩ := List.getElem?_eq_some_iff.mp h
  have h1 : ws.set i y = ws.take i ++ y :: ws.drop (i + 1) := List.set_eq_take_append_cons_drop .. |>.trans (by rw [if_pos hi])
  have h2 : ws = ws.take i ++ ws[i] :: ws.drop (i + 1) := by rw [List.getElem_cons_drop, List.take_append_drop]
  unfold cnt
  conv => rhs; rw [h2]
  rw [h1, List.countP_append, List.countP_append, List.countP_cons, List.countP_cons, he]
/-- a wire with other registers, one at least -/
theorem NetOk.setW {gs : List Gt} {ws : List Wr} (N : NetOk gs ws) {i : Nat} {x : Wr} {r : List Int} (h : ws[i]? = Option.some x) (hr : ROk r) (hl : r.length ≤ 100) (hne : r ≠ []) : NetOk gs (ws.set i (x.1, x.2.1, r)) := by
  have W := N.wok x (List.mem_of_getElem? h)
  obtain ⟨ρ, hρ⟩ := N.rank
  refine ⟨N.ne, N.gl, by rw [List.length_set]; exact N.wl, N.gok, fun y hy => ?_, fun e he hk => ?_, fun e he hk => ?_, ρ, fun y hy hyr => ?_⟩
  · rcases List.mem_or_eq_of_mem_set hy with hy | hy
    · exact N.wok y hy
    · rw [hy]
      exact ⟨W.s, W.e, W.ks, W.ke, hr, hl⟩
  · rw [cnt_set (y := (x.1, x.2.1, r)) h rfl]
    exact N.one e he hk
  · rw [cnt_set (y := (x.1, x.2.1, r)) h rfl]
    exact N.some e he hk
  · rcases List.mem_or_eq_of_mem_set hy with hy | hy
    · exact hρ y hy hyr
    · rw [hy] at hyr
      exact absurd hyr hne
theorem NetOk.perm {gs : List Gt} {ws ws' : List Wr} (N : NetOk gs ws) (p : ws'.Perm ws) : NetOk gs ws' := by
  obtain ⟨ρ, hρ⟩ := N.rank
  have c : ∀ e, cnt ws' e = cnt ws e := fun e => p.countP_eq _
  exact ⟨N.ne, N.gl, by rw [p.length_eq]; exact N.wl, N.gok, fun x hx => N.wok x (p.mem_iff.mp hx), fun e he hk => by rw [c]; exact N.one e he hk, fun e he hk => by rw [c]; exact N.some e he hk, ρ, fun x hx h => hρ x (p.mem_iff.mp hx) h⟩
/-! ### slices -/
theorem take_min {α : Type} (l : List α) (k : Nat) : l.take (min k l.length) = l.take k := by
  by_cases h : k ≤ l.length
  · rw [Nat.min_eq_left h]
  · rw [Nat.min_eq_right (by omega), List.take_length, List.take_of_length_le (by omega)]
theorem drop_min {α : Type} (l : List α) (k : Nat) : l.drop (min k l.length) = l.drop k := by
  by_cases h : k ≤ l.length
  · rw [Nat.min_eq_left h]
  · rw [Nat.min_eq_right (by omega), List.drop_length, List.drop_of_length_le (by omega)]
theorem cut_to {xs : List V} (k : Nat) : cutV xs none (some (k : Int)) = xs.take k := by
  unfold cutV
  rw [HT.sIx_none, HT.sIx_nat, List.drop_zero, Nat.sub_zero, take_min]
theorem cut_from {xs : List V} (k : Nat) : cutV xs (some (k : Int)) none = xs.drop k := by
  unfold cutV
  rw [HT.sIx_none, HT.sIx_nat, drop_min]
  exact List.take_of_length_le (by rw [List.length_drop]; omega)
theorem cut_mid {xs : List V} (j k : Nat) : cutV xs (some (j : Int)) (some (k : Int)) = (xs.take k).drop j := by
  unfold cutV
  rw [HT.sIx_nat, HT.sIx_nat, List.drop_take, drop_min]
  by_cases h : j ≤ xs.length
  · by_cases h2 : k ≤ xs.length
    · rw [Nat.min_eq_left h, Nat.min_eq_left h2]
    · rw [List.take_of_length_le (by rw [List.length_drop]; omega), List.take_of_length_le (by rw [List.length_drop]; omega)]
  · rw [List.drop_of_length_le (by omega)]
    simp
section
variable {α β : Type} {R : α → β → Prop} {xs xs' : List α} {ys ys' : List β}
theorem All2.take (h : All2 R xs ys) (k : Nat) : All2 R (xs.take k) (ys.take k) := by
  refine ⟨by rw [List.length_take, List.length_take, h.1], fun i x y hx hy => ?_⟩
  have hi : i < k := by
    have := (List.getElem?_eq_some_iff.mp hx).1
    rw [List.length_take] at this
    omega
  rw [List.getElem?_take_of_lt hi] at hx hy
  exact h.2 i x y hx hy
theorem All2.drop (h : All2 R xs ys) (k : Nat) : All2 R (xs.drop k) (ys.drop k) := by
  refine ⟨by rw [List.length_drop, List.length_drop, h.1], fun i x y hx hy => ?_⟩
  rw [List.getElem?_drop] at hx hy
  exact h.2 _ x y hx hy
theorem All2.append (h : All2 R xs ys) (h' : All2 R xs' ys') : All2 R (xs ++ xs') (ys ++ ys') := by
  induction xs generalizing ys with
  | nil =>
    cases ys with
    | nil => exact h'
    | cons _ _ => have := h.1; simp at this
  | cons x xs ih =>
    cases ys with
    | nil => have := h.1; simp at this
    | cons y ys => exact All2.cons h.head (ih h.tail)
theorem All2.reverse (h : All2 R xs ys) : All2 R xs.reverse ys.reverse := by
  induction xs generalizing ys with
  | nil =>
    cases ys with
    | nil => exact h
    | cons _ _ => have := h.1; simp at this
  | cons x xs ih =>
    cases ys with
    | nil => have := h.1; simp at this
    | cons y ys =>
      rw [List.reverse_cons, List.reverse_cons]
      exact (ih h.tail).snoc h.head
theorem All2.one {x : α} {y : β} (r : R x y) : All2 R [x] [y] := All2.cons r All2.nil
end
theorem set_cut {α : Type} {l : List α} {i : Nat} {y : α} (h : i < l.length) : l.take i ++ [y] ++ l.drop (i + 1) = l.set i y := by
  rw [List.set_eq_take_append_cons_drop, if_pos h, List.append_assoc]
  rfl
theorem swap_perm {α : Type} (l : List α) (i : Nat) : (l.take i ++ ((l.take (i + 2)).drop i).reverse ++ l.drop (i + 2)).Perm l := by
  have e : l = l.take i ++ (l.take (i + 2)).drop i ++ l.drop (i + 2) := by
    have h1 : l.take i = (l.take (i + 2)).take i := by rw [List.take_take, Nat.min_eq_left (by omega)]
    rw [h1, List.take_append_drop, List.take_append_drop]
  conv => rhs; rw [e]
  exact ((List.Perm.refl _).append (List.reverse_perm _)).append (List.Perm.refl _)
end Lag

set_option maxRecDepth 100000
set_option maxHeartbeats 8000000
namespace Lag
open PySem PySem.Spec PyProof.Rows L2
abbrev sWell : Stmt := topS 89 -- @_law_well
abbrev sDraw : Stmt := topS 90 -- @_law_draw
abbrev sOuter : Stmt := topS 33 -- @is_outer
theorem st_norm {f : L2.St → Hp → Prop} {σ σ' : L2.St} {H : Hp} (e : σ = σ') (h : f σ' H) : f σ H := e ▸ h
theorem gn_norm {i : Nat} {x : V} {σ σ' : L2.St} {H : Hp} {N : L2.St → Hp → Prop} (e : σ.set i (some x) = σ') (h : N σ' H) : gName i x σ H N := by
  subst e
  exact h
theorem All2.pushT {α : Type} {R : Hp → V → α → Prop} {H H2 : Hp} {D : Addr} {acc : List V} {l : List α} {v : V} {x : α} {o : HO} (mono : ∀ {H H' : Hp} {v : V} {x : α}, TK H H' → R H v x → R H' v x) (h : All2 (R H) acc l) (hD : H2 D = some (.lst acc)) (t : TK H H2) (r : R H2 v x) : All2 (R (upd H2 D o)) (acc ++ [v]) (l ++ [x]) :=
  (h.imp fun _ _ r => mono (t.trans (TK.lst hD)) r).snoc (mono (TK.lst hD) r)
theorem mod_b {x n : Int} (h : 0 < n) (hn : n ≤ 4294967296) : -(2 ^ 64) < x % n ∧ x % n < 2 ^ 64 := by
  have h1 := Int.emod_nonneg x (show n ≠ 0 by omega)
  have h2 := Int.emod_lt_of_pos x h
  constructor
  · have e : (-(2 ^ 64) : Int) = -18446744073709551616 := by decide
    omega
  · have e : (2 ^ 64 : Int) = 18446744073709551616 := by decide
    omega
theorem LG.dr {K : PySem.W.Frag} {wl l : Addr} {H H' : Hp} {gs : List Gt} (h : LG K H l gs) (n : l ≠ wl) (W : WellAt wl H) (d : Dr wl H H') : LG K H' l gs := by
  obtain ⟨vs, q, a⟩ := h
  exact ⟨vs, d.but _ _ n q, a.imp fun _ _ r => r.tk (TK.dr W d.but)⟩
theorem LW.dr {K : PySem.W.Frag} {wl l : Addr} {H H' : Hp} {ws : List Wr} (h : LW K H l ws) (n : l ≠ wl) (W : WellAt wl H) (d : Dr wl H H') : LW K H' l ws := by
  obtain ⟨vs, q, a⟩ := h
  exact ⟨vs, d.but _ _ n q, a.imp fun _ _ r => r.tk (TK.dr W d.but)⟩
theorem gn_normH {i : Nat} {x : V} {σ σ' : L2.St} {H H' : Hp} {N : L2.St → Hp → Prop} (e : σ.set i (some x) = σ') (eH : H = H') (h : N σ' H') : gName i x σ H N := by
  subst e
  subst eH
  exact h
theorem LG.same' {K : PySem.W.Frag} {l : Addr} {H H' : Hp} {gs : List Gt} (h : LG K H l gs) (s : Same H H') : LG K H' l gs := by
  obtain ⟨vs, q, a⟩ := h
  exact ⟨vs, s _ _ q, a.imp fun _ _ r => r.tk (TK.same s)⟩
theorem LW.same' {K : PySem.W.Frag} {l : Addr} {H H' : Hp} {ws : List Wr} (h : LW K H l ws) (s : Same H H') : LW K H' l ws := by
  obtain ⟨vs, q, a⟩ := h
  exact ⟨vs, s _ _ q, a.imp fun _ _ r => r.tk (TK.same s)⟩
theorem Dr.ofSame {wl : Addr} {H H' : Hp} (W : WellAt wl H) (s : Same H H') : Dr wl H H' := ⟨But.same s, W.same s⟩
section
variable {P : Program} {w : World} {K : PySem.W.Frag} {mg : Str → Option Value} {base : Heap} {C : Addr}
theorem net_in {Q : Addr → Hp → Prop} {lg lw : Addr} {gs : List Gt} {ws : List Wr} (R : RG K H lg gs) (R2 : RW K H lw ws) (N : NetOk gs ws)
    (q : ∀ p ng nw H', NetAt K C H' p ng nw gs ws → Same H H' → H p = none → H ng = none → H nw = none → Q p H') :
    ∀ x dx, H x = none → H dx = none → dx ≠ x → spInit K C (.ref x :: ([.ref lg, .ref lw] ++ [])) (upd (upd H dx (.own x)) x (.ins C dx [])) (fun v H' => v = .non ∧ Q x H') E0 := by
  intro x dx hx hdx ne
  have s0 : Same H (upd (upd H dx (.own x)) x (.ins C dx [])) := fun b o e => by
    rw [upd_ne (ne_of_none e hx), upd_ne (ne_of_none e hdx)]
    exact e
  refine ⟨x, dx, lg, lw, gs, ws, rfl, upd_same, R.same s0, R2.same s0, N, fun H' ng nw A h1 h2 k => ⟨rfl, ?_⟩⟩
  exact q x ng nw H' A (Same.made hx hdx k) hx (s0.free h1) (s0.free h2)
end
theorem port_in {k : Str} : inV (.str k) [.str "in", .str "out"] = true ↔ portK k := by
  unfold inV
  rw [List.any_eq_true]
  constructor
  · rintro ⟨v, hv, he⟩
    simp only [List.mem_cons, List.not_mem_nil, or_false] at hv
    rcases hv with rfl | rfl
    · exact .inl (eq_of_beq he).symm
    · exact .inr (eq_of_beq he).symm
  · rintro (rfl | rfl)
    · exact ⟨_, List.mem_cons_self .., beq_self_eq_true _⟩
    · exact ⟨_, List.mem_cons_of_mem _ (List.mem_cons_self ..), beq_self_eq_true _⟩
def spOuter (K : PySem.W.Frag) : Sp := fun vs H Q _ => ∃ (v : V) (g : Gt), vs = [v] ∧ GateV K H v g ∧ ∀ b : Bool, (b = true ↔ portK g.1) → Q (.bl b) H
def spWellW : Sp := fun vs H Q _ => ∃ z : Int, vs = [.int z] ∧ ∀ p H', H p = none → Same H H' → WellAt p H' → Q (.ref p) H'
def spDraw : Sp := fun vs H Q _ => ∃ (w : Addr) (n : Int), vs = [.ref w, .int n] ∧ 0 < n ∧ n < 1000000 ∧ WellAt w H ∧ ∀ d H', 0 ≤ d → d < n → Dr w H H' → Q (.int d) H'
section
variable {P : Program} {w : World} {K : PySem.W.Frag} {mg : Str → Option Value} {base : Heap}
theorem scOuter : FnScope ["gate"] ["gate"] (defScope sOuter) := ⟨rfl, rfl, rfl, by decide +kernel, rfl, by decide +kernel, by decide +kernel⟩
abbrev DOuter (P : Program) (w : World) (K : PySem.W.Frag) (mg : Str → Option Value) (base : Heap) := Df P w K mg base 1 "is_outer" ["gate"] (spOuter K)
theorem ok_outer {f aK aW aF : Addr} {fd : FuncData} (F : Fun K "is_outer" "is_outer" sOuter f fd) (hm : mg "is_outer" = some (.ref f)) (C : Cns K mg aK aW aF) : DOuter P w K mg base f fd := by
  refine ⟨?_, hm, F.kp, F.binds fun _ _ _ _ _ _ us hl => match us, hl with | [_], _ => rfl⟩
  refine F.ok scOuter (fun vs H Q E h => ?_) (fun cdv A outer s H vs Q E hr h => ?_)
  · obtain ⟨v, g, rfl, _⟩ := h
    rfl
  · obtain ⟨v, g, rfl, ⟨a, rfl, sq⟩, q⟩ := h
    refine ⟨_, pss_one <| ps_ret <| pe_cmpR op_in_seq (pe_ix ix_tup (pv 0) pe_int (fun _ _ => rfl)) (pe_glob (v := .ref aW) (by rfl) C.mW rfl) (by rfl), ?_⟩
    exact ⟨_, rfl, a, _, 0, _, rfl, rfl, sq, atI_nat (j := 0) rfl, aW, _, rfl, .inr (C.sW H), rfl, rfl, q _ port_in⟩
abbrev nWell : List Str := ["_law_cell"]
theorem scWell : FnScope nWell ["_law_cell"] (defScope sWell) := ⟨rfl, rfl, rfl, by decide +kernel, rfl, by decide +kernel, by decide +kernel⟩
abbrev DWell (P : Program) (w : World) (K : PySem.W.Frag) (mg : Str → Option Value) (base : Heap) := Df P w K mg base 1 "_law_well" ["_law_cell"] spWellW
theorem ok_well {f : Addr} {fd : FuncData} (F : Fun K "_law_well" "_law_well" sWell f fd) (hm : mg "_law_well" = some (.ref f)) (B : Bt mg) : DWell P w K mg base f fd := by
  refine ⟨?_, hm, F.kp, F.binds fun _ _ _ _ _ _ us hl => match us, hl with | [_], _ => rfl⟩
  refine F.ok scWell (fun vs H Q E h => ?_) (fun cdv A outer s H vs Q E hr h => ?_)
  · obtain ⟨z, rfl, _⟩ := h
    rfl
  · obtain ⟨z, rfl, q⟩ := h
    refine ⟨_, pss_one (ps_ret (pe_lst (pa_cons (pe_op op_mul (pv 0) (pe_callTy call_int1 (by rfl) B.int (by decide +kernel) (pa_cons (pe_cmpR op_ge (pv 0) (pe_op op_pow pe_int pe_int) (nomark _)) pa_nil))) (pa_cons (pv 0) (pa_cons pe_int pa_nil))))), ?_⟩
    refine ⟨_, rfl, _, rfl, _, _, rfl, rfl, ⟨by decide, by decide, by decide⟩, _, _, rfl, rfl, .inr ⟨_, rfl, _, _, rfl, rfl, .inr ?_, _, rfl, (by show 3 ≤ sizeLine; decide), fun p hp => q p _ hp (same_new hp) ⟨_, upd_same, _, _, _, rfl⟩⟩⟩
    split <;> exact ⟨by decide, by decide⟩
abbrev nDraw : List Str := ["_law_well_here", "_law_many", "_law_found", "_law_low"]
theorem scDraw : FnScope nDraw ["_law_well_here", "_law_many"] (defScope sDraw) := ⟨rfl, rfl, rfl, by decide +kernel, rfl, by decide +kernel, by decide +kernel⟩
abbrev DDraw (P : Program) (w : World) (K : PySem.W.Frag) (mg : Str → Option Value) (base : Heap) := Df P w K mg base 1 "_law_draw" ["_law_well_here", "_law_many"] spDraw
theorem ok_draw {f : Addr} {fd : FuncData} (F : Fun K "_law_draw" "_law_draw" sDraw f fd) (hm : mg "_law_draw" = some (.ref f)) : DDraw P w K mg base f fd := by
  refine ⟨?_, hm, F.kp, F.binds fun _ _ _ _ _ _ us hl => match us, hl with | [_, _], _ => rfl⟩
  refine F.ok scDraw (fun vs H Q E h => ?_) (fun cdv A outer s H vs Q E hr h => ?_)
  · obtain ⟨wl, n, rfl, _⟩ := h
    rfl
  · obtain ⟨wl, n, rfl, hn, hn2, ⟨_, hw, a, b, c, rfl⟩, q⟩ := h
    have nd := scDraw.nd
    refine ⟨_, pss_cons (ps_if (pt_cmpR op_gt (pe_ix ix_list (pv 0) pe_int (fun _ _ => rfl)) pe_int (nomark _)) (pss_cons (ps_set (i := 2) nd rfl (.inl rfl) (pe_op op_mod (pe_ix ix_list (pv 0) pe_int (fun _ _ => rfl)) (pv 1))) <|
        pss_cons (ps_asg (pe_op op_fdiv (pe_ix ix_list (pv 0) pe_int (fun _ _ => rfl)) (pv 1)) (pg_sub (pv 0) pe_int set_list)) <|
        pss_one (ps_ret (pv 2))) pss_nil) <|
        pss_cons (ps_asg (pe_op op_add (pe_ix ix_list (pv 0) pe_int (fun _ _ => rfl)) pe_int) (pg_sub (pv 0) pe_int set_list)) <|
        pss_cons (ps_set (i := 3) nd rfl (.inl rfl) (pe_op op_add (pe_op op_mod (pe_ix ix_list (pv 0) pe_int (fun _ _ => rfl)) pe_int) (pe_op op_mul (pe_op op_fdivW (pe_ix ix_list (pv 0) pe_int (fun _ _ => rfl)) pe_int) pe_int))) <|
        pss_cons (ps_set (i := 3) nd rfl (.inl rfl) (pe_op op_mod (pe_op op_mul (pe_op op_add (pe_op op_add (pv 3) (pe_op op_mul pe_int (pe_ix ix_list (pv 0) pe_int (fun _ _ => rfl)))) pe_int) pe_int) pe_int)) <|
        pss_cons (ps_set (i := 3) nd rfl (.inl rfl) (pe_op op_mod (pe_op op_mul (pv 3) (pe_op op_add (pe_op op_add (pe_op op_fdiv (pv 3) pe_int) pe_int) (pe_ix ix_list (pv 0) pe_int (fun _ _ => rfl)))) pe_int)) <|
        pss_one (ps_ret (pe_op op_mod (pe_op op_mod (pe_op op_mul (pv 3) (pe_op op_add (pe_op op_fdiv (pv 3) pe_int) pe_int)) pe_int) (pv 1))), ?_⟩
    refine ⟨_, rfl, wl, _, 0, .int a, rfl, rfl, SqL.of hw, atI_nat (j := 0) rfl, _, _, rfl, rfl, _, rfl, ite2 (fun e => ?_) (fun e => ?_)⟩
    · refine ⟨_, rfl, wl, _, 0, .int a, rfl, rfl, SqL.of hw, atI_nat (j := 0) rfl, _, rfl, _, _, rfl, rfl, hn, ?_⟩
      refine ⟨_, rfl, wl, _, 0, .int a, rfl, rfl, SqL.of hw, atI_nat (j := 0) rfl, _, rfl, _, _, rfl, rfl, ⟨hn, by omega⟩, ?_⟩
      refine ⟨_, rfl, wl, _, 0, 0, rfl, rfl, hw, rfl, ?_⟩
      refine ⟨_, rfl, ?_⟩
      exact q _ _ (Int.emod_nonneg _ (by omega)) (Int.emod_lt_of_pos _ hn) ⟨But.upd, ⟨_, upd_same, _, _, _, rfl⟩⟩
    · have h1 : (upd H wl (HO.lst [.int a, .int b, .int (c + 1)])) wl = some (.lst [.int a, .int b, .int (c + 1)]) := upd_same
      refine ⟨_, rfl, wl, _, 2, .int c, rfl, rfl, SqL.of hw, atI_nat (j := 2) rfl, _, _, rfl, rfl, ?_⟩
      refine ⟨_, rfl, wl, _, 2, 2, rfl, rfl, hw, rfl, ?_⟩
      refine ⟨_, rfl, wl, _, 1, .int b, rfl, rfl, SqL.of h1, atI_nat (j := 1) rfl, _, _, rfl, rfl, (by show (0 : Int) < 2147483629; decide), ?_⟩
      refine ⟨_, rfl, wl, _, 1, .int b, rfl, rfl, SqL.of h1, atI_nat (j := 1) rfl, _, _, rfl, rfl, wide_div (j := 2147483629) (b := 32) (by decide) (by decide) (by decide) (by decide), _, _, rfl, rfl, .inr ⟨by decide, by decide⟩, _, _, rfl, rfl, ?_⟩
      refine ⟨_, rfl, _, rfl, wl, _, 2, .int (c + 1), rfl, rfl, SqL.of h1, atI_nat (j := 2) rfl, _, _, rfl, rfl, .inl ⟨by decide, by decide⟩, _, _, rfl, rfl, _, _, rfl, rfl, _, _, rfl, rfl, .inr ⟨by decide, by decide⟩, _, _, rfl, rfl, (by show (0 : Int) < 2147483647; decide), ?_⟩
      refine ⟨_, rfl, _, rfl, _, _, rfl, rfl, ⟨by decide, by decide⟩, _, _, rfl, rfl, _, rfl, wl, _, 2, .int (c + 1), rfl, rfl, SqL.of h1, atI_nat (j := 2) rfl, _, _, rfl, rfl, _, _, rfl, rfl, .inl (mod_b (by decide) (by decide)), _, _, rfl, rfl, (by show (0 : Int) < 2147483629; decide), ?_⟩
      refine ⟨_, rfl, _, rfl, _, _, rfl, rfl, ⟨by decide, by decide⟩, _, _, rfl, rfl, _, _, rfl, rfl, .inl (mod_b (by decide) (by decide)), _, _, rfl, rfl, (by show (0 : Int) < 2147483399; decide), _, rfl, _, _, rfl, rfl, hn, ?_⟩
      exact q _ _ (Int.emod_nonneg _ (by omega)) (Int.emod_lt_of_pos _ hn) ⟨But.upd, ⟨_, h1, _, _, _, rfl⟩⟩
end
/-! ### _law_gates -/
def words10 : List Str := ["sum", "times", "most", "least", "first", "one", "sum", "most", "in", "out"]
theorem words10_ok : ∀ k ∈ words10, k ∈ kinds := by decide +kernel
def spLGates (K : PySem.W.Frag) : Sp := fun vs H Q _ => ∃ wl : Addr, vs = [.ref wl] ∧ WellAt wl H ∧ ∀ l gs H', Dr wl H H' → H l = none → LG K H' l gs → (∀ g ∈ gs, GOk g) → 1 ≤ gs.length → gs.length ≤ 7 → Q (.ref l) H'
section
variable {P : Program} {w : World} {K : PySem.W.Frag} {mg : Str → Option Value} {base : Heap}
abbrev nLGates : List Str := ["_law_well_here", "_law_words", "_law_found", "_law_k", "_law_word", "_law_wait"]
abbrev DLGates (P : Program) (w : World) (K : PySem.W.Frag) (mg : Str → Option Value) (base : Heap) := Df P w K mg base 2 "_law_gates" ["_law_well_here"] (spLGates K)
end
/-! ### _law_worths -/
def spLWorths (K : PySem.W.Frag) : Sp := fun vs H Q _ => ∃ (wl : Addr) (m : Nat), vs = [.ref wl, .int (m : Nat)] ∧ m ≤ 300 ∧ WellAt wl H ∧ ∀ p rs H', Dr wl H H' → H' p = some (.tup (rs.map V.int)) → rs.length = m → ROk rs → Q (.ref p) H'
section
variable {P : Program} {w : World} {K : PySem.W.Frag} {mg : Str → Option Value} {base : Heap}
abbrev nLWorths : List Str := ["_law_well_here", "_law_many", "_law_k"]
abbrev DLWorths (P : Program) (w : World) (K : PySem.W.Frag) (mg : Str → Option Value) (base : Heap) := Df P w K mg base 2 "_law_worths" ["_law_well_here", "_law_many"] (spLWorths K)
end
end Lag

set_option maxRecDepth 100000
set_option maxHeartbeats 8000000
namespace Lag
open PySem PySem.Spec PyProof.Rows L2
def numsD (l : List Int) : PyData := .list (l.map PyData.int)
theorem numsD_eq (a b : List Int) : PyData.eqv (numsD a) (numsD b) = decide (a = b) := eqvAll_map (fun x y => intD_eq x y) a b
theorem sh_nums (l : List Int) : Sh 1 (numsD l) := by
  refine sh_list fun d hd => ?_
  obtain ⟨i, _, rfl⟩ := List.mem_map.mp hd
  exact sh_int _
theorem dp_nums {K : PySem.W.Frag} {H : Hp} {l : Addr} {xs : List Int} (h : SqL K H l (xs.map V.int)) : Dp K H (.ref l) (numsD xs) := .lst h (ints_dp xs)
def ivN (l : List Nat) : List V := (l.map fun i => ((i : Nat) : Int)).map V.int
theorem ivN_len (l : List Nat) : (ivN l).length = l.length := by unfold ivN; rw [List.length_map, List.length_map]
theorem ivN_at {l : List Nat} {i k : Nat} (h : l[i]? = some k) : (ivN l)[i]? = some (.int ((k : Nat) : Int)) := by
  unfold ivN
  rw [List.getElem?_map, List.getElem?_map, h]
  rfl
theorem ivN_snoc (l : List Nat) (k : Nat) : ivN (l ++ [k]) = ivN l ++ [.int ((k : Nat) : Int)] := by
  unfold ivN
  rw [List.map_append, List.map_append]
  rfl
def flt (p : Nat → Bool) (i : Nat) : List Nat := (List.range i).filter p
theorem flt_succ (p : Nat → Bool) (i : Nat) : flt p (i + 1) = if p i = true then flt p i ++ [i] else flt p i := by
  unfold flt
  rw [List.range_succ, List.filter_append]
  split
  · rename_i e
    rw [List.filter_cons_of_pos e]
    rfl
  · rename_i e
    rw [List.filter_cons_of_neg e]
    simp
theorem flt_len (p : Nat → Bool) (i : Nat) : (flt p i).length ≤ i := by
  have := List.length_filter_le p (List.range i)
  rw [List.length_range] at this
  exact this
theorem flt_mem {p : Nat → Bool} {i k : Nat} : k ∈ flt p i ↔ k < i ∧ p k = true := by
  unfold flt
  rw [List.mem_filter, List.mem_range]
def pS (gs : List Gt) (k : Nat) : Bool := !decide (V.str (kindAt gs k) = V.str "out")
def pE (gs : List Gt) (k : Nat) : Bool := !inV (.str (kindAt gs k)) [.str "in", .str "out"]
theorem pS_iff {gs : List Gt} {k : Nat} : pS gs k = true ↔ kindAt gs k ≠ "out" := by
  unfold pS
  rw [Bool.not_eq_true', decide_eq_false_iff_not]
  exact ⟨fun h z => h (by rw [z]), fun h z => h (V.str.inj z)⟩
theorem pE_iff {gs : List Gt} {k : Nat} : pE gs k = true ↔ ¬ portK (kindAt gs k) := by
  unfold pE
  rw [Bool.not_eq_true', ← port_in, Bool.not_eq_true]
/-- wires, the outputs below m joined -/
structure WIW (gs : List Gt) (ws : List Wr) (m : Nat) : Prop where
  wok : ∀ x ∈ ws, WOk gs x ∧ x.2.2.length ≤ 4
  rk : ∀ x ∈ ws, x.2.2 = [] → kindAt gs x.2.1 = "out" ∨ x.1 < x.2.1
  one : ∀ e, e < m → kindAt gs e = "out" → cnt ws e = 1
  zero : ∀ e, m ≤ e → kindAt gs e = "out" → cnt ws e = 0
theorem cnt_perm {ws us : List Wr} (h : us.Perm ws) (e : Nat) : cnt us e = cnt ws e := h.countP_eq _
theorem cnt_snoc (ws : List Wr) (x : Wr) (e : Nat) : cnt (ws ++ [x]) e = cnt ws e + if x.2.1 = e then 1 else 0 := by
  unfold cnt
  rw [List.countP_append, List.countP_singleton]
  simp
theorem WIW.nil (gs : List Gt) : WIW gs [] 0 := ⟨fun x h => (nomatch h), fun x h => (nomatch h), fun e h => absurd h (Nat.not_lt_zero _), fun e _ _ => rfl⟩
theorem WIW.inner {gs : List Gt} {ws : List Wr} {x : Wr} (h : WIW gs ws 0) (hw : WOk gs x) (hl : x.2.2.length ≤ 4) (hr : x.2.2 = [] → x.1 < x.2.1) (ho : kindAt gs x.2.1 ≠ "out") : WIW gs (ws ++ [x]) 0 := by
  refine ⟨fun y hy => ?_, fun y hy => ?_, fun e h => absurd h (Nat.not_lt_zero _), fun e he hk => ?_⟩
  · rcases List.mem_append.mp hy with hy | hy
    · exact h.wok y hy
    · rw [List.mem_singleton.mp hy]
      exact ⟨hw, hl⟩
  · rcases List.mem_append.mp hy with hy | hy
    · exact h.rk y hy
    · rw [List.mem_singleton.mp hy]
      exact fun z => .inr (hr z)
  · rw [cnt_snoc, h.zero e he hk, if_neg fun z => ho (by rw [z]; exact hk)]
theorem WIW.outer {gs : List Gt} {ws us : List Wr} {x : Wr} {m : Nat} (h : WIW gs ws m) (hw : WOk gs x) (hl : x.2.2.length ≤ 4) (he : x.2.1 = m) (ho : kindAt gs m = "out") (hp : us.Perm (ws ++ [x])) : WIW gs us (m + 1) := by
  have mem : ∀ y ∈ us, y ∈ ws ∨ y = x := fun y hy => by
    rcases List.mem_append.mp (hp.mem_iff.mp hy) with z | z
    · exact .inl z
    · exact .inr (List.mem_singleton.mp z)
  refine ⟨fun y hy => ?_, fun y hy => ?_, fun e h1 hk => ?_, fun e h1 hk => ?_⟩
  · rcases mem y hy with z | rfl
    · exact h.wok y z
    · exact ⟨hw, hl⟩
  · rcases mem y hy with z | rfl
    · exact h.rk y z
    · exact fun _ => .inl (by rw [he]; exact ho)
  · rw [cnt_perm hp, cnt_snoc]
    by_cases z : e = m
    · rw [z, h.zero m (Nat.le_refl _) ho, if_pos he]
    · rw [h.one e (by omega) hk, if_neg (by omega)]
  · rw [cnt_perm hp, cnt_snoc, h.zero e (by omega) hk, if_neg (by omega)]
theorem WIW.skip {gs : List Gt} {ws : List Wr} {m : Nat} (h : WIW gs ws m) (ho : kindAt gs m ≠ "out") : WIW gs ws (m + 1) :=
  ⟨h.wok, h.rk, fun e h1 hk => by
    by_cases z : e = m
    · rw [z] at hk
      exact absurd hk ho
    · exact h.one e (by omega) hk, fun e h1 hk => h.zero e (by omega) hk⟩
theorem insert_perm {α : Type} (l : List α) (i : Nat) (x : α) : (l.take i ++ [x] ++ l.drop i).Perm (l ++ [x]) := by
  have h1 : (l.take i ++ [x] ++ l.drop i).Perm (l.take i ++ l.drop i ++ [x]) := by
    rw [List.append_assoc, List.append_assoc]
    exact List.Perm.append_left _ List.perm_append_comm
  rw [List.take_append_drop] at h1
  exact h1
def spLWires (K : PySem.W.Frag) : Sp := fun vs H Q _ => ∃ (wl lg : Addr) (gs : List Gt), vs = [.ref wl, .ref lg] ∧ WellAt wl H ∧ lg ≠ wl ∧ LG K H lg gs ∧ gs.length ≤ 7 ∧ (∃ i, i < gs.length ∧ kindAt gs i ≠ "out") ∧ ∀ l ws H', Dr wl H H' → H l = none → LW K H' l ws → WIW gs ws gs.length → ws.length ≤ 21 → Q (.ref l) H'
section
variable {P : Program} {w : World} {K : PySem.W.Frag} {mg : Str → Option Value} {base : Heap}
abbrev nLWires : List Str := ["_law_well_here", "_law_gates_here", "_law_k", "_law_starts", "_law_ends_here", "_law_found", "_law_start", "_law_end", "_law_many"]
abbrev DLWires (P : Program) (w : World) (K : PySem.W.Frag) (mg : Str → Option Value) (base : Heap) := Df P w K mg base 3 "_law_wires" ["_law_well_here", "_law_gates_here"] (spLWires K)
end
end Lag

set_option maxRecDepth 100000
set_option maxHeartbeats 8000000
namespace Lag
open PySem PySem.Spec PyProof.Rows L2
def rInt1 : List V → Hp → VK → Prop := fun xs H Q => (∃ i, xs = [.int i] ∧ Q (.int i) H) ∨ ∃ k, xs = [.bl k] ∧ Q (.int (if k then 1 else 0)) H
theorem int_or {ta tb : TE} {σ : L2.St} {H : Hp} {Q : VK} (c d : Bool) (ha : ∀ Q' : VK, Q' (.bl c) H → ta σ H Q') (hb : ∀ Q' : VK, Q' (.bl d) H → tb σ H Q') (q : Q (.int (if (c || d) = true then 1 else 0)) H) : tCB rInt1 (tCons (tOrV ta tb) tNil) σ H Q := by
  refine ha _ ⟨c, rfl, ?_⟩
  cases c with
  | false => exact hb _ (.inr ⟨d, rfl, q⟩)
  | true => exact .inr ⟨true, rfl, q⟩
theorem All2.set {α β : Type} {R : α → β → Prop} {xs : List α} {ys : List β} (h : All2 R xs ys) {i : Nat} {x : α} {y : β} (r : R x y) : All2 R (xs.set i x) (ys.set i y) := by
  refine ⟨by rw [List.length_set, List.length_set, h.1], fun j a b ha hb => ?_⟩
  rw [List.getElem?_set] at ha hb
  by_cases e : i = j
  · rw [if_pos e] at ha hb
    by_cases hl : i < xs.length
    · have hl2 : i < ys.length := by rw [← h.1]; exact hl
      rw [if_pos (by omega)] at ha hb
      cases ha
      cases hb
      exact r
    · rw [if_neg (by omega)] at ha
      cases ha
  · rw [if_neg e] at ha hb
    exact h.2 j a b ha hb
/-! ### numbered on from t -/
def rotL (n t : Nat) : List Nat := (List.range n).drop t ++ (List.range n).take t
theorem rot_perm (n t : Nat) : (rotL n t).Perm (List.range n) := by
  unfold rotL
  refine List.perm_append_comm.trans ?_
  rw [List.take_append_drop]
theorem rot_map {gs : List Gt} (t : Nat) : ((rotL gs.length t).map fun k => gs.getD k ("", 0)) = gs.drop t ++ gs.take t := by
  have e : (List.range gs.length).map (fun k => gs.getD k ("", 0)) = gs := by
    refine List.ext_getElem? fun i => ?_
    rw [List.getElem?_map]
    by_cases h : i < gs.length
    · rw [List.getElem?_range h, List.getElem?_eq_getElem h]
      show some (gs.getD i ("", 0)) = _
      rw [List.getD_eq_getElem?_getD, List.getElem?_eq_getElem h]
      rfl
    · rw [List.getElem?_eq_none (by rw [List.length_range]; omega), List.getElem?_eq_none (by omega)]
      rfl
  unfold rotL
  rw [List.map_append, List.map_drop, List.map_take, e]
theorem rot_idx {n t i : Nat} (ht : t ≤ n) (hi : i < n) : (((rotL n t).idxOf i : Nat) : Int) = ((i : Int) - (t : Int)) % (n : Int) := by
  have nd : (rotL n t).Nodup := (rot_perm n t).nodup_iff.mpr List.nodup_range
  have key : ∀ j, (rotL n t)[j]? = some i → (rotL n t).idxOf i = j := fun j hj => by
    obtain ⟨hjl, e⟩ := List.getElem?_eq_some_iff.mp hj
    rw [← e]
    exact List.Nodup.idxOf_getElem nd j hjl
  rcases Nat.lt_or_ge i t with h | h
  · have hj : (rotL n t)[n - t + i]? = some i := by
      unfold rotL
      rw [List.getElem?_append_right (by rw [List.length_drop, List.length_range]; omega), List.length_drop, List.length_range, List.getElem?_take_of_lt (by omega), List.getElem?_range (by omega)]
      congr 1
      omega
    rw [key _ hj]
    have : ((i : Int) - (t : Int)) % (n : Int) = ((i : Int) - (t : Int) + (n : Int)) % (n : Int) := by rw [Int.add_emod_right]
    rw [this, Int.emod_eq_of_lt (by omega) (by omega)]
    omega
  · have hj : (rotL n t)[i - t]? = some i := by
      unfold rotL
      rw [List.getElem?_append_left (by rw [List.length_drop, List.length_range]; omega), List.getElem?_drop, List.getElem?_range (by omega)]
      congr 1
      omega
    rw [key _ hj, Int.emod_eq_of_lt (by omega) (by omega)]
    omega
theorem rot_on {n t i : Nat} (ht : t < n) (hi : i < n) : (((rotL n (n - t)).idxOf i : Nat) : Int) = ((i : Int) + (t : Int)) % (n : Int) := by
  rw [rot_idx (by omega) hi]
  have e : ((i : Int) - ((n - t : Nat) : Int)) = (i : Int) + (t : Int) - (n : Int) := by omega
  rw [e, Int.sub_emod_right]
/-! ### a first that nothing leads into is a sum -/
def fixK (gs : List Gt) (ws : List Wr) (k : Nat) : Str := if kindAt gs k = "first" ∧ cnt ws k = 0 then "sum" else kindAt gs k
def fixG (gs : List Gt) (ws : List Wr) : List Gt := (List.range gs.length).map fun k => (fixK gs ws k, (gs.getD k ("", 0)).2)
theorem fixG_len (gs : List Gt) (ws : List Wr) : (fixG gs ws).length = gs.length := by unfold fixG; rw [List.length_map, List.length_range]
theorem fixG_at {gs : List Gt} {ws : List Wr} {k : Nat} (h : k < gs.length) : (fixG gs ws)[k]? = some (fixK gs ws k, (gs.getD k ("", 0)).2) := by
  unfold fixG
  rw [List.getElem?_map, List.getElem?_range h]
  rfl
theorem kindAt_fix {gs : List Gt} {ws : List Wr} {k : Nat} (h : k < gs.length) : kindAt (fixG gs ws) k = fixK gs ws k := kindAt_get (fixG_at h)
theorem fixK_port {gs : List Gt} {ws : List Wr} {k : Nat} {z : Str} (hz : z = "in" ∨ z = "out") : fixK gs ws k = z ↔ kindAt gs k = z := by
  unfold fixK
  split
  · rename_i h
    constructor
    · intro e
      rcases hz with rfl | rfl <;> exact absurd e (by decide)
    · intro e
      rw [h.1] at e
      rcases hz with rfl | rfl <;> exact absurd e (by decide)
  · exact Iff.rfl
theorem WIW.net {gs : List Gt} {ws : List Wr} (h : WIW gs ws gs.length) (ne : gs ≠ []) (gl : gs.length ≤ 100) (wl : ws.length ≤ 1000) (gok : ∀ g ∈ gs, GOk g) : NetOk (fixG gs ws) ws := by
  have fl := fixG_len gs ws
  refine ⟨fun z => ?_, by omega, wl, fun g hg => ?_, fun x hx => ?_, fun e he hk => ?_, fun e he hk => ?_, ?_⟩
  · rw [z] at fl
    exact ne (List.length_eq_zero_iff.mp fl.symm)
  · obtain ⟨k, hk, rfl⟩ := List.mem_map.mp hg
    have hk := List.mem_range.mp hk
    obtain ⟨g1, g2, g3, g4⟩ := gok _ (List.getElem_mem hk)
    have e1 : (gs.getD k ("", 0)) = gs[k] := by rw [List.getD_eq_getElem?_getD, List.getElem?_eq_getElem hk]; rfl
    have e2 : kindAt gs k = gs[k].1 := kindAt_get (List.getElem?_eq_getElem hk)
    rw [e1]
    refine ⟨?_, g2, g3, fun z => g4 ?_⟩
    · show fixK gs ws k ∈ kinds
      unfold fixK
      split
      · decide +kernel
      · rw [e2]
        exact g1
    · rw [← e2]
      rcases z with z | z
      · exact .inl ((fixK_port (.inl rfl)).mp z)
      · exact .inr ((fixK_port (.inr rfl)).mp z)
  · obtain ⟨w1, _⟩ := h.wok x hx
    refine ⟨by rw [fl]; exact w1.s, by rw [fl]; exact w1.e, ?_, ?_, w1.r, w1.rl⟩
    · rw [kindAt_fix w1.s]
      exact fun z => w1.ks ((fixK_port (.inr rfl)).mp z)
    · rw [kindAt_fix w1.e]
      exact fun z => w1.ke ((fixK_port (.inl rfl)).mp z)
  · rw [fl] at he
    rw [kindAt_fix he] at hk
    exact h.one e he ((fixK_port (.inr rfl)).mp hk)
  · rw [fl] at he
    rw [kindAt_fix he] at hk
    unfold fixK at hk
    split at hk
    · exact absurd hk (by decide)
    · rename_i hn
      have : cnt ws e ≠ 0 := fun z => hn ⟨hk, z⟩
      omega
  · refine ⟨fun k => if kindAt gs k = "out" then gs.length else k, fun x hx hr => ?_⟩
    obtain ⟨w1, _⟩ := h.wok x hx
    show (if kindAt gs x.1 = "out" then gs.length else x.1) < if kindAt gs x.2.1 = "out" then gs.length else x.2.1
    rw [if_neg w1.ks]
    split
    · exact w1.s
    · rename_i hn
      exact (h.rk x hx hr).resolve_left hn
def leds (ws : List Wr) : List V := (ws.map fun x => x.2.1).map fun i => V.int ((i : Nat) : Int)
theorem led_in {ws : List Wr} {k : Nat} : inV (.int ((k : Nat) : Int)) (leds ws) = true ↔ cnt ws k ≠ 0 := by
  unfold inV leds cnt
  rw [List.any_eq_true]
  constructor
  · rintro ⟨v, hv, he⟩ z
    obtain ⟨i, hi, rfl⟩ := List.mem_map.mp hv
    obtain ⟨x, hx, rfl⟩ := List.mem_map.mp hi
    have e : ((x.2.1 : Nat) : Int) = ((k : Nat) : Int) := of_decide_eq_true he
    exact absurd (List.countP_eq_zero.mp z x hx) (by simp; omega)
  · intro z
    have : 0 < ws.countP (fun x => x.2.1 == k) := Nat.pos_of_ne_zero z
    obtain ⟨x, hx, he⟩ := List.countP_pos_iff.mp this
    refine ⟨_, List.mem_map.mpr ⟨x.2.1, List.mem_map.mpr ⟨x, hx, rfl⟩, rfl⟩, ?_⟩
    rw [eq_of_beq he]
    exact decide_eq_true rfl
def nonOut (g : Gt) : Bool := !decide (V.str g.1 = V.str "out")
theorem nonOut_iff {g : Gt} : nonOut g = true ↔ g.1 ≠ "out" := by
  unfold nonOut
  rw [Bool.not_eq_true', decide_eq_false_iff_not]
  exact ⟨fun h z => h (by rw [z]), fun h z => h (V.str.inj z)⟩
def spLParts (K : PySem.W.Frag) : Sp := fun vs H Q _ => ∃ wl : Addr, vs = [.ref wl] ∧ WellAt wl H ∧
  ∀ (gs : List Gt) (ws : List Wr) (lg lw p : Addr) (H' : Hp), NetOk gs ws → gs.length ≤ 7 → ws.length ≤ 21 → (∀ x ∈ ws, x.2.2.length ≤ 4) → Dr wl H H' → H lg = none → H lw = none → lg ≠ lw → LG K H' lg gs → LW K H' lw ws → H' p = some (.tup [.ref lg, .ref lw]) → Q (.ref p) H'
section
variable {P : Program} {w : World} {K : PySem.W.Frag} {mg : Str → Option Value} {base : Heap}
abbrev nLParts : List Str := ["_law_well_here", "_law_gates_here", "_law_gate", "_law_wires_here", "_law_wire", "_law_led", "_law_k", "_law_turn", "_law_start", "_law_end", "_law_some", "_law_cut"]
abbrev DLParts (P : Program) (w : World) (K : PySem.W.Frag) (mg : Str → Option Value) (base : Heap) := Df P w K mg base 4 "_law_parts" ["_law_well_here"] (spLParts K)
end
end Lag

set_option maxRecDepth 100000
set_option maxHeartbeats 8000000
namespace Lag
open PySem PySem.Spec PyProof.Rows L2
/-! ### the best ways from a gate: the mathematics -/
abbrev Cst := Int × Int
def gw (gs : List Gt) (g : Nat) : Int := (gs.getD g ("", 0)).2
/-- a way's cost, one wire longer -/
def addC (gs : List Gt) (c : Cst) (x : Wr) : Cst := (c.1 + ((x.2.2.length : Nat) : Int), c.2 - gw gs x.2.1)
def ltC (a b : Cst) : Prop := a.1 < b.1 ∨ (a.1 = b.1 ∧ a.2 < b.2)
instance (a b : Cst) : Decidable (ltC a b) := by unfold ltC; exact inferInstance
def leC (a b : Cst) : Prop := ¬ ltC b a
theorem leC.refl (a : Cst) : leC a a := fun h => by
  rcases h with h | h
  · omega
  · omega
theorem leC_iff {a b : Cst} : leC a b ↔ a.1 < b.1 ∨ (a.1 = b.1 ∧ a.2 ≤ b.2) := by
  unfold leC ltC
  omega
theorem leC.trans {a b c : Cst} (h : leC a b) (h' : leC b c) : leC a c := by
  rw [leC_iff] at *
  omega
theorem ltC.le {a b : Cst} (h : ltC a b) : leC a b := by
  rw [leC_iff]
  unfold ltC at h
  omega
theorem leC.add {gs : List Gt} {a b : Cst} (x : Wr) (h : leC a b) : leC (addC gs a x) (addC gs b x) := by
  rw [leC_iff] at *
  unfold addC
  show a.1 + _ < b.1 + _ ∨ (a.1 + _ = b.1 + _ ∧ a.2 - _ ≤ b.2 - _)
  omega
theorem leC.anti {a b : Cst} (h : leC a b) (h' : leC b a) : a = b := by
  rw [leC_iff] at *
  exact Prod.ext (by omega) (by omega)
abbrev Dst := Nat → Option Cst
def setD (D : Dst) (g : Nat) (c : Cst) : Dst := fun j => if j = g then some c else D j
/-- whether this wire betters what is known -/
def bet (gs : List Gt) (D : Dst) (x : Wr) : Prop := ∃ c, D x.1 = some c ∧ ∀ o, D x.2.1 = some o → ltC (addC gs c x) o
def rel (gs : List Gt) (D : Dst) (x : Wr) : Dst := match D x.1 with
  | none => D
  | some c => match D x.2.1 with
    | none => setD D x.2.1 (addC gs c x)
    | some o => if ltC (addC gs c x) o then setD D x.2.1 (addC gs c x) else D
theorem rel_none {gs : List Gt} {D : Dst} {x : Wr} (h : D x.1 = none) : rel gs D x = D := by
  unfold rel
  rw [h]
theorem rel_new {gs : List Gt} {D : Dst} {x : Wr} {c : Cst} (h : D x.1 = some c) (h2 : D x.2.1 = none) : rel gs D x = setD D x.2.1 (addC gs c x) := by
  unfold rel
  rw [h, h2]
theorem rel_old {gs : List Gt} {D : Dst} {x : Wr} {c o : Cst} (h : D x.1 = some c) (h2 : D x.2.1 = some o) : rel gs D x = if ltC (addC gs c x) o then setD D x.2.1 (addC gs c x) else D := by
  unfold rel
  rw [h, h2]
/-- no worse anywhere -/
def leD (D D' : Dst) : Prop := ∀ g c', D' g = some c' → ∃ c, D g = some c ∧ leC c c'
theorem leD.refl (D : Dst) : leD D D := fun g c h => ⟨c, h, leC.refl c⟩
theorem leD.trans {a b c : Dst} (h : leD a b) (h' : leD b c) : leD a c := fun g z hz => by
  obtain ⟨y, hy, h1⟩ := h' g z hz
  obtain ⟨x, hx, h2⟩ := h g y hy
  exact ⟨x, hx, h2.trans h1⟩
theorem rel_le (gs : List Gt) (D : Dst) (x : Wr) : leD (rel gs D x) D := by
  intro g c' hg
  cases h : D x.1 with
  | none =>
    rw [rel_none h]
    exact ⟨c', hg, leC.refl _⟩
  | some c =>
    cases h2 : D x.2.1 with
    | none =>
      rw [rel_new h h2]
      unfold setD
      by_cases e : g = x.2.1
      · rw [e, h2] at hg
        cases hg
      · rw [if_neg e]
        exact ⟨c', hg, leC.refl _⟩
    | some o =>
      rw [rel_old h h2]
      by_cases hl : ltC (addC gs c x) o
      · rw [if_pos hl]
        unfold setD
        by_cases e : g = x.2.1
        · rw [if_pos e]
          rw [e, h2] at hg
          cases hg
          exact ⟨_, rfl, hl.le⟩
        · rw [if_neg e]
          exact ⟨c', hg, leC.refl _⟩
      · rw [if_neg hl]
        exact ⟨c', hg, leC.refl _⟩
theorem rel_done {gs : List Gt} {D : Dst} {x : Wr} {c : Cst} (h : D x.1 = some c) : ∃ o, rel gs D x x.2.1 = some o ∧ leC o (addC gs c x) := by
  cases h2 : D x.2.1 with
  | none =>
    rw [rel_new h h2]
    unfold setD
    rw [if_pos rfl]
    exact ⟨_, rfl, leC.refl _⟩
  | some o =>
    rw [rel_old h h2]
    by_cases hl : ltC (addC gs c x) o
    · rw [if_pos hl]
      unfold setD
      rw [if_pos rfl]
      exact ⟨_, rfl, leC.refl _⟩
    · rw [if_neg hl]
      exact ⟨o, h2, hl⟩
def rnd (gs : List Gt) (ws : List Wr) (D : Dst) : Dst := ws.foldl (rel gs) D
theorem fold_le (gs : List Gt) : ∀ (ws : List Wr) (D : Dst), leD (ws.foldl (rel gs) D) D
  | [], D => leD.refl D
  | x :: ws, D => (fold_le gs ws (rel gs D x)).trans (rel_le gs D x)
theorem rnd_done (gs : List Gt) : ∀ (ws : List Wr) (D : Dst) (x : Wr) (c : Cst), x ∈ ws → D x.1 = some c → ∃ o, rnd gs ws D x.2.1 = some o ∧ leC o (addC gs c x)
  | [], _, _, _, h, _ => by cases h
  | y :: ws, D, x, c, h, hc => by
    show ∃ o, ws.foldl (rel gs) (rel gs D y) x.2.1 = some o ∧ _
    rcases List.mem_cons.mp h with e | h
    · subst e
      obtain ⟨o, ho, h1⟩ := rel_done (gs := gs) hc
      obtain ⟨o2, ho2, h2⟩ := fold_le gs ws _ _ _ ho
      exact ⟨o2, ho2, h2.trans h1⟩
    · obtain ⟨c2, hc2, h1⟩ := rel_le gs D y _ _ hc
      obtain ⟨o, ho, h2⟩ := rnd_done gs ws (rel gs D y) x c2 h hc2
      exact ⟨o, ho, h2.trans (h1.add x)⟩
def ini (gs : List Gt) (s : Nat) : Dst := fun g => if g = s then some (0, -gw gs s) else none
def rnds (gs : List Gt) (ws : List Wr) (s : Nat) : Nat → Dst
  | 0 => ini gs s
  | k + 1 => rnd gs ws (rnds gs ws s k)
/-- ways along wires: the gates come by, the last one ahead; what it costs -/
inductive Wk (gs : List Gt) (ws : List Wr) (s : Nat) : List Nat → Nat → Cst → Prop
  | nil : Wk gs ws s [s] s (0, -gw gs s)
  | cons {vs : List Nat} {u : Nat} {c : Cst} {x : Wr} : Wk gs ws s vs u c → x ∈ ws → x.1 = u → Wk gs ws s (x.2.1 :: vs) x.2.1 (addC gs c x)
/-- what is known is a way's cost -/
def Snd (gs : List Gt) (ws : List Wr) (s : Nat) (D : Dst) : Prop := ∀ g c, D g = some c → ∃ vs, Wk gs ws s vs g c
theorem Snd.ini (gs : List Gt) (ws : List Wr) (s : Nat) : Snd gs ws s (ini gs s) := fun g c h => by
  unfold Lag.ini at h
  by_cases e : g = s
  · rw [if_pos e] at h
    cases h
    rw [e]
    exact ⟨_, .nil⟩
  · rw [if_neg e] at h
    cases h
theorem Snd.set {gs : List Gt} {ws : List Wr} {s : Nat} {D : Dst} {x : Wr} {c : Cst} (h : Snd gs ws s D) (hx : x ∈ ws) (hc : D x.1 = some c) : Snd gs ws s (setD D x.2.1 (addC gs c x)) := fun g c' hg => by
  unfold setD at hg
  by_cases e : g = x.2.1
  · rw [if_pos e] at hg
    cases hg
    rw [e]
    obtain ⟨vs, hv⟩ := h _ _ hc
    exact ⟨_, .cons hv hx rfl⟩
  · rw [if_neg e] at hg
    exact h g c' hg
theorem Snd.rel {gs : List Gt} {ws : List Wr} {s : Nat} {D : Dst} {x : Wr} (h : Snd gs ws s D) (hx : x ∈ ws) : Snd gs ws s (rel gs D x) := by
  cases h1 : D x.1 with
  | none =>
    rw [rel_none h1]
    exact h
  | some c =>
    cases h2 : D x.2.1 with
    | none =>
      rw [rel_new h1 h2]
      exact h.set hx h1
    | some o =>
      rw [rel_old h1 h2]
      split
      · exact h.set hx h1
      · exact h
theorem Snd.fold {gs : List Gt} {ws : List Wr} {s : Nat} : ∀ {us : List Wr} {D : Dst}, (∀ x ∈ us, x ∈ ws) → Snd gs ws s D → Snd gs ws s (us.foldl (Lag.rel gs) D)
  | [], _, _, h => h
  | x :: us, D, hu, h => Snd.fold (us := us) (fun y hy => hu y (List.mem_cons_of_mem _ hy)) (h.rel (hu x (List.mem_cons_self ..)))
theorem Snd.rnds {gs : List Gt} {ws : List Wr} {s : Nat} : ∀ k, Snd gs ws s (rnds gs ws s k)
  | 0 => Snd.ini gs ws s
  | k + 1 => Snd.fold (fun _ h => h) (Snd.rnds k)
/-- after k rounds no way of so many wires is better -/
theorem Wk.comp {gs : List Gt} {ws : List Wr} {s : Nat} {vs : List Nat} {g : Nat} {c : Cst} (h : Wk gs ws s vs g c) : ∀ k, vs.length ≤ k + 1 → ∃ o, rnds gs ws s k g = some o ∧ leC o c := by
  induction h with
  | nil =>
    intro k _
    induction k with
    | zero => exact ⟨_, by unfold rnds ini; rw [if_pos rfl], leC.refl _⟩
    | succ k ih =>
      obtain ⟨o, ho, h1⟩ := ih (by simp)
      obtain ⟨o2, ho2, h2⟩ := fold_le gs ws _ _ _ ho
      exact ⟨o2, ho2, h2.trans h1⟩
  | @cons vs u c x hw hx hu ih =>
    intro k hk
    rw [List.length_cons] at hk
    cases k with
    | zero =>
      exfalso
      cases hw with
      | nil => simp at hk
      | cons _ _ _ => simp at hk
    | succ k =>
      obtain ⟨o, ho, h1⟩ := ih k (by omega)
      rw [← hu] at ho
      obtain ⟨o2, ho2, h2⟩ := rnd_done gs ws _ x o hx ho
      exact ⟨o2, ho2, h2.trans (h1.add x)⟩
/-- the way to a gate that was come by -/
theorem Wk.sub {gs : List Gt} {ws : List Wr} {s : Nat} {ρ : Nat → Nat} (hρ : ∀ x ∈ ws, x.2.2 = [] → ρ x.1 < ρ x.2.1) {vs : List Nat} {g : Nat} {c : Cst} (h : Wk gs ws s vs g c) :
    ∀ u ∈ vs, ∃ vs' c', Wk gs ws s vs' u c' ∧ vs' <:+ vs ∧ c'.1 ≤ c.1 ∧ (c'.1 = c.1 → ρ u ≤ ρ g) := by
  induction h with
  | nil =>
    intro u hu
    rw [List.mem_singleton.mp hu]
    exact ⟨_, _, .nil, List.suffix_refl _, Int.le_refl _, fun _ => Nat.le_refl _⟩
  | @cons vs v c x hw hx hv ih =>
    intro u hu
    rcases List.mem_cons.mp hu with e | hu
    · rw [e]
      exact ⟨_, _, .cons hw hx hv, List.suffix_refl _, Int.le_refl _, fun _ => Nat.le_refl _⟩
    · obtain ⟨vs', c', h1, h2, h3, h4⟩ := ih u hu
      refine ⟨vs', c', h1, h2.trans (List.suffix_cons ..), ?_, fun e => ?_⟩
      · show c'.1 ≤ c.1 + _
        omega
      · have e : c'.1 = c.1 + ((x.2.2.length : Nat) : Int) := e
        have hx0 : x.2.2 = [] := List.length_eq_zero_iff.mp (by omega)
        have h5 := h4 (by omega)
        have h6 := hρ x hx hx0
        rw [hv] at h6
        omega
/-- a way without a gate twice is as good -/
theorem Wk.simple {gs : List Gt} {ws : List Wr} {s : Nat} {ρ : Nat → Nat} (hρ : ∀ x ∈ ws, x.2.2 = [] → ρ x.1 < ρ x.2.1) {vs : List Nat} {g : Nat} {c : Cst} (h : Wk gs ws s vs g c) :
    ∃ vs' c', Wk gs ws s vs' g c' ∧ vs'.Nodup ∧ leC c' c := by
  induction h with
  | nil => exact ⟨_, _, .nil, by simp, leC.refl _⟩
  | @cons vs v c x hw hx hv ih =>
    obtain ⟨vs', c', h1, h2, h3⟩ := ih
    by_cases hm : x.2.1 ∈ vs'
    · obtain ⟨vs2, c2, k1, k2, k3, k4⟩ := h1.sub hρ _ hm
      refine ⟨vs2, c2, k1, h2.sublist k2.sublist, ?_⟩
      refine leC.trans (ltC.le ?_) (h3.add x)
      refine .inl ?_
      show c2.1 < c'.1 + _
      rcases Nat.eq_zero_or_pos x.2.2.length with h0 | h0
      · have hx0 : x.2.2 = [] := List.length_eq_zero_iff.mp h0
        have h6 := hρ x hx hx0
        rw [hv] at h6
        by_cases e : c2.1 = c'.1
        · have := k4 e
          omega
        · omega
      · omega
    · exact ⟨_, _, .cons h1 hx hv, List.nodup_cons.mpr ⟨hm, h2⟩, h3.add x⟩
theorem Wk.lows {gs : List Gt} {ws : List Wr} {s : Nat} (N : NetOk gs ws) (hs : s < gs.length) {vs : List Nat} {g : Nat} {c : Cst} (h : Wk gs ws s vs g c) : ∀ u ∈ vs, u < gs.length := by
  induction h with
  | nil =>
    intro u hu
    rw [List.mem_singleton.mp hu]
    exact hs
  | @cons vs v c x hw hx hv ih =>
    intro u hu
    rcases List.mem_cons.mp hu with e | hu
    · rw [e]
      exact (N.wok x hx).e
    · exact ih u hu
theorem svNodup_le {n : Nat} {l : List Nat} (hnd : l.Nodup) (hlt : ∀ e ∈ l, e < n) : l.length ≤ n := by
  have h2 := List.Nodup.length_le_of_subset hnd (l₂ := List.range n) (fun a ha => List.mem_range.mpr (hlt a ha))
  rw [List.length_range] at h2
  exact h2
/-- nothing is bettered any more -/
def Fix (gs : List Gt) (ws : List Wr) (D : Dst) : Prop := ∀ x ∈ ws, ¬ bet gs D x
theorem rel_fix {gs : List Gt} {D : Dst} {x : Wr} (h : ¬ bet gs D x) : rel gs D x = D := by
  cases h1 : D x.1 with
  | none => exact rel_none h1
  | some c =>
    cases h2 : D x.2.1 with
    | none => exact absurd ⟨c, h1, fun o ho => by rw [h2] at ho; cases ho⟩ h
    | some o =>
      rw [rel_old h1 h2, if_neg fun hl => h ⟨c, h1, fun o' ho => by rw [h2] at ho; cases ho; exact hl⟩]
theorem fold_fix {gs : List Gt} {D : Dst} : ∀ {ws : List Wr}, (∀ x ∈ ws, ¬ bet gs D x) → ws.foldl (rel gs) D = D
  | [], _ => rfl
  | x :: ws, h => by
    rw [List.foldl_cons, rel_fix (h x (List.mem_cons_self ..))]
    exact fold_fix fun y hy => h y (List.mem_cons_of_mem _ hy)
theorem rnds_fix {gs : List Gt} {ws : List Wr} {s : Nat} (N : NetOk gs ws) (hs : s < gs.length) {k : Nat} (hk : gs.length ≤ k + 1) : Fix gs ws (rnds gs ws s k) := by
  obtain ⟨ρ, hρ⟩ := N.rank
  rintro x hx ⟨c, hc, hb⟩
  obtain ⟨vs, hv⟩ := Snd.rnds (gs := gs) (ws := ws) (s := s) k _ _ hc
  obtain ⟨vs', c', h1, h2, h3⟩ := (Wk.cons hv hx rfl).simple hρ
  obtain ⟨o, ho, h4⟩ := h1.comp k (by have := svNodup_le h2 (h1.lows N hs); omega)
  exact h4.trans h3 (hb o ho)
theorem rnds_stay {gs : List Gt} {ws : List Wr} {s k : Nat} (h : Fix gs ws (rnds gs ws s k)) : ∀ j, rnds gs ws s (k + j) = rnds gs ws s k
  | 0 => rfl
  | j + 1 => by
    show rnd gs ws (rnds gs ws s (k + j)) = _
    rw [rnds_stay h j]
    exact fold_fix h
theorem rel_below {gs : List Gt} {ws : List Wr} (N : NetOk gs ws) {D : Dst} {x : Wr} (hx : x ∈ ws) (h : ∀ g c, D g = some c → g < gs.length) : ∀ g c, rel gs D x g = some c → g < gs.length := fun g c hg => by
  have st : ∀ c', setD D x.2.1 c' g = some c → g < gs.length := fun c' hs => by
    unfold setD at hs
    by_cases e : g = x.2.1
    · rw [e]
      exact (N.wok x hx).e
    · rw [if_neg e] at hs
      exact h g c hs
  cases h1 : D x.1 with
  | none =>
    rw [rel_none h1] at hg
    exact h g c hg
  | some d =>
    cases h2 : D x.2.1 with
    | none =>
      rw [rel_new h1 h2] at hg
      exact st _ hg
    | some o =>
      rw [rel_old h1 h2] at hg
      split at hg
      · exact st _ hg
      · exact h g c hg

theorem gw_get {gs : List Gt} {i : Nat} {g : Gt} (h : gs[i]? = some g) : gw gs i = g.2 := by
  unfold gw
  rw [List.getD_eq_getElem?_getD, h]
  rfl
theorem gw_nn {gs : List Gt} {ws : List Wr} (N : NetOk gs ws) (i : Nat) : 0 ≤ gw gs i := by
  unfold gw
  rw [List.getD_eq_getElem?_getD]
  cases e : gs[i]? with
  | none => exact Int.le_refl 0
  | some g => exact (N.gok g (List.mem_of_getElem? e)).2.1
/-! ### ways by their wires' places -/
def svW (ws : List Wr) (p : Nat) : Wr := ws.getD p (0, 0, [])
theorem svW_get {ws : List Wr} {p : Nat} {x : Wr} (h : ws[p]? = some x) : svW ws p = x := by
  unfold svW
  rw [List.getD_eq_getElem?_getD, h]
  rfl
def Pw (ws : List Wr) : Nat → List Nat → Nat → Prop
  | s, [], e => s = e
  | s, p :: r, e => ∃ x, ws[p]? = some x ∧ x.1 = s ∧ Pw ws x.2.1 r e
def prg (ws : List Wr) (ps : List Nat) : Int := (ps.map fun p => (((svW ws p).2.2.length : Nat) : Int)).sum
def pws (gs : List Gt) (ws : List Wr) (ps : List Nat) : Int := (ps.map fun p => gw gs (svW ws p).2.1).sum
def pwt (gs : List Gt) (ws : List Wr) (g : Nat) (ps : List Nat) : Int := gw gs g + pws gs ws ps
theorem sum_snoc (l : List Int) (a : Int) : (l ++ [a]).sum = l.sum + a := by
  rw [List.sum_append, List.sum_cons, List.sum_nil]
  omega
theorem prg_nil (ws : List Wr) : prg ws [] = 0 := rfl
theorem pws_nil (gs : List Gt) (ws : List Wr) : pws gs ws [] = 0 := rfl
theorem prg_cons {ws : List Wr} {p : Nat} {x : Wr} (h : ws[p]? = some x) (r : List Nat) : prg ws (p :: r) = ((x.2.2.length : Nat) : Int) + prg ws r := by
  unfold prg
  rw [List.map_cons, List.sum_cons, svW_get h]
theorem pws_cons {gs : List Gt} {ws : List Wr} {p : Nat} {x : Wr} (h : ws[p]? = some x) (r : List Nat) : pws gs ws (p :: r) = gw gs x.2.1 + pws gs ws r := by
  unfold pws
  rw [List.map_cons, List.sum_cons, svW_get h]
theorem prg_snoc {ws : List Wr} {p : Nat} {x : Wr} (h : ws[p]? = some x) (r : List Nat) : prg ws (r ++ [p]) = prg ws r + ((x.2.2.length : Nat) : Int) := by
  unfold prg
  rw [List.map_append]
  rw [← svW_get h]
  exact sum_snoc _ _
theorem pws_snoc {gs : List Gt} {ws : List Wr} {p : Nat} {x : Wr} (h : ws[p]? = some x) (r : List Nat) : pws gs ws (r ++ [p]) = pws gs ws r + gw gs x.2.1 := by
  unfold pws
  rw [List.map_append]
  rw [← svW_get h]
  exact sum_snoc _ _
theorem prg_app (ws : List Wr) (a b : List Nat) : prg ws (a ++ b) = prg ws a + prg ws b := by
  unfold prg
  rw [List.map_append, List.sum_append]
theorem pws_app (gs : List Gt) (ws : List Wr) (a b : List Nat) : pws gs ws (a ++ b) = pws gs ws a + pws gs ws b := by
  unfold pws
  rw [List.map_append, List.sum_append]
theorem prg_nn (ws : List Wr) : ∀ ps, 0 ≤ prg ws ps
  | [] => Int.le_refl 0
  | p :: r => by
    have := prg_nn ws r
    unfold prg at *
    rw [List.map_cons, List.sum_cons]
    omega
theorem pws_nn {gs : List Gt} {ws : List Wr} (N : NetOk gs ws) : ∀ ps, 0 ≤ pws gs ws ps
  | [] => Int.le_refl 0
  | p :: r => by
    have := pws_nn N r
    have := gw_nn N (svW ws p).2.1
    unfold pws at *
    rw [List.map_cons, List.sum_cons]
    omega
theorem Pw.app {ws : List Wr} : ∀ {a : List Nat} {s m e : Nat} {b : List Nat}, Pw ws s a m → Pw ws m b e → Pw ws s (a ++ b) e
  | [], _, _, _, _, h, h' => by
    have h : _ = _ := h
    rw [h]
    exact h'
  | p :: a, s, m, e, b, ⟨x, h1, h2, h3⟩, h' => ⟨x, h1, h2, Pw.app h3 h'⟩
theorem Pw.snoc {ws : List Wr} {s e p : Nat} {a : List Nat} {x : Wr} (h : Pw ws s a e) (hx : ws[p]? = some x) (hs : x.1 = e) : Pw ws s (a ++ [p]) x.2.1 :=
  Pw.app h ⟨x, hx, hs, rfl⟩
theorem Pw.split {ws : List Wr} : ∀ {a : List Nat} {s e : Nat} {b : List Nat}, Pw ws s (a ++ b) e → ∃ m, Pw ws s a m ∧ Pw ws m b e
  | [], s, e, b, h => ⟨s, rfl, h⟩
  | p :: a, s, e, b, ⟨x, h1, h2, h3⟩ => by
    obtain ⟨m, h4, h5⟩ := Pw.split h3
    exact ⟨m, ⟨x, h1, h2, h4⟩, h5⟩
theorem Pw.fn {ws : List Wr} : ∀ {a : List Nat} {s e e' : Nat}, Pw ws s a e → Pw ws s a e' → e = e'
  | [], s, e, e', h, h' => by
    have h : s = e := h
    have h' : s = e' := h'
    omega
  | p :: a, s, e, e', ⟨x, h1, h2, h3⟩, ⟨y, k1, k2, k3⟩ => by
    rw [h1] at k1
    cases k1
    exact Pw.fn h3 k3
theorem Pw.lt {gs : List Gt} {ws : List Wr} (N : NetOk gs ws) : ∀ {a : List Nat} {s e : Nat}, s < gs.length → Pw ws s a e → e < gs.length
  | [], s, e, hs, h => by
    have h : s = e := h
    omega
  | p :: a, s, e, hs, ⟨x, h1, h2, h3⟩ => Pw.lt N (N.wok x (List.mem_of_getElem? h1)).e h3
theorem Pw.places {ws : List Wr} : ∀ {a : List Nat} {s e : Nat}, Pw ws s a e → ∀ p ∈ a, p < ws.length
  | [], _, _, _, p, h => by cases h
  | q :: a, s, e, ⟨x, h1, h2, h3⟩, p, h => by
    rcases List.mem_cons.mp h with h | h
    · rw [h]
      exact (List.getElem?_eq_some_iff.mp h1).1
    · exact Pw.places h3 p h
theorem Wk.pw {gs : List Gt} {ws : List Wr} {s : Nat} {vs : List Nat} {g : Nat} {c : Cst} (h : Wk gs ws s vs g c) : ∃ ps, Pw ws s ps g ∧ c = (prg ws ps, -pwt gs ws s ps) := by
  induction h with
  | nil => exact ⟨[], rfl, by unfold pwt; rw [pws_nil, prg_nil, Int.add_zero]⟩
  | @cons vs u c x hw hx hu ih =>
    obtain ⟨ps, h1, h2⟩ := ih
    obtain ⟨p, hp⟩ := List.getElem?_of_mem hx
    refine ⟨ps ++ [p], h1.snoc hp hu, ?_⟩
    rw [h2]
    unfold addC pwt
    rw [prg_snoc hp, pws_snoc hp]
    refine Prod.ext rfl ?_
    show -(gw gs s + pws gs ws ps) - gw gs x.2.1 = -(gw gs s + (pws gs ws ps + gw gs x.2.1))
    omega
theorem Pw.wk {gs : List Gt} {ws : List Wr} {s : Nat} : ∀ {ps : List Nat} {u g : Nat} {vs : List Nat} {c : Cst}, Wk gs ws s vs u c → Pw ws u ps g → ∃ vs', Wk gs ws s vs' g (c.1 + prg ws ps, c.2 - pws gs ws ps)
  | [], u, g, vs, c, hw, h => by
    have h : u = g := h
    subst h
    refine ⟨vs, ?_⟩
    rw [prg_nil, pws_nil, Int.add_zero, Int.sub_zero]
    exact hw
  | p :: ps, u, g, vs, c, hw, ⟨x, h1, h2, h3⟩ => by
    obtain ⟨vs', h4⟩ := Pw.wk (Wk.cons hw (List.mem_of_getElem? h1) h2) h3
    refine ⟨vs', ?_⟩
    rw [prg_cons h1, pws_cons h1]
    have e : ((addC gs c x).1 + prg ws ps, (addC gs c x).2 - pws gs ws ps) = (c.1 + (((x.2.2.length : Nat) : Int) + prg ws ps), c.2 - (gw gs x.2.1 + pws gs ws ps)) := by
      refine Prod.ext ?_ ?_
      · show c.1 + _ + _ = _
        omega
      · show c.2 - _ - _ = _
        omega
    rw [← e]
    exact h4
/-! ### the best ways -/
def best (gs : List Gt) (ws : List Wr) (s : Nat) : Dst := rnds gs ws s gs.length
section
variable {gs : List Gt} {ws : List Wr} {s : Nat}
theorem best_fix (N : NetOk gs ws) (hs : s < gs.length) : Fix gs ws (best gs ws s) := rnds_fix N hs (Nat.le_succ _)
theorem best_way {g : Nat} {c : Cst} (h : best gs ws s g = some c) : ∃ ps, Pw ws s ps g ∧ c = (prg ws ps, -pwt gs ws s ps) := by
  obtain ⟨vs, hv⟩ := Snd.rnds (gs := gs) (ws := ws) (s := s) gs.length g c h
  exact hv.pw
theorem best_le (N : NetOk gs ws) (hs : s < gs.length) {ps : List Nat} {g : Nat} (h : Pw ws s ps g) : ∃ c, best gs ws s g = some c ∧ leC c (prg ws ps, -pwt gs ws s ps) := by
  obtain ⟨ρ, hρ⟩ := N.rank
  obtain ⟨vs, hv⟩ := Pw.wk (gs := gs) (Wk.nil (gs := gs) (ws := ws) (s := s)) h
  obtain ⟨vs', c', h1, h2, h3⟩ := hv.simple hρ
  obtain ⟨o, ho, h4⟩ := h1.comp gs.length (by have := svNodup_le h2 (h1.lows N hs); omega)
  refine ⟨o, ho, h4.trans ?_⟩
  have e : ((0 : Int) + prg ws ps, -gw gs s - pws gs ws ps) = (prg ws ps, -pwt gs ws s ps) := by
    unfold pwt
    refine Prod.ext ?_ ?_
    · show (0 : Int) + _ = _
      omega
    · show -gw gs s - pws gs ws ps = -(gw gs s + pws gs ws ps)
      omega
  rw [← e]
  exact h3
theorem best_lt (N : NetOk gs ws) (hs : s < gs.length) {g : Nat} {c : Cst} (h : best gs ws s g = some c) : g < gs.length := by
  obtain ⟨ps, h1, _⟩ := best_way h
  exact h1.lt N hs
theorem best_nn {g : Nat} {c : Cst} (h : best gs ws s g = some c) : 0 ≤ c.1 := by
  obtain ⟨ps, _, e⟩ := best_way h
  rw [e]
  exact prg_nn ws ps
/-- no ring without registers -/
theorem ring_regs {ρ : Nat → Nat} (hρ : ∀ x ∈ ws, x.2.2 = [] → ρ x.1 < ρ x.2.1) : ∀ {ps : List Nat} {u g : Nat}, Pw ws u ps g → prg ws ps = 0 → ρ u + ps.length ≤ ρ g
  | [], u, g, h, _ => by
    have h : u = g := h
    rw [h]
    exact Nat.le_refl _
  | p :: ps, u, g, ⟨x, h1, h2, h3⟩, h0 => by
    rw [prg_cons h1] at h0
    have := prg_nn ws ps
    have hx0 : x.2.2 = [] := List.length_eq_zero_iff.mp (by omega)
    have h4 := ring_regs hρ h3 (by omega)
    have h5 := hρ x (List.mem_of_getElem? h1) hx0
    rw [h2] at h5
    rw [List.length_cons]
    omega
theorem rnds_s (N : NetOk gs ws) : ∀ k, rnds gs ws s k s = some (0, -gw gs s) := fun k => by
  obtain ⟨c, hc, hle⟩ : ∃ c, rnds gs ws s k s = some c ∧ leC c (0, -gw gs s) := (Wk.nil (gs := gs) (ws := ws) (s := s)).comp k (by simp)
  obtain ⟨vs, hv⟩ := Snd.rnds (gs := gs) (ws := ws) (s := s) k s c hc
  obtain ⟨ps, h1, h2⟩ := hv.pw
  obtain ⟨ρ, hρ⟩ := N.rank
  rw [hc]
  rw [leC_iff] at hle
  subst h2
  have h3 := prg_nn ws ps
  have h0 : prg ws ps = 0 := by
    rcases hle with h | h
    · have h : prg ws ps < 0 := h
      omega
    · exact h.1
  have h4 := ring_regs hρ h1 h0
  have h5 : ps = [] := List.length_eq_zero_iff.mp (by omega)
  subst h5
  unfold pwt
  rw [prg_nil, pws_nil, Int.add_zero]
end
/-! ### the last wires of the best ways -/
structure LaI (gs : List Gt) (ws : List Wr) (s : Nat) (D : Dst) (La : List (Option Nat)) : Prop where
  len : La.length = gs.length
  at_ : La.getD s none = none
  la : ∀ g c, g ≠ s → D g = some c → ∃ p x c', La.getD g none = some p ∧ ws[p]? = some x ∧ x.2.1 = g ∧ D x.1 = some c' ∧ leC (addC gs c' x) c
theorem getD_setL {l : List (Option Nat)} {e g : Nat} {v d : Option Nat} (h : e < l.length) : (l.set e v).getD g d = if g = e then v else l.getD g d := by
  rw [List.getD_eq_getElem?_getD, List.getElem?_set]
  by_cases he : e = g
  · subst he
    rw [if_pos rfl, if_pos rfl, if_pos h]
    rfl
  · rw [if_neg he, if_neg (fun z => he z.symm), List.getD_eq_getElem?_getD]
theorem LaI.ini (gs : List Gt) (ws : List Wr) (s : Nat) : LaI gs ws s (Lag.ini gs s) (List.replicate gs.length none) := by
  have nn : ∀ g, (List.replicate gs.length (none : Option Nat)).getD g none = none := fun g => by
    rw [List.getD_eq_getElem?_getD, List.getElem?_replicate]
    split <;> rfl
  refine ⟨List.length_replicate .., nn s, fun g c hg h => ?_⟩
  unfold Lag.ini at h
  rw [if_neg hg] at h
  cases h
/-- the fold's first j wires, one more -/
theorem fold_succ {gs : List Gt} {ws : List Wr} {D : Dst} {j : Nat} {x : Wr} (hx : ws[j]? = some x) : (ws.take (j + 1)).foldl (Lag.rel gs) D = Lag.rel gs ((ws.take j).foldl (Lag.rel gs) D) x := by
  rw [List.take_add_one, hx, List.foldl_append]
  rfl
theorem rel_bet {gs : List Gt} {D : Dst} {x : Wr} {c : Cst} (h : D x.1 = some c) (hb : ∀ o, D x.2.1 = some o → ltC (addC gs c x) o) : Lag.rel gs D x = setD D x.2.1 (addC gs c x) := by
  cases h2 : D x.2.1 with
  | none => exact rel_new h h2
  | some o => rw [rel_old h h2, if_pos (hb o h2)]
theorem LaI.set {gs : List Gt} {ws : List Wr} {s : Nat} {D : Dst} {La : List (Option Nat)} {x : Wr} {c : Cst} {p : Nat} (N : NetOk gs ws) (h : LaI gs ws s D La) (hp : ws[p]? = some x) (hc : D x.1 = some c) (hb : ∀ o, D x.2.1 = some o → ltC (addC gs c x) o) (hs : D s = some (0, -gw gs s)) (S : Snd gs ws s D) :
    LaI gs ws s (setD D x.2.1 (addC gs c x)) (La.set x.2.1 (some p)) := by
  have W := N.wok x (List.mem_of_getElem? hp)
  have hl : x.2.1 < La.length := by rw [h.len]; exact W.e
  obtain ⟨ρ, hρ⟩ := N.rank
  have hne : x.2.1 ≠ s := fun e => by
    have h1 := hb (0, -gw gs s) (by rw [e]; exact hs)
    obtain ⟨vs, hv⟩ := S _ _ hc
    obtain ⟨ps, h2, h3⟩ := hv.pw
    have h4 : Pw ws s (ps ++ [p]) x.2.1 := h2.snoc hp rfl
    rw [e] at h4
    have hn := prg_nn ws ps
    have hlt : prg ws (ps ++ [p]) = 0 := by
      rw [prg_snoc hp]
      unfold ltC addC at h1
      rw [h3] at h1
      have h1' : prg ws ps + ((x.2.2.length : Nat) : Int) < 0 ∨ (prg ws ps + ((x.2.2.length : Nat) : Int) = 0 ∧ _) := h1
      rcases h1' with h1' | h1'
      · omega
      · exact h1'.1
    have h5 := ring_regs hρ h4 hlt
    rw [List.length_append, List.length_singleton] at h5
    omega
  refine ⟨by rw [List.length_set]; exact h.len, ?_, fun g c2 hg h2 => ?_⟩
  · rw [getD_setL hl, if_neg fun e => hne e.symm]
    exact h.at_
  have nx : x.1 ≠ x.2.1 := fun e => by
    have h1 := hb c (by rw [← e]; exact hc)
    rcases h1 with h1 | h1
    · have h1 : c.1 + ((x.2.2.length : Nat) : Int) < c.1 := h1
      omega
    · have h1 : c.1 + ((x.2.2.length : Nat) : Int) = c.1 := h1.1
      have hx0 : x.2.2 = [] := List.length_eq_zero_iff.mp (by omega)
      have := hρ x (List.mem_of_getElem? hp) hx0
      rw [e] at this
      omega
  rw [getD_setL hl]
  unfold setD at h2
  by_cases e : g = x.2.1
  · rw [if_pos e] at h2
    cases h2
    refine ⟨p, x, c, by rw [if_pos e], hp, e.symm, ?_, leC.refl _⟩
    unfold setD
    rw [if_neg nx]
    exact hc
  · rw [if_neg e] at h2
    obtain ⟨p', x', c', k1, k2, k3, k4, k5⟩ := h.la g c2 hg h2
    unfold setD
    by_cases e2 : x'.1 = x.2.1
    · refine ⟨p', x', addC gs c x, by rw [if_neg e]; exact k1, k2, k3, by rw [if_pos e2], ?_⟩
      rw [e2] at k4
      exact ((hb c' k4).le.add x').trans k5
    · exact ⟨p', x', c', by rw [if_neg e]; exact k1, k2, k3, by rw [if_neg e2]; exact k4, k5⟩
theorem LaI.eq {gs : List Gt} {ws : List Wr} {s : Nat} {D : Dst} {La : List (Option Nat)} (h : LaI gs ws s D La) (F : Fix gs ws D) {g : Nat} {c : Cst} (hg : g ≠ s) (hc : D g = some c) :
    ∃ p x c', La.getD g none = some p ∧ ws[p]? = some x ∧ x.2.1 = g ∧ D x.1 = some c' ∧ addC gs c' x = c := by
  obtain ⟨p, x, c', k1, k2, k3, k4, k5⟩ := h.la g c hg hc
  refine ⟨p, x, c', k1, k2, k3, k4, leC.anti k5 fun hl => F x (List.mem_of_getElem? k2) ⟨c', k4, fun o ho => ?_⟩⟩
  rw [k3, hc] at ho
  cases ho
  exact hl
/-- the way back by the last wires -/
inductive Bk (ws : List Wr) (La : List (Option Nat)) : Nat → List Nat → Nat → Prop
  | nil {g : Nat} : La.getD g none = none → Bk ws La g [] g
  | cons {g p s : Nat} {x : Wr} {ps : List Nat} : La.getD g none = some p → ws[p]? = some x → x.2.1 = g → Bk ws La x.1 ps s → Bk ws La g (p :: ps) s
theorem Bk.pw {ws : List Wr} {La : List (Option Nat)} {g s : Nat} {ps : List Nat} (h : Bk ws La g ps s) : Pw ws s ps.reverse g := by
  induction h with
  | nil _ => exact rfl
  | @cons g p s x ps h1 h2 h3 _ ih =>
    rw [List.reverse_cons, ← h3]
    exact ih.snoc h2 rfl
/-- a lexicographic measure of a gate -/
def lt2 (a b : Nat × Nat) : Prop := a.1 < b.1 ∨ (a.1 = b.1 ∧ a.2 < b.2)
theorem LaI.back {gs : List Gt} {ws : List Wr} {s : Nat} {D : Dst} {La : List (Option Nat)} (N : NetOk gs ws) (h : LaI gs ws s D La) (F : Fix gs ws D) (hs : D s = some (0, -gw gs s)) (hsl : s < gs.length) (hn : ∀ g c, D g = some c → 0 ≤ c.1) (hlt : ∀ g c, D g = some c → g < gs.length)
    {ρ : Nat → Nat} (hρ : ∀ x ∈ ws, x.2.2 = [] → ρ x.1 < ρ x.2.1) : ∀ (m r g : Nat) (c : Cst), D g = some c → c.1.toNat = m → ρ g = r →
    ∃ (ps vs : List Nat), Bk ws La g ps s ∧ vs.length = ps.length + 1 ∧ vs.Nodup ∧ (∀ v ∈ vs, ∃ c', D v = some c' ∧ (c'.1 < c.1 ∨ (c'.1 = c.1 ∧ ρ v ≤ r))) ∧ c = (prg ws ps.reverse, -pwt gs ws s ps.reverse) := by
  intro m
  induction m using Nat.strongRecOn with
  | ind m ihm =>
    intro r
    induction r using Nat.strongRecOn with
    | ind r ihr =>
      intro g c hc hm hr
      by_cases hg : g = s
      · subst hg
        rw [hs] at hc
        cases hc
        refine ⟨[], [g], .nil h.at_, rfl, by simp, fun v hv => ?_, ?_⟩
        · rw [List.mem_singleton.mp hv]
          exact ⟨_, hs, .inr ⟨rfl, by omega⟩⟩
        · show _ = (prg ws [], -pwt gs ws g [])
          unfold pwt
          rw [prg_nil, pws_nil, Int.add_zero]
      · obtain ⟨p, x, c', k1, k2, k3, k4, k5⟩ := h.eq F hg hc
        have n0 := hn _ _ k4
        have e1 : c'.1 + ((x.2.2.length : Nat) : Int) = c.1 := by rw [← k5]; rfl
        have step : ∃ (ps vs : List Nat), Bk ws La x.1 ps s ∧ vs.length = ps.length + 1 ∧ vs.Nodup ∧ (∀ v ∈ vs, ∃ c2, D v = some c2 ∧ (c2.1 < c'.1 ∨ (c2.1 = c'.1 ∧ ρ v ≤ ρ x.1))) ∧ c' = (prg ws ps.reverse, -pwt gs ws s ps.reverse) := by
          by_cases h0 : x.2.2 = []
          · have hlr := hρ x (List.mem_of_getElem? k2) h0
            rw [h0] at e1
            have e2 : c'.1 = c.1 := by
              have : ((([] : List Int).length : Nat) : Int) = 0 := rfl
              omega
            exact ihr (ρ x.1) (by rw [← hr, ← k3]; exact hlr) x.1 c' k4 (by rw [e2]; exact hm) rfl
          · have hp : 0 < x.2.2.length := List.length_pos_iff.mpr h0
            exact ihm c'.1.toNat (by omega) (ρ x.1) x.1 c' k4 rfl rfl
        obtain ⟨ps, vs, b1, b2, b3, b4, b5⟩ := step
        have le : ∀ v ∈ vs, ∃ c2, D v = some c2 ∧ (c2.1 < c.1 ∨ (c2.1 = c.1 ∧ ρ v < ρ g)) := fun v hv => by
          obtain ⟨c2, h1, h2⟩ := b4 v hv
          refine ⟨c2, h1, ?_⟩
          by_cases h0 : x.2.2 = []
          · have hlr := hρ x (List.mem_of_getElem? k2) h0
            rw [k3] at hlr
            have : ((x.2.2.length : Nat) : Int) = 0 := by rw [h0]; rfl
            omega
          · have hp : 0 < x.2.2.length := List.length_pos_iff.mpr h0
            omega
        refine ⟨p :: ps, g :: vs, .cons k1 k2 k3 b1, by rw [List.length_cons, List.length_cons, b2], List.nodup_cons.mpr ⟨fun hm => ?_, b3⟩, fun v hv => ?_, ?_⟩
        · obtain ⟨c2, h1, h2⟩ := le g hm
          rw [hc] at h1
          cases h1
          omega
        · rcases List.mem_cons.mp hv with e | hv
          · rw [e]
            exact ⟨c, hc, .inr ⟨rfl, by omega⟩⟩
          · obtain ⟨c2, h1, h2⟩ := le v hv
            refine ⟨c2, h1, ?_⟩
            omega
        · rw [List.reverse_cons, ← k5, b5]
          unfold addC pwt
          rw [prg_snoc k2, pws_snoc k2]
          refine Prod.ext rfl ?_
          show -(gw gs s + pws gs ws ps.reverse) - gw gs x.2.1 = -(gw gs s + (pws gs ws ps.reverse + gw gs x.2.1))
          omega
/-- what best_from tells as last wires -/
def LaOk (gs : List Gt) (ws : List Wr) (s : Nat) (La : List (Option Nat)) : Prop := La.length = gs.length ∧ ∀ g c, best gs ws s g = some c → ∃ ps, Bk ws La g ps s ∧ c = (prg ws ps.reverse, -pwt gs ws s ps.reverse) ∧ ps.length < gs.length
theorem LaI.ok {gs : List Gt} {ws : List Wr} {s k : Nat} {La : List (Option Nat)} (N : NetOk gs ws) (hs : s < gs.length) (hk : k ≤ gs.length) (F : Fix gs ws (rnds gs ws s k)) (h : LaI gs ws s (rnds gs ws s k) La) : LaOk gs ws s La ∧ rnds gs ws s k = best gs ws s := by
  have e : best gs ws s = rnds gs ws s k := by
    unfold best
    obtain ⟨j, hj⟩ : ∃ j, gs.length = k + j := ⟨gs.length - k, by omega⟩
    rw [hj]
    exact rnds_stay F j
  rw [← e] at F h ⊢
  refine ⟨⟨h.len, fun g c hc => ?_⟩, rfl⟩
  obtain ⟨ρ, hρ⟩ := N.rank
  obtain ⟨ps, vs, h1, h2, h3, h4, h5⟩ := h.back N F (by unfold best; exact rnds_s N _) hs (fun g c h => best_nn h) (fun g c h => best_lt N hs h) hρ _ _ g c hc rfl rfl
  refine ⟨ps, h1, h5, ?_⟩
  have := svNodup_le h3 fun v hv => by
    obtain ⟨c2, h6, _⟩ := h4 v hv
    exact best_lt N hs h6
  omega
end Lag

set_option maxRecDepth 100000
set_option maxHeartbeats 8000000
namespace Lag
open PySem PySem.Spec PyProof.Rows L2
/-! ### bounds, and numbers that keep to them: the mathematics -/
abbrev Bnd := Nat × Nat × Int
def bAt (bs : List Bnd) (j : Nat) : Bnd := bs.getD j (0, 0, 0)
theorem bAt_get {bs : List Bnd} {j : Nat} {b : Bnd} (h : bs[j]? = some b) : bAt bs j = b := by
  unfold bAt
  rw [List.getD_eq_getElem?_getD, h]
  rfl
/-- a row of bounds that follows what O tells of each place -/
def PtO (bs : List Bnd) (O : Nat → Option Nat) : Nat → List Nat → Nat → Prop
  | s, [], e => s = e
  | s, j :: r, e => O s = some j ∧ ∃ b, bs[j]? = some b ∧ b.1 = s ∧ PtO bs O b.2.1 r e
/-- a row of bounds -/
def PtB (bs : List Bnd) : Nat → List Nat → Nat → Prop
  | s, [], e => s = e
  | s, j :: r, e => ∃ b, bs[j]? = some b ∧ b.1 = s ∧ PtB bs b.2.1 r e
def rsum (bs : List Bnd) (js : List Nat) : Int := (js.map fun j => (bAt bs j).2.2).sum
theorem rsum_cons {bs : List Bnd} {j : Nat} {b : Bnd} (h : bs[j]? = some b) (r : List Nat) : rsum bs (j :: r) = b.2.2 + rsum bs r := by
  unfold rsum
  rw [List.map_cons, List.sum_cons, bAt_get h]
theorem rsum_app (bs : List Bnd) (a b : List Nat) : rsum bs (a ++ b) = rsum bs a + rsum bs b := by
  unfold rsum
  rw [List.map_append, List.sum_append]
theorem PtO.ptB {bs : List Bnd} {O : Nat → Option Nat} : ∀ {js : List Nat} {s e : Nat}, PtO bs O s js e → PtB bs s js e
  | [], _, _, h => h
  | j :: r, s, e, ⟨_, b, h1, h2, h3⟩ => ⟨b, h1, h2, PtO.ptB h3⟩
theorem PtO.app {bs : List Bnd} {O : Nat → Option Nat} : ∀ {a : List Nat} {s m e : Nat} {b : List Nat}, PtO bs O s a m → PtO bs O m b e → PtO bs O s (a ++ b) e
  | [], _, _, _, _, h, h' => by
    have h : _ = _ := h
    rw [h]
    exact h'
  | j :: a, s, m, e, b, ⟨h0, x, h1, h2, h3⟩, h' => ⟨h0, x, h1, h2, PtO.app h3 h'⟩
theorem PtO.split {bs : List Bnd} {O : Nat → Option Nat} : ∀ {a : List Nat} {s e : Nat} {b : List Nat}, PtO bs O s (a ++ b) e → ∃ m, PtO bs O s a m ∧ PtO bs O m b e
  | [], s, e, b, h => ⟨s, rfl, h⟩
  | j :: a, s, e, b, ⟨h0, x, h1, h2, h3⟩ => by
    obtain ⟨m, h4, h5⟩ := PtO.split h3
    exact ⟨m, ⟨h0, x, h1, h2, h4⟩, h5⟩
theorem PtO.snoc {bs : List Bnd} {O : Nat → Option Nat} {s e j : Nat} {a : List Nat} {b : Bnd} (h : PtO bs O s a e) (h0 : O e = some j) (hb : bs[j]? = some b) (hs : b.1 = e) : PtO bs O s (a ++ [j]) b.2.1 :=
  PtO.app h ⟨h0, b, hb, hs, rfl⟩
theorem PtB.app {bs : List Bnd} : ∀ {a : List Nat} {s m e : Nat} {b : List Nat}, PtB bs s a m → PtB bs m b e → PtB bs s (a ++ b) e
  | [], _, _, _, _, h, h' => by
    have h : _ = _ := h
    rw [h]
    exact h'
  | j :: a, s, m, e, b, ⟨x, h1, h2, h3⟩, h' => ⟨x, h1, h2, PtB.app h3 h'⟩
def updO (O : Nat → Option Nat) (s j : Nat) : Nat → Option Nat := fun v => if v = s then some j else O v
/-- the first time that the new bound is gone along -/
theorem PtO.old {bs : List Bnd} {O : Nat → Option Nat} {s j : Nat} {b : Bnd} (hb : bs[j]? = some b) : ∀ {js : List Nat} {u v : Nat}, PtO bs (updO O s j) u js v →
    PtO bs O u js v ∨ ∃ a c, js = a ++ j :: c ∧ PtO bs O u a s ∧ PtO bs (updO O s j) u a s ∧ PtO bs (updO O s j) b.2.1 c v
  | [], u, v, h => .inl h
  | i :: r, u, v, ⟨h0, x, h1, h2, h3⟩ => by
    by_cases hu : u = s
    · have h0' : i = j := by
        unfold updO at h0
        rw [if_pos hu] at h0
        exact (Option.some.inj h0).symm
      subst h0'
      rw [hb] at h1
      cases h1
      exact .inr ⟨[], r, rfl, hu, hu, h3⟩
    · have h0' : O u = some i := by
        unfold updO at h0
        rw [if_neg hu] at h0
        exact h0
      rcases PtO.old hb h3 with h4 | ⟨a, c, e, h4, h5, h6⟩
      · exact .inl ⟨h0', x, h1, h2, h4⟩
      · exact .inr ⟨i :: a, c, by rw [e]; rfl, ⟨h0', x, h1, h2, h4⟩, ⟨h0, x, h1, h2, h5⟩, h6⟩
/-- what holds in round t, behind the first j bounds: F the numbers, O the bound of the last change, T its round -/
structure SI (bs : List Bnd) (n : Nat) (F : Nat → Int) (O : Nat → Option Nat) (T : Nat → Nat) (t j : Nat) : Prop where
  non : ∀ v, O v = none → T v = 0 ∧ F v = 0
  on : ∀ v i, O v = some i → v < n ∧ ∃ b, bs[i]? = some b ∧ b.1 = v ∧ F b.2.1 + b.2.2 ≤ F v ∧ T v ≤ T b.2.1 + 1
  ok : ∀ i b, bs[i]? = some b → F b.1 ≤ F b.2.1 + b.2.2 ∨ (if i < j then t else t - 1) ≤ T b.2.1
  cyc : ∀ v js, js ≠ [] → PtO bs O v js v → rsum bs js < 0
  le0 : ∀ v, F v ≤ 0
  tle : ∀ v, T v ≤ t
theorem SI.low {bs : List Bnd} {n : Nat} {F : Nat → Int} {O : Nat → Option Nat} {T : Nat → Nat} {t j : Nat} (h : SI bs n F O T t j) : ∀ {js : List Nat} {u v : Nat}, PtO bs O u js v → F v + rsum bs js ≤ F u
  | [], u, v, e => by
    have e : u = v := e
    rw [e]
    show F v + 0 ≤ F v
    omega
  | i :: r, u, v, ⟨h0, x, h1, h2, h3⟩ => by
    have h4 := SI.low h h3
    obtain ⟨_, b, h5, h6, h7, _⟩ := h.on u i h0
    rw [h1] at h5
    cases h5
    rw [rsum_cons h1]
    omega
theorem SI.start (bs : List Bnd) (n : Nat) : SI bs n (fun _ => 0) (fun _ => none) (fun _ => 0) 1 0 :=
  ⟨fun v _ => ⟨rfl, rfl⟩, fun v i h => (nomatch h), fun i b _ => .inr (by
    rw [if_neg (by omega)]
    exact Nat.le_refl 0), fun v js hn h => (match js, hn, h with
      | [], hn, _ => absurd rfl hn
      | i :: r, _, h => (nomatch h.1)), fun v => Int.le_refl 0, fun v => Nat.zero_le _⟩
theorem SI.next {bs : List Bnd} {n : Nat} {F : Nat → Int} {O : Nat → Option Nat} {T : Nat → Nat} {t : Nat} (h : SI bs n F O T t bs.length) : SI bs n F O T (t + 1) 0 :=
  ⟨h.non, h.on, fun i b hb => by
    rcases h.ok i b hb with h1 | h1
    · exact .inl h1
    · refine .inr ?_
      rw [if_pos (List.getElem?_eq_some_iff.mp hb).1] at h1
      rw [if_neg (by omega)]
      omega, h.cyc, h.le0, fun v => Nat.le_succ_of_le (h.tle v)⟩
theorem SI.skip {bs : List Bnd} {n : Nat} {F : Nat → Int} {O : Nat → Option Nat} {T : Nat → Nat} {t j : Nat} {b : Bnd} (h : SI bs n F O T t j) (hb : bs[j]? = some b) (hk : F b.1 ≤ F b.2.1 + b.2.2) : SI bs n F O T t (j + 1) :=
  ⟨h.non, h.on, fun i b' hb' => by
    by_cases e : i = j
    · subst e
      rw [hb] at hb'
      cases hb'
      exact .inl hk
    · rcases h.ok i b' hb' with h1 | h1
      · exact .inl h1
      · refine .inr ?_
        by_cases hi : i < j
        · rw [if_pos hi] at h1
          rw [if_pos (by omega)]
          exact h1
        · rw [if_neg hi] at h1
          rw [if_neg (by omega)]
          exact h1, h.cyc, h.le0, h.tle⟩
theorem SI.set {bs : List Bnd} {n : Nat} {F : Nat → Int} {O : Nat → Option Nat} {T : Nat → Nat} {t j : Nat} {b : Bnd} (h : SI bs n F O T t j) (ht : 1 ≤ t) (hb : bs[j]? = some b) (hs : b.1 < n) (hk : F b.2.1 + b.2.2 < F b.1) :
    SI bs n (fun v => if v = b.1 then F b.2.1 + b.2.2 else F v) (updO O b.1 j) (fun v => if v = b.1 then t else T v) t (j + 1) := by
  have hTe : t - 1 ≤ T b.2.1 := by
    rcases h.ok j b hb with h1 | h1
    · omega
    · rw [if_neg (by omega)] at h1
      exact h1
  have hFle : ∀ v, (if v = b.1 then F b.2.1 + b.2.2 else F v) ≤ F v := fun v => by
    by_cases e : v = b.1
    · rw [if_pos e, e]
      omega
    · rw [if_neg e]
      exact Int.le_refl _
  have hTle : ∀ v, t - 1 ≤ T v → t - 1 ≤ (if v = b.1 then t else T v) := fun v hv => by
    split
    · omega
    · exact hv
  refine ⟨fun v hv => ?_, fun v i hv => ?_, fun i b' hb' => ?_, fun v js hn hp => ?_, fun v => Int.le_trans (hFle v) (h.le0 v), fun v => ?_⟩
  · unfold updO at hv
    by_cases e : v = b.1
    · rw [if_pos e] at hv
      cases hv
    · rw [if_neg e] at hv
      rw [if_neg e, if_neg e]
      exact h.non v hv
  · unfold updO at hv
    by_cases e : v = b.1
    · rw [if_pos e] at hv
      cases hv
      refine ⟨by rw [e]; exact hs, b, hb, e.symm, ?_, ?_⟩
      · rw [if_pos e]
        have := hFle b.2.1
        omega
      · rw [if_pos e]
        have := hTle b.2.1 hTe
        omega
    · rw [if_neg e] at hv
      obtain ⟨h1, b2, h2, h3, h4, h5⟩ := h.on v i hv
      refine ⟨h1, b2, h2, h3, ?_, ?_⟩
      · rw [if_neg e]
        have := hFle b2.2.1
        omega
      · rw [if_neg e]
        by_cases e2 : b2.2.1 = b.1
        · rw [if_pos e2]
          have := h.tle b2.2.1
          omega
        · rw [if_neg e2]
          exact h5
  · by_cases e : b'.2.1 = b.1
    · refine .inr ?_
      rw [if_pos e]
      split <;> omega
    · rw [if_neg e, if_neg e]
      by_cases hij : i = j
      · subst hij
        rw [hb] at hb'
        cases hb'
        refine .inl ?_
        rw [if_pos rfl]
        exact Int.le_refl _
      · have cond : (if i < j + 1 then t else t - 1) = (if i < j then t else t - 1) := by
          by_cases hi : i < j
          · rw [if_pos hi, if_pos (by omega)]
          · rw [if_neg hi, if_neg (by omega)]
        rw [cond]
        rcases h.ok i b' hb' with h1 | h1
        · refine .inl ?_
          have := hFle b'.1
          omega
        · exact .inr h1
  · -- rings
    have neg : ∀ (m : Nat) (c : List Nat), c.length = m → PtO bs (updO O b.1 j) b.2.1 c b.1 → b.2.2 + rsum bs c < 0 := by
      intro m
      induction m using Nat.strongRecOn with
      | ind m ih =>
        intro c hm hc
        rcases PtO.old hb hc with h1 | ⟨a, d, e, h1, _, h3⟩
        · have := h.low h1
          omega
        · have h4 := h.low h1
          have h5 := ih d.length (by rw [← hm, e, List.length_append, List.length_cons]; omega) d rfl h3
          rw [e, rsum_app, rsum_cons hb]
          omega
    rcases PtO.old hb hp with h1 | ⟨a, c, e, h1, h2, h3⟩
    · exact h.cyc v js hn h1
    · have h4 := neg _ (c ++ a) rfl (PtO.app h3 h2)
      rw [e, rsum_app, rsum_cons hb]
      rw [rsum_app] at h4
      omega
  · by_cases e : v = b.1
    · rw [if_pos e]
      exact Nat.le_refl _
    · rw [if_neg e]
      exact h.tle v
theorem SI.congr {bs : List Bnd} {n : Nat} {F F' : Nat → Int} {O : Nat → Option Nat} {T : Nat → Nat} {t j : Nat} (h : SI bs n F O T t j) (e : ∀ v, F' v = F v) : SI bs n F' O T t j := by
  have e : F' = F := funext e
  rw [e]
  exact h
theorem SI.more {bs : List Bnd} {n : Nat} {F : Nat → Int} {O : Nat → Option Nat} {T : Nat → Nat} {t j : Nat} (h : SI bs n F O T t j) : ∀ {js : List Nat} {u v : Nat}, PtO bs O u js v → T u ≤ T v + js.length
  | [], u, v, e => by
    have e : u = v := e
    rw [e]
    exact Nat.le_refl _
  | i :: r, u, v, ⟨h0, x, h1, h2, h3⟩ => by
    have h4 := SI.more h h3
    obtain ⟨_, b, h5, h6, _, h7⟩ := h.on u i h0
    rw [h1] at h5
    cases h5
    rw [List.length_cons]
    omega
def Sat (bs : List Bnd) (F : Nat → Int) : Prop := ∀ b ∈ bs, F b.1 ≤ F b.2.1 + b.2.2
theorem Sat.along {bs : List Bnd} {F : Nat → Int} (h : Sat bs F) : ∀ {js : List Nat} {u v : Nat}, PtB bs u js v → F u ≤ F v + rsum bs js
  | [], u, v, e => by
    have e : u = v := e
    rw [e]
    show F v ≤ F v + 0
    omega
  | i :: r, u, v, ⟨x, h1, h2, h3⟩ => by
    have h4 := Sat.along h h3
    have := h x (List.mem_of_getElem? h1)
    rw [rsum_cons h1]
    rw [h2] at this
    omega
/-- the places come by -/
def vts (bs : List Bnd) (s : Nat) (js : List Nat) : List Nat := s :: js.map fun j => (bAt bs j).2.1
theorem vts_get {bs : List Bnd} {O : Nat → Option Nat} {s e : Nat} {js : List Nat} (h : PtO bs O s js e) {i : Nat} (hi : i ≤ js.length) : ∃ v, (vts bs s js)[i]? = some v ∧ PtO bs O s (js.take i) v ∧ PtO bs O v (js.drop i) e := by
  induction js generalizing s i with
  | nil =>
    have hi : i = 0 := by simpa using hi
    subst hi
    exact ⟨s, rfl, rfl, h⟩
  | cons j r ih =>
    obtain ⟨h0, b, h1, h2, h3⟩ := h
    cases i with
    | zero => exact ⟨s, rfl, rfl, h0, b, h1, h2, h3⟩
    | succ i =>
      obtain ⟨v, h4, h5, h6⟩ := ih h3 (by simpa using hi)
      refine ⟨v, ?_, ⟨h0, b, h1, h2, h5⟩, h6⟩
      unfold vts at *
      rw [List.getElem?_cons_succ, List.map_cons, bAt_get h1]
      exact h4
/-- a row that comes by no place twice is short -/
theorem SI.short {bs : List Bnd} {n : Nat} {F : Nat → Int} {O : Nat → Option Nat} {T : Nat → Nat} {t j : Nat} (h : SI bs n F O T t j) (S : Sat bs F) (hb : ∀ b ∈ bs, b.1 < n ∧ b.2.1 < n) {js : List Nat} {u v : Nat} (hu : u < n) (hp : PtO bs O u js v) : js.length < n := by
  have nd : (vts bs u js).Nodup := by
    unfold List.Nodup
    rw [List.pairwise_iff_getElem]
    intro a c ha hc hac e
    have hl : (vts bs u js).length = js.length + 1 := by unfold vts; rw [List.length_cons, List.length_map]
    obtain ⟨x, h1, h2, h3⟩ := vts_get hp (i := a) (by omega)
    obtain ⟨y, k1, k2, k3⟩ := vts_get hp (i := c) (by omega)
    rw [List.getElem?_eq_getElem ha] at h1
    rw [List.getElem?_eq_getElem hc] at k1
    have exy : x = y := by
      have := Option.some.inj h1
      have := Option.some.inj k1
      omega
    subst exy
    have e2 : js.take c = js.take a ++ (js.take c).drop a := by
      have e3 : (js.take c).take a = js.take a := by rw [List.take_take, Nat.min_eq_left (by omega)]
      rw [← e3, List.take_append_drop]
    rw [e2] at k2
    obtain ⟨m, p1, p2⟩ := PtO.split k2
    have em : m = x := by
      have fn : ∀ {js : List Nat} {s e e' : Nat}, PtO bs O s js e → PtO bs O s js e' → e = e' := by
        intro js
        induction js with
        | nil =>
          intro s e e' q q'
          have q : s = e := q
          have q' : s = e' := q'
          omega
        | cons i r ih =>
          intro s e e' ⟨_, b1, q1, _, q2⟩ ⟨_, b2, q3, _, q4⟩
          rw [q1] at q3
          cases q3
          exact ih q2 q4
      exact fn p1 h2
    subst em
    have hne : (js.take c).drop a ≠ [] := fun z => by
      have := congrArg List.length z
      rw [List.length_drop, List.length_take] at this
      simp at this
      omega
    have c1 := h.cyc _ _ hne p2
    have c2 := S.along p2.ptB
    omega
  have lt : ∀ w ∈ vts bs u js, w < n := fun w hw => by
    rcases List.mem_cons.mp hw with e | hw
    · rw [e]
      exact hu
    · obtain ⟨i, hi, rfl⟩ := List.mem_map.mp hw
      have hin : ∀ {js : List Nat} {s e : Nat}, PtO bs O s js e → ∀ i ∈ js, ∃ b, bs[i]? = some b := by
        intro js
        induction js with
        | nil => intro s e _ i h; cases h
        | cons k r ih =>
          intro s e ⟨_, b, q1, _, q2⟩ i h
          rcases List.mem_cons.mp h with h | h
          · rw [h]
            exact ⟨b, q1⟩
          · exact ih q2 i h
      obtain ⟨b, hb'⟩ := hin hp i hi
      rw [bAt_get hb']
      exact (hb b (List.mem_of_getElem? hb')).2
  have := svNodup_le nd lt
  unfold vts at this
  rw [List.length_cons, List.length_map] at this
  omega
theorem SI.lowR {bs : List Bnd} {n : Nat} {F : Nat → Int} {O : Nat → Option Nat} {T : Nat → Nat} {t j : Nat} (h : SI bs n F O T t j) (S : Sat bs F) (hb : ∀ b ∈ bs, b.1 < n ∧ b.2.1 < n) {R : Int} (hR : 0 ≤ R) (hr : ∀ b ∈ bs, -R ≤ b.2.2) {v : Nat} (hv : v < n) : -((n : Int) * R) ≤ F v := by
  have rs : ∀ {js : List Nat} {u e : Nat}, PtO bs O u js e → -((js.length : Int) * R) ≤ rsum bs js := by
    intro js
    induction js with
    | nil =>
      intro u e _
      show -((0 : Int) * R) ≤ 0
      rw [Int.zero_mul]
      decide
    | cons i r ih =>
      intro u e ⟨_, b, h1, _, h3⟩
      have := ih h3
      have := hr b (List.mem_of_getElem? h1)
      rw [rsum_cons h1, List.length_cons, Int.natCast_add, Int.add_mul]
      show -((r.length : Int) * R + 1 * R) ≤ _
      rw [Int.one_mul]
      omega
  have go : ∀ k, (∃ js e, js.length = k ∧ PtO bs O v js e) ∨ ∃ js e, PtO bs O v js e ∧ O e = none := by
    intro k
    induction k with
    | zero => exact .inl ⟨[], v, rfl, rfl⟩
    | succ k ih =>
      rcases ih with ⟨js, e, hl, hp⟩ | h2
      · cases ho : O e with
        | none => exact .inr ⟨js, e, hp, ho⟩
        | some i =>
          obtain ⟨_, b, h1, h2, _⟩ := h.on e i ho
          exact .inl ⟨js ++ [i], b.2.1, by rw [List.length_append, hl]; rfl, hp.snoc ho h1 h2⟩
      · exact .inr h2
  rcases go n with ⟨js, e, hl, hp⟩ | ⟨js, e, hp, ho⟩
  · have := h.short S hb hv hp
    omega
  · have h1 := h.short S hb hv hp
    have h2 := rs hp
    have h3 := h.low hp
    have h4 := (h.non e ho).2
    have h5 : (js.length : Int) * R ≤ (n : Int) * R := Int.mul_le_mul_of_nonneg_right (by omega) hR
    omega
theorem SI.lowB {bs : List Bnd} {n : Nat} {F : Nat → Int} {O : Nat → Option Nat} {T : Nat → Nat} {t j : Nat} (h : SI bs n F O T t j) (S : Sat bs F) (hb : ∀ b ∈ bs, b.1 < n ∧ b.2.1 < n) (hr : ∀ b ∈ bs, -1 ≤ b.2.2) {v : Nat} (hv : v < n) : -(n : Int) ≤ F v := by
  have := h.lowR S hb (R := 1) (by decide) hr hv
  rw [Int.mul_one] at this
  exact this
/-- a ring of bounds with too little room -/
def RingB (bs : List Bnd) (js : List Nat) : Prop := js ≠ [] ∧ ∃ v, PtB bs v js v ∧ rsum bs js < 0
end Lag

set_option maxRecDepth 100000
set_option maxHeartbeats 8000000
namespace Lag
open PySem PySem.Spec PyProof.Rows L2
/-! ### lags for a beat, bars: the mathematics -/
instance (k : Str) : Decidable (portK k) := by unfold portK; exact inferInstance
def spotF (gs : List Gt) (g : Nat) : Nat := if portK (kindAt gs g) then gs.length else g
abbrev Pce := Nat × List Nat
def roomF (gs : List Gt) (ws : List Wr) (b : Int) (pc : Pce) : Int := if b < pwt gs ws pc.1 pc.2 then prg ws pc.2 - 1 else prg ws pc.2
def cntF (ws : List Wr) (L : Nat → Int) (p : Nat) : Int := (((svW ws p).2.2.length : Nat) : Int) + L (svW ws p).2.1 - L (svW ws p).1
structure Feas (gs : List Gt) (ws : List Wr) (b : Int) (L : Nat → Int) : Prop where
  out : ∀ g, g < gs.length → portK (kindAt gs g) → L g = 0
  lt : ∀ x ∈ ws, 0 ≤ ((x.2.2.length : Nat) : Int) + L x.2.1 - L x.1
  wt : ∀ s ps e, s < gs.length → Pw ws s ps e → (∀ p ∈ ps, cntF ws L p = 0) → pwt gs ws s ps ≤ b
section
variable {gs : List Gt} {ws : List Wr}
theorem Feas.mono {b b' : Int} {L : Nat → Int} (h : Feas gs ws b L) (hb : b ≤ b') : Feas gs ws b' L :=
  ⟨h.out, h.lt, fun s ps e hs hp hz => Int.le_trans (h.wt s ps e hs hp hz) hb⟩
theorem cntF_get {L : Nat → Int} {p : Nat} {x : Wr} (h : ws[p]? = some x) : cntF ws L p = ((x.2.2.length : Nat) : Int) + L x.2.1 - L x.1 := by
  unfold cntF
  rw [svW_get h]
theorem Pw.cnts {L : Nat → Int} : ∀ {ps : List Nat} {s e : Nat}, Pw ws s ps e → (ps.map (cntF ws L)).sum = prg ws ps + L e - L s
  | [], s, e, h => by
    have h : s = e := h
    rw [h]
    show (0 : Int) = 0 + _ - _
    omega
  | p :: r, s, e, ⟨x, h1, h2, h3⟩ => by
    rw [List.map_cons, List.sum_cons, Pw.cnts h3, cntF_get h1, prg_cons h1, h2]
    omega
theorem sum_nn : ∀ {l : List Int}, (∀ y ∈ l, 0 ≤ y) → 0 ≤ l.sum ∧ (l.sum = 0 → ∀ y ∈ l, y = 0)
  | [], _ => ⟨Int.le_refl 0, fun _ y h => by cases h⟩
  | a :: l, h => by
    obtain ⟨h1, h2⟩ := sum_nn (l := l) fun y hy => h y (List.mem_cons_of_mem _ hy)
    have h3 := h a (List.mem_cons_self ..)
    rw [List.sum_cons]
    refine ⟨by omega, fun e y hy => ?_⟩
    rcases List.mem_cons.mp hy with hy | hy
    · rw [hy]
      omega
    · exact h2 (by omega) y hy
theorem Feas.nn {b : Int} {L : Nat → Int} (h : Feas gs ws b L) {ps : List Nat} {s e : Nat} (hp : Pw ws s ps e) : ∀ y ∈ ps.map (cntF ws L), 0 ≤ y := fun y hy => by
  obtain ⟨p, hp', rfl⟩ := List.mem_map.mp hy
  have hx := List.getElem?_eq_getElem (hp.places p hp')
  rw [cntF_get hx]
  exact h.lt _ (List.getElem_mem _)
theorem sum_zero : ∀ {l : List Int}, (∀ y ∈ l, y = 0) → l.sum = 0
  | [], _ => rfl
  | a :: l, h => by
    rw [List.sum_cons, sum_zero fun y hy => h y (List.mem_cons_of_mem _ hy), h a (List.mem_cons_self ..)]
    rfl
theorem zero_sum {L : Nat → Int} {ps : List Nat} {s e : Nat} (hp : Pw ws s ps e) (hz : ∀ p ∈ ps, cntF ws L p = 0) : prg ws ps = L s - L e := by
  have h1 := hp.cnts (L := L)
  have h2 : (ps.map (cntF ws L)).sum = 0 := sum_zero fun y hy => by
    obtain ⟨p, hp', rfl⟩ := List.mem_map.mp hy
    exact hz p hp'
  omega
/-- with lags for the beat the start's lag is at most the end's and the piece's room -/
theorem Feas.room {b : Int} {L : Nat → Int} (h : Feas gs ws b L) {ps : List Nat} {s e : Nat} (hs : s < gs.length) (hp : Pw ws s ps e) : L s ≤ L e + roomF gs ws b (s, ps) := by
  obtain ⟨h1, h2⟩ := sum_nn (h.nn hp)
  rw [hp.cnts] at h1 h2
  unfold roomF
  show L s ≤ L e + if b < pwt gs ws s ps then prg ws ps - 1 else prg ws ps
  split
  · rename_i hl
    rcases (by omega : L s ≤ L e + (prg ws ps - 1) ∨ prg ws ps + L e - L s = 0) with h3 | h3
    · exact h3
    · have h4 := h.wt s ps e hs hp fun p hp' => h2 h3 _ (List.mem_map.mpr ⟨p, hp', rfl⟩)
      omega
  · omega
/-! ### the bounds for a beat -/
def endsB (gs : List Gt) (ws : List Wr) (s : Nat) : List Nat := (List.range gs.length).filter fun e => (best gs ws s e).isSome
def endW (ws : List Wr) (s : Nat) (ps : List Nat) : Nat := ps.foldl (fun _ p => (svW ws p).2.1) s
theorem endW_of {ws : List Wr} : ∀ {ps : List Nat} {s e : Nat}, Pw ws s ps e → endW ws s ps = e
  | [], s, e, h => h
  | p :: r, s, e, ⟨x, hx, hs, h3⟩ => by
    show endW ws (svW ws p).2.1 r = e
    rw [svW_get hx]
    exact endW_of h3
abbrev endsF (ws : List Wr) (pc : Pce) : Nat × Nat := (pc.1, endW ws pc.1 pc.2)
def ordI (gs : List Gt) (ws : List Wr) (i : Nat) : List (Nat × Nat) := (List.range i).flatMap fun s => (endsB gs ws s).map fun e => (s, e)
theorem ordI_succ (gs : List Gt) (ws : List Wr) (i : Nat) : ordI gs ws (i + 1) = ordI gs ws i ++ (endsB gs ws i).map fun e => (i, e) := by
  unfold ordI
  rw [List.range_succ, List.flatMap_append]
  congr 1
  exact List.append_nil _
theorem sorted_uniq : ∀ {l l' : List Nat}, l.Perm l' → l.Pairwise (· ≤ ·) → l'.Pairwise (· ≤ ·) → l = l'
  | [], l', p, _, _ => (List.nil_perm.mp p).symm
  | a :: l, [], p, _, _ => absurd (List.perm_nil.mp p) (by simp)
  | a :: l, b :: l', p, h, h' => by
    obtain ⟨h1, h2⟩ := List.pairwise_cons.mp h
    obtain ⟨k1, k2⟩ := List.pairwise_cons.mp h'
    have e : a = b := by
      have m1 := p.mem_iff.mp (List.mem_cons_self (a := a) (l := l))
      have m2 := p.mem_iff.mpr (List.mem_cons_self (a := b) (l := l'))
      rcases List.mem_cons.mp m1 with m1 | m1
      · exact m1
      · rcases List.mem_cons.mp m2 with m2 | m2
        · exact m2.symm
        · have := h1 b m2
          have := k1 a m1
          omega
    subst e
    rw [sorted_uniq ((List.perm_cons a).mp p) h2 k2]
theorem range_sorted : ∀ n, (List.range n).Pairwise (· ≤ ·) := fun n => by
  rw [List.pairwise_iff_getElem]
  intro i j hi hj hij
  rw [List.getElem_range, List.getElem_range]
  omega
theorem ends_uniq {gs : List Gt} {ws : List Wr} {s : Nat} {es ks : List Nat} (N : NetOk gs ws) (hs : s < gs.length) (hp : es.Perm ks) (hnd : ks.Nodup) (hmem : ∀ g, g ∈ ks ↔ ∃ c, best gs ws s g = some c) (hso : es.Pairwise (· ≤ ·)) : es = endsB gs ws s := by
  refine sorted_uniq ?_ hso (by unfold endsB; exact (range_sorted _).filter _)
  unfold endsB
  rw [List.perm_ext_iff_of_nodup (hp.nodup_iff.mpr hnd) (List.nodup_range.filter _)]
  intro g
  rw [hp.mem_iff, hmem, List.mem_filter, List.mem_range]
  constructor
  · rintro ⟨c, hc⟩
    exact ⟨best_lt N hs hc, by rw [hc]; rfl⟩
  · rintro ⟨_, h⟩
    cases e : best gs ws s g with
    | none => rw [e] at h; cases h
    | some c => exact ⟨c, rfl⟩
structure BdsOk (gs : List Gt) (ws : List Wr) (b : Int) (pcs : List Pce) (bs : List Bnd) : Prop where
  al : All2 (fun (pc : Pce) (bd : Bnd) => ∃ e, pc.1 < gs.length ∧ Pw ws pc.1 pc.2 e ∧ bd = (spotF gs pc.1, spotF gs e, roomF gs ws b pc)) pcs bs
  full : ∀ s, s < gs.length → ∀ e c, best gs ws s e = some c → ∃ pc ∈ pcs, pc.1 = s ∧ Pw ws s pc.2 e ∧ c = (prg ws pc.2, -pwt gs ws s pc.2)
  bst : ∀ pc ∈ pcs, ∃ e, Pw ws pc.1 pc.2 e ∧ best gs ws pc.1 e = some (prg ws pc.2, -pwt gs ws pc.1 pc.2)
  ord : pcs.map (endsF ws) = ordI gs ws gs.length
theorem spot_le (g : Nat) (h : g < gs.length) : spotF gs g < gs.length + 1 := by
  unfold spotF
  split <;> omega
theorem BdsOk.below {b : Int} {pcs : List Pce} {bs : List Bnd} (N : NetOk gs ws) (h : BdsOk gs ws b pcs bs) : ∀ bd ∈ bs, bd.1 < gs.length + 1 ∧ bd.2.1 < gs.length + 1 := fun bd hb => by
  obtain ⟨i, hi⟩ := List.getElem?_of_mem hb
  obtain ⟨pc, _, e, h1, h2, rfl⟩ := h.al.getR hi
  exact ⟨spot_le _ h1, spot_le _ (h2.lt N h1)⟩
theorem BdsOk.m1 {b : Int} {pcs : List Pce} {bs : List Bnd} (h : BdsOk gs ws b pcs bs) : ∀ bd ∈ bs, -1 ≤ bd.2.2 := fun bd hb => by
  obtain ⟨i, hi⟩ := List.getElem?_of_mem hb
  obtain ⟨pc, _, e, h1, h2, rfl⟩ := h.al.getR hi
  show -1 ≤ roomF gs ws b pc
  have := prg_nn ws pc.2
  unfold roomF
  split <;> omega
def lagsAt (gs : List Gt) (F : Nat → Int) (g : Nat) : Int := F (spotF gs g) - F gs.length
theorem BdsOk.lags {b : Int} {pcs : List Pce} {bs : List Bnd} (N : NetOk gs ws) (h : BdsOk gs ws b pcs bs) {F : Nat → Int} (S : Sat bs F) : Feas gs ws b (lagsAt gs F) := by
  have key : ∀ s, s < gs.length → ∀ e c, best gs ws s e = some c → lagsAt gs F s ≤ lagsAt gs F e + (if b < -c.2 then c.1 - 1 else c.1) := fun s hs e c hc => by
    obtain ⟨pc, hpc, h1, h2, h3⟩ := h.full s hs e c hc
    obtain ⟨i, hi⟩ := List.getElem?_of_mem hpc
    obtain ⟨bd, hbd, e', h4, h5, h6⟩ := h.al.get hi
    rw [h1] at h5
    have := Pw.fn h2 h5
    subst this
    have h7 := S bd (List.mem_of_getElem? hbd)
    rw [h6, h1] at h7
    have h7 : F (spotF gs s) ≤ F (spotF gs e) + roomF gs ws b pc := h7
    have h8 : roomF gs ws b pc = if b < -c.2 then c.1 - 1 else c.1 := by
      unfold roomF
      rw [h3, h1, Int.neg_neg]
    rw [h8] at h7
    unfold lagsAt
    omega
  have le : ∀ {b c1 c2 : Int}, (if b < c2 then c1 - 1 else c1) ≤ c1 := by
    intro b c1 c2
    split <;> omega
  refine ⟨fun g hg hp => ?_, fun x hx => ?_, fun s ps e hs hp hz => ?_⟩
  · unfold lagsAt spotF
    rw [if_pos hp]
    omega
  · obtain ⟨p, hp⟩ := List.getElem?_of_mem hx
    have W := N.wok x hx
    have hw : Pw ws x.1 [p] x.2.1 := ⟨x, hp, rfl, rfl⟩
    obtain ⟨c, hc, hl⟩ := best_le N W.s hw
    have h1 := key x.1 W.s x.2.1 c hc
    have h2 := @le b c.1 (-c.2)
    rw [leC_iff, prg_cons hp, prg_nil] at hl
    have hl : c.1 < ((x.2.2.length : Nat) : Int) + 0 ∨ (c.1 = ((x.2.2.length : Nat) : Int) + 0 ∧ _) := hl
    rcases hl with hl | ⟨hl, _⟩ <;> omega
  · have h0 := zero_sum hp hz
    obtain ⟨c, hc, hl⟩ := best_le N hs hp
    have h1 := key s hs e c hc
    rw [leC_iff] at hl
    have hl : c.1 < prg ws ps ∨ (c.1 = prg ws ps ∧ c.2 ≤ -pwt gs ws s ps) := hl
    by_cases hb : b < -c.2
    · rw [if_pos hb] at h1
      omega
    · rw [if_neg hb] at h1
      omega
/-! ### bars -/
def Jn (gs : List Gt) (ws : List Wr) : Nat → List Pce → Nat → Prop
  | s, [], e => s = e
  | s, pc :: r, e => spotF gs pc.1 = s ∧ pc.1 < gs.length ∧ ∃ m, Pw ws pc.1 pc.2 m ∧ Jn gs ws (spotF gs m) r e
def roomsF (gs : List Gt) (ws : List Wr) (b : Int) (pcs : List Pce) : Int := (pcs.map (roomF gs ws b)).sum
def IsBar (gs : List Gt) (ws : List Wr) (b : Int) (pcs : List Pce) : Prop := pcs ≠ [] ∧ ∃ v, Jn gs ws v pcs v ∧ roomsF gs ws b pcs < 0
def spotL (gs : List Gt) (L : Nat → Int) (s : Nat) : Int := if s = gs.length then 0 else L s
theorem Feas.spot {b : Int} {L : Nat → Int} (h : Feas gs ws b L) {g : Nat} (hg : g < gs.length) : spotL gs L (spotF gs g) = L g := by
  unfold spotL spotF
  by_cases hp : portK (kindAt gs g)
  · rw [if_pos hp, if_pos rfl, h.out g hg hp]
  · rw [if_neg hp, if_neg (by omega)]
theorem Feas.joined {b : Int} {L : Nat → Int} (N : NetOk gs ws) (h : Feas gs ws b L) : ∀ {pcs : List Pce} {s e : Nat}, Jn gs ws s pcs e → spotL gs L s ≤ spotL gs L e + roomsF gs ws b pcs
  | [], s, e, h' => by
    have h' : s = e := h'
    rw [h']
    show _ ≤ _ + (0 : Int)
    omega
  | pc :: r, s, e, ⟨h1, h2, m, h3, h4⟩ => by
    have h5 := Feas.joined N h h4
    have h6 := h.room h2 h3
    rw [← h1, h.spot h2]
    rw [h.spot (h3.lt N h2)] at h5
    unfold roomsF at *
    rw [List.map_cons, List.sum_cons]
    have h6 : L pc.1 ≤ L m + roomF gs ws b pc := h6
    omega
theorem IsBar.none {b : Int} {pcs : List Pce} (N : NetOk gs ws) (h : IsBar gs ws b pcs) {L : Nat → Int} : ¬ Feas gs ws b L := fun f => by
  obtain ⟨_, v, h1, h2⟩ := h
  have := f.joined N h1
  omega
def pAt (pcs : List Pce) (j : Nat) : Pce := pcs.getD j (0, [])
theorem pAt_get {pcs : List Pce} {j : Nat} {p : Pce} (h : pcs[j]? = some p) : pAt pcs j = p := by
  unfold pAt
  rw [List.getD_eq_getElem?_getD, h]
  rfl
theorem BdsOk.joined {b : Int} {pcs : List Pce} {bs : List Bnd} (h : BdsOk gs ws b pcs bs) : ∀ {js : List Nat} {s e : Nat}, PtB bs s js e → Jn gs ws s (js.map (pAt pcs)) e ∧ roomsF gs ws b (js.map (pAt pcs)) = rsum bs js
  | [], s, e, h' => ⟨h', rfl⟩
  | j :: r, s, e, ⟨bd, h1, h2, h3⟩ => by
    obtain ⟨pc, hp, m, h4, h5, h6⟩ := h.al.getR h1
    subst h6
    obtain ⟨k1, k2⟩ := BdsOk.joined h h3
    rw [List.map_cons, pAt_get hp]
    refine ⟨⟨h2, h4, m, h5, k1⟩, ?_⟩
    rw [rsum_cons h1, ← k2]
    unfold roomsF
    rw [List.map_cons, List.sum_cons]
theorem BdsOk.bar {b : Int} {pcs : List Pce} {bs : List Bnd} (h : BdsOk gs ws b pcs bs) {js : List Nat} (r : RingB bs js) : IsBar gs ws b (js.map (pAt pcs)) := by
  obtain ⟨h1, v, h2, h3⟩ := r
  obtain ⟨k1, k2⟩ := h.joined h2
  exact ⟨fun z => h1 (List.map_eq_nil_iff.mp z), v, k1, by rw [k2]; exact h3⟩
/-! ### the least beat -/
def FeasE (gs : List Gt) (ws : List Wr) (b : Int) : Prop := ∃ L, Feas gs ws b L
def IsWait (gs : List Gt) (ws : List Wr) (m : Int) : Prop := ∃ s e c, s < gs.length ∧ best gs ws s e = some c ∧ m = -c.2
theorem max_ex {P : Int → Prop} {b : Int} (hb : ∀ v, P v → v ≤ b) : ∀ (k : Nat) (v : Int), P v → (b - v).toNat ≤ k → ∃ m, P m ∧ ∀ v, P v → v ≤ m := by
  intro k
  induction k with
  | zero =>
    intro v hv hk
    refine ⟨v, hv, fun u hu => ?_⟩
    have := hb u hu
    have := hb v hv
    omega
  | succ k ih =>
    intro v hv hk
    by_cases h : ∃ u, P u ∧ v < u
    · obtain ⟨u, hu, hlt⟩ := h
      have := hb u hu
      exact ih u hu (by omega)
    · refine ⟨v, hv, fun u hu => ?_⟩
      rcases Int.lt_or_le v u with h1 | h1
      · exact absurd ⟨u, hu, h1⟩ h
      · exact h1
theorem Feas.tight {b : Int} {L : Nat → Int} (N : NetOk gs ws) (h : Feas gs ws b L) : ∃ m, m ≤ b ∧ IsWait gs ws m ∧ Feas gs ws m L := by
  have hn : 0 < gs.length := List.length_pos_iff.mpr N.ne
  obtain ⟨m, ⟨s, ps, e, hs, hp, hz, hm⟩, hle⟩ := max_ex (P := fun v => ∃ s ps e, s < gs.length ∧ Pw ws s ps e ∧ (∀ p ∈ ps, cntF ws L p = 0) ∧ v = pwt gs ws s ps) (b := b) (fun v ⟨s, ps, e, hs, hp, hz, e'⟩ => by
    rw [e']
    exact h.wt s ps e hs hp hz) _ (pwt gs ws 0 []) ⟨0, [], 0, hn, rfl, (fun p hp => nomatch hp), rfl⟩ (Nat.le_refl _)
  refine ⟨m, by rw [hm]; exact h.wt s ps e hs hp hz, ?_, h.out, h.lt, fun s ps e hs hp hz => hle _ ⟨s, ps, e, hs, hp, hz, rfl⟩⟩
  obtain ⟨c, hc, hl⟩ := best_le N hs hp
  refine ⟨s, e, c, hs, hc, ?_⟩
  obtain ⟨qs, hq, hcq⟩ := best_way hc
  have h0 := zero_sum hp hz
  obtain ⟨h1, h2⟩ := sum_nn (h.nn hq)
  rw [hq.cnts] at h1 h2
  rw [leC_iff] at hl
  have e1 : c.1 = prg ws qs := by rw [hcq]
  have e2 : c.2 = -pwt gs ws s qs := by rw [hcq]
  have hl : c.1 < prg ws ps ∨ (c.1 = prg ws ps ∧ c.2 ≤ -pwt gs ws s ps) := hl
  have h3 := hle _ ⟨s, qs, e, hs, hq, fun p hp' => h2 (by omega) _ (List.mem_map.mpr ⟨p, hp', rfl⟩), rfl⟩
  omega
theorem Feas.zero {b : Int} (N : NetOk gs ws) (hb : ∀ m, IsWait gs ws m → m ≤ b) : Feas gs ws b (fun _ => 0) := by
  refine ⟨fun _ _ _ => rfl, fun x _ => by omega, fun s ps e hs hp hz => ?_⟩
  have h0 := zero_sum hp hz
  obtain ⟨c, hc, hl⟩ := best_le N hs hp
  have h1 := hb _ ⟨s, e, c, hs, hc, rfl⟩
  have h2 := best_nn hc
  rw [leC_iff] at hl
  have hl : c.1 < prg ws ps ∨ (c.1 = prg ws ps ∧ c.2 ≤ -pwt gs ws s ps) := hl
  omega
structure IsLeast (gs : List Gt) (ws : List Wr) (B : Int) : Prop where
  ex : FeasE gs ws B
  no : ∀ b, b < B → ¬ FeasE gs ws b
theorem IsLeast.eq {B B' : Int} (h : IsLeast gs ws B) (h' : IsLeast gs ws B') : B = B' := by
  rcases Int.lt_trichotomy B B' with e | e | e
  · exact absurd h.ex (h'.no _ e)
  · exact e
  · exact absurd h'.ex (h.no _ e)
theorem IsLeast.le {B b : Int} (h : IsLeast gs ws B) (h' : FeasE gs ws b) : B ≤ b := by
  rcases Int.lt_or_le b B with e | e
  · exact absurd h' (h.no _ e)
  · exact e
end
end Lag

set_option maxRecDepth 100000
set_option maxHeartbeats 8000000
namespace Lag
open PySem PySem.Spec PyProof.Rows L2
abbrev sBestFrom : Stmt := topS 51 -- @best_from
abbrev sWayTo : Stmt := topS 52 -- @way_to
def lasV : Option Nat → V
  | none => .non
  | some p => .int (p : Nat)
def nvs (r : List Nat) : List V := r.map fun i => V.int (i : Nat)
theorem nvs_len (r : List Nat) : (nvs r).length = r.length := List.length_map ..
/-- what is known of the gates: a table of tuples -/
structure KnD (K : PySem.W.Frag) (H : Hp) (d : Addr) (D : Dst) (kvs : List (Key × V)) (ks : List Nat) : Prop where
  at_ : H d = some (.dK kvs)
  keys : kvs.map (fun kv => kv.1) = ks.map (fun g => Sum.inl ((g : Nat) : Int))
  nd : ks.Nodup
  mem : ∀ g, g ∈ ks ↔ ∃ c, D g = some c
  some_ : ∀ g c, D g = some c → ∃ t, valV kvs (Sum.inl ((g : Nat) : Int)) = some (.ref t) ∧ SqT K H t [.int c.1, .int c.2]
  none_ : ∀ g, D g = none → valV kvs (Sum.inl ((g : Nat) : Int)) = none
theorem KnD.same {K : PySem.W.Frag} {H H' : Hp} {d : Addr} {D : Dst} {kvs : List (Key × V)} {ks : List Nat} (h : KnD K H d D kvs ks) (s : Same H H') : KnD K H' d D kvs ks :=
  ⟨s _ _ h.at_, h.keys, h.nd, h.mem, fun g c e => by
    obtain ⟨t, h1, h2⟩ := h.some_ g c e
    exact ⟨t, h1, (TK.same s).seq h2⟩, h.none_⟩
theorem KnD.get {K : PySem.W.Frag} {H : Hp} {d : Addr} {D : Dst} {kvs : List (Key × V)} {ks : List Nat} (h : KnD K H d D kvs ks) {g : Nat} {c : Cst} (e : D g = some c) : ∃ t, DGet H d (.int (g : Nat)) (some (.ref t)) ∧ SqT K H t [.int c.1, .int c.2] := by
  obtain ⟨t, h1, h2⟩ := h.some_ g c e
  refine ⟨t, ?_, h2⟩
  have := DGet.k (k := Sum.inl ((g : Nat) : Int)) h.at_
  rw [h1] at this
  exact this
theorem KnD.getN {K : PySem.W.Frag} {H : Hp} {d : Addr} {D : Dst} {kvs : List (Key × V)} {ks : List Nat} (h : KnD K H d D kvs ks) {g : Nat} (e : D g = none) : DGet H d (.int (g : Nat)) none := by
  have := DGet.k (k := Sum.inl ((g : Nat) : Int)) h.at_
  rw [h.none_ g e] at this
  exact this
theorem KnD.len {K : PySem.W.Frag} {H : Hp} {d : Addr} {D : Dst} {kvs : List (Key × V)} {ks : List Nat} (h : KnD K H d D kvs ks) : kvs.length = ks.length := by
  have := congrArg List.length h.keys
  rw [List.length_map, List.length_map] at this
  exact this
theorem has_key {kvs : List (Key × V)} {k : Key} (h : k ∈ kvs.map fun kv => kv.1) : ∃ v, valV kvs k = some v := by
  induction kvs with
  | nil => cases h
  | cons y l ih =>
    by_cases e : y.1 = k
    · exact ⟨y.2, valV_pos e⟩
    · rw [valV_neg e]
      rw [List.map_cons] at h
      rcases List.mem_cons.mp h with h | h
      · exact absurd h.symm e
      · exact ih h
theorem key_of {kvs : List (Key × V)} {k : Key} {v : V} (h : valV kvs k = some v) : k ∈ kvs.map fun kv => kv.1 := by
  induction kvs with
  | nil => cases h
  | cons y l ih =>
    rw [List.map_cons]
    by_cases e : y.1 = k
    · rw [e]
      exact List.mem_cons_self ..
    · rw [valV_neg e] at h
      exact List.mem_cons_of_mem _ (ih h)
theorem putK_old {kvs : List (Key × V)} {k : Key} {v : V} (hk : k ∈ kvs.map (fun kv => kv.1)) : (putK kvs k v).map (fun kv => kv.1) = kvs.map (fun kv => kv.1) := by
  unfold putK
  split
  · rw [List.map_map]
    refine List.map_congr_left fun y _ => ?_
    show (if y.1 = k then (y.1, v) else y).1 = y.1
    split <;> rfl
  · rename_i h
    exfalso
    apply h
    obtain ⟨y, hy, e⟩ := List.mem_map.mp hk
    rw [List.any_eq_true]
    exact ⟨y, hy, by simpa using e⟩
theorem putK_fresh {kvs : List (Key × V)} {k : Key} {v : V} (hk : k ∉ kvs.map (fun kv => kv.1)) : (putK kvs k v).map (fun kv => kv.1) = kvs.map (fun kv => kv.1) ++ [k] := by
  unfold putK
  split
  · rename_i h
    exfalso
    apply hk
    rw [List.any_eq_true] at h
    obtain ⟨y, hy, e⟩ := h
    exact List.mem_map.mpr ⟨y, hy, by simpa using e⟩
  · rw [List.map_append]
    rfl
theorem KnD.put {K : PySem.W.Frag} {H : Hp} {d t : Addr} {D : Dst} {kvs : List (Key × V)} {ks : List Nat} {e : Nat} {c : Cst} (h : KnD K H d D kvs ks) (ht : H t = some (.tup [.int c.1, .int c.2])) :
    ∃ ks', KnD K (upd H d (.dK (putK kvs (Sum.inl ((e : Nat) : Int)) (.ref t)))) d (setD D e c) (putK kvs (Sum.inl ((e : Nat) : Int)) (.ref t)) ks' := by
  have inj : ∀ {i j : Nat}, (Sum.inl ((i : Nat) : Int) : Key) = Sum.inl ((j : Nat) : Int) → i = j := fun {i j} z => by
    have := Sum.inl.inj z
    omega
  have tk : TK H (upd H d (.dK (putK kvs (Sum.inl ((e : Nat) : Int)) (.ref t)))) := fun b o to eb => by
    rw [upd_ne (fun z => by
      rw [z, h.at_] at eb
      cases eb
      exact to)]
    exact eb
  have hk : (Sum.inl ((e : Nat) : Int) : Key) ∈ kvs.map (fun kv => kv.1) ↔ e ∈ ks := by
    rw [h.keys]
    constructor
    · intro z
      obtain ⟨g, hg, e'⟩ := List.mem_map.mp z
      rw [← inj e']
      exact hg
    · intro z
      exact List.mem_map.mpr ⟨e, z, rfl⟩
  have sm : ∀ g c', setD D e c g = some c' → ∃ t', valV (putK kvs (Sum.inl ((e : Nat) : Int)) (.ref t)) (Sum.inl ((g : Nat) : Int)) = some (.ref t') ∧ SqT K (upd H d (.dK (putK kvs (Sum.inl ((e : Nat) : Int)) (.ref t)))) t' [.int c'.1, .int c'.2] := fun g c' hg => by
    rw [valV_put]
    unfold setD at hg
    by_cases z : g = e
    · rw [if_pos z] at hg
      cases hg
      rw [if_pos (by rw [z])]
      exact ⟨t, rfl, tk.seq (.inl (.inl ht))⟩
    · rw [if_neg z] at hg
      rw [if_neg fun y => z (inj y)]
      obtain ⟨t', h1, h2⟩ := h.some_ g c' hg
      exact ⟨t', h1, tk.seq h2⟩
  have sn : ∀ g, setD D e c g = none → valV (putK kvs (Sum.inl ((e : Nat) : Int)) (.ref t)) (Sum.inl ((g : Nat) : Int)) = none := fun g hg => by
    unfold setD at hg
    by_cases z : g = e
    · rw [if_pos z] at hg
      cases hg
    · rw [if_neg z] at hg
      rw [valV_put, if_neg fun y => z (inj y)]
      exact h.none_ g hg
  have dm : ∀ g, (∃ c', setD D e c g = some c') ↔ (g = e ∨ ∃ c', D g = some c') := fun g => by
    unfold setD
    by_cases z : g = e
    · rw [if_pos z]
      exact ⟨fun _ => .inl z, fun _ => ⟨c, rfl⟩⟩
    · rw [if_neg z]
      exact ⟨fun y => .inr y, fun y => y.elim (fun y => absurd y z) fun y => y⟩
  by_cases he : e ∈ ks
  · refine ⟨ks, upd_same, by rw [putK_old (hk.mpr he)]; exact h.keys, h.nd, fun g => ?_, sm, sn⟩
    rw [dm, h.mem]
    refine ⟨fun y => .inr y, fun y => y.elim (fun y => ?_) fun y => y⟩
    rw [y]
    exact (h.mem e).mp he
  · refine ⟨ks ++ [e], upd_same, by rw [putK_fresh fun z => he (hk.mp z), h.keys, List.map_append]; rfl, ?_, fun g => ?_, sm, sn⟩
    · rw [List.nodup_append]
      refine ⟨h.nd, by simp, fun a ha b hb z => ?_⟩
      rw [List.mem_singleton.mp hb] at z
      exact he (z ▸ ha)
    · rw [dm, List.mem_append, List.mem_singleton, h.mem]
      exact ⟨fun y => y.elim (fun y => .inr y) fun y => .inl y, fun y => y.elim (fun y => .inr y) fun y => .inl y⟩
theorem KnD.mut {K : PySem.W.Frag} {H : Hp} {d l : Addr} {o : HO} {xs : List V} {D : Dst} {kvs : List (Key × V)} {ks : List Nat} (h : KnD K H d D kvs ks) (hl : H l = some (.lst xs)) : KnD K (upd H l o) d D kvs ks :=
  ⟨by rw [upd_ne (fun z => by rw [← z, h.at_] at hl; cases hl)]; exact h.at_, h.keys, h.nd, h.mem, fun g c e => by
    obtain ⟨t, h1, h2⟩ := h.some_ g c e
    exact ⟨t, h1, (TK.lst hl).seq h2⟩, h.none_⟩
theorem lex_ltC (a b : Cst) : HT.lexLt [a.1, a.2] [b.1, b.2] = decide (ltC a b) := by
  obtain ⟨a1, a2⟩ := a
  obtain ⟨b1, b2⟩ := b
  show (if a1 = b1 then (if a2 = b2 then false else decide (a2 < b2)) else decide (a1 < b1)) = decide (ltC (a1, a2) (b1, b2))
  unfold ltC
  show _ = decide (a1 < b1 ∨ (a1 = b1 ∧ a2 < b2))
  by_cases e : a1 = b1
  · rw [if_pos e]
    by_cases e2 : a2 = b2
    · rw [if_pos e2]
      exact (decide_eq_false (by omega)).symm
    · rw [if_neg e2]
      by_cases e3 : a2 < b2
      · rw [decide_eq_true e3, decide_eq_true (by omega)]
      · rw [decide_eq_false e3, decide_eq_false (by omega)]
  · rw [if_neg e]
    by_cases e3 : a1 < b1
    · rw [decide_eq_true e3, decide_eq_true (by omega)]
    · rw [decide_eq_false e3, decide_eq_false (by omega)]
theorem Snd.at_s {gs : List Gt} {ws : List Wr} {s : Nat} {D : Dst} (N : NetOk gs ws) (S : Snd gs ws s D) (h : leD D (Lag.ini gs s)) : D s = some (0, -gw gs s) := by
  obtain ⟨c, hc, hle⟩ := h s (0, -gw gs s) (by unfold Lag.ini; rw [if_pos rfl])
  obtain ⟨vs, hv⟩ := S s c hc
  obtain ⟨ps, h1, h2⟩ := hv.pw
  obtain ⟨ρ, hρ⟩ := N.rank
  rw [hc]
  rw [leC_iff] at hle
  subst h2
  have h3 := prg_nn ws ps
  have h0 : prg ws ps = 0 := by
    rcases hle with h | h
    · have h : prg ws ps < 0 := h
      omega
    · exact h.1
  have h4 := ring_regs hρ h1 h0
  have h5 : ps = [] := List.length_eq_zero_iff.mp (by omega)
  subst h5
  unfold pwt
  rw [prg_nil, pws_nil, Int.add_zero]
theorem rnds_le {gs : List Gt} {ws : List Wr} {s : Nat} : ∀ k, leD (rnds gs ws s k) (Lag.ini gs s)
  | 0 => leD.refl _
  | k + 1 => (fold_le gs ws _).trans (rnds_le k)
theorem las_at {La : List (Option Nat)} {g : Nat} (h : g < La.length) : (La.map lasV)[g]? = some (lasV (La.getD g none)) := by
  rw [List.getElem?_map, List.getElem?_eq_getElem h, List.getD_eq_getElem?_getD, List.getElem?_eq_getElem h]
  rfl
def spBestFrom (K : PySem.W.Frag) (C : Addr) : Sp := fun vs H Q _ => ∃ (p ng nw : Addr) (gs : List Gt) (ws : List Wr) (s : Nat), vs = [.ref p, .int (s : Nat)] ∧ NetAt K C H p ng nw gs ws ∧ NetOk gs ws ∧ s < gs.length ∧
  ∀ (t d lL : Addr) (kvs : List (Key × V)) (ks : List Nat) (La : List (Option Nat)) (H' : Hp), Same H H' → H' t = some (.tup [.ref d, .ref lL]) → KnD K H' d (best gs ws s) kvs ks → H' lL = some (.lst (La.map lasV)) → H lL = none → LaOk gs ws s La → Q (.ref t) H'
def spWayTo (K : PySem.W.Frag) (C : Addr) : Sp := fun vs H Q _ => ∃ (p ng nw lL : Addr) (gs : List Gt) (ws : List Wr) (La : List (Option Nat)) (g s : Nat) (ps : List Nat), vs = [.ref p, .int (g : Nat), .ref lL] ∧ NetAt K C H p ng nw gs ws ∧ NetOk gs ws ∧ H lL = some (.lst (La.map lasV)) ∧ La.length = gs.length ∧ g < gs.length ∧ Bk ws La g ps s ∧ ps.length ≤ 1000 ∧
  ∀ (t lr : Addr) (H' : Hp), Same H H' → H t = none → H lr = none → H' t = some (.tup [.int (s : Nat), .ref lr]) → H' lr = some (.lst (nvs ps.reverse)) → Q (.ref t) H'
section
variable {P : Program} {w : World} {K : PySem.W.Frag} {mg : Str → Option Value} {base : Heap}
abbrev nBestFrom : List Str := ["net", "start", "known", "last", "better", "place", "here", "end", "held", "come"]
theorem scBestFrom : FnScope nBestFrom ["net", "start"] (defScope sBestFrom) := ⟨rfl, rfl, rfl, by decide +kernel, rfl, by decide +kernel, by decide +kernel⟩
abbrev DBestFrom (P : Program) (w : World) (K : PySem.W.Frag) (mg : Str → Option Value) (base : Heap) (C : Addr) := Df P w K mg base 1 "best_from" ["net", "start"] (spBestFrom K C)
theorem ok_bestFrom {f C : Addr} {fd : FuncData} (F : Fun K "best_from" "best_from" sBestFrom f fd) (hm : mg "best_from" = some (.ref f)) (B : Bt mg) (T : NT K mg C) : DBestFrom P w K mg base C f fd := by
  refine ⟨?_, hm, F.kp, F.binds fun _ _ _ _ _ _ us hl => match us, hl with | [_, _], _ => rfl⟩
  refine F.ok scBestFrom (fun vs H Q E h => ?_) (fun cdv A outer s H vs Q E hr h => ?_)
  · obtain ⟨p, ng, nw, gs, ws, s, rfl, _⟩ := h
    rfl
  · obtain ⟨p, ng, nw, gs, ws, s0, rfl, NA, N, hs0, q⟩ := h
    have nd := scBestFrom.nd
    refine ⟨_, pss_cons (ps_set (i := 2) nd rfl (.inl rfl) (pe_disp (pps_cons (pv 1) (pe_tup (pa_cons pe_int (pa_cons (pe_un un_neg (pe_ix ix_tup (pe_ix ix_list (pe_fld (pv 0) rfl) (pv 1) (fun _ _ => rfl)) pe_int (fun _ _ => rfl))) pa_nil))) pps_nil) (by rfl) (by rfl) (fun z => by cases z) (by decide))) <|
        pss_cons (ps_set (i := 3) nd rfl (.inl rfl) (pe_op op_rep (pe_lst (pa_cons pe_non pa_nil)) (pe_callB call_len_seq (by rfl) B.len PySem.boot_len (pa_cons (pe_fld (pv 0) rfl) pa_nil)))) <|
        pss_cons (ps_set (i := 4) nd rfl (.inl rfl) pe_bl) <|
        pss_cons (ps_while PassesOwn.never (pt_val (pv 4)) (pss_cons (ps_set (i := 4) nd rfl (.inl rfl) pe_bl) <|
        pss_one (ps_for PassesOwn.never rfl (pi_enum (by rfl) B.enum (pa_cons (pe_fld (pv 0) rfl) pa_nil)) (pg_tup rfl (pgs_cons (pg_name (i := 5) nd rfl (.inl rfl)) (pgs_cons (pg_tup rfl (pgs_cons (pg_name (i := 6) nd rfl (.inl rfl)) (pgs_cons (pg_name (i := 7) nd rfl (.inl rfl)) (pgs_cons (pg_name (i := 8) nd rfl (.inl rfl)) pgs_nil)))) pgs_nil))) (pss_one (ps_if (pt_cmp (pc_din (hu_of hr) (pv 6) (pv 2))) (pss_cons (ps_set (i := 9) nd rfl (.inl rfl) (pe_tup (pa_cons (pe_op op_add (pe_ix ix_tup (pe_dget (hu_of hr) (pv 2) (pv 6) (fun _ _ => rfl)) pe_int (fun _ _ => rfl)) (pe_callB call_len_seq (by rfl) B.len PySem.boot_len (pa_cons (pv 8) pa_nil))) (pa_cons (pe_op op_sub (pe_ix ix_tup (pe_dget (hu_of hr) (pv 2) (pv 6) (fun _ _ => rfl)) pe_int (fun _ _ => rfl)) (pe_ix ix_tup (pe_ix ix_list (pe_fld (pv 0) rfl) (pv 7) (fun _ _ => rfl)) pe_int (fun _ _ => rfl))) pa_nil)))) <|
        pss_one (ps_if (PW.pt (pw_or (pt_cmp (pc_dnotin (hu_of hr) (pv 7) (pv 2))) (pw_or1 (pt_cmpR (op_ltT hr.units0) (pv 9) (pe_dget (hu_of hr) (pv 2) (pv 7) (fun _ _ => rfl)) (nomark _))))) (pss_cons (ps_dput (hu_of hr) (pv 2) (pv 7) (pv 9) rfl) <|
        pss_cons (ps_asg (pv 5) (pg_sub (pv 3) (pv 7) set_list)) <|
        pss_one (ps_set (i := 4) nd rfl (.inl rfl) pe_bl)) pss_nil)) pss_nil))))) <|
        pss_one (ps_ret (pe_tup (pa_cons (pv 2) (pa_cons (pv 3) pa_nil)))), ?_⟩
    have hwl := N.wl
    have hgl := N.gl
    obtain ⟨dx, ob⟩ := id NA.ob
    obtain ⟨gv, hgv, ga⟩ := id NA.g
    obtain ⟨wv, hwv, wa⟩ := id NA.w
    have hlw : wv.length = ws.length := wa.1
    have hlg : gv.length = gs.length := ga.1
    obtain ⟨_, hvs, as, rfl, sqs⟩ := ga.getR (List.getElem?_eq_getElem hs0)
    have egs : (gs[s0]).2 = gw gs s0 := (gw_get (List.getElem?_eq_getElem hs0)).symm
    rw [egs] at sqs
    intro d hd
    have s1 := same_new (o := .dK []) hd
    have e1 : (upd H d (.dK [])) d = some (.dK []) := upd_same
    generalize upd H d (.dK []) = H1 at s1 e1
    refine ⟨_, rfl, _, rfl, p, C, dx, _, _, rfl, s1 _ _ ob, T.cl, T.nG, nf_gates _ _, _, rfl, ng, _, s0, _, rfl, rfl, SqL.of (s1 _ _ hgv), atI_nat hvs, as, _, 1, _, rfl, rfl, (TK.same s1).seq sqs, atI_nat (j := 1) rfl, _, rfl, (by show 2 ≤ sizeLine; decide), fun t1 ht1 => ?_⟩
    have s2 := same_new (o := .tup [.int 0, .int (-gw gs s0)]) ht1
    have et1 : (upd H1 t1 (.tup [.int 0, .int (-gw gs s0)])) t1 = some (.tup [.int 0, .int (-gw gs s0)]) := upd_same
    have e2 := s2 _ _ e1
    have s12 := s1.trans s2
    generalize upd H1 t1 (.tup [.int 0, .int (-gw gs s0)]) = H2 at s2 et1 e2 s12
    refine ⟨e2, [(Sum.inl ((s0 : Nat) : Int), .ref t1)], rfl, Nat.le_of_ble_eq_true rfl, ?_⟩
    have emk : mergeK [] [((Sum.inl ((s0 : Nat) : Int) : Key), V.ref t1)] = [(Sum.inl ((s0 : Nat) : Int), .ref t1)] := rfl
    rw [emk]
    have s3 : Same H (upd H2 d (.dK [(Sum.inl ((s0 : Nat) : Int), .ref t1)])) := same_mut s12 hd
    have ntd : t1 ≠ d := fun z => by
      rw [z, e2] at et1
      cases et1
    have et3 : (upd H2 d (.dK [(Sum.inl ((s0 : Nat) : Int), .ref t1)])) t1 = some (.tup [.int 0, .int (-gw gs s0)]) := (upd_ne ntd).trans et1
    have kn0 : KnD K (upd H2 d (.dK [(Sum.inl ((s0 : Nat) : Int), .ref t1)])) d (ini gs s0) [(Sum.inl ((s0 : Nat) : Int), .ref t1)] [s0] := by
      refine ⟨upd_same, rfl, by simp, fun g => ?_, fun g c hg => ?_, fun g hg => ?_⟩
      · unfold ini
        rw [List.mem_singleton]
        by_cases z : g = s0
        · rw [if_pos z]
          exact ⟨fun _ => ⟨_, rfl⟩, fun _ => z⟩
        · rw [if_neg z]
          exact ⟨fun y => absurd y z, fun ⟨c, y⟩ => by cases y⟩
      · unfold ini at hg
        by_cases z : g = s0
        · rw [if_pos z] at hg
          cases hg
          rw [z]
          exact ⟨t1, valV_pos rfl, .inl (.inl et3)⟩
        · rw [if_neg z] at hg
          cases hg
      · unfold ini at hg
        by_cases z : g = s0
        · rw [if_pos z] at hg
          cases hg
        · rw [valV_neg (fun y => z (by have := Sum.inl.inj y; omega))]
          rfl
    generalize upd H2 d (.dK [(Sum.inl ((s0 : Nat) : Int), .ref t1)]) = H3 at s3 et3 kn0
    -- last
    refine ⟨(by show 1 ≤ sizeLine; decide), fun l0 hl0 => ?_⟩
    have t4 := same_new (o := .lst [.non]) hl0
    have e4 : (upd H3 l0 (.lst [.non])) l0 = some (.lst [.non]) := upd_same
    generalize upd H3 l0 (.lst [.non]) = H4 at t4 e4
    have s14 := s3.trans t4
    refine ⟨_, rfl, p, C, dx, _, _, rfl, s14 _ _ ob, T.cl, T.nG, nf_gates _ _, ng, gv, rfl, .inl (SqL.of (s14 _ _ hgv)), l0, _, _, rfl, rfl, e4, by omega, by omega, ?_, fun lL hlL => ?_⟩
    · show 1 * _ ≤ sizeLine
      exact Nat.le_of_lt (small1000 (by omega))
    have eL : (List.replicate ((gv.length : Nat) : Int).toNat [V.non]).flatten = (List.replicate gs.length (none : Option Nat)).map lasV := by
      rw [Int.toNat_natCast, hlg]
      have : ∀ n : Nat, (List.replicate n [V.non]).flatten = (List.replicate n (none : Option Nat)).map lasV := fun n => by
        induction n with
        | zero => rfl
        | succ n ih =>
          rw [List.replicate_succ, List.flatten_cons, ih, List.replicate_succ]
          rfl
      exact this _
    rw [eL]
    have t5 := same_new (o := .lst ((List.replicate gs.length (none : Option Nat)).map lasV)) hlL
    have e5 : (upd H4 lL (.lst ((List.replicate gs.length (none : Option Nat)).map lasV))) lL = some (.lst ((List.replicate gs.length (none : Option Nat)).map lasV)) := upd_same
    have hlL0 : H lL = none := s14.free hlL
    have kn5 := (kn0.same t4).same t5
    generalize upd H4 lL (.lst ((List.replicate gs.length (none : Option Nat)).map lasV)) = H5 at t5 e5 kn5
    have s15 := s14.trans t5
    have nLd : lL ≠ d := fun z => by
      rw [z, kn5.at_] at e5
      cases e5
    refine gn_norm (σ' := [some (.ref p), some (.int (s0 : Nat)), some (.ref d), some (.ref lL), none, none, none, none, none, none]) rfl ?_
    refine ⟨fun m σ H' => ∃ (k : Nat) (b : Bool) (u5 u6 u7 u8 u9 : Option V) (kvs : List (Key × V)) (ks : List Nat) (La : List (Option Nat)), σ = [some (.ref p), some (.int (s0 : Nat)), some (.ref d), some (.ref lL), some (.bl b), u5, u6, u7, u8, u9] ∧ m = (if b = true then gs.length + 1 - k else 0) ∧ k ≤ gs.length ∧ (b = true → k < gs.length) ∧ (b = false → Fix gs ws (rnds gs ws s0 k)) ∧
        Same H H' ∧ KnD K H' d (rnds gs ws s0 k) kvs ks ∧ H' lL = some (.lst (La.map lasV)) ∧ LaI gs ws s0 (rnds gs ws s0 k) La, ⟨_, 0, true, _, _, _, _, _, _, _, _, rfl, rfl, Nat.zero_le _, fun _ => by omega, (fun z => nomatch z), s15, kn5, e5, LaI.ini gs ws s0⟩, ?_⟩
    rintro m σ H6 ⟨k, b, u5, u6, u7, u8, u9, kvs, ks, La, rfl, rfl, hk, hkb, hfb, s6, kn6, eL6, la6⟩
    refine ⟨_, rfl, b, rfl, ?_⟩
    cases b with
    | false =>
      refine iteF ?_
      obtain ⟨lok, eb⟩ := la6.ok N hs0 hk (hfb rfl)
      refine ⟨_, rfl, _, rfl, (by show 2 ≤ sizeLine; decide), fun t ht => ?_⟩
      have st := same_new (o := .tup [.ref d, .ref lL]) ht
      rw [eb] at kn6
      exact q t d lL kvs ks La _ (s6.trans st) upd_same (kn6.same st) (st _ _ eL6) hlL0 lok
    | true =>
      refine iteT ?_
      have hkn := hkb rfl
      refine ⟨fun σ H' => ∃ (b : Bool) (u5 u6 u7 u8 u9 : Option V) (kvs : List (Key × V)) (ks : List Nat) (La : List (Option Nat)), σ = [some (.ref p), some (.int (s0 : Nat)), some (.ref d), some (.ref lL), some (.bl b), u5, u6, u7, u8, u9] ∧ (b = true → k + 1 < gs.length) ∧ (b = false → Fix gs ws (rnds gs ws s0 (k + 1))) ∧
        Same H H' ∧ KnD K H' d (rnds gs ws s0 (k + 1)) kvs ks ∧ H' lL = some (.lst (La.map lasV)) ∧ LaI gs ws s0 (rnds gs ws s0 (k + 1)) La, fun σ' H' ⟨b, u5, u6, u7, u8, u9, kvs, ks, La, e, h1, h2, h3, h4, h5, h6⟩ => ⟨if b = true then gs.length + 1 - (k + 1) else 0, ?_, k + 1, b, u5, u6, u7, u8, u9, kvs, ks, La, e, rfl, by omega, h1, h2, h3, h4, h5, h6⟩, ?_⟩
      · rw [if_pos rfl]
        split <;> omega
      refine ⟨_, rfl, p, C, dx, _, _, rfl, s6 _ _ ob, T.cl, T.nW, nf_wires _ _, nw, wv, rfl, SqL.of (s6 _ _ hwv), for_it (walk_enum (K := K) (a := nw) (xs := wv)) (fun j σ H' => ∃ (b : Bool) (u5 u6 u7 u8 u9 : Option V) (kvs : List (Key × V)) (ks : List Nat) (La : List (Option Nat)), σ = [some (.ref p), some (.int (s0 : Nat)), some (.ref d), some (.ref lL), some (.bl b), u5, u6, u7, u8, u9] ∧
          (b = false → (ws.take j).foldl (Lag.rel gs) (rnds gs ws s0 k) = rnds gs ws s0 k ∧ ∀ i x, i < j → ws[i]? = some x → ¬ bet gs (rnds gs ws s0 k) x) ∧ (b = true → ¬ Fix gs ws (rnds gs ws s0 k)) ∧
          Same H H' ∧ KnD K H' d ((ws.take j).foldl (Lag.rel gs) (rnds gs ws s0 k)) kvs ks ∧ H' lL = some (.lst (La.map lasV)) ∧ LaI gs ws s0 ((ws.take j).foldl (Lag.rel gs) (rnds gs ws s0 k)) La) ⟨false, _, _, _, _, _, kvs, ks, La, rfl, fun _ => ⟨rfl, fun i x hi => absurd hi (Nat.not_lt_zero _)⟩, (fun z => nomatch z), s6, kn6, eL6, la6⟩ (fun j σ H' _ ⟨_, _, _, _, _, _, _, _, _, _, _, _, sm, _⟩ => SqL.of (sm _ _ hwv)) ?_ ?_⟩
      · rintro j v σ H7 H7' hj ⟨b, u5, u6, u7, u8, u9, kvs, ks, La, rfl, hbf, hbt, sm, kn7, eL7, la7⟩ ⟨T', x1, y, rfl, hT, rfl, ex, ey⟩
        cases ex
        obtain ⟨x, hx, a, b', rfl, sq1, sq2⟩ := wa.get ey
        have hji : j < ws.length := (List.getElem?_eq_some_iff.mp hx).1
        have WX := N.wok x (List.mem_of_getElem? hx)
        have sT := same_new (o := .tup [.int (j : Nat), .ref a]) hT
        have eT : (upd H7 T' (.tup [.int (j : Nat), .ref a])) T' = some (.tup [.int (j : Nat), .ref a]) := upd_same
        have sm8 := sm.trans sT
        have kn8 := kn7.same sT
        have eL8 := sT _ _ eL7
        generalize upd H7 T' (.tup [.int (j : Nat), .ref a]) = H8 at sT eT sm8 kn8 eL8
        have tk8 := TK.same sm8
        have hfs := fold_succ (gs := gs) (D := rnds gs ws s0 k) hx
        have S0 : Snd gs ws s0 ((ws.take j).foldl (Lag.rel gs) (rnds gs ws s0 k)) := Snd.fold (fun y hy => List.mem_of_mem_take hy) (Snd.rnds k)
        have lD : leD ((ws.take j).foldl (Lag.rel gs) (rnds gs ws s0 k)) (ini gs s0) := (fold_le gs _ _).trans (rnds_le k)
        have hDs := S0.at_s N lD
        refine ⟨T', _, rfl, .inl (.inl eT), rfl, _, _, rfl, _, _, rfl, a, _, rfl, tk8.seq sq1, rfl, _, _, rfl, _, _, rfl, _, _, rfl, rfl, rfl, ?_⟩
        generalize hDj : (ws.take j).foldl (Lag.rel gs) (rnds gs ws s0 k) = Dj at *
        cases hc : Dj x.1 with
        | none =>
          refine ⟨_, rfl, _, rfl, d, none, rfl, kn8.getN hc, _, rfl, iteF ?_⟩
          have er : Lag.rel gs Dj x = Dj := rel_none hc
          rw [er] at hfs
          refine ⟨b, _, _, _, _, _, kvs, ks, La, rfl, fun hb => ⟨?_, fun i y hi hy => ?_⟩, hbt, sm8, ?_, eL8, ?_⟩
          · rw [hfs]
            exact (hbf hb).1
          · by_cases e : i = j
            · subst e
              rw [hx] at hy
              cases hy
              rintro ⟨c, h1, _⟩
              rw [← (hbf hb).1, hc] at h1
              cases h1
            · exact (hbf hb).2 i y (by omega) hy
          · rw [hfs]
            exact kn8
          · rw [hfs]
            exact la7
        | some c =>
          obtain ⟨tc, hg, hsc⟩ := kn8.get hc
          refine ⟨_, rfl, _, rfl, d, _, rfl, hg, _, rfl, iteT ?_⟩
          obtain ⟨_, hvg, ag, rfl, sqg⟩ := ga.getR (List.getElem?_eq_getElem WX.e)
          have ew : (gs[x.2.1]'WX.e).2 = gw gs x.2.1 := (gw_get (List.getElem?_eq_getElem WX.e)).symm
          rw [ew] at sqg
          refine ⟨_, rfl, _, rfl, d, _, rfl, hg, tc, _, 0, _, rfl, rfl, hsc, atI_nat (j := 0) rfl, _, rfl, b', _, rfl, .inr (tk8.seq sq2), _, _, rfl, rfl, ?_⟩
          refine ⟨_, rfl, _, rfl, d, _, rfl, hg, tc, _, 1, _, rfl, rfl, hsc, atI_nat (j := 1) rfl, _, rfl, p, C, dx, _, _, rfl, sm8 _ _ ob, T.cl, T.nG, nf_gates _ _, _, rfl, ng, _, x.2.1, _, rfl, rfl, SqL.of (sm8 _ _ hgv), atI_nat hvg, ag, _, 1, _, rfl, rfl, tk8.seq sqg, atI_nat (j := 1) rfl, _, _, rfl, rfl, (by show 2 ≤ sizeLine; decide), fun t9 ht9 => ?_⟩
          rw [List.length_map]
          have eadd : (c.1 + ((x.2.2.length : Nat) : Int), c.2 - gw gs x.2.1) = addC gs c x := rfl
          have s9 := same_new (o := .tup [.int (c.1 + ((x.2.2.length : Nat) : Int)), .int (c.2 - gw gs x.2.1)]) ht9
          have et9 : (upd H8 t9 (.tup [.int (c.1 + ((x.2.2.length : Nat) : Int)), .int (c.2 - gw gs x.2.1)])) t9 = some (.tup [.int (addC gs c x).1, .int (addC gs c x).2]) := upd_same
          have sm9 := sm8.trans s9
          have kn9 := kn8.same s9
          have eL9 := s9 _ _ eL8
          generalize upd H8 t9 (.tup [.int (c.1 + ((x.2.2.length : Nat) : Int)), .int (c.2 - gw gs x.2.1)]) = H9 at s9 et9 sm9 kn9 eL9
          refine gn_norm (σ' := [some (.ref p), some (.int (s0 : Nat)), some (.ref d), some (.ref lL), some (.bl b), some (.int (j : Nat)), some (.int (x.1 : Nat)), some (.int (x.2.1 : Nat)), some (.ref b'), some (.ref t9)]) rfl ?_
          have notb : ∀ (o : Cst), Dj x.2.1 = some o → ¬ ltC (addC gs c x) o → Lag.rel gs Dj x = Dj ∧ ¬ bet gs Dj x := fun o ho hn => by
            refine ⟨by rw [rel_old hc ho, if_neg hn], ?_⟩
            rintro ⟨c2, h1, h2⟩
            rw [hc] at h1
            cases h1
            exact hn (h2 o ho)
          cases ho : Dj x.2.1 with
          | none =>
            have hbet : ∀ o, Dj x.2.1 = some o → ltC (addC gs c x) o := fun o h => by rw [ho] at h; cases h
            refine ⟨_, rfl, _, rfl, d, none, rfl, kn9.getN ho, _, rfl, iteT ?_⟩
            have hsz : kvs.length < sizeLine := by
              have := kn9.len
              have := svNodup_le kn9.nd fun v hv => by
                obtain ⟨c', hc'⟩ := (kn9.mem v).mp hv
                obtain ⟨vs, hvs⟩ := S0 v c' hc'
                obtain ⟨ps, hps, _⟩ := hvs.pw
                exact hps.lt N hs0
              exact small1000 (by omega)
            refine ⟨_, rfl, _, rfl, _, rfl, d, _, rfl, DPut.k (k := Sum.inl ((x.2.1 : Nat) : Int)) kn9.at_ hsz, ?_⟩
            obtain ⟨ks', kn10⟩ := kn9.put (e := x.2.1) (c := addC gs c x) et9
            have sm10 : Same H (upd H9 d (.dK (putK kvs (Sum.inl ((x.2.1 : Nat) : Int)) (.ref t9)))) := same_mut sm9 hd
            have eL10 : (upd H9 d (.dK (putK kvs (Sum.inl ((x.2.1 : Nat) : Int)) (.ref t9)))) lL = some (.lst (La.map lasV)) := (upd_ne nLd).trans eL9
            generalize upd H9 d (.dK (putK kvs (Sum.inl ((x.2.1 : Nat) : Int)) (.ref t9))) = H10 at kn10 sm10 eL10
            have heL : x.2.1 < La.length := by rw [la7.len]; exact WX.e
            refine ⟨_, rfl, _, rfl, _, rfl, lL, _, _, x.2.1, rfl, rfl, eL10, Evl.ixN_nat (by rw [List.length_map]; exact heL), ?_⟩
            have er : Lag.rel gs Dj x = setD Dj x.2.1 (addC gs c x) := rel_bet hc hbet
            rw [er] at hfs
            have nfx : ¬ Fix gs ws (rnds gs ws s0 k) := fun F => by
              cases b with
              | true => exact hbt rfl F
              | false =>
                rw [(hbf rfl).1] at hc hbet
                exact F x (List.mem_of_getElem? hx) ⟨c, hc, hbet⟩
            refine ⟨true, _, _, _, _, _, putK kvs (Sum.inl ((x.2.1 : Nat) : Int)) (.ref t9), ks', La.set x.2.1 (some j), rfl, (fun z => nomatch z), fun _ => nfx, same_mut sm10 hlL0, ?_, ?_, ?_⟩
            · rw [hfs]
              exact kn10.mut eL10
            · rw [upd_same, List.map_set]
              rfl
            · rw [hfs]
              exact la7.set N hx hc hbet hDs S0
          | some o =>
            obtain ⟨to, hgo, hso⟩ := kn9.get ho
            refine ⟨_, rfl, _, rfl, d, _, rfl, hgo, _, rfl, iteF ?_⟩
            refine ⟨_, rfl, _, rfl, _, rfl, d, _, rfl, hgo, t9, to, [(addC gs c x).1, (addC gs c x).2], [o.1, o.2], rfl, rfl, .inl (.inl et9), hso, _, rfl, ?_⟩
            rw [lex_ltC]
            refine ite2 (fun e => ?_) (fun e => ?_)
            · have hlt : ltC (addC gs c x) o := of_decide_eq_true e
              have hbet : ∀ o', Dj x.2.1 = some o' → ltC (addC gs c x) o' := fun o' h => by rw [ho] at h; cases h; exact hlt
              have hsz : kvs.length < sizeLine := by
                have := kn9.len
                have := svNodup_le kn9.nd fun v hv => by
                  obtain ⟨c', hc'⟩ := (kn9.mem v).mp hv
                  obtain ⟨vs, hvs⟩ := S0 v c' hc'
                  obtain ⟨ps, hps, _⟩ := hvs.pw
                  exact hps.lt N hs0
                exact small1000 (by omega)
              refine ⟨_, rfl, _, rfl, _, rfl, d, _, rfl, DPut.k (k := Sum.inl ((x.2.1 : Nat) : Int)) kn9.at_ hsz, ?_⟩
              obtain ⟨ks', kn10⟩ := kn9.put (e := x.2.1) (c := addC gs c x) et9
              have sm10 : Same H (upd H9 d (.dK (putK kvs (Sum.inl ((x.2.1 : Nat) : Int)) (.ref t9)))) := same_mut sm9 hd
              have eL10 : (upd H9 d (.dK (putK kvs (Sum.inl ((x.2.1 : Nat) : Int)) (.ref t9)))) lL = some (.lst (La.map lasV)) := (upd_ne nLd).trans eL9
              generalize upd H9 d (.dK (putK kvs (Sum.inl ((x.2.1 : Nat) : Int)) (.ref t9))) = H10 at kn10 sm10 eL10
              have heL : x.2.1 < La.length := by rw [la7.len]; exact WX.e
              refine ⟨_, rfl, _, rfl, _, rfl, lL, _, _, x.2.1, rfl, rfl, eL10, Evl.ixN_nat (by rw [List.length_map]; exact heL), ?_⟩
              have er : Lag.rel gs Dj x = setD Dj x.2.1 (addC gs c x) := rel_bet hc hbet
              rw [er] at hfs
              have nfx : ¬ Fix gs ws (rnds gs ws s0 k) := fun F => by
                cases b with
                | true => exact hbt rfl F
                | false =>
                  rw [(hbf rfl).1] at hc hbet
                  exact F x (List.mem_of_getElem? hx) ⟨c, hc, hbet⟩
              refine ⟨true, _, _, _, _, _, putK kvs (Sum.inl ((x.2.1 : Nat) : Int)) (.ref t9), ks', La.set x.2.1 (some j), rfl, (fun z => nomatch z), fun _ => nfx, same_mut sm10 hlL0, ?_, ?_, ?_⟩
              · rw [hfs]
                exact kn10.mut eL10
              · rw [upd_same, List.map_set]
                rfl
              · rw [hfs]
                exact la7.set N hx hc hbet hDs S0
            · have hlt : ¬ ltC (addC gs c x) o := fun z => e (decide_eq_true z)
              obtain ⟨er, nb⟩ := notb o ho hlt
              rw [er] at hfs
              refine ⟨b, _, _, _, _, _, kvs, ks, La, rfl, fun hb => ⟨?_, fun i y hi hy => ?_⟩, hbt, sm9, ?_, eL9, ?_⟩
              · rw [hfs]
                exact (hbf hb).1
              · by_cases ei : i = j
                · subst ei
                  rw [hx] at hy
                  cases hy
                  rw [← (hbf hb).1]
                  exact nb
                · exact (hbf hb).2 i y (by omega) hy
              · rw [hfs]
                exact kn9
              · rw [hfs]
                exact la7
      · rintro σ H7 ⟨b, u5, u6, u7, u8, u9, kvs, ks, La, rfl, hbf, hbt, sm, kn7, eL7, la7⟩
        rw [hlw, List.take_length] at hbf kn7 la7
        refine ⟨b, _, _, _, _, _, kvs, ks, La, rfl, fun hb => ?_, fun hb => ?_, sm, kn7, eL7, la7⟩
        · rcases Nat.lt_or_ge (k + 1) gs.length with h | h
          · exact h
          · exact absurd (rnds_fix N hs0 h) (hbt hb)
        · have hfx : Fix gs ws (rnds gs ws s0 k) := fun y hy => by
            obtain ⟨i, hi⟩ := List.getElem?_of_mem hy
            exact (hbf hb).2 i y (List.getElem?_eq_some_iff.mp hi).1 hi
          have : rnds gs ws s0 (k + 1) = rnds gs ws s0 k := fold_fix hfx
          rw [this]
          exact hfx
end
end Lag

set_option maxRecDepth 100000
set_option maxHeartbeats 8000000
namespace Lag
open PySem PySem.Spec PyProof.Rows L2
/-! ### xs[::-1] of a list -/
theorem rev_range : ∀ (xs : List Value), (List.range xs.length).filterMap (fun k => xs[xs.length - 1 - k]?) = xs.reverse := fun xs => by
  refine List.ext_getElem? fun i => ?_
  have h0 : ((List.range xs.length).filterMap fun k => xs[xs.length - 1 - k]?) = (List.range xs.length).map fun k => xs.getD (xs.length - 1 - k) .none := by
    have : ∀ l : List Nat, (∀ k ∈ l, k < xs.length) → (l.filterMap fun k => xs[xs.length - 1 - k]?) = l.map fun k => xs.getD (xs.length - 1 - k) .none := fun l hl => by
      induction l with
      | nil => rfl
      | cons k l ih =>
        have hk := hl k (by simp)
        rw [List.filterMap_cons, List.map_cons, ih fun j hj => hl j (List.mem_cons_of_mem _ hj), List.getElem?_eq_getElem (by omega), List.getD_eq_getElem?_getD, List.getElem?_eq_getElem (by omega)]
        rfl
    exact this _ fun k hk => List.mem_range.mp hk
  rw [h0, List.getElem?_map]
  by_cases hi : i < xs.length
  · rw [List.getElem?_eq_getElem (by simpa using hi), List.getElem_range, List.getElem?_reverse hi, List.getElem?_eq_getElem (by omega)]
    show some (xs.getD _ _) = _
    rw [List.getD_eq_getElem?_getD, List.getElem?_eq_getElem (by omega)]
    rfl
  · rw [List.getElem?_eq_none (by simpa using hi), List.getElem?_eq_none (by simpa using hi)]
    rfl
theorem slicePick_rev (its : List Value) : slicePick its.toArray none none (some (-1)) = its.reverse.toArray := by
  have hb : sliceBounds none none (some (-1)) its.toArray.size = ((its.length : Int) - 1, -1, -1) := by
    rw [List.size_toArray]
    rfl
  unfold slicePick
  rw [hb]
  have hr : PySem.sliceRange ((its.length : Int) - 1) (-1) (-1) = (List.range its.length).map fun k => its.length - 1 - k := by
    unfold PySem.sliceRange
    have hc : (if (-1 : Int) > 0 then (if (its.length : Int) - 1 < -1 then (-1 - ((its.length : Int) - 1) + -1 - 1) / -1 else 0) else (if (its.length : Int) - 1 > -1 then ((its.length : Int) - 1 - -1 - -1 - 1) / -(-1) else 0)).toNat = its.length := by
      rw [if_neg (by decide)]
      split
      · have : ((its.length : Int) - 1 - -1 - -1 - 1) / -(-1) = its.length := by
          rw [show (-(-1) : Int) = 1 from rfl, Int.ediv_one]
          omega
        rw [this, Int.toNat_natCast]
      · omega
    show (List.range (if (-1 : Int) > 0 then (if (its.length : Int) - 1 < -1 then (-1 - ((its.length : Int) - 1) + -1 - 1) / -1 else 0) else (if (its.length : Int) - 1 > -1 then ((its.length : Int) - 1 - -1 - -1 - 1) / -(-1) else 0)).toNat).map _ = _
    rw [hc]
    refine List.map_congr_left fun k hk => ?_
    have := List.mem_range.mp hk
    omega
  show ((PySem.sliceRange ((its.length : Int) - 1) (-1) (-1)).filterMap (its.toArray[·]?)).toArray = _
  rw [hr, List.filterMap_map]
  congr 1
  refine Eq.trans ?_ (rev_range its)
  congr 1
  funext k
  show its.toArray[its.length - 1 - k]? = its[its.length - 1 - k]?
  simp
section
variable {X : Cx} {e : Expr} {te ts : TE} {p1 p2 p3 pos : Pos}
/-- xs[::-1] -/
def tRevL (K : PySem.W.Frag) (te ts : TE) : TE := fun σ H Q => te σ H fun x H1 => ts σ H1 fun y H2 => ∃ (a : Addr) (xs : List V), x = .ref a ∧ y = .int (-1) ∧ SqL K H2 a xs ∧ ∀ b, H2 b = none → Q (.ref b) (upd H2 b (.lst xs.reverse))
theorem pe_revL {st : Expr} (he : PE X e te) (hs : PE X st ts) : PE X (.Subscript e (.Slice none none (some st) p2) pos) (tRevL X.K te ts) := by
  refine ⟨fun pins s σ H Q I h => ?_⟩
  refine Subscript_ (thn (he.run pins s σ H _ I h) fun v s1 ⟨x, H1, I1, r1, q1⟩ => ?_)
  refine wpAny_Slice (thn (po_none.run pins s1 σ H1 (fun o H3 => o = none ∧ H3 = H1) I1 ⟨rfl, rfl⟩) fun vl s2 ⟨u, H2, I2, pl, eu, e2⟩ => ?_)
  subst eu e2
  refine thn (po_none.run pins s2 σ H2 (fun o H3 => o = none ∧ H3 = H2) I2 ⟨rfl, rfl⟩) fun vu s3 ⟨u, H3, I3, pu, eu, e3⟩ => ?_
  subst eu e3
  refine thn (hs.run pins s3 σ H3 _ I3 q1) fun vs s4 ⟨z, H4, I4, r4, q4⟩ => ?_
  obtain ⟨a, xs, rfl, rfl, hx, q⟩ := q4
  have e1 : v = Value.ref a := r1
  obtain ⟨t4, e4⟩ : ∃ t, vs = Value.int (-1) t := r4
  subst e1 e4
  cases pl
  cases pu
  have I5 : Inv X pins σ H4 { s4 with heap := s4.heap.push { cls := .type "slice", data := .fields #[.none, .none, .int (-1) t4] } } := I4.kept (t' := s4.toks) fun b ob q => Heap.get?_push_of_some _ q
  obtain ⟨its, r, ht, hz⟩ := I5.list hx
  have hlen := r.length
  show wpAny (model X.prog X.w) X.A (subscriptTail e (.Slice none none (some st) p2) (.ref a) (.ref s4.heap.objs.size)) (EP X pins σ Q) X.xe { s4 with heap := s4.heap.push { cls := .type "slice", data := .fields #[.none, .none, .int (-1) t4] } }
  refine tail_any (ops := [.ref a, .ref s4.heap.objs.size]) ht.isList.typeIs slot_list_getitem.lookup ?_ (by with_unfolding_all rfl)
  refine wpAny_getItem_list_slice ht.isList (Heap.IsSliceOf.new ..) .none .none (.int _ _) (by decide) ?_ (by rw [List.size_toArray]; omega)
  rw [slicePick_rev]
  have rr : Vals xs.reverse its.reverse := r.reverse
  refine ⟨.ref _, _, I5.laid (t' := s4.toks) (o := .lst xs.reverse) (fun b ob q => Heap.get?_push_of_some _ q) (Nat.le_refl _) ?_, rfl, q _ (I5.hok.fresh (Nat.le_refl _))⟩
  exact ⟨by rw [List.length_reverse]; omega, _, 0, rr, Heap.get?_push_size _ rfl⟩
end
section
variable {P : Program} {w : World} {K : PySem.W.Frag} {mg : Str → Option Value} {base : Heap}
abbrev nWayTo : List Str := ["net", "gate", "last", "wires"]
theorem scWayTo : FnScope nWayTo ["net", "gate", "last"] (defScope sWayTo) := ⟨rfl, rfl, rfl, by decide +kernel, rfl, by decide +kernel, by decide +kernel⟩
abbrev DWayTo (P : Program) (w : World) (K : PySem.W.Frag) (mg : Str → Option Value) (base : Heap) (C : Addr) := Df P w K mg base 1 "way_to" ["net", "gate", "last"] (spWayTo K C)
theorem ok_wayTo {f C : Addr} {fd : FuncData} (F : Fun K "way_to" "way_to" sWayTo f fd) (hm : mg "way_to" = some (.ref f)) (B : Bt mg) (T : NT K mg C) : DWayTo P w K mg base C f fd := by
  refine ⟨?_, hm, F.kp, F.binds fun _ _ _ _ _ _ us hl => match us, hl with | [_, _, _], _ => rfl⟩
  refine F.ok scWayTo (fun vs H Q E h => ?_) (fun cdv A outer s H vs Q E hr h => ?_)
  · obtain ⟨p, ng, nw, lL, gs, ws, La, g, s, ps, rfl, _⟩ := h
    rfl
  · obtain ⟨p, ng, nw, lL, gs, ws, La, g0, s0, ps, rfl, NA, N, hL, hll, hg0, bk0, hpl, q⟩ := h
    have nd := scWayTo.nd
    refine ⟨_, pss_cons (ps_set (i := 3) nd rfl (.inl rfl) (pe_lst pa_nil)) <|
        pss_cons (ps_while PassesOwn.never (pt_cmpR op_notN (pe_ix ix_list (pv 2) (pv 1) (fun _ _ => rfl)) pe_non (nomark _)) (pss_cons (ps_expr (pe_bm PySem.F.plainAttrs_list PySem.F.slot_list_append PySem.F.type_list_append mt_append (pv 3) (pa_cons (pe_ix ix_list (pv 2) (pv 1) (fun _ _ => rfl)) pa_nil))) <|
        pss_one (ps_set (i := 1) nd rfl (.inl rfl) (pe_ix ix_tup (pe_ix ix_list (pe_fld (pv 0) rfl) (pe_ix ix_list (pv 2) (pv 1) (fun _ _ => rfl)) (fun _ _ => rfl)) pe_int (fun _ _ => rfl))))) <|
        pss_one (ps_ret (pe_tup (pa_cons (pv 1) (pa_cons (pe_revL (pv 3) (pe_un un_neg pe_int)) pa_nil)))), ?_⟩
    obtain ⟨dx, ob⟩ := id NA.ob
    obtain ⟨wv, hwv, wa⟩ := id NA.w
    refine ⟨(by show 0 ≤ sizeLine; decide), fun lx hlx => ?_⟩
    have s1 := same_new (o := .lst []) hlx
    have e1 : (upd H lx (.lst [])) lx = some (.lst []) := upd_same
    generalize upd H lx (.lst []) = H1 at s1 e1
    refine gn_norm (σ' := [some (.ref p), some (.int (g0 : Nat)), some (.ref lL), some (.ref lx)]) rfl ?_
    refine ⟨fun m σ H' => ∃ (c : Nat) (acc rest : List Nat), σ = [some (.ref p), some (.int (c : Nat)), some (.ref lL), some (.ref lx)] ∧ m = rest.length ∧ c < gs.length ∧ Same H H' ∧ H' lx = some (.lst (nvs acc)) ∧ Bk ws La c rest s0 ∧ ps = acc ++ rest, ⟨_, g0, [], ps, rfl, rfl, hg0, s1, e1, bk0, rfl⟩, ?_⟩
    rintro m σ H2 ⟨c, acc, rest, rfl, rfl, hc, s2, ex, bk, rfl⟩
    have hcL : c < La.length := by rw [hll]; exact hc
    have eL := s2 _ _ hL
    refine ⟨_, rfl, _, rfl, lL, _, c, _, rfl, rfl, SqL.of eL, atI_nat (las_at hcL), rfl, _, rfl, ?_⟩
    rw [List.length_append] at hpl
    cases bk with
    | nil ela =>
      rw [ela]
      refine iteF ?_
      refine ⟨_, rfl, ?_⟩
      refine ⟨_, rfl, _, rfl, lx, _, rfl, rfl, SqL.of ex, fun lr hlr => ?_⟩
      have s3 := same_new (o := .lst (nvs acc).reverse) hlr
      have e3 : (upd H2 lr (.lst (nvs acc).reverse)) lr = some (.lst (nvs acc).reverse) := upd_same
      generalize upd H2 lr (.lst (nvs acc).reverse) = H3 at s3 e3
      refine ⟨(by show 2 ≤ sizeLine; decide), fun t ht => ?_⟩
      have s4 := same_new (o := .tup [.int (s0 : Nat), .ref lr]) ht
      refine q t lr _ ((s2.trans s3).trans s4) ((s2.trans s3).free ht) (s2.free hlr) upd_same ?_
      rw [s4 _ _ e3, List.append_nil]
      unfold nvs
      rw [List.map_reverse]
    | @cons _ k _ x rest ela hx hxe bk =>
      rw [ela]
      refine iteT ?_
      have WX := N.wok x (List.mem_of_getElem? hx)
      refine ⟨fun σ H' => ∃ (c' : Nat) (acc' rest' : List Nat), σ = [some (.ref p), some (.int (c' : Nat)), some (.ref lL), some (.ref lx)] ∧ rest'.length < rest.length + 1 ∧ c' < gs.length ∧ Same H H' ∧ H' lx = some (.lst (nvs acc')) ∧ Bk ws La c' rest' s0 ∧ acc ++ k :: rest = acc' ++ rest', fun σ' H' ⟨c', acc', rest', e, hlt, r2⟩ => ⟨rest'.length, hlt, c', acc', rest', e, rfl, r2⟩, ?_⟩
      have hla : (La.map lasV)[c]? = some (.int (k : Nat)) := by rw [las_at hcL, ela]; rfl
      rw [List.length_cons] at hpl
      refine ⟨_, rfl, .inl ⟨rfl, _, SqL.of ex⟩, _, rfl, _, rfl, lL, _, c, _, rfl, rfl, SqL.of eL, atI_nat hla, lx, _, _, rfl, rfl, ex, by rw [nvs_len]; exact small1000 (by omega), ?_⟩
      have s5 : Same H (upd H2 lx (.lst (nvs acc ++ [.int (k : Nat)]))) := same_mut s2 hlx
      obtain ⟨_, hv, a, b, rfl, sq1, sq2⟩ := wa.getR hx
      refine ⟨_, rfl, p, C, dx, _, _, rfl, s5 _ _ ob, T.cl, T.nW, nf_wires _ _, _, rfl, _, rfl, lL, _, c, _, rfl, rfl, SqL.of (s5 _ _ hL), atI_nat hla, nw, _, k, _, rfl, rfl, SqL.of (s5 _ _ hwv), atI_nat hv, a, _, 0, _, rfl, rfl, (TK.same s5).seq sq1, atI_nat (j := 0) rfl, ?_⟩
      refine ⟨x.1, acc ++ [k], rest, rfl, Nat.lt_succ_self _, WX.s, s5, ?_, bk, by rw [List.append_assoc]; rfl⟩
      rw [upd_same]
      unfold nvs
      rw [List.map_append]
      rfl
end
end Lag

set_option maxRecDepth 100000
set_option maxHeartbeats 8000000
namespace Lag
open PySem PySem.Spec PyProof.Rows L2
abbrev sWaitOf : Stmt := topS 25 -- @wait_of
abbrev sRoomOf : Stmt := topS 26 -- @room_of
abbrev sSpotsIn : Stmt := topS 54 -- @spots_in
abbrev sSpotsOf : Stmt := topS 55 -- @spots_of
abbrev sLagsAt : Stmt := topS 57 -- @lags_at
/-- a piece -/
def PceV (K : PySem.W.Frag) (H : Hp) (v : V) (pc : Pce) : Prop := ∃ a l, v = .ref a ∧ SqT K H a [.int (pc.1 : Nat), .ref l] ∧ SqL K H l (nvs pc.2)
theorem PceV.same {K : PySem.W.Frag} {H H' : Hp} {v : V} {pc : Pce} (s : Same H H') (h : PceV K H v pc) : PceV K H' v pc := by
  obtain ⟨a, l, e, h1, h2⟩ := h
  exact ⟨a, l, e, (TK.same s).seq h1, s.seq h2⟩
theorem nvs_at {r : List Nat} {i k : Nat} (h : r[i]? = some k) : (nvs r)[i]? = some (.int (k : Nat)) := by
  unfold nvs
  rw [List.getElem?_map, h]
  rfl
theorem nvs_of {r : List Nat} {i : Nat} {v : V} (h : (nvs r)[i]? = some v) : ∃ k, r[i]? = some k ∧ v = .int (k : Nat) := by
  unfold nvs at h
  rw [List.getElem?_map] at h
  cases e : r[i]? with
  | none => rw [e] at h; cases h
  | some k => rw [e] at h; cases h; exact ⟨k, rfl, rfl⟩
def PceOk (gs : List Gt) (ws : List Wr) (pc : Pce) : Prop := pc.1 < gs.length ∧ ∃ e, Pw ws pc.1 pc.2 e
def spWaitOf (K : PySem.W.Frag) (C : Addr) : Sp := fun vs H Q _ => ∃ (p ng nw : Addr) (gs : List Gt) (ws : List Wr) (v : V) (pc : Pce), vs = [.ref p, v] ∧ NetAt K C H p ng nw gs ws ∧ NetOk gs ws ∧ PceV K H v pc ∧ PceOk gs ws pc ∧ pc.2.length ≤ 1000 ∧ ∀ H', Same H H' → Q (.int (pwt gs ws pc.1 pc.2)) H'
def spRoomOf (K : PySem.W.Frag) (C : Addr) : Sp := fun vs H Q _ => ∃ (p ng nw : Addr) (gs : List Gt) (ws : List Wr) (b : Int) (v : V) (pc : Pce), vs = [.ref p, .int b, v] ∧ NetAt K C H p ng nw gs ws ∧ NetOk gs ws ∧ PceV K H v pc ∧ PceOk gs ws pc ∧ pc.2.length ≤ 1000 ∧ ∀ H', Same H H' → Q (.int (roomF gs ws b pc)) H'
def spSpotsIn (K : PySem.W.Frag) (C : Addr) : Sp := fun vs H Q _ => ∃ (p ng nw : Addr) (gs : List Gt) (ws : List Wr), vs = [.ref p] ∧ NetAt K C H p ng nw gs ws ∧ Q (.int ((gs.length + 1 : Nat) : Int)) H
def spotsL (gs : List Gt) : List Nat := (List.range gs.length).map (spotF gs)
def spSpotsOf (K : PySem.W.Frag) (C : Addr) : Sp := fun vs H Q _ => ∃ (p ng nw : Addr) (gs : List Gt) (ws : List Wr), vs = [.ref p] ∧ NetAt K C H p ng nw gs ws ∧ NetOk gs ws ∧ ∀ l H', Same H H' → H l = none → H' l = some (.lst (nvs (spotsL gs))) → Q (.ref l) H'
def spLagsAt (K : PySem.W.Frag) (C : Addr) : Sp := fun vs H Q _ => ∃ (p ng nw lf : Addr) (gs : List Gt) (ws : List Wr) (F : List Int), vs = [.ref p, .ref lf] ∧ NetAt K C H p ng nw gs ws ∧ NetOk gs ws ∧ SqL K H lf (F.map V.int) ∧ gs.length < F.length ∧
  ∀ l H', Same H H' → H l = none → H' l = some (.lst (((List.range gs.length).map (lagsAt gs fun v => F.getD v 0)).map V.int)) → Q (.ref l) H'
theorem spots_at {gs : List Gt} {g : Nat} (h : g < gs.length) : (nvs (spotsL gs))[g]? = some (.int ((spotF gs g : Nat) : Int)) := by
  refine nvs_at ?_
  unfold spotsL
  rw [List.getElem?_map, List.getElem?_range h]
  rfl
theorem sgetD_at {ts : List Int} {g : Nat} (h : g < ts.length) : (ts.map V.int)[g]? = some (.int (ts.getD g 0)) := by
  rw [List.getElem?_map, List.getElem?_eq_getElem h, List.getD_eq_getElem?_getD, List.getElem?_eq_getElem h]
  rfl
theorem skind_get {gs : List Gt} {i : Nat} {g : Gt} (h : gs[i]? = some g) : kindAt gs i = g.1 := by
  unfold kindAt
  rw [List.getD_eq_getElem?_getD, h]
  rfl
section
variable {P : Program} {w : World} {K : PySem.W.Frag} {mg : Str → Option Value} {base : Heap}
abbrev nWaitOf : List Str := ["net", "piece", "gate", "wires", "place"]
theorem scWaitOf : FnScope nWaitOf ["net", "piece"] (defScope sWaitOf) := ⟨rfl, rfl, rfl, by decide +kernel, rfl, by decide +kernel, by decide +kernel⟩
abbrev DWaitOf (P : Program) (w : World) (K : PySem.W.Frag) (mg : Str → Option Value) (base : Heap) (C : Addr) := Df P w K mg base 1 "wait_of" ["net", "piece"] (spWaitOf K C)
theorem ok_waitOf {f C : Addr} {fd : FuncData} (F : Fun K "wait_of" "wait_of" sWaitOf f fd) (hm : mg "wait_of" = some (.ref f)) (B : Bt mg) (ms : mg "sum" = none) (T : NT K mg C) : DWaitOf P w K mg base C f fd := by
  refine ⟨?_, hm, F.kp, F.binds fun _ _ _ _ _ _ us hl => match us, hl with | [_, _], _ => rfl⟩
  refine F.ok scWaitOf (fun vs H Q E h => ?_) (fun cdv A outer s H vs Q E hr h => ?_)
  · obtain ⟨p, ng, nw, gs, ws, v, pc, rfl, _⟩ := h
    rfl
  · obtain ⟨p, ng, nw, gs, ws, _, pc, rfl, NA, N, ⟨a, l, rfl, sa, sl⟩, ⟨hg, e0, hp⟩, hpl, q⟩ := h
    have nd := scWaitOf.nd
    refine ⟨_, pss_cons (ps_asg (pv 1) (pg_tup rfl (pgs_cons (pg_name (i := 2) nd rfl (.inl rfl)) (pgs_cons (pg_name (i := 3) nd rfl (.inl rfl)) pgs_nil)))) <|
        pss_one (ps_ret (pe_op op_add (pe_ix ix_tup (pe_ix ix_list (pe_fld (pv 0) rfl) (pv 2) (fun _ _ => rfl)) pe_int (fun _ _ => rfl)) (pe_callB (cr_sum rfl) (by rfl) ms (by decide +kernel) (pa_cons (pe_lc (own := [("place", 4)]) (g := (gName 4)) (tt := tYes) (te := (tOp (rIxT K) (tOp (rIxL K) (tFld K (tVar 0) "gates") (tOp (rIxT K) (tOp (rIxL K) (tFld K (tVar 0) "wires") (tVar 4)) (tC (.int 1)))) (tC (.int 1)))) rfl nd (pi_list (pv 3)) (blkOk_by (N := nWaitOf) (sc := defScope sWaitOf) (own := [("place", 4)]) (by decide +kernel)) (fun _ _ _ _ _ => (pg_name (i := 4) nd rfl (.inl rfl))) (fun _ _ _ _ _ => pts_nil) (fun _ _ _ _ _ => (pe_ix ix_tup (pe_ix ix_list (pe_fld (pv 0) rfl) (pe_ix ix_tup (pe_ix ix_list (pe_fld (pv 0) rfl) (pv 4) (fun _ _ => rfl)) pe_int (fun _ _ => rfl)) (fun _ _ => rfl)) pe_int (fun _ _ => rfl)))) pa_nil)))), ?_⟩
    obtain ⟨dx, ob⟩ := id NA.ob
    obtain ⟨gv, hgv, ga⟩ := id NA.g
    obtain ⟨wv, hwv, wa⟩ := id NA.w
    have gat : ∀ g, g < gs.length → ∀ H', Same H H' → ∃ b, gv[g]? = some (.ref b) ∧ ∃ k, SqT K H' b [.str k, .int (gw gs g)] := fun g hg H' s => by
      obtain ⟨_, hv, b, rfl, sq⟩ := ga.getR (List.getElem?_eq_getElem hg)
      refine ⟨b, hv, (gs[g]).1, ?_⟩
      rw [gw_get (List.getElem?_eq_getElem hg)]
      exact (TK.same s).seq sq
    refine ⟨_, rfl, a, _, rfl, sa, rfl, _, _, rfl, _, _, rfl, rfl, ?_⟩
    obtain ⟨b0, hb0, k0, sb0⟩ := gat pc.1 hg H (Same.refl _)
    refine ⟨_, rfl, p, C, dx, _, _, rfl, ob, T.cl, T.nG, nf_gates _ _, _, rfl, ng, _, pc.1, _, rfl, rfl, SqL.of hgv, atI_nat hb0, b0, _, 1, _, rfl, rfl, sb0, atI_nat (j := 1) rfl, ?_⟩
    refine ⟨_, rfl, l, rfl, ⟨_, sl⟩, fun D hD => ?_⟩
    refine lc_list (K := K) (a := l) (xs := nvs pc.2) (fun i Hc => Hc D = some (.lst ((((pc.2.take i).map fun p => gw gs (svW ws p).2.1)).map V.int)) ∧ Same H Hc) ⟨by rw [upd_same]; rfl, same_new hD⟩ (fun i Hc _ ⟨_, sm⟩ => sm.seq sl) ?_ ?_
    · rintro i v Hc hv ⟨hc, sm⟩
      obtain ⟨k, hk, rfl⟩ := nvs_of hv
      have hkw := hp.places k (List.mem_of_getElem? hk)
      have hx := List.getElem?_eq_getElem hkw
      obtain ⟨_, hv', b, b2, rfl, s1, s2⟩ := wa.getR hx
      have WX := N.wok _ (List.mem_of_getElem? hx)
      obtain ⟨b3, hb3, k3, sb3⟩ := gat _ WX.e Hc sm
      refine ⟨rfl, tyes ?_⟩
      refine ⟨_, rfl, p, C, dx, _, _, rfl, sm _ _ ob, T.cl, T.nG, nf_gates _ _, _, rfl, p, C, dx, _, _, rfl, sm _ _ ob, T.cl, T.nW, nf_wires _ _, _, rfl, nw, _, k, _, rfl, rfl, SqL.of (sm _ _ hwv), atI_nat hv', b, _, 1, _, rfl, rfl, (TK.same sm).seq s1, atI_nat (j := 1) rfl, ng, _, _, _, rfl, rfl, SqL.of (sm _ _ hgv), atI_nat hb3, b3, _, 1, _, rfl, rfl, sb3, atI_nat (j := 1) rfl, _, hc, ?_, ?_, same_mut sm hD⟩
      · rw [List.length_map, List.length_map, List.length_take]
        exact small1000 (by omega)
      · rw [upd_same, List.take_add_one, hk, List.map_append, List.map_append]
        show _ = some (HO.lst (_ ++ [V.int (gw gs (svW ws k).2.1)]))
        rw [svW_get hx]
    · rintro H2 ⟨hc, sm⟩
      rw [nvs_len, List.take_length] at hc
      exact ⟨D, _, rfl, SqL.of hc, _, _, rfl, rfl, q H2 sm⟩
abbrev nRoomOf : List Str := ["net", "beat", "piece", "gate", "wires", "place", "many"]
theorem scRoomOf : FnScope nRoomOf ["net", "beat", "piece"] (defScope sRoomOf) := ⟨rfl, rfl, rfl, by decide +kernel, rfl, by decide +kernel, by decide +kernel⟩
abbrev DRoomOf (P : Program) (w : World) (K : PySem.W.Frag) (mg : Str → Option Value) (base : Heap) (C : Addr) := Df P w K mg base 2 "room_of" ["net", "beat", "piece"] (spRoomOf K C)
theorem ok_roomOf {f fW C : Addr} {fd fdW : FuncData} (F : Fun K "room_of" "room_of" sRoomOf f fd) (hm : mg "room_of" = some (.ref f)) (B : Bt mg) (ms : mg "sum" = none) (T : NT K mg C) (DWt : DWaitOf P w K mg base C fW fdW) : DRoomOf P w K mg base C f fd := by
  refine ⟨?_, hm, F.kp, F.binds fun _ _ _ _ _ _ us hl => match us, hl with | [_, _, _], _ => rfl⟩
  refine F.ok scRoomOf (fun vs H Q E h => ?_) (fun cdv A outer s H vs Q E hr h => ?_)
  · obtain ⟨p, ng, nw, gs, ws, b, v, pc, rfl, _⟩ := h
    rfl
  · obtain ⟨p, ng, nw, gs, ws, bt, _, pc, rfl, NA, N, ⟨a, l, rfl, sa, sl⟩, ⟨hg, e0, hp⟩, hpl, q⟩ := h
    have nd := scRoomOf.nd
    refine ⟨_, pss_cons (ps_asg (pv 2) (pg_tup rfl (pgs_cons (pg_name (i := 3) nd rfl (.inl rfl)) (pgs_cons (pg_name (i := 4) nd rfl (.inl rfl)) pgs_nil)))) <|
        pss_cons (ps_set (i := 6) nd rfl (.inl rfl) (pe_callB (cr_sum rfl) (by rfl) ms (by decide +kernel) (pa_cons (pe_lc (own := [("place", 5)]) (g := (gName 5)) (tt := tYes) (te := (tCB (Evl.rLenS K) (tCons (tOp (rIxT K) (tOp (rIxL K) (tFld K (tVar 0) "wires") (tVar 5)) (tC (.int 2))) tNil))) rfl nd (pi_list (pv 4)) (blkOk_by (N := nRoomOf) (sc := defScope sRoomOf) (own := [("place", 5)]) (by decide +kernel)) (fun _ _ _ _ _ => (pg_name (i := 5) nd rfl (.inl rfl))) (fun _ _ _ _ _ => pts_nil) (fun _ _ _ _ _ => (pe_callB call_len_seq (by rfl) B.len PySem.boot_len (pa_cons (pe_ix ix_tup (pe_ix ix_list (pe_fld (pv 0) rfl) (pv 5) (fun _ _ => rfl)) pe_int (fun _ _ => rfl)) pa_nil)))) pa_nil))) <|
        pss_one (ps_ret (pe_ifExp (pt_cmpR op_gt (pe_call DWt.ok (hr.mono (by decide)) (by rfl) DWt.mg DWt.kp DWt.bd .nil pass0 (pa_cons (pv 0) (pa_cons (pv 2) pa_nil))) (pv 1) (nomark _)) (pe_op op_sub (pv 6) pe_int) (pv 6))), ?_⟩
    obtain ⟨dx, ob⟩ := id NA.ob
    obtain ⟨wv, hwv, wa⟩ := id NA.w
    refine ⟨_, rfl, a, _, rfl, sa, rfl, _, _, rfl, _, _, rfl, rfl, ?_⟩
    refine ⟨_, rfl, l, rfl, ⟨_, sl⟩, fun D hD => ?_⟩
    refine lc_list (K := K) (a := l) (xs := nvs pc.2) (fun i Hc => Hc D = some (.lst ((((pc.2.take i).map fun p => (((svW ws p).2.2.length : Nat) : Int))).map V.int)) ∧ Same H Hc) ⟨by rw [upd_same]; rfl, same_new hD⟩ (fun i Hc _ ⟨_, sm⟩ => sm.seq sl) ?_ ?_
    · rintro i v Hc hv ⟨hc, sm⟩
      obtain ⟨k, hk, rfl⟩ := nvs_of hv
      have hkw := hp.places k (List.mem_of_getElem? hk)
      have hx := List.getElem?_eq_getElem hkw
      obtain ⟨_, hv', b, b2, rfl, s1, s2⟩ := wa.getR hx
      refine ⟨rfl, tyes ?_⟩
      refine ⟨_, rfl, p, C, dx, _, _, rfl, sm _ _ ob, T.cl, T.nW, nf_wires _ _, _, rfl, nw, _, k, _, rfl, rfl, SqL.of (sm _ _ hwv), atI_nat hv', b, _, 2, _, rfl, rfl, (TK.same sm).seq s1, atI_nat (j := 2) rfl, b2, _, rfl, .inr ((TK.same sm).seq s2), _, hc, ?_, ?_, same_mut sm hD⟩
      · rw [List.length_map, List.length_map, List.length_take]
        exact small1000 (by omega)
      · rw [upd_same, List.take_add_one, hk, List.map_append, List.map_append]
        show _ = some (HO.lst (_ ++ [V.int (((svW ws k).2.2.length : Nat) : Int)]))
        rw [svW_get hx, List.length_map]
    · rintro H2 ⟨hc, sm⟩
      rw [nvs_len, List.take_length] at hc
      refine ⟨D, _, rfl, SqL.of hc, ?_⟩
      refine gn_norm (σ' := [some (.ref p), some (.int bt), some (.ref a), some (.int (pc.1 : Nat)), some (.ref l), none, some (.int (prg ws pc.2))]) rfl ?_
      refine ⟨_, rfl, _, rfl, p, ng, nw, gs, ws, _, pc, rfl, NA.same sm, N, PceV.same sm ⟨a, l, rfl, sa, sl⟩, ⟨hg, e0, hp⟩, hpl, fun H3 s3 => ?_⟩
      have qq := q H3 (sm.trans s3)
      unfold roomF at qq
      refine ⟨_, rfl, _, _, rfl, rfl, _, rfl, ?_⟩
      by_cases hb : bt < pwt gs ws pc.1 pc.2
      · rw [if_pos hb] at qq
        rw [decide_eq_true hb]
        exact iteT ⟨_, rfl, _, _, rfl, rfl, qq⟩
      · rw [if_neg hb] at qq
        rw [decide_eq_false hb]
        exact iteF ⟨_, rfl, qq⟩
abbrev DSpotsIn (P : Program) (w : World) (K : PySem.W.Frag) (mg : Str → Option Value) (base : Heap) (C : Addr) := Df P w K mg base 1 "spots_in" ["net"] (spSpotsIn K C)
abbrev nSpotsIn : List Str := ["net"]
theorem scSpotsIn : FnScope nSpotsIn ["net"] (defScope sSpotsIn) := ⟨rfl, rfl, rfl, by decide +kernel, rfl, by decide +kernel, by decide +kernel⟩
theorem ok_spotsIn {f C : Addr} {fd : FuncData} (F : Fun K "spots_in" "spots_in" sSpotsIn f fd) (hm : mg "spots_in" = some (.ref f)) (B : Bt mg) (T : NT K mg C) : DSpotsIn P w K mg base C f fd := by
  refine ⟨?_, hm, F.kp, F.binds fun _ _ _ _ _ _ us hl => match us, hl with | [_], _ => rfl⟩
  refine F.ok scSpotsIn (fun vs H Q E h => ?_) (fun cdv A outer s H vs Q E hr h => ?_)
  · obtain ⟨p, ng, nw, gs, ws, rfl, _⟩ := h
    rfl
  · obtain ⟨p, ng, nw, gs, ws, rfl, NA, q⟩ := h
    refine ⟨_, pss_one (ps_ret (pe_op op_add (pe_callB call_len_seq (by rfl) B.len PySem.boot_len (pa_cons (pe_fld (pv 0) rfl) pa_nil)) pe_int)), ?_⟩
    obtain ⟨dx, ob⟩ := id NA.ob
    obtain ⟨gv, hgv, ga⟩ := id NA.g
    have e : (((gv.length : Nat) : Int) + 1) = ((gs.length + 1 : Nat) : Int) := by
      rw [ga.1]
      omega
    refine ⟨_, rfl, p, C, dx, _, _, rfl, ob, T.cl, T.nG, nf_gates _ _, ng, gv, rfl, .inl (SqL.of hgv), _, _, rfl, rfl, ?_⟩
    show Q (.int (((gv.length : Nat) : Int) + 1)) H
    rw [e]
    exact q
abbrev DSpotsOf (P : Program) (w : World) (K : PySem.W.Frag) (mg : Str → Option Value) (base : Heap) (C : Addr) := Df P w K mg base 2 "spots_of" ["net"] (spSpotsOf K C)
abbrev nSpotsOf : List Str := ["net", "number", "gate"]
theorem scSpotsOf : FnScope nSpotsOf ["net"] (defScope sSpotsOf) := ⟨rfl, rfl, rfl, by decide +kernel, rfl, by decide +kernel, by decide +kernel⟩
theorem ok_spotsOf {f fO C : Addr} {fd fdO : FuncData} (F : Fun K "spots_of" "spots_of" sSpotsOf f fd) (hm : mg "spots_of" = some (.ref f)) (B : Bt mg) (T : NT K mg C) (DO : DOuter P w K mg base fO fdO) : DSpotsOf P w K mg base C f fd := by
  refine ⟨?_, hm, F.kp, F.binds fun _ _ _ _ _ _ us hl => match us, hl with | [_], _ => rfl⟩
  refine F.ok scSpotsOf (fun vs H Q E h => ?_) (fun cdv A outer s H vs Q E hr h => ?_)
  · obtain ⟨p, ng, nw, gs, ws, rfl, _⟩ := h
    rfl
  · obtain ⟨p, ng, nw, gs, ws, rfl, NA, N, q⟩ := h
    have nd := scSpotsOf.nd
    refine ⟨_, pss_one (ps_ret (pe_lc (own := [("number", 1), ("gate", 2)]) (g := (gTup K 2 (gCons (gName 1) (gCons (gName 2) gNil)))) (tt := tYes) (te := (tIf (tB (tCall (spOuter K) [] E0 (tCons (tVar 2) tNil))) (tCB (Evl.rLenS K) (tCons (tFld K (tVar 0) "gates") tNil)) (tVar 1))) rfl nd (pi_enum (by rfl) B.enum (pa_cons (pe_fld (pv 0) rfl) pa_nil)) (blkOk_by (N := nSpotsOf) (sc := defScope sSpotsOf) (own := [("number", 1), ("gate", 2)]) (by decide +kernel)) (fun _ _ _ _ _ => (pg_tup rfl (pgs_cons (pg_name (i := 1) nd rfl (.inl rfl)) (pgs_cons (pg_name (i := 2) nd rfl (.inl rfl)) pgs_nil)))) (fun _ _ _ _ _ => pts_nil) (fun _ _ _ _ _ => (pe_ifExp (pt_val (pe_call DO.ok (hr.mono (by decide)) (by rfl) DO.mg DO.kp DO.bd .nil pass0 (pa_cons (pv 2) pa_nil))) (pe_callB call_len_seq (by rfl) B.len PySem.boot_len (pa_cons (pe_fld (pv 0) rfl) pa_nil)) (pv 1))))), ?_⟩
    have hgl := N.gl
    obtain ⟨dx, ob⟩ := id NA.ob
    obtain ⟨gv, hgv, ga⟩ := id NA.g
    have hlg : gv.length = gs.length := ga.1
    refine ⟨_, rfl, p, C, dx, _, _, rfl, ob, T.cl, T.nG, nf_gates _ _, ng, _, rfl, SqL.of hgv, fun D hD => ?_⟩
    refine lc_it (walk_enum (K := K) (a := ng) (xs := gv)) (fun i Hc => Hc D = some (.lst (nvs ((List.range i).map (spotF gs)))) ∧ Same H Hc) ⟨by rw [upd_same]; rfl, same_new hD⟩ (fun i Hc _ ⟨_, sm⟩ => SqL.of (sm _ _ hgv)) ?_ ?_
    · rintro i v Hc Hc' hi ⟨hc, sm⟩ ⟨T', x1, y, rfl, hT, rfl, ex, ey⟩
      cases ex
      obtain ⟨g, hg, gvv⟩ := ga.get ey
      have hi' : i < gs.length := (List.getElem?_eq_some_iff.mp hg).1
      have sT := same_new (o := .tup [.int (i : Nat), y]) hT
      have sm2 := sm.trans sT
      have hc2 := sT _ _ hc
      refine ⟨T', _, rfl, .inl (.inl upd_same), rfl, _, _, rfl, _, _, rfl, rfl, rfl, tyes ?_⟩
      generalize upd Hc T' (.tup [.int (i : Nat), y]) = H3 at sT sm2 hc2
      refine ⟨_, rfl, y, g, rfl, gvv.tk (TK.same sm2), fun b hb => ⟨b, rfl, ?_⟩⟩
      have fin : ∀ n : Nat, n = spotF gs i → ∀ z : V, z = .int (n : Nat) → (upd H3 D (.lst (nvs ((List.range i).map (spotF gs)) ++ [z]))) D = some (.lst (nvs ((List.range (i + 1)).map (spotF gs)))) := fun n hn z hz => by
        rw [upd_same, List.range_succ, List.map_append, hz, hn]
        unfold nvs
        rw [List.map_append]
        rfl
      have hll : (nvs ((List.range i).map (spotF gs))).length < sizeLine := by
        rw [nvs_len, List.length_map, List.length_range]
        exact small1000 (by omega)
      have hk := skind_get hg
      cases b with
      | true =>
        refine iteT ⟨_, rfl, p, C, dx, _, _, rfl, sm2 _ _ ob, T.cl, T.nG, nf_gates _ _, ng, gv, rfl, .inl (SqL.of (sm2 _ _ hgv)), _, hc2, hll, fin gv.length ?_ _ rfl, same_mut sm2 hD⟩
        unfold spotF
        rw [if_pos (by rw [hk]; exact hb.mp rfl), hlg]
      | false =>
        refine iteF ⟨_, rfl, _, hc2, hll, fin i ?_ _ rfl, same_mut sm2 hD⟩
        unfold spotF
        rw [if_neg (by rw [hk]; exact fun z => by have := hb.mpr z; cases this)]
    · rintro H2 ⟨hc, sm⟩
      rw [hlg] at hc
      exact q D H2 sm hD hc
abbrev DLagsAt (P : Program) (w : World) (K : PySem.W.Frag) (mg : Str → Option Value) (base : Heap) (C : Addr) := Df P w K mg base 3 "lags_at" ["net", "found"] (spLagsAt K C)
abbrev nLagsAt : List Str := ["net", "found", "spot"]
theorem scLagsAt : FnScope nLagsAt ["net", "found"] (defScope sLagsAt) := ⟨rfl, rfl, rfl, by decide +kernel, rfl, by decide +kernel, by decide +kernel⟩
theorem ok_lagsAt {f fS C : Addr} {fd fdS : FuncData} (F : Fun K "lags_at" "lags_at" sLagsAt f fd) (hm : mg "lags_at" = some (.ref f)) (B : Bt mg) (T : NT K mg C) (DSp : DSpotsOf P w K mg base C fS fdS) : DLagsAt P w K mg base C f fd := by
  refine ⟨?_, hm, F.kp, F.binds fun _ _ _ _ _ _ us hl => match us, hl with | [_, _], _ => rfl⟩
  refine F.ok scLagsAt (fun vs H Q E h => ?_) (fun cdv A outer s H vs Q E hr h => ?_)
  · obtain ⟨p, ng, nw, lf, gs, ws, F, rfl, _⟩ := h
    rfl
  · obtain ⟨p, ng, nw, lf, gs, ws, F, rfl, NA, N, sf, hfl, q⟩ := h
    have nd := scLagsAt.nd
    refine ⟨_, pss_one (ps_ret (pe_lc (own := [("spot", 2)]) (g := (gName 2)) (tt := tYes) (te := (tOp (rI0 fun i j => .int (i - j)) (tOp (rIxL K) (tVar 1) (tVar 2)) (tOp (rIxL K) (tVar 1) (tCB (Evl.rLenS K) (tCons (tFld K (tVar 0) "gates") tNil))))) rfl nd (pi_list (pe_call DSp.ok (hr.mono (by decide)) (by rfl) DSp.mg DSp.kp DSp.bd .nil pass0 (pa_cons (pv 0) pa_nil))) (blkOk_by (N := nLagsAt) (sc := defScope sLagsAt) (own := [("spot", 2)]) (by decide +kernel)) (fun _ _ _ _ _ => (pg_name (i := 2) nd rfl (.inl rfl))) (fun _ _ _ _ _ => pts_nil) (fun _ _ _ _ _ => (pe_op op_sub (pe_ix ix_list (pv 1) (pv 2) (fun _ _ => rfl)) (pe_ix ix_list (pv 1) (pe_callB call_len_seq (by rfl) B.len PySem.boot_len (pa_cons (pe_fld (pv 0) rfl) pa_nil)) (fun _ _ => rfl)))))), ?_⟩
    have hgl := N.gl
    obtain ⟨dx, ob⟩ := id NA.ob
    obtain ⟨gv, hgv, ga⟩ := id NA.g
    have hlg : gv.length = gs.length := ga.1
    refine ⟨_, rfl, p, ng, nw, gs, ws, rfl, NA, N, fun l H1 s1 hl el => ?_⟩
    refine ⟨l, rfl, ⟨_, SqL.of el⟩, fun D hD => ?_⟩
    refine lc_list (K := K) (a := l) (xs := nvs (spotsL gs)) (fun i Hc => Hc D = some (.lst (((List.range i).map (lagsAt gs fun v => F.getD v 0)).map V.int)) ∧ Same H1 Hc) ⟨by rw [upd_same]; rfl, same_new hD⟩ (fun i Hc _ ⟨_, sm⟩ => SqL.of (sm _ _ el)) ?_ ?_
    · rintro i v Hc hv ⟨hc, sm⟩
      have hi : i < gs.length := by
        have := (List.getElem?_eq_some_iff.mp hv).1
        rw [nvs_len] at this
        unfold spotsL at this
        rw [List.length_map, List.length_range] at this
        exact this
      rw [spots_at hi] at hv
      cases hv
      have sm2 := s1.trans sm
      have hsp := spot_le (gs := gs) i hi
      refine ⟨rfl, tyes ?_⟩
      refine ⟨_, rfl, _, rfl, lf, _, _, _, rfl, rfl, sm2.seq sf, atI_nat (sgetD_at (by omega)), ?_⟩
      refine ⟨_, rfl, _, rfl, p, C, dx, _, _, rfl, sm2 _ _ ob, T.cl, T.nG, nf_gates _ _, ng, gv, rfl, .inl (SqL.of (sm2 _ _ hgv)), lf, _, gv.length, _, rfl, rfl, sm2.seq sf, atI_nat (sgetD_at (by omega)), _, _, rfl, rfl, _, hc, ?_, ?_, same_mut sm hD⟩
      · rw [List.length_map, List.length_map, List.length_range]
        exact small1000 (by omega)
      · rw [upd_same, List.range_succ, List.map_append, List.map_append, hlg]
        rfl
    · rintro H2 ⟨hc, sm⟩
      have e : (nvs (spotsL gs)).length = gs.length := by
        rw [nvs_len]
        unfold spotsL
        rw [List.length_map, List.length_range]
      rw [e] at hc
      exact q D H2 (s1.trans sm) (s1.free hD) hc
end
end Lag

set_option maxRecDepth 100000
set_option maxHeartbeats 8000000
namespace Lag
open PySem PySem.Spec PyProof.Rows L2
abbrev sBoundsFor : Stmt := topS 58 -- @bounds_for
/-- a bound with its piece, apart from the list lt -/
def BpV (K : PySem.W.Frag) (Z : Addr → Prop) (H : Hp) (lt : Addr) (v : V) (bp : Bnd × Pce) : Prop := ∃ a pa l, v = .ref a ∧ SqT K H a [.int ((bp.1.1 : Nat) : Int), .int ((bp.1.2.1 : Nat) : Int), .int bp.1.2.2, .ref pa] ∧ SqT K H pa [.int ((bp.2.1 : Nat) : Int), .ref l] ∧ H l = some (.lst (nvs bp.2.2)) ∧ l ≠ lt ∧ ¬ Z l
theorem BpV.same {K : PySem.W.Frag} {Z : Addr → Prop} {H H' : Hp} {lt : Addr} {v : V} {bp : Bnd × Pce} (s : Same H H') (h : BpV K Z H lt v bp) : BpV K Z H' lt v bp := by
  obtain ⟨a, pa, l, e, h1, h2, h3, h4⟩ := h
  exact ⟨a, pa, l, e, (TK.same s).seq h1, (TK.same s).seq h2, s _ _ h3, h4⟩
theorem BpV.weak {K : PySem.W.Frag} {Z Z' : Addr → Prop} {H : Hp} {lt : Addr} {v : V} {bp : Bnd × Pce} (z : ∀ l, Z' l → Z l) (h : BpV K Z H lt v bp) : BpV K Z' H lt v bp := by
  obtain ⟨a, pa, l, e, h1, h2, h3, h4, h5⟩ := h
  exact ⟨a, pa, l, e, h1, h2, h3, h4, fun k => h5 (z l k)⟩
theorem BpV.mut {K : PySem.W.Frag} {Z : Addr → Prop} {H : Hp} {lt : Addr} {xs : List V} {o : HO} {v : V} {bp : Bnd × Pce} (e : H lt = some (.lst xs)) (h : BpV K Z H lt v bp) : BpV K Z (upd H lt o) lt v bp := by
  obtain ⟨a, pa, l, e', h1, h2, h3, h4⟩ := h
  exact ⟨a, pa, l, e', (TK.lst e).seq h1, (TK.lst e).seq h2, (upd_ne h4.1).trans h3, h4⟩
theorem nat_sorted {ns : List Int} {ks : List Nat} (hp : ns.Perm (ks.map fun i => ((i : Nat) : Int))) (hs : ns.Pairwise (· ≤ ·)) : ∃ es : List Nat, ns = es.map (fun i => ((i : Nat) : Int)) ∧ es.Perm ks ∧ es.Pairwise (· ≤ ·) := by
  have hm : ∀ x ∈ ns, ∃ k : Nat, x = (k : Int) := fun x hx => by
    obtain ⟨k, _, rfl⟩ := List.mem_map.mp (hp.mem_iff.mp hx)
    exact ⟨k, rfl⟩
  have e : ns = (ns.map Int.toNat).map fun i => ((i : Nat) : Int) := by
    rw [List.map_map]
    have : ∀ l : List Int, (∀ x ∈ l, ∃ k : Nat, x = (k : Int)) → l = l.map ((fun i => ((i : Nat) : Int)) ∘ Int.toNat) := fun l hl => by
      induction l with
      | nil => rfl
      | cons x l ih =>
        obtain ⟨k, rfl⟩ := hl x (List.mem_cons_self ..)
        rw [List.map_cons, ← ih fun y hy => hl y (List.mem_cons_of_mem _ hy)]
        rfl
    exact this ns hm
  refine ⟨ns.map Int.toNat, e, ?_, ?_⟩
  · have h1 := hp.map Int.toNat
    rw [List.map_map] at h1
    have h2 : ks.map (Int.toNat ∘ fun i => ((i : Nat) : Int)) = ks := by
      have : (Int.toNat ∘ fun i : Nat => ((i : Nat) : Int)) = id := by
        funext i
        exact Int.toNat_natCast i
      rw [this, List.map_id]
    rw [h2] at h1
    exact h1
  · rw [List.pairwise_map]
    refine hs.imp_of_mem fun {a b} ha hb h => ?_
    obtain ⟨i, rfl⟩ := hm a ha
    obtain ⟨j, rfl⟩ := hm b hb
    omega
theorem KnD.list {K : PySem.W.Frag} {H : Hp} {d : Addr} {D : Dst} {kvs : List (Key × V)} {ks : List Nat} (h : KnD K H d D kvs ks) : (kvs.map fun kv => kV kv.1) = ((ks.map fun i => ((i : Nat) : Int)).map V.int) := by
  have e : (kvs.map fun kv => kV kv.1) = (kvs.map fun kv => kv.1).map kV := by rw [List.map_map]; rfl
  rw [e, h.keys, List.map_map, List.map_map]
  rfl
/-- the bounds made so far -/
structure PB (gs : List Gt) (ws : List Wr) (b : Int) (i : Nat) (es : List Nat) (bps : List (Bnd × Pce)) : Prop where
  ok : ∀ bp ∈ bps, ∃ e, bp.2.1 < gs.length ∧ Pw ws bp.2.1 bp.2.2 e ∧ bp.1 = (spotF gs bp.2.1, spotF gs e, roomF gs ws b bp.2) ∧ bp.2.2.length ≤ 1000 ∧ best gs ws bp.2.1 e = some (prg ws bp.2.2, -pwt gs ws bp.2.1 bp.2.2)
  full : ∀ s, s < i → ∀ e c, best gs ws s e = some c → ∃ bp ∈ bps, bp.2.1 = s ∧ Pw ws s bp.2.2 e ∧ c = (prg ws bp.2.2, -pwt gs ws s bp.2.2)
  here : ∀ e ∈ es, ∀ c, best gs ws i e = some c → ∃ bp ∈ bps, bp.2.1 = i ∧ Pw ws i bp.2.2 e ∧ c = (prg ws bp.2.2, -pwt gs ws i bp.2.2)
  len : bps.length ≤ i * gs.length + es.length
  ord : bps.map (fun bp => endsF ws bp.2) = ordI gs ws i ++ es.map fun e => (i, e)
theorem PB.push {gs : List Gt} {ws : List Wr} {b : Int} {i e : Nat} {es ps : List Nat} {bps : List (Bnd × Pce)} {c : Cst} (h : PB gs ws b i es bps) (hi : i < gs.length) (hp : Pw ws i ps e) (hb : best gs ws i e = some c) (hc : c = (prg ws ps, -pwt gs ws i ps)) (hl : ps.length ≤ 1000) :
    PB gs ws b i (es ++ [e]) (bps ++ [((spotF gs i, spotF gs e, roomF gs ws b (i, ps)), (i, ps))]) := by
  refine ⟨fun bp hbp => ?_, fun s hs e' c' hc' => ?_, fun e' he' c' hc' => ?_, ?_, ?_⟩
  · rcases List.mem_append.mp hbp with hbp | hbp
    · exact h.ok bp hbp
    · rw [List.mem_singleton.mp hbp]
      exact ⟨e, hi, hp, rfl, hl, by rw [hb, hc]⟩
  · obtain ⟨bp, h1, h2⟩ := h.full s hs e' c' hc'
    exact ⟨bp, List.mem_append_left _ h1, h2⟩
  · rcases List.mem_append.mp he' with he' | he'
    · obtain ⟨bp, h1, h2⟩ := h.here e' he' c' hc'
      exact ⟨bp, List.mem_append_left _ h1, h2⟩
    · rw [List.mem_singleton.mp he'] at hc' ⊢
      rw [hb] at hc'
      cases hc'
      exact ⟨_, List.mem_append_right _ (List.mem_singleton.mpr rfl), rfl, hp, hc⟩
  · have := h.len
    rw [List.length_append, List.length_append, List.length_singleton, List.length_singleton]
    omega
  · rw [List.map_append, List.map_append, h.ord, List.append_assoc]
    show _ ++ (_ ++ [(i, endW ws i ps)]) = _
    rw [endW_of hp]
    rfl
theorem PB.next {gs : List Gt} {ws : List Wr} {b : Int} {i : Nat} {es : List Nat} {bps : List (Bnd × Pce)} (h : PB gs ws b i es bps) (hes : ∀ e c, best gs ws i e = some c → e ∈ es) (hl : es.length ≤ gs.length) (hee : es = endsB gs ws i) : PB gs ws b (i + 1) [] bps := by
  refine ⟨h.ok, fun s hs e c hc => ?_, fun e he => (nomatch he), ?_, by rw [h.ord, ordI_succ, hee]; exact (List.append_nil _).symm⟩
  · by_cases z : s = i
    · subst z
      exact h.here e (hes e c hc) c hc
    · exact h.full s (by omega) e c hc
  · have := h.len
    rw [Nat.add_mul, Nat.one_mul]
    show _ ≤ _ + _ + 0
    omega
theorem PB.fin {gs : List Gt} {ws : List Wr} {b : Int} {bps : List (Bnd × Pce)} (h : PB gs ws b gs.length [] bps) : BdsOk gs ws b (bps.map fun bp => bp.2) (bps.map fun bp => bp.1) := by
  refine ⟨⟨by rw [List.length_map, List.length_map], fun i pc bd h1 h2 => ?_⟩, fun s hs e c hc => ?_, fun pc hpc => ?_, by rw [List.map_map]; exact h.ord.trans (List.append_nil _)⟩
  · rw [List.getElem?_map] at h1 h2
    cases e : bps[i]? with
    | none => rw [e] at h1; cases h1
    | some bp =>
      rw [e] at h1 h2
      cases h1
      cases h2
      obtain ⟨e', k1, k2, k3, _⟩ := h.ok bp (List.mem_of_getElem? e)
      exact ⟨e', k1, k2, k3⟩
  · obtain ⟨bp, h1, h2⟩ := h.full s hs e c hc
    exact ⟨bp.2, List.mem_map.mpr ⟨bp, h1, rfl⟩, h2⟩
  · obtain ⟨bp, hbp, rfl⟩ := List.mem_map.mp hpc
    obtain ⟨e, k1, k2, _, _, k5⟩ := h.ok bp hbp
    exact ⟨e, k2, k5⟩
theorem PB.pce {gs : List Gt} {ws : List Wr} {b : Int} {i : Nat} {es : List Nat} {bps : List (Bnd × Pce)} (h : PB gs ws b i es bps) : ∀ bp ∈ bps, PceOk gs ws bp.2 ∧ bp.2.2.length ≤ 1000 := fun bp hbp => by
  obtain ⟨e, k1, k2, _, k4, _⟩ := h.ok bp hbp
  exact ⟨⟨k1, e, k2⟩, k4⟩
theorem small11k {n : Nat} (h : n ≤ 11000) : n < sizeLine := Nat.lt_of_le_of_lt h (by decide)
def spBoundsFor (K : PySem.W.Frag) (C : Addr) : Sp := fun vs H Q _ => ∃ (p ng nw : Addr) (gs : List Gt) (ws : List Wr) (b : Int), vs = [.ref p, .int b] ∧ NetAt K C H p ng nw gs ws ∧ NetOk gs ws ∧
  ∀ (lb : Addr) (bv : List V) (bps : List (Bnd × Pce)) (H' : Hp), Same H H' → H lb = none → H' lb = some (.lst bv) → All2 (BpV K (fun l => H l ≠ none) H' lb) bv bps → BdsOk gs ws b (bps.map fun bp => bp.2) (bps.map fun bp => bp.1) → bps.length ≤ 10000 → (∀ bp ∈ bps, PceOk gs ws bp.2 ∧ bp.2.2.length ≤ 1000) → Q (.ref lb) H'
section
variable {P : Program} {w : World} {K : PySem.W.Frag} {mg : Str → Option Value} {base : Heap}
abbrev nBoundsFor : List Str := ["net", "beat", "spots", "told", "start", "known", "last", "end", "piece"]
theorem scBoundsFor : FnScope nBoundsFor ["net", "beat"] (defScope sBoundsFor) := ⟨rfl, rfl, rfl, by decide +kernel, rfl, by decide +kernel, by decide +kernel⟩
abbrev DBoundsFor (P : Program) (w : World) (K : PySem.W.Frag) (mg : Str → Option Value) (base : Heap) (C : Addr) := Df P w K mg base 3 "bounds_for" ["net", "beat"] (spBoundsFor K C)
theorem ok_boundsFor {f fS fB fW fR C : Addr} {fd fdS fdB fdW fdR : FuncData} (F : Fun K "bounds_for" "bounds_for" sBoundsFor f fd) (hm : mg "bounds_for" = some (.ref f)) (B : Bt mg) (mso : mg "sorted" = none) (T : NT K mg C) (DSp : DSpotsOf P w K mg base C fS fdS) (DBF : DBestFrom P w K mg base C fB fdB) (DW : DWayTo P w K mg base C fW fdW) (DRm : DRoomOf P w K mg base C fR fdR) : DBoundsFor P w K mg base C f fd := by
  refine ⟨?_, hm, F.kp, F.binds fun _ _ _ _ _ _ us hl => match us, hl with | [_, _], _ => rfl⟩
  refine F.ok scBoundsFor (fun vs H Q E h => ?_) (fun cdv A outer s H vs Q E hr h => ?_)
  · obtain ⟨p, ng, nw, gs, ws, b, rfl, _⟩ := h
    rfl
  · obtain ⟨p, ng, nw, gs, ws, b, rfl, NA, N, q⟩ := h
    have nd := scBoundsFor.nd
    refine ⟨_, pss_cons (ps_set (i := 2) nd rfl (.inl rfl) (pe_call DSp.ok (hr.mono (by decide)) (by rfl) DSp.mg DSp.kp DSp.bd .nil pass0 (pa_cons (pv 0) pa_nil))) <|
        pss_cons (ps_set (i := 3) nd rfl (.inl rfl) (pe_lst pa_nil)) <|
        pss_cons (ps_for PassesOwn.never rfl (pi_range1 (by rfl) B.range (pa_cons (pe_callB call_len_seq (by rfl) B.len PySem.boot_len (pa_cons (pe_fld (pv 0) rfl) pa_nil)) pa_nil)) (pg_name (i := 4) nd rfl (.inl rfl)) (pss_cons (ps_asg (pe_call DBF.ok (hr.mono (by decide)) (by rfl) DBF.mg DBF.kp DBF.bd .nil pass0 (pa_cons (pv 0) (pa_cons (pv 4) pa_nil))) (pg_tup rfl (pgs_cons (pg_name (i := 5) nd rfl (.inl rfl)) (pgs_cons (pg_name (i := 6) nd rfl (.inl rfl)) pgs_nil)))) <|
        pss_one (ps_for PassesOwn.never rfl (pi_list (pe_callB cr_sortedI (by rfl) mso (by decide +kernel) (pa_cons (pe_callTy (call_list_dK rfl) (by rfl) B.list (by decide +kernel) (pa_cons (pv 5) pa_nil)) pa_nil))) (pg_name (i := 7) nd rfl (.inl rfl)) (pss_cons (ps_set (i := 8) nd rfl (.inl rfl) (pe_call DW.ok (hr.mono (by decide)) (by rfl) DW.mg DW.kp DW.bd .nil pass0 (pa_cons (pv 0) (pa_cons (pv 7) (pa_cons (pv 6) pa_nil))))) <|
        pss_one (ps_expr (pe_bm PySem.F.plainAttrs_list PySem.F.slot_list_append PySem.F.type_list_append mt_append (pv 3) (pa_cons (pe_tup (pa_cons (pe_ix ix_list (pv 2) (pv 4) (fun _ _ => rfl)) (pa_cons (pe_ix ix_list (pv 2) (pv 7) (fun _ _ => rfl)) (pa_cons (pe_call DRm.ok (hr.mono (by decide)) (by rfl) DRm.mg DRm.kp DRm.bd .nil pass0 (pa_cons (pv 0) (pa_cons (pv 1) (pa_cons (pv 8) pa_nil)))) (pa_cons (pv 8) pa_nil))))) pa_nil))))))) <|
        pss_one (ps_ret (pv 3)), ?_⟩
    have hgl := N.gl
    obtain ⟨dx, ob⟩ := id NA.ob
    obtain ⟨gv, hgv, ga⟩ := id NA.g
    have hlg : gv.length = gs.length := ga.1
    refine ⟨_, rfl, p, ng, nw, gs, ws, rfl, NA, N, fun ls H1 s1 hls els => ?_⟩
    refine ⟨(by show 0 ≤ sizeLine; decide), fun lt hlt => ?_⟩
    have t2 := same_new (o := .lst []) hlt
    have e2 : (upd H1 lt (.lst [])) lt = some (.lst []) := upd_same
    have hlt0 : H lt = none := s1.free hlt
    generalize upd H1 lt (.lst []) = H2 at t2 e2
    have s2 := s1.trans t2
    refine gn_norm (σ' := [some (.ref p), some (.int b), some (.ref ls), some (.ref lt), none, none, none, none, none]) rfl ?_
    refine ⟨_, rfl, p, C, dx, _, _, rfl, s2 _ _ ob, T.cl, T.nG, nf_gates _ _, ng, gv, rfl, .inl (SqL.of (s2 _ _ hgv)), _, rfl, by omega, by omega, for_range (lo := 0) (n := ((gv.length : Nat) : Int).toNat) (fun i σ H' => ∃ (u4 u5 u6 u7 u8 : Option V) (bv : List V) (bps : List (Bnd × Pce)), σ = [some (.ref p), some (.int b), some (.ref ls), some (.ref lt), u4, u5, u6, u7, u8] ∧ Same H H' ∧ Same H1 H' ∧ H' lt = some (.lst bv) ∧ All2 (BpV K (fun l => H l ≠ none) H' lt) bv bps ∧ PB gs ws b i [] bps)
      ⟨_, _, _, _, _, [], [], rfl, s2, t2, e2, All2.nil, ⟨fun bp h => (nomatch h), fun s hs => absurd hs (Nat.not_lt_zero _), fun e he => (nomatch he), Nat.zero_le _, rfl⟩⟩ ?_ ?_⟩
    · rintro i σ H3 hi ⟨u4, u5, u6, u7, u8, bv, bps, rfl, sm, sm1, eb, ab, pb⟩
      rw [Int.toNat_natCast, hlg] at hi
      have ei : (0 : Int) + ((i : Nat) : Int) = ((i : Nat) : Int) := Int.zero_add _
      rw [ei]
      refine ⟨_, rfl, _, rfl, p, ng, nw, gs, ws, i, rfl, NA.same sm, N, hi, fun t d lL kvs ks La H4 s4 et kn eL hL0 lok => ?_⟩
      refine ⟨t, _, rfl, .inl (.inl et), rfl, _, _, rfl, _, _, rfl, rfl, ?_⟩
      refine ⟨_, rfl, d, kvs, rfl, kn.at_, fun lk hlk => ?_⟩
      rw [kn.list]
      have t5 := same_new (o := .lst ((ks.map fun i => ((i : Nat) : Int)).map V.int)) hlk
      have e5 : (upd H4 lk (.lst ((ks.map fun i => ((i : Nat) : Int)).map V.int))) lk = some (.lst ((ks.map fun i => ((i : Nat) : Int)).map V.int)) := upd_same
      generalize upd H4 lk (.lst ((ks.map fun i => ((i : Nat) : Int)).map V.int)) = H5 at t5 e5
      refine ⟨lk, _, rfl, SqL.of e5, fun ns lp hperm hsrt hlp => ?_⟩
      obtain ⟨es, rfl, hep, hes⟩ := nat_sorted hperm hsrt
      have t6 := same_new (o := .lst ((es.map fun i => ((i : Nat) : Int)).map V.int)) hlp
      have e6 : (upd H5 lp (.lst ((es.map fun i => ((i : Nat) : Int)).map V.int))) lp = some (.lst ((es.map fun i => ((i : Nat) : Int)).map V.int)) := upd_same
      generalize upd H5 lp (.lst ((es.map fun i => ((i : Nat) : Int)).map V.int)) = H6 at t6 e6
      have s36 := (s4.trans t5).trans t6
      have s46 := t5.trans t6
      have hkl : es.length ≤ gs.length := by
        rw [hep.length_eq]
        exact svNodup_le kn.nd fun v hv => by
          obtain ⟨c, hc⟩ := (kn.mem v).mp hv
          exact best_lt N hi hc
      have npt : lp ≠ lt := fun z => by
        rw [z] at hlp
        rw [((s4.trans t5)) _ _ eb] at hlp
        cases hlp
      have hex : (es.map fun i => ((i : Nat) : Int)).map V.int = nvs es := by rw [List.map_map]; rfl
      rw [hex] at e6
      have hilt : i * gs.length ≤ 10000 := Nat.mul_le_mul (by omega : i ≤ 100) (by omega : gs.length ≤ 100)
      refine ⟨lp, rfl, ⟨_, SqL.of e6⟩, for_list (K := K) (a := lp) (xs := nvs es) (fun j σ H' => ∃ (u7 u8 : Option V) (bv : List V) (bps : List (Bnd × Pce)), σ = [some (.ref p), some (.int b), some (.ref ls), some (.ref lt), some (.int (i : Nat)), some (.ref d), some (.ref lL), u7, u8] ∧ Same H H' ∧ Same H1 H' ∧ But lt H6 H' ∧ H' lt = some (.lst bv) ∧ All2 (BpV K (fun l => H l ≠ none) H' lt) bv bps ∧ PB gs ws b i (es.take j) bps)
        ⟨_, _, bv, bps, rfl, sm.trans s36, sm1.trans s36, But.refl _ _, s36 _ _ eb, ab.imp fun _ _ r => r.same s36, pb⟩ (fun j σ H' _ ⟨_, _, _, _, _, _, _, bt, _⟩ => SqL.of (bt _ _ npt e6)) ?_ ?_⟩
      · rintro j v σ H7 hv ⟨u7, u8, bv, bps, rfl, sm7, sm17, bt, eb7, ab7, pb7⟩
        obtain ⟨e, he, rfl⟩ := nvs_of hv
        obtain ⟨c, hc⟩ := (kn.mem e).mp (hep.mem_iff.mp (List.mem_of_getElem? he))
        obtain ⟨ps, bk, ec, hpl⟩ := lok.2 e c hc
        have heg := best_lt N hi hc
        have hpw := bk.pw
        have eL6 := s46 _ _ eL
        have nLt : lL ≠ lt := (ne_of_none eb hL0).symm
        refine ⟨_, rfl, _, rfl, _, rfl, p, ng, nw, lL, gs, ws, La, e, i, ps, rfl, NA.same sm7, N, bt _ _ nLt eL6, lok.1, heg, bk, by omega, fun t8 lr H8 s8 ht8 hlr et8 er => ?_⟩
        have eb8 := s8 _ _ eb7
        have nrt : lr ≠ lt := (ne_of_none eb7 hlr).symm
        refine gn_norm (σ' := [some (.ref p), some (.int b), some (.ref ls), some (.ref lt), some (.int (i : Nat)), some (.ref d), some (.ref lL), some (.int (e : Nat)), some (.ref t8)]) rfl ?_
        have sm18 := sm17.trans s8
        have els8 := sm18 _ _ els
        refine ⟨_, rfl, .inl ⟨rfl, _, SqL.of eb8⟩, _, rfl, _, rfl, ls, _, i, _, rfl, rfl, SqL.of els8, atI_nat (spots_at hi), _, rfl, _, rfl, ls, _, e, _, rfl, rfl, SqL.of els8, atI_nat (spots_at heg), _, rfl, _, rfl, _, rfl, ?_⟩
        refine ⟨p, ng, nw, gs, ws, b, _, (i, ps.reverse), rfl, (NA.same sm7).same s8, N, ⟨t8, lr, rfl, .inl (.inl et8), SqL.of er⟩, ⟨hi, e, hpw⟩, by rw [List.length_reverse]; omega, fun H9 s9 => ?_⟩
        refine ⟨_, rfl, (by show 4 ≤ sizeLine; decide), fun tb htb => ?_⟩
        have t10 := same_new (o := .tup [.int ((spotF gs i : Nat) : Int), .int ((spotF gs e : Nat) : Int), .int (roomF gs ws b (i, ps.reverse)), .ref t8]) htb
        have e10 : (upd H9 tb (.tup [.int ((spotF gs i : Nat) : Int), .int ((spotF gs e : Nat) : Int), .int (roomF gs ws b (i, ps.reverse)), .ref t8])) tb = some (.tup [.int ((spotF gs i : Nat) : Int), .int ((spotF gs e : Nat) : Int), .int (roomF gs ws b (i, ps.reverse)), .ref t8]) := upd_same
        generalize upd H9 tb (.tup [.int ((spotF gs i : Nat) : Int), .int ((spotF gs e : Nat) : Int), .int (roomF gs ws b (i, ps.reverse)), .ref t8]) = H10 at t10 e10
        have s710 := (s8.trans s9).trans t10
        have s810 := s9.trans t10
        have eb10 := s710 _ _ eb7
        have pbl := pb7.len
        have hbl : bv.length = bps.length := ab7.1
        have htk : (es.take j).length ≤ gs.length := by
          rw [List.length_take]
          omega
        refine ⟨lt, bv, _, rfl, rfl, eb10, small11k (by omega), ?_⟩
        have ab10 : All2 (BpV K (fun l => H l ≠ none) H10 lt) bv bps := ab7.imp fun _ _ r => r.same s710
        refine ⟨_, _, bv ++ [.ref tb], bps ++ [((spotF gs i, spotF gs e, roomF gs ws b (i, ps.reverse)), (i, ps.reverse))], rfl, same_mut (sm7.trans s710) hlt0, same_mut (sm17.trans s710) hlt, ?_, upd_same, ?_, ?_⟩
        · intro a o na ea
          rw [upd_ne na]
          exact s710 _ _ (bt _ _ na ea)
        · refine (ab10.imp fun _ _ r => r.mut eb10).snoc ⟨tb, t8, lr, rfl, (TK.lst eb10).seq (.inl (.inl e10)), (TK.lst eb10).seq ((TK.same s810).seq (.inl (.inl et8))), (upd_ne nrt).trans (s810 _ _ er), nrt, fun z => z (sm7.free hlr)⟩
        · have et : es.take (j + 1) = es.take j ++ [e] := by rw [List.take_add_one, he]; rfl
          rw [et]
          exact pb7.push hi hpw hc ec (by rw [List.length_reverse]; omega)
      · rintro σ H7 ⟨u7, u8, bv, bps, rfl, sm7, sm17, bt, eb7, ab7, pb7⟩
        rw [nvs_len, List.take_length] at pb7
        exact ⟨_, _, _, _, _, bv, bps, rfl, sm7, sm17, eb7, ab7, pb7.next (fun e c hc => hep.mem_iff.mpr ((kn.mem e).mpr ⟨c, hc⟩)) hkl (ends_uniq N hi hep kn.nd kn.mem hes)⟩
    · rintro σ H3 ⟨u4, u5, u6, u7, u8, bv, bps, rfl, sm, sm1, eb, ab, pb⟩
      rw [Int.toNat_natCast, hlg] at pb
      refine ⟨_, rfl, q lt bv bps H3 sm hlt0 eb ab pb.fin ?_ pb.pce⟩
      have h1 := pb.len
      have h2 : gs.length * gs.length ≤ 10000 := Nat.mul_le_mul hgl hgl
      have h3 : ([] : List Nat).length = 0 := rfl
      omega
end
end Lag

set_option maxRecDepth 100000
set_option maxHeartbeats 8000000
namespace Lag
open PySem PySem.Spec PyProof.Rows L2
abbrev sRingFrom : Stmt := topS 19 -- @ring_from
abbrev sSettle : Stmt := topS 20 -- @settle
def BndV (K : PySem.W.Frag) (H : Hp) (v : V) (bd : Bnd) : Prop := ∃ a th, v = .ref a ∧ SqT K H a [.int ((bd.1 : Nat) : Int), .int ((bd.2.1 : Nat) : Int), .int bd.2.2, th]
theorem BndV.tk {K : PySem.W.Frag} {H H' : Hp} {v : V} {bd : Bnd} (t : TK H H') (h : BndV K H v bd) : BndV K H' v bd := by
  obtain ⟨a, th, e, s⟩ := h
  exact ⟨a, th, e, t.seq s⟩
/-- what of each place is come by next -/
structure OnD (K : PySem.W.Frag) (H : Hp) (d : Addr) (kvs : List (Key × V)) (bv : List V) (bs : List Bnd) (O : Nat → Option Nat) (n : Nat) : Prop where
  at_ : H d = some (.dK kvs)
  keys : ∃ ks : List Nat, kvs.map (fun kv => kv.1) = ks.map (fun g => Sum.inl ((g : Nat) : Int)) ∧ ks.Nodup ∧ ∀ g ∈ ks, g < n
  on : ∀ v j, O v = some j → ∃ t z b, valV kvs (Sum.inl ((v : Nat) : Int)) = some (.ref t) ∧ SqT K H t [z, .int ((b.2.1 : Nat) : Int)] ∧ bv[j]? = some z ∧ bs[j]? = some b ∧ b.1 = v
theorem OnD.tk {K : PySem.W.Frag} {H H' : Hp} {d : Addr} {kvs : List (Key × V)} {bv : List V} {bs : List Bnd} {O : Nat → Option Nat} {n : Nat} (h : OnD K H d kvs bv bs O n) (t : TK H H') (e : H' d = some (.dK kvs)) : OnD K H' d kvs bv bs O n :=
  ⟨e, h.keys, fun v j hv => by
    obtain ⟨t', z, b, h1, h2, h3⟩ := h.on v j hv
    exact ⟨t', z, b, h1, t.seq h2, h3⟩⟩
theorem OnD.same {K : PySem.W.Frag} {H H' : Hp} {d : Addr} {kvs : List (Key × V)} {bv : List V} {bs : List Bnd} {O : Nat → Option Nat} {n : Nat} (h : OnD K H d kvs bv bs O n) (s : Same H H') : OnD K H' d kvs bv bs O n := h.tk (TK.same s) (s _ _ h.at_)
theorem OnD.len {K : PySem.W.Frag} {H : Hp} {d : Addr} {kvs : List (Key × V)} {bv : List V} {bs : List Bnd} {O : Nat → Option Nat} {n : Nat} (h : OnD K H d kvs bv bs O n) : kvs.length ≤ n := by
  obtain ⟨ks, h1, h2, h3⟩ := h.keys
  have := congrArg List.length h1
  rw [List.length_map, List.length_map] at this
  rw [this]
  exact svNodup_le h2 h3
theorem OnD.put {K : PySem.W.Frag} {H : Hp} {d t a : Addr} {kvs : List (Key × V)} {bv : List V} {bs : List Bnd} {O : Nat → Option Nat} {n j : Nat} {b : Bnd} (h : OnD K H d kvs bv bs O n) (ht : H t = some (.tup [.ref a, .int ((b.2.1 : Nat) : Int)])) (hz : bv[j]? = some (.ref a)) (hb : bs[j]? = some b) (hn : b.1 < n) :
    OnD K (upd H d (.dK (putK kvs (Sum.inl ((b.1 : Nat) : Int)) (.ref t)))) d (putK kvs (Sum.inl ((b.1 : Nat) : Int)) (.ref t)) bv bs (updO O b.1 j) n := by
  have inj : ∀ {i j : Nat}, (Sum.inl ((i : Nat) : Int) : Key) = Sum.inl ((j : Nat) : Int) → i = j := fun {i j} z => by
    have := Sum.inl.inj z
    omega
  have tk : TK H (upd H d (.dK (putK kvs (Sum.inl ((b.1 : Nat) : Int)) (.ref t)))) := fun c o to eb => by
    rw [upd_ne (fun z => by
      rw [z, h.at_] at eb
      cases eb
      exact to)]
    exact eb
  refine ⟨upd_same, ?_, fun v i hv => ?_⟩
  · obtain ⟨ks, h1, h2, h3⟩ := h.keys
    have hk : (Sum.inl ((b.1 : Nat) : Int) : Key) ∈ kvs.map (fun kv => kv.1) ↔ b.1 ∈ ks := by
      rw [h1]
      constructor
      · intro z
        obtain ⟨g, hg, e'⟩ := List.mem_map.mp z
        rw [← inj e']
        exact hg
      · intro z
        exact List.mem_map.mpr ⟨b.1, z, rfl⟩
    by_cases he : b.1 ∈ ks
    · exact ⟨ks, by rw [putK_old (hk.mpr he)]; exact h1, h2, h3⟩
    · refine ⟨ks ++ [b.1], by rw [putK_fresh fun z => he (hk.mp z), h1, List.map_append]; rfl, ?_, fun g hg => ?_⟩
      · rw [List.nodup_append]
        refine ⟨h2, by simp, fun x hx y hy z => ?_⟩
        rw [List.mem_singleton.mp hy] at z
        exact he (z ▸ hx)
      · rcases List.mem_append.mp hg with hg | hg
        · exact h3 g hg
        · rw [List.mem_singleton.mp hg]
          exact hn
  · unfold updO at hv
    rw [valV_put]
    by_cases z : v = b.1
    · rw [if_pos z] at hv
      cases hv
      rw [if_pos (by rw [z])]
      exact ⟨t, _, b, rfl, tk.seq (.inl (.inl ht)), hz, hb, z.symm⟩
    · rw [if_neg z] at hv
      rw [if_neg fun y => z (inj y)]
      obtain ⟨t', z', b', k1, k2, k3⟩ := h.on v i hv
      exact ⟨t', z', b', k1, tk.seq k2, k3⟩
/-- what was seen, with its place -/
def SvSeen (H : Hp) (D : Addr) (es : List Nat) : Prop := ∃ kvs : List (Key × V), H D = some (.dK kvs) ∧ kvs.length ≤ es.length ∧ ∀ g : Nat, valV kvs (Sum.inl (g : Int)) = if g ∈ es then some (.int ((es.idxOf g : Nat) : Int)) else none
theorem SvSeen.get {H : Hp} {D : Addr} {es : List Nat} (h : SvSeen H D es) (g : Nat) : DGet H D (.int (g : Nat)) (if g ∈ es then some (.int ((es.idxOf g : Nat) : Int)) else none) := by
  obtain ⟨kvs, e, _, hv⟩ := h
  have := DGet.k (k := Sum.inl (g : Int)) e
  rw [hv g] at this
  exact this
theorem SvSeen.put {H : Hp} {D : Addr} {es : List Nat} (h : SvSeen H D es) (hm : es.length < sizeLine) {c : Nat} (hc : c ∉ es) : ∃ o, DPut H D (.int (c : Nat)) (.int ((es.length : Nat) : Int)) (upd H D o) ∧ SvSeen (upd H D o) D (es ++ [c]) := by
  obtain ⟨kvs, e, hl, hv⟩ := h
  refine ⟨.dK (putK kvs (Sum.inl (c : Int)) (.int ((es.length : Nat) : Int))), DPut.k (k := Sum.inl (c : Int)) e (by omega), _, upd_same, by have := length_putK kvs (Sum.inl (c : Int)) (.int ((es.length : Nat) : Int)); rw [List.length_append]; show _ ≤ es.length + 1; omega, fun j => ?_⟩
  rw [valV_put]
  by_cases hj : j = c
  · subst hj
    rw [if_pos rfl, if_pos (by simp), List.idxOf_append, if_neg hc]
    simp
  · rw [if_neg (fun z => hj (by have := Sum.inl.inj z; omega)), hv j]
    by_cases hm : j ∈ es
    · rw [if_pos hm, if_pos (List.mem_append_left _ hm), List.idxOf_append, if_pos hm]
    · rw [if_neg hm, if_neg (fun z => by
        rcases List.mem_append.mp z with z | z
        · exact hm z
        · exact hj (List.mem_singleton.mp z))]
theorem ring_starts {bs : List Bnd} {O : Nat → Option Nat} {es js : List Nat} {cur : Nat} (hl : es.length = js.length) (h : ∀ i v, es[i]? = some v → PtO bs O v (js.drop i) cur) : js.map (fun j => (bAt bs j).1) = es := by
  refine List.ext_getElem? fun i => ?_
  rw [List.getElem?_map]
  by_cases hi : i < js.length
  · have he : i < es.length := by omega
    have := h i es[i] (List.getElem?_eq_getElem he)
    rw [List.drop_eq_getElem_cons hi] at this
    obtain ⟨_, b, h1, h2, _⟩ := this
    rw [List.getElem?_eq_getElem hi, List.getElem?_eq_getElem he]
    show some (bAt bs js[i]).1 = _
    rw [bAt_get h1, h2]
  · rw [List.getElem?_eq_none (by omega), List.getElem?_eq_none (by omega)]
    rfl
def ringVs (bv : List V) (js : List Nat) : List V := js.map fun j => bv.getD j .non
abbrev StT := List Int × (Nat → Option Nat) × Option Nat
def stpB (bs : List Bnd) (st : StT) (j : Nat) : StT := if st.1.getD (bAt bs j).2.1 0 + (bAt bs j).2.2 < st.1.getD (bAt bs j).1 0 then (st.1.set (bAt bs j).1 (st.1.getD (bAt bs j).2.1 0 + (bAt bs j).2.2), updO st.2.1 (bAt bs j).1 j, some (bAt bs j).1) else st
def innB (bs : List Bnd) (st : StT) : Nat → StT
  | 0 => (st.1, st.2.1, none)
  | j + 1 => stpB bs (innB bs st j) j
def outB (bs : List Bnd) (n : Nat) : Nat → StT
  | 0 => (List.replicate n 0, (fun _ => none), none)
  | i + 1 => innB bs (outB bs n i) bs.length
def RingX (n : Nat) (bs : List Bnd) (js : List Nat) : Prop := ∃ s v pre, (outB bs n n).2.2 = some s ∧ PtO bs (outB bs n n).2.1 s pre v ∧ PtO bs (outB bs n n).2.1 v js v ∧ ((pre ++ js).map fun j => (bAt bs j).1).Nodup ∧ js ≠ []
theorem PtO.take {bs : List Bnd} {O : Nat → Option Nat} : ∀ {xs ys : List Nat} {s e f : Nat}, PtO bs O s xs e → PtO bs O s ys f → xs.length ≤ ys.length → ∃ zs, ys = xs ++ zs ∧ PtO bs O e zs f
  | [], ys, s, e, f, h, h', _ => by
    have h : s = e := h
    exact ⟨ys, rfl, h ▸ h'⟩
  | j :: r, [], _, _, _, _, _, hl => absurd hl (by simp)
  | j :: r, k :: t, s, e, f, ⟨h0, b, h1, h2, h3⟩, ⟨g0, c, g1, g2, g3⟩, hl => by
    rw [h0] at g0
    cases g0
    rw [h1] at g1
    cases g1
    obtain ⟨zs, e1, e2⟩ := PtO.take h3 g3 (Nat.le_of_succ_le_succ hl)
    exact ⟨zs, by rw [e1]; rfl, e2⟩
theorem PtO.head {bs : List Bnd} {O : Nat → Option Nat} {s e j : Nat} {r : List Nat} (h : PtO bs O s (j :: r) e) : (bAt bs j).1 = s := by
  obtain ⟨_, b, h1, h2, _⟩ := h
  rw [bAt_get h1]
  exact h2
theorem ring_le {bs : List Bnd} {O : Nat → Option Nat} {s v v' : Nat} {pre js pre' js' : List Nat} (h1 : PtO bs O s pre v) (h2 : PtO bs O v js v) (hj : js ≠ []) (g1 : PtO bs O s pre' v') (g2 : PtO bs O v' js' v') (nd : ((pre' ++ js').map fun j => (bAt bs j).1).Nodup) : (pre' ++ js').length ≤ (pre ++ js).length := by
  by_cases z : (pre ++ js).length < (pre' ++ js').length
  · obtain ⟨zs, e1, e2⟩ := (h1.app h2).take (g1.app g2) (by omega)
    have hz : zs ≠ [] := fun q => by
      rw [e1, q, List.append_nil] at z
      exact absurd z (Nat.lt_irrefl _)
    obtain ⟨j0, r, rfl⟩ := List.exists_cons_of_ne_nil hj
    obtain ⟨z0, t, rfl⟩ := List.exists_cons_of_ne_nil hz
    rw [e1, List.map_append] at nd
    have := (List.nodup_append.mp nd).2.2 ((bAt bs j0).1) (List.mem_map.mpr ⟨j0, List.mem_append.mpr (.inr (List.mem_cons_self ..)), rfl⟩) ((bAt bs z0).1) (List.mem_map.mpr ⟨z0, List.mem_cons_self .., rfl⟩)
    rw [h2.head, e2.head] at this
    exact absurd rfl this
  · omega
theorem RingX.uniq {n : Nat} {bs : List Bnd} {js js' : List Nat} (h : RingX n bs js) (h' : RingX n bs js') : js = js' := by
  obtain ⟨s, v, pre, e0, h1, h2, nd, hj⟩ := h
  obtain ⟨s', v', pre', e0', g1, g2, nd', hj'⟩ := h'
  rw [e0] at e0'
  cases e0'
  have l1 := ring_le h1 h2 hj g1 g2 nd'
  have l2 := ring_le g1 g2 hj' h1 h2 nd
  obtain ⟨zs, e1, e2⟩ := (h1.app h2).take (g1.app g2) l2
  have hz : zs = [] := List.eq_nil_of_length_eq_zero (by
    have := congrArg List.length e1
    rw [List.length_append (as := pre ++ js)] at this
    omega)
  rw [hz] at e1 e2
  have ev : v = v' := e2
  subst ev
  rw [List.append_nil] at e1
  -- where the ring begins
  have at_ : ∀ {p q : List Nat}, q ≠ [] → PtO bs (outB bs n n).2.1 v q v → ((p ++ q).map fun j => (bAt bs j).1)[p.length]? = some v := fun {p q} hq hp => by
    obtain ⟨j0, r, rfl⟩ := List.exists_cons_of_ne_nil hq
    rw [List.getElem?_map, List.getElem?_append_right (Nat.le_refl _), Nat.sub_self]
    show some (bAt bs j0).1 = _
    rw [hp.head]
  have a1 := at_ (p := pre) hj h2
  have a2 := at_ (p := pre') hj' g2
  rw [e1] at a2
  have hl : pre.length = pre'.length := by
    have b1 := (List.getElem?_eq_some_iff.mp a1).1
    exact (List.getElem?_inj b1 nd).mp (a1.trans a2.symm)
  exact (List.append_inj e1.symm hl).2
theorem inn_none {bs : List Bnd} {st : StT} : ∀ {j : Nat}, (innB bs st j).2.2 = none → innB bs st j = (st.1, st.2.1, none) ∧ ∀ k, k < j → ¬ (st.1.getD (bAt bs k).2.1 0 + (bAt bs k).2.2 < st.1.getD (bAt bs k).1 0)
  | 0, _ => ⟨rfl, fun k hk => absurd hk (Nat.not_lt_zero _)⟩
  | j + 1, h => by
    have e : innB bs st (j + 1) = stpB bs (innB bs st j) j := rfl
    rw [e] at h ⊢
    unfold stpB at h ⊢
    split at h
    · cases h
    · rename_i hc
      rw [if_neg hc]
      obtain ⟨h1, h2⟩ := inn_none h
      rw [h1] at hc
      refine ⟨h1, fun k hk => ?_⟩
      by_cases z : k = j
      · rw [z]
        exact hc
      · exact h2 k (by omega)
theorem inn_all {bs : List Bnd} {st : StT} : ∀ {j : Nat}, (∀ k, k < j → ¬ (st.1.getD (bAt bs k).2.1 0 + (bAt bs k).2.2 < st.1.getD (bAt bs k).1 0)) → innB bs st j = (st.1, st.2.1, none)
  | 0, _ => rfl
  | j + 1, h => by
    have e : innB bs st (j + 1) = stpB bs (innB bs st j) j := rfl
    rw [e, inn_all fun k hk => h k (by omega)]
    unfold stpB
    exact if_neg (h j (Nat.lt_succ_self j))
/-- the numbers that settle tells -/
def SetN (n : Nat) (bs : List Bnd) (F : List Int) : Prop := ∃ i, (outB bs n (i + 1)).2.2 = none ∧ (outB bs n (i + 1)).1 = F
theorem out_stay {n i : Nat} {bs : List Bnd} (h : (outB bs n (i + 1)).2.2 = none) : ∀ k, (outB bs n (i + 1 + k)).2.2 = none ∧ (outB bs n (i + 1 + k)).1 = (outB bs n (i + 1)).1
  | 0 => ⟨h, rfl⟩
  | k + 1 => by
    obtain ⟨h1, h2⟩ := out_stay h k
    have h3 : (innB bs (outB bs n (i + k)) bs.length).2.2 = none := by
      have : i + 1 + k = (i + k) + 1 := by omega
      rw [this] at h1
      exact h1
    obtain ⟨h4, h5⟩ := inn_none h3
    have h6 : (outB bs n (i + 1 + k)) = ((outB bs n (i + k)).1, (outB bs n (i + k)).2.1, none) := by
      have : i + 1 + k = (i + k) + 1 := by omega
      rw [this]
      exact h4
    have h7 : outB bs n (i + 1 + (k + 1)) = innB bs (outB bs n (i + 1 + k)) bs.length := rfl
    have h8 := inn_all (bs := bs) (st := outB bs n (i + 1 + k)) (j := bs.length) (by rw [h6]; exact h5)
    rw [h7, h8]
    exact ⟨rfl, h2⟩
theorem SetN.uniq {n : Nat} {bs : List Bnd} {F G : List Int} (h : SetN n bs F) (g : SetN n bs G) : F = G := by
  obtain ⟨i, h1, h2⟩ := h
  obtain ⟨j, g1, g2⟩ := g
  rw [← h2, ← g2]
  by_cases hij : i ≤ j
  · have := (out_stay h1 (j - i)).2
    rw [show i + 1 + (j - i) = j + 1 by omega] at this
    exact this.symm
  · have := (out_stay g1 (i - j)).2
    rw [show j + 1 + (i - j) = i + 1 by omega] at this
    exact this
theorem ring_pre {bs : List Bnd} {O : Nat → Option Nat} {es js : List Nat} {e0 cur i v : Nat} (h : PtO bs O e0 js cur) (hs : js.map (fun j => (bAt bs j).1) = es) (hi : es[i]? = some v) : PtO bs O e0 (js.take i) v := by
  rw [← List.take_append_drop i js] at h
  obtain ⟨m, h1, h2⟩ := h.split
  rw [← hs, List.getElem?_map] at hi
  cases e : js[i]? with
  | none => rw [e] at hi; cases hi
  | some j =>
    rw [e] at hi
    have hi : (bAt bs j).1 = v := Option.some.inj hi
    have hil := (List.getElem?_eq_some_iff.mp e).1
    rw [List.drop_eq_getElem_cons hil] at h2
    have := h2.head
    rw [(List.getElem?_eq_some_iff.mp e).2, hi] at this
    rw [this]
    exact h1
def spRingF (K : PySem.W.Frag) : Sp := fun vs H Q _ => ∃ (e0 n : Nat) (d : Addr) (kvs : List (Key × V)) (bv : List V) (bs : List Bnd) (O : Nat → Option Nat), vs = [.int (e0 : Nat), .ref d] ∧ OnD K H d kvs bv bs O n ∧ n ≤ 1000 ∧ e0 < n ∧ (∀ b ∈ bs, b.2.1 < n) ∧ (∀ js v, PtO bs O e0 js v → js.length < n → O v ≠ none) ∧
  ∀ (pre js : List Nat) (l : Addr) (H' : Hp), js ≠ [] → js.length ≤ n → (∃ v, PtO bs O e0 pre v ∧ PtO bs O v js v) → ((pre ++ js).map fun j => (bAt bs j).1).Nodup → Same H H' → H l = none → H' l = some (.lst (ringVs bv js)) → Q (.ref l) H'
def SvTold (K : PySem.W.Frag) (H : Hp) (bv : List V) (bs : List Bnd) (n : Nat) (t : Addr) (H' : Hp) : Prop :=
  (∃ (lf : Addr) (F : List Int), H' t = some (.tup [.ref lf, .non]) ∧ H lf = none ∧ H' lf = some (.lst (F.map V.int)) ∧ F.length = n ∧ Sat bs (fun v => F.getD v 0) ∧ (∀ v, F.getD v 0 ≤ 0) ∧ (∀ R : Int, 0 ≤ R → (∀ b ∈ bs, -R ≤ b.2.2) → ∀ v, v < n → -((n : Int) * R) ≤ F.getD v 0) ∧ SetN n bs F) ∨
  ∃ (lr : Addr) (js : List Nat), H' t = some (.tup [.non, .ref lr]) ∧ H lr = none ∧ H' lr = some (.lst (ringVs bv js)) ∧ js.length ≤ n ∧ RingB bs js ∧ (js.map fun j => (bAt bs j).1).Nodup ∧ RingX n bs js
def spSettle (K : PySem.W.Frag) : Sp := fun vs H Q _ => ∃ (n : Nat) (lb : Addr) (bv : List V) (bs : List Bnd), vs = [.int (n : Nat), .ref lb] ∧ 1 ≤ n ∧ n ≤ 1000 ∧ H lb = some (.lst bv) ∧ All2 (BndV K H) bv bs ∧ (∀ b ∈ bs, b.1 < n ∧ b.2.1 < n) ∧
  ∀ (t : Addr) (H' : Hp), Same H H' → H t = none → SvTold K H bv bs n t H' → Q (.ref t) H'
section
variable {P : Program} {w : World} {K : PySem.W.Frag} {mg : Str → Option Value} {base : Heap}
abbrev nRingFrom : List Str := ["place", "onward", "seen", "path", "passed"]
theorem scRingFrom : FnScope nRingFrom ["place", "onward"] (defScope sRingFrom) := ⟨rfl, rfl, rfl, by decide +kernel, rfl, by decide +kernel, by decide +kernel⟩
abbrev DRingF (P : Program) (w : World) (K : PySem.W.Frag) (mg : Str → Option Value) (base : Heap) := Df P w K mg base 1 "ring_from" ["place", "onward"] (spRingF K)
theorem ok_ringF {f : Addr} {fd : FuncData} (F : Fun K "ring_from" "ring_from" sRingFrom f fd) (hm : mg "ring_from" = some (.ref f)) (B : Bt mg) : DRingF P w K mg base f fd := by
  refine ⟨?_, hm, F.kp, F.binds fun _ _ _ _ _ _ us hl => match us, hl with | [_, _], _ => rfl⟩
  refine F.ok scRingFrom (fun vs H Q E h => ?_) (fun cdv A outer s H vs Q E hr h => ?_)
  · obtain ⟨e0, n, d, kvs, bv, bs, O, rfl, _⟩ := h
    rfl
  · obtain ⟨e0, n, d, kvs, bv, bs, O, rfl, od, hn, he0, hbn, hmore, q⟩ := h
    have nd := scRingFrom.nd
    refine ⟨_, pss_cons (ps_set (i := 2) nd rfl (.inl rfl) pe_dnewK) <|
        pss_cons (ps_set (i := 3) nd rfl (.inl rfl) (pe_lst pa_nil)) <|
        pss_cons (ps_while PassesOwn.never (pt_cmp (pc_dnotin (hu_of hr) (pv 0) (pv 2))) (pss_cons (ps_dput (hu_of hr) (pv 2) (pv 0) (pe_callB call_len_seq (by rfl) B.len PySem.boot_len (pa_cons (pv 3) pa_nil)) rfl) <|
        pss_cons (ps_asg (pe_dget (hu_of hr) (pv 1) (pv 0) (fun _ _ => rfl)) (pg_tup rfl (pgs_cons (pg_name (i := 4) nd rfl (.inl rfl)) (pgs_cons (pg_name (i := 0) nd rfl (.inl rfl)) pgs_nil)))) <|
        pss_one (ps_expr (pe_bm PySem.F.plainAttrs_list PySem.F.slot_list_append PySem.F.type_list_append mt_append (pv 3) (pa_cons (pv 4) pa_nil))))) <|
        pss_one (ps_ret (pe_slice sl_list (pv 3) (po_some (pe_dget (hu_of hr) (pv 2) (pv 0) (fun _ _ => rfl))) po_none)), ?_⟩
    intro ls hls
    have s1 : Same H (upd H ls (.dK [])) := same_new hls
    refine ⟨(by show 0 ≤ sizeLine; decide), fun lp hlp => ?_⟩
    have hlp0 : H lp = none := s1.free hlp
    have nsp : ls ≠ lp := ne_of_none (upd_same (H := H) (a := ls) (o := .dK [])) hlp
    refine ⟨fun m σ H6 => ∃ (es js : List Nat) (cur : Nat) (s4 : Option V), σ = [some (.int (cur : Nat)), some (.ref d), some (.ref ls), some (.ref lp), s4] ∧ es.Nodup ∧ (∀ e ∈ es, e < n) ∧ cur < n ∧ es.length = js.length ∧ PtO bs O e0 js cur ∧ (∀ i v, es[i]? = some v → PtO bs O v (js.drop i) cur) ∧ SvSeen H6 ls es ∧ H6 lp = some (.lst (ringVs bv js)) ∧ Same H H6 ∧ m = n - es.length, ?_, ?_⟩
    · refine ⟨_, [], [], e0, none, rfl, List.nodup_nil, (fun e h => nomatch h), he0, rfl, rfl, (fun i v h => by simp at h), ⟨[], ?_, Nat.le_refl _, fun g => by rw [if_neg (by simp)]; exact valV_nil⟩, upd_same, s1.trans (same_new hlp), rfl⟩
      rw [upd_ne nsp]
      exact upd_same
    · rintro m σ H6 ⟨es, js, cur, s4, rfl, hnd, hes, hcur, hlen, hpt, hdr, sd, hp6, sm, rfl⟩
      refine ⟨_, rfl, _, rfl, ls, _, rfl, sd.get cur, ?_⟩
      by_cases hc : cur ∈ es
      · rw [if_pos hc]
        refine ⟨_, rfl, iteF ?_⟩
        have hg := sd.get cur
        rw [if_pos hc] at hg
        refine ⟨_, rfl, _, rfl, _, rfl, ls, _, rfl, hg, _, rfl, lp, _, rfl, SqL.of hp6, fun p hp => ?_⟩
        have h5 : es.idxOf cur < es.length := List.idxOf_lt_length_iff.mpr hc
        have hj : es[es.idxOf cur]? = some cur := by
          rw [List.getElem?_eq_getElem h5, List.getElem_idxOf h5]
        refine q (js.take (es.idxOf cur)) (js.drop (es.idxOf cur)) p _ (fun z => ?_) (by have := svNodup_le hnd hes; rw [List.length_drop]; omega) ⟨cur, ring_pre hpt (ring_starts hlen hdr) hj, hdr _ _ hj⟩ (by rw [List.take_append_drop, ring_starts hlen hdr]; exact hnd) (sm.trans (same_new hp)) (sm.free hp) ?_
        · have := congrArg List.length z
          rw [List.length_drop] at this
          simp at this
          omega
        · rw [upd_same, cut_from]
          unfold ringVs
          rw [List.map_drop]
      · rw [if_neg hc]
        refine ⟨_, rfl, iteT ?_⟩
        have hlt : es.length < n := by
          have h2 := svNodup_le (n := n) (l := es ++ [cur]) (by
            rw [List.nodup_append]
            refine ⟨hnd, by simp, fun a ha c hc2 => ?_⟩
            rw [List.mem_singleton.mp hc2]
            intro z
            exact hc (by rw [← z]; exact ha)) (fun a ha => by
            rcases List.mem_append.mp ha with ha | ha
            · exact hes a ha
            · rw [List.mem_singleton.mp ha]
              exact hcur)
          rw [List.length_append, List.length_singleton] at h2
          omega
        have hpl : (ringVs bv js).length = es.length := by
          unfold ringVs
          rw [List.length_map, hlen]
        obtain ⟨o, dp, sd2⟩ := sd.put (small1000 (by omega)) hc
        refine ⟨fun σ H7 => ∃ (es' js' : List Nat) (cur' : Nat) (s4 : Option V), σ = [some (.int (cur' : Nat)), some (.ref d), some (.ref ls), some (.ref lp), s4] ∧ es'.Nodup ∧ (∀ e ∈ es', e < n) ∧ cur' < n ∧ es'.length = js'.length ∧ PtO bs O e0 js' cur' ∧ (∀ i v, es'[i]? = some v → PtO bs O v (js'.drop i) cur') ∧ SvSeen H7 ls es' ∧ H7 lp = some (.lst (ringVs bv js')) ∧ Same H H7 ∧ es'.length = es.length + 1, ?_, ?_⟩
        · rintro σ' H' ⟨es', js', cur', t4, rfl, h1, h2, h3, h4, h5, h6, h7, h8, h9, h10⟩
          exact ⟨n - (es.length + 1), by omega, es', js', cur', t4, rfl, h1, h2, h3, h4, h5, h6, h7, h8, h9, by rw [h10]⟩
        refine ⟨_, rfl, lp, _, rfl, .inl (SqL.of hp6), _, rfl, _, rfl, ls, _, rfl, (by rw [hpl]; exact dp), ?_⟩
        have sm7 : Same H (upd H6 ls o) := same_mut sm hls
        have od7 := od.same sm7
        cases ho : O cur with
        | none => exact absurd ho (hmore js cur hpt (by omega))
        | some j =>
        obtain ⟨t, z, b, hv, sq, hz, hb, hb1⟩ := od7.on cur j ho
        have hg : DGet (upd H6 ls o) d (.int (cur : Nat)) (some (.ref t)) := by
          have := DGet.k (k := Sum.inl ((cur : Nat) : Int)) od7.at_
          rw [hv] at this
          exact this
        have hp7 : (upd H6 ls o) lp = some (.lst (ringVs bv js)) := by
          rw [upd_ne nsp.symm]
          exact hp6
        generalize upd H6 ls o = H7 at sm7 od7 hg sq hp7 sd2
        refine ⟨_, rfl, _, rfl, d, _, rfl, hg, t, _, rfl, sq, rfl, _, _, rfl, _, _, rfl, rfl, ?_⟩
        have sd3 : SvSeen (upd H7 lp (.lst (ringVs bv js ++ [z]))) ls (es ++ [cur]) := by
          obtain ⟨kv, h1, h2⟩ := sd2
          exact ⟨kv, by rw [upd_ne nsp]; exact h1, h2⟩
        refine ⟨_, rfl, .inl ⟨rfl, _, SqL.of hp7⟩, _, rfl, lp, _, _, rfl, rfl, hp7, small1000 (by omega), ?_⟩
        refine ⟨es ++ [cur], js ++ [j], b.2.1, _, rfl, ?_, fun e he => ?_, hbn b (List.mem_of_getElem? hb), by rw [List.length_append, List.length_append, hlen]; rfl, hpt.snoc ho hb hb1, fun i v hi => ?_, sd3, ?_, same_mut sm7 hlp0, by rw [List.length_append]; rfl⟩
        · rw [List.nodup_append]
          refine ⟨hnd, by simp, fun a ha c hc2 => ?_⟩
          rw [List.mem_singleton.mp hc2]
          intro z
          exact hc (by rw [← z]; exact ha)
        · rcases List.mem_append.mp he with he | he
          · exact hes e he
          · rw [List.mem_singleton.mp he]
            exact hcur
        · by_cases hil : i < es.length
          · rw [List.getElem?_append_left hil] at hi
            rw [List.drop_append_of_le_length (by omega)]
            exact (hdr i v hi).snoc ho hb hb1
          · have hie : i = es.length := by
              have := (List.getElem?_eq_some_iff.mp hi).1
              rw [List.length_append, List.length_singleton] at this
              omega
            subst hie
            rw [List.getElem?_append_right (Nat.le_refl _), Nat.sub_self] at hi
            cases hi
            rw [hlen, List.drop_left]
            exact ⟨ho, b, hb, hb1, rfl⟩
        · rw [upd_same]
          unfold ringVs
          rw [List.map_append]
          show _ = some (HO.lst (_ ++ [bv.getD j V.non]))
          rw [List.getD_eq_getElem?_getD, hz]
          rfl
abbrev nSettle : List Str := ["many", "bounds", "found", "onward", "changed", "turn", "bound", "start", "end", "room", "thing"]
theorem scSettle : FnScope nSettle ["many", "bounds"] (defScope sSettle) := ⟨rfl, rfl, rfl, by decide +kernel, rfl, by decide +kernel, by decide +kernel⟩
abbrev DSettle (P : Program) (w : World) (K : PySem.W.Frag) (mg : Str → Option Value) (base : Heap) := Df P w K mg base 2 "settle" ["many", "bounds"] (spSettle K)
theorem ok_settle {f fR : Addr} {fd fdR : FuncData} (F : Fun K "settle" "settle" sSettle f fd) (hm : mg "settle" = some (.ref f)) (B : Bt mg) (DRf : DRingF P w K mg base fR fdR) : DSettle P w K mg base f fd := by
  refine ⟨?_, hm, F.kp, F.binds fun _ _ _ _ _ _ us hl => match us, hl with | [_, _], _ => rfl⟩
  refine F.ok scSettle (fun vs H Q E h => ?_) (fun cdv A outer s H vs Q E hr h => ?_)
  · obtain ⟨n, lb, bv, bs, rfl, _⟩ := h
    rfl
  · obtain ⟨n, lb, bv, bs, rfl, hn1, hn, eb0, ab0, hbn, q⟩ := h
    have nd := scSettle.nd
    refine ⟨_, pss_cons (ps_set (i := 2) nd rfl (.inl rfl) (pe_op op_rep (pe_lst (pa_cons pe_int pa_nil)) (pv 0))) <|
        pss_cons (ps_set (i := 3) nd rfl (.inl rfl) pe_dnewK) <|
        pss_cons (ps_set (i := 4) nd rfl (.inl rfl) pe_non) <|
        pss_cons (ps_for PassesOwn.never rfl (pi_range1 (by rfl) B.range (pa_cons (pv 0) pa_nil)) (pg_name (i := 5) nd rfl (.inl rfl)) (pss_cons (ps_set (i := 4) nd rfl (.inl rfl) pe_non) <|
        pss_cons (ps_for PassesOwn.never rfl (pi_list (pv 1)) (pg_name (i := 6) nd rfl (.inl rfl)) (pss_cons (ps_asg (pv 6) (pg_tup rfl (pgs_cons (pg_name (i := 7) nd rfl (.inl rfl)) (pgs_cons (pg_name (i := 8) nd rfl (.inl rfl)) (pgs_cons (pg_name (i := 9) nd rfl (.inl rfl)) (pgs_cons (pg_name (i := 10) nd rfl (.inl rfl)) pgs_nil)))))) <|
        pss_one (ps_if (pt_cmpR op_gt (pe_ix ix_list (pv 2) (pv 7) (fun _ _ => rfl)) (pe_op op_add (pe_ix ix_list (pv 2) (pv 8) (fun _ _ => rfl)) (pv 9)) (nomark _)) (pss_cons (ps_asg (pe_op op_add (pe_ix ix_list (pv 2) (pv 8) (fun _ _ => rfl)) (pv 9)) (pg_sub (pv 2) (pv 7) set_list)) <|
        pss_cons (ps_dput (hu_of hr) (pv 3) (pv 7) (pe_tup (pa_cons (pv 6) (pa_cons (pv 8) pa_nil))) rfl) <|
        pss_one (ps_set (i := 4) nd rfl (.inl rfl) (pv 7))) pss_nil))) <|
        pss_one (ps_if (pt_cmpR op_isN (pv 4) pe_non (nomark _)) (pss_one (ps_ret (pe_tup (pa_cons (pv 2) (pa_cons pe_non pa_nil))))) pss_nil))) <|
        pss_one (ps_ret (pe_tup (pa_cons pe_non (pa_cons (pe_call DRf.ok (hr.mono (by decide)) (by rfl) DRf.mg DRf.kp DRf.bd .nil pass0 (pa_cons (pv 4) (pa_cons (pv 3) pa_nil))) pa_nil)))), ?_⟩
    refine ⟨(by show 1 ≤ sizeLine; decide), fun l0 hl0 => ?_⟩
    have t0 := same_new (o := .lst [.int 0]) hl0
    have e0 : (upd H l0 (.lst [.int 0])) l0 = some (.lst [.int 0]) := upd_same
    generalize upd H l0 (.lst [.int 0]) = H0 at t0 e0
    refine ⟨_, rfl, l0, _, _, rfl, rfl, e0, by omega, by omega, ?_, fun lf hlf => ?_⟩
    · show 1 * _ ≤ sizeLine
      exact Nat.le_of_lt (small1000 (by omega))
    have eL : (List.replicate ((n : Nat) : Int).toNat [V.int 0]).flatten = (List.replicate n (0 : Int)).map V.int := by
      rw [Int.toNat_natCast]
      have : ∀ n : Nat, (List.replicate n [V.int 0]).flatten = (List.replicate n (0 : Int)).map V.int := fun n => by
        induction n with
        | zero => rfl
        | succ n ih =>
          rw [List.replicate_succ, List.flatten_cons, ih, List.replicate_succ]
          rfl
      exact this _
    rw [eL]
    have t1 := same_new (o := .lst ((List.replicate n (0 : Int)).map V.int)) hlf
    have e1 : (upd H0 lf (.lst ((List.replicate n (0 : Int)).map V.int))) lf = some (.lst ((List.replicate n (0 : Int)).map V.int)) := upd_same
    have hlf0 : H lf = none := t0.free hlf
    generalize upd H0 lf (.lst ((List.replicate n (0 : Int)).map V.int)) = H1 at t1 e1
    have s1 := t0.trans t1
    intro ld hld
    have t2 := same_new (o := .dK []) hld
    have e2 : (upd H1 ld (.dK [])) ld = some (.dK []) := upd_same
    have hld0 : H ld = none := s1.free hld
    generalize upd H1 ld (.dK []) = H2 at t2 e2
    have s2 := s1.trans t2
    have nfd : lf ≠ ld := ne_of_none e1 hld
    have nlb : lb ≠ lf := ne_of_none eb0 hlf0
    refine gn_norm (σ' := [some (.int (n : Nat)), some (.ref lb), some (.ref lf), some (.ref ld), none, none, none, none, none, none, none]) rfl ?_
    refine ⟨_, rfl, _, rfl, by omega, by omega, for_range (lo := 0) (n := ((n : Nat) : Int).toNat) (fun i σ H' => ∃ (ch : V) (u5 u6 u7 u8 u9 u10 : Option V) (F : List Int) (kvs : List (Key × V)) (O : Nat → Option Nat) (T : Nat → Nat), σ = [some (.int (n : Nat)), some (.ref lb), some (.ref lf), some (.ref ld), some ch, u5, u6, u7, u8, u9, u10] ∧ Same H H' ∧ H' lf = some (.lst (F.map V.int)) ∧ F.length = n ∧ OnD K H' ld kvs bv bs O n ∧ SI bs n (fun v => F.getD v 0) O T (i + 1) 0 ∧ (0 < i → ∃ s : Nat, ch = .int (s : Nat) ∧ s < n ∧ i ≤ T s ∧ (outB bs n i).2.2 = some s) ∧ (outB bs n i).1 = F ∧ (outB bs n i).2.1 = O)
      ⟨_, _, _, _, _, _, _, List.replicate n 0, [], fun _ => none, fun _ => 0, rfl, s2, t2 _ _ e1, List.length_replicate .., ⟨e2, ⟨[], rfl, List.nodup_nil, fun g h => (nomatch h)⟩, fun v j h => (nomatch h)⟩, (SI.start bs n).congr fun v => ?_, fun h => absurd h (Nat.lt_irrefl 0), rfl, rfl⟩ ?_ ?_⟩
    · rw [List.getD_eq_getElem?_getD, List.getElem?_replicate]
      split <;> rfl
    · rintro i σ H3 hi ⟨ch, u5, u6, u7, u8, u9, u10, F, kvs, O, T, rfl, sm, ef, hfl, od, si, _, eF, eO⟩
      refine ⟨_, rfl, lb, rfl, ⟨_, SqL.of (sm _ _ eb0)⟩, for_list (K := K) (a := lb) (xs := bv) (fun j σ H' => ∃ (ch : Option Nat) (u5 u6 u7 u8 u9 u10 : Option V) (F : List Int) (kvs : List (Key × V)) (O : Nat → Option Nat) (T : Nat → Nat), σ = [some (.int (n : Nat)), some (.ref lb), some (.ref lf), some (.ref ld), some (lasV ch), u5, u6, u7, u8, u9, u10] ∧ Same H H' ∧ H' lf = some (.lst (F.map V.int)) ∧ F.length = n ∧ OnD K H' ld kvs bv bs O n ∧ SI bs n (fun v => F.getD v 0) O T (i + 1) j ∧
          (ch = none → ∀ k b, k < j → bs[k]? = some b → F.getD b.1 0 ≤ F.getD b.2.1 0 + b.2.2) ∧ (∀ s, ch = some s → s < n ∧ i + 1 ≤ T s) ∧ innB bs (outB bs n i) j = (F, O, ch))
        ⟨none, _, _, _, _, _, _, F, kvs, O, T, rfl, sm, ef, hfl, od, si, (fun _ k b hk => absurd hk (Nat.not_lt_zero _)), fun s h => (nomatch h), by show ((outB bs n i).1, (outB bs n i).2.1, none) = _; rw [eF, eO]⟩ (fun j σ H' _ ⟨_, _, _, _, _, _, _, _, _, _, _, _, sm', _⟩ => SqL.of (sm' _ _ eb0)) ?_ ?_⟩
      · rintro j v σ H4 hv ⟨ch, u5, u6, u7, u8, u9, u10, F, kvs, O, T, rfl, sm, ef, hfl, od, si, hn0, hs0, eX⟩
        obtain ⟨b, hb, a, th, rfl, sq0⟩ := ab0.get hv
        have sq := (TK.same sm).seq sq0
        obtain ⟨hb1, hb2⟩ := hbn b (List.mem_of_getElem? hb)
        refine ⟨_, rfl, a, _, rfl, sq, rfl, _, _, rfl, _, _, rfl, _, _, rfl, _, _, rfl, rfl, ?_⟩
        refine ⟨_, rfl, _, rfl, lf, _, b.1, _, rfl, rfl, SqL.of ef, atI_nat (sgetD_at (by omega)), _, rfl, _, rfl, lf, _, b.2.1, _, rfl, rfl, SqL.of ef, atI_nat (sgetD_at (by omega)), _, rfl, _, _, rfl, rfl, _, _, rfl, rfl, _, rfl, ite2 (fun e => ?_) (fun e => ?_)⟩
        · have hlt : F.getD b.2.1 0 + b.2.2 < F.getD b.1 0 := of_decide_eq_true e
          refine ⟨_, rfl, _, rfl, lf, _, b.2.1, _, rfl, rfl, SqL.of ef, atI_nat (sgetD_at (by omega)), _, rfl, _, _, rfl, rfl, _, rfl, _, rfl, lf, _, _, b.1, rfl, rfl, ef, Evl.ixN_nat (by rw [List.length_map]; omega), ?_⟩
          have F'at : ∀ v, (F.set b.1 (F.getD b.2.1 0 + b.2.2)).getD v 0 = if v = b.1 then F.getD b.2.1 0 + b.2.2 else F.getD v 0 := fun v => by
            rw [List.getD_eq_getElem?_getD, List.getElem?_set]
            by_cases z : b.1 = v
            · rw [if_pos z, if_pos (by omega), if_pos z.symm]
              rfl
            · rw [if_neg z, if_neg fun y => z y.symm, List.getD_eq_getElem?_getD]
          have s5 : Same H (upd H4 lf (.lst ((F.map V.int).set b.1 (.int (F.getD b.2.1 0 + b.2.2))))) := same_mut sm hlf0
          have ef5 : (upd H4 lf (.lst ((F.map V.int).set b.1 (.int (F.getD b.2.1 0 + b.2.2))))) lf = some (.lst ((F.set b.1 (F.getD b.2.1 0 + b.2.2)).map V.int)) := by
            rw [upd_same, List.map_set]
          have od5 : OnD K (upd H4 lf (.lst ((F.map V.int).set b.1 (.int (F.getD b.2.1 0 + b.2.2))))) ld kvs bv bs O n := od.tk (TK.lst ef) (by rw [upd_ne nfd.symm]; exact od.at_)
          generalize upd H4 lf (.lst ((F.map V.int).set b.1 (.int (F.getD b.2.1 0 + b.2.2)))) = H5 at s5 ef5 od5
          refine ⟨_, rfl, _, rfl, (by show 2 ≤ sizeLine; decide), fun t ht => ?_⟩
          have t6 := same_new (o := .tup [.ref a, .int ((b.2.1 : Nat) : Int)]) ht
          have e6 : (upd H5 t (.tup [.ref a, .int ((b.2.1 : Nat) : Int)])) t = some (.tup [.ref a, .int ((b.2.1 : Nat) : Int)]) := upd_same
          have od6 := od5.same t6
          have ef6 := t6 _ _ ef5
          have s6 := s5.trans t6
          generalize upd H5 t (.tup [.ref a, .int ((b.2.1 : Nat) : Int)]) = H6 at t6 e6 od6 ef6 s6
          have hkl := od6.len
          refine ⟨_, rfl, _, rfl, ld, _, rfl, DPut.k (k := Sum.inl ((b.1 : Nat) : Int)) od6.at_ (small1000 (by omega)), ?_⟩
          have od7 := od6.put e6 hv hb hb1
          refine ⟨_, rfl, ?_⟩
          have si2 := (si.set (by omega) hb hb1 hlt).congr F'at
          refine ⟨some b.1, _, _, _, _, _, _, F.set b.1 (F.getD b.2.1 0 + b.2.2), _, _, _, rfl, same_mut s6 hld0, (upd_ne nfd).trans ef6, by rw [List.length_set]; exact hfl, od7, si2, (fun z => nomatch z), fun s hs => ?_, ?_⟩
          rotate_left
          · show stpB bs (innB bs (outB bs n i) j) j = _
            rw [eX]
            unfold stpB
            rw [bAt_get hb]
            exact if_pos hlt
          cases hs
          refine ⟨hb1, ?_⟩
          rw [if_pos rfl]
          exact Nat.le_refl _
        · have hle : F.getD b.1 0 ≤ F.getD b.2.1 0 + b.2.2 := by
            have : ¬ (F.getD b.2.1 0 + b.2.2 < F.getD b.1 0) := fun z => e (decide_eq_true z)
            omega
          refine ⟨ch, _, _, _, _, _, _, F, kvs, O, T, rfl, sm, ef, hfl, od, si.skip hb hle, fun hc k b' hk hb' => ?_, hs0, ?_⟩
          rotate_left
          · show stpB bs (innB bs (outB bs n i) j) j = _
            rw [eX]
            unfold stpB
            rw [bAt_get hb]
            exact if_neg (show ¬ (F.getD b.2.1 0 + b.2.2 < F.getD b.1 0) by omega)
          by_cases z : k = j
          · subst z
            rw [hb] at hb'
            cases hb'
            exact hle
          · exact hn0 hc k b' (by omega) hb'
      · rintro σ H4 ⟨ch, u5, u6, u7, u8, u9, u10, F, kvs, O, T, rfl, sm, ef, hfl, od, si, hn0, hs0, eX⟩
        have hbl : bv.length = bs.length := ab0.1
        rw [hbl] at si hn0 eX
        cases ch with
        | none =>
          refine ⟨_, rfl, rfl, _, rfl, iteT ?_⟩
          refine ⟨_, rfl, (by show 2 ≤ sizeLine; decide), fun t ht => ?_⟩
          have t5 := same_new (o := .tup [.ref lf, .non]) ht
          have sat : Sat bs (fun v => F.getD v 0) := fun b hb => by
            obtain ⟨k, hk⟩ := List.getElem?_of_mem hb
            exact hn0 rfl k b (List.getElem?_eq_some_iff.mp hk).1 hk
          exact q t _ (sm.trans t5) (sm.free ht) (.inl ⟨lf, F, upd_same, hlf0, t5 _ _ ef, hfl, sat, si.le0, fun R hR hr v hv => si.lowR sat hbn hR hr hv, i, by show (innB bs (outB bs n i) bs.length).2.2 = _; rw [eX], by show (innB bs (outB bs n i) bs.length).1 = _; rw [eX]⟩)
        | some s =>
          refine ⟨_, rfl, rfl, _, rfl, iteF ?_⟩
          obtain ⟨hs1, hs2⟩ := hs0 s rfl
          exact ⟨_, _, _, _, _, _, _, F, kvs, O, T, rfl, sm, ef, hfl, od, si.next, (fun _ => ⟨s, rfl, hs1, hs2, by show (innB bs (outB bs n i) bs.length).2.2 = _; rw [eX]⟩), by show (innB bs (outB bs n i) bs.length).1 = _; rw [eX], by show (innB bs (outB bs n i) bs.length).2.1 = _; rw [eX]⟩
    · rintro σ H3 ⟨ch, u5, u6, u7, u8, u9, u10, F, kvs, O, T, rfl, sm, ef, hfl, od, si, hch, eF, eO⟩
      rw [Int.toNat_natCast] at hch eF eO
      obtain ⟨s, rfl, hs, hT, eS⟩ := hch (by omega)
      refine ⟨_, rfl, _, rfl, s, n, ld, kvs, bv, bs, O, rfl, od, hn, hs, fun b hb => (hbn b hb).2, fun js v hp hl ho => ?_, fun pre js l H4 hjs hjl ⟨v, hpr, hp⟩ hnd4 s4 hl el => ?_⟩
      · have h1 := si.more hp
        have h2 := (si.non v ho).1
        omega
      · refine ⟨(by show 2 ≤ sizeLine; decide), fun t ht => ?_⟩
        have t5 := same_new (o := .tup [.non, .ref l]) ht
        exact q t _ ((sm.trans s4).trans t5) ((sm.trans s4).free ht) (.inr ⟨l, js, upd_same, sm.free hl, t5 _ _ el, hjl, ⟨hjs, v, hp.ptB, si.cyc v js hjs hp⟩, (by rw [List.map_append] at hnd4; exact (List.nodup_append.mp hnd4).2.1), s, v, pre, eS, by rw [eO]; exact hpr, by rw [eO]; exact hp, hnd4, hjs⟩)
end
end Lag

set_option maxRecDepth 100000
set_option maxHeartbeats 8000000
namespace Lag
open PySem PySem.Spec PyProof.Rows L2
abbrev sChkBeat : Stmt := topS 16 -- @check_beat
abbrev sForBeat : Stmt := topS 62 -- @for_beat
def spChkB : Sp := fun vs H Q _ => ∃ b : Int, vs = [.int b] ∧ 0 ≤ b ∧ Q .non H
def lagsL (gs : List Gt) (L : Nat → Int) : List Int := (List.range gs.length).map L
theorem lagsL_at {gs : List Gt} {L : Nat → Int} {g : Nat} (h : g < gs.length) : (lagsL gs L).getD g 0 = L g := by
  unfold lagsL
  rw [List.getD_eq_getElem?_getD, List.getElem?_map, List.getElem?_range h]
  rfl
theorem lagsL_len (gs : List Gt) (L : Nat → Int) : (lagsL gs L).length = gs.length := by
  unfold lagsL
  rw [List.length_map, List.length_range]
/-- a list of pieces -/
def BarV (K : PySem.W.Frag) (H : Hp) (l : Addr) (pcs : List Pce) : Prop := ∃ pv, H l = some (.lst pv) ∧ All2 (PceV K H) pv pcs
/-- lags, a bar told exactly -/
def FbL (gs : List Gt) (ws : List Wr) (b : Int) (L : Nat → Int) : Prop := ∃ (pcs : List Pce) (bs : List Bnd) (F : List Int), BdsOk gs ws b pcs bs ∧ SetN (gs.length + 1) bs F ∧ L = lagsAt gs fun v => F.getD v 0
def FbB (gs : List Gt) (ws : List Wr) (b : Int) (ps : List Pce) : Prop := ∃ (pcs : List Pce) (bs : List Bnd) (js : List Nat), BdsOk gs ws b pcs bs ∧ RingX (gs.length + 1) bs js ∧ ps = js.map (pAt pcs)
/-- what for_beat tells -/
def FbR (K : PySem.W.Frag) (gs : List Gt) (ws : List Wr) (b : Int) (H H' : Hp) (t : Addr) : Prop :=
  (∃ (l : Addr) (L : Nat → Int), H' t = some (.tup [.str "lags", .ref l]) ∧ H l = none ∧ H' l = some (.lst ((lagsL gs L).map V.int)) ∧ Feas gs ws b L ∧ (∀ g, g < gs.length → -101 ≤ L g ∧ L g ≤ 101) ∧ FbL gs ws b L) ∨
  ∃ (l : Addr) (pcs : List Pce), H' t = some (.tup [.str "bar", .ref l]) ∧ H l = none ∧ BarV K H' l pcs ∧ IsBar gs ws b pcs ∧ (∀ pc ∈ pcs, PceOk gs ws pc ∧ pc.2.length ≤ 1000) ∧ pcs.length ≤ 200 ∧ FbB gs ws b pcs
theorem FbR.lags {K : PySem.W.Frag} {gs : List Gt} {ws : List Wr} {b : Int} {H H' : Hp} {t : Addr} (N : NetOk gs ws) (h : FbR K gs ws b H H' t) : ∃ (w : Str) (l : Addr), H' t = some (.tup [.str w, .ref l]) ∧ (w = "lags" ∨ w = "bar") ∧ (w = "lags" ↔ FeasE gs ws b) := by
  rcases h with ⟨l, L, h1, h2, h3, h4, h5⟩ | ⟨l, pcs, h1, h2, h3, h4, h5⟩
  · exact ⟨_, l, h1, .inl rfl, fun _ => ⟨L, h4⟩, fun _ => rfl⟩
  · exact ⟨_, l, h1, .inr rfl, fun z => (by cases z), fun ⟨L, hL⟩ => absurd hL (h4.none N)⟩
def spForBeat (K : PySem.W.Frag) (C : Addr) : Sp := fun vs H Q _ => ∃ (p ng nw : Addr) (gs : List Gt) (ws : List Wr) (b : Int), vs = [.ref p, .int b] ∧ NetAt K C H p ng nw gs ws ∧ NetOk gs ws ∧ 0 ≤ b ∧
  ∀ (t : Addr) (H' : Hp), Same H H' → H t = none → FbR K gs ws b H H' t → Q (.ref t) H'
section
variable {P : Program} {w : World} {K : PySem.W.Frag} {mg : Str → Option Value} {base : Heap}
abbrev nChkBeat : List Str := ["thing"]
theorem scChkBeat : FnScope nChkBeat ["thing"] (defScope sChkBeat) := ⟨rfl, rfl, rfl, by decide +kernel, rfl, by decide +kernel, by decide +kernel⟩
abbrev DChkB (P : Program) (w : World) (K : PySem.W.Frag) (mg : Str → Option Value) (base : Heap) := Df P w K mg base 2 "check_beat" ["thing"] spChkB
theorem ok_chkB {f fW : Addr} {fd fdW : FuncData} (F : Fun K "check_beat" "check_beat" sChkBeat f fd) (hm : mg "check_beat" = some (.ref f)) (DW : DWhole P w K mg base fW fdW) : DChkB P w K mg base f fd := by
  refine ⟨?_, hm, F.kp, F.binds fun _ _ _ _ _ _ us hl => match us, hl with | [_], _ => rfl⟩
  refine F.ok scChkBeat (fun vs H Q E h => ?_) (fun cdv A outer s H vs Q E hr h => ?_)
  · obtain ⟨b, rfl, _⟩ := h
    rfl
  · obtain ⟨b, rfl, hb, q⟩ := h
    refine ⟨_, pss_one (ps_if (PW.pt (pw_or (pt_not (pt_val (pe_call DW.ok (hr.mono (by decide)) (by rfl) DW.mg DW.kp DW.bd .nil pass0 (pa_cons (pv 0) pa_nil)))) (pw_or1 (pt_cmpR op_lt (pv 0) pe_int (nomark _))))) (pss_one (ps_never)) pss_nil), ?_⟩
    refine ⟨_, rfl, b, rfl, true, rfl, iteF ⟨_, rfl, _, _, rfl, rfl, _, rfl, ite2 (fun e => absurd (of_decide_eq_true e) (by omega)) (fun _ => q)⟩⟩
abbrev nForBeat : List Str := ["net", "beat", "found", "ring", "start", "end", "room", "piece"]
theorem scForBeat : FnScope nForBeat ["net", "beat"] (defScope sForBeat) := ⟨rfl, rfl, rfl, by decide +kernel, rfl, by decide +kernel, by decide +kernel⟩
abbrev DForBeat (P : Program) (w : World) (K : PySem.W.Frag) (mg : Str → Option Value) (base : Heap) (C : Addr) := Df P w K mg base 4 "for_beat" ["net", "beat"] (spForBeat K C)
theorem ok_forBeat {f fB fS fI fD fL C : Addr} {fd fdB fdS fdI fdD fdL : FuncData} (F : Fun K "for_beat" "for_beat" sForBeat f fd) (hm : mg "for_beat" = some (.ref f)) (B : Bt mg) (T : NT K mg C) (DCb : DChkB P w K mg base fB fdB) (DSe : DSettle P w K mg base fS fdS) (DSi : DSpotsIn P w K mg base C fI fdI) (DBd : DBoundsFor P w K mg base C fD fdD) (DLa : DLagsAt P w K mg base C fL fdL) : DForBeat P w K mg base C f fd := by
  refine ⟨?_, hm, F.kp, F.binds fun _ _ _ _ _ _ us hl => match us, hl with | [_, _], _ => rfl⟩
  refine F.ok scForBeat (fun vs H Q E h => ?_) (fun cdv A outer s H vs Q E hr h => ?_)
  · obtain ⟨p, ng, nw, gs, ws, b, rfl, _⟩ := h
    rfl
  · obtain ⟨p, ng, nw, gs, ws, b, rfl, NA, N, hb0, q⟩ := h
    have nd := scForBeat.nd
    refine ⟨_, pss_cons (ps_expr (pe_call DCb.ok (hr.mono (by decide)) (by rfl) DCb.mg DCb.kp DCb.bd .nil pass0 (pa_cons (pv 1) pa_nil))) <|
        pss_cons (ps_asg (pe_call DSe.ok (hr.mono (by decide)) (by rfl) DSe.mg DSe.kp DSe.bd .nil pass0 (pa_cons (pe_call DSi.ok (hr.mono (by decide)) (by rfl) DSi.mg DSi.kp DSi.bd .nil pass0 (pa_cons (pv 0) pa_nil)) (pa_cons (pe_call DBd.ok (hr.mono (by decide)) (by rfl) DBd.mg DBd.kp DBd.bd .nil pass0 (pa_cons (pv 0) (pa_cons (pv 1) pa_nil))) pa_nil))) (pg_tup rfl (pgs_cons (pg_name (i := 2) nd rfl (.inl rfl)) (pgs_cons (pg_name (i := 3) nd rfl (.inl rfl)) pgs_nil)))) <|
        pss_cons (ps_if (pt_cmpR op_isN (pv 2) pe_non (nomark _)) (pss_one (ps_ret (pe_tup (pa_cons pe_str (pa_cons (pe_lc (own := [("start", 4), ("end", 5), ("room", 6), ("piece", 7)]) (g := (gTup K 4 (gCons (gName 4) (gCons (gName 5) (gCons (gName 6) (gCons (gName 7) gNil)))))) (tt := tYes) (te := (tVar 7)) rfl nd (pi_list (pv 3)) (blkOk_by (N := nForBeat) (sc := defScope sForBeat) (own := [("start", 4), ("end", 5), ("room", 6), ("piece", 7)]) (by decide +kernel)) (fun _ _ _ _ _ => (pg_tup rfl (pgs_cons (pg_name (i := 4) nd rfl (.inl rfl)) (pgs_cons (pg_name (i := 5) nd rfl (.inl rfl)) (pgs_cons (pg_name (i := 6) nd rfl (.inl rfl)) (pgs_cons (pg_name (i := 7) nd rfl (.inl rfl)) pgs_nil)))))) (fun _ _ _ _ _ => pts_nil) (fun _ _ _ _ _ => (pv 7))) pa_nil))))) pss_nil) <|
        pss_one (ps_ret (pe_tup (pa_cons pe_str (pa_cons (pe_call DLa.ok (hr.mono (by decide)) (by rfl) DLa.mg DLa.kp DLa.bd .nil pass0 (pa_cons (pv 0) (pa_cons (pv 2) pa_nil))) pa_nil)))), ?_⟩
    have hgl := N.gl
    refine ⟨_, rfl, b, rfl, hb0, ?_⟩
    refine ⟨_, rfl, p, ng, nw, gs, ws, rfl, NA, ?_⟩
    refine ⟨_, rfl, _, rfl, p, ng, nw, gs, ws, b, rfl, NA, N, fun lb bv bps H1 s1 hlb elb ab bok hbl hpce => ?_⟩
    have abn : All2 (BndV K H1) bv (bps.map fun bp => bp.1) := by
      refine ⟨by rw [List.length_map]; exact ab.1, fun i v bd hv hbd => ?_⟩
      rw [List.getElem?_map] at hbd
      cases e : bps[i]? with
      | none => rw [e] at hbd; cases hbd
      | some bp =>
        rw [e] at hbd
        cases hbd
        obtain ⟨a, pa, l, h1, h2, _⟩ := ab.2 i v bp hv e
        exact ⟨a, _, h1, h2⟩
    refine ⟨gs.length + 1, lb, bv, _, rfl, by omega, by omega, elb, abn, bok.below N, fun t H2 s2 ht sr => ?_⟩
    have s12 := s1.trans s2
    rcases sr with ⟨lf, F, et, hlf, ef, hfl, sat, hle, hlow, hset⟩ | ⟨lr, js, et, hlr, er, hjln, ring, _, ringX⟩
    · refine ⟨t, _, rfl, .inl (.inl et), rfl, _, _, rfl, _, _, rfl, rfl, ?_⟩
      refine ⟨_, rfl, rfl, _, rfl, iteF ?_⟩
      refine ⟨_, rfl, _, rfl, p, ng, nw, lf, gs, ws, F, rfl, NA.same s12, N, SqL.of ef, by omega, fun l H3 s3 hl el => ?_⟩
      refine ⟨(by show 2 ≤ sizeLine; decide), fun tt htt => ?_⟩
      have t4 := same_new (o := .tup [.str "lags", .ref l]) htt
      have low : ∀ v, v < gs.length + 1 → -((gs.length + 1 : Nat) : Int) ≤ F.getD v 0 := fun v hv => by
        have := hlow 1 (by decide) bok.m1 v hv
        rw [Int.mul_one] at this
        exact this
      refine q tt _ ((s12.trans s3).trans t4) ((s12.trans s3).free htt) (.inl ⟨l, lagsAt gs fun v => F.getD v 0, upd_same, s12.free hl, t4 _ _ el, bok.lags N sat, (fun g hg => ?_), ⟨_, _, F, bok, hset, rfl⟩⟩)
      have h1 := low (spotF gs g) (spot_le g hg)
      have h2 := low gs.length (Nat.lt_succ_self _)
      have h3 := hle (spotF gs g)
      have h4 := hle gs.length
      unfold lagsAt
      refine ⟨?_, ?_⟩
      · show -101 ≤ F.getD (spotF gs g) 0 - F.getD gs.length 0
        have h1 : -((gs.length + 1 : Nat) : Int) ≤ F.getD (spotF gs g) 0 := h1
        omega
      · show F.getD (spotF gs g) 0 - F.getD gs.length 0 ≤ 101
        have h2 : -((gs.length + 1 : Nat) : Int) ≤ F.getD gs.length 0 := h2
        omega
    · refine ⟨t, _, rfl, .inl (.inl et), rfl, _, _, rfl, _, _, rfl, rfl, ?_⟩
      refine ⟨_, rfl, rfl, _, rfl, iteT ?_⟩
      have barok := bok.bar ring
      obtain ⟨hjs, v0, hpt, hneg⟩ := ring
      have hjl : ∀ j ∈ js, ∃ bp, bps[j]? = some bp := by
        have : ∀ {js : List Nat} {s e : Nat}, PtB (bps.map fun bp => bp.1) s js e → ∀ j ∈ js, ∃ bp, bps[j]? = some bp := by
          intro js
          induction js with
          | nil => intro s e _ j h; cases h
          | cons k r ih =>
            intro s e ⟨bd, q1, _, q2⟩ j h
            rcases List.mem_cons.mp h with h | h
            · rw [h]
              rw [List.getElem?_map] at q1
              cases e2 : bps[k]? with
              | none => rw [e2] at q1; cases q1
              | some bp => exact ⟨bp, rfl⟩
            · exact ih q2 j h
        exact this hpt
      have pcAt : ∀ (j : Nat) (bp : Bnd × Pce), bps[j]? = some bp → pAt (bps.map fun bp => bp.2) j = bp.2 := fun j bp h => pAt_get (by rw [List.getElem?_map, h]; rfl)
      refine ⟨_, rfl, lr, rfl, ⟨_, SqL.of er⟩, fun D hD => ?_⟩
      refine lc_list (K := K) (a := lr) (xs := ringVs bv js) (fun i Hc => ∃ pv : List V, Hc D = some (.lst pv) ∧ All2 (fun v pc => ∃ a l, v = .ref a ∧ SqT K Hc a [.int ((pc.1 : Nat) : Int), .ref l] ∧ Hc l = some (.lst (nvs pc.2)) ∧ l ≠ D) pv ((js.take i).map (pAt (bps.map fun bp => bp.2))) ∧ Same H2 Hc) ⟨[], upd_same, All2.nil, same_new hD⟩ (fun i Hc _ ⟨_, _, _, sm⟩ => SqL.of (sm _ _ er)) ?_ ?_
      · rintro i v Hc hv ⟨pv, hc, al, sm⟩
        unfold ringVs at hv
        rw [List.getElem?_map] at hv
        cases hj : js[i]? with
        | none => rw [hj] at hv; cases hv
        | some j =>
          rw [hj] at hv
          cases hv
          obtain ⟨bp, hbp⟩ := hjl j (List.mem_of_getElem? hj)
          obtain ⟨v, hv, a, pa, l, rfl, h1, h2, h3, h4⟩ := ab.getR hbp
          have ev : bv.getD j .non = .ref a := by rw [List.getD_eq_getElem?_getD, hv]; rfl
          have sc := s2.trans sm
          have nl : l ≠ D := ne_of_none (s2 _ _ h3) hD
          refine ⟨a, _, ev, (TK.same sc).seq h1, rfl, _, _, rfl, _, _, rfl, _, _, rfl, _, _, rfl, rfl, rfl, tyes ?_⟩
          have hpl : pv.length ≤ i := by
            have := al.1
            rw [List.length_map, List.length_take] at this
            omega
          have hil : i < js.length := (List.getElem?_eq_some_iff.mp hj).1
          refine ⟨_, rfl, _, hc, ?_, pv ++ [.ref pa], upd_same, ?_, same_mut sm hD⟩
          · exact small1000 (by omega)
          · rw [List.take_add_one, hj, List.map_append]
            show All2 _ (pv ++ [V.ref pa]) (_ ++ [pAt (bps.map fun bp => bp.2) j])
            rw [pcAt j bp hbp]
            refine All2.snoc (al.imp fun v pc ⟨a', l', k1, k2, k3, k4⟩ => ⟨a', l', k1, (TK.lst hc).seq k2, (upd_ne k4).trans k3, k4⟩) ⟨pa, l, rfl, (TK.lst hc).seq ((TK.same sc).seq h2), (upd_ne nl).trans (sc _ _ h3), nl⟩
      · rintro H3 ⟨pv, hc, al, sm⟩
        have e : (ringVs bv js).length = js.length := List.length_map ..
        rw [e, List.take_length] at al
        refine ⟨(by show 2 ≤ sizeLine; decide), fun tt htt => ?_⟩
        have t4 := same_new (o := .tup [.str "bar", .ref D]) htt
        refine q tt _ ((s12.trans sm).trans t4) ((s12.trans sm).free htt) (.inr ⟨D, _, upd_same, s12.free hD, ⟨pv, t4 _ _ hc, al.imp fun v pc ⟨a', l', k1, k2, k3, _⟩ => ⟨a', l', k1, (TK.same t4).seq k2, SqL.of (t4 _ _ k3)⟩⟩, barok, fun pc hpc => ?_, ?_, ⟨_, _, js, bok, ringX, rfl⟩⟩)
        rotate_left
        · rw [List.length_map]
          omega
        obtain ⟨j, hj, rfl⟩ := List.mem_map.mp hpc
        obtain ⟨bp, hbp⟩ := hjl j hj
        rw [pcAt j bp hbp]
        exact hpce bp (List.mem_of_getElem? hbp)
end
end Lag

set_option maxRecDepth 100000
set_option maxHeartbeats 8000000
/-! ### sorted(set(xs)), whole numbers, any number of them -/
namespace Lag
open PySem PySem.Spec PyProof.Rows L2
/-- a set as it is made -/
abbrev svE (w : World) : Obj := { cls := .type "set", dict := none, data := .set #[] 0 (.fresh 0 0 (!w.params.followText "set-order")) }
section
variable {P : Program} {w : World} {A : Around} {E : Value → Shared → Prop} {s : Shared}
/-- what a call of set tells: the new address, a set of these numbers -/
abbrev SvMade (w : World) (s : Shared) (ns : List Int) (h' : Heap) (c : Nat) : Prop := SetR w h' s.heap.objs.size (fun j => decide (j ∈ ns)) c ∧ c ≤ ns.length ∧ ∀ b o, s.heap.get? b = some o → h'.get? b = some o
theorem sv_init {l : Addr} {items : Array Value} (ns : List Int) (hh : A.handled = none) (hl : s.heap.IsList l items) (hit : IntsAre items.toList ns) (hb : ns.length + 1 < scanBound) :
    codeAny (model P w) A (.call (.builtin "set.__init__") ⟨[.ref s.heap.objs.size, .ref l], []⟩) (wants (fun r s₂ => r = .none ∧ ∃ h' tk c, s₂ = { s with heap := h', toks := tk } ∧ SvMade w s ns h' c) E) { s with heap := s.heap.push (svE w) } := by
  have hisz : items.size = ns.length := by have q := IntsAre.length hit; rwa [Array.length_toList] at q
  have g0 : (s.heap.push (svE w)).get? s.heap.objs.size = some (svE w) := Heap.get?_push_size _ rfl
  refine codeAny_call_builtin F.called_set.init.plain F.entry_set_init (check_set_init_1 ⟨_, g0, rfl⟩ ?_)
  obtain ⟨⟨oc, od, odt, os⟩, hol, hcl, nl, hdl⟩ := hl
  simp only at hcl hdl; subst hcl; subst hdl
  have hol' : (s.heap.push (svE w)).get? l = some { cls := .type "list", dict := od, data := .seq items nl, slots := os } := Heap.get?_push_of_some _ hol
  have k1 := F.sub_list_set; have k2 := F.sub_list_frozenset; have k3 : (Value.type "list" == Value.type "dict") = false := by decide
  have hl1 : (s.heap.push (svE w)).IsList l items := ⟨_, hol', rfl, nl, rfl⟩
  unfold Builtin.«set.__init__» noKeywords Builtin.Frozenset.updateFrom; generalize hPI : pyIter = PI; wp_walk; subst hPI
  refine wpAny_pyIter_list hl1 (wpAny_bind (wpAny_runValue ?_))
  have lt : l < s.heap.objs.size := Heap.lt_size hol
  have hz : (s.heap.push (svE w)).objs.size = s.heap.objs.size + 1 := Heap.size_push ..
  have n1 : l ≠ (s.heap.push (svE w)).objs.size := by rw [hz]; exact Nat.ne_of_lt (Nat.lt_succ_of_lt lt)
  have n3 : ∀ b, b < s.heap.objs.size → b ≠ s.heap.objs.size ∧ b ≠ (s.heap.push (svE w)).objs.size := fun b hb => ⟨Nat.ne_of_lt hb, by rw [hz]; exact Nat.ne_of_lt (Nat.lt_succ_of_lt hb)⟩
  have n2 : s.heap.objs.size ∉ [(s.heap.push (svE w)).objs.size, l] := fun z => by
    rcases List.mem_cons.mp z with z | z
    · rw [hz] at z
      exact Nat.ne_of_lt (Nat.lt_succ_self _) z
    · exact (Nat.ne_of_lt lt) (List.mem_singleton.mp z).symm
  have hval : ∀ (i : Nat) (v : Value), items[i]? = some v → ∃ k t, ns[i]? = some k ∧ v = .int k t := fun i v hv => by
    have hi : i < ns.length := by rw [← hisz]; exact (Array.getElem?_eq_some_iff.mp hv).1
    obtain ⟨t, e⟩ := IntsAre.int_at hit i v (by rwa [Array.getElem?_toList])
    rw [List.getD_eq_getElem?_getD, List.getElem?_eq_getElem hi] at e
    exact ⟨ns[i], t, List.getElem?_eq_getElem hi, e⟩
  refine set_update_ints ((Walks.list (by simp [hh]) _ l n1 items).toS) s.heap.objs.size n2 ns hisz hb hval (items.size - 0) 0 _ (by omega) (Nat.zero_le _) ⟨⟨_, Heap.get?_push_size _ rfl, rfl, rfl⟩, hl1.push _⟩ ⟨0, Nat.le_refl 0, setR_new_at (Heap.get?_push_of_some _ g0)⟩ fun s' c' hm hc' hS' => ?_
  obtain ⟨h', g2, d', tk', o'⟩ := s'
  have eg : g2 = s.gens := hm.gens; have ed : d' = s.drawn := hm.drawn; have eo : o' = s.os := hm.os
  subst eg; subst ed; subst eo
  show wpAny _ _ _ _ _ _; refine wpAny_pure ?_; show wpAny _ _ (ret Value.none) _ _ _
  rw [hisz] at hc'
  refine wpAny_pure ⟨rfl, h', tk', c', rfl, hS', hc', fun b o e => ?_⟩
  have b0 : b < s.heap.objs.size := Heap.lt_size e
  refine hm.heap b o (fun z => ?_) (Heap.get?_push_of_some _ (Heap.get?_push_of_some _ e))
  rcases List.mem_cons.mp z with z | z
  · exact (n3 b b0).1 z
  · exact (n3 b b0).2 (List.mem_singleton.mp z)
theorem sv_set {l : Addr} {items : Array Value} (ns : List Int) {Q : Value → Shared → Prop} (hh : A.handled = none) (hl : s.heap.IsList l items) (hit : IntsAre items.toList ns) (hb : ns.length + 1 < scanBound)
    (h : ∀ (h' : Heap) (tk c : Nat), SvMade w s ns h' c → Q (.ref s.heap.objs.size) { s with heap := h', toks := tk }) : wpAny (model P w) A (call (.type "set") [.ref l]) Q E s := by
  obtain ⟨c0, tl0, hm1⟩ := F.called_set.mro; have hm2 := F.called_set.made; have hm3 := F.called_set.sub
  refine wpAny_call (codeAny_of_tree ?_); show wpAny _ _ (callAny (.type "set") _) _ _ _
  refine wpAny_pure ⟨Code.quiet_builtin _ (by decide +kernel), codeAny_builtin F.entry_type_call ?_⟩; rw [Around.under_plain (weight_type_call_type "set" [.ref l] []) rfl]
  have q1 := F.called_set.notType; have q2 := F.called_set.canCreate; have q3 := F.typeCall_set_1 (.ref l)
  repeat (any_goals (first | wp_step | assumption))
  refine codeAny_mono (code_set_led1 (.ref l) (E := E) (Q₁ := fun obj s₁ => obj = .ref s.heap.objs.size ∧ s₁ = { s with heap := s.heap.push (svE w) }) ⟨rfl, rfl⟩) fun r s₁ hr => ?_
  match r, hr with
  | .error _, hr => exact hr
  | .ok (.ret obj), hr =>
    obtain ⟨rfl, rfl⟩ := hr
    have hT : Shared.TypeIs { s with heap := s.heap.push (svE w) } (.ref s.heap.objs.size) "set" := ⟨_, Heap.get?_push_size _ rfl, rfl⟩
    have q4 := F.called_set.init.lookup; have q5 := F.called_set.init.bind (.ref s.heap.objs.size)
    repeat (any_goals (first | wp_step | assumption))
    refine codeAny_mono (sv_init (A := _) (E := E) ns (by simp [hh]) hl hit hb) fun r₂ s₂ hr₂ => ?_
    match r₂, hr₂ with
    | .error _, hr₂ => exact hr₂
    | .ok (.ret r), hr₂ =>
      obtain ⟨rfl, h', tk, c', rfl, hm⟩ := hr₂
      repeat (any_goals (first | wp_step | assumption))
      exact h _ _ _ hm
end
end Lag

set_option maxRecDepth 100000
set_option maxHeartbeats 8000000
namespace Lag
open PySem PySem.Spec PyProof.Rows L2 SrtO
section
variable {P : Program} {w : World} {A : Around} {E : Value → Shared → Prop} {s : Shared} {a : Addr}
/-- sorted of a set of whole numbers, any number of them -/
theorem sv_sorted {S : Int → Bool} {n : Nat} {Q : Value → Shared → Prop} (R : SetR w s.heap a S n) (hh : A.handled = none)
    (hQ : ∀ s' p (out : Array Value) (c : Nat) (ns : List Int), (∀ b o, s.heap.get? b = some o → s'.heap.get? b = some o) ∧ s'.gens = s.gens ∧ s'.os = s.os ∧ s.heap.objs.size ≤ p ∧
      s'.heap.get? p = some (seqObj "list" out c) ∧ IntsAre out.toList ns ∧ ns.Pairwise (· < ·) ∧ (∀ k, k ∈ ns ↔ S k = true) ∧ ns.length = n → Q (.ref p) s') : wpAny (model P w) A (call (.builtin "sorted") [.ref a]) Q E s := by
  obtain ⟨o, es, ep, t, ho, hex, hd, g, nd, hm, hb, hf, hn, hr, hl⟩ := R
  refine Calls.call_function_entry kind_sorted plain_sorted entry_sorted (args_sorted1 _) ?_; unfold Builtin.«sorted»
  refine wpAny_bind (m := checkCount "sorted" 1 1 _) (wpAny_pure (wpAny_bind (collect_set (A := A.in1) hh ⟨o, ho, hex.1, hd⟩ hf hb hr hl fun s1 vs k1 hz g1 o1 pm => ?_)))
  have vl : vs.length = n := by rw [pm.length_eq, List.length_map, Array.length_toList, hn]
  have vz : vs.length ≤ sizeLine := by rw [vl, ← hn, sizeLine_eq]; unfold scanBound at hb; omega
  have hI : IntsAre vs (vs.map iv) := ints_iv fun v hv => by
    obtain ⟨e, he, q⟩ := List.mem_map.mp (pm.mem_iff.mp hv); obtain ⟨k, tk, h1, _⟩ := g e he
    exact ⟨k, tk, by rw [← q]; exact h1⟩
  have pk : (vs.map iv).Perm (es.toList.map keyOf) := by
    have q := pm.map iv; rw [List.map_map] at q
    refine q.trans (List.Perm.of_eq (List.map_congr_left fun e he => ?_)); obtain ⟨k, tk, h1, _⟩ := g e he
    show iv e.2 = keyOf e
    unfold keyOf; rw [h1]; rfl
  refine wpAny_bind (wpAny_newList ?_ vz)
  have hoL : (s1.heap.push (seqObj "list" vs.toArray 0)).get? s1.heap.objs.size = some (seqObj "list" vs.toArray 0) := Heap.get?_push_size _ rfl
  refine wpAny_bind (wpAny_holding (wpAny_call_entry slot_list_sort ⟨_, hoL, rfl⟩ entry_list_sort (list_sort_ord swo_int hoL vz (fun h2 => ints_sortable hI h2) fun out hs hb2 => ⟨_, rfl, wpAny_pure ⟨_, rfl, ?_⟩⟩) (args_list_sort _)))
  obtain ⟨j1, j2, j3⟩ := ints_out hI hs hb2
  obtain ⟨c, hc⟩ := sortedHeap_at (vs := vs) (out := out.toArray) hoL
  have pn : (out.map iv).Perm (es.toList.map keyOf) := j2.trans pk
  refine hQ _ s1.heap.objs.size out.toArray c (out.map iv) ⟨fun b u e => ?_, g1, o1, hz, hc, j1, lt_of_le_nodup _ j3 (pn.nodup_iff.mpr nd), fun k => by rw [pn.mem_iff, ← hm k], by rw [pn.length_eq, List.length_map, Array.length_toList]; exact hn⟩
  have q := k1 b u e; have lt := Heap.lt_size q
  show (sortedHeap (s1.heap.push (seqObj "list" vs.toArray 0)) s1.heap.objs.size vs out.toArray).get? b = some u
  rw [sortedHeap_old (Nat.ne_of_lt lt) (by rw [size_push']; exact Nat.lt_succ_of_lt lt)]
  exact Heap.get?_push_of_some _ q
end
/-- sorted(set(xs)) -/
def tSortSet (K : PySem.W.Frag) (ta : TE) : TE := fun σ H Q => ta σ H fun x H1 => ∃ (l : Addr) (ns : List Int), x = .ref l ∧ SqL K H1 l (ns.map V.int) ∧ ns.length ≤ 4000 ∧
  ∀ (ns' : List Int) (p : Addr), ns'.Pairwise (· < ·) → (∀ k, k ∈ ns' ↔ k ∈ ns) → H1 p = none → Q (.ref p) (upd H1 p (.lst (ns'.map V.int)))
theorem pe_sortSet {X : Cx} {a : Expr} {ta : TE} {p p2 q pos : Pos} (g1 : Gl X "sorted") (m1 : X.mg "sorted" = none) (g2 : Gl X "set") (m2 : X.mg "set" = none) (ha : PE X a ta) (bs : bootBuiltins "sorted" = some (.builtin "sorted")) (hc : X.calm = true := by rfl)
    (na : starEach [a] X.env = (false, eval a X.env) :: starEach [] X.env := by rfl) : PE X (.Call (.Name "sorted" p) [.Call (.Name "set" p2) [a] [] q] [] pos) (tSortSet X.K ta) := by
  refine ⟨fun pins s σ H Q I h => Call_ (ld_blt I g1 m1 bs (callWith_builtin1 (args_cons (Call_ (ld_blt I g2 m2 boot_set (callWith_type1 (args_cons (thn (ha.run pins s σ H _ I h) fun v s1 ⟨x, H1, I1, r1, q1⟩ => args_nil ?_) na) na rfl))) rfl) rfl rfl))⟩
  obtain ⟨l, ns, rfl, hq, hl, q1⟩ := q1
  cases r1
  obtain ⟨its, r, pl, hz⟩ := I1.list hq
  refine sv_set ns (I1.ok.hd hc) pl.isList (by simpa using RZ.intsAre_vals r) (by unfold scanBound; omega) fun h' tk c ⟨R, hcn, hk⟩ => args_nil ?_
  have I2 : Inv X pins σ H1 { s1 with heap := h', toks := tk } := I1.kept fun b o e => hk b o e
  have R2 : SetR X.w ({ s1 with heap := h', toks := tk } : Shared).heap s1.heap.objs.size (fun j => decide (j ∈ ns)) c := R
  have hlt := R.lt
  show wpAny _ _ _ _ _ ({ s1 with heap := h', toks := tk } : Shared)
  generalize ({ s1 with heap := h', toks := tk } : Shared) = s2 at I2 R2
  refine sv_sorted R2 (I2.ok.hd hc) fun s' p out c ns' ⟨k, g, o, hp, hg, hi, hs, hm, hln⟩ => ?_
  have hlen : (ns'.map V.int).length ≤ sizeLine := by rw [List.length_map, hln, sizeLine_eq]; omega
  have hn : H1 p = none := I2.hok.fresh hp
  have J : Inv X pins σ (upd H1 p (.lst (ns'.map V.int))) { s2 with heap := s'.heap, gens := s'.gens, drawn := s'.drawn, toks := s'.toks } :=
    I2.call (ch := []) (Un.laid k hp hn) (I2.hok.laid k hp ⟨hlen, out.toList, c, vals_of_ints hi, hg⟩) (by rw [g]; exact I2.bare) (fun _ z => nomatch z)
  have e : s' = { s2 with heap := s'.heap, gens := s'.gens, drawn := s'.drawn, toks := s'.toks } := by
    cases s'; cases s2; cases o; rfl
  rw [e]
  exact ⟨.ref p, _, J, rfl, q1 ns' p hs (fun k => by rw [hm k, decide_eq_true_eq]) hn⟩
end Lag

set_option maxRecDepth 100000
set_option maxHeartbeats 8000000
namespace Lag
open PySem PySem.Spec PyProof.Rows L2
abbrev sBetween : Stmt := topS 50 -- @between
abbrev sLeastBeat : Stmt := topS 63 -- @least_beat
def rowB (gs : List Gt) (ws : List Wr) (s e : Nat) : List Int := [((s : Nat) : Int), ((e : Nat) : Int), ((best gs ws s e).getD (0, 0)).1, -((best gs ws s e).getD (0, 0)).2]
def rowsB (gs : List Gt) (ws : List Wr) (s : Nat) : List (List Int) := (endsB gs ws s).map (rowB gs ws s)
def betL (gs : List Gt) (ws : List Wr) (n : Nat) : List (List Int) := (List.range n).flatMap (rowsB gs ws)
theorem betL_succ (gs : List Gt) (ws : List Wr) (n : Nat) : betL gs ws (n + 1) = betL gs ws n ++ rowsB gs ws n := by
  unfold betL
  rw [List.range_succ, List.flatMap_append, List.flatMap_cons, List.flatMap_nil, List.append_nil]
theorem betL_len (gs : List Gt) (ws : List Wr) : ∀ n, (betL gs ws n).length ≤ n * gs.length
  | 0 => Nat.zero_le _
  | n + 1 => by
    rw [betL_succ, List.length_append, Nat.add_mul, Nat.one_mul]
    have h1 := betL_len gs ws n
    have h2 : (rowsB gs ws n).length ≤ gs.length := by
      unfold rowsB endsB
      rw [List.length_map]
      have := List.length_filter_le (fun e => (best gs ws n e).isSome) (List.range gs.length)
      rw [List.length_range] at this
      exact this
    omega
theorem all2_app' {α β : Type} {R : α → β → Prop} {xs xs' : List α} {ys ys' : List β} (h : All2 R xs ys) (h' : All2 R xs' ys') : All2 R (xs ++ xs') (ys ++ ys') := by
  refine ⟨by rw [List.length_append, List.length_append, h.1, h'.1], fun i x y hx hy => ?_⟩
  by_cases hi : i < xs.length
  · rw [List.getElem?_append_left hi] at hx
    rw [List.getElem?_append_left (by rw [← h.1]; exact hi)] at hy
    exact h.2 i x y hx hy
  · rw [List.getElem?_append_right (by omega)] at hx
    rw [List.getElem?_append_right (by rw [← h.1]; omega), ← h.1] at hy
    exact h'.2 _ x y hx hy
/-- a tuple of numbers -/
def RowT (K : PySem.W.Frag) (H : Hp) (v : V) (r : List Int) : Prop := ∃ a, v = .ref a ∧ SqT K H a (r.map V.int)
theorem RowT.tk {K : PySem.W.Frag} {H H' : Hp} {v : V} {r : List Int} (t : TK H H') (h : RowT K H v r) : RowT K H' v r := by
  obtain ⟨a, e, s⟩ := h
  exact ⟨a, e, t.seq s⟩
theorem mem_betL {gs : List Gt} {ws : List Wr} {r : List Int} : ∀ {n : Nat}, r ∈ betL gs ws n ↔ ∃ s e c, s < n ∧ e < gs.length ∧ best gs ws s e = some c ∧ r = [((s : Nat) : Int), ((e : Nat) : Int), c.1, -c.2] := fun {n} => by
  unfold betL
  rw [List.mem_flatMap]
  constructor
  · rintro ⟨s, hs, hr⟩
    unfold rowsB at hr
    obtain ⟨e, he, rfl⟩ := List.mem_map.mp hr
    unfold endsB at he
    obtain ⟨h1, h2⟩ := List.mem_filter.mp he
    cases hc : best gs ws s e with
    | none => rw [hc] at h2; cases h2
    | some c => exact ⟨s, e, c, List.mem_range.mp hs, List.mem_range.mp h1, hc, by unfold rowB; rw [hc]; rfl⟩
  · rintro ⟨s, e, c, h1, h2, h3, rfl⟩
    refine ⟨s, List.mem_range.mpr h1, List.mem_map.mpr ⟨e, List.mem_filter.mpr ⟨List.mem_range.mpr h2, by rw [h3]; rfl⟩, ?_⟩⟩
    unfold rowB
    rw [h3]
    rfl
theorem IsWait.nn {gs : List Gt} {ws : List Wr} {m : Int} (N : NetOk gs ws) (h : IsWait gs ws m) : 0 ≤ m := by
  obtain ⟨s, e, c, hs, hc, rfl⟩ := h
  obtain ⟨ps, _, h2⟩ := best_way hc
  rw [h2]
  have := gw_nn N s
  have := pws_nn N ps
  show 0 ≤ - -pwt gs ws s ps
  unfold pwt
  omega
def spBetween (K : PySem.W.Frag) (C : Addr) : Sp := fun vs H Q _ => ∃ (p ng nw : Addr) (gs : List Gt) (ws : List Wr), vs = [.ref p] ∧ NetAt K C H p ng nw gs ws ∧ NetOk gs ws ∧
  ∀ (l : Addr) (tv : List V) (H' : Hp), Same H H' → H l = none → H' l = some (.lst tv) → All2 (RowT K H') tv (betL gs ws gs.length) → Q (.ref l) H'
def spLeastBeat (K : PySem.W.Frag) (C : Addr) : Sp := fun vs H Q _ => ∃ (p ng nw : Addr) (gs : List Gt) (ws : List Wr), vs = [.ref p] ∧ NetAt K C H p ng nw gs ws ∧ NetOk gs ws ∧ gs.length ≤ 60 ∧
  ∀ (t l : Addr) (B : Int) (L : Nat → Int) (H' : Hp), Same H H' → H' t = some (.tup [.int B, .ref l]) → H l = none → H' l = some (.lst ((lagsL gs L).map V.int)) → IsLeast gs ws B → Feas gs ws B L → (∀ g, g < gs.length → -101 ≤ L g ∧ L g ≤ 101) → 0 ≤ B → FbL gs ws B L → Q (.ref t) H'
section
variable {P : Program} {w : World} {K : PySem.W.Frag} {mg : Str → Option Value} {base : Heap}
abbrev nBetween : List Str := ["net", "told", "start", "known", "last", "end"]
theorem scBetween : FnScope nBetween ["net"] (defScope sBetween) := ⟨rfl, rfl, rfl, by decide +kernel, rfl, by decide +kernel, by decide +kernel⟩
abbrev DBetween (P : Program) (w : World) (K : PySem.W.Frag) (mg : Str → Option Value) (base : Heap) (C : Addr) := Df P w K mg base 2 "between" ["net"] (spBetween K C)
theorem ok_between {f fB C : Addr} {fd fdB : FuncData} (F : Fun K "between" "between" sBetween f fd) (hm : mg "between" = some (.ref f)) (B : Bt mg) (mso : mg "sorted" = none) (T : NT K mg C) (DBF : DBestFrom P w K mg base C fB fdB) : DBetween P w K mg base C f fd := by
  refine ⟨?_, hm, F.kp, F.binds fun _ _ _ _ _ _ us hl => match us, hl with | [_], _ => rfl⟩
  refine F.ok scBetween (fun vs H Q E h => ?_) (fun cdv A outer s H vs Q E hr h => ?_)
  · obtain ⟨p, ng, nw, gs, ws, rfl, _⟩ := h
    rfl
  · obtain ⟨p, ng, nw, gs, ws, rfl, NA, N, q⟩ := h
    have nd := scBetween.nd
    refine ⟨_, pss_cons (ps_set (i := 1) nd rfl (.inl rfl) (pe_lst pa_nil)) <|
        pss_cons (ps_for PassesOwn.never rfl (pi_range1 (by rfl) B.range (pa_cons (pe_callB call_len_seq (by rfl) B.len PySem.boot_len (pa_cons (pe_fld (pv 0) rfl) pa_nil)) pa_nil)) (pg_name (i := 2) nd rfl (.inr rfl)) (pss_cons (ps_asg (pe_call DBF.ok (hr.mono (by decide)) (by rfl) DBF.mg DBF.kp DBF.bd .nil pass0 (pa_cons (pv 0) (pa_cons (pv 2) pa_nil))) (pg_tup rfl (pgs_cons (pg_name (i := 3) nd rfl (.inr rfl)) (pgs_cons (pg_name (i := 4) nd rfl (.inl rfl)) pgs_nil)))) <|
        pss_one (ps_expr (pe_bm PySem.F.plainAttrs_list PySem.F.slot_list_extend PySem.F.type_list_extend mt_extend (pv 1) (pa_cons (pe_lc (own := [("end", 5)]) (g := (gName 5)) (tt := tYes) (te := (tTup (tCons (tVar 2) (tCons (tVar 5) (tCons (tOp (rIxT K) (tDGet (tVar 3) (tVar 5)) (tC (.int 0))) (tCons (tUn (rU fun i => .int (-i)) (tOp (rIxT K) (tDGet (tVar 3) (tVar 5)) (tC (.int 1)))) tNil)))))) rfl nd (pi_list (pe_callB cr_sortedI (by rfl) mso (by decide +kernel) (pa_cons (pe_callTy (call_list_dK rfl) (by rfl) B.list (by decide +kernel) (pa_cons (pv 3) pa_nil)) pa_nil))) (blkOk_by (N := nBetween) (sc := defScope sBetween) (own := [("end", 5)]) (by decide +kernel)) (fun _ _ _ _ _ => (pg_name (i := 5) nd rfl (.inl rfl))) (fun _ _ _ _ _ => pts_nil) (fun _ _ _ _ _ => (pe_tup (pa_cons (pv 2) (pa_cons (pv 5) (pa_cons (pe_ix ix_tup (pe_dget (hu_of hr) (pv 3) (pv 5) (fun _ _ => rfl)) pe_int (fun _ _ => rfl)) (pa_cons (pe_un un_neg (pe_ix ix_tup (pe_dget (hu_of hr) (pv 3) (pv 5) (fun _ _ => rfl)) pe_int (fun _ _ => rfl))) pa_nil))))))) pa_nil))))) <|
        pss_one (ps_ret (pv 1)), ?_⟩
    have hgl := N.gl
    obtain ⟨dx, ob⟩ := id NA.ob
    obtain ⟨gv, hgv, ga⟩ := id NA.g
    have hlg : gv.length = gs.length := ga.1
    refine ⟨(by show 0 ≤ sizeLine; decide), fun lt hlt => ?_⟩
    have t2 := same_new (o := .lst []) hlt
    have e2 : (upd H lt (.lst [])) lt = some (.lst []) := upd_same
    generalize upd H lt (.lst []) = H2 at t2 e2
    refine gn_norm (σ' := [some (.ref p), some (.ref lt), none, none, none, none]) rfl ?_
    refine ⟨_, rfl, p, C, dx, _, _, rfl, t2 _ _ ob, T.cl, T.nG, nf_gates _ _, ng, gv, rfl, .inl (SqL.of (t2 _ _ hgv)), _, rfl, by omega, by omega, for_range (lo := 0) (n := ((gv.length : Nat) : Int).toNat) (fun i σ H' => ∃ (u2 u3 u4 u5 : Option V) (tv : List V), σ = [some (.ref p), some (.ref lt), u2, u3, u4, u5] ∧ Same H H' ∧ H' lt = some (.lst tv) ∧ All2 (RowT K H') tv (betL gs ws i))
      ⟨_, _, _, _, [], rfl, t2, e2, All2.nil⟩ ?_ ?_⟩
    · rintro i σ H3 hi ⟨u2, u3, u4, u5, tv, rfl, sm, et, at_⟩
      rw [Int.toNat_natCast, hlg] at hi
      have ei : (0 : Int) + ((i : Nat) : Int) = ((i : Nat) : Int) := Int.zero_add _
      rw [ei]
      refine ⟨_, rfl, _, rfl, p, ng, nw, gs, ws, i, rfl, NA.same sm, N, hi, fun t d lL kvs ks La H4 s4 ett kn eL hL0 lok => ?_⟩
      refine ⟨t, _, rfl, .inl (.inl ett), rfl, _, _, rfl, _, _, rfl, rfl, ?_⟩
      have et4 := s4 _ _ et
      refine gn_norm (σ' := [some (.ref p), some (.ref lt), some (.int (i : Nat)), some (.ref d), some (.ref lL), u5]) rfl ?_
      refine ⟨_, rfl, .inl ⟨rfl, _, SqL.of et4⟩, ?_⟩
      refine ⟨_, rfl, d, kvs, rfl, kn.at_, fun lk hlk => ?_⟩
      rw [kn.list]
      have t5 := same_new (o := .lst ((ks.map fun i => ((i : Nat) : Int)).map V.int)) hlk
      have e5 : (upd H4 lk (.lst ((ks.map fun i => ((i : Nat) : Int)).map V.int))) lk = some (.lst ((ks.map fun i => ((i : Nat) : Int)).map V.int)) := upd_same
      generalize upd H4 lk (.lst ((ks.map fun i => ((i : Nat) : Int)).map V.int)) = H5 at t5 e5
      refine ⟨lk, _, rfl, SqL.of e5, fun ns lp hperm hsrt hlp => ?_⟩
      obtain ⟨es, rfl, hep, hes⟩ := nat_sorted hperm hsrt
      have hee := ends_uniq N hi hep kn.nd kn.mem hes
      have hex : (es.map fun i => ((i : Nat) : Int)).map V.int = nvs es := by rw [List.map_map]; rfl
      rw [hex]
      have t6 := same_new (o := .lst (nvs es)) hlp
      have e6 : (upd H5 lp (.lst (nvs es))) lp = some (.lst (nvs es)) := upd_same
      generalize upd H5 lp (.lst (nvs es)) = H6 at t6 e6
      have s46 := t5.trans t6
      have hkl : es.length ≤ gs.length := by
        rw [hep.length_eq]
        exact svNodup_le kn.nd fun v hv => by
          obtain ⟨c, hc⟩ := (kn.mem v).mp hv
          exact best_lt N hi hc
      refine ⟨lp, rfl, ⟨_, SqL.of e6⟩, fun D hD => ?_⟩
      refine lc_list (K := K) (a := lp) (xs := nvs es) (fun j Hc => ∃ rv : List V, Hc D = some (.lst rv) ∧ All2 (RowT K Hc) rv ((es.take j).map (rowB gs ws i)) ∧ Same H6 Hc) ⟨[], upd_same, All2.nil, same_new hD⟩ (fun j Hc _ ⟨_, _, _, s7⟩ => SqL.of (s7 _ _ e6)) ?_ ?_
      · rintro j v Hc hv ⟨rv, hc, al, s7⟩
        obtain ⟨e, he, rfl⟩ := nvs_of hv
        obtain ⟨c, hcb⟩ := (kn.mem e).mp (hep.mem_iff.mp (List.mem_of_getElem? he))
        obtain ⟨tc, hg, hsc⟩ := (kn.same (s46.trans s7)).get hcb
        have hjl : j < es.length := (List.getElem?_eq_some_iff.mp he).1
        have hrl : rv.length ≤ j := by
          have := al.1
          rw [List.length_map, List.length_take] at this
          omega
        refine ⟨rfl, tyes ?_⟩
        refine ⟨_, rfl, _, rfl, _, rfl, _, rfl, d, _, rfl, hg, tc, _, 0, _, rfl, rfl, hsc, atI_nat (j := 0) rfl, ?_⟩
        refine ⟨_, rfl, _, rfl, d, _, rfl, hg, tc, _, 1, _, rfl, rfl, hsc, atI_nat (j := 1) rfl, _, rfl, (by show 4 ≤ sizeLine; decide), fun tt htt => ?_⟩
        have t8 := same_new (o := .tup [.int ((i : Nat) : Int), .int ((e : Nat) : Int), .int c.1, .int (-c.2)]) htt
        have e8 : (upd Hc tt (.tup [.int ((i : Nat) : Int), .int ((e : Nat) : Int), .int c.1, .int (-c.2)])) tt = some (.tup [.int ((i : Nat) : Int), .int ((e : Nat) : Int), .int c.1, .int (-c.2)]) := upd_same
        generalize upd Hc tt (.tup [.int ((i : Nat) : Int), .int ((e : Nat) : Int), .int c.1, .int (-c.2)]) = H8 at t8 e8
        have hc8 := t8 _ _ hc
        refine ⟨rv, hc8, small1000 (by omega), rv ++ [.ref tt], upd_same, ?_, same_mut (s7.trans t8) hD⟩
        rw [List.take_add_one, he, List.map_append]
        refine ((al.imp fun _ _ r => r.tk (TK.same t8)).imp fun _ _ r => r.tk (TK.lst hc8)).snoc ⟨tt, rfl, ?_⟩
        have er : rowB gs ws i e = [((i : Nat) : Int), ((e : Nat) : Int), c.1, -c.2] := by
          unfold rowB
          rw [hcb]
          rfl
        rw [er]
        exact (TK.lst hc8).seq (.inl (.inl e8))
      · rintro H7 ⟨rv, hc, al, s7⟩
        rw [nvs_len, List.take_length] at al
        have hrl : rv.length ≤ gs.length := by
          have := al.1
          rw [List.length_map] at this
          omega
        have s37 := (s4.trans s46).trans s7
        have et7 := s37 _ _ et
        have ndt : D ≠ lt := (ne_of_none (s46 _ _ et4) hD).symm
        have htl : tv.length ≤ i * gs.length := by
          rw [at_.1]
          exact betL_len gs ws i
        have hilt : i * gs.length ≤ 10000 := Nat.mul_le_mul (by omega : i ≤ 100) (by omega : gs.length ≤ 100)
        refine ⟨lt, D, tv, rv, rfl, rfl, et7, hc, Nat.le_of_lt (small11k (by omega)), ?_⟩
        refine ⟨_, _, _, _, tv ++ rv, rfl, same_mut (sm.trans s37) hlt, upd_same, ?_⟩
        rw [betL_succ]
        have a7 : All2 (RowT K H7) (tv ++ rv) (betL gs ws i ++ rowsB gs ws i) := by
          refine all2_app' (at_.imp fun _ _ r => r.tk (TK.same s37)) ?_
          unfold rowsB
          rw [← hee]
          exact al
        exact a7.imp fun _ _ r => r.tk (TK.lst et7)
    · rintro σ H3 ⟨u2, u3, u4, u5, tv, rfl, sm, et, at_⟩
      rw [Int.toNat_natCast, hlg] at at_
      exact ⟨_, rfl, q lt tv H3 sm hlt et at_⟩
abbrev nLeastBeat : List Str := ["net", "start", "end", "many", "wait", "waits", "low", "high", "middle"]
theorem scLeastBeat : FnScope nLeastBeat ["net"] (defScope sLeastBeat) := ⟨rfl, rfl, rfl, by decide +kernel, rfl, by decide +kernel, by decide +kernel⟩
abbrev DLeastBeat (P : Program) (w : World) (K : PySem.W.Frag) (mg : Str → Option Value) (base : Heap) (C : Addr) := Df P w K mg base 5 "least_beat" ["net"] (spLeastBeat K C)
theorem ok_leastBeat {f fB fF C : Addr} {fd fdB fdF : FuncData} (F : Fun K "least_beat" "least_beat" sLeastBeat f fd) (hm : mg "least_beat" = some (.ref f)) (B : Bt mg) (mso : mg "sorted" = none) (mse : mg "set" = none) (DBt : DBetween P w K mg base C fB fdB) (DFb : DForBeat P w K mg base C fF fdF) : DLeastBeat P w K mg base C f fd := by
  refine ⟨?_, hm, F.kp, F.binds fun _ _ _ _ _ _ us hl => match us, hl with | [_], _ => rfl⟩
  refine F.ok scLeastBeat (fun vs H Q E h => ?_) (fun cdv A outer s H vs Q E hr h => ?_)
  · obtain ⟨p, ng, nw, gs, ws, rfl, _⟩ := h
    rfl
  · obtain ⟨p, ng, nw, gs, ws, rfl, NA, N, hg60, q⟩ := h
    have nd := scLeastBeat.nd
    refine ⟨_, pss_cons (ps_set (i := 5) nd rfl (.inl rfl) (pe_sortSet (by rfl) mso (by rfl) mse (pe_lc (own := [("start", 1), ("end", 2), ("many", 3), ("wait", 4)]) (g := (gTup K 4 (gCons (gName 1) (gCons (gName 2) (gCons (gName 3) (gCons (gName 4) gNil)))))) (tt := tYes) (te := (tVar 4)) rfl nd (pi_list (pe_call DBt.ok (hr.mono (by decide)) (by rfl) DBt.mg DBt.kp DBt.bd .nil pass0 (pa_cons (pv 0) pa_nil))) (blkOk_by (N := nLeastBeat) (sc := defScope sLeastBeat) (own := [("start", 1), ("end", 2), ("many", 3), ("wait", 4)]) (by decide +kernel)) (fun _ _ _ _ _ => (pg_tup rfl (pgs_cons (pg_name (i := 1) nd rfl (.inl rfl)) (pgs_cons (pg_name (i := 2) nd rfl (.inl rfl)) (pgs_cons (pg_name (i := 3) nd rfl (.inl rfl)) (pgs_cons (pg_name (i := 4) nd rfl (.inl rfl)) pgs_nil)))))) (fun _ _ _ _ _ => pts_nil) (fun _ _ _ _ _ => (pv 4))) (by decide +kernel))) <|
        pss_cons (ps_set (i := 6) nd rfl (.inl rfl) pe_int) <|
        pss_cons (ps_set (i := 7) nd rfl (.inl rfl) (pe_op op_sub (pe_callB call_len_seq (by rfl) B.len PySem.boot_len (pa_cons (pv 5) pa_nil)) pe_int)) <|
        pss_cons (ps_while PassesOwn.never (pt_cmpR op_lt (pv 6) (pv 7) (nomark _)) (pss_cons (ps_set (i := 8) nd rfl (.inl rfl) (pe_op op_fdiv (pe_op op_add (pv 6) (pv 7)) pe_int)) <|
        pss_one (ps_if (pt_cmpR op_eq (pe_ix ix_tup (pe_call DFb.ok (hr.mono (by decide)) (by rfl) DFb.mg DFb.kp DFb.bd .nil pass0 (pa_cons (pv 0) (pa_cons (pe_ix ix_list (pv 5) (pv 8) (fun _ _ => rfl)) pa_nil))) pe_int (fun _ _ => rfl)) pe_str (nomark _)) (pss_one (ps_set (i := 7) nd rfl (.inl rfl) (pv 8))) (pss_one (ps_set (i := 6) nd rfl (.inl rfl) (pe_op op_add (pv 8) pe_int)))))) <|
        pss_one (ps_ret (pe_tup (pa_cons (pe_ix ix_list (pv 5) (pv 6) (fun _ _ => rfl)) (pa_cons (pe_ix ix_tup (pe_call DFb.ok (hr.mono (by decide)) (by rfl) DFb.mg DFb.kp DFb.bd .nil pass0 (pa_cons (pv 0) (pa_cons (pe_ix ix_list (pv 5) (pv 6) (fun _ _ => rfl)) pa_nil))) pe_int (fun _ _ => rfl)) pa_nil)))), ?_⟩
    refine ⟨_, rfl, p, ng, nw, gs, ws, rfl, NA, N, fun lb tv H1 s1 hlb elb al => ?_⟩
    have hbl := betL_len gs ws gs.length
    have hbl2 : gs.length * gs.length ≤ 3600 := Nat.mul_le_mul hg60 hg60
    have htl : tv.length = (betL gs ws gs.length).length := al.1
    refine ⟨lb, rfl, ⟨_, SqL.of elb⟩, fun D hD => ?_⟩
    refine lc_list (K := K) (a := lb) (xs := tv) (fun i Hc => Hc D = some (.lst ((((betL gs ws gs.length).take i).map fun r => r.getD 3 0).map V.int)) ∧ Same H1 Hc) ⟨by rw [upd_same]; rfl, same_new hD⟩ (fun i Hc _ ⟨_, sm⟩ => SqL.of (sm _ _ elb)) ?_ ?_
    · rintro i v Hc hv ⟨hc, sm⟩
      obtain ⟨r, hr', a, rfl, sq⟩ := al.get hv
      obtain ⟨s', e', c, _, _, hcb, rfl⟩ := mem_betL.mp (List.mem_of_getElem? hr')
      have hil := (List.getElem?_eq_some_iff.mp hv).1
      refine ⟨a, _, rfl, (TK.same sm).seq sq, rfl, _, _, rfl, _, _, rfl, _, _, rfl, _, _, rfl, rfl, rfl, tyes ?_⟩
      refine ⟨_, rfl, _, hc, ?_, ?_, same_mut sm hD⟩
      · rw [List.length_map, List.length_map, List.length_take]
        exact small11k (by omega)
      · rw [upd_same, List.take_add_one, hr', List.map_append, List.map_append]
        rfl
    rintro H2 ⟨hc, s2⟩
    rw [htl, List.take_length] at hc
    refine ⟨D, _, rfl, SqL.of hc, by rw [List.length_map]; omega, fun W lw hW hmem hlw => ?_⟩
    have hw : ∀ m, m ∈ W ↔ IsWait gs ws m := fun m => by
      rw [hmem, List.mem_map]
      constructor
      · rintro ⟨r, hr', rfl⟩
        obtain ⟨s', e', c, h1, _, h3, rfl⟩ := mem_betL.mp hr'
        exact ⟨s', e', c, h1, h3, rfl⟩
      · rintro ⟨s', e', c, h1, h3, rfl⟩
        exact ⟨_, mem_betL.mpr ⟨s', e', c, h1, best_lt N h1 h3, h3, rfl⟩, rfl⟩
    have t3 := same_new (o := .lst (W.map V.int)) hlw
    have e3 : (upd H2 lw (.lst (W.map V.int))) lw = some (.lst (W.map V.int)) := upd_same
    generalize upd H2 lw (.lst (W.map V.int)) = H3 at t3 e3
    have s3 := (s1.trans s2).trans t3
    have hn0 : 0 < gs.length := List.length_pos_iff.mpr N.ne
    have hWn : 0 < W.length := by
      have h1 : IsWait gs ws (- -pwt gs ws 0 []) := by
        obtain ⟨c, hcb, hl⟩ := best_le N hn0 (ps := []) (g := 0) (ws := ws) rfl
        have h2 : best gs ws 0 0 = some (0, -gw gs 0) := rnds_s N gs.length
        refine ⟨0, 0, _, hn0, h2, ?_⟩
        unfold pwt
        rw [pws_nil, Int.add_zero]
      exact List.length_pos_of_mem ((hw _).mpr h1)
    have hat : ∀ {i : Nat}, i < W.length → (W.map V.int)[i]? = some (.int (W.getD i 0)) := fun h => sgetD_at h
    have hin : ∀ {i : Nat}, i < W.length → W.getD i 0 ∈ W := fun {i} h => by
      rw [List.getD_eq_getElem?_getD, List.getElem?_eq_getElem h]
      exact List.getElem_mem _
    have hlt : ∀ {i j : Nat}, j < W.length → i < j → W.getD i 0 < W.getD j 0 := fun {i j} hj hij => by
      have hi : i < W.length := by omega
      rw [List.getD_eq_getElem?_getD, List.getD_eq_getElem?_getD, List.getElem?_eq_getElem hi, List.getElem?_eq_getElem hj]
      exact List.pairwise_iff_getElem.mp hW i j hi hj hij
    have top : FeasE gs ws (W.getD (W.length - 1) 0) := ⟨_, Feas.zero N fun m hm => by
      obtain ⟨i, hi, rfl⟩ := List.getElem_of_mem ((hw m).mpr hm)
      by_cases e : i = W.length - 1
      · subst e
        rw [List.getD_eq_getElem?_getD, List.getElem?_eq_getElem hi]
        exact Int.le_refl _
      · have := hlt (i := i) (j := W.length - 1) (by omega) (by omega)
        rw [List.getD_eq_getElem?_getD (i := i), List.getElem?_eq_getElem hi] at this
        exact Int.le_of_lt this⟩
    refine ⟨_, rfl, lw, _, rfl, .inl (SqL.of e3), _, _, rfl, rfl, ?_⟩
    rw [List.length_map]
    refine ⟨fun m σ H' => ∃ (lo hi : Nat) (u8 : Option V), σ = [some (.ref p), none, none, none, none, some (.ref lw), some (.int (lo : Nat)), some (.int (hi : Nat)), u8] ∧ m = hi - lo ∧ lo ≤ hi ∧ hi < W.length ∧ FeasE gs ws (W.getD hi 0) ∧ (∀ k, k < lo → ¬ FeasE gs ws (W.getD k 0)) ∧ Same H3 H', ⟨_, 0, W.length - 1, none, ?_, rfl, Nat.zero_le _, by omega, top, fun k hk => absurd hk (Nat.not_lt_zero _), Same.refl _⟩, ?_⟩
    · have e : ((W.length : Nat) : Int) - 1 = ((W.length - 1 : Nat) : Int) := by omega
      show [some (V.ref p), none, none, none, none, some (V.ref lw), some (V.int 0), some (V.int (((W.length : Nat) : Int) - 1)), none] = _
      rw [e]
      rfl
    rintro m σ H4 ⟨lo, hi, u8, rfl, rfl, hlh, hhi, hf, hno, s4⟩
    refine ⟨_, rfl, _, rfl, _, _, rfl, rfl, _, rfl, ite2 (fun e => ?_) (fun e => ?_)⟩
    · have hlt2 : lo < hi := by
        have := of_decide_eq_true e
        omega
      refine ⟨fun σ H' => ∃ (lo' hi' : Nat) (u8 : Option V), σ = [some (.ref p), none, none, none, none, some (.ref lw), some (.int (lo' : Nat)), some (.int (hi' : Nat)), u8] ∧ hi' - lo' < hi - lo ∧ lo' ≤ hi' ∧ hi' < W.length ∧ FeasE gs ws (W.getD hi' 0) ∧ (∀ k, k < lo' → ¬ FeasE gs ws (W.getD k 0)) ∧ Same H3 H', fun σ' H' ⟨lo', hi', u8, e1, h1, h2⟩ => ⟨hi' - lo', h1, lo', hi', u8, e1, rfl, h2⟩, ?_⟩
      refine ⟨_, rfl, _, rfl, _, _, rfl, rfl, _, _, rfl, rfl, ⟨by decide, by decide⟩, ?_⟩
      have hmid : ((lo : Nat) : Int) + ((hi : Nat) : Int) = ((lo + hi : Nat) : Int) := by omega
      have hmid2 : (((lo : Nat) : Int) + ((hi : Nat) : Int)) / 2 = (((lo + hi) / 2 : Nat) : Int) := by rw [hmid]; rfl
      refine gn_norm (σ' := [some (.ref p), none, none, none, none, some (.ref lw), some (.int (lo : Nat)), some (.int (hi : Nat)), some (.int ((((lo : Nat) : Int) + ((hi : Nat) : Int)) / 2))]) rfl ?_
      rw [hmid2]
      generalize hm2 : (lo + hi) / 2 = mi
      have h1 : lo ≤ mi := by omega
      have h2 : mi < hi := by omega
      have e4 := s4 _ _ e3
      refine ⟨_, rfl, _, rfl, _, rfl, lw, _, mi, _, rfl, rfl, SqL.of e4, atI_nat (hat (by omega)), ?_⟩
      refine ⟨p, ng, nw, gs, ws, _, rfl, NA.same (s3.trans s4), N, ((hw _).mp (hin (by omega))).nn N, fun t H5 s5 ht fb => ?_⟩
      obtain ⟨w', l', et, hw', hiff⟩ := fb.lags N
      refine ⟨t, _, 0, _, rfl, rfl, .inl (.inl et), atI_nat (j := 0) rfl, rfl, _, rfl, ?_⟩
      by_cases hL : w' = "lags"
      · rw [hL, decide_eq_true rfl]
        refine iteT ⟨_, rfl, lo, mi, _, rfl, by omega, h1, by omega, hiff.mp hL, hno, s4.trans s5⟩
      · rw [decide_eq_false (fun z => hL (V.str.inj z))]
        refine iteF ⟨_, rfl, _, _, rfl, rfl, mi + 1, hi, some (.int (mi : Nat)), rfl, by omega, by omega, hhi, hf, fun k hk hfk => ?_, s4.trans s5⟩
        by_cases hkm : k = mi
        · rw [hkm] at hfk
          exact hL (hiff.mpr hfk)
        · obtain ⟨L, hL'⟩ := hfk
          have hno2 : ¬ FeasE gs ws (W.getD mi 0) := fun z => hL (hiff.mpr z)
          exact hno2 ⟨L, hL'.mono (Int.le_of_lt (hlt (by omega) (by omega)))⟩
    · have hle2 : lo = hi := by
        have : ¬ (((lo : Nat) : Int) < ((hi : Nat) : Int)) := fun z => e (decide_eq_true z)
        omega
      subst hle2
      have e4 := s4 _ _ e3
      have hB := ((hw _).mp (hin hhi)).nn N
      refine ⟨_, rfl, _, rfl, lw, _, lo, _, rfl, rfl, SqL.of e4, atI_nat (hat hhi), ?_⟩
      refine ⟨_, rfl, _, rfl, _, rfl, lw, _, lo, _, rfl, rfl, SqL.of e4, atI_nat (hat hhi), ?_⟩
      refine ⟨p, ng, nw, gs, ws, _, rfl, NA.same (s3.trans s4), N, hB, fun t H5 s5 ht fb => ?_⟩
      have s35 := (s3.trans s4).trans s5
      rcases fb with ⟨l, L, et, hl, el, hF, hb, hbL⟩ | ⟨l, pcs, _, _, _, hbar, _⟩
      · refine ⟨t, _, 1, _, rfl, rfl, .inl (.inl et), atI_nat (j := 1) rfl, (by show 2 ≤ sizeLine; decide), fun tt htt => ?_⟩
        have t6 := same_new (o := .tup [.int (W.getD lo 0), .ref l]) htt
        refine q tt l (W.getD lo 0) L _ (s35.trans t6) upd_same ((s3.trans s4).free hl) (t6 _ _ el) ⟨hf, fun b hb hfe => ?_⟩ hF hb hB hbL
        obtain ⟨L', hL'⟩ := hfe
        obtain ⟨m, hmb, hmw, hmf⟩ := hL'.tight N
        obtain ⟨k, hk, ek⟩ := List.getElem_of_mem ((hw m).mpr hmw)
        have ek' : W.getD k 0 = m := by rw [List.getD_eq_getElem?_getD, List.getElem?_eq_getElem hk, ek]; rfl
        have hklo : k < lo := by
          rcases Nat.lt_or_ge k lo with h | h
          · exact h
          · exfalso
            by_cases e2 : k = lo
            · rw [e2] at ek'
              omega
            · have := hlt (i := lo) (j := k) hk (by omega)
              omega
        exact hno k hklo ⟨L', by rw [ek']; exact hmf⟩
      · obtain ⟨L, hL⟩ := hf
        exact absurd hL (hbar.none N)
end
end Lag

set_option maxRecDepth 100000
set_option maxHeartbeats 8000000
namespace Lag
open PySem PySem.Spec PyProof.Rows L2
/-! ### how great a least beat is; a ring bounds the beat (as in drafts/k84/U1) -/
theorem Wk.bd {gs : List Gt} {ws : List Wr} {s : Nat} (N : NetOk gs ws) {vs : List Nat} {g : Nat} {c : Cst} (h : Wk gs ws s vs g c) : -c.2 ≤ 100 * (vs.length : Int) := by
  have w : ∀ g, gw gs g ≤ 100 := fun g => by
    unfold gw
    rw [List.getD_eq_getElem?_getD]
    cases e : gs[g]? with
    | none => show (0 : Int) ≤ 100; decide
    | some x => exact (N.gok x (List.mem_of_getElem? e)).2.2.1
  induction h with
  | nil =>
    have := w s
    show - -gw gs s ≤ 100 * 1
    omega
  | @cons vs v c x _ _ _ ih =>
    have := w x.2.1
    rw [List.length_cons]
    show -(c.2 - gw gs x.2.1) ≤ _
    omega
theorem best_bd {gs : List Gt} {ws : List Wr} {s g : Nat} {c : Cst} (N : NetOk gs ws) (hs : s < gs.length) (h : best gs ws s g = some c) : -c.2 ≤ 10000 := by
  obtain ⟨ρ, hρ⟩ := N.rank
  obtain ⟨vs, hv⟩ := Snd.rnds (gs := gs) (ws := ws) (s := s) gs.length g c h
  obtain ⟨vs', c', h1, h2, h3⟩ := hv.simple hρ
  have hl := svNodup_le h2 (h1.lows N hs)
  obtain ⟨o, ho, h4⟩ := h1.comp gs.length (by omega)
  have e : o = c := by
    have : best gs ws s g = some o := ho
    rw [h] at this
    exact (Option.some.inj this).symm
  subst e
  have e := leC.anti h4 h3
  subst e
  have := h1.bd N
  have := N.gl
  omega
theorem IsLeast.bd {gs : List Gt} {ws : List Wr} {B : Int} (N : NetOk gs ws) (h : IsLeast gs ws B) : B ≤ 10000 := by
  obtain ⟨L, hL⟩ := h.ex
  obtain ⟨m, hm, ⟨s, e, c, hs, hc, rfl⟩, hf⟩ := hL.tight N
  have := h.le ⟨L, hf⟩
  have := best_bd N hs hc
  omega
/-- the wait of a ring, by its registers -/
theorem Feas.ring {gs : List Gt} {ws : List Wr} {b : Int} {L : Nat → Int} (N : NetOk gs ws) (h : Feas gs ws b L) {r : List Nat} {g : Nat} (hr : Pw ws g r g) (hg : g < gs.length) : pws gs ws r ≤ b * prg ws r := by
  have ex : ∀ g, ∃ m : Int, g < gs.length → (∃ s ps, s < gs.length ∧ Pw ws s ps g ∧ (∀ p ∈ ps, cntF ws L p = 0) ∧ m = pwt gs ws s ps) ∧ ∀ s ps, s < gs.length → Pw ws s ps g → (∀ p ∈ ps, cntF ws L p = 0) → pwt gs ws s ps ≤ m := fun g => by
    by_cases hg : g < gs.length
    · obtain ⟨m, h1, h2⟩ := max_ex (P := fun v => ∃ s ps, s < gs.length ∧ Pw ws s ps g ∧ (∀ p ∈ ps, cntF ws L p = 0) ∧ v = pwt gs ws s ps) (b := b) (fun v ⟨s, ps, hs, hp, hz, e⟩ => by rw [e]; exact h.wt s ps g hs hp hz) _ (pwt gs ws g []) ⟨g, [], hg, rfl, (fun p hp => nomatch hp), rfl⟩ (Nat.le_refl _)
      exact ⟨m, fun _ => ⟨h1, fun s ps hs hp hz => h2 _ ⟨s, ps, hs, hp, hz, rfl⟩⟩⟩
    · exact ⟨0, fun z => absurd z hg⟩
  obtain ⟨A, hA⟩ := Classical.axiomOfChoice ex
  have ge : ∀ g, g < gs.length → gw gs g ≤ A g := fun g hg => by
    have := (hA g hg).2 g [] hg rfl (fun p hp => nomatch hp)
    unfold pwt at this
    rw [pws_nil] at this
    omega
  have le : ∀ g, g < gs.length → A g ≤ b := fun g hg => by
    obtain ⟨s, ps, hs, hp, hz, e⟩ := (hA g hg).1
    rw [e]
    exact h.wt s ps g hs hp hz
  have hb : 0 ≤ b := by
    have := gw_nn N g
    have := ge g hg
    have := le g hg
    omega
  have one : ∀ x ∈ ws, gw gs x.2.1 ≤ A x.2.1 - A x.1 + b * (((x.2.2.length : Nat) : Int) + L x.2.1 - L x.1) := fun x hx => by
    have W := N.wok x hx
    obtain ⟨p, hp⟩ := List.getElem?_of_mem hx
    have h0 := h.lt x hx
    rcases Int.lt_or_le 0 (((x.2.2.length : Nat) : Int) + L x.2.1 - L x.1) with h1 | h1
    · have h2 := ge _ W.e
      have h3 := le _ W.s
      have h4 := Int.mul_le_mul_of_nonneg_left (show (1 : Int) ≤ ((x.2.2.length : Nat) : Int) + L x.2.1 - L x.1 by omega) hb
      omega
    · have e : ((x.2.2.length : Nat) : Int) + L x.2.1 - L x.1 = 0 := by omega
      rw [e, Int.mul_zero]
      obtain ⟨s, ps, hs, hpw, hz, eA⟩ := (hA _ W.s).1
      have h2 := (hA _ W.e).2 s (ps ++ [p]) hs (hpw.snoc hp rfl) fun q hq => by
        rcases List.mem_append.mp hq with hq | hq
        · exact hz q hq
        · rw [List.mem_singleton.mp hq, cntF_get hp]
          exact e
      unfold pwt at h2 eA
      rw [pws_snoc hp] at h2
      omega
  have all : ∀ {r : List Nat} {s e : Nat}, Pw ws s r e → pws gs ws r ≤ A e - A s + b * (prg ws r + L e - L s) := by
    intro r
    induction r with
    | nil =>
      intro s e h
      have h : s = e := h
      rw [h, pws_nil, prg_nil]
      have : b * (0 + L e - L e) = 0 := by
        have : 0 + L e - L e = 0 := by omega
        rw [this, Int.mul_zero]
      omega
    | cons p r ih =>
      intro s e ⟨x, h1, h2, h3⟩
      have h4 := ih h3
      have h5 := one x (List.mem_of_getElem? h1)
      rw [pws_cons h1, prg_cons h1, ← h2]
      have e1 : b * (((x.2.2.length : Nat) : Int) + prg ws r + L e - L x.1) = b * (((x.2.2.length : Nat) : Int) + L x.2.1 - L x.1) + b * (prg ws r + L e - L x.2.1) := by
        rw [← Int.mul_add]
        congr 1
        omega
      omega
  have h1 := all hr
  have e : prg ws r + L g - L g = prg ws r := by omega
  rw [e] at h1
  omega
end Lag

set_option maxRecDepth 100000
set_option maxHeartbeats 8000000
namespace Lag
open PySem PySem.Spec PyProof.Rows L2
abbrev sIsPiece : Stmt := topS 22 -- @is_piece
abbrev sEndOf : Stmt := topS 23 -- @end_of
abbrev sEndsOf : Stmt := topS 24 -- @ends_of
abbrev sFirstGap : Stmt := topS 56 -- @first_gap
abbrev sBarFault : Stmt := topS 61 -- @bar_fault
/-! ### pieces and their ends -/
theorem jn_at {gs : List Gt} {ws : List Wr} : ∀ {pcs : List Pce} {s e : Nat}, Jn gs ws s pcs e → ∀ k pc, pcs[k]? = some pc → (k = 0 → spotF gs pc.1 = s) ∧ (∀ pc', pcs[k + 1]? = some pc' → spotF gs (endW ws pc.1 pc.2) = spotF gs pc'.1) ∧ (pcs[k + 1]? = none → spotF gs (endW ws pc.1 pc.2) = e)
  | [], s, e, _, k, pc, h => by cases h
  | qc :: r, s, e, ⟨h1, h2, m, h3, h4⟩, k, pc, h => by
    cases k with
    | zero =>
      cases h
      rw [endW_of h3]
      refine ⟨fun _ => h1, fun pc' h' => ?_, fun h' => ?_⟩
      · have h' : r[0]? = some pc' := h'
        exact ((jn_at h4 0 pc' h').1 rfl).symm
      · have h' : r[0]? = none := h'
        have : r = [] := List.length_eq_zero_iff.mp (by have := List.getElem?_eq_none_iff.mp h'; omega)
        subst this
        exact h4
    | succ k =>
      obtain ⟨a, b, c⟩ := jn_at h4 k pc h
      exact ⟨fun z => (by cases z), b, c⟩
/-- pieces in a ring: each ends at the spot where the next one begins -/
def Ringed (gs : List Gt) (es : List (Nat × Nat)) : Prop := ∀ k e, es[k]? = some e → ∃ e', es[(k + 1) % es.length]? = some e' ∧ spotF gs e.2 = spotF gs e'.1
theorem jn_ringed {gs : List Gt} {ws : List Wr} {pcs : List Pce} {v : Nat} (h : Jn gs ws v pcs v) : Ringed gs (pcs.map (endsF ws)) := by
  intro k e hk
  rw [List.getElem?_map] at hk
  cases hp : pcs[k]? with
  | none => rw [hp] at hk; cases hk
  | some pc =>
    rw [hp] at hk
    cases hk
    have hkl : k < pcs.length := (List.getElem?_eq_some_iff.mp hp).1
    obtain ⟨_, h2, h3⟩ := jn_at h k pc hp
    rw [List.length_map, List.getElem?_map]
    by_cases hl : k + 1 < pcs.length
    · rw [Nat.mod_eq_of_lt hl, List.getElem?_eq_getElem hl]
      exact ⟨_, rfl, h2 _ (List.getElem?_eq_getElem hl)⟩
    · have e1 : k + 1 = pcs.length := by omega
      have h0 : 0 < pcs.length := by omega
      rw [e1, Nat.mod_self, List.getElem?_eq_getElem h0]
      refine ⟨_, rfl, ?_⟩
      have z1 := h3 (List.getElem?_eq_none (by omega))
      have z2 := (jn_at h 0 _ (List.getElem?_eq_getElem h0)).1 rfl
      show spotF gs (endW ws pc.1 pc.2) = spotF gs pcs[0].1
      rw [z1, z2]
theorem at_last {xs : List V} {v : V} {j : Nat} (h : xs.length = j + 1) (hv : xs[j]? = some v) : atI xs (-1) = some v := by
  unfold atI ixN
  rw [if_neg (by decide), if_pos (by omega)]
  show xs[(-1 + (xs.length : Int)).toNat]? = some v
  rw [show (-1 + (xs.length : Int)).toNat = j by omega]
  exact hv
def NatsV (K : PySem.W.Frag) (H : Hp) (v : V) (e : Nat × Nat) : Prop := ∃ a, v = .ref a ∧ SqT K H a [.int ((e.1 : Nat) : Int), .int ((e.2 : Nat) : Int)]
theorem NatsV.tk {K : PySem.W.Frag} {H H' : Hp} {v : V} {e : Nat × Nat} (t : TK H H') (h : NatsV K H v e) : NatsV K H' v e := by
  obtain ⟨a, e', s⟩ := h
  exact ⟨a, e', t.seq s⟩
def spIsPiece (K : PySem.W.Frag) (C : Addr) : Sp := fun vs H Q _ => ∃ (p ng nw : Addr) (gs : List Gt) (ws : List Wr) (v : V) (pc : Pce), vs = [.ref p, v] ∧ NetAt K C H p ng nw gs ws ∧ NetOk gs ws ∧ PceV K H v pc ∧ PceOk gs ws pc ∧ ∀ H', Same H H' → Q (.bl true) H'
def spEndOf (K : PySem.W.Frag) (C : Addr) : Sp := fun vs H Q _ => ∃ (p ng nw : Addr) (gs : List Gt) (ws : List Wr) (v : V) (pc : Pce), vs = [.ref p, v] ∧ NetAt K C H p ng nw gs ws ∧ NetOk gs ws ∧ PceV K H v pc ∧ PceOk gs ws pc ∧ Q (.int ((endW ws pc.1 pc.2 : Nat) : Int)) H
def spEndsOf (K : PySem.W.Frag) (C : Addr) : Sp := fun vs H Q _ => ∃ (p ng nw : Addr) (gs : List Gt) (ws : List Wr) (v : V) (pc : Pce), vs = [.ref p, v] ∧ NetAt K C H p ng nw gs ws ∧ NetOk gs ws ∧ PceV K H v pc ∧ PceOk gs ws pc ∧ ∀ t H', Same H H' → H t = none → H' t = some (.tup [.int ((pc.1 : Nat) : Int), .int ((endW ws pc.1 pc.2 : Nat) : Int)]) → Q (.ref t) H'
def spFirstGap (K : PySem.W.Frag) (C : Addr) : Sp := fun vs H Q _ => ∃ (p ng nw le : Addr) (gs : List Gt) (ws : List Wr) (ev : List V) (es : List (Nat × Nat)), vs = [.ref p, .ref le] ∧ NetAt K C H p ng nw gs ws ∧ NetOk gs ws ∧ H le = some (.lst ev) ∧ All2 (NatsV K H) ev es ∧ (∀ e ∈ es, e.1 < gs.length ∧ e.2 < gs.length) ∧ Ringed gs es ∧ ∀ H', Same H H' → Q .non H'
/-- pieces that are a ring: told a fault only where their rooms are no less than nothing -/
def spBarFault (K : PySem.W.Frag) (C : Addr) : Sp := fun vs H Q _ => ∃ (p ng nw l : Addr) (gs : List Gt) (ws : List Wr) (b : Int) (pcs : List Pce), vs = [.ref p, .int b, .ref l] ∧ NetAt K C H p ng nw gs ws ∧ NetOk gs ws ∧ 0 ≤ b ∧ BarV K H l pcs ∧ pcs ≠ [] ∧ pcs.length ≤ 200 ∧ (∀ pc ∈ pcs, PceOk gs ws pc ∧ pc.2.length ≤ 1000) ∧ (∃ v, Jn gs ws v pcs v) ∧
  (roomsF gs ws b pcs < 0 → ∀ H', Same H H' → Q .non H') ∧ (0 ≤ roomsF gs ws b pcs → ∀ t H', Same H H' → H' t = some (.tup [.str "sum", .int (roomsF gs ws b pcs)]) → Q (.ref t) H')
theorem BarV.same {K : PySem.W.Frag} {H H' : Hp} {l : Addr} {pcs : List Pce} (s : Same H H') (h : BarV K H l pcs) : BarV K H' l pcs := by
  obtain ⟨pv, h1, h2⟩ := h
  exact ⟨pv, s _ _ h1, h2.imp fun _ _ r => r.same s⟩
section
variable {P : Program} {w : World} {K : PySem.W.Frag} {mg : Str → Option Value} {base : Heap}
abbrev nIsPiece : List Str := ["net", "thing", "gate", "wires", "place"]
theorem scIsPiece : FnScope nIsPiece ["net", "thing"] (defScope sIsPiece) := ⟨rfl, rfl, rfl, by decide +kernel, rfl, by decide +kernel, by decide +kernel⟩
abbrev DIsPiece (P : Program) (w : World) (K : PySem.W.Frag) (mg : Str → Option Value) (base : Heap) (C : Addr) := Df P w K mg base 3 "is_piece" ["net", "thing"] (spIsPiece K C)
theorem ok_isPiece {f fF C : Addr} {fd fdF : FuncData} (F : Fun K "is_piece" "is_piece" sIsPiece f fd) (hm : mg "is_piece" = some (.ref f)) (B : Bt mg) (T : NT K mg C) (DF : DFromTo P w K mg base fF fdF) : DIsPiece P w K mg base C f fd := by
  refine ⟨?_, hm, F.kp, F.binds fun _ _ _ _ _ _ us hl => match us, hl with | [_, _], _ => rfl⟩
  refine F.ok scIsPiece (fun vs H Q E h => ?_) (fun cdv A outer s H vs Q E hr h => ?_)
  · obtain ⟨p, ng, nw, gs, ws, v, pc, rfl, _⟩ := h
    rfl
  · obtain ⟨p, ng, nw, gs, ws, _, pc, rfl, NA, N, ⟨a, l, rfl, sa, sl⟩, ⟨hg, e0, hp⟩, q⟩ := h
    have nd := scIsPiece.nd
    refine ⟨_, pss_cons (ps_if (PW.pt (pw_or (pt_not (pt_val (pe_callB call_isi (by rfl) B.isi (by decide +kernel) (pa_cons (pv 1) (pa_cons (pe_bltn (v := .ty "tuple") (by rfl) B.tuple (by decide +kernel) rfl) pa_nil))))) (pw_or1 (pt_cmpR op_ne (pe_callB call_len_seq (by rfl) B.len PySem.boot_len (pa_cons (pv 1) pa_nil)) pe_int (nomark _))))) (pss_one (ps_ret pe_bl)) pss_nil) <|
        pss_cons (ps_asg (pv 1) (pg_tup rfl (pgs_cons (pg_name (i := 2) nd rfl (.inl rfl)) (pgs_cons (pg_name (i := 3) nd rfl (.inl rfl)) pgs_nil)))) <|
        pss_cons (ps_if (PW.pt (pw_or (pt_not (pt_val (pe_call DF.ok (hr.mono (by decide)) (by rfl) DF.mg DF.kp DF.bd .nil pass0 (pa_cons (pv 2) (pa_cons pe_int (pa_cons (pe_op op_sub (pe_callB call_len_seq (by rfl) B.len PySem.boot_len (pa_cons (pe_fld (pv 0) rfl) pa_nil)) pe_int) pa_nil)))))) (pw_or1 (pt_not (pt_val (pe_callB call_isi (by rfl) B.isi (by decide +kernel) (pa_cons (pv 3) (pa_cons (pe_bltn (v := .ty "list") (by rfl) B.list (by decide +kernel) rfl) pa_nil)))))))) (pss_one (ps_ret pe_bl)) pss_nil) <|
        pss_cons (ps_for PassesOwn.never rfl (pi_list (pv 3)) (pg_name (i := 4) nd rfl (.inl rfl)) (pss_cons (ps_if (PW.pt (pw_or (pt_not (pt_val (pe_call DF.ok (hr.mono (by decide)) (by rfl) DF.mg DF.kp DF.bd .nil pass0 (pa_cons (pv 4) (pa_cons pe_int (pa_cons (pe_op op_sub (pe_callB call_len_seq (by rfl) B.len PySem.boot_len (pa_cons (pe_fld (pv 0) rfl) pa_nil)) pe_int) pa_nil)))))) (pw_or1 (pt_cmpR op_ne (pe_ix ix_tup (pe_ix ix_list (pe_fld (pv 0) rfl) (pv 4) (fun _ _ => rfl)) pe_int (fun _ _ => rfl)) (pv 2) (nomark _))))) (pss_one (ps_ret pe_bl)) pss_nil) <|
        pss_one (ps_set (i := 2) nd rfl (.inl rfl) (pe_ix ix_tup (pe_ix ix_list (pe_fld (pv 0) rfl) (pv 4) (fun _ _ => rfl)) pe_int (fun _ _ => rfl))))) <|
        pss_one (ps_ret pe_bl), ?_⟩
    obtain ⟨dx, ob⟩ := id NA.ob
    obtain ⟨gv, hgv, ga⟩ := id NA.g
    obtain ⟨wv, hwv, wa⟩ := id NA.w
    have hlw : wv.length = ws.length := wa.1
    have hlg : gv.length = gs.length := ga.1
    refine ⟨_, rfl, _, _, _, _, true, rfl, .ty "tuple", ty_tup sa, kit_ty (by decide +kernel), true, rfl, iteF ?_⟩
    refine ⟨_, rfl, a, _, rfl, .inr sa, rfl, false, rfl, iteF ?_⟩
    refine ⟨_, rfl, a, _, rfl, sa, rfl, _, _, rfl, _, _, rfl, rfl, ?_⟩
    refine ⟨_, rfl, _, rfl, p, C, dx, _, _, rfl, ob, T.cl, T.nG, nf_gates _ _, ng, gv, rfl, .inl (SqL.of hgv), _, _, rfl, rfl, ((pc.1 : Nat) : Int), 0, _, rfl, true, ?_, iteF ?_⟩
    · show V.bl (decide ((0 : Int) ≤ ((pc.1 : Nat) : Int)) && decide (((pc.1 : Nat) : Int) ≤ ((gv.length : Nat) : Int) - 1)) = V.bl true
      rw [decide_eq_true (by omega), decide_eq_true (by omega)]
      rfl
    refine ⟨_, rfl, _, _, _, _, true, rfl, .ty "list", ty_lst sl, kit_ty (by decide +kernel), true, rfl, iteF ?_⟩
    refine ⟨_, rfl, l, rfl, ⟨_, sl⟩, for_list (K := K) (a := l) (xs := nvs pc.2) (fun i σ H' => ∃ (g : Nat) (u4 : Option V), σ = [some (.ref p), some (.ref a), some (.int ((g : Nat) : Int)), some (.ref l), u4] ∧ Pw ws pc.1 (pc.2.take i) g ∧ Same H H') ⟨pc.1, _, rfl, rfl, Same.refl H⟩ (fun i σ H2 _ ⟨_, _, _, _, sm⟩ => sm.seq sl) ?_ ?_⟩
    · rintro i v σ H1 hv ⟨g, u4, rfl, hpw, sm⟩
      obtain ⟨k, hk, rfl⟩ := nvs_of hv
      have hkw := hp.places k (List.mem_of_getElem? hk)
      have hx := List.getElem?_eq_getElem hkw
      obtain ⟨_, hv', b, b2, rfl, s1, s2⟩ := wa.getR hx
      obtain ⟨hil, hke⟩ := List.getElem?_eq_some_iff.mp hk
      have es : pc.2 = pc.2.take i ++ k :: pc.2.drop (i + 1) := by
        rw [← hke, List.getElem_cons_drop hil, List.take_append_drop]
      have hgx : ws[k].1 = g := by
        rw [es] at hp
        obtain ⟨m, h1, x, hx', hs, _⟩ := hp.split
        rw [hx] at hx'
        cases hx'
        rw [hs]
        exact h1.fn hpw
      have tk := TK.same sm
      refine gn_norm (σ' := [some (.ref p), some (.ref a), some (.int ((g : Nat) : Int)), some (.ref l), some (.int ((k : Nat) : Int))]) rfl ?_
      refine ⟨_, rfl, _, rfl, p, C, dx, _, _, rfl, sm _ _ ob, T.cl, T.nW, nf_wires _ _, nw, wv, rfl, .inl (SqL.of (sm _ _ hwv)), _, _, rfl, rfl, ((k : Nat) : Int), 0, _, rfl, true, ?_, iteF ?_⟩
      · show V.bl (decide ((0 : Int) ≤ ((k : Nat) : Int)) && decide (((k : Nat) : Int) ≤ ((wv.length : Nat) : Int) - 1)) = V.bl true
        rw [decide_eq_true (by omega), decide_eq_true (by omega)]
        rfl
      refine ⟨_, rfl, p, C, dx, _, _, rfl, sm _ _ ob, T.cl, T.nW, nf_wires _ _, _, rfl, nw, _, k, _, rfl, rfl, SqL.of (sm _ _ hwv), atI_nat hv', b, _, 0, _, rfl, rfl, tk.seq s1, atI_nat (j := 0) rfl, _, rfl, rfl, false, ?_, iteF ?_⟩
      · rw [hgx, decide_eq_true rfl]
        rfl
      refine ⟨_, rfl, p, C, dx, _, _, rfl, sm _ _ ob, T.cl, T.nW, nf_wires _ _, _, rfl, nw, _, k, _, rfl, rfl, SqL.of (sm _ _ hwv), atI_nat hv', b, _, 1, _, rfl, rfl, tk.seq s1, atI_nat (j := 1) rfl, ws[k].2.1, _, rfl, ?_, sm⟩
      rw [List.take_add_one, hk]
      exact hpw.snoc hx hgx
    · rintro σ H1 ⟨g, u4, rfl, hpw, sm⟩
      exact q H1 sm
abbrev nEndOf : List Str := ["net", "piece", "gate", "wires"]
theorem scEndOf : FnScope nEndOf ["net", "piece"] (defScope sEndOf) := ⟨rfl, rfl, rfl, by decide +kernel, rfl, by decide +kernel, by decide +kernel⟩
abbrev DEndOf (P : Program) (w : World) (K : PySem.W.Frag) (mg : Str → Option Value) (base : Heap) (C : Addr) := Df P w K mg base 1 "end_of" ["net", "piece"] (spEndOf K C)
theorem ok_endOf {f C : Addr} {fd : FuncData} (F : Fun K "end_of" "end_of" sEndOf f fd) (hm : mg "end_of" = some (.ref f)) (B : Bt mg) (T : NT K mg C) : DEndOf P w K mg base C f fd := by
  refine ⟨?_, hm, F.kp, F.binds fun _ _ _ _ _ _ us hl => match us, hl with | [_, _], _ => rfl⟩
  refine F.ok scEndOf (fun vs H Q E h => ?_) (fun cdv A outer s H vs Q E hr h => ?_)
  · obtain ⟨p, ng, nw, gs, ws, v, pc, rfl, _⟩ := h
    rfl
  · obtain ⟨p, ng, nw, gs, ws, _, pc, rfl, NA, N, ⟨a, l, rfl, sa, sl⟩, ⟨hg, e0, hp⟩, q⟩ := h
    have nd := scEndOf.nd
    refine ⟨_, pss_cons (ps_asg (pv 1) (pg_tup rfl (pgs_cons (pg_name (i := 2) nd rfl (.inl rfl)) (pgs_cons (pg_name (i := 3) nd rfl (.inl rfl)) pgs_nil)))) <|
        pss_one (ps_ret (pe_ifExp (pt_cmpR op_gt (pe_callB call_len_seq (by rfl) B.len PySem.boot_len (pa_cons (pv 3) pa_nil)) pe_int (nomark _)) (pe_ix ix_tup (pe_ix ix_list (pe_fld (pv 0) rfl) (pe_ix ix_list (pv 3) (pe_un un_neg pe_int) (fun _ _ => rfl)) (fun _ _ => rfl)) pe_int (fun _ _ => rfl)) (pv 2))), ?_⟩
    obtain ⟨dx, ob⟩ := id NA.ob
    obtain ⟨wv, hwv, wa⟩ := id NA.w
    refine ⟨_, rfl, a, _, rfl, sa, rfl, _, _, rfl, _, _, rfl, rfl, ?_⟩
    refine ⟨_, rfl, l, nvs pc.2, rfl, .inl sl, _, _, rfl, rfl, _, rfl, ite2 (fun e => ?_) (fun e => ?_)⟩
    · have hne : 0 < pc.2.length := by
        have := of_decide_eq_true e
        rw [nvs_len] at this
        omega
      rcases List.eq_nil_or_concat pc.2 with z | ⟨r, k, z⟩
      · rw [z] at hne
        cases hne
      · rw [List.concat_eq_append] at z
        have hkk := hp.places k (by rw [z]; exact List.mem_append.mpr (.inr (List.mem_singleton.mpr rfl)))
        have hx := List.getElem?_eq_getElem hkk
        obtain ⟨_, hv', b, b2, rfl, s1, s2⟩ := wa.getR hx
        have hl : (nvs pc.2).length = r.length + 1 := by
          rw [nvs_len, z, List.length_append]
          rfl
        have hlast : (nvs pc.2)[r.length]? = some (.int ((k : Nat) : Int)) := nvs_at (by rw [z, List.getElem?_append_right (Nat.le_refl _), Nat.sub_self]; rfl)
        refine ⟨_, rfl, p, C, dx, _, _, rfl, ob, T.cl, T.nW, nf_wires _ _, _, rfl, _, rfl, l, nvs pc.2, -1, _, rfl, rfl, sl, at_last hl hlast, nw, _, k, _, rfl, rfl, SqL.of hwv, atI_nat hv', b, _, 1, _, rfl, rfl, s1, atI_nat (j := 1) rfl, ?_⟩
        have : endW ws pc.1 pc.2 = (ws[k]'hkk).2.1 := by
          rw [z]
          unfold endW
          rw [List.foldl_append]
          show (svW ws k).2.1 = _
          rw [svW_get hx]
        rw [← this]
        exact q
    · have h0 : pc.2 = [] := by
        refine List.length_eq_zero_iff.mp ?_
        have : ¬ (((nvs pc.2).length : Nat) : Int) > 0 := fun h => e (decide_eq_true h)
        rw [nvs_len] at this
        omega
      have : endW ws pc.1 pc.2 = pc.1 := by rw [h0]; rfl
      rw [this] at q
      exact ⟨_, rfl, q⟩
abbrev nEndsOf : List Str := ["net", "piece"]
theorem scEndsOf : FnScope nEndsOf ["net", "piece"] (defScope sEndsOf) := ⟨rfl, rfl, rfl, by decide +kernel, rfl, by decide +kernel, by decide +kernel⟩
abbrev DEndsOf (P : Program) (w : World) (K : PySem.W.Frag) (mg : Str → Option Value) (base : Heap) (C : Addr) := Df P w K mg base 2 "ends_of" ["net", "piece"] (spEndsOf K C)
theorem ok_endsOf {f fE C : Addr} {fd fdE : FuncData} (F : Fun K "ends_of" "ends_of" sEndsOf f fd) (hm : mg "ends_of" = some (.ref f)) (DEo : DEndOf P w K mg base C fE fdE) : DEndsOf P w K mg base C f fd := by
  refine ⟨?_, hm, F.kp, F.binds fun _ _ _ _ _ _ us hl => match us, hl with | [_, _], _ => rfl⟩
  refine F.ok scEndsOf (fun vs H Q E h => ?_) (fun cdv A outer s H vs Q E hr h => ?_)
  · obtain ⟨p, ng, nw, gs, ws, v, pc, rfl, _⟩ := h
    rfl
  · obtain ⟨p, ng, nw, gs, ws, _, pc, rfl, NA, N, pcv, pok, q⟩ := h
    have nd := scEndsOf.nd
    refine ⟨_, pss_one (ps_ret (pe_tup (pa_cons (pe_ix ix_tup (pv 1) pe_int (fun _ _ => rfl)) (pa_cons (pe_call DEo.ok (hr.mono (by decide)) (by rfl) DEo.mg DEo.kp DEo.bd .nil pass0 (pa_cons (pv 0) (pa_cons (pv 1) pa_nil))) pa_nil)))), ?_⟩
    obtain ⟨a, l, rfl, sa, sl⟩ := id pcv
    exact ⟨_, rfl, a, _, 0, _, rfl, rfl, sa, atI_nat (j := 0) rfl, _, rfl, _, rfl, p, ng, nw, gs, ws, _, pc, rfl, NA, N, pcv, pok, (by show 2 ≤ sizeLine; decide), fun t ht => q t _ (same_new ht) ht upd_same⟩
abbrev nFirstGap : List Str := ["net", "ends", "spots", "k", "start", "end", "behind"]
theorem scFirstGap : FnScope nFirstGap ["net", "ends"] (defScope sFirstGap) := ⟨rfl, rfl, rfl, by decide +kernel, rfl, by decide +kernel, by decide +kernel⟩
abbrev DFirstGap (P : Program) (w : World) (K : PySem.W.Frag) (mg : Str → Option Value) (base : Heap) (C : Addr) := Df P w K mg base 3 "first_gap" ["net", "ends"] (spFirstGap K C)
theorem ok_firstGap {f fS C : Addr} {fd fdS : FuncData} (F : Fun K "first_gap" "first_gap" sFirstGap f fd) (hm : mg "first_gap" = some (.ref f)) (B : Bt mg) (DSp : DSpotsOf P w K mg base C fS fdS) : DFirstGap P w K mg base C f fd := by
  refine ⟨?_, hm, F.kp, F.binds fun _ _ _ _ _ _ us hl => match us, hl with | [_, _], _ => rfl⟩
  refine F.ok scFirstGap (fun vs H Q E h => ?_) (fun cdv A outer s H vs Q E hr h => ?_)
  · obtain ⟨p, ng, nw, le, gs, ws, ev, es, rfl, _⟩ := h
    rfl
  · obtain ⟨p, ng, nw, le, gs, ws, ev, es, rfl, NA, N, hev, ea, elt, ring, q⟩ := h
    have nd := scFirstGap.nd
    refine ⟨_, pss_cons (ps_set (i := 2) nd rfl (.inl rfl) (pe_call DSp.ok (hr.mono (by decide)) (by rfl) DSp.mg DSp.kp DSp.bd .nil pass0 (pa_cons (pv 0) pa_nil))) <|
        pss_cons (ps_for PassesOwn.never rfl (pi_enum (by rfl) B.enum (pa_cons (pv 1) pa_nil)) (pg_tup rfl (pgs_cons (pg_name (i := 3) nd rfl (.inl rfl)) (pgs_cons (pg_tup rfl (pgs_cons (pg_name (i := 4) nd rfl (.inl rfl)) (pgs_cons (pg_name (i := 5) nd rfl (.inl rfl)) pgs_nil))) pgs_nil))) (pss_cons (ps_set (i := 6) nd rfl (.inl rfl) (pe_ix ix_list (pv 1) (pe_op op_mod (pe_op op_add (pv 3) pe_int) (pe_callB call_len_seq (by rfl) B.len PySem.boot_len (pa_cons (pv 1) pa_nil))) (fun _ _ => rfl))) <|
        pss_one (ps_if (pt_cmpR op_ne (pe_ix ix_list (pv 2) (pv 5) (fun _ _ => rfl)) (pe_ix ix_list (pv 2) (pe_ix ix_tup (pv 6) pe_int (fun _ _ => rfl)) (fun _ _ => rfl)) (nomark _)) (pss_one (ps_ret (pv 3))) pss_nil))) <|
        pss_one (ps_ret pe_non), ?_⟩
    have hle : ev.length = es.length := ea.1
    refine ⟨_, rfl, p, ng, nw, gs, ws, rfl, NA, N, fun ls H1 s1 hls els => ?_⟩
    refine gn_norm (σ' := [some (.ref p), some (.ref le), some (.ref ls), none, none, none, none]) rfl ?_
    refine ⟨_, rfl, le, ev, rfl, SqL.of (s1 _ _ hev), for_it (walk_enum (K := K) (a := le) (xs := ev)) (fun j σ H' => ∃ (u3 u4 u5 u6 : Option V), σ = [some (.ref p), some (.ref le), some (.ref ls), u3, u4, u5, u6] ∧ Same H1 H') ⟨_, _, _, _, rfl, Same.refl _⟩ (fun j σ H' _ ⟨_, _, _, _, _, sm⟩ => SqL.of (sm _ _ (s1 _ _ hev))) ?_ ?_⟩
    · rintro j v σ H7 H7' hj ⟨u3, u4, u5, u6, rfl, sm⟩ ⟨T', x1, y, rfl, hT, rfl, ex, ey⟩
      cases ex
      obtain ⟨e, he, a, rfl, sq⟩ := ea.get ey
      have hji : j < es.length := (List.getElem?_eq_some_iff.mp he).1
      have sT := same_new (o := .tup [.int (j : Nat), .ref a]) hT
      have eT : (upd H7 T' (.tup [.int (j : Nat), .ref a])) T' = some (.tup [.int (j : Nat), .ref a]) := upd_same
      have sm8 := sm.trans sT
      generalize upd H7 T' (.tup [.int (j : Nat), .ref a]) = H8 at sT eT sm8
      have tk8 := TK.same (s1.trans sm8)
      obtain ⟨e', he', hsp⟩ := ring j e he
      obtain ⟨_, hve', a', rfl, sq'⟩ := ea.getR he'
      have hev8 := sm8 _ _ (s1 _ _ hev)
      have els8 := sm8 _ _ els
      have lt1 := (elt e (List.mem_of_getElem? he)).2
      have lt2 := (elt e' (List.mem_of_getElem? he')).1
      refine ⟨T', _, rfl, .inl (.inl eT), rfl, _, _, rfl, _, _, rfl, a, _, rfl, tk8.seq sq, rfl, _, _, rfl, _, _, rfl, rfl, rfl, ?_⟩
      refine ⟨_, rfl, _, rfl, _, _, rfl, rfl, _, rfl, le, ev, rfl, .inl (SqL.of hev8), _, _, rfl, rfl, (by show (0 : Int) < ((ev.length : Nat) : Int); omega), ?_⟩
      have em : (((j : Nat) : Int) + 1) % ((ev.length : Nat) : Int) = (((j + 1) % es.length : Nat) : Int) := by
        rw [hle, Int.natCast_emod]
        rfl
      refine ⟨le, ev, (((j + 1) % es.length : Nat) : Int), _, rfl, congrArg V.int em, SqL.of hev8, atI_nat hve', ?_⟩
      refine gn_norm (σ' := [some (.ref p), some (.ref le), some (.ref ls), some (.int ((j : Nat) : Int)), some (.int ((e.1 : Nat) : Int)), some (.int ((e.2 : Nat) : Int)), some (.ref a')]) rfl ?_
      refine ⟨_, rfl, _, rfl, ls, _, e.2, _, rfl, rfl, SqL.of els8, atI_nat (spots_at lt1), _, rfl, _, rfl, a', _, 0, _, rfl, rfl, tk8.seq sq', atI_nat (j := 0) rfl, ls, _, e'.1, _, rfl, rfl, SqL.of els8, atI_nat (spots_at lt2), rfl, false, ?_, iteF ⟨_, _, _, _, rfl, sm8⟩⟩
      rw [hsp, decide_eq_true rfl]
      rfl
    · rintro σ H7 ⟨u3, u4, u5, u6, rfl, sm⟩
      exact q H7 (s1.trans sm)
abbrev nBarFault : List Str := ["net", "beat", "thing", "piece", "gap", "room"]
theorem scBarFault : FnScope nBarFault ["net", "beat", "thing"] (defScope sBarFault) := ⟨rfl, rfl, rfl, by decide +kernel, rfl, by decide +kernel, by decide +kernel⟩
abbrev DBarFault (P : Program) (w : World) (K : PySem.W.Frag) (mg : Str → Option Value) (base : Heap) (C : Addr) := Df P w K mg base 4 "bar_fault" ["net", "beat", "thing"] (spBarFault K C)
theorem ok_barFault {f fC fI fE fG fR C : Addr} {fd fdC fdI fdE fdG fdR : FuncData} (F : Fun K "bar_fault" "bar_fault" sBarFault f fd) (hm : mg "bar_fault" = some (.ref f)) (B : Bt mg) (ms : mg "sum" = none) (DCb : DChkB P w K mg base fC fdC) (DIp : DIsPiece P w K mg base C fI fdI) (DEs : DEndsOf P w K mg base C fE fdE) (DFg : DFirstGap P w K mg base C fG fdG) (DRm : DRoomOf P w K mg base C fR fdR) : DBarFault P w K mg base C f fd := by
  refine ⟨?_, hm, F.kp, F.binds fun _ _ _ _ _ _ us hl => match us, hl with | [_, _, _], _ => rfl⟩
  refine F.ok scBarFault (fun vs H Q E h => ?_) (fun cdv A outer s H vs Q E hr h => ?_)
  · obtain ⟨p, ng, nw, l, gs, ws, b, pcs, rfl, _⟩ := h
    rfl
  · obtain ⟨p, ng, nw, l, gs, ws, b, pcs, rfl, NA, N, hb, bar, hne, hl2, pok, ⟨v0, jn⟩, q1, q2⟩ := h
    have nd := scBarFault.nd
    refine ⟨_, pss_cons (ps_expr (pe_call DCb.ok (hr.mono (by decide)) (by rfl) DCb.mg DCb.kp DCb.bd .nil pass0 (pa_cons (pv 1) pa_nil))) <|
        pss_cons (ps_if (PW.pt (pw_or (pt_not (pt_val (pe_callB call_isi (by rfl) B.isi (by decide +kernel) (pa_cons (pv 2) (pa_cons (pe_bltn (v := .ty "list") (by rfl) B.list (by decide +kernel) rfl) pa_nil))))) (pw_or1 (pt_cmpR op_eq (pe_callB call_len_seq (by rfl) B.len PySem.boot_len (pa_cons (pv 2) pa_nil)) pe_int (nomark _))))) (pss_one (ps_ret (pe_tup (pa_cons pe_str pa_nil)))) pss_nil) <|
        pss_cons (ps_if (pt_not (pt_val (pe_callB (cr_all rfl) (by rfl) B.all (by decide +kernel) (pa_cons (pe_lc (own := [("piece", 3)]) (g := (gName 3)) (tt := tYes) (te := (tCall (spIsPiece K C) [] E0 (tCons (tVar 0) (tCons (tVar 3) tNil)))) rfl nd (pi_list (pv 2)) (blkOk_by (N := nBarFault) (sc := defScope sBarFault) (own := [("piece", 3)]) (by decide +kernel)) (fun _ _ _ _ _ => (pg_name (i := 3) nd rfl (.inl rfl))) (fun _ _ _ _ _ => pts_nil) (fun _ _ _ _ _ => (pe_call DIp.ok (hr.mono (by decide)) (by rfl) DIp.mg DIp.kp DIp.bd .nil pass0 (pa_cons (pv 0) (pa_cons (pv 3) pa_nil))))) pa_nil)))) (pss_one (ps_ret (pe_tup (pa_cons pe_str pa_nil)))) pss_nil) <|
        pss_cons (ps_set (i := 4) nd rfl (.inl rfl) (pe_call DFg.ok (hr.mono (by decide)) (by rfl) DFg.mg DFg.kp DFg.bd .nil pass0 (pa_cons (pv 0) (pa_cons (pe_lc (own := [("piece", 3)]) (g := (gName 3)) (tt := tYes) (te := (tCall (spEndsOf K C) [] E0 (tCons (tVar 0) (tCons (tVar 3) tNil)))) rfl nd (pi_list (pv 2)) (blkOk_by (N := nBarFault) (sc := defScope sBarFault) (own := [("piece", 3)]) (by decide +kernel)) (fun _ _ _ _ _ => (pg_name (i := 3) nd rfl (.inl rfl))) (fun _ _ _ _ _ => pts_nil) (fun _ _ _ _ _ => (pe_call DEs.ok (hr.mono (by decide)) (by rfl) DEs.mg DEs.kp DEs.bd .nil pass0 (pa_cons (pv 0) (pa_cons (pv 3) pa_nil))))) pa_nil)))) <|
        pss_cons (ps_if (pt_cmpR op_notN (pv 4) pe_non (nomark _)) (pss_one (ps_ret (pe_tup (pa_cons pe_str (pa_cons (pv 4) pa_nil))))) pss_nil) <|
        pss_cons (ps_set (i := 5) nd rfl (.inl rfl) (pe_callB (cr_sum rfl) (by rfl) ms (by decide +kernel) (pa_cons (pe_lc (own := [("piece", 3)]) (g := (gName 3)) (tt := tYes) (te := (tCall (spRoomOf K C) [] E0 (tCons (tVar 0) (tCons (tVar 1) (tCons (tVar 3) tNil))))) rfl nd (pi_list (pv 2)) (blkOk_by (N := nBarFault) (sc := defScope sBarFault) (own := [("piece", 3)]) (by decide +kernel)) (fun _ _ _ _ _ => (pg_name (i := 3) nd rfl (.inl rfl))) (fun _ _ _ _ _ => pts_nil) (fun _ _ _ _ _ => (pe_call DRm.ok (hr.mono (by decide)) (by rfl) DRm.mg DRm.kp DRm.bd .nil pass0 (pa_cons (pv 0) (pa_cons (pv 1) (pa_cons (pv 3) pa_nil)))))) pa_nil))) <|
        pss_one (ps_ret (pe_ifExp (pt_cmpR op_ge (pv 5) pe_int (nomark _)) (pe_tup (pa_cons pe_str (pa_cons (pv 5) pa_nil))) pe_non)), ?_⟩
    obtain ⟨pv, hpv, pa⟩ := id bar
    have hpl : pv.length = pcs.length := pa.1
    have hpos : 0 < pcs.length := List.length_pos_iff.mpr hne
    refine ⟨_, rfl, b, rfl, hb, ?_⟩
    refine ⟨_, rfl, _, _, _, _, true, rfl, .ty "list", ty_lst (SqL.of hpv), kit_ty (by decide +kernel), true, rfl, iteF ?_⟩
    refine ⟨_, rfl, l, pv, rfl, .inl (SqL.of hpv), rfl, false, ?_, iteF ?_⟩
    · show V.bl (decide (V.int ((pv.length : Nat) : Int) = V.int 0)) = V.bl false
      rw [decide_eq_false fun z => by have := V.int.inj z; omega]
    -- all are pieces
    refine ⟨_, rfl, l, rfl, ⟨_, SqL.of hpv⟩, fun D hD => ?_⟩
    refine lc_list (K := K) (a := l) (xs := pv) (fun i Hc => Hc D = some (.lst ((List.replicate i true).map V.bl)) ∧ Same H Hc) ⟨upd_same, same_new hD⟩ (fun i Hc _ ⟨_, sm⟩ => SqL.of (sm _ _ hpv)) ?_ ?_
    · rintro i v Hc hv ⟨hc, sm⟩
      obtain ⟨pc, hpc, pcv⟩ := pa.get hv
      have hi : i < pcs.length := (List.getElem?_eq_some_iff.mp hpc).1
      refine ⟨rfl, tyes ?_⟩
      refine ⟨_, rfl, _, rfl, p, ng, nw, gs, ws, _, pc, rfl, NA.same sm, N, pcv.same sm, (pok pc (List.mem_of_getElem? hpc)).1, fun H2 s2 => ?_⟩
      refine ⟨_, s2 _ _ hc, ?_, ?_, same_mut (sm.trans s2) hD⟩
      · rw [List.length_map, List.length_replicate]
        exact small1000 (by omega)
      · rw [upd_same, List.replicate_succ', List.map_append]
        rfl
    rintro H1 ⟨h1, s1⟩
    refine ⟨D, List.replicate pv.length true, rfl, SqL.of h1, true, ?_, iteF ?_⟩
    · have : ∀ n : Nat, (List.replicate n true).all id = true := fun n => by
        rw [List.all_eq_true]
        intro x hx
        exact List.eq_of_mem_replicate hx
      rw [this]
    have hpv1 := s1 _ _ hpv
    have pa1 := pa.imp fun _ _ r => PceV.same s1 r
    -- no gap
    refine ⟨_, rfl, _, rfl, l, rfl, ⟨_, SqL.of hpv1⟩, fun D2 hD2 => ?_⟩
    refine lc_list (K := K) (a := l) (xs := pv) (fun i Hc => ∃ ev : List V, Hc D2 = some (.lst ev) ∧ ev.length = i ∧ All2 (NatsV K Hc) ev ((pcs.take i).map (endsF ws)) ∧ Same H1 Hc) ⟨[], upd_same, rfl, All2.nil, same_new hD2⟩ (fun i Hc _ ⟨_, _, _, _, sm⟩ => SqL.of (sm _ _ hpv1)) ?_ ?_
    · rintro i v Hc hv ⟨ev, hc, hel, ea, sm⟩
      obtain ⟨pc, hpc, pcv⟩ := pa1.get hv
      have hi : i < pcs.length := (List.getElem?_eq_some_iff.mp hpc).1
      refine ⟨rfl, tyes ?_⟩
      refine ⟨_, rfl, _, rfl, p, ng, nw, gs, ws, _, pc, rfl, (NA.same s1).same sm, N, pcv.same sm, (pok pc (List.mem_of_getElem? hpc)).1, fun t H2 s2 ht et => ?_⟩
      refine ⟨ev, s2 _ _ hc, small1000 (by omega), ev ++ [.ref t], upd_same, by rw [List.length_append, hel]; rfl, ?_, same_mut (sm.trans s2) hD2⟩
      rw [List.take_add_one, hpc, List.map_append]
      exact All2.pushT (fun t r => NatsV.tk t r) ea (s2 _ _ hc) (TK.same s2) ⟨t, rfl, .inl (.inl et)⟩
    rintro H2 ⟨ev, hev, hel, ea, s2⟩
    rw [hpl, List.take_length] at ea
    have s12 := s1.trans s2
    refine ⟨p, ng, nw, D2, gs, ws, ev, pcs.map (endsF ws), rfl, NA.same s12, N, hev, ea, fun e he => ?_, jn_ringed jn, fun H3 s3 => ?_⟩
    · obtain ⟨pc, hpc, rfl⟩ := List.mem_map.mp he
      obtain ⟨h1, e, h2⟩ := (pok pc hpc).1
      refine ⟨h1, ?_⟩
      show endW ws pc.1 pc.2 < gs.length
      rw [endW_of h2]
      exact h2.lt N h1
    refine gn_norm (σ' := [some (.ref p), some (.int b), some (.ref l), none, some .non, none]) rfl ?_
    refine ⟨_, rfl, rfl, _, rfl, iteF ?_⟩
    have s13 := s12.trans s3
    have hpv3 := s13 _ _ hpv
    have pa3 := pa.imp fun _ _ r => PceV.same s13 r
    -- the rooms
    refine ⟨_, rfl, l, rfl, ⟨_, SqL.of hpv3⟩, fun D3 hD3 => ?_⟩
    refine lc_list (K := K) (a := l) (xs := pv) (fun i Hc => Hc D3 = some (.lst (((pcs.take i).map (roomF gs ws b)).map V.int)) ∧ Same H3 Hc) ⟨upd_same, same_new hD3⟩ (fun i Hc _ ⟨_, sm⟩ => SqL.of (sm _ _ hpv3)) ?_ ?_
    · rintro i v Hc hv ⟨hc, sm⟩
      obtain ⟨pc, hpc, pcv⟩ := pa3.get hv
      have hi : i < pcs.length := (List.getElem?_eq_some_iff.mp hpc).1
      refine ⟨rfl, tyes ?_⟩
      refine ⟨_, rfl, _, rfl, _, rfl, p, ng, nw, gs, ws, b, _, pc, rfl, (NA.same s13).same sm, N, pcv.same sm, (pok pc (List.mem_of_getElem? hpc)).1, (pok pc (List.mem_of_getElem? hpc)).2, fun H4 s4 => ?_⟩
      refine ⟨_, s4 _ _ hc, ?_, ?_, same_mut (sm.trans s4) hD3⟩
      · rw [List.length_map, List.length_map, List.length_take]
        exact small1000 (by omega)
      · rw [upd_same, List.take_add_one, hpc, List.map_append, List.map_append]
        rfl
    rintro H4 ⟨h4, s4⟩
    rw [hpl, List.take_length] at h4
    have s14 := s13.trans s4
    refine ⟨D3, _, rfl, SqL.of h4, ?_⟩
    refine gn_norm (σ' := [some (.ref p), some (.int b), some (.ref l), none, some .non, some (.int (roomsF gs ws b pcs))]) rfl ?_
    refine ⟨_, rfl, _, _, rfl, rfl, _, rfl, ite2 (fun e => ?_) (fun e => ?_)⟩
    · refine ⟨_, rfl, (by show 2 ≤ sizeLine; decide), fun t ht => ?_⟩
      exact q2 (of_decide_eq_true e) t _ (s14.trans (same_new ht)) upd_same
    · refine q1 ?_ H4 s14
      have : ¬ roomsF gs ws b pcs ≥ 0 := fun h => e (decide_eq_true h)
      omega
end
end Lag

set_option maxRecDepth 100000
set_option maxHeartbeats 8000000
namespace Lag
open PySem PySem.Spec PyProof.Rows L2
/-! ### numbers for bounds: the mathematics of flows -/
def wsum (c : Bnd → Int) : List Bnd → List Int → Int
  | b :: bs, x :: f => c b * x + wsum c bs f
  | _, _ => 0
theorem wsum_nil (c : Bnd → Int) (f : List Int) : wsum c [] f = 0 := by cases f <;> rfl
theorem wsum_add (c : Bnd → Int) {b : Bnd} {d x : Int} : ∀ {bs : List Bnd} {f : List Int} {j : Nat}, bs[j]? = some b → f[j]? = some x → wsum c bs (f.set j (x + d)) = wsum c bs f + c b * d
  | [], f, j, h, _ => by cases h
  | b' :: bs, [], j, _, h => by cases h
  | b' :: bs, y :: f, 0, h1, h2 => by
    cases h1
    cases h2
    show c b * (x + d) + wsum c bs f = c b * x + wsum c bs f + c b * d
    rw [Int.mul_add]
    omega
  | b' :: bs, y :: f, j + 1, h1, h2 => by
    have ih := wsum_add c (d := d) (bs := bs) (f := f) (j := j) h1 h2
    show c b' * y + wsum c bs (f.set j (x + d)) = c b' * y + wsum c bs f + c b * d
    rw [ih]
    omega
theorem wsum_le {c c' : Bnd → Int} : ∀ {bs : List Bnd} {f : List Int}, (∀ b ∈ bs, c b ≤ c' b) → (∀ x ∈ f, 0 ≤ x) → wsum c bs f ≤ wsum c' bs f
  | [], f, _, _ => by rw [wsum_nil, wsum_nil]; exact Int.le_refl 0
  | b :: bs, [], _, _ => Int.le_refl 0
  | b :: bs, x :: f, h1, h2 => by
    have ih := wsum_le (bs := bs) (f := f) (fun y hy => h1 y (List.mem_cons_of_mem _ hy)) (fun y hy => h2 y (List.mem_cons_of_mem _ hy))
    have := Int.mul_le_mul_of_nonneg_right (h1 b (List.mem_cons_self ..)) (h2 x (List.mem_cons_self ..))
    show c b * x + wsum c bs f ≤ c' b * x + wsum c' bs f
    omega
theorem wsum_eq {c c' : Bnd → Int} : ∀ {bs : List Bnd} {f : List Int}, (∀ (j : Nat) (b : Bnd) (x : Int), bs[j]? = some b → f[j]? = some x → x = 0 ∨ c b = c' b) → wsum c bs f = wsum c' bs f
  | [], f, _ => by rw [wsum_nil, wsum_nil]
  | b :: bs, [], _ => rfl
  | b :: bs, x :: f, h => by
    have ih := wsum_eq (bs := bs) (f := f) (fun j b' x' h1 h2 => h (j + 1) b' x' h1 h2)
    show c b * x + wsum c bs f = c' b * x + wsum c' bs f
    rw [ih]
    rcases h 0 b x rfl rfl with e | e
    · rw [e, Int.mul_zero, Int.mul_zero]
    · rw [e]
def dF (F : Nat → Int) (b : Bnd) : Int := F b.1 - F b.2.1
def revB (b : Bnd) : Bnd := (b.2.1, b.1, -b.2.2)
/-- a function of bounds that a bound turned about has with the other sign -/
def Anti (c : Bnd → Int) : Prop := ∀ b, c (revB b) = -c b
theorem anti_dF (F : Nat → Int) : Anti (dF F) := fun b => by
  show F b.2.1 - F b.1 = -(F b.1 - F b.2.1)
  omega
theorem anti_room : Anti (fun b => b.2.2) := fun b => rfl
theorem PtB.tele {bs : List Bnd} (F : Nat → Int) : ∀ {js : List Nat} {s e : Nat}, PtB bs s js e → (js.map fun j => dF F (bAt bs j)).sum = F s - F e
  | [], s, e, h => by
    have h : s = e := h
    rw [h]
    show (0 : Int) = F e - F e
    omega
  | j :: r, s, e, ⟨b, h1, h2, h3⟩ => by
    rw [List.map_cons, List.sum_cons, bAt_get h1, PtB.tele F h3]
    show F b.1 - F b.2.1 + _ = _
    rw [h2]
    omega
/-! ### the bounds, and those with a number above 0 the other way round -/
abbrev Kpt := Bnd × Nat × Int
def KOk (bs : List Bnd) (f : List Int) (e : Kpt) : Prop := ∃ b, bs[e.2.1]? = some b ∧ ((e.2.2 = 1 ∧ e.1 = b) ∨ (e.2.2 = -1 ∧ e.1 = revB b ∧ 0 < f.getD e.2.1 0))
def bothI (bs : List Bnd) (f : List Int) : Nat → List Kpt
  | 0 => []
  | i + 1 => bothI bs f i ++ match bs[i]? with
    | some b => (b, i, 1) :: if 0 < f.getD i 0 then [(revB b, i, -1)] else []
    | none => []
theorem both_at {bs : List Bnd} {f : List Int} {i : Nat} {b : Bnd} (hb : bs[i]? = some b) : bothI bs f (i + 1) = bothI bs f i ++ ((b, i, 1) :: if 0 < f.getD i 0 then [(revB b, i, -1)] else []) := by
  rw [bothI]
  rw [hb]
theorem both_two {bs : List Bnd} {f : List Int} {i : Nat} {b : Bnd} (hb : bs[i]? = some b) (h : 0 < f.getD i 0) : bothI bs f (i + 1) = bothI bs f i ++ [(b, i, 1)] ++ [(revB b, i, -1)] := by
  rw [both_at hb, if_pos h, List.append_assoc]
  rfl
theorem both_one {bs : List Bnd} {f : List Int} {i : Nat} {b : Bnd} (hb : bs[i]? = some b) (h : ¬ 0 < f.getD i 0) : bothI bs f (i + 1) = bothI bs f i ++ [(b, i, 1)] := by
  rw [both_at hb, if_neg h]
structure Kept (bs : List Bnd) (f : List Int) (ks : List Kpt) : Prop where
  ok : ∀ e ∈ ks, KOk bs f e
  fwd : ∀ j b, bs[j]? = some b → (b, j, 1) ∈ ks
  bwd : ∀ j b, bs[j]? = some b → 0 < f.getD j 0 → (revB b, j, -1) ∈ ks
  ex : ks = bothI bs f bs.length
theorem KOk.sign {bs : List Bnd} {f : List Int} {e : Kpt} (h : KOk bs f e) {c : Bnd → Int} (hc : Anti c) {b : Bnd} (hb : bs[e.2.1]? = some b) : c b * e.2.2 = c e.1 := by
  obtain ⟨b', h1, h2⟩ := h
  rw [hb] at h1
  cases h1
  rcases h2 with ⟨h3, h4⟩ | ⟨h3, h4, _⟩
  · rw [h3, h4, Int.mul_one]
  · rw [h3, h4, hc b]
    omega
theorem Kept.below {bs : List Bnd} {f : List Int} {ks : List Kpt} {n : Nat} (h : Kept bs f ks) (hb : ∀ b ∈ bs, b.1 < n ∧ b.2.1 < n) : ∀ b ∈ ks.map (fun e => e.1), b.1 < n ∧ b.2.1 < n := fun b hm => by
  obtain ⟨e, he, rfl⟩ := List.mem_map.mp hm
  obtain ⟨b, h1, h2⟩ := h.ok e he
  have := hb b (List.mem_of_getElem? h1)
  rcases h2 with ⟨_, h4⟩ | ⟨_, h4, _⟩
  · rw [h4]
    exact this
  · rw [h4]
    exact ⟨this.2, this.1⟩
theorem Kept.sat {bs : List Bnd} {f : List Int} {ks : List Kpt} (h : Kept bs f ks) {F : Nat → Int} (S : Sat (ks.map fun e => e.1) F) : Sat bs F ∧ ∀ j b, bs[j]? = some b → 0 < f.getD j 0 → F b.1 = F b.2.1 + b.2.2 := by
  have h1 : Sat bs F := fun b hb => by
    obtain ⟨j, hj⟩ := List.getElem?_of_mem hb
    exact S b (List.mem_map.mpr ⟨_, h.fwd j b hj, rfl⟩)
  refine ⟨h1, fun j b hb hp => ?_⟩
  have h2 := h1 b (List.mem_of_getElem? hb)
  have h3 := S (revB b) (List.mem_map.mpr ⟨_, h.bwd j b hb hp, rfl⟩)
  have h3 : F b.2.1 ≤ F b.1 + -b.2.2 := h3
  omega
/-- with numbers that fit: the room that the flow takes is what it leads down -/
theorem Kept.tight {bs : List Bnd} {f : List Int} {ks : List Kpt} (h : Kept bs f ks) (hf : ∀ x ∈ f, 0 ≤ x) {F : Nat → Int} (S : Sat (ks.map fun e => e.1) F) : wsum (dF F) bs f = wsum (fun b => b.2.2) bs f := by
  obtain ⟨_, h2⟩ := h.sat S
  refine wsum_eq fun j b x hb hx => ?_
  have hx0 := hf x (List.mem_of_getElem? hx)
  by_cases e : x = 0
  · exact .inl e
  · right
    have hg : f.getD j 0 = x := by rw [List.getD_eq_getElem?_getD, hx]; rfl
    have := h2 j b hb (by omega)
    show F b.1 - F b.2.1 = b.2.2
    omega
theorem Sat.cost {bs : List Bnd} {f : List Int} {F : Nat → Int} (S : Sat bs F) (hf : ∀ x ∈ f, 0 ≤ x) : wsum (dF F) bs f ≤ wsum (fun b => b.2.2) bs f := wsum_le (fun b hb => by
  have := S b hb
  show F b.1 - F b.2.1 ≤ b.2.2
  omega) hf
/-! ### a flow changed along a ring -/
def kAt (ks : List Kpt) (j : Nat) : Kpt := ks.getD j ((0, 0, 0), 0, 0)
theorem kAt_get {ks : List Kpt} {j : Nat} {e : Kpt} (h : ks[j]? = some e) : kAt ks j = e := by
  unfold kAt
  rw [List.getD_eq_getElem?_getD, h]
  rfl
theorem kAt_b {ks : List Kpt} {j : Nat} {e : Kpt} (h : ks[j]? = some e) : bAt (ks.map fun e => e.1) j = e.1 := bAt_get (by rw [List.getElem?_map, h]; rfl)
theorem PtB.js_lt {bs : List Bnd} : ∀ {js : List Nat} {s e : Nat}, PtB bs s js e → ∀ j ∈ js, j < bs.length
  | [], _, _, _, j, h => by cases h
  | i :: r, s, e, ⟨b, h1, _, h3⟩, j, h => by
    rcases List.mem_cons.mp h with e | h
    · rw [e]
      exact (List.getElem?_eq_some_iff.mp h1).1
    · exact h3.js_lt j h
/-- a ring of bounds kept -/
structure RingK (bs : List Bnd) (f : List Int) (ks : List Kpt) (js : List Nat) : Prop where
  ring : RingB (ks.map fun e => e.1) js
  nd : (js.map fun j => (bAt (ks.map fun e => e.1) j).1).Nodup
  k : Kept bs f ks
def backs (es : List Kpt) : List Kpt := es.filter fun e => decide (e.2.2 < 0)
/-- half way: after some of the ring's turns -/
structure Chg (bs : List Bnd) (f : List Int) (m : Int) (es : List Kpt) (g : List Int) : Prop where
  len : g.length = f.length
  sum : ∀ c, Anti c → wsum c bs g = wsum c bs f + m * (es.map fun e => c e.1).sum
  low : ∀ p, f.getD p 0 ≤ g.getD p 0 ∨ (f.getD p 0 - m ≤ g.getD p 0 ∧ ∃ e ∈ es, e.2.1 = p ∧ e.2.2 = -1)
theorem Chg.ini (bs : List Bnd) (f : List Int) (m : Int) : Chg bs f m [] f := ⟨rfl, fun c _ => by show _ = _ + m * 0; rw [Int.mul_zero]; omega, fun p => .inl (Int.le_refl _)⟩
theorem fgetD_set {ts : List Int} {i j : Nat} {v : Int} (h : i < ts.length) : (ts.set i v).getD j 0 = if i = j then v else ts.getD j 0 := by
  rw [List.getD_eq_getElem?_getD, List.getD_eq_getElem?_getD, List.getElem?_set]
  by_cases e : i = j
  · rw [if_pos e, if_pos e, if_pos h]
    rfl
  · rw [if_neg e, if_neg e]
theorem Chg.step {bs : List Bnd} {f g : List Int} {m : Int} {es : List Kpt} {e : Kpt} (h : Chg bs f m es g) (hm : 0 ≤ m) (hl : f.length = bs.length) (ho : KOk bs f e) (hn : e.2.2 = -1 → ∀ e' ∈ es, e'.2.1 = e.2.1 → e'.2.2 ≠ -1) : Chg bs f m (es ++ [e]) (g.set e.2.1 (g.getD e.2.1 0 + e.2.2 * m)) := by
  obtain ⟨b, hb, hd⟩ := id ho
  have hp : e.2.1 < g.length := by
    rw [h.len, hl]
    exact (List.getElem?_eq_some_iff.mp hb).1
  have hg : g[e.2.1]? = some (g.getD e.2.1 0) := by
    rw [List.getD_eq_getElem?_getD, List.getElem?_eq_getElem hp]
    rfl
  refine ⟨by rw [List.length_set]; exact h.len, fun c hc => ?_, fun p => ?_⟩
  · rw [wsum_add c hb hg, h.sum c hc, List.map_append, List.sum_append]
    have := ho.sign hc hb
    show _ + c b * (e.2.2 * m) = _ + m * (_ + (c e.1 + 0))
    rw [← this, Int.add_zero, Int.mul_add, ← Int.mul_assoc, Int.mul_comm (c b * e.2.2) m]
    omega
  · rw [fgetD_set hp]
    by_cases ep : e.2.1 = p
    · rw [if_pos ep]
      rw [ep]
      rcases hd with ⟨h1, _⟩ | ⟨h1, _, _⟩
      · rw [h1, Int.one_mul]
        rcases h.low p with h2 | ⟨h2, e', h3, h4⟩
        · exact .inl (by omega)
        · exact .inr ⟨by omega, e', List.mem_append.mpr (.inl h3), h4⟩
      · rw [h1]
        rcases h.low p with h2 | ⟨_, e', h3, h4, h5⟩
        · exact .inr ⟨by omega, e, List.mem_append.mpr (.inr (List.mem_singleton.mpr rfl)), ep, h1⟩
        · exact absurd h5 (hn h1 e' h3 (by rw [h4, ep]))
    · rw [if_neg ep]
      rcases h.low p with h2 | ⟨h2, e', h3, h4⟩
      · exact .inl h2
      · exact .inr ⟨h2, e', List.mem_append.mpr (.inl h3), h4⟩
theorem RingK.entry {bs : List Bnd} {f : List Int} {ks : List Kpt} {js : List Nat} (h : RingK bs f ks js) {j : Nat} (hj : j ∈ js) : ks[j]? = some (kAt ks j) ∧ KOk bs f (kAt ks j) := by
  obtain ⟨_, v, hp, _⟩ := h.ring
  have hl := hp.js_lt j hj
  rw [List.length_map] at hl
  have e := List.getElem?_eq_getElem hl
  rw [kAt_get e]
  exact ⟨e, h.k.ok _ (List.getElem_mem _)⟩
theorem nd_inj {α β : Type} {g : α → β} : ∀ {l : List α}, (l.map g).Nodup → ∀ {i j : Nat} {a b : α}, l[i]? = some a → l[j]? = some b → g a = g b → i = j := by
  intro l h i j a b hi hj e
  have h1 : (l.map g)[i]? = some (g a) := by rw [List.getElem?_map, hi]; rfl
  have h2 : (l.map g)[j]? = some (g a) := by rw [List.getElem?_map, hj, e]; rfl
  have li := (List.getElem?_eq_some_iff.mp h1).1
  have lj := (List.getElem?_eq_some_iff.mp h2).1
  exact (List.getElem?_inj li h).mp (h1.trans h2.symm)
/-- no bound is come by twice the other way round -/
theorem RingK.once {bs : List Bnd} {f : List Int} {ks : List Kpt} {js : List Nat} (h : RingK bs f ks js) {i j : Nat} {a b : Nat} (hi : js[i]? = some a) (hj : js[j]? = some b) (h1 : (kAt ks a).2.2 = -1) (h2 : (kAt ks b).2.2 = -1) (hp : (kAt ks a).2.1 = (kAt ks b).2.1) : i = j := by
  refine nd_inj h.nd hi hj ?_
  obtain ⟨ea, b1, g1, d1⟩ := h.entry (List.mem_of_getElem? hi)
  obtain ⟨eb, b2, g2, d2⟩ := h.entry (List.mem_of_getElem? hj)
  rw [kAt_b ea, kAt_b eb]
  rw [hp, g2] at g1
  cases g1
  rcases d1 with ⟨z, _⟩ | ⟨_, z1, _⟩
  · rw [h1] at z
    exact absurd z (by decide)
  · rcases d2 with ⟨z, _⟩ | ⟨_, z2, _⟩
    · rw [h2] at z
      exact absurd z (by decide)
    · rw [z1, z2]
theorem RingK.back {bs : List Bnd} {f : List Int} {ks : List Kpt} {js : List Nat} (h : RingK bs f ks js) {F : Nat → Int} (S : Sat bs F) : backs (js.map (kAt ks)) ≠ [] := by
  intro hb
  unfold backs at hb
  rw [List.filter_eq_nil_iff] at hb
  obtain ⟨hne, v, hp, hr⟩ := h.ring
  have all : ∀ {js' : List Nat} {s e : Nat}, (∀ j ∈ js', j ∈ js) → PtB (ks.map fun e => e.1) s js' e → F s ≤ F e + rsum (ks.map fun e => e.1) js' := by
    intro js'
    induction js' with
    | nil =>
      intro s e _ h
      have h : s = e := h
      rw [h]
      show F e ≤ F e + 0
      omega
    | cons j r ih =>
      intro s e hm ⟨bd, h1, h2, h3⟩
      have h4 := ih (fun k hk => hm k (List.mem_cons_of_mem _ hk)) h3
      have hj := hm j (List.mem_cons_self ..)
      obtain ⟨ea, b1, g1, d1⟩ := h.entry hj
      have hnb := hb (kAt ks j) (List.mem_map.mpr ⟨j, hj, rfl⟩)
      rw [rsum_cons h1]
      rw [List.getElem?_map, ea] at h1
      cases h1
      have h2 : (kAt ks j).1.1 = s := h2
      have h4 : F (kAt ks j).1.2.1 ≤ _ := h4
      show F s ≤ F e + ((kAt ks j).1.2.2 + rsum _ r)
      rcases d1 with ⟨_, z⟩ | ⟨z, _, _⟩
      · have := S b1 (List.mem_of_getElem? g1)
        rw [← z] at this
        rw [h2] at this
        omega
      · exact absurd (by rw [decide_eq_true_iff, z]; decide) hnb
  have := all (fun _ h => h) hp
  omega
theorem RingK.ksum {bs : List Bnd} {f : List Int} {ks : List Kpt} {js : List Nat} (h : RingK bs f ks js) (c : Bnd → Int) : ((js.map (kAt ks)).map fun e => c e.1).sum = (js.map fun j => c (bAt (ks.map fun e => e.1) j)).sum := by
  rw [List.map_map]
  refine congrArg List.sum (List.map_congr_left fun j hj => ?_)
  obtain ⟨ea, _⟩ := h.entry hj
  rw [kAt_b ea]
  rfl
/-- what a change along a ring does -/
structure Chgd (bs : List Bnd) (f g : List Int) : Prop where
  len : g.length = f.length
  nn : ∀ x ∈ g, 0 ≤ x
  tot : ∀ F, wsum (dF F) bs g = wsum (dF F) bs f
  cost : wsum (fun b => b.2.2) bs g < wsum (fun b => b.2.2) bs f
theorem Chg.fin {bs : List Bnd} {f g : List Int} {ks : List Kpt} {js : List Nat} {m : Int} (r : RingK bs f ks js) (hf : ∀ x ∈ f, 0 ≤ x) (hm : 0 < m) (hle : ∀ e ∈ backs (js.map (kAt ks)), m ≤ f.getD e.2.1 0) (h : Chg bs f m (js.map (kAt ks)) g) : Chgd bs f g := by
  obtain ⟨hne, v, hp, hr⟩ := r.ring
  refine ⟨h.len, fun x hx => ?_, fun F => ?_, ?_⟩
  · obtain ⟨p, hx⟩ := List.getElem?_of_mem hx
    have hg : g.getD p 0 = x := by rw [List.getD_eq_getElem?_getD, hx]; rfl
    have hpl : p < f.length := by rw [← h.len]; exact (List.getElem?_eq_some_iff.mp hx).1
    have h0 : 0 ≤ f.getD p 0 := by
      rw [List.getD_eq_getElem?_getD, List.getElem?_eq_getElem hpl]
      exact hf _ (List.getElem_mem _)
    rcases h.low p with h1 | ⟨h1, e, he, h2, h3⟩
    · omega
    · have := hle e (List.mem_filter.mpr ⟨he, by rw [decide_eq_true_iff, h3]; decide⟩)
      rw [h2] at this
      omega
  · rw [h.sum _ (anti_dF F), r.ksum, hp.tele F, Int.sub_self, Int.mul_zero, Int.add_zero]
  · have e : ((js.map (kAt ks)).map fun e => e.1.2.2).sum = (js.map fun j => (bAt (ks.map fun e => e.1) j).2.2).sum := r.ksum fun b => b.2.2
    rw [h.sum _ anti_room, e]
    have : m * (js.map fun j => (bAt (ks.map fun e => e.1) j).2.2).sum < 0 := Int.mul_neg_of_pos_of_neg hm hr
    omega
/-- the change told exactly -/
def chgF (m : Int) (es : List Kpt) (f : List Int) : List Int := es.foldl (fun g e => g.set e.2.1 (g.getD e.2.1 0 + e.2.2 * m)) f
theorem chgF_snoc (m : Int) (es : List Kpt) (e : Kpt) (f : List Int) : chgF m (es ++ [e]) f = (chgF m es f).set e.2.1 ((chgF m es f).getD e.2.1 0 + e.2.2 * m) := by
  unfold chgF
  rw [List.foldl_append]
  rfl
def ChgX (f : List Int) (es : List Kpt) (g : List Int) : Prop := ∃ m, m ∈ ((backs es).map fun e => f.getD e.2.1 0) ∧ (∀ e ∈ backs es, m ≤ f.getD e.2.1 0) ∧ g = chgF m es f
theorem ChgX.uniq {f g g' : List Int} {es : List Kpt} (h : ChgX f es g) (h' : ChgX f es g') : g = g' := by
  obtain ⟨m, h1, h2, rfl⟩ := h
  obtain ⟨m', h1', h2', rfl⟩ := h'
  obtain ⟨e, he, rfl⟩ := List.mem_map.mp h1
  obtain ⟨e', he', rfl⟩ := List.mem_map.mp h1'
  have := h2 e' he'
  have := h2' e he
  rw [show f.getD e.2.1 0 = f.getD e'.2.1 0 by omega]
/-- one turn of least_flow -/
def FStep (n : Nat) (bs : List Bnd) (g h : List Int) : Prop := ∃ js, RingB ((bothI bs g bs.length).map fun e => e.1) js ∧ RingX n ((bothI bs g bs.length).map fun e => e.1) js ∧ ChgX g (js.map (kAt (bothI bs g bs.length))) h
inductive FlowS (n : Nat) (bs : List Bnd) (f : List Int) : List Int → Prop
  | refl : FlowS n bs f f
  | step {g h : List Int} : FlowS n bs f g → FStep n bs g h → FlowS n bs f h
def FEnd (bs : List Bnd) (g : List Int) : Prop := ∃ F, Sat ((bothI bs g bs.length).map fun e => e.1) F
theorem FStep.uniq {n : Nat} {bs : List Bnd} {g h h' : List Int} (a : FStep n bs g h) (b : FStep n bs g h') : h = h' := by
  obtain ⟨js, _, h1, h2⟩ := a
  obtain ⟨js', _, h1', h2'⟩ := b
  have := h1.uniq h1'
  subst this
  exact h2.uniq h2'
theorem FlowS.head {n : Nat} {bs : List Bnd} {f g : List Int} (h : FlowS n bs f g) : f = g ∨ ∃ k, FStep n bs f k ∧ FlowS n bs k g := by
  induction h with
  | refl => exact .inl rfl
  | @step g h _ s ih =>
    right
    rcases ih with e | ⟨k, h1, h2⟩
    · subst e
      exact ⟨h, s, .refl⟩
    · exact ⟨k, h1, h2.step s⟩
theorem FlowS.line {n : Nat} {bs : List Bnd} {f g g' : List Int} (h : FlowS n bs f g) (h' : FlowS n bs f g') : FlowS n bs g g' ∨ FlowS n bs g' g := by
  induction h with
  | refl => exact .inl h'
  | @step g k _ s ih =>
    rcases ih with a | a
    · rcases a.head with e | ⟨k', h1, h2⟩
      · subst e
        exact .inr (FlowS.refl.step s)
      · have := s.uniq h1
        subst this
        exact .inl h2
    · exact .inr (a.step s)
theorem FEnd.stop {n : Nat} {bs : List Bnd} {g g' : List Int} (e : FEnd bs g) (h : FlowS n bs g g') : g = g' := by
  rcases h.head with z | ⟨k, ⟨js, ⟨_, v, hp, hr⟩, _⟩, _⟩
  · exact z
  · obtain ⟨F, S⟩ := e
    have := S.along hp
    omega
theorem FlowS.uniq {n : Nat} {bs : List Bnd} {f g g' : List Int} (h : FlowS n bs f g) (e : FEnd bs g) (h' : FlowS n bs f g') (e' : FEnd bs g') : g = g' := by
  rcases h.line h' with a | a
  · exact e.stop a
  · exact (e'.stop a).symm
theorem Chgd.trans {bs : List Bnd} {f g k : List Int} (a : Chgd bs f g) (b : Chgd bs g k) : Chgd bs f k := ⟨b.len.trans a.len, b.nn, fun F => (b.tot F).trans (a.tot F), Int.lt_trans b.cost a.cost⟩
end Lag

set_option maxRecDepth 100000
set_option maxHeartbeats 8000000
namespace Lag
open PySem PySem.Spec PyProof.Rows L2
abbrev sBothWays : Stmt := topS 66 -- @both_ways
abbrev sChange : Stmt := topS 67 -- @change_along
abbrev sLeastFlow : Stmt := topS 65 -- @least_flow
def KptV (K : PySem.W.Frag) (H : Hp) (v : V) (e : Kpt) : Prop := ∃ a th, v = .ref a ∧ SqT K H a [.int ((e.1.1 : Nat) : Int), .int ((e.1.2.1 : Nat) : Int), .int e.1.2.2, .ref th] ∧ SqT K H th [.int ((e.2.1 : Nat) : Int), .int e.2.2]
theorem KptV.tk {K : PySem.W.Frag} {H H' : Hp} {v : V} {e : Kpt} (t : TK H H') (h : KptV K H v e) : KptV K H' v e := by
  obtain ⟨a, th, e', h1, h2⟩ := h
  exact ⟨a, th, e', t.seq h1, t.seq h2⟩
theorem KptV.bnd {K : PySem.W.Frag} {H : Hp} {v : V} {e : Kpt} (h : KptV K H v e) : BndV K H v e.1 := by
  obtain ⟨a, th, e', h1, _⟩ := h
  exact ⟨a, _, e', h1⟩
theorem kpt_bnd {K : PySem.W.Frag} {H : Hp} {kv : List V} {ks : List Kpt} (h : All2 (KptV K H) kv ks) : All2 (BndV K H) kv (ks.map fun e => e.1) := by
  refine ⟨by rw [List.length_map]; exact h.1, fun i v b hv hb => ?_⟩
  rw [List.getElem?_map] at hb
  cases e : ks[i]? with
  | none => rw [e] at hb; cases hb
  | some k =>
    rw [e] at hb
    cases hb
    exact (h.2 i v k hv e).bnd
/-- half way: the bounds ahead of i -/
structure KeptI (bs : List Bnd) (f : List Int) (i : Nat) (ks : List Kpt) : Prop where
  ok : ∀ e ∈ ks, KOk bs f e
  fwd : ∀ j b, j < i → bs[j]? = some b → (b, j, 1) ∈ ks
  bwd : ∀ j b, j < i → bs[j]? = some b → 0 < f.getD j 0 → (revB b, j, -1) ∈ ks
  len : ks.length ≤ 2 * i
  ex : ks = bothI bs f i
theorem KeptI.one {bs : List Bnd} {f : List Int} {i : Nat} {ks : List Kpt} {b : Bnd} (h : KeptI bs f i ks) (hb : bs[i]? = some b) (h0 : ¬ 0 < f.getD i 0) : KeptI bs f (i + 1) (ks ++ [(b, i, 1)]) := by
  refine ⟨fun e he => ?_, fun j b' hj hb' => ?_, fun j b' hj hb' hp => ?_, by rw [List.length_append]; have := h.len; show _ + 1 ≤ _; omega, by rw [both_one hb h0, ← h.ex]⟩
  · rcases List.mem_append.mp he with he | he
    · exact h.ok e he
    · rw [List.mem_singleton.mp he]
      exact ⟨b, hb, .inl ⟨rfl, rfl⟩⟩
  · by_cases e : j = i
    · subst e
      rw [hb] at hb'
      cases hb'
      exact List.mem_append.mpr (.inr (List.mem_singleton.mpr rfl))
    · exact List.mem_append.mpr (.inl (h.fwd j b' (by omega) hb'))
  · by_cases e : j = i
    · subst e
      exact absurd hp h0
    · exact List.mem_append.mpr (.inl (h.bwd j b' (by omega) hb' hp))
theorem KeptI.two {bs : List Bnd} {f : List Int} {i : Nat} {ks : List Kpt} {b : Bnd} (h : KeptI bs f i ks) (hb : bs[i]? = some b) (h0 : 0 < f.getD i 0) : KeptI bs f (i + 1) (ks ++ [(b, i, 1)] ++ [(revB b, i, -1)]) := by
  refine ⟨fun e he => ?_, fun j b' hj hb' => ?_, fun j b' hj hb' hp => ?_, by rw [List.length_append, List.length_append]; have := h.len; show _ + 1 + 1 ≤ _; omega, by rw [both_two hb h0, ← h.ex]⟩
  · rcases List.mem_append.mp he with he | he
    · rcases List.mem_append.mp he with he | he
      · exact h.ok e he
      · rw [List.mem_singleton.mp he]
        exact ⟨b, hb, .inl ⟨rfl, rfl⟩⟩
    · rw [List.mem_singleton.mp he]
      exact ⟨b, hb, .inr ⟨rfl, rfl, h0⟩⟩
  · by_cases e : j = i
    · subst e
      rw [hb] at hb'
      cases hb'
      exact List.mem_append.mpr (.inl (List.mem_append.mpr (.inr (List.mem_singleton.mpr rfl))))
    · exact List.mem_append.mpr (.inl (List.mem_append.mpr (.inl (h.fwd j b' (by omega) hb'))))
  · by_cases e : j = i
    · subst e
      rw [hb] at hb'
      cases hb'
      exact List.mem_append.mpr (.inr (List.mem_singleton.mpr rfl))
    · exact List.mem_append.mpr (.inl (List.mem_append.mpr (.inl (h.bwd j b' (by omega) hb' hp))))
theorem KeptI.fin {bs : List Bnd} {f : List Int} {ks : List Kpt} (h : KeptI bs f bs.length ks) : Kept bs f ks :=
  ⟨h.ok, fun j b hb => h.fwd j b (List.getElem?_eq_some_iff.mp hb).1 hb, fun j b hb hp => h.bwd j b (List.getElem?_eq_some_iff.mp hb).1 hb hp, h.ex⟩
def spBothWays (K : PySem.W.Frag) : Sp := fun vs H Q _ => ∃ (lb lf : Addr) (bv : List V) (bs : List Bnd) (f : List Int), vs = [.ref lb, .ref lf] ∧ H lb = some (.lst bv) ∧ All2 (BndV K H) bv bs ∧ H lf = some (.lst (f.map V.int)) ∧ f.length = bs.length ∧ bs.length ≤ 11000 ∧
  ∀ lk kv ks H', Same H H' → H lk = none → H' lk = some (.lst kv) → All2 (KptV K H') kv ks → Kept bs f ks → ks.length ≤ 22000 → Q (.ref lk) H'
/-- the ring's bounds, told as settle tells them: the flow's list is changed, all else stands -/
def spChange (K : PySem.W.Frag) : Sp := fun vs H Q _ => ∃ (lr lf : Addr) (kv : List V) (ks : List Kpt) (js : List Nat) (bs : List Bnd) (f : List Int), vs = [.ref lr, .ref lf] ∧ H lr = some (.lst (ringVs kv js)) ∧ lr ≠ lf ∧ All2 (KptV K H) kv ks ∧ RingK bs f ks js ∧ js.length ≤ 1000 ∧ H lf = some (.lst (f.map V.int)) ∧ f.length = bs.length ∧ (∀ x ∈ f, 0 ≤ x) ∧ (∃ F, Sat bs F) ∧
  ∀ g H', But lf H H' → TK H H' → H' lf = some (.lst (g.map V.int)) → Chgd bs f g → ChgX f (js.map (kAt ks)) g → Q .non H'
/-- so many places, bounds that some numbers keep to, a flow -/
def spLeastFlow (K : PySem.W.Frag) : Sp := fun vs H Q _ => ∃ (n : Nat) (lb lf : Addr) (bv : List V) (bs : List Bnd) (f : List Int), vs = [.int (n : Nat), .ref lb, .ref lf] ∧ 1 ≤ n ∧ n ≤ 1000 ∧ H lb = some (.lst bv) ∧ All2 (BndV K H) bv bs ∧ (∀ b ∈ bs, b.1 < n ∧ b.2.1 < n) ∧ bs.length ≤ 11000 ∧ SqL K H lf (f.map V.int) ∧ f.length = bs.length ∧ (∀ x ∈ f, 0 ≤ x) ∧ (∃ F, Sat bs F) ∧
  ∀ t lg lk kv ks g (F : List Int) H', Same H H' → H' t = some (.tup [.ref lg, .ref lk]) → H' lg = some (.lst (g.map V.int)) → H' lk = some (.lst kv) → H lk = none → All2 (KptV K H') kv ks → Kept bs g ks → ks.length ≤ 22000 → g.length = bs.length → (∀ x ∈ g, 0 ≤ x) → (∀ F, wsum (dF F) bs g = wsum (dF F) bs f) → FlowS n bs f g →
    Sat (ks.map fun e => e.1) (fun v => F.getD v 0) → (∀ v, F.getD v 0 ≤ 0) → (∀ R : Int, 0 ≤ R → (∀ b ∈ ks.map (fun e => e.1), -R ≤ b.2.2) → ∀ v, v < n → -((n : Int) * R) ≤ F.getD v 0) → Q (.ref t) H'
def LfR (H' : Hp) (n : Nat) (lg : Addr) (kv : List V) (ks : List Kpt) (bs : List Bnd) (g : List Int) (r : V) : Prop :=
  (r = .non ∧ ∃ F : List Int, Sat (ks.map fun e => e.1) (fun v => F.getD v 0) ∧ (∀ v, F.getD v 0 ≤ 0) ∧ ∀ R : Int, 0 ≤ R → (∀ b ∈ ks.map (fun e => e.1), -R ≤ b.2.2) → ∀ v, v < n → -((n : Int) * R) ≤ F.getD v 0) ∨
  ∃ lr js, r = .ref lr ∧ H' lr = some (.lst (ringVs kv js)) ∧ lr ≠ lg ∧ js.length ≤ 1000 ∧ RingK bs g ks js ∧ RingX n (ks.map fun e => e.1) js
def LfI (K : PySem.W.Frag) (H : Hp) (n : Nat) (lb lf lg : Addr) (bs : List Bnd) (f : List Int) (c0 : Int) (m : Nat) (σ : L2.St) (H' : Hp) : Prop := ∃ (lk : Addr) (kv : List V) (ks : List Kpt) (g : List Int) (r : V), σ = [some (.int (n : Nat)), some (.ref lb), some (.ref lf), some (.ref lg), some (.ref lk), some r] ∧ Same H H' ∧ H' lg = some (.lst (g.map V.int)) ∧ g.length = bs.length ∧ (∀ x ∈ g, 0 ≤ x) ∧ (∀ F, wsum (dF F) bs g = wsum (dF F) bs f) ∧
  H lk = none ∧ H' lk = some (.lst kv) ∧ All2 (KptV K H') kv ks ∧ Kept bs g ks ∧ ks.length ≤ 22000 ∧ LfR H' n lg kv ks bs g r ∧ m = (wsum (fun b => b.2.2) bs g - c0).toNat ∧ FlowS n bs f g
section
variable {P : Program} {w : World} {K : PySem.W.Frag} {mg : Str → Option Value} {base : Heap}
abbrev nBothWays : List Str := ["bounds", "flow", "told", "place", "start", "end", "room", "thing"]
theorem scBothWays : FnScope nBothWays ["bounds", "flow"] (defScope sBothWays) := ⟨rfl, rfl, rfl, by decide +kernel, rfl, by decide +kernel, by decide +kernel⟩
abbrev DBothWays (P : Program) (w : World) (K : PySem.W.Frag) (mg : Str → Option Value) (base : Heap) := Df P w K mg base 1 "both_ways" ["bounds", "flow"] (spBothWays K)
theorem ok_bothWays {f : Addr} {fd : FuncData} (F : Fun K "both_ways" "both_ways" sBothWays f fd) (hm : mg "both_ways" = some (.ref f)) (B : Bt mg) : DBothWays P w K mg base f fd := by
  refine ⟨?_, hm, F.kp, F.binds fun _ _ _ _ _ _ us hl => match us, hl with | [_, _], _ => rfl⟩
  refine F.ok scBothWays (fun vs H Q E h => ?_) (fun cdv A outer s H vs Q E hr h => ?_)
  · obtain ⟨lb, lf, bv, bs, f, rfl, _⟩ := h
    rfl
  · obtain ⟨lb, lf, bv, bs, f, rfl, hlb, ba, hlf, hfl, hbl, q⟩ := h
    have nd := scBothWays.nd
    refine ⟨_, pss_cons (ps_set (i := 2) nd rfl (.inl rfl) (pe_lst pa_nil)) <|
        pss_cons (ps_for PassesOwn.never rfl (pi_enum (by rfl) B.enum (pa_cons (pv 0) pa_nil)) (pg_tup rfl (pgs_cons (pg_name (i := 3) nd rfl (.inl rfl)) (pgs_cons (pg_tup rfl (pgs_cons (pg_name (i := 4) nd rfl (.inl rfl)) (pgs_cons (pg_name (i := 5) nd rfl (.inl rfl)) (pgs_cons (pg_name (i := 6) nd rfl (.inl rfl)) (pgs_cons (pg_name (i := 7) nd rfl (.inl rfl)) pgs_nil))))) pgs_nil))) (pss_cons (ps_expr (pe_bm PySem.F.plainAttrs_list PySem.F.slot_list_append PySem.F.type_list_append mt_append (pv 2) (pa_cons (pe_tup (pa_cons (pv 4) (pa_cons (pv 5) (pa_cons (pv 6) (pa_cons (pe_tup (pa_cons (pv 3) (pa_cons pe_int pa_nil))) pa_nil))))) pa_nil))) <|
        pss_one (ps_if (pt_cmpR op_gt (pe_ix ix_list (pv 1) (pv 3) (fun _ _ => rfl)) pe_int (nomark _)) (pss_one (ps_expr (pe_bm PySem.F.plainAttrs_list PySem.F.slot_list_append PySem.F.type_list_append mt_append (pv 2) (pa_cons (pe_tup (pa_cons (pv 5) (pa_cons (pv 4) (pa_cons (pe_un un_neg (pv 6)) (pa_cons (pe_tup (pa_cons (pv 3) (pa_cons (pe_un un_neg pe_int) pa_nil))) pa_nil))))) pa_nil)))) pss_nil))) <|
        pss_one (ps_ret (pv 2)), ?_⟩
    have hbv : bv.length = bs.length := ba.1
    refine ⟨(by show 0 ≤ sizeLine; decide), fun lk hlk => ?_⟩
    have s1 : Same H (upd H lk (.lst [])) := same_new hlk
    have e1 : (upd H lk (.lst [])) lk = some (.lst []) := upd_same
    obtain ⟨H1, hH1⟩ : ∃ H1, H1 = upd H lk (.lst []) := ⟨_, rfl⟩
    rw [← hH1] at s1 e1
    refine gn_normH (σ' := [some (.ref lb), some (.ref lf), some (.ref lk), none, none, none, none, none]) (H' := H1) rfl hH1.symm ?_
    refine ⟨_, rfl, lb, bv, rfl, SqL.of (s1 _ _ hlb), for_it (walk_enum (K := K) (a := lb) (xs := bv)) (fun i σ H' => ∃ (u3 u4 u5 u6 u7 : Option V) (kv : List V) (ks : List Kpt), σ = [some (.ref lb), some (.ref lf), some (.ref lk), u3, u4, u5, u6, u7] ∧ H' lk = some (.lst kv) ∧ All2 (KptV K H') kv ks ∧ KeptI bs f i ks ∧ Same H H')
      ⟨_, _, _, _, _, [], [], rfl, e1, .nil, ⟨(fun e he => nomatch he), (fun j b hj => absurd hj (Nat.not_lt_zero _)), (fun j b hj => absurd hj (Nat.not_lt_zero _)), Nat.zero_le _, rfl⟩, s1⟩ (fun i σ H' _ ⟨_, _, _, _, _, _, _, _, _, _, _, sm⟩ => SqL.of (sm _ _ hlb)) ?_ ?_⟩
    · rintro i v σ H2 H2' hi ⟨u3, u4, u5, u6, u7, kv, ks, rfl, hk2, al, ki, sm⟩ ⟨T, x1, y, rfl, hT, rfl, ex, ey⟩
      cases ex
      obtain ⟨b, hb, a, th, rfl, sq⟩ := ba.get ey
      have hib : i < bs.length := (List.getElem?_eq_some_iff.mp hb).1
      have sT := same_new (o := .tup [.int (i : Nat), .ref a]) hT
      have eT : (upd H2 T (.tup [.int (i : Nat), .ref a])) T = some (.tup [.int (i : Nat), .ref a]) := upd_same
      have hk3 := sT _ _ hk2
      have al3 := al.imp fun _ _ r => KptV.tk (TK.same sT) r
      have sm3 := sm.trans sT
      generalize upd H2 T (.tup [.int (i : Nat), .ref a]) = H3 at sT eT hk3 al3 sm3
      refine ⟨T, _, rfl, .inl (.inl eT), rfl, _, _, rfl, _, _, rfl, a, _, rfl, (TK.same sm3).seq sq, rfl, _, _, rfl, _, _, rfl, _, _, rfl, _, _, rfl, rfl, rfl, ?_⟩
      have hkl : kv.length = ks.length := al.1
      have hks := ki.len
      -- as it stands
      refine ⟨_, rfl, .inl ⟨rfl, _, SqL.of hk3⟩, _, rfl, _, rfl, _, rfl, _, rfl, (by show 2 ≤ sizeLine; decide), fun t1 ht1 => ?_⟩
      have st1 := same_new (o := .tup [.int ((i : Nat) : Int), .int 1]) ht1
      have et1 : (upd H3 t1 (.tup [.int ((i : Nat) : Int), .int 1])) t1 = some (.tup [.int ((i : Nat) : Int), .int 1]) := upd_same
      generalize upd H3 t1 (.tup [.int ((i : Nat) : Int), .int 1]) = H4 at st1 et1
      refine ⟨(by show 4 ≤ sizeLine; decide), fun t2 ht2 => ?_⟩
      have st2 := same_new (o := .tup [.int ((b.1 : Nat) : Int), .int ((b.2.1 : Nat) : Int), .int b.2.2, .ref t1]) ht2
      have et2 : (upd H4 t2 (.tup [.int ((b.1 : Nat) : Int), .int ((b.2.1 : Nat) : Int), .int b.2.2, .ref t1])) t2 = some (.tup [.int ((b.1 : Nat) : Int), .int ((b.2.1 : Nat) : Int), .int b.2.2, .ref t1]) := upd_same
      have et1' := st2 _ _ et1
      generalize upd H4 t2 (.tup [.int ((b.1 : Nat) : Int), .int ((b.2.1 : Nat) : Int), .int b.2.2, .ref t1]) = H5 at st2 et2 et1'
      have s35 := st1.trans st2
      refine ⟨lk, _, _, rfl, rfl, s35 _ _ hk3, Nat.lt_of_le_of_lt (show kv.length ≤ 22000 by omega) (by decide), ?_⟩
      have tk5 : TK H5 (upd H5 lk (.lst (kv ++ [.ref t2]))) := TK.lst (s35 _ _ hk3)
      have al6 : All2 (KptV K (upd H5 lk (.lst (kv ++ [.ref t2])))) (kv ++ [.ref t2]) (ks ++ [(b, i, 1)]) := All2.snoc (al3.imp fun _ _ r => (KptV.tk (TK.same s35) r).tk tk5) ((show KptV K H5 (.ref t2) (b, i, 1) from ⟨t2, t1, rfl, .inl (.inl et2), .inl (.inl et1')⟩).tk tk5)
      have sm6 : Same H (upd H5 lk (.lst (kv ++ [.ref t2]))) := same_mut (sm3.trans s35) hlk
      have hk6 : (upd H5 lk (.lst (kv ++ [.ref t2]))) lk = some (.lst (kv ++ [.ref t2])) := upd_same
      generalize upd H5 lk (.lst (kv ++ [.ref t2])) = H6 at al6 sm6 hk6
      refine ⟨_, rfl, _, rfl, lf, _, i, _, rfl, rfl, SqL.of (sm6 _ _ hlf), atI_nat (sgetD_at (by omega)), _, _, rfl, rfl, _, rfl, ite2 (fun e => ?_) (fun e => ?_)⟩
      · have h0 : 0 < f.getD i 0 := of_decide_eq_true e
        refine ⟨_, rfl, .inl ⟨rfl, _, SqL.of hk6⟩, _, rfl, _, rfl, _, rfl, _, rfl, _, rfl, _, rfl, (by show 2 ≤ sizeLine; decide), fun t3 ht3 => ?_⟩
        have st3 := same_new (o := .tup [.int ((i : Nat) : Int), .int (-1)]) ht3
        have et3 : (upd H6 t3 (.tup [.int ((i : Nat) : Int), .int (-1)])) t3 = some (.tup [.int ((i : Nat) : Int), .int (-1)]) := upd_same
        generalize upd H6 t3 (.tup [.int ((i : Nat) : Int), .int (-1)]) = H7 at st3 et3
        refine ⟨(by show 4 ≤ sizeLine; decide), fun t4 ht4 => ?_⟩
        have st4 := same_new (o := .tup [.int ((b.2.1 : Nat) : Int), .int ((b.1 : Nat) : Int), .int (-b.2.2), .ref t3]) ht4
        have et4 : (upd H7 t4 (.tup [.int ((b.2.1 : Nat) : Int), .int ((b.1 : Nat) : Int), .int (-b.2.2), .ref t3])) t4 = some (.tup [.int ((b.2.1 : Nat) : Int), .int ((b.1 : Nat) : Int), .int (-b.2.2), .ref t3]) := upd_same
        have et3' := st4 _ _ et3
        generalize upd H7 t4 (.tup [.int ((b.2.1 : Nat) : Int), .int ((b.1 : Nat) : Int), .int (-b.2.2), .ref t3]) = H8 at st4 et4 et3'
        have s68 := st3.trans st4
        refine ⟨lk, _, _, rfl, rfl, s68 _ _ hk6, Nat.lt_of_le_of_lt (show (kv ++ [V.ref t2]).length ≤ 22000 by rw [List.length_append]; show _ + 1 ≤ _; omega) (by decide), ?_⟩
        have tk8 : TK H8 (upd H8 lk (.lst (kv ++ [.ref t2] ++ [.ref t4]))) := TK.lst (s68 _ _ hk6)
        refine ⟨_, _, _, _, _, kv ++ [.ref t2] ++ [.ref t4], ks ++ [(b, i, 1)] ++ [(revB b, i, -1)], rfl, upd_same, All2.snoc (al6.imp fun _ _ r => (KptV.tk (TK.same s68) r).tk tk8) ((show KptV K H8 (.ref t4) (revB b, i, -1) from ⟨t4, t3, rfl, .inl (.inl et4), .inl (.inl et3')⟩).tk tk8), ki.two hb h0, same_mut (sm6.trans s68) hlk⟩
      · exact ⟨_, _, _, _, _, kv ++ [.ref t2], ks ++ [(b, i, 1)], rfl, hk6, al6, ki.one hb (fun z => e (decide_eq_true z)), sm6⟩
    · rintro σ H2 ⟨u3, u4, u5, u6, u7, kv, ks, rfl, hk2, al, ki, sm⟩
      rw [hbv] at ki
      have := ki.len
      exact ⟨_, rfl, q lk kv ks H2 sm hlk hk2 al ki.fin (by omega)⟩
abbrev nChange : List Str := ["ring", "flow", "start", "end", "room", "thing", "turns", "place", "way", "most"]
theorem scChange : FnScope nChange ["ring", "flow"] (defScope sChange) := ⟨rfl, rfl, rfl, by decide +kernel, rfl, by decide +kernel, by decide +kernel⟩
abbrev DChange (P : Program) (w : World) (K : PySem.W.Frag) (mg : Str → Option Value) (base : Heap) := Df P w K mg base 1 "change_along" ["ring", "flow"] (spChange K)
theorem ok_change {f : Addr} {fd : FuncData} (F : Fun K "change_along" "change_along" sChange f fd) (hm : mg "change_along" = some (.ref f)) (B : Bt mg) (mn : mg "min" = none) : DChange P w K mg base f fd := by
  refine ⟨?_, hm, F.kp, F.binds fun _ _ _ _ _ _ us hl => match us, hl with | [_, _], _ => rfl⟩
  refine F.ok scChange (fun vs H Q E h => ?_) (fun cdv A outer s H vs Q E hr h => ?_)
  · obtain ⟨lr, lf, kv, ks, js, bs, f, rfl, _⟩ := h
    rfl
  · obtain ⟨lr, lf, kv, ks, js, bs, f, rfl, hlr, nrf, al, rk, hjl, hlf, hfl, hf0, ⟨F0, S0⟩, q⟩ := h
    have nd := scChange.nd
    refine ⟨_, pss_cons (ps_setLc (i := 6) (own := [("start", 2), ("end", 3), ("room", 4), ("thing", 5)]) (g := (gTup K 4 (gCons (gName 2) (gCons (gName 3) (gCons (gName 4) (gCons (gName 5) gNil)))))) (tt := tYes) (te := (tVar 5)) rfl nd rfl rfl (sw_true rfl rfl rfl (by decide +kernel)) (pi_list (pv 0)) (blkOk_by (N := nChange) (sc := defScope sChange) (own := [("start", 2), ("end", 3), ("room", 4), ("thing", 5)]) (by decide +kernel)) (fun _ _ _ _ _ => (pg_tup rfl (pgs_cons (pg_name (i := 2) nd rfl (.inl rfl)) (pgs_cons (pg_name (i := 3) nd rfl (.inl rfl)) (pgs_cons (pg_name (i := 4) nd rfl (.inl rfl)) (pgs_cons (pg_name (i := 5) nd rfl (.inl rfl)) pgs_nil)))))) (fun _ _ _ _ _ => pts_nil) (fun _ _ _ _ _ => (pv 5))) <|
        pss_cons (ps_set (i := 9) nd rfl (.inl rfl) (pe_callB (cr_min rfl) (by rfl) mn (by decide +kernel) (pa_cons (pe_lc (own := [("place", 7), ("way", 8)]) (g := (gTup K 2 (gCons (gName 7) (gCons (gName 8) gNil)))) (tt := (tTest (tOp (rI0 fun i j => .bl (decide (i < j))) (tVar 8) (tC (.int 0))))) (te := (tOp (rIxL K) (tVar 1) (tVar 7))) rfl nd (pi_list (pv 6)) (blkOk_by (N := nChange) (sc := defScope sChange) (own := [("place", 7), ("way", 8)]) (by decide +kernel)) (fun _ _ _ _ _ => (pg_tup rfl (pgs_cons (pg_name (i := 7) nd rfl (.inl rfl)) (pgs_cons (pg_name (i := 8) nd rfl (.inl rfl)) pgs_nil)))) (fun _ _ _ _ _ => pts_one (pt_cmpR op_lt (pv 8) pe_int (nomark _))) (fun _ _ _ _ _ => (pe_ix ix_list (pv 1) (pv 7) (fun _ _ => rfl)))) pa_nil))) <|
        pss_one (ps_for PassesOwn.never rfl (pi_list (pv 6)) (pg_tup rfl (pgs_cons (pg_name (i := 7) nd rfl (.inl rfl)) (pgs_cons (pg_name (i := 8) nd rfl (.inl rfl)) pgs_nil))) (pss_one (ps_augS (pv 1) (pv 7) get_list (pe_op op_mul (pv 8) (pv 9)) ip_add set_list))), ?_⟩
    have ent : ∀ i v, (ringVs kv js)[i]? = some v → ∃ e, (js.map (kAt ks))[i]? = some e ∧ KptV K H v e ∧ KOk bs f e := fun i v hv => by
      unfold ringVs at hv
      rw [List.getElem?_map] at hv
      cases hj : js[i]? with
      | none => rw [hj] at hv; cases hv
      | some j =>
        rw [hj] at hv
        cases hv
        obtain ⟨e1, e2⟩ := rk.entry (List.mem_of_getElem? hj)
        obtain ⟨v, hv, hk⟩ := al.getR e1
        have : kv.getD j .non = v := by rw [List.getD_eq_getElem?_getD, hv]; rfl
        show ∃ e, _ ∧ KptV K H (kv.getD j .non) e ∧ _
        rw [this]
        exact ⟨_, by rw [List.getElem?_map, hj]; rfl, hk, e2⟩
    have hrl : (ringVs kv js).length = js.length := by unfold ringVs; rw [List.length_map]
    -- the turns
    refine ⟨_, rfl, lr, rfl, ⟨_, SqL.of hlr⟩, fun lt hlt => ?_⟩
    refine lc_list (K := K) (a := lr) (xs := ringVs kv js) (fun i Hc => ∃ tv : List V, Hc lt = some (.lst tv) ∧ All2 (fun v (e : Kpt) => ∃ th, v = .ref th ∧ SqT K Hc th [.int ((e.2.1 : Nat) : Int), .int e.2.2]) tv ((js.map (kAt ks)).take i) ∧ Same H Hc) ⟨[], upd_same, .nil, same_new hlt⟩ (fun i Hc _ ⟨_, _, _, sm⟩ => SqL.of (sm _ _ hlr)) ?_ ?_
    · rintro i v Hc hv ⟨tv, hc, ta, sm⟩
      obtain ⟨e, he, ⟨a, th, rfl, q1, q2⟩, _⟩ := ent i v hv
      have tk := TK.same sm
      have htl := ta.1
      have hil : i < js.length := by rw [← hrl]; exact (List.getElem?_eq_some_iff.mp hv).1
      rw [List.length_take] at htl
      refine ⟨a, _, rfl, tk.seq q1, rfl, _, _, rfl, _, _, rfl, _, _, rfl, _, _, rfl, rfl, rfl, tyes ?_⟩
      refine ⟨_, rfl, tv, hc, small1000 (by omega), tv ++ [.ref th], upd_same, ?_, same_mut sm hlt⟩
      rw [List.take_add_one, he]
      exact All2.snoc (ta.imp fun _ _ ⟨t, k1, k2⟩ => ⟨t, k1, (TK.lst hc).seq k2⟩) ⟨th, rfl, (TK.lst hc).seq (tk.seq q2)⟩
    rintro H1 ⟨tv, ht1, ta, s1⟩
    rw [hrl, List.take_of_length_le (by rw [List.length_map]; exact Nat.le_refl _)] at ta
    have htl : tv.length = js.length := by have := ta.1; rw [List.length_map] at this; exact this
    have nlt : lf ≠ lt := ne_of_none hlf hlt
    have hlf1 := s1 _ _ hlf
    refine gn_norm (σ' := [some (.ref lr), some (.ref lf), none, none, none, none, some (.ref lt), none, none, none]) rfl ?_
    have kok : ∀ e ∈ js.map (kAt ks), KOk bs f e := fun e he => by
      obtain ⟨j, hj, rfl⟩ := List.mem_map.mp he
      exact (rk.entry hj).2
    -- the most
    refine ⟨_, rfl, lt, rfl, ⟨_, SqL.of ht1⟩, fun lm hlm => ?_⟩
    refine lc_list (K := K) (a := lt) (xs := tv) (fun i Hc => Hc lm = some (.lst (((backs ((js.map (kAt ks)).take i)).map fun e => f.getD e.2.1 0).map V.int)) ∧ Same H1 Hc) ⟨upd_same, same_new hlm⟩ (fun i Hc _ ⟨_, sm⟩ => SqL.of (sm _ _ ht1)) ?_ ?_
    · rintro i v Hc hv ⟨hc, sm⟩
      obtain ⟨e, he, th, rfl, sq⟩ := ta.get hv
      obtain ⟨b, hb, _⟩ := kok e (List.mem_of_getElem? he)
      have hpl : e.2.1 < f.length := by rw [hfl]; exact (List.getElem?_eq_some_iff.mp hb).1
      have hil : i < js.length := by rw [← htl]; exact (List.getElem?_eq_some_iff.mp hv).1
      refine ⟨th, _, rfl, (TK.same sm).seq sq, rfl, _, _, rfl, _, _, rfl, rfl, rfl, _, rfl, _, _, rfl, rfl, _, rfl, ?_⟩
      unfold backs
      rw [List.take_add_one, he, List.filter_append]
      by_cases h0 : e.2.2 < 0
      · rw [decide_eq_true h0]
        refine iteT ⟨_, rfl, _, rfl, lf, _, e.2.1, _, rfl, rfl, SqL.of (sm _ _ hlf1), atI_nat (sgetD_at hpl), _, hc, ?_, ?_, same_mut sm hlm⟩
        · rw [List.length_map, List.length_map]
          have := List.length_filter_le (fun e : Kpt => decide (e.2.2 < 0)) ((js.map (kAt ks)).take i)
          rw [List.length_take, List.length_map] at this
          exact small1000 (by unfold backs; omega)
        · rw [upd_same, List.map_append, List.map_append]
          show _ = some (HO.lst (_ ++ (((List.filter _ [e]).map _).map V.int)))
          rw [List.filter_cons_of_pos (by rw [decide_eq_true h0])]
          rfl
      · rw [decide_eq_false h0]
        refine iteF ⟨?_, sm⟩
        show _ = some (HO.lst (((_ ++ (List.filter _ [e])).map _).map V.int))
        rw [List.filter_cons_of_neg (by rw [decide_eq_false h0]; decide), List.filter_nil, List.append_nil]
        exact hc
    rintro H2 ⟨hm2, s2⟩
    rw [htl, List.take_of_length_le (by rw [List.length_map]; exact Nat.le_refl _)] at hm2
    have hbk := rk.back S0
    refine ⟨lm, _, rfl, SqL.of hm2, by rw [List.length_map]; exact List.length_pos_iff.mpr hbk, fun m hmm hmle => ?_⟩
    obtain ⟨em, hem, rfl⟩ := List.mem_map.mp hmm
    have hm0 : 0 < f.getD em.2.1 0 := by
      obtain ⟨h1, h2⟩ := List.mem_filter.mp hem
      obtain ⟨b, hb, hd⟩ := kok em h1
      rcases hd with ⟨z, _⟩ | ⟨_, _, z⟩
      · rw [z] at h2
        exact absurd h2 (by decide)
      · exact z
    have hle : ∀ e ∈ backs (js.map (kAt ks)), f.getD em.2.1 0 ≤ f.getD e.2.1 0 := fun e he => hmle _ (List.mem_map.mpr ⟨e, he, rfl⟩)
    generalize f.getD em.2.1 0 = m at hm0 hle hmm
    refine gn_norm (σ' := [some (.ref lr), some (.ref lf), none, none, none, none, some (.ref lt), none, none, some (.int m)]) rfl ?_
    have hlf2 := s2 _ _ hlf1
    have ht2 := s2 _ _ ht1
    have s02 := s1.trans s2
    -- the change
    refine ⟨_, rfl, lt, rfl, ⟨_, SqL.of ht2⟩, for_list (K := K) (a := lt) (xs := tv) (fun i σ H' => ∃ (u7 u8 : Option V) (g : List Int), σ = [some (.ref lr), some (.ref lf), none, none, none, none, some (.ref lt), u7, u8, some (.int m)] ∧ H' lf = some (.lst (g.map V.int)) ∧ (Chg bs f m ((js.map (kAt ks)).take i) g ∧ g = chgF m ((js.map (kAt ks)).take i) f) ∧ But lf H2 H' ∧ TK H2 H')
      ⟨_, _, f, rfl, hlf2, ⟨Chg.ini bs f m, rfl⟩, But.refl _ _, TK.refl _⟩ (fun i σ H' _ ⟨_, _, _, _, _, _, bt, _⟩ => SqL.of (bt _ _ nlt.symm ht2)) ?_ ?_⟩
    · rintro i v σ H3 hv ⟨u7, u8, g, rfl, hg, ⟨ch, cx⟩, bt, tk⟩
      obtain ⟨e, he, th, rfl, sq⟩ := ta.get hv
      have heq := kok e (List.mem_of_getElem? he)
      obtain ⟨b, hb, hd⟩ := id heq
      have hpl : e.2.1 < g.length := by rw [ch.len, hfl]; exact (List.getElem?_eq_some_iff.mp hb).1
      have hw : e.2.2 = 1 ∨ e.2.2 = -1 := by
        rcases hd with ⟨z, _⟩ | ⟨z, _⟩
        · exact .inl z
        · exact .inr z
      refine ⟨th, _, rfl, tk.seq ((TK.same s2).seq sq), rfl, _, _, rfl, _, _, rfl, rfl, ?_⟩
      refine ⟨_, rfl, _, rfl, lf, _, e.2.1, _, rfl, rfl, SqL.of hg, sgetD_at hpl, _, rfl, _, rfl, _, _, rfl, rfl, ?_, _, _, rfl, rfl, lf, _, _, e.2.1, rfl, rfl, hg, Evl.ixN_nat (by rw [List.length_map]; exact hpl), ?_⟩
      · exact .inl (by rcases hw with z | z <;> rw [z] <;> decide)
      refine ⟨_, _, g.set e.2.1 (g.getD e.2.1 0 + e.2.2 * m), rfl, by rw [upd_same, List.map_set], ?_, bt.trans But.upd, tk.trans (TK.lst hg)⟩
      rw [List.take_add_one, he]
      refine ⟨?_, by show _ = chgF m (_ ++ [e]) f; rw [chgF_snoc, ← cx]⟩
      refine ch.step (Int.le_of_lt hm0) hfl heq fun h1 e' he' hp h2 => ?_
      obtain ⟨i', hi'⟩ := List.getElem?_of_mem he'
      have hlt : i' < i := by
        have := (List.getElem?_eq_some_iff.mp hi').1
        rw [List.length_take] at this
        omega
      rw [List.getElem?_take_of_lt hlt, List.getElem?_map] at hi'
      rw [List.getElem?_map] at he
      cases hj' : js[i']? with
      | none => rw [hj'] at hi'; cases hi'
      | some j' =>
        cases hj : js[i]? with
        | none => rw [hj] at he; cases he
        | some j =>
          rw [hj'] at hi'
          rw [hj] at he
          cases hi'
          cases he
          have := rk.once hj' hj h2 h1 hp
          omega
    · rintro σ H3 ⟨u7, u8, g, rfl, hg, ⟨ch, cx⟩, bt, tk⟩
      rw [htl, List.take_of_length_le (by rw [List.length_map]; exact Nat.le_refl _)] at ch cx
      exact q g H3 (fun c o n h => bt c o n (s02 _ _ h)) ((TK.same s02).trans tk) hg (ch.fin rk hf0 hm0 hle) ⟨m, hmm, hle, cx⟩
abbrev nLeastFlow : List Str := ["many", "bounds", "flow", "told", "kept", "ring"]
theorem scLeastFlow : FnScope nLeastFlow ["many", "bounds", "flow"] (defScope sLeastFlow) := ⟨rfl, rfl, rfl, by decide +kernel, rfl, by decide +kernel, by decide +kernel⟩
abbrev DLeastFlow (P : Program) (w : World) (K : PySem.W.Frag) (mg : Str → Option Value) (base : Heap) := Df P w K mg base 3 "least_flow" ["many", "bounds", "flow"] (spLeastFlow K)
theorem ok_leastFlow {f fB fS fC : Addr} {fd fdB fdS fdC : FuncData} (F : Fun K "least_flow" "least_flow" sLeastFlow f fd) (hm : mg "least_flow" = some (.ref f)) (B : Bt mg) (DBw : DBothWays P w K mg base fB fdB) (DSe : DSettle P w K mg base fS fdS) (DCa : DChange P w K mg base fC fdC) : DLeastFlow P w K mg base f fd := by
  refine ⟨?_, hm, F.kp, F.binds fun _ _ _ _ _ _ us hl => match us, hl with | [_, _, _], _ => rfl⟩
  refine F.ok scLeastFlow (fun vs H Q E h => ?_) (fun cdv A outer s H vs Q E hr h => ?_)
  · obtain ⟨n, lb, lf, bv, bs, f, rfl, _⟩ := h
    rfl
  · obtain ⟨n, lb, lf, bv, bs, f, rfl, hn1, hn, hlb, ba, hbn, hbl, hlf, hfl, hf0, ⟨F0, S0⟩, q⟩ := h
    have nd := scLeastFlow.nd
    refine ⟨_, pss_cons (ps_set (i := 3) nd rfl (.inl rfl) (pe_callTy call_list_of (by rfl) B.list (by decide +kernel) (pa_cons (pv 2) pa_nil))) <|
        pss_cons (ps_set (i := 4) nd rfl (.inl rfl) (pe_call DBw.ok (hr.mono (by decide)) (by rfl) DBw.mg DBw.kp DBw.bd .nil pass0 (pa_cons (pv 1) (pa_cons (pv 3) pa_nil)))) <|
        pss_cons (ps_set (i := 5) nd rfl (.inl rfl) (pe_ix ix_tup (pe_call DSe.ok (hr.mono (by decide)) (by rfl) DSe.mg DSe.kp DSe.bd .nil pass0 (pa_cons (pv 0) (pa_cons (pv 4) pa_nil))) pe_int (fun _ _ => rfl))) <|
        pss_cons (ps_while PassesOwn.never (pt_cmpR op_notN (pv 5) pe_non (nomark _)) (pss_cons (ps_expr (pe_call DCa.ok (hr.mono (by decide)) (by rfl) DCa.mg DCa.kp DCa.bd .nil pass0 (pa_cons (pv 5) (pa_cons (pv 3) pa_nil)))) <|
        pss_cons (ps_set (i := 4) nd rfl (.inl rfl) (pe_call DBw.ok (hr.mono (by decide)) (by rfl) DBw.mg DBw.kp DBw.bd .nil pass0 (pa_cons (pv 1) (pa_cons (pv 3) pa_nil)))) <|
        pss_one (ps_set (i := 5) nd rfl (.inl rfl) (pe_ix ix_tup (pe_call DSe.ok (hr.mono (by decide)) (by rfl) DSe.mg DSe.kp DSe.bd .nil pass0 (pa_cons (pv 0) (pa_cons (pv 4) pa_nil))) pe_int (fun _ _ => rfl))))) <|
        pss_one (ps_ret (pe_tup (pa_cons (pv 3) (pa_cons (pv 4) pa_nil)))), ?_⟩
    refine ⟨_, rfl, lf, _, rfl, .inl hlf, fun lg hlg => ?_⟩
    have s1 : Same H (upd H lg (.lst (f.map V.int))) := same_new hlg
    have e1 : (upd H lg (.lst (f.map V.int))) lg = some (.lst (f.map V.int)) := upd_same
    obtain ⟨H1, hH1⟩ : ∃ H1, H1 = upd H lg (.lst (f.map V.int)) := ⟨_, rfl⟩
    rw [← hH1] at s1 e1
    refine gn_normH (σ' := [some (.int (n : Nat)), some (.ref lb), some (.ref lf), some (.ref lg), none, none]) (H' := H1) rfl hH1.symm ?_
    have ba1 := ba.imp fun _ _ r => BndV.tk (TK.same s1) r
    obtain ⟨u5, hu5⟩ : ∃ u5 : Option V, u5 = none := ⟨_, rfl⟩
    rw [← hu5]
    refine ⟨_, rfl, _, rfl, lb, lg, bv, bs, f, rfl, s1 _ _ hlb, ba.imp (fun _ _ r => BndV.tk (TK.same s1) r), e1, hfl, hbl, fun lk kv ks H8 s8 hlk hkk al kp hkl => ?_⟩
    refine gn_norm (σ' := [some (.int (n : Nat)), some (.ref lb), some (.ref lf), some (.ref lg), some (.ref lk), u5]) rfl ?_
    refine ⟨_, rfl, _, rfl, n, lk, kv, _, rfl, hn1, hn, hkk, kpt_bnd al, kp.below hbn, fun t H9 s9 ht tl => ?_⟩
    have sE := ((s1).trans s8).trans s9
    have hlk0 : H lk = none := (s1).free hlk
    have egE := s9 _ _ (s8 _ _ (e1))
    have alE := al.imp fun _ _ r => KptV.tk (TK.same s9) r
    rcases tl with ⟨lf', F, et, _, _, _, sat, hle, hlow, _⟩ | ⟨lr, js, et, hlr, er, hjl, ring, rnd, rX⟩
    · refine ⟨t, _, 1, _, rfl, rfl, .inl (.inl et), atI_nat (j := 1) rfl, ?_⟩
      refine gn_norm (σ' := [some (.int (n : Nat)), some (.ref lb), some (.ref lf), some (.ref lg), some (.ref lk), some .non]) rfl ?_
      refine ⟨LfI K H n lb lf lg bs f (wsum (dF F0) bs f), ⟨_, ⟨lk, kv, ks, f, .non, rfl, sE, egE, hfl, hf0, fun _ => rfl, hlk0, s9 _ _ hkk, alE, kp, hkl, .inl ⟨rfl, F, sat, hle, hlow⟩, rfl, .refl⟩⟩, ?_⟩
      rintro m σ H5 ⟨lk, kv, ks, g, r, rfl, s5, eg, gl, g0, gt, hlk0, hkk, al, kp, hkl, lr', rfl, fS⟩
      rcases lr' with ⟨rfl, F, sat, hle, hlow⟩ | ⟨lr, js, rfl, er, nrg, hjl, rk, rX⟩
      · refine ⟨_, rfl, rfl, _, rfl, iteF ?_⟩
        refine ⟨_, rfl, _, rfl, (by show 2 ≤ sizeLine; decide), fun tt htt => ?_⟩
        have st := same_new (o := .tup [.ref lg, .ref lk]) htt
        exact q tt lg lk kv ks g F _ (s5.trans st) upd_same (st _ _ eg) (st _ _ hkk) hlk0 (al.imp fun _ _ r => KptV.tk (TK.same st) r) kp hkl gl g0 gt fS sat hle hlow
      · refine ⟨_, rfl, rfl, _, rfl, iteT ?_⟩
        refine ⟨fun σ H6 => ∃ m', m' < (wsum (fun b => b.2.2) bs g - wsum (dF F0) bs f).toNat ∧ LfI K H n lb lf lg bs f (wsum (dF F0) bs f) m' σ H6, fun σ' H' h => h, ?_⟩
        refine ⟨_, rfl, _, rfl, lr, lg, kv, ks, js, bs, g, rfl, er, nrg, al, rk, hjl, eg, gl, g0, ⟨F0, S0⟩, fun g' H6 bt tk eg6 cg cgx => ?_⟩
        have fS' : FlowS n bs f g' := by
          have kx := rk.k.ex
          have r1 := rk.ring
          rw [kx] at r1 rX cgx
          exact fS.step ⟨js, r1, rX, cgx⟩
        have s6 : Same H H6 := fun a o h => bt a o (ne_of_none h hlg) (s5 a o h)
        have gl6 : g'.length = bs.length := cg.len.trans gl
        have gt6 : ∀ F, wsum (dF F) bs g' = wsum (dF F) bs f := fun F => (cg.tot F).trans (gt F)
        have c1 := S0.cost cg.nn
        have c2 := cg.cost
        rw [gt6 F0] at c1
        obtain ⟨u5, hu5⟩ : ∃ u5 : V, u5 = .ref lr := ⟨_, rfl⟩
        refine ⟨_, rfl, _, rfl, lb, lg, bv, bs, g', rfl, s6 _ _ hlb, ba.imp (fun _ _ r => BndV.tk (TK.same s6) r), eg6, gl6, hbl, fun lk kv ks H8 s8 hlk hkk al kp hkl => ?_⟩
        refine gn_norm (σ' := [some (.int (n : Nat)), some (.ref lb), some (.ref lf), some (.ref lg), some (.ref lk), some (.ref lr)]) rfl ?_
        refine ⟨_, rfl, _, rfl, n, lk, kv, _, rfl, hn1, hn, hkk, kpt_bnd al, kp.below hbn, fun t H9 s9 ht tl => ?_⟩
        have sE := ((s6).trans s8).trans s9
        have hlk0 : H lk = none := (s6).free hlk
        have egE := s9 _ _ (s8 _ _ (eg6))
        have alE := al.imp fun _ _ r => KptV.tk (TK.same s9) r
        rcases tl with ⟨lf', F, et, _, _, _, sat, hle, hlow, _⟩ | ⟨lr2, js, et, hlr, er, hjl, ring, rnd, rX⟩
        · refine ⟨t, _, 1, _, rfl, rfl, .inl (.inl et), atI_nat (j := 1) rfl, ?_⟩
          refine gn_norm (σ' := [some (.int (n : Nat)), some (.ref lb), some (.ref lf), some (.ref lg), some (.ref lk), some .non]) rfl ?_
          exact ⟨_, by omega, ⟨lk, kv, ks, g', .non, rfl, sE, egE, gl6, cg.nn, gt6, hlk0, s9 _ _ hkk, alE, kp, hkl, .inl ⟨rfl, F, sat, hle, hlow⟩, rfl, fS'⟩⟩
        · refine ⟨t, _, 1, _, rfl, rfl, .inl (.inl et), atI_nat (j := 1) rfl, ?_⟩
          refine gn_norm (σ' := [some (.int (n : Nat)), some (.ref lb), some (.ref lf), some (.ref lg), some (.ref lk), some (.ref lr2)]) rfl ?_
          have nrg : lr2 ≠ lg := fun e => by
            rw [e, s8 _ _ (eg6)] at hlr
            cases hlr
          exact ⟨_, by omega, ⟨lk, kv, ks, g', (.ref lr2), rfl, sE, egE, gl6, cg.nn, gt6, hlk0, s9 _ _ hkk, alE, kp, hkl, .inr ⟨lr2, js, rfl, er, nrg, by omega, ⟨ring, rnd, kp⟩, rX⟩, rfl, fS'⟩⟩
    · refine ⟨t, _, 1, _, rfl, rfl, .inl (.inl et), atI_nat (j := 1) rfl, ?_⟩
      refine gn_norm (σ' := [some (.int (n : Nat)), some (.ref lb), some (.ref lf), some (.ref lg), some (.ref lk), some (.ref lr)]) rfl ?_
      have nrg : lr ≠ lg := fun e => by
        rw [e, s8 _ _ (e1)] at hlr
        cases hlr
      refine ⟨LfI K H n lb lf lg bs f (wsum (dF F0) bs f), ⟨_, ⟨lk, kv, ks, f, (.ref lr), rfl, sE, egE, hfl, hf0, fun _ => rfl, hlk0, s9 _ _ hkk, alE, kp, hkl, .inr ⟨lr, js, rfl, er, nrg, by omega, ⟨ring, rnd, kp⟩, rX⟩, rfl, .refl⟩⟩, ?_⟩
      rintro m σ H5 ⟨lk, kv, ks, g, r, rfl, s5, eg, gl, g0, gt, hlk0, hkk, al, kp, hkl, lr', rfl, fS⟩
      rcases lr' with ⟨rfl, F, sat, hle, hlow⟩ | ⟨lr, js, rfl, er, nrg, hjl, rk, rX⟩
      · refine ⟨_, rfl, rfl, _, rfl, iteF ?_⟩
        refine ⟨_, rfl, _, rfl, (by show 2 ≤ sizeLine; decide), fun tt htt => ?_⟩
        have st := same_new (o := .tup [.ref lg, .ref lk]) htt
        exact q tt lg lk kv ks g F _ (s5.trans st) upd_same (st _ _ eg) (st _ _ hkk) hlk0 (al.imp fun _ _ r => KptV.tk (TK.same st) r) kp hkl gl g0 gt fS sat hle hlow
      · refine ⟨_, rfl, rfl, _, rfl, iteT ?_⟩
        refine ⟨fun σ H6 => ∃ m', m' < (wsum (fun b => b.2.2) bs g - wsum (dF F0) bs f).toNat ∧ LfI K H n lb lf lg bs f (wsum (dF F0) bs f) m' σ H6, fun σ' H' h => h, ?_⟩
        refine ⟨_, rfl, _, rfl, lr, lg, kv, ks, js, bs, g, rfl, er, nrg, al, rk, hjl, eg, gl, g0, ⟨F0, S0⟩, fun g' H6 bt tk eg6 cg cgx => ?_⟩
        have fS' : FlowS n bs f g' := by
          have kx := rk.k.ex
          have r1 := rk.ring
          rw [kx] at r1 rX cgx
          exact fS.step ⟨js, r1, rX, cgx⟩
        have s6 : Same H H6 := fun a o h => bt a o (ne_of_none h hlg) (s5 a o h)
        have gl6 : g'.length = bs.length := cg.len.trans gl
        have gt6 : ∀ F, wsum (dF F) bs g' = wsum (dF F) bs f := fun F => (cg.tot F).trans (gt F)
        have c1 := S0.cost cg.nn
        have c2 := cg.cost
        rw [gt6 F0] at c1
        obtain ⟨u5, hu5⟩ : ∃ u5 : V, u5 = .ref lr := ⟨_, rfl⟩
        refine ⟨_, rfl, _, rfl, lb, lg, bv, bs, g', rfl, s6 _ _ hlb, ba.imp (fun _ _ r => BndV.tk (TK.same s6) r), eg6, gl6, hbl, fun lk kv ks H8 s8 hlk hkk al kp hkl => ?_⟩
        refine gn_norm (σ' := [some (.int (n : Nat)), some (.ref lb), some (.ref lf), some (.ref lg), some (.ref lk), some (.ref lr)]) rfl ?_
        refine ⟨_, rfl, _, rfl, n, lk, kv, _, rfl, hn1, hn, hkk, kpt_bnd al, kp.below hbn, fun t H9 s9 ht tl => ?_⟩
        have sE := ((s6).trans s8).trans s9
        have hlk0 : H lk = none := (s6).free hlk
        have egE := s9 _ _ (s8 _ _ (eg6))
        have alE := al.imp fun _ _ r => KptV.tk (TK.same s9) r
        rcases tl with ⟨lf', F, et, _, _, _, sat, hle, hlow, _⟩ | ⟨lr2, js, et, hlr, er, hjl, ring, rnd, rX⟩
        · refine ⟨t, _, 1, _, rfl, rfl, .inl (.inl et), atI_nat (j := 1) rfl, ?_⟩
          refine gn_norm (σ' := [some (.int (n : Nat)), some (.ref lb), some (.ref lf), some (.ref lg), some (.ref lk), some .non]) rfl ?_
          exact ⟨_, by omega, ⟨lk, kv, ks, g', .non, rfl, sE, egE, gl6, cg.nn, gt6, hlk0, s9 _ _ hkk, alE, kp, hkl, .inl ⟨rfl, F, sat, hle, hlow⟩, rfl, fS'⟩⟩
        · refine ⟨t, _, 1, _, rfl, rfl, .inl (.inl et), atI_nat (j := 1) rfl, ?_⟩
          refine gn_norm (σ' := [some (.int (n : Nat)), some (.ref lb), some (.ref lf), some (.ref lg), some (.ref lk), some (.ref lr2)]) rfl ?_
          have nrg : lr2 ≠ lg := fun e => by
            rw [e, s8 _ _ (eg6)] at hlr
            cases hlr
          exact ⟨_, by omega, ⟨lk, kv, ks, g', (.ref lr2), rfl, sE, egE, gl6, cg.nn, gt6, hlk0, s9 _ _ hkk, alE, kp, hkl, .inr ⟨lr2, js, rfl, er, nrg, by omega, ⟨ring, rnd, kp⟩, rX⟩, rfl, fS'⟩⟩
end
end Lag

set_option maxRecDepth 100000
set_option maxHeartbeats 8000000
namespace Lag
open PySem PySem.Spec PyProof.Rows L2
abbrev sNearLags : Stmt := topS 59 -- @near_lags
/-! ### lags that fit, from -500 to 500 where there are such: the mathematics -/
def limF (n i : Nat) : List Bnd := (List.range i).flatMap fun s => [(s, n, 500), (n, s, 500)]
theorem limF_succ (n i : Nat) : limF n (i + 1) = limF n i ++ [(i, n, 500)] ++ [(n, i, 500)] := by
  unfold limF
  rw [List.range_succ, List.flatMap_append, List.append_assoc]
  rfl
theorem limF_len (n i : Nat) : (limF n i).length = 2 * i := by
  induction i with
  | zero => rfl
  | succ i ih =>
    rw [limF_succ, List.length_append, List.length_append, ih]
    show 2 * i + 1 + 1 = _
    omega
theorem mem_limF {n i : Nat} {b : Bnd} : b ∈ limF n i ↔ ∃ s, s < i ∧ (b = (s, n, 500) ∨ b = (n, s, 500)) := by
  unfold limF
  rw [List.mem_flatMap]
  constructor
  · rintro ⟨s, hs, hb⟩
    refine ⟨s, List.mem_range.mp hs, ?_⟩
    rcases List.mem_cons.mp hb with h | h
    · exact .inl h
    · exact .inr (List.mem_singleton.mp h)
  · rintro ⟨s, hs, hb⟩
    refine ⟨s, List.mem_range.mpr hs, ?_⟩
    rcases hb with h | h
    · rw [h]
      exact List.mem_cons_self ..
    · rw [h]
      exact List.mem_cons_of_mem _ (List.mem_cons_self ..)
theorem sat_ring {bs : List Bnd} {F : Nat → Int} (S : Sat bs F) {js : List Nat} : ¬ RingB bs js := fun ⟨_, v, hp, hr⟩ => by
  have := S.along hp
  omega
theorem sat_app {bs cs : List Bnd} {F : Nat → Int} : Sat (bs ++ cs) F ↔ Sat bs F ∧ Sat cs F :=
  ⟨fun h => ⟨fun b hb => h b (List.mem_append.mpr (.inl hb)), fun b hb => h b (List.mem_append.mpr (.inr hb))⟩, fun h b hb => by
    rcases List.mem_append.mp hb with hb | hb
    · exact h.1 b hb
    · exact h.2 b hb⟩
/-! ### papers: the mathematics -/
abbrev Ent := Pce × Int
def psum (c : Pce → Int) (es : List Ent) : Int := (es.map fun e => c e.1 * e.2).sum
theorem psum_cons (c : Pce → Int) (e : Ent) (r : List Ent) : psum c (e :: r) = c e.1 * e.2 + psum c r := by
  unfold psum
  rw [List.map_cons, List.sum_cons]
theorem psum_snoc (c : Pce → Int) (es : List Ent) (e : Ent) : psum c (es ++ [e]) = psum c es + c e.1 * e.2 := by
  unfold psum
  rw [List.map_append, List.sum_append]
  show _ + (c e.1 * e.2 + 0) = _
  omega
def dl (g x : Nat) : Int := if x = g then 1 else 0
def dlP (ws : List Wr) (g : Nat) (pc : Pce) : Int := dl g pc.1 - dl g (endW ws pc.1 pc.2)
def wdl (F : Nat → Int) (ws : List Wr) : Int := (ws.map fun x => F x.1 - F x.2.1).sum
theorem wdl_cons (F : Nat → Int) (x : Wr) (r : List Wr) : wdl F (x :: r) = F x.1 - F x.2.1 + wdl F r := by
  unfold wdl
  rw [List.map_cons, List.sum_cons]
theorem wdl_snoc (F : Nat → Int) (ws : List Wr) (x : Wr) : wdl F (ws ++ [x]) = wdl F ws + (F x.1 - F x.2.1) := by
  unfold wdl
  rw [List.map_append, List.sum_append]
  show _ + (F x.1 - F x.2.1 + 0) = _
  omega
/-- each gate that is no port has its balance -/
def Bal (gs : List Gt) (ws : List Wr) (es : List Ent) : Prop := ∀ g, g < gs.length → ¬ portK (kindAt gs g) → psum (dlP ws g) es = wdl (dl g) ws
def EntOk (gs : List Gt) (ws : List Wr) (e : Ent) : Prop := PceOk gs ws e.1 ∧ e.1.2.length ≤ 1000 ∧ 1 ≤ e.2
def regsum (ws : List Wr) : Int := (ws.map fun x => ((x.2.2.length : Nat) : Int)).sum
def cntsum (ws : List Wr) (L : Nat → Int) : Int := (ws.map fun x => ((x.2.2.length : Nat) : Int) + L x.2.1 - L x.1).sum
theorem cntsum_eq (ws : List Wr) (L : Nat → Int) : cntsum ws L = regsum ws - wdl L ws := by
  unfold cntsum regsum wdl
  induction ws with
  | nil => rfl
  | cons x r ih =>
    rw [List.map_cons, List.map_cons, List.map_cons, List.sum_cons, List.sum_cons, List.sum_cons, ih]
    omega
theorem getD_add {ms : List Int} {i g : Nat} {d : Int} (h : i < ms.length) : (ms.set i (ms.getD i 0 + d)).getD g 0 = ms.getD g 0 + dl g i * d := by
  rw [fgetD_set h]
  unfold dl
  by_cases e : i = g
  · rw [if_pos e, if_pos e, Int.one_mul, e]
  · rw [if_neg e, if_neg e, Int.zero_mul, Int.add_zero]
def papF (bps : List (Bnd × Pce)) (f : List Int) : List Ent := ((bps.zip f).filter fun p => decide (0 < p.2)).map fun p => (p.1.2, p.2)
theorem papF_snoc {bps : List (Bnd × Pce)} {f : List Int} (h : bps.length = f.length) (bp : Bnd × Pce) (x : Int) : papF (bps ++ [bp]) (f ++ [x]) = papF bps f ++ if 0 < x then [(bp.2, x)] else [] := by
  unfold papF
  rw [List.zip_append h, List.filter_append, List.map_append]
  congr 1
  show ((List.filter _ [(bp, x)]).map _) = _
  by_cases e : 0 < x
  · rw [if_pos e, List.filter_cons_of_pos (by rw [decide_eq_true_iff]; exact e)]
    rfl
  · rw [if_neg e, List.filter_cons_of_neg (by rw [decide_eq_true_iff]; exact e)]
    rfl
theorem papF_mem {bps : List (Bnd × Pce)} {f : List Int} {e : Ent} (h : e ∈ papF bps f) : (∃ bp ∈ bps, e.1 = bp.2) ∧ 1 ≤ e.2 := by
  unfold papF at h
  obtain ⟨p, hp, rfl⟩ := List.mem_map.mp h
  obtain ⟨h1, h2⟩ := List.mem_filter.mp hp
  rw [decide_eq_true_iff] at h2
  exact ⟨⟨p.1, (List.of_mem_zip h1).1, rfl⟩, h2⟩
theorem papF_sum {c : Pce → Int} {c' : Bnd → Int} : ∀ {bps : List (Bnd × Pce)} {f : List Int}, (∀ bp ∈ bps, c bp.2 = c' bp.1) → (∀ x ∈ f, 0 ≤ x) → psum c (papF bps f) = wsum c' (bps.map fun bp => bp.1) f
  | [], f, _, _ => by
    show (0 : Int) = wsum c' [] f
    rw [wsum_nil]
  | bp :: bps, [], _, _ => rfl
  | bp :: bps, x :: f, h1, h2 => by
    have ih := papF_sum (bps := bps) (f := f) (fun y hy => h1 y (List.mem_cons_of_mem _ hy)) (fun y hy => h2 y (List.mem_cons_of_mem _ hy))
    have hx := h2 x (List.mem_cons_self ..)
    show psum c (((bp, x) :: bps.zip f).filter (fun p => decide (0 < p.2)) |>.map fun p => (p.1.2, p.2)) = c' bp.1 * x + wsum c' (bps.map fun bp => bp.1) f
    rw [← h1 bp (List.mem_cons_self ..), ← ih]
    by_cases e : 0 < x
    · rw [List.filter_cons_of_pos (by rw [decide_eq_true_iff]; exact e)]
      rfl
    · rw [List.filter_cons_of_neg (by rw [decide_eq_true_iff]; exact e)]
      have : x = 0 := by omega
      rw [this, Int.mul_zero, Int.zero_add]
      rfl
theorem dl_spot {gs : List Gt} {g x : Nat} (hg : g < gs.length) (hp : ¬ portK (kindAt gs g)) : dl g (spotF gs x) = dl g x := by
  unfold spotF
  by_cases e : portK (kindAt gs x)
  · rw [if_pos e]
    unfold dl
    rw [if_neg (by omega), if_neg fun z => hp (by rw [← z]; exact e)]
  · rw [if_neg e]
/-- the bound of a piece -/
def BpOk (gs : List Gt) (ws : List Wr) (b : Int) (bp : Bnd × Pce) : Prop := bp.1 = (spotF gs bp.2.1, spotF gs (endW ws bp.2.1 bp.2.2), roomF gs ws b bp.2)
theorem BdsOk.bp {gs : List Gt} {ws : List Wr} {b : Int} {bps : List (Bnd × Pce)} (h : BdsOk gs ws b (bps.map fun bp => bp.2) (bps.map fun bp => bp.1)) : ∀ bp ∈ bps, BpOk gs ws b bp := fun bp hbp => by
  obtain ⟨i, hi⟩ := List.getElem?_of_mem hbp
  obtain ⟨e, _, h2, h3⟩ := h.al.2 i bp.2 bp.1 (by rw [List.getElem?_map, hi]; rfl) (by rw [List.getElem?_map, hi]; rfl)
  unfold BpOk
  rw [endW_of h2]
  exact h3
theorem pap_bal {gs : List Gt} {ws : List Wr} {b : Int} {bps : List (Bnd × Pce)} {f : List Int} (h : ∀ bp ∈ bps, BpOk gs ws b bp) (hf : ∀ x ∈ f, 0 ≤ x) (ht : ∀ F, wsum (dF F) (bps.map fun bp => bp.1) f = wdl (fun x => F (spotF gs x)) ws) : Bal gs ws (papF bps f) := fun g hg hp => by
  rw [papF_sum (c' := dF (dl g)) (fun bp hbp => ?_) hf, ht]
  · congr 1
    funext x
    exact dl_spot hg hp
  · rw [h bp hbp]
    show dl g _ - dl g _ = dl g _ - dl g _
    rw [dl_spot hg hp, dl_spot hg hp]
theorem pap_room {gs : List Gt} {ws : List Wr} {b : Int} {bps : List (Bnd × Pce)} {f : List Int} (h : ∀ bp ∈ bps, BpOk gs ws b bp) (hf : ∀ x ∈ f, 0 ≤ x) : psum (roomF gs ws b) (papF bps f) = wsum (fun b => b.2.2) (bps.map fun bp => bp.1) f :=
  papF_sum (fun bp hbp => by rw [h bp hbp]) hf
/-- a paper tells how few there may be -/
theorem pap_le {gs : List Gt} {ws : List Wr} {b : Int} {es : List Ent} {L : Nat → Int} (N : NetOk gs ws) (hb : Bal gs ws es) (ho : ∀ e ∈ es, EntOk gs ws e) (f : Feas gs ws b L) : regsum ws - psum (roomF gs ws b) es ≤ cntsum ws L := by
  have h1 : psum (fun pc => L pc.1 - L (endW ws pc.1 pc.2)) es ≤ psum (roomF gs ws b) es := by
    clear hb
    induction es with
    | nil => exact Int.le_refl 0
    | cons e r ih =>
      have ih := ih fun x hx => ho x (List.mem_cons_of_mem _ hx)
      obtain ⟨⟨k1, m, k2⟩, k3, k4⟩ := ho e (List.mem_cons_self ..)
      have k5 := f.room k1 k2
      have k6 : L e.1.1 - L (endW ws e.1.1 e.1.2) ≤ roomF gs ws b e.1 := by
        rw [endW_of k2]
        have k5 : L e.1.1 ≤ L m + roomF gs ws b e.1 := k5
        omega
      have k7 := Int.mul_le_mul_of_nonneg_right k6 (show 0 ≤ e.2 by omega)
      rw [psum_cons, psum_cons]
      omega
  have key : ∀ (G : Nat → Int) (n : Nat), n ≤ gs.length → (∀ g, g < n → portK (kindAt gs g) → G g = 0) → (∀ g, n ≤ g → G g = 0) → psum (fun pc => G pc.1 - G (endW ws pc.1 pc.2)) es = wdl G ws := by
    intro G n
    induction n generalizing G with
    | zero =>
      intro _ _ h2
      have z : ∀ x, G x = 0 := fun x => h2 x (Nat.zero_le _)
      have a1 : psum (fun pc => G pc.1 - G (endW ws pc.1 pc.2)) es = 0 := by
        clear h1 hb ho
        induction es with
        | nil => rfl
        | cons e r ih =>
          rw [psum_cons, ih, z, z]
          simp
      have gen : ∀ r : List Wr, wdl G r = 0 := fun r => by
        induction r with
        | nil => rfl
        | cons x r ih => rw [wdl_cons, z, z, ih]; rfl
      have a2 := gen ws
      rw [a1, a2]
    | succ n ih =>
      intro hn hp h2
      have ih := ih (fun x => if x = n then 0 else G x) (by omega) (fun g hg hk => by
        show (if g = n then 0 else G g) = 0
        rw [if_neg (by omega)]
        exact hp g (by omega) hk) (fun g hg => by
        show (if g = n then 0 else G g) = 0
        by_cases e : g = n
        · rw [if_pos e]
        · rw [if_neg e]
          exact h2 g (by omega))
      have sp : ∀ x, G x = (if x = n then 0 else G x) + G n * dl n x := fun x => by
        unfold dl
        by_cases e : x = n
        · rw [if_pos e, if_pos e, e]
          omega
        · rw [if_neg e, if_neg e]
          omega
      have gen2 : ∀ r : List Ent, psum (fun pc => G pc.1 - G (endW ws pc.1 pc.2)) r = psum (fun pc => (if pc.1 = n then 0 else G pc.1) - (if endW ws pc.1 pc.2 = n then 0 else G (endW ws pc.1 pc.2))) r + G n * psum (dlP ws n) r := fun r => by
        induction r with
        | nil =>
          show (0 : Int) = 0 + G n * 0
          omega
        | cons e r ih2 =>
          rw [psum_cons, psum_cons, psum_cons, ih2]
          have a := sp e.1.1
          have b' := sp (endW ws e.1.1 e.1.2)
          generalize (if e.1.1 = n then (0 : Int) else G e.1.1) = u at a ⊢
          generalize (if endW ws e.1.1 e.1.2 = n then (0 : Int) else G (endW ws e.1.1 e.1.2)) = v at b' ⊢
          unfold dlP
          rw [a, b', Int.mul_add, ← Int.mul_assoc, Int.mul_sub, show u + G n * dl n e.1.1 - (v + G n * dl n (endW ws e.1.1 e.1.2)) = (u - v) + (G n * dl n e.1.1 - G n * dl n (endW ws e.1.1 e.1.2)) by omega, Int.add_mul]
          omega
      have a1 := gen2 es
      have gen : ∀ r : List Wr, wdl G r = wdl (fun x => if x = n then 0 else G x) r + G n * wdl (dl n) r := fun r => by
        induction r with
        | nil =>
          show (0 : Int) = 0 + G n * 0
          omega
        | cons x r ih3 =>
          rw [wdl_cons, wdl_cons, wdl_cons, ih3]
          have a := sp x.1
          have b' := sp x.2.1
          generalize (if x.1 = n then (0 : Int) else G x.1) = u at a ⊢
          generalize (if x.2.1 = n then (0 : Int) else G x.2.1) = v at b' ⊢
          rw [a, b', Int.mul_add, Int.mul_sub]
          omega
      have a2 := gen ws
      rw [a1, a2, ih]
      by_cases hk : portK (kindAt gs n)
      · rw [hp n (Nat.lt_succ_self _) hk, Int.zero_mul, Int.zero_mul]
      · rw [hb n (by omega) hk]
  have h2 := key (fun x => if x < gs.length then L x else 0) gs.length (Nat.le_refl _) (fun g hg hk => by
    show (if g < gs.length then L g else 0) = 0
    rw [if_pos hg]
    exact f.out g hg hk) (fun g hg => by
    show (if g < gs.length then L g else 0) = 0
    rw [if_neg (by omega)])
  have h3 : wdl (fun x => if x < gs.length then L x else 0) ws = wdl L ws := by
    unfold wdl
    refine congrArg List.sum (List.map_congr_left fun x hx => ?_)
    have WX := N.wok x hx
    show (if x.1 < gs.length then L x.1 else 0) - (if x.2.1 < gs.length then L x.2.1 else 0) = _
    rw [if_pos WX.s, if_pos WX.e]
  have h4 : psum (fun pc => (if pc.1 < gs.length then L pc.1 else 0) - (if endW ws pc.1 pc.2 < gs.length then L (endW ws pc.1 pc.2) else 0)) es = psum (fun pc => L pc.1 - L (endW ws pc.1 pc.2)) es := by
    unfold psum
    refine congrArg List.sum (List.map_congr_left fun e he => ?_)
    obtain ⟨⟨k1, m, k2⟩, _⟩ := ho e he
    have k3 := k2.lt N k1
    dsimp only
    rw [endW_of k2, if_pos k1, if_pos k3]
  rw [cntsum_eq, ← h3, ← h2, h4]
  omega
/-- the numbers near_lags tells, exactly -/
def NearX (n : Nat) (gs : List Gt) (ks : List Bnd) (G : Nat → Int) : Prop := ∃ F : List Int, G = (fun v => F.getD v 0) ∧ ((SetN n (ks ++ limF gs.length gs.length) F ∧ ∃ G', Sat (ks ++ limF gs.length gs.length) G') ∨ ((∃ js, RingB (ks ++ limF gs.length gs.length) js) ∧ SetN n ks F))
theorem NearX.uniq {n : Nat} {gs : List Gt} {ks : List Bnd} {G G' : Nat → Int} (h : NearX n gs ks G) (h' : NearX n gs ks G') : G = G' := by
  obtain ⟨F, rfl, h⟩ := h
  obtain ⟨F', rfl, h'⟩ := h'
  rcases h with ⟨h1, _, h2⟩ | ⟨⟨_, h1⟩, h2⟩ <;> rcases h' with ⟨h1', _, h2'⟩ | ⟨⟨_, h1'⟩, h2'⟩
  · rw [h1.uniq h1']
  · exact absurd h1' (sat_ring h2)
  · exact absurd h1 (sat_ring h2')
  · rw [h2.uniq h2']
def spNearLags (K : PySem.W.Frag) (C : Addr) : Sp := fun vs H Q _ => ∃ (p ng nw lk : Addr) (n : Nat) (gs : List Gt) (ws : List Wr) (kv : List V) (ks : List Bnd) (F : Nat → Int), vs = [.ref p, .int ((n : Nat) : Int), .ref lk] ∧ gs.length + 1 ≤ n ∧ n ≤ 1000 ∧ NetAt K C H p ng nw gs ws ∧ NetOk gs ws ∧ H lk = some (.lst kv) ∧ All2 (BndV K H) kv ks ∧ (∀ b ∈ ks, b.1 < n ∧ b.2.1 < n) ∧ ks.length ≤ 22000 ∧ Sat ks F ∧
  ∀ l (G : Nat → Int) H', Same H H' → H l = none → H' l = some (.lst ((lagsL gs (lagsAt gs G)).map V.int)) → Sat ks G → NearX n gs ks G → ((∀ v, v < gs.length → F v - F gs.length ≤ 500 ∧ -500 ≤ F v - F gs.length) → ∀ g, g < gs.length → -500 ≤ lagsAt gs G g ∧ lagsAt gs G g ≤ 500) → Q (.ref l) H'
section
variable {P : Program} {w : World} {K : PySem.W.Frag} {mg : Str → Option Value} {base : Heap}
abbrev nNearLags : List Str := ["net", "many", "bounds", "outer", "limits", "spot", "found", "ring"]
theorem scNearLags : FnScope nNearLags ["net", "many", "bounds"] (defScope sNearLags) := ⟨rfl, rfl, rfl, by decide +kernel, rfl, by decide +kernel, by decide +kernel⟩
abbrev DNearLags (P : Program) (w : World) (K : PySem.W.Frag) (mg : Str → Option Value) (base : Heap) (C : Addr) := Df P w K mg base 4 "near_lags" ["net", "many", "bounds"] (spNearLags K C)
theorem ok_nearLags {f fS fL C : Addr} {fd fdS fdL : FuncData} (F : Fun K "near_lags" "near_lags" sNearLags f fd) (hm : mg "near_lags" = some (.ref f)) (B : Bt mg) (T : NT K mg C) (gl : ∃ t, mg "GREATEST_LAG" = some (.int 500 t)) (DSe : DSettle P w K mg base fS fdS) (DLa : DLagsAt P w K mg base C fL fdL) : DNearLags P w K mg base C f fd := by
  refine ⟨?_, hm, F.kp, F.binds fun _ _ _ _ _ _ us hl => match us, hl with | [_, _, _], _ => rfl⟩
  refine F.ok scNearLags (fun vs H Q E h => ?_) (fun cdv A outer s H vs Q E hr h => ?_)
  · obtain ⟨p, ng, nw, lk, n, gs, ws, kv, ks, F0, rfl, _⟩ := h
    rfl
  · obtain ⟨p, ng, nw, lk, n, gs, ws, kv, ks, F0, rfl, hn1, hn2, NA, N, hlk, al, hbn, hkl, S0, q⟩ := h
    have nd := scNearLags.nd
    obtain ⟨tg, hgl⟩ := gl
    refine ⟨_, pss_cons (ps_set (i := 3) nd rfl (.inl rfl) (pe_callB call_len_seq (by rfl) B.len PySem.boot_len (pa_cons (pe_fld (pv 0) rfl) pa_nil))) <|
        pss_cons (ps_set (i := 4) nd rfl (.inl rfl) (pe_lst pa_nil)) <|
        pss_cons (ps_for PassesOwn.never rfl (pi_range1 (by rfl) B.range (pa_cons (pv 3) pa_nil)) (pg_name (i := 5) nd rfl (.inl rfl)) (pss_cons (ps_expr (pe_bm PySem.F.plainAttrs_list PySem.F.slot_list_append PySem.F.type_list_append mt_append (pv 4) (pa_cons (pe_tup (pa_cons (pv 5) (pa_cons (pv 3) (pa_cons (pe_glob (v := .int 500) (by rfl) hgl ⟨_, rfl⟩) (pa_cons pe_non pa_nil))))) pa_nil))) <|
        pss_one (ps_expr (pe_bm PySem.F.plainAttrs_list PySem.F.slot_list_append PySem.F.type_list_append mt_append (pv 4) (pa_cons (pe_tup (pa_cons (pv 3) (pa_cons (pv 5) (pa_cons (pe_glob (v := .int 500) (by rfl) hgl ⟨_, rfl⟩) (pa_cons pe_non pa_nil))))) pa_nil))))) <|
        pss_cons (ps_asg (pe_call DSe.ok (hr.mono (by decide)) (by rfl) DSe.mg DSe.kp DSe.bd .nil pass0 (pa_cons (pv 1) (pa_cons (pe_op op_cat (pv 2) (pv 4)) pa_nil))) (pg_tup rfl (pgs_cons (pg_name (i := 6) nd rfl (.inl rfl)) (pgs_cons (pg_name (i := 7) nd rfl (.inl rfl)) pgs_nil)))) <|
        Evl.pss_cut (ps_if (pt_cmpR op_isN (pv 6) pe_non (nomark _)) (pss_one (ps_asg (pe_call DSe.ok (hr.mono (by decide)) (by rfl) DSe.mg DSe.kp DSe.bd .nil pass0 (pa_cons (pv 1) (pa_cons (pv 2) pa_nil))) (pg_tup rfl (pgs_cons (pg_name (i := 6) nd rfl (.inl rfl)) (pgs_cons (pg_name (i := 7) nd rfl (.inl rfl)) pgs_nil))))) pss_nil) <|
        pss_one (ps_ret (pe_call DLa.ok (hr.mono (by decide)) (by rfl) DLa.mg DLa.kp DLa.bd .nil pass0 (pa_cons (pv 0) (pa_cons (pv 6) pa_nil)))), ?_⟩
    obtain ⟨dx, ob⟩ := id NA.ob
    obtain ⟨gv, hgv, ga⟩ := id NA.g
    have hlg : gv.length = gs.length := ga.1
    have hgl1 := N.gl
    refine ⟨_, rfl, p, C, dx, _, _, rfl, ob, T.cl, T.nG, nf_gates _ _, ng, gv, rfl, .inl (SqL.of hgv), ?_⟩
    rw [hlg]
    refine gn_norm (σ' := [some (.ref p), some (.int ((n : Nat) : Int)), some (.ref lk), some (.int ((gs.length : Nat) : Int)), none, none, none, none]) rfl ?_
    refine ⟨(by show 0 ≤ sizeLine; decide), fun ll hll => ?_⟩
    have s1 : Same H (upd H ll (.lst [])) := same_new hll
    have e1 : (upd H ll (.lst [])) ll = some (.lst []) := upd_same
    obtain ⟨H1, hH1⟩ : ∃ H1, H1 = upd H ll (.lst []) := ⟨_, rfl⟩
    rw [← hH1] at s1 e1
    refine gn_normH (σ' := [some (.ref p), some (.int ((n : Nat) : Int)), some (.ref lk), some (.int ((gs.length : Nat) : Int)), some (.ref ll), none, none, none]) (H' := H1) rfl hH1.symm ?_
    refine ⟨_, rfl, _, rfl, by omega, by omega, for_range (lo := 0) (n := ((gs.length : Nat) : Int).toNat) (fun i σ H' => ∃ (u5 : Option V) (lv : List V), σ = [some (.ref p), some (.int ((n : Nat) : Int)), some (.ref lk), some (.int ((gs.length : Nat) : Int)), some (.ref ll), u5, none, none] ∧ H' ll = some (.lst lv) ∧ All2 (BndV K H') lv (limF gs.length i) ∧ Same H H')
      ⟨_, [], rfl, e1, .nil, s1⟩ ?_ ?_⟩
    · rintro i σ H2 hi ⟨u5, lv, rfl, hl2, la, sm⟩
      have ei : (0 : Int) + ((i : Nat) : Int) = ((i : Nat) : Int) := Int.zero_add _
      rw [ei]
      have hlv : lv.length = 2 * i := by rw [la.1, limF_len]
      refine gn_norm (σ' := [some (.ref p), some (.int ((n : Nat) : Int)), some (.ref lk), some (.int ((gs.length : Nat) : Int)), some (.ref ll), some (.int ((i : Nat) : Int)), none, none]) rfl ?_
      refine ⟨_, rfl, .inl ⟨rfl, _, SqL.of hl2⟩, _, rfl, _, rfl, (by show 4 ≤ sizeLine; decide), fun t1 ht1 => ?_⟩
      have st1 := same_new (o := .tup [.int ((i : Nat) : Int), .int ((gs.length : Nat) : Int), .int 500, .non]) ht1
      have et1 : (upd H2 t1 (.tup [.int ((i : Nat) : Int), .int ((gs.length : Nat) : Int), .int 500, .non])) t1 = some (.tup [.int ((i : Nat) : Int), .int ((gs.length : Nat) : Int), .int 500, .non]) := upd_same
      generalize upd H2 t1 (.tup [.int ((i : Nat) : Int), .int ((gs.length : Nat) : Int), .int 500, .non]) = H3 at st1 et1
      refine ⟨ll, _, _, rfl, rfl, st1 _ _ hl2, small1000 (by omega), ?_⟩
      have la3 : All2 (BndV K (upd H3 ll (.lst (lv ++ [.ref t1])))) (lv ++ [.ref t1]) (limF gs.length i ++ [(i, gs.length, 500)]) := All2.snoc (la.imp fun _ _ r => (BndV.tk (TK.same st1) r).tk (TK.lst (st1 _ _ hl2))) ((show BndV K H3 (.ref t1) (i, gs.length, 500) from ⟨t1, _, rfl, .inl (.inl et1)⟩).tk (TK.lst (st1 _ _ hl2)))
      have sm3 : Same H (upd H3 ll (.lst (lv ++ [.ref t1]))) := same_mut (sm.trans st1) hll
      have hl3 : (upd H3 ll (.lst (lv ++ [.ref t1]))) ll = some (.lst (lv ++ [.ref t1])) := upd_same
      generalize upd H3 ll (.lst (lv ++ [.ref t1])) = H4 at la3 sm3 hl3
      refine ⟨_, rfl, .inl ⟨rfl, _, SqL.of hl3⟩, _, rfl, _, rfl, (by show 4 ≤ sizeLine; decide), fun t2 ht2 => ?_⟩
      have st2 := same_new (o := .tup [.int ((gs.length : Nat) : Int), .int ((i : Nat) : Int), .int 500, .non]) ht2
      have et2 : (upd H4 t2 (.tup [.int ((gs.length : Nat) : Int), .int ((i : Nat) : Int), .int 500, .non])) t2 = some (.tup [.int ((gs.length : Nat) : Int), .int ((i : Nat) : Int), .int 500, .non]) := upd_same
      generalize upd H4 t2 (.tup [.int ((gs.length : Nat) : Int), .int ((i : Nat) : Int), .int 500, .non]) = H5 at st2 et2
      refine ⟨ll, _, _, rfl, rfl, st2 _ _ hl3, small1000 (by rw [List.length_append]; show _ + 1 ≤ _; omega), ?_⟩
      refine ⟨_, lv ++ [.ref t1] ++ [.ref t2], rfl, upd_same, ?_, same_mut (sm3.trans st2) hll⟩
      rw [limF_succ]
      exact All2.snoc (la3.imp fun _ _ r => (BndV.tk (TK.same st2) r).tk (TK.lst (st2 _ _ hl3))) ((show BndV K H5 (.ref t2) (gs.length, i, 500) from ⟨t2, _, rfl, .inl (.inl et2)⟩).tk (TK.lst (st2 _ _ hl3)))
    rintro σ H2 ⟨u5, lv, rfl, hl2, la, sm⟩
    rw [Int.toNat_natCast] at la
    have hkv : kv.length = ks.length := al.1
    have hlv : lv.length = 2 * gs.length := by rw [la.1, limF_len]
    refine ⟨_, rfl, _, rfl, _, rfl, lk, ll, _, _, rfl, rfl, sm _ _ hlk, hl2, ?_, fun l3 hl3 => ?_⟩
    · exact Nat.le_of_lt (Nat.lt_of_le_of_lt (show kv.length + lv.length ≤ 23000 by omega) (by decide))
    have s3 : Same H2 (upd H2 l3 (.lst (kv ++ lv))) := same_new hl3
    have e3 : (upd H2 l3 (.lst (kv ++ lv))) l3 = some (.lst (kv ++ lv)) := upd_same
    generalize upd H2 l3 (.lst (kv ++ lv)) = H3 at s3 e3
    have sm3 := sm.trans s3
    have al3 : All2 (BndV K H3) (kv ++ lv) (ks ++ limF gs.length gs.length) := all2_app' (al.imp fun _ _ r => BndV.tk (TK.same sm3) r) (la.imp fun _ _ r => BndV.tk (TK.same s3) r)
    refine ⟨n, l3, _, _, rfl, by omega, by omega, e3, al3, fun b hb => ?_, fun t H4 s4 ht tl => ?_⟩
    · rcases List.mem_append.mp hb with hb | hb
      · exact hbn b hb
      · obtain ⟨s, hs, h⟩ := mem_limF.mp hb
        rcases h with rfl | rfl
        · exact ⟨show s < _ by omega, show gs.length < _ by omega⟩
        · exact ⟨show gs.length < _ by omega, show s < _ by omega⟩
    have sm4 := sm3.trans s4
    -- the numbers, or none
    have hfin : ∀ (lf : Addr) (F : List Int) (u7 : Option V) (H5 : Hp) (D : Ends), Same H H5 → H5 lf = some (.lst (F.map V.int)) → F.length = n → True := fun _ _ _ _ _ _ _ _ => trivial
    rcases tl with ⟨lf, F, et, _, ef, hfl, sat, _, _, hset⟩ | ⟨lr, js, et, _, er, hjl, ring, _⟩
    · refine ⟨t, _, rfl, .inl (.inl et), rfl, _, _, rfl, _, _, rfl, rfl, ?_⟩
      refine gn_norm (σ' := [some (.ref p), some (.int ((n : Nat) : Int)), some (.ref lk), some (.int ((gs.length : Nat) : Int)), some (.ref ll), u5, some (.ref lf), some .non]) rfl ?_
      refine ⟨fun σ H' => σ = [some (.ref p), some (.int ((n : Nat) : Int)), some (.ref lk), some (.int ((gs.length : Nat) : Int)), some (.ref ll), u5, some (.ref lf), some .non] ∧ H' = H4, ⟨_, rfl, rfl, _, rfl, iteF ⟨rfl, rfl⟩⟩, ?_⟩
      rintro σ H5 ⟨rfl, rfl⟩
      obtain ⟨sk, sl⟩ := sat_app.mp sat
      refine ⟨_, rfl, _, rfl, p, ng, nw, lf, gs, ws, F, rfl, NA.same sm4, N, SqL.of ef, by omega, fun l H6 s6 hl el => ?_⟩
      refine q l (fun v => F.getD v 0) H6 (sm4.trans s6) (sm4.free hl) el sk ⟨F, rfl, .inl ⟨hset, _, sat⟩⟩ fun _ g hg => ?_
      unfold lagsAt
      have h1 := spot_le (gs := gs) g hg
      by_cases e : spotF gs g = gs.length
      · rw [e]
        omega
      · have a1 := sl _ (mem_limF.mpr ⟨spotF gs g, by omega, .inl rfl⟩)
        have a2 := sl _ (mem_limF.mpr ⟨spotF gs g, by omega, .inr rfl⟩)
        have a1 : F.getD (spotF gs g) 0 ≤ F.getD gs.length 0 + 500 := a1
        have a2 : F.getD gs.length 0 ≤ F.getD (spotF gs g) 0 + 500 := a2
        show -500 ≤ F.getD (spotF gs g) 0 - F.getD gs.length 0 ∧ F.getD (spotF gs g) 0 - F.getD gs.length 0 ≤ 500
        omega
    · refine ⟨t, _, rfl, .inl (.inl et), rfl, _, _, rfl, _, _, rfl, rfl, ?_⟩
      refine gn_norm (σ' := [some (.ref p), some (.int ((n : Nat) : Int)), some (.ref lk), some (.int ((gs.length : Nat) : Int)), some (.ref ll), u5, some .non, some (.ref lr)]) rfl ?_
      refine ⟨fun σ H' => ∃ (lf : Addr) (F : List Int) (u7 : Option V), σ = [some (.ref p), some (.int ((n : Nat) : Int)), some (.ref lk), some (.int ((gs.length : Nat) : Int)), some (.ref ll), u5, some (.ref lf), u7] ∧ Same H H' ∧ H' lf = some (.lst (F.map V.int)) ∧ F.length = n ∧ Sat ks (fun v => F.getD v 0) ∧ SetN n ks F, ?_, ?_⟩
      · refine ⟨_, rfl, rfl, _, rfl, iteT ?_⟩
        refine ⟨_, rfl, _, rfl, n, lk, kv, ks, rfl, by omega, by omega, sm4 _ _ hlk, al.imp fun _ _ r => BndV.tk (TK.same sm4) r, hbn, fun t2 H5 s5 ht2 tl2 => ?_⟩
        rcases tl2 with ⟨lf, F, et2, _, ef, hfl, sat, _, _, hset⟩ | ⟨_, _, _, _, _, _, ring2, _⟩
        · refine ⟨t2, _, rfl, .inl (.inl et2), rfl, _, _, rfl, _, _, rfl, rfl, ?_⟩
          exact ⟨lf, F, _, rfl, sm4.trans s5, ef, hfl, sat, hset⟩
        · exact absurd ring2 (sat_ring S0)
      rintro σ H5 ⟨lf, F, u7, rfl, s5, ef, hfl, sat, hset⟩
      refine ⟨_, rfl, _, rfl, p, ng, nw, lf, gs, ws, F, rfl, NA.same s5, N, SqL.of ef, by omega, fun l H6 s6 hl el => ?_⟩
      refine q l (fun v => F.getD v 0) H6 (s5.trans s6) (s5.free hl) el sat ⟨F, rfl, .inr ⟨⟨js, ring⟩, hset⟩⟩ fun hF => ?_
      have S1 : Sat (ks ++ limF gs.length gs.length) F0 := sat_app.mpr ⟨S0, fun b hb => by
        obtain ⟨s, hs, h⟩ := mem_limF.mp hb
        have := hF s hs
        rcases h with rfl | rfl
        · show F0 s ≤ F0 gs.length + 500
          omega
        · show F0 gs.length ≤ F0 s + 500
          omega⟩
      exact absurd ring (sat_ring S1)
end
end Lag

set_option maxRecDepth 100000
set_option maxHeartbeats 8000000
namespace Lag
open PySem PySem.Spec PyProof.Rows L2
abbrev sRegisters : Stmt := topS 46 -- @registers
abbrev sPlainFlow : Stmt := topS 73 -- @plain_flow
abbrev sPaperOf : Stmt := topS 74 -- @paper_of
abbrev sRoomIn : Stmt := topS 72 -- @room_in
abbrev sNumPiece : Stmt := topS 70 -- @is_numbered_piece
abbrev sIsPaper : Stmt := topS 69 -- @is_paper
abbrev sGateFault : Stmt := topS 71 -- @gate_fault
abbrev sPaperFault : Stmt := topS 76 -- @paper_fault
abbrev sBoundOf : Stmt := topS 77 -- @bound_of
abbrev sLetBounds : Stmt := topS 79 -- @let_bounds
abbrev sFewest : Stmt := topS 78 -- @fewest
theorem hu65_of {k : Nat} {A : Around} (r : Room k A) : A.units + 65 < cLine := by have := r.un; omega
theorem prg_leF {gs : List Gt} {ws : List Wr} (N : NetOk gs ws) : ∀ {ps : List Nat} {s e : Nat}, Pw ws s ps e → prg ws ps ≤ 100 * (ps.length : Int)
  | [], _, _, _ => Int.le_refl 0
  | p :: r, s, e, ⟨x, hx, hs, h3⟩ => by
    have h1 := prg_leF N h3
    have h2 := (N.wok x (List.mem_of_getElem? hx)).rl
    rw [prg_cons hx, List.length_cons]
    omega
theorem room_bd {gs : List Gt} {ws : List Wr} {b : Int} {pc : Pce} (N : NetOk gs ws) (h : PceOk gs ws pc) (hl : pc.2.length ≤ 1000) : -1 ≤ roomF gs ws b pc ∧ roomF gs ws b pc ≤ 100000 := by
  obtain ⟨_, e, hp⟩ := h
  have h1 := prg_leF N hp
  have h2 := prg_nn ws pc.2
  unfold roomF
  split <;> omega
theorem first_ix {α : Type} [DecidableEq α] : ∀ {l : List α} {x : α}, x ∈ l → ∃ j : Nat, l[j]? = some x ∧ ∀ (m : Nat) (z : α), m < j → l[m]? = some z → z ≠ x
  | y :: r, x, h => by
    by_cases e : y = x
    · exact ⟨0, by rw [e]; rfl, fun m z hm => absurd hm (Nat.not_lt_zero _)⟩
    · rcases List.mem_cons.mp h with h | h
      · exact absurd h.symm e
      · obtain ⟨j, h1, h2⟩ := first_ix h
        refine ⟨j + 1, h1, fun m z hm hz => ?_⟩
        cases m with
        | zero =>
          cases hz
          exact e
        | succ m => exact h2 m z (by omega) hz
def natsD (e : Nat × Nat) : PyData := .tuple [.int ((e.1 : Nat) : Int), .int ((e.2 : Nat) : Int)]
theorem natsD_eq (a b : Nat × Nat) : PyData.eqv (natsD a) (natsD b) = decide (a = b) := by
  show ((((a.1 : Nat) : Int) == ((b.1 : Nat) : Int)) && ((((a.2 : Nat) : Int) == ((b.2 : Nat) : Int)) && true)) = _
  rw [Bool.eq_iff_iff]
  simp only [Bool.and_eq_true, beq_iff_eq, decide_eq_true_eq, and_true]
  constructor
  · rintro ⟨h1, h2⟩
    exact Prod.ext (by omega) (by omega)
  · rintro rfl
    exact ⟨rfl, rfl⟩
theorem sh_nats {k : Nat} (e : Nat × Nat) : Sh (k + 1) (natsD e) := sh_tuple fun d hd => by
  rcases List.mem_cons.mp hd with rfl | hd
  · exact sh_int _
  · rw [List.mem_singleton.mp hd]
    exact sh_int _
theorem dp_natsV {K : PySem.W.Frag} {H : Hp} {v : V} {e : Nat × Nat} (h : NatsV K H v e) : Dp K H v (natsD e) := by
  obtain ⟨a, rfl, s⟩ := h
  exact .tup s (.cons (.int _) (.cons (.int _) .nil))
theorem dpall_nats {K : PySem.W.Frag} {H : Hp} : ∀ {vs : List V} {es : List (Nat × Nat)}, All2 (NatsV K H) vs es → DpAll K H vs (es.map natsD)
  | [], [], _ => .nil
  | [], _ :: _, h => by have := h.1; cases this
  | _ :: _, [], h => by have := h.1; cases this
  | v :: vs, e :: es, h => .cons (dp_natsV h.head) (dpall_nats h.tail)
def EntV (K : PySem.W.Frag) (H : Hp) (v : V) (e : Ent) : Prop := ∃ a p, v = .ref a ∧ SqT K H a [p, .int e.2] ∧ PceV K H p e.1
theorem EntV.same {K : PySem.W.Frag} {H H' : Hp} {v : V} {e : Ent} (s : Same H H') (h : EntV K H v e) : EntV K H' v e := by
  obtain ⟨a, p, e', h1, h2⟩ := h
  exact ⟨a, p, e', (TK.same s).seq h1, h2.same s⟩
/-- an entry whose list is none of Z -/
def EntZ (K : PySem.W.Frag) (Z : Addr → Prop) (H : Hp) (v : V) (e : Ent) : Prop := ∃ a t l, v = .ref a ∧ SqT K H a [.ref t, .int e.2] ∧ SqT K H t [.int ((e.1.1 : Nat) : Int), .ref l] ∧ H l = some (.lst (nvs e.1.2)) ∧ ¬ Z l
theorem EntZ.ent {K : PySem.W.Frag} {Z : Addr → Prop} {H : Hp} {v : V} {e : Ent} (h : EntZ K Z H v e) : EntV K H v e := by
  obtain ⟨a, t, l, h1, h2, h3, h4, _⟩ := h
  exact ⟨a, .ref t, h1, h2, t, l, rfl, h3, SqL.of h4⟩
theorem EntZ.same {K : PySem.W.Frag} {Z : Addr → Prop} {H H' : Hp} {v : V} {e : Ent} (s : Same H H') (h : EntZ K Z H v e) : EntZ K Z H' v e := by
  obtain ⟨a, t, l, h1, h2, h3, h4, h5⟩ := h
  exact ⟨a, t, l, h1, (TK.same s).seq h2, (TK.same s).seq h3, s _ _ h4, h5⟩
theorem EntZ.weak {K : PySem.W.Frag} {Z Z' : Addr → Prop} {H : Hp} {v : V} {e : Ent} (z : ∀ l, Z' l → Z l) (h : EntZ K Z H v e) : EntZ K Z' H v e := by
  obtain ⟨a, t, l, h1, h2, h3, h4, h5⟩ := h
  exact ⟨a, t, l, h1, h2, h3, h4, fun k => h5 (z l k)⟩
theorem BpV.pce {K : PySem.W.Frag} {Z : Addr → Prop} {H : Hp} {lb : Addr} {v : V} {bp : Bnd × Pce} (h : BpV K Z H lb v bp) : ∃ a pa, v = .ref a ∧ SqT K H a [.int ((bp.1.1 : Nat) : Int), .int ((bp.1.2.1 : Nat) : Int), .int bp.1.2.2, pa] ∧ PceV K H pa bp.2 := by
  obtain ⟨a, pa, l, e, h1, h2, h3, _⟩ := h
  exact ⟨a, .ref pa, e, h1, pa, l, rfl, h2, SqL.of h3⟩
theorem bpv_bnd {K : PySem.W.Frag} {Z : Addr → Prop} {H : Hp} {lb : Addr} {bv : List V} {bps : List (Bnd × Pce)} (h : All2 (BpV K Z H lb) bv bps) : All2 (BndV K H) bv (bps.map fun bp => bp.1) := by
  refine ⟨by rw [List.length_map]; exact h.1, fun i v bd hv hbd => ?_⟩
  rw [List.getElem?_map] at hbd
  cases e : bps[i]? with
  | none => rw [e] at hbd; cases hbd
  | some bp =>
    rw [e] at hbd
    cases hbd
    obtain ⟨a, pa, e1, e2, _⟩ := (h.2 i v bp hv e).pce
    exact ⟨a, pa, e1, e2⟩
theorem range_all2 (ws : List Wr) : All2 (fun (p : Nat) (x : Wr) => ws[p]? = some x) (List.range ws.length) ws := by
  refine ⟨List.length_range, fun i p x hp hx => ?_⟩
  have hi : i < ws.length := (List.getElem?_eq_some_iff.mp hx).1
  rw [List.getElem?_range hi] at hp
  cases hp
  exact hx
theorem plain_step {gs : List Gt} {ws us : List Wr} {b : Int} {bps : List (Bnd × Pce)} {f : List Int} {i j : Nat} {x : Wr} {bp : Bnd × Pce} (hx : us[i]? = some x) (hj : bps[j]? = some bp) (ho : BpOk gs ws b bp) (he : endsF ws bp.2 = (x.1, x.2.1)) (hl : f.length = bps.length)
    (ht : ∀ F, wsum (dF F) (bps.map fun bp => bp.1) f = wdl (fun x => F (spotF gs x)) (us.take i)) : ∀ F, wsum (dF F) (bps.map fun bp => bp.1) (f.set j (f.getD j 0 + 1)) = wdl (fun x => F (spotF gs x)) (us.take (i + 1)) := fun F => by
  have hjl : j < f.length := by rw [hl]; exact (List.getElem?_eq_some_iff.mp hj).1
  have hf : f[j]? = some (f.getD j 0) := by rw [List.getD_eq_getElem?_getD, List.getElem?_eq_getElem hjl]; rfl
  have e1 : bp.2.1 = x.1 := congrArg Prod.fst he
  have e2 : endW ws bp.2.1 bp.2.2 = x.2.1 := congrArg Prod.snd he
  rw [wsum_add (dF F) (b := bp.1) (by rw [List.getElem?_map, hj]; rfl) hf, ht F, List.take_add_one, hx, Int.mul_one]
  show _ = wdl _ (us.take i ++ [x])
  rw [wdl_snoc, ho]
  show _ + (F (spotF gs bp.2.1) - F (spotF gs (endW ws bp.2.1 bp.2.2))) = _
  rw [e2, e1]
theorem wsum_zero (c : Bnd → Int) : ∀ (bs : List Bnd) (n : Nat), wsum c bs (List.replicate n 0) = 0
  | [], n => wsum_nil c _
  | b :: bs, 0 => rfl
  | b :: bs, n + 1 => by
    rw [List.replicate_succ]
    show c b * 0 + wsum c bs (List.replicate n 0) = 0
    rw [wsum_zero c bs n, Int.mul_zero]
    rfl
theorem rep0 (n : Nat) : (List.replicate n [V.int 0]).flatten = (List.replicate n (0 : Int)).map V.int := by
  rw [List.map_replicate]
  exact List.flatten_replicate_singleton
/-- the flow of wires for themselves, exactly -/
def plnF (ws : List Wr) (bps : List (Bnd × Pce)) (us : List Wr) : List Int := us.foldl (fun f x => f.set (((bps.map fun bp => endsF ws bp.2)).idxOf (x.1, x.2.1)) (f.getD (((bps.map fun bp => endsF ws bp.2)).idxOf (x.1, x.2.1)) 0 + 1)) (List.replicate bps.length 0)
theorem plnF_snoc (ws : List Wr) (bps : List (Bnd × Pce)) (us : List Wr) (x : Wr) : plnF ws bps (us ++ [x]) = (plnF ws bps us).set (((bps.map fun bp => endsF ws bp.2)).idxOf (x.1, x.2.1)) ((plnF ws bps us).getD (((bps.map fun bp => endsF ws bp.2)).idxOf (x.1, x.2.1)) 0 + 1) := by
  unfold plnF
  rw [List.foldl_append]
  rfl
theorem idx_first {α : Type} [BEq α] [LawfulBEq α] : ∀ {l : List α} {x : α} {j : Nat}, l[j]? = some x → (∀ (m : Nat) (z : α), m < j → l[m]? = some z → z ≠ x) → l.idxOf x = j
  | [], x, j, h, _ => by cases h
  | y :: r, x, 0, h, _ => by
    cases h
    exact List.idxOf_cons_self
  | y :: r, x, j + 1, h, hn => by
    have h0 := hn 0 y (Nat.succ_pos _) rfl
    have ih := idx_first (l := r) (x := x) (j := j) h fun m z hm hz => hn (m + 1) z (by omega) hz
    rw [List.idxOf_cons, beq_eq_false_iff_ne.mpr h0, ih]
    rfl
def spRegisters (K : PySem.W.Frag) (C : Addr) : Sp := fun vs H Q _ => ∃ (p ng nw : Addr) (gs : List Gt) (ws : List Wr), vs = [.ref p] ∧ NetAt K C H p ng nw gs ws ∧ NetOk gs ws ∧ ∀ H', Same H H' → Q (.int (regsum ws)) H'
def spPlainFlow (K : PySem.W.Frag) (C : Addr) : Sp := fun vs H Q _ => ∃ (p ng nw lb lq : Addr) (qs : List Nat) (gs : List Gt) (ws us : List Wr) (b : Int) (bv : List V) (bps : List (Bnd × Pce)), vs = [.ref p, .ref lb, .ref lq] ∧ NetAt K C H p ng nw gs ws ∧ NetOk gs ws ∧ H lb = some (.lst bv) ∧ (∃ Z, All2 (BpV K Z H lb) bv bps) ∧ BdsOk gs ws b (bps.map fun bp => bp.2) (bps.map fun bp => bp.1) ∧ bps.length ≤ 11000 ∧ (∀ bp ∈ bps, PceOk gs ws bp.2 ∧ bp.2.2.length ≤ 1000) ∧ All2 (fun (p : Nat) (x : Wr) => ws[p]? = some x) qs us ∧ SqL K H lq (nvs qs) ∧
  ∀ l f H', Same H H' → H l = none → H' l = some (.lst (f.map V.int)) → f.length = bps.length → (∀ x ∈ f, 0 ≤ x) → (∀ F, wsum (dF F) (bps.map fun bp => bp.1) f = wdl (fun x => F (spotF gs x)) us) → f = plnF ws bps us → Q (.ref l) H'
def spPaperOf (K : PySem.W.Frag) : Sp := fun vs H Q _ => ∃ (lb lf lt : Addr) (bv : List V) (bps : List (Bnd × Pce)) (f : List Int) (Z : Addr → Prop), vs = [.ref lb, .ref lf] ∧ H lb = some (.lst bv) ∧ All2 (BpV K Z H lt) bv bps ∧ SqL K H lf (f.map V.int) ∧ f.length = bps.length ∧ bps.length ≤ 11000 ∧
  ∀ l ev H', Same H H' → H l = none → H' l = some (.lst ev) → All2 (EntZ K Z H') ev (papF bps f) → Q (.ref l) H'
def spRoomIn (K : PySem.W.Frag) (C : Addr) : Sp := fun vs H Q _ => ∃ (p ng nw lp : Addr) (gs : List Gt) (ws : List Wr) (b : Int) (ev : List V) (es : List Ent), vs = [.ref p, .int b, .ref lp] ∧ NetAt K C H p ng nw gs ws ∧ NetOk gs ws ∧ SqL K H lp ev ∧ All2 (EntV K H) ev es ∧ (∀ e ∈ es, EntOk gs ws e) ∧ es.length ≤ 11000 ∧ ∀ H', Same H H' → Q (.int (psum (roomF gs ws b) es)) H'
def spNumPiece (K : PySem.W.Frag) (C : Addr) : Sp := fun vs H Q _ => ∃ (p ng nw : Addr) (gs : List Gt) (ws : List Wr) (v : V) (e : Ent), vs = [.ref p, v] ∧ NetAt K C H p ng nw gs ws ∧ NetOk gs ws ∧ EntV K H v e ∧ EntOk gs ws e ∧ ∀ H', Same H H' → Q (.bl true) H'
def spIsPaper (K : PySem.W.Frag) (C : Addr) : Sp := fun vs H Q _ => ∃ (p ng nw lp : Addr) (gs : List Gt) (ws : List Wr) (ev : List V) (es : List Ent), vs = [.ref p, .ref lp] ∧ NetAt K C H p ng nw gs ws ∧ NetOk gs ws ∧ SqL K H lp ev ∧ All2 (EntV K H) ev es ∧ (∀ e ∈ es, EntOk gs ws e) ∧ es.length ≤ 11000 ∧ ∀ H', Same H H' → Q (.bl true) H'
/-- balanced: no fault -/
def BalP (gs : List Gt) (ws us : List Wr) (es : List Ent) : Prop := ∀ g, g < gs.length → ¬ portK (kindAt gs g) → psum (dlP ws g) es = wdl (dl g) us
def spGateFault (K : PySem.W.Frag) (C : Addr) : Sp := fun vs H Q _ => ∃ (p ng nw lp lq : Addr) (qs : List Nat) (gs : List Gt) (ws us : List Wr) (ev : List V) (es : List Ent), vs = [.ref p, .ref lp, .ref lq] ∧ NetAt K C H p ng nw gs ws ∧ NetOk gs ws ∧ SqL K H lp ev ∧ All2 (EntV K H) ev es ∧ (∀ e ∈ es, EntOk gs ws e) ∧ BalP gs ws us es ∧ All2 (fun (p : Nat) (x : Wr) => ws[p]? = some x) qs us ∧ SqL K H lq (nvs qs) ∧ ∀ H', Same H H' → Q .non H'
def spPaperFault (K : PySem.W.Frag) (C : Addr) : Sp := fun vs H Q _ => ∃ (p ng nw lp : Addr) (gs : List Gt) (ws : List Wr) (b : Int) (ev : List V) (es : List Ent), vs = [.ref p, .int b, .ref lp] ∧ NetAt K C H p ng nw gs ws ∧ NetOk gs ws ∧ 0 ≤ b ∧ SqL K H lp ev ∧ All2 (EntV K H) ev es ∧ (∀ e ∈ es, EntOk gs ws e) ∧ es.length ≤ 11000 ∧ Bal gs ws es ∧ ∀ H', Same H H' → Q .non H'
def spBoundOf (K : PySem.W.Frag) (C : Addr) : Sp := fun vs H Q _ => ∃ (p ng nw lp : Addr) (gs : List Gt) (ws : List Wr) (b : Int) (ev : List V) (es : List Ent), vs = [.ref p, .ref lp, .int b] ∧ NetAt K C H p ng nw gs ws ∧ NetOk gs ws ∧ 0 ≤ b ∧ SqL K H lp ev ∧ All2 (EntV K H) ev es ∧ (∀ e ∈ es, EntOk gs ws e) ∧ es.length ≤ 11000 ∧ Bal gs ws es ∧ ∀ H', Same H H' → Q (.int (regsum ws - psum (roomF gs ws b) es)) H'
def spLetBounds (K : PySem.W.Frag) (C : Addr) : Sp := fun vs H Q _ => ∃ (p ng nw : Addr) (gs : List Gt) (ws : List Wr) (b : Int), vs = [.ref p, .int b] ∧ NetAt K C H p ng nw gs ws ∧ NetOk gs ws ∧ 0 ≤ b ∧ FeasE gs ws b ∧
  ∀ (lb : Addr) (bv : List V) (bps : List (Bnd × Pce)) (H' : Hp), Same H H' → H lb = none → H' lb = some (.lst bv) → All2 (BpV K (fun l => H l ≠ none) H' lb) bv bps → BdsOk gs ws b (bps.map fun bp => bp.2) (bps.map fun bp => bp.1) → bps.length ≤ 10000 → (∀ bp ∈ bps, PceOk gs ws bp.2 ∧ bp.2.2.length ≤ 1000) → Q (.ref lb) H'
/-- fewest told exactly: lags and a paper -/
def FwX (gs : List Gt) (ws : List Wr) (b : Int) (L : Nat → Int) (es : List Ent) : Prop := ∃ (bps : List (Bnd × Pce)) (g : List Int) (G : Nat → Int), BdsOk gs ws b (bps.map fun bp => bp.2) (bps.map fun bp => bp.1) ∧ FlowS (gs.length + 1) (bps.map fun bp => bp.1) (plnF ws bps ws) g ∧ FEnd (bps.map fun bp => bp.1) g ∧ es = papF bps g ∧ NearX (gs.length + 1) gs ((bothI (bps.map fun bp => bp.1) g (bps.map fun bp => bp.1).length).map fun e => e.1) G ∧ L = lagsAt gs G
/-- the fewest registers of lags for b, such lags, a paper -/
def spFewest (K : PySem.W.Frag) (C : Addr) : Sp := fun vs H Q _ => ∃ (p ng nw : Addr) (gs : List Gt) (ws : List Wr) (b : Int), vs = [.ref p, .int b] ∧ NetAt K C H p ng nw gs ws ∧ NetOk gs ws ∧ 0 ≤ b ∧ FeasE gs ws b ∧
  ∀ (t ll lp : Addr) (m : Int) (L : Nat → Int) (ev : List V) (es : List Ent) (H' : Hp), Same H H' → H' t = some (.tup [.int m, .ref ll, .ref lp]) → H ll = none → H' ll = some (.lst ((lagsL gs L).map V.int)) → H lp = none → H' lp = some (.lst ev) → All2 (EntZ K (fun l => H l ≠ none) H') ev es → (∀ e ∈ es, EntOk gs ws e) → es.length ≤ 11000 → Bal gs ws es →
    Feas gs ws b L → m = cntsum ws L → m = regsum ws - psum (roomF gs ws b) es → (∀ R : Int, 1 ≤ R → ((gs.length : Int) + 1) * R ≤ 500 → (∀ s e c, s < gs.length → best gs ws s e = some c → c.1 ≤ R) → ∀ g, g < gs.length → -500 ≤ L g ∧ L g ≤ 500) → FwX gs ws b L es → Q (.ref t) H'
section
variable {P : Program} {w : World} {K : PySem.W.Frag} {mg : Str → Option Value} {base : Heap}
abbrev nRegisters : List Str := ["net", "start", "end", "held"]
theorem scRegisters : FnScope nRegisters ["net"] (defScope sRegisters) := ⟨rfl, rfl, rfl, by decide +kernel, rfl, by decide +kernel, by decide +kernel⟩
abbrev DRegisters (P : Program) (w : World) (K : PySem.W.Frag) (mg : Str → Option Value) (base : Heap) (C : Addr) := Df P w K mg base 1 "registers" ["net"] (spRegisters K C)
theorem ok_registers {f C : Addr} {fd : FuncData} (F : Fun K "registers" "registers" sRegisters f fd) (hm : mg "registers" = some (.ref f)) (B : Bt mg) (T : NT K mg C) (ms : mg "sum" = none) : DRegisters P w K mg base C f fd := by
  refine ⟨?_, hm, F.kp, F.binds fun _ _ _ _ _ _ us hl => match us, hl with | [_], _ => rfl⟩
  refine F.ok scRegisters (fun vs H Q E h => ?_) (fun cdv A outer s H vs Q E hr h => ?_)
  · obtain ⟨p, ng, nw, gs, ws, rfl, _⟩ := h
    rfl
  · obtain ⟨p, ng, nw, gs, ws, rfl, NA, N, q⟩ := h
    have nd := scRegisters.nd
    refine ⟨_, pss_one (ps_ret (pe_callB (cr_sum rfl) (by rfl) ms (by decide +kernel) (pa_cons (pe_lc (own := [("start", 1), ("end", 2), ("held", 3)]) (g := (gTup K 3 (gCons (gName 1) (gCons (gName 2) (gCons (gName 3) gNil))))) (tt := tYes) (te := (tCB (Evl.rLenS K) (tCons (tVar 3) tNil))) rfl nd (pi_list (pe_fld (pv 0) rfl)) (blkOk_by (N := nRegisters) (sc := defScope sRegisters) (own := [("start", 1), ("end", 2), ("held", 3)]) (by decide +kernel)) (fun _ _ _ _ _ => (pg_tup rfl (pgs_cons (pg_name (i := 1) nd rfl (.inl rfl)) (pgs_cons (pg_name (i := 2) nd rfl (.inl rfl)) (pgs_cons (pg_name (i := 3) nd rfl (.inl rfl)) pgs_nil))))) (fun _ _ _ _ _ => pts_nil) (fun _ _ _ _ _ => (pe_callB call_len_seq (by rfl) B.len PySem.boot_len (pa_cons (pv 3) pa_nil)))) pa_nil))), ?_⟩
    obtain ⟨dx, ob⟩ := id NA.ob
    obtain ⟨gv, hgv, ga⟩ := id NA.g
    obtain ⟨wv, hwv, wa⟩ := id NA.w
    have hlg : gv.length = gs.length := ga.1
    have hlw : wv.length = ws.length := wa.1
    have hgl := N.gl
    have hwl := N.wl
    refine ⟨_, rfl, p, C, dx, _, _, rfl, ob, T.cl, T.nW, nf_wires _ _, nw, rfl, ⟨_, SqL.of hwv⟩, fun D hD => ?_⟩
    refine lc_list (K := K) (a := nw) (xs := wv) (fun i Hc => Hc D = some (.lst (((ws.take i).map fun x => ((x.2.2.length : Nat) : Int)).map V.int)) ∧ Same H Hc) ⟨upd_same, same_new hD⟩ (fun i Hc _ ⟨_, sm⟩ => SqL.of (sm _ _ hwv)) ?_ ?_
    · rintro i v Hc hv ⟨hc, sm⟩
      obtain ⟨x, hx, a, b, rfl, sq1, sq2⟩ := wa.get hv
      have hi : i < ws.length := (List.getElem?_eq_some_iff.mp hx).1
      have tk := TK.same sm
      refine ⟨a, _, rfl, tk.seq sq1, rfl, _, _, rfl, _, _, rfl, _, _, rfl, rfl, rfl, tyes ?_⟩
      refine ⟨_, rfl, b, _, rfl, .inr (tk.seq sq2), _, hc, ?_, ?_, same_mut sm hD⟩
      · rw [List.length_map, List.length_map, List.length_take]
        exact small1000 (by omega)
      · rw [upd_same, List.take_add_one, hx, List.map_append, List.map_append, List.length_map]
        rfl
    rintro H1 ⟨h1, s1⟩
    rw [hlw, List.take_length] at h1
    exact ⟨D, _, rfl, SqL.of h1, q H1 s1⟩
abbrev nPlainFlow : List Str := ["net", "bounds", "places", "start", "end", "room", "piece", "ends", "told", "place"]
theorem scPlainFlow : FnScope nPlainFlow ["net", "bounds", "places"] (defScope sPlainFlow) := ⟨rfl, rfl, rfl, by decide +kernel, rfl, by decide +kernel, by decide +kernel⟩
abbrev DPlainFlow (P : Program) (w : World) (K : PySem.W.Frag) (mg : Str → Option Value) (base : Heap) (C : Addr) := Df P w K mg base 3 "plain_flow" ["net", "bounds", "places"] (spPlainFlow K C)
theorem ok_plainFlow {f fE C : Addr} {fd fdE : FuncData} (F : Fun K "plain_flow" "plain_flow" sPlainFlow f fd) (hm : mg "plain_flow" = some (.ref f)) (B : Bt mg) (T : NT K mg C) (DEs : DEndsOf P w K mg base C fE fdE) : DPlainFlow P w K mg base C f fd := by
  refine ⟨?_, hm, F.kp, F.binds fun _ _ _ _ _ _ us hl => match us, hl with | [_, _, _], _ => rfl⟩
  refine F.ok scPlainFlow (fun vs H Q E h => ?_) (fun cdv A outer s H vs Q E hr h => ?_)
  · obtain ⟨p, ng, nw, lb, lq, qs, gs, ws, us, b, bv, bps, rfl, _⟩ := h
    rfl
  · obtain ⟨p, ng, nw, lb, lq, qs, gs, ws, us, b, bv, bps, rfl, NA, N, hlb, ⟨Z, al⟩, bok, hbl, hpce, pu, hlq, q⟩ := h
    have nd := scPlainFlow.nd
    refine ⟨_, pss_cons (ps_setLc (i := 7) (own := [("start", 3), ("end", 4), ("room", 5), ("piece", 6)]) (g := (gTup K 4 (gCons (gName 3) (gCons (gName 4) (gCons (gName 5) (gCons (gName 6) gNil)))))) (tt := tYes) (te := (tCall (spEndsOf K C) [] E0 (tCons (tVar 0) (tCons (tVar 6) tNil)))) rfl nd rfl rfl (sw_true rfl rfl rfl (by decide +kernel)) (pi_list (pv 1)) (blkOk_by (N := nPlainFlow) (sc := defScope sPlainFlow) (own := [("start", 3), ("end", 4), ("room", 5), ("piece", 6)]) (by decide +kernel)) (fun _ _ _ _ _ => (pg_tup rfl (pgs_cons (pg_name (i := 3) nd rfl (.inl rfl)) (pgs_cons (pg_name (i := 4) nd rfl (.inl rfl)) (pgs_cons (pg_name (i := 5) nd rfl (.inl rfl)) (pgs_cons (pg_name (i := 6) nd rfl (.inl rfl)) pgs_nil)))))) (fun _ _ _ _ _ => pts_nil) (fun _ _ _ _ _ => (pe_call DEs.ok (hr.mono (by decide)) (by rfl) DEs.mg DEs.kp DEs.bd .nil pass0 (pa_cons (pv 0) (pa_cons (pv 6) pa_nil))))) <|
        pss_cons (ps_set (i := 8) nd rfl (.inl rfl) (pe_op op_rep (pe_lst (pa_cons pe_int pa_nil)) (pe_callB call_len_seq (by rfl) B.len PySem.boot_len (pa_cons (pv 1) pa_nil)))) <|
        pss_cons (ps_for PassesOwn.never rfl (pi_list (pv 2)) (pg_name (i := 9) nd rfl (.inl rfl)) (pss_one (ps_augS (pv 8) (pe_bm PySem.F.plainAttrs_list PySem.F.slot_list_index PySem.F.type_list_index (mt_indexD (hu65_of hr)) (pv 7) (pa_cons (pe_tup (pa_cons (pe_ix ix_tup (pe_ix ix_list (pe_fld (pv 0) rfl) (pv 9) (fun _ _ => rfl)) pe_int (fun _ _ => rfl)) (pa_cons (pe_ix ix_tup (pe_ix ix_list (pe_fld (pv 0) rfl) (pv 9) (fun _ _ => rfl)) pe_int (fun _ _ => rfl)) pa_nil))) pa_nil)) get_list pe_int ip_add set_list))) <|
        pss_one (ps_ret (pv 8)), ?_⟩
    obtain ⟨dx, ob⟩ := id NA.ob
    obtain ⟨gv, hgv, ga⟩ := id NA.g
    obtain ⟨wv, hwv, wa⟩ := id NA.w
    have hlg : gv.length = gs.length := ga.1
    have hlw : wv.length = ws.length := wa.1
    have hgl := N.gl
    have hwl := N.wl
    have hbv : bv.length = bps.length := al.1
    refine ⟨_, rfl, lb, rfl, ⟨_, SqL.of hlb⟩, fun le hle => ?_⟩
    refine lc_list (K := K) (a := lb) (xs := bv) (fun i Hc => ∃ ev : List V, Hc le = some (.lst ev) ∧ All2 (NatsV K Hc) ev ((bps.take i).map fun bp => endsF ws bp.2) ∧ Same H Hc) ⟨[], upd_same, .nil, same_new hle⟩ (fun i Hc _ ⟨_, _, _, sm⟩ => SqL.of (sm _ _ hlb)) ?_ ?_
    · rintro i v Hc hv ⟨ev, hc, ea, sm⟩
      obtain ⟨bp, hbp, bpv⟩ := al.get hv
      obtain ⟨a, pa, rfl, sq, pcv⟩ := bpv.pce
      have hi : i < bps.length := (List.getElem?_eq_some_iff.mp hbp).1
      have hel := ea.1
      rw [List.length_map, List.length_take] at hel
      refine ⟨a, _, rfl, (TK.same sm).seq sq, rfl, _, _, rfl, _, _, rfl, _, _, rfl, _, _, rfl, rfl, rfl, tyes ?_⟩
      refine ⟨_, rfl, _, rfl, p, ng, nw, gs, ws, _, bp.2, rfl, NA.same sm, N, pcv.same sm, (hpce bp (List.mem_of_getElem? hbp)).1, fun t H2 s2 ht et => ?_⟩
      refine ⟨ev, s2 _ _ hc, small11k (by omega), ev ++ [.ref t], upd_same, ?_, same_mut (sm.trans s2) hle⟩
      rw [List.take_add_one, hbp, List.map_append]
      have tk2 : TK H2 (upd H2 le (.lst (ev ++ [.ref t]))) := TK.lst (s2 _ _ hc)
      exact All2.snoc (ea.imp fun _ _ r => (NatsV.tk (TK.same s2) r).tk tk2) ((show NatsV K H2 (.ref t) (endsF ws bp.2) from ⟨t, rfl, .inl (.inl et)⟩).tk tk2)
    rintro H1 ⟨ev, h1, ea, s1⟩
    rw [hbv, List.take_length] at ea
    refine gn_norm (σ' := [some (.ref p), some (.ref lb), some (.ref lq), none, none, none, none, some (.ref le), none, none]) rfl ?_
    refine ⟨(by show 1 ≤ sizeLine; decide), fun l0 hl0 => ?_⟩
    have s2 : Same H1 (upd H1 l0 (.lst [.int 0])) := same_new hl0
    have e2 : (upd H1 l0 (.lst [.int 0])) l0 = some (.lst [.int 0]) := upd_same
    obtain ⟨H2, hH2⟩ : ∃ H2, H2 = upd H1 l0 (.lst [.int 0]) := ⟨_, rfl⟩
    rw [← hH2] at s2 e2
    rw [← hH2]
    refine ⟨_, rfl, lb, bv, rfl, .inl (SqL.of ((s1.trans s2) _ _ hlb)), l0, _, [.int 0], rfl, rfl, e2, by omega, by omega, ?_, fun lf hlf => ?_⟩
    · have : 1 * ((bv.length : Nat) : Int).toNat ≤ sizeLine := Nat.le_of_lt (small11k (by omega))
      exact this
    rw [Int.toNat_natCast, hbv, rep0]
    have s3 : Same H2 (upd H2 lf (.lst ((List.replicate bps.length (0 : Int)).map V.int))) := same_new hlf
    have e3 : (upd H2 lf (.lst ((List.replicate bps.length (0 : Int)).map V.int))) lf = some (.lst ((List.replicate bps.length (0 : Int)).map V.int)) := upd_same
    obtain ⟨H3, hH3⟩ : ∃ H3, H3 = upd H2 lf (.lst ((List.replicate bps.length (0 : Int)).map V.int)) := ⟨_, rfl⟩
    rw [← hH3] at s3 e3
    refine gn_normH (σ' := [some (.ref p), some (.ref lb), some (.ref lq), none, none, none, none, some (.ref le), some (.ref lf), none]) (H' := H3) rfl hH3.symm ?_
    have s13 := s2.trans s3
    have s03 := s1.trans s13
    have hlf0 : H lf = none := (s1.trans s2).free hlf
    have h13 := s13 _ _ h1
    have ea3 := ea.imp fun _ _ r => NatsV.tk (TK.same s13) r
    refine ⟨_, rfl, lq, rfl, ⟨_, s03.seq hlq⟩, for_list (K := K) (a := lq) (xs := nvs qs) (fun i σ H' => ∃ (u9 : Option V) (f : List Int), σ = [some (.ref p), some (.ref lb), some (.ref lq), none, none, none, none, some (.ref le), some (.ref lf), u9] ∧ H' lf = some (.lst (f.map V.int)) ∧ f.length = bps.length ∧ (∀ x ∈ f, 0 ≤ x) ∧ (∀ F, wsum (dF F) (bps.map fun bp => bp.1) f = wdl (fun x => F (spotF gs x)) (us.take i)) ∧ Same H H' ∧ (∀ a o, a ≠ lf → H3 a = some o → H' a = some o) ∧ f = plnF ws bps (us.take i))
      ⟨_, _, rfl, e3, List.length_replicate, (fun x hx => by rw [List.eq_of_mem_replicate hx]; decide), (fun F => by rw [wsum_zero]; rfl), s03, (fun a o _ h => h), rfl⟩ (fun i σ H' _ ⟨_, _, _, _, _, _, _, sm, _⟩ => sm.seq hlq) ?_ ?_⟩
    · rintro i v σ H4 hv ⟨u9, f, rfl, hf, hfl, hf0, hft, sm, bt, fx⟩
      obtain ⟨k, hk, rfl⟩ := nvs_of hv
      obtain ⟨x, hux, hx⟩ := pu.get hk
      have WX := N.wok x (List.mem_of_getElem? hx)
      obtain ⟨_, hwvi, a, b2, rfl, sq1, sq2⟩ := wa.getR hx
      have tk := TK.same sm
      -- its bound
      obtain ⟨c, hc, _⟩ := best_le N WX.s (show Pw ws x.1 [k] x.2.1 from ⟨x, hx, rfl, rfl⟩)
      obtain ⟨pc, hpc, h1c, h2c, _⟩ := bok.full x.1 WX.s x.2.1 c hc
      obtain ⟨bp0, hbp0, rfl⟩ := List.mem_map.mp hpc
      have hmem : (x.1, x.2.1) ∈ bps.map fun bp => endsF ws bp.2 := List.mem_map.mpr ⟨bp0, hbp0, by show (bp0.2.1, endW ws bp0.2.1 bp0.2.2) = _; rw [h1c, endW_of h2c]⟩
      obtain ⟨j, hj1, hj2⟩ := first_ix hmem
      rw [List.getElem?_map] at hj1
      cases hbj : bps[j]? with
      | none => rw [hbj] at hj1; cases hj1
      | some bp =>
      rw [hbj] at hj1
      have hje : endsF ws bp.2 = (x.1, x.2.1) := Option.some.inj hj1
      have jx : ((bps.map fun bp => endsF ws bp.2)).idxOf (x.1, x.2.1) = j := idx_first (by rw [List.getElem?_map, hbj]; exact hj1) hj2
      have hjl : j < f.length := by rw [hfl]; exact (List.getElem?_eq_some_iff.mp hbj).1
      have nle : le ≠ lf := ne_of_none (s2 _ _ h1) hlf
      have hle4 := bt _ _ nle h13
      have tk4 : TK H3 H4 := fun a o ho h => bt a o (fun e => by
        rw [e, e3] at h
        cases h
        exact ho) h
      have ea4 := ea3.imp fun _ _ r => NatsV.tk tk4 r
      have ob4 := sm _ _ ob
      refine gn_norm (σ' := [some (.ref p), some (.ref lb), some (.ref lq), none, none, none, none, some (.ref le), some (.ref lf), some (.int ((k : Nat) : Int))]) rfl ?_
      refine ⟨_, rfl, _, rfl, .inl ⟨rfl, _, SqL.of hle4⟩, _, rfl, p, C, dx, _, _, rfl, ob4, T.cl, T.nW, nf_wires _ _, _, rfl, nw, wv, k, _, rfl, rfl, SqL.of (sm _ _ hwv), atI_nat hwvi, a, _, 0, _, rfl, rfl, tk.seq sq1, atI_nat (j := 0) rfl, ?_⟩
      refine ⟨_, rfl, p, C, dx, _, _, rfl, ob4, T.cl, T.nW, nf_wires _ _, _, rfl, nw, wv, k, _, rfl, rfl, SqL.of (sm _ _ hwv), atI_nat hwvi, a, _, 1, _, rfl, rfl, tk.seq sq1, atI_nat (j := 1) rfl, (by show 2 ≤ sizeLine; decide), fun tt htt => ?_⟩
      have s5 := same_new (o := .tup [.int ((x.1 : Nat) : Int), .int ((x.2.1 : Nat) : Int)]) htt
      have e5 : (upd H4 tt (.tup [.int ((x.1 : Nat) : Int), .int ((x.2.1 : Nat) : Int)])) tt = some (.tup [.int ((x.1 : Nat) : Int), .int ((x.2.1 : Nat) : Int)]) := upd_same
      generalize upd H4 tt (.tup [.int ((x.1 : Nat) : Int), .int ((x.2.1 : Nat) : Int)]) = H5 at s5 e5
      have dpt : Dp K H5 (.ref tt) (natsD (x.1, x.2.1)) := dp_natsV ⟨tt, rfl, .inl (.inl e5)⟩
      have dpl : Dp K H5 (.ref le) (.list ((bps.map fun bp => endsF ws bp.2).map natsD)) := .lst (SqL.of (s5 _ _ hle4)) (dpall_nats (ea4.imp fun _ _ r => NatsV.tk (TK.same s5) r))
      have hf5 := s5 _ _ hf
      refine ⟨le, _, _, _, j, natsD (x.1, x.2.1), rfl, rfl, dpl, dpt, Sh.ok (k := 2) (sh_list fun d hd => ?_) (by decide), Sh.ok (k := 1) (sh_nats _) (by decide), ?_, by rw [natsD_eq, decide_eq_true rfl], fun m z' hm hz' => ?_, ?_⟩
      · obtain ⟨e, _, rfl⟩ := List.mem_map.mp hd
        exact sh_nats _
      · rw [List.getElem?_map, List.getElem?_map, hbj]
        show some (natsD (endsF ws bp.2)) = _
        rw [hje]
      · rw [List.getElem?_map] at hz'
        cases hm' : (bps.map fun bp => endsF ws bp.2)[m]? with
        | none => rw [hm'] at hz'; cases hz'
        | some z =>
          rw [hm'] at hz'
          cases hz'
          rw [natsD_eq, decide_eq_false (hj2 m z hm hm')]
      refine ⟨lf, _, j, _, rfl, rfl, SqL.of hf5, sgetD_at hjl, _, _, rfl, rfl, lf, _, _, j, rfl, rfl, hf5, Evl.ixN_nat (by rw [List.length_map]; exact hjl), ?_⟩
      refine ⟨_, f.set j (f.getD j 0 + 1), rfl, by rw [upd_same, List.map_set], by rw [List.length_set]; exact hfl, fun y hy => ?_, plain_step hux hbj (bok.bp bp (List.mem_of_getElem? hbj)) hje hfl hft, same_mut (sm.trans s5) hlf0, (fun a o n h => (upd_ne n).trans (s5 _ _ (bt a o n h))), by rw [List.take_add_one, hux]; show _ = plnF ws bps (_ ++ [x]); rw [plnF_snoc, ← fx, jx]⟩
      rcases List.mem_or_eq_of_mem_set hy with h | h
      · exact hf0 y h
      · have := hf0 (f.getD j 0) (by rw [List.getD_eq_getElem?_getD, List.getElem?_eq_getElem hjl]; exact List.getElem_mem _)
        omega
    · rintro σ H4 ⟨u9, f, rfl, hf, hfl, hf0, hft, sm, bt, fx⟩
      rw [nvs_len, pu.1, List.take_length] at hft fx
      exact ⟨_, rfl, q lf f H4 sm hlf0 hf hfl hf0 hft fx⟩
end
end Lag

set_option maxRecDepth 100000
set_option maxHeartbeats 8000000
namespace Lag
open PySem PySem.Spec PyProof.Rows L2
theorem ent_len {K : PySem.W.Frag} {H : Hp} {ev : List V} {es : List Ent} (h : All2 (EntV K H) ev es) : ev.length = es.length := h.1
theorem dlP_eq {gs : List Gt} {ws : List Wr} {pc : Pce} {e : Nat} (g : Nat) (h : Pw ws pc.1 pc.2 e) : dlP ws g pc = dl g pc.1 - dl g e := by
  unfold dlP
  rw [endW_of h]
/-- an entry whose piece's list is not D -/
def EntD (K : PySem.W.Frag) (Z : Addr → Prop) (D : Addr) (H : Hp) (v : V) (e : Ent) : Prop := ∃ a b l, v = .ref a ∧ SqT K H a [.ref b, .int e.2] ∧ SqT K H b [.int ((e.1.1 : Nat) : Int), .ref l] ∧ H l = some (.lst (nvs e.1.2)) ∧ l ≠ D ∧ ¬ Z l
theorem EntD.same {K : PySem.W.Frag} {Z : Addr → Prop} {D : Addr} {H H' : Hp} {v : V} {e : Ent} (s : Same H H') (h : EntD K Z D H v e) : EntD K Z D H' v e := by
  obtain ⟨a, b, l, e', h1, h2, h3, h4⟩ := h
  exact ⟨a, b, l, e', (TK.same s).seq h1, (TK.same s).seq h2, s _ _ h3, h4⟩
theorem EntD.mut {K : PySem.W.Frag} {Z : Addr → Prop} {D : Addr} {H : Hp} {xs : List V} {o : HO} {v : V} {e : Ent} (hD : H D = some (.lst xs)) (h : EntD K Z D H v e) : EntD K Z D (upd H D o) v e := by
  obtain ⟨a, b, l, e', h1, h2, h3, h4⟩ := h
  exact ⟨a, b, l, e', (TK.lst hD).seq h1, (TK.lst hD).seq h2, (upd_ne h4.1).trans h3, h4⟩
theorem EntD.entz {K : PySem.W.Frag} {Z : Addr → Prop} {D : Addr} {H : Hp} {v : V} {e : Ent} (h : EntD K Z D H v e) : EntZ K Z H v e := by
  obtain ⟨a, b, l, e', h1, h2, h3, _, h4⟩ := h
  exact ⟨a, b, l, e', h1, h2, h3, h4⟩
theorem int_atF {l : List Int} {i : Nat} {x : V} (h : (l.map V.int)[i]? = some x) : ∃ z, l[i]? = some z ∧ x = V.int z := by
  rw [List.getElem?_map] at h
  cases e : l[i]? with
  | none =>
    rw [e] at h
    cases h
  | some z =>
    rw [e] at h
    cases h
    exact ⟨z, rfl, rfl⟩
section
variable {P : Program} {w : World} {K : PySem.W.Frag} {mg : Str → Option Value} {base : Heap}
abbrev nPaperOf : List Str := ["bounds", "flow", "start", "end", "room", "piece", "many"]
theorem scPaperOf : FnScope nPaperOf ["bounds", "flow"] (defScope sPaperOf) := ⟨rfl, rfl, rfl, by decide +kernel, rfl, by decide +kernel, by decide +kernel⟩
abbrev DPaperOf (P : Program) (w : World) (K : PySem.W.Frag) (mg : Str → Option Value) (base : Heap) := Df P w K mg base 1 "paper_of" ["bounds", "flow"] (spPaperOf K)
theorem ok_paperOf {f : Addr} {fd : FuncData} (F : Fun K "paper_of" "paper_of" sPaperOf f fd) (hm : mg "paper_of" = some (.ref f)) (B : Bt mg) : DPaperOf P w K mg base f fd := by
  refine ⟨?_, hm, F.kp, F.binds fun _ _ _ _ _ _ us hl => match us, hl with | [_, _], _ => rfl⟩
  refine F.ok scPaperOf (fun vs H Q E h => ?_) (fun cdv A outer s H vs Q E hr h => ?_)
  · obtain ⟨lb, lf, lt, bv, bps, f, Z, rfl, _⟩ := h
    rfl
  · obtain ⟨lb, lf, lt, bv, bps, f, Z, rfl, hlb, al, hlf, hfl, hbl, q⟩ := h
    have nd := scPaperOf.nd
    refine ⟨_, pss_one (ps_ret (pe_lc (own := [("many", 6), ("start", 2), ("end", 3), ("room", 4), ("piece", 5)]) (g := (gTup K 2 (gCons (gTup K 4 (gCons (gName 2) (gCons (gName 3) (gCons (gName 4) (gCons (gName 5) gNil))))) (gCons (gName 6) gNil)))) (tt := (tTest (tOp (rI0 fun i j => .bl (decide (j < i))) (tVar 6) (tC (.int 0))))) (te := (tTup (tCons (tVar 5) (tCons (tVar 6) tNil)))) rfl nd (pi_zip (by rfl) B.zip (pa_cons (pv 0) (pa_cons (pv 1) pa_nil))) (blkOk_by (N := nPaperOf) (sc := defScope sPaperOf) (own := [("many", 6), ("start", 2), ("end", 3), ("room", 4), ("piece", 5)]) (by decide +kernel)) (fun _ _ _ _ _ => (pg_tup rfl (pgs_cons (pg_tup rfl (pgs_cons (pg_name (i := 2) nd rfl (.inl rfl)) (pgs_cons (pg_name (i := 3) nd rfl (.inl rfl)) (pgs_cons (pg_name (i := 4) nd rfl (.inl rfl)) (pgs_cons (pg_name (i := 5) nd rfl (.inl rfl)) pgs_nil))))) (pgs_cons (pg_name (i := 6) nd rfl (.inl rfl)) pgs_nil)))) (fun _ _ _ _ _ => pts_one (pt_cmpR op_gt (pv 6) pe_int (nomark _))) (fun _ _ _ _ _ => (pe_tup (pa_cons (pv 5) (pa_cons (pv 6) pa_nil)))))), ?_⟩
    have hbv : bv.length = bps.length := al.1
    refine ⟨_, rfl, _, rfl, lb, lf, bv, _, rfl, SqL.of hlb, hlf, fun D hD => ?_⟩
    refine lc_it (walk_zip (K := K) (a := lb) (b := lf) (xs := bv) (ys := f.map V.int) (n := bps.length) (by rw [List.length_map]; omega)) (fun i Hc => ∃ ev : List V, Hc D = some (.lst ev) ∧ All2 (EntD K Z D Hc) ev (papF (bps.take i) (f.take i)) ∧ ev.length ≤ i ∧ Same H Hc) ⟨[], upd_same, .nil, Nat.le_refl _, same_new hD⟩ (fun i Hc _ ⟨_, _, _, _, sm⟩ => ⟨SqL.of (sm _ _ hlb), sm.seq hlf⟩) ?_ ?_
    · rintro i v Hc Hc' hi ⟨ev, hc, ea, hel, sm⟩ ⟨T', x1, y, rfl, hT, rfl, ex, ey⟩
      obtain ⟨bp, hbp, bpv⟩ := al.get ex
      obtain ⟨a, b', l', rfl, sq, sp, sl, _, nz⟩ := bpv
      obtain ⟨z, hz, rfl⟩ := int_atF ey
      have sT := same_new (o := .tup [.ref a, .int z]) hT
      have eT : (upd Hc T' (.tup [.ref a, .int z])) T' = some (.tup [.ref a, .int z]) := upd_same
      have hcT := sT _ _ hc
      have smT := sm.trans sT
      have eaT := ea.imp fun _ _ r => EntD.same sT r
      generalize upd Hc T' (.tup [.ref a, .int z]) = Hd at sT eT hcT smT eaT
      refine ⟨T', _, rfl, .inl (.inl eT), rfl, _, _, rfl, a, _, rfl, (TK.same smT).seq sq, rfl, _, _, rfl, _, _, rfl, _, _, rfl, _, _, rfl, rfl, _, _, rfl, rfl, ?_⟩
      refine ⟨by
        show wipe ([some (V.ref lb), some (V.ref lf), some _, some _, some _, some _, some _] : L2.St) [6, 2, 3, 4, 5] = _
        rfl, ?_⟩
      have e1 : bps.take (i + 1) = bps.take i ++ [bp] := by rw [List.take_add_one, hbp]; rfl
      have e2 : f.take (i + 1) = f.take i ++ [z] := by rw [List.take_add_one, hz]; rfl
      have e3 : (bps.take i).length = (f.take i).length := by rw [List.length_take, List.length_take, hfl]
      rw [e1, e2, papF_snoc e3]
      refine ⟨_, rfl, _, _, rfl, rfl, _, rfl, ?_⟩
      by_cases h0 : 0 < z
      · rw [decide_eq_true h0, if_pos h0]
        refine iteT ⟨_, rfl, _, rfl, (by show 2 ≤ sizeLine; decide), fun tt htt => ?_⟩
        have s5 := same_new (o := .tup [.ref b', .int z]) htt
        have e5 : (upd Hd tt (.tup [.ref b', .int z])) tt = some (.tup [.ref b', .int z]) := upd_same
        generalize upd Hd tt (.tup [.ref b', .int z]) = He at s5 e5
        have nl : l' ≠ D := ne_of_none sl hD
        have s05 := smT.trans s5
        refine ⟨ev, s5 _ _ hcT, small11k (by omega), ev ++ [.ref tt], upd_same, ?_, by rw [List.length_append]; show _ + 1 ≤ _; omega, same_mut s05 hD⟩
        exact All2.snoc (eaT.imp fun _ _ r => EntD.mut (s5 _ _ hcT) (EntD.same s5 r)) (EntD.mut (s5 _ _ hcT) ⟨tt, b', l', rfl, .inl (.inl e5), (TK.same s05).seq sp, s05 _ _ sl, nl, nz⟩)
      · rw [decide_eq_false h0, if_neg h0, List.append_nil]
        exact iteF ⟨ev, hcT, eaT, by omega, smT⟩
    · rintro H1 ⟨ev, h1, ea, _, s1⟩
      rw [List.take_length, ← hfl, List.take_length] at ea
      exact q D ev H1 s1 hD h1 (ea.imp fun _ _ r => r.entz)
abbrev nRoomIn : List Str := ["net", "beat", "paper", "piece", "many"]
theorem scRoomIn : FnScope nRoomIn ["net", "beat", "paper"] (defScope sRoomIn) := ⟨rfl, rfl, rfl, by decide +kernel, rfl, by decide +kernel, by decide +kernel⟩
abbrev DRoomIn (P : Program) (w : World) (K : PySem.W.Frag) (mg : Str → Option Value) (base : Heap) (C : Addr) := Df P w K mg base 4 "room_in" ["net", "beat", "paper"] (spRoomIn K C)
theorem ok_roomIn {f fR C : Addr} {fd fdR : FuncData} (F : Fun K "room_in" "room_in" sRoomIn f fd) (hm : mg "room_in" = some (.ref f)) (B : Bt mg) (ms : mg "sum" = none) (DRm : DRoomOf P w K mg base C fR fdR) : DRoomIn P w K mg base C f fd := by
  refine ⟨?_, hm, F.kp, F.binds fun _ _ _ _ _ _ us hl => match us, hl with | [_, _, _], _ => rfl⟩
  refine F.ok scRoomIn (fun vs H Q E h => ?_) (fun cdv A outer s H vs Q E hr h => ?_)
  · obtain ⟨p, ng, nw, lp, gs, ws, b, ev, es, rfl, _⟩ := h
    rfl
  · obtain ⟨p, ng, nw, lp, gs, ws, b, ev, es, rfl, NA, N, hlp, al, eok, hel, q⟩ := h
    have nd := scRoomIn.nd
    refine ⟨_, pss_one (ps_ret (pe_callB (cr_sum rfl) (by rfl) ms (by decide +kernel) (pa_cons (pe_lc (own := [("piece", 3), ("many", 4)]) (g := (gTup K 2 (gCons (gName 3) (gCons (gName 4) gNil)))) (tt := tYes) (te := (tOp (rI CMul fun i j => .int (i * j)) (tCall (spRoomOf K C) [] E0 (tCons (tVar 0) (tCons (tVar 1) (tCons (tVar 3) tNil)))) (tVar 4))) rfl nd (pi_list (pv 2)) (blkOk_by (N := nRoomIn) (sc := defScope sRoomIn) (own := [("piece", 3), ("many", 4)]) (by decide +kernel)) (fun _ _ _ _ _ => (pg_tup rfl (pgs_cons (pg_name (i := 3) nd rfl (.inl rfl)) (pgs_cons (pg_name (i := 4) nd rfl (.inl rfl)) pgs_nil)))) (fun _ _ _ _ _ => pts_nil) (fun _ _ _ _ _ => (pe_op op_mul (pe_call DRm.ok (hr.mono (by decide)) (by rfl) DRm.mg DRm.kp DRm.bd .nil pass0 (pa_cons (pv 0) (pa_cons (pv 1) (pa_cons (pv 3) pa_nil)))) (pv 4)))) pa_nil))), ?_⟩
    have hev : ev.length = es.length := al.1
    refine ⟨_, rfl, lp, rfl, ⟨_, hlp⟩, fun D hD => ?_⟩
    refine lc_list (K := K) (a := lp) (xs := ev) (fun i Hc => Hc D = some (.lst (((es.take i).map fun e => roomF gs ws b e.1 * e.2).map V.int)) ∧ Same H Hc) ⟨upd_same, same_new hD⟩ (fun i Hc _ ⟨_, sm⟩ => sm.seq hlp) ?_ ?_
    · rintro i v Hc hv ⟨hc, sm⟩
      obtain ⟨e, he, a, pv', rfl, sq, pcv⟩ := al.get hv
      have hi : i < es.length := (List.getElem?_eq_some_iff.mp he).1
      obtain ⟨k1, k2, k3⟩ := eok e (List.mem_of_getElem? he)
      refine ⟨a, _, rfl, (TK.same sm).seq sq, rfl, _, _, rfl, _, _, rfl, rfl, rfl, tyes ?_⟩
      refine ⟨_, rfl, _, rfl, _, rfl, p, ng, nw, gs, ws, b, _, e.1, rfl, NA.same sm, N, pcv.same sm, k1, k2, fun H2 s2 => ?_⟩
      have rb := room_bd (b := b) N k1 k2
      refine ⟨_, rfl, _, _, rfl, rfl, .inl ⟨by omega, by omega⟩, _, s2 _ _ hc, ?_, ?_, same_mut (sm.trans s2) hD⟩
      · rw [List.length_map, List.length_map, List.length_take]
        exact small11k (by omega)
      · rw [upd_same, List.take_add_one, he, List.map_append, List.map_append]
        rfl
    rintro H1 ⟨h1, s1⟩
    rw [hev, List.take_length] at h1
    exact ⟨D, _, rfl, SqL.of h1, q H1 s1⟩
abbrev nNumPiece : List Str := ["net", "thing", "piece", "many"]
theorem scNumPiece : FnScope nNumPiece ["net", "thing"] (defScope sNumPiece) := ⟨rfl, rfl, rfl, by decide +kernel, rfl, by decide +kernel, by decide +kernel⟩
abbrev DNumPiece (P : Program) (w : World) (K : PySem.W.Frag) (mg : Str → Option Value) (base : Heap) (C : Addr) := Df P w K mg base 4 "is_numbered_piece" ["net", "thing"] (spNumPiece K C)
theorem ok_numPiece {f fI fW C : Addr} {fd fdI fdW : FuncData} (F : Fun K "is_numbered_piece" "is_numbered_piece" sNumPiece f fd) (hm : mg "is_numbered_piece" = some (.ref f)) (B : Bt mg) (DIp : DIsPiece P w K mg base C fI fdI) (DW : DWhole P w K mg base fW fdW) : DNumPiece P w K mg base C f fd := by
  refine ⟨?_, hm, F.kp, F.binds fun _ _ _ _ _ _ us hl => match us, hl with | [_, _], _ => rfl⟩
  refine F.ok scNumPiece (fun vs H Q E h => ?_) (fun cdv A outer s H vs Q E hr h => ?_)
  · obtain ⟨p, ng, nw, gs, ws, v, e, rfl, _⟩ := h
    rfl
  · obtain ⟨p, ng, nw, gs, ws, v, e, rfl, NA, N, ev, eok, q⟩ := h
    have nd := scNumPiece.nd
    refine ⟨_, pss_cons (ps_if (PW.pt (pw_or (pt_not (pt_val (pe_callB call_isi (by rfl) B.isi (by decide +kernel) (pa_cons (pv 1) (pa_cons (pe_bltn (v := .ty "tuple") (by rfl) B.tuple (by decide +kernel) rfl) pa_nil))))) (pw_or1 (pt_cmpR op_ne (pe_callB call_len_seq (by rfl) B.len PySem.boot_len (pa_cons (pv 1) pa_nil)) pe_int (nomark _))))) (pss_one (ps_ret pe_bl)) pss_nil) <|
        pss_cons (ps_asg (pv 1) (pg_tup rfl (pgs_cons (pg_name (i := 2) nd rfl (.inl rfl)) (pgs_cons (pg_name (i := 3) nd rfl (.inl rfl)) pgs_nil)))) <|
        pss_one (ps_ret (pe_and (pe_call DIp.ok (hr.mono (by decide)) (by rfl) DIp.mg DIp.kp DIp.bd .nil pass0 (pa_cons (pv 0) (pa_cons (pv 2) pa_nil))) (pe_and (pe_call DW.ok (hr.mono (by decide)) (by rfl) DW.mg DW.kp DW.bd .nil pass0 (pa_cons (pv 3) pa_nil)) (pe_one (pe_cmpR op_ge (pv 3) pe_int (nomark _)))))), ?_⟩
    obtain ⟨a, pv', rfl, sq, pcv⟩ := ev
    obtain ⟨k1, k2, k3⟩ := eok
    refine ⟨_, rfl, _, _, _, _, true, rfl, .ty "tuple", ty_tup sq, kit_ty (by decide +kernel), true, rfl, iteF ?_⟩
    refine ⟨_, rfl, a, _, rfl, .inr sq, rfl, false, rfl, iteF ?_⟩
    refine ⟨_, rfl, a, _, rfl, sq, rfl, _, _, rfl, _, _, rfl, rfl, ?_⟩
    refine ⟨_, rfl, _, rfl, p, ng, nw, gs, ws, _, e.1, rfl, NA, N, pcv, k1, fun H1 s1 => ⟨true, rfl, iteT ?_⟩⟩
    refine ⟨_, rfl, e.2, rfl, true, rfl, iteT ⟨_, rfl, _, _, rfl, rfl, ?_⟩⟩
    show Q (V.bl (decide (1 ≤ e.2))) H1
    rw [decide_eq_true k3]
    exact q H1 s1
abbrev nIsPaper : List Str := ["net", "thing", "entry"]
theorem scIsPaper : FnScope nIsPaper ["net", "thing"] (defScope sIsPaper) := ⟨rfl, rfl, rfl, by decide +kernel, rfl, by decide +kernel, by decide +kernel⟩
abbrev DIsPaper (P : Program) (w : World) (K : PySem.W.Frag) (mg : Str → Option Value) (base : Heap) (C : Addr) := Df P w K mg base 5 "is_paper" ["net", "thing"] (spIsPaper K C)
theorem ok_isPaper {f fN C : Addr} {fd fdN : FuncData} (F : Fun K "is_paper" "is_paper" sIsPaper f fd) (hm : mg "is_paper" = some (.ref f)) (B : Bt mg) (DNp : DNumPiece P w K mg base C fN fdN) : DIsPaper P w K mg base C f fd := by
  refine ⟨?_, hm, F.kp, F.binds fun _ _ _ _ _ _ us hl => match us, hl with | [_, _], _ => rfl⟩
  refine F.ok scIsPaper (fun vs H Q E h => ?_) (fun cdv A outer s H vs Q E hr h => ?_)
  · obtain ⟨p, ng, nw, lp, gs, ws, ev, es, rfl, _⟩ := h
    rfl
  · obtain ⟨p, ng, nw, lp, gs, ws, ev, es, rfl, NA, N, hlp, al, eok, hel, q⟩ := h
    have nd := scIsPaper.nd
    refine ⟨_, pss_one (ps_ret (pe_and (pe_callB call_isi (by rfl) B.isi (by decide +kernel) (pa_cons (pv 1) (pa_cons (pe_bltn (v := .ty "list") (by rfl) B.list (by decide +kernel) rfl) pa_nil))) (pe_one (pe_callB (cr_all rfl) (by rfl) B.all (by decide +kernel) (pa_cons (pe_lc (own := [("entry", 2)]) (g := (gName 2)) (tt := tYes) (te := (tCall (spNumPiece K C) [] E0 (tCons (tVar 0) (tCons (tVar 2) tNil)))) rfl nd (pi_list (pv 1)) (blkOk_by (N := nIsPaper) (sc := defScope sIsPaper) (own := [("entry", 2)]) (by decide +kernel)) (fun _ _ _ _ _ => (pg_name (i := 2) nd rfl (.inl rfl))) (fun _ _ _ _ _ => pts_nil) (fun _ _ _ _ _ => (pe_call DNp.ok (hr.mono (by decide)) (by rfl) DNp.mg DNp.kp DNp.bd .nil pass0 (pa_cons (pv 0) (pa_cons (pv 2) pa_nil))))) pa_nil))))), ?_⟩
    have hev : ev.length = es.length := al.1
    refine ⟨_, rfl, _, _, _, _, true, rfl, .ty "list", ty_lst hlp, kit_ty (by decide +kernel), true, rfl, iteT ?_⟩
    refine ⟨_, rfl, lp, rfl, ⟨_, hlp⟩, fun D hD => ?_⟩
    refine lc_list (K := K) (a := lp) (xs := ev) (fun i Hc => Hc D = some (.lst ((List.replicate i true).map V.bl)) ∧ Same H Hc) ⟨upd_same, same_new hD⟩ (fun i Hc _ ⟨_, sm⟩ => sm.seq hlp) ?_ ?_
    · rintro i v Hc hv ⟨hc, sm⟩
      obtain ⟨e, he, pev⟩ := al.get hv
      have hi : i < es.length := (List.getElem?_eq_some_iff.mp he).1
      refine ⟨rfl, tyes ?_⟩
      refine ⟨_, rfl, _, rfl, p, ng, nw, gs, ws, _, e, rfl, NA.same sm, N, EntV.same sm pev, eok e (List.mem_of_getElem? he), fun H2 s2 => ?_⟩
      refine ⟨_, s2 _ _ hc, ?_, ?_, same_mut (sm.trans s2) hD⟩
      · rw [List.length_map, List.length_replicate]
        exact small11k (by omega)
      · rw [upd_same, List.replicate_succ', List.map_append]
        rfl
    rintro H1 ⟨h1, s1⟩
    refine ⟨D, List.replicate ev.length true, rfl, SqL.of h1, ?_⟩
    have : ∀ n : Nat, (List.replicate n true).all id = true := fun n => by
      rw [List.all_eq_true]
      intro x hx
      exact List.eq_of_mem_replicate hx
    rw [this]
    exact q H1 s1
abbrev nGateFault : List Str := ["net", "paper", "places", "more", "piece", "many", "place", "number", "gate"]
theorem scGateFault : FnScope nGateFault ["net", "paper", "places"] (defScope sGateFault) := ⟨rfl, rfl, rfl, by decide +kernel, rfl, by decide +kernel, by decide +kernel⟩
abbrev DGateFault (P : Program) (w : World) (K : PySem.W.Frag) (mg : Str → Option Value) (base : Heap) (C : Addr) := Df P w K mg base 2 "gate_fault" ["net", "paper", "places"] (spGateFault K C)
theorem ok_gateFault {f fE fO C : Addr} {fd fdE fdO : FuncData} (F : Fun K "gate_fault" "gate_fault" sGateFault f fd) (hm : mg "gate_fault" = some (.ref f)) (B : Bt mg) (T : NT K mg C) (DEo : DEndOf P w K mg base C fE fdE) (DO : DOuter P w K mg base fO fdO) : DGateFault P w K mg base C f fd := by
  refine ⟨?_, hm, F.kp, F.binds fun _ _ _ _ _ _ us hl => match us, hl with | [_, _, _], _ => rfl⟩
  refine F.ok scGateFault (fun vs H Q E h => ?_) (fun cdv A outer s H vs Q E hr h => ?_)
  · obtain ⟨p, ng, nw, lp, lq, qs, gs, ws, us, ev, es, rfl, _⟩ := h
    rfl
  · obtain ⟨p, ng, nw, lp, lq, qs, gs, ws, us, ev, es, rfl, NA, N, hlp, al, eok, bal, pu, hlq, q⟩ := h
    have nd := scGateFault.nd
    refine ⟨_, pss_cons (ps_set (i := 3) nd rfl (.inl rfl) (pe_op op_rep (pe_lst (pa_cons pe_int pa_nil)) (pe_callB call_len_seq (by rfl) B.len PySem.boot_len (pa_cons (pe_fld (pv 0) rfl) pa_nil)))) <|
        pss_cons (ps_for PassesOwn.never rfl (pi_list (pv 1)) (pg_tup rfl (pgs_cons (pg_name (i := 4) nd rfl (.inl rfl)) (pgs_cons (pg_name (i := 5) nd rfl (.inl rfl)) pgs_nil))) (pss_cons (ps_augS (pv 3) (pe_ix ix_tup (pv 4) pe_int (fun _ _ => rfl)) get_list (pv 5) ip_add set_list) <|
        pss_one (ps_augS (pv 3) (pe_call DEo.ok (hr.mono (by decide)) (by rfl) DEo.mg DEo.kp DEo.bd .nil pass0 (pa_cons (pv 0) (pa_cons (pv 4) pa_nil))) get_list (pv 5) ip_sub set_list))) <|
        pss_cons (ps_for PassesOwn.never rfl (pi_list (pv 2)) (pg_name (i := 6) nd rfl (.inl rfl)) (pss_cons (ps_augS (pv 3) (pe_ix ix_tup (pe_ix ix_list (pe_fld (pv 0) rfl) (pv 6) (fun _ _ => rfl)) pe_int (fun _ _ => rfl)) get_list pe_int ip_sub set_list) <|
        pss_one (ps_augS (pv 3) (pe_ix ix_tup (pe_ix ix_list (pe_fld (pv 0) rfl) (pv 6) (fun _ _ => rfl)) pe_int (fun _ _ => rfl)) get_list pe_int ip_add set_list))) <|
        pss_cons (ps_for PassesOwn.never rfl (pi_enum (by rfl) B.enum (pa_cons (pe_fld (pv 0) rfl) pa_nil)) (pg_tup rfl (pgs_cons (pg_name (i := 7) nd rfl (.inl rfl)) (pgs_cons (pg_name (i := 8) nd rfl (.inl rfl)) pgs_nil))) (pss_one (ps_if (PW.pt (pw_and (pt_cmpR op_ne (pe_ix ix_list (pv 3) (pv 7) (fun _ _ => rfl)) pe_int (nomark _)) (pw_and1 (pt_not (pt_val (pe_call DO.ok (hr.mono (by decide)) (by rfl) DO.mg DO.kp DO.bd .nil pass0 (pa_cons (pv 8) pa_nil))))))) (pss_one (ps_ret (pe_tup (pa_cons pe_str (pa_cons (pv 7) pa_nil))))) pss_nil))) <|
        pss_one (ps_ret pe_non), ?_⟩
    obtain ⟨dx, ob⟩ := id NA.ob
    obtain ⟨gv, hgv, ga⟩ := id NA.g
    obtain ⟨wv, hwv, wa⟩ := id NA.w
    have hlg : gv.length = gs.length := ga.1
    have hlw : wv.length = ws.length := wa.1
    have hgl := N.gl
    have hwl := N.wl
    have hev : ev.length = es.length := al.1
    refine ⟨(by show 1 ≤ sizeLine; decide), fun l0 hl0 => ?_⟩
    have s2 : Same H (upd H l0 (.lst [.int 0])) := same_new hl0
    have e2 : (upd H l0 (.lst [.int 0])) l0 = some (.lst [.int 0]) := upd_same
    obtain ⟨H2, hH2⟩ : ∃ H2, H2 = upd H l0 (.lst [.int 0]) := ⟨_, rfl⟩
    rw [← hH2] at s2 e2
    rw [← hH2]
    refine ⟨_, rfl, p, C, dx, _, _, rfl, s2 _ _ ob, T.cl, T.nG, nf_gates _ _, ng, gv, rfl, .inl (SqL.of (s2 _ _ hgv)), l0, _, [.int 0], rfl, rfl, e2, by omega, by omega, ?_, fun lm hlm => ?_⟩
    · have : 1 * ((gv.length : Nat) : Int).toNat ≤ sizeLine := Nat.le_of_lt (small1000 (by omega))
      exact this
    rw [Int.toNat_natCast, hlg, rep0]
    have s3 : Same H2 (upd H2 lm (.lst ((List.replicate gs.length (0 : Int)).map V.int))) := same_new hlm
    have e3 : (upd H2 lm (.lst ((List.replicate gs.length (0 : Int)).map V.int))) lm = some (.lst ((List.replicate gs.length (0 : Int)).map V.int)) := upd_same
    obtain ⟨H3, hH3⟩ : ∃ H3, H3 = upd H2 lm (.lst ((List.replicate gs.length (0 : Int)).map V.int)) := ⟨_, rfl⟩
    rw [← hH3] at s3 e3
    refine gn_normH (σ' := [some (.ref p), some (.ref lp), some (.ref lq), some (.ref lm), none, none, none, none, none]) (H' := H3) rfl hH3.symm ?_
    have s03 := s2.trans s3
    have hlm0 : H lm = none := s2.free hlm
    -- the pieces
    refine ⟨_, rfl, lp, rfl, ⟨_, s03.seq hlp⟩, for_list (K := K) (a := lp) (xs := ev) (fun i σ H' => ∃ (u4 u5 : Option V) (ms : List Int), σ = [some (.ref p), some (.ref lp), some (.ref lq), some (.ref lm), u4, u5, none, none, none] ∧ H' lm = some (.lst (ms.map V.int)) ∧ ms.length = gs.length ∧ (∀ g, ms.getD g 0 = psum (dlP ws g) (es.take i)) ∧ Same H H')
      ⟨_, _, _, rfl, e3, List.length_replicate, (fun g => by
        rw [List.getD_eq_getElem?_getD, List.getElem?_replicate]
        split <;> rfl), s03⟩ (fun i σ H' _ ⟨_, _, _, _, _, _, _, sm⟩ => sm.seq hlp) ?_ ?_⟩
    · rintro i v σ H4 hv ⟨u4, u5, ms, rfl, hms, hml, hmg, sm⟩
      obtain ⟨e, he, a, pv', rfl, sq, b', l', rfl, sp, sl⟩ := al.get hv
      obtain ⟨⟨k1, m, k2⟩, k3, k4⟩ := eok e (List.mem_of_getElem? he)
      have hm := k2.lt N k1
      refine ⟨a, _, rfl, (TK.same sm).seq sq, rfl, _, _, rfl, _, _, rfl, rfl, ?_⟩
      refine ⟨_, rfl, _, rfl, b', _, 0, _, rfl, rfl, (TK.same sm).seq sp, atI_nat (j := 0) rfl, lm, _, e.1.1, _, rfl, rfl, SqL.of hms, sgetD_at (by omega), _, rfl, _, _, rfl, rfl, lm, _, _, e.1.1, rfl, rfl, hms, Evl.ixN_nat (by rw [List.length_map]; omega), ?_⟩
      have s5 : Same H (upd H4 lm (.lst ((ms.map V.int).set e.1.1 (.int (ms.getD e.1.1 0 + e.2))))) := same_mut sm hlm0
      have e5 : (upd H4 lm (.lst ((ms.map V.int).set e.1.1 (.int (ms.getD e.1.1 0 + e.2))))) lm = some (.lst ((ms.set e.1.1 (ms.getD e.1.1 0 + e.2)).map V.int)) := by rw [upd_same, List.map_set]
      have h5 := fun g => getD_add (ms := ms) (i := e.1.1) (g := g) (d := e.2) (by omega)
      have l5 : (ms.set e.1.1 (ms.getD e.1.1 0 + e.2)).length = gs.length := by rw [List.length_set]; exact hml
      generalize upd H4 lm (.lst ((ms.map V.int).set e.1.1 (.int (ms.getD e.1.1 0 + e.2)))) = H5 at s5 e5
      generalize ms.set e.1.1 (ms.getD e.1.1 0 + e.2) = ms1 at e5 h5 l5
      refine ⟨_, rfl, _, rfl, _, rfl, p, ng, nw, gs, ws, _, e.1, rfl, NA.same s5, N, ⟨b', l', rfl, (TK.same s5).seq sp, s5.seq sl⟩, ⟨k1, m, k2⟩, ?_⟩
      rw [endW_of k2]
      refine ⟨lm, _, m, _, rfl, rfl, SqL.of e5, sgetD_at (by omega), _, rfl, _, _, rfl, rfl, lm, _, _, m, rfl, rfl, e5, Evl.ixN_nat (by rw [List.length_map]; omega), ?_⟩
      refine ⟨_, _, ms1.set m (ms1.getD m 0 - e.2), rfl, by rw [upd_same, List.map_set], by rw [List.length_set]; exact l5, fun g => ?_, same_mut s5 hlm0⟩
      have h6 := getD_add (ms := ms1) (i := m) (g := g) (d := -e.2) (by omega)
      rw [show ms1.getD m 0 - e.2 = ms1.getD m 0 + -e.2 by omega, h6, h5 g, hmg g, List.take_add_one, he]
      show _ = psum (dlP ws g) (es.take i ++ [e])
      rw [psum_snoc, dlP_eq (gs := gs) g k2, Int.sub_mul]
      have : dl g m * -e.2 = -(dl g m * e.2) := Int.mul_neg _ _
      omega
    rintro σ H4 ⟨u4, u5, ms, rfl, hms, hml, hmg, sm⟩
    rw [hev, List.take_length] at hmg
    -- the wires
    refine ⟨_, rfl, lq, rfl, ⟨_, sm.seq hlq⟩, for_list (K := K) (a := lq) (xs := nvs qs) (fun i σ H' => ∃ (u6 : Option V) (ms : List Int), σ = [some (.ref p), some (.ref lp), some (.ref lq), some (.ref lm), u4, u5, u6, none, none] ∧ H' lm = some (.lst (ms.map V.int)) ∧ ms.length = gs.length ∧ (∀ g, ms.getD g 0 = psum (dlP ws g) es - wdl (dl g) (us.take i)) ∧ Same H H')
      ⟨_, ms, rfl, hms, hml, (fun g => by
        rw [hmg g]
        show _ = _ - (0 : Int)
        omega), sm⟩ (fun i σ H' _ ⟨_, _, _, _, _, _, sm⟩ => sm.seq hlq) ?_ ?_⟩
    · rintro i v σ H5 hv ⟨u6, ms, rfl, hms, hml, hmg, sm⟩
      obtain ⟨k, hk, rfl⟩ := nvs_of hv
      obtain ⟨x, hux, hx⟩ := pu.get hk
      have WX := N.wok x (List.mem_of_getElem? hx)
      obtain ⟨_, hwvi, a, b2, rfl, sq1, sq2⟩ := wa.getR hx
      have ob5 := sm _ _ ob
      have h1s := WX.s
      have h1e := WX.e
      refine gn_norm (σ' := [some (.ref p), some (.ref lp), some (.ref lq), some (.ref lm), u4, u5, some (.int ((k : Nat) : Int)), none, none]) rfl ?_
      refine ⟨_, rfl, _, rfl, p, C, dx, _, _, rfl, ob5, T.cl, T.nW, nf_wires _ _, _, rfl, nw, wv, k, _, rfl, rfl, SqL.of (sm _ _ hwv), atI_nat hwvi, a, _, 0, _, rfl, rfl, (TK.same sm).seq sq1, atI_nat (j := 0) rfl, lm, _, x.1, _, rfl, rfl, SqL.of hms, sgetD_at (by omega), _, _, rfl, rfl, lm, _, _, x.1, rfl, rfl, hms, Evl.ixN_nat (by rw [List.length_map]; omega), ?_⟩
      have s6 : Same H (upd H5 lm (.lst ((ms.map V.int).set x.1 (.int (ms.getD x.1 0 - 1))))) := same_mut sm hlm0
      have e6 : (upd H5 lm (.lst ((ms.map V.int).set x.1 (.int (ms.getD x.1 0 - 1))))) lm = some (.lst ((ms.set x.1 (ms.getD x.1 0 + -1)).map V.int)) := by rw [upd_same, List.map_set]; rfl
      have h6 := fun g => getD_add (ms := ms) (i := x.1) (g := g) (d := -1) (by omega)
      have l6 : (ms.set x.1 (ms.getD x.1 0 + -1)).length = gs.length := by rw [List.length_set]; exact hml
      generalize upd H5 lm (.lst ((ms.map V.int).set x.1 (.int (ms.getD x.1 0 - 1)))) = H6 at s6 e6
      generalize ms.set x.1 (ms.getD x.1 0 + -1) = ms1 at e6 h6 l6
      refine ⟨_, rfl, _, rfl, p, C, dx, _, _, rfl, s6 _ _ ob, T.cl, T.nW, nf_wires _ _, _, rfl, nw, wv, k, _, rfl, rfl, SqL.of (s6 _ _ hwv), atI_nat hwvi, a, _, 1, _, rfl, rfl, (TK.same s6).seq sq1, atI_nat (j := 1) rfl, lm, _, x.2.1, _, rfl, rfl, SqL.of e6, sgetD_at (by omega), _, _, rfl, rfl, lm, _, _, x.2.1, rfl, rfl, e6, Evl.ixN_nat (by rw [List.length_map]; omega), ?_⟩
      refine ⟨_, ms1.set x.2.1 (ms1.getD x.2.1 0 + 1), rfl, by rw [upd_same, List.map_set], by rw [List.length_set]; exact l6, fun g => ?_, same_mut s6 hlm0⟩
      have h7 := getD_add (ms := ms1) (i := x.2.1) (g := g) (d := 1) (by omega)
      rw [h7, h6 g, hmg g, List.take_add_one, hux]
      show _ = _ - wdl (dl g) (us.take i ++ [x])
      rw [wdl_snoc]
      omega
    rintro σ H5 ⟨u6, ms, rfl, hms, hml, hmg, sm⟩
    rw [nvs_len, pu.1, List.take_length] at hmg
    -- no gate without its balance
    refine ⟨_, rfl, p, C, dx, _, _, rfl, sm _ _ ob, T.cl, T.nG, nf_gates _ _, ng, gv, rfl, SqL.of (sm _ _ hgv), for_it (walk_enum (K := K) (a := ng) (xs := gv)) (fun i σ H' => ∃ (u7 u8 : Option V), σ = [some (.ref p), some (.ref lp), some (.ref lq), some (.ref lm), u4, u5, u6, u7, u8] ∧ Same H5 H') ⟨_, _, rfl, Same.refl _⟩ (fun i σ H' _ ⟨_, _, _, s⟩ => SqL.of (s _ _ (sm _ _ hgv))) ?_ ?_⟩
    · rintro i v σ H6 H6' hi ⟨u7, u8, rfl, s6⟩ ⟨T', x1, y, rfl, hT, rfl, ex, ey⟩
      cases ex
      obtain ⟨g, hg, gvv⟩ := ga.get ey
      have hig : i < gs.length := (List.getElem?_eq_some_iff.mp hg).1
      have sT := same_new (o := .tup [.int (i : Nat), y]) hT
      have eT : (upd H6 T' (.tup [.int (i : Nat), y])) T' = some (.tup [.int (i : Nat), y]) := upd_same
      have s7 := s6.trans sT
      generalize upd H6 T' (.tup [.int (i : Nat), y]) = H7 at sT eT s7
      refine ⟨T', _, rfl, .inl (.inl eT), rfl, _, _, rfl, _, _, rfl, rfl, ?_⟩
      refine ⟨_, rfl, _, rfl, lm, _, i, _, rfl, rfl, SqL.of (s7 _ _ hms), atI_nat (sgetD_at (by omega)), rfl, _, rfl, ?_⟩
      by_cases h0 : ms.getD i 0 = 0
      · rw [h0, decide_eq_true rfl]
        exact iteF (iteF ⟨_, _, rfl, s7⟩)
      · rw [decide_eq_false fun e => h0 (V.int.inj e)]
        refine iteT ⟨_, rfl, _, g, rfl, gvv.tk (TK.same (sm.trans s7)), fun b hb => ⟨b, rfl, ?_⟩⟩
        cases b with
        | true => exact iteF ⟨_, _, rfl, s7⟩
        | false =>
          exfalso
          apply h0
          rw [hmg i]
          have hnp : ¬ portK (kindAt gs i) := fun hp => by
            rw [kindAt_get hg] at hp
            have := hb.mpr hp
            cases this
          have := bal i hig hnp
          omega
    · rintro σ H6 ⟨u7, u8, rfl, s6⟩
      exact q H6 (sm.trans s6)
abbrev nPaperFault : List Str := ["net", "beat", "thing"]
theorem scPaperFault : FnScope nPaperFault ["net", "beat", "thing"] (defScope sPaperFault) := ⟨rfl, rfl, rfl, by decide +kernel, rfl, by decide +kernel, by decide +kernel⟩
abbrev DPaperFault (P : Program) (w : World) (K : PySem.W.Frag) (mg : Str → Option Value) (base : Heap) (C : Addr) := Df P w K mg base 6 "paper_fault" ["net", "beat", "thing"] (spPaperFault K C)
theorem ok_paperFault {f fC fP fG C : Addr} {fd fdC fdP fdG : FuncData} (F : Fun K "paper_fault" "paper_fault" sPaperFault f fd) (hm : mg "paper_fault" = some (.ref f)) (B : Bt mg) (T : NT K mg C) (DCb : DChkB P w K mg base fC fdC) (DPp : DIsPaper P w K mg base C fP fdP) (DGf : DGateFault P w K mg base C fG fdG) : DPaperFault P w K mg base C f fd := by
  refine ⟨?_, hm, F.kp, F.binds fun _ _ _ _ _ _ us hl => match us, hl with | [_, _, _], _ => rfl⟩
  refine F.ok scPaperFault (fun vs H Q E h => ?_) (fun cdv A outer s H vs Q E hr h => ?_)
  · obtain ⟨p, ng, nw, lp, gs, ws, b, ev, es, rfl, _⟩ := h
    rfl
  · obtain ⟨p, ng, nw, lp, gs, ws, b, ev, es, rfl, NA, N, hb, hlp, al, eok, hel, bal, q⟩ := h
    have nd := scPaperFault.nd
    refine ⟨_, pss_cons (ps_expr (pe_call DCb.ok (hr.mono (by decide)) (by rfl) DCb.mg DCb.kp DCb.bd .nil pass0 (pa_cons (pv 1) pa_nil))) <|
        pss_cons (ps_if (pt_not (pt_val (pe_call DPp.ok (hr.mono (by decide)) (by rfl) DPp.mg DPp.kp DPp.bd .nil pass0 (pa_cons (pv 0) (pa_cons (pv 2) pa_nil))))) (pss_one (ps_ret (pe_tup (pa_cons pe_str pa_nil)))) pss_nil) <|
        pss_one (ps_ret (pe_call DGf.ok (hr.mono (by decide)) (by rfl) DGf.mg DGf.kp DGf.bd .nil pass0 (pa_cons (pv 0) (pa_cons (pv 2) (pa_cons (pe_listRg rfl (by rfl) B.list (prg_1 (by rfl) B.range (pe_callB call_len_seq (by rfl) B.len PySem.boot_len (pa_cons (pe_fld (pv 0) rfl) pa_nil)))) pa_nil))))), ?_⟩
    obtain ⟨dx, ob⟩ := id NA.ob
    obtain ⟨gv, hgv, ga⟩ := id NA.g
    obtain ⟨wv, hwv, wa⟩ := id NA.w
    have hlg : gv.length = gs.length := ga.1
    have hlw : wv.length = ws.length := wa.1
    have hgl := N.gl
    have hwl := N.wl
    refine ⟨_, rfl, b, rfl, hb, ?_⟩
    refine ⟨_, rfl, _, rfl, p, ng, nw, lp, gs, ws, ev, es, rfl, NA, N, hlp, al, eok, hel, fun H1 s1 => ⟨true, rfl, iteF ?_⟩⟩
    refine ⟨_, rfl, _, rfl, _, rfl, p, C, dx, _, _, rfl, s1 _ _ ob, T.cl, T.nW, nf_wires _ _, nw, wv, rfl, .inl (SqL.of (s1 _ _ hwv)), _, rfl, RgOk.of_le (by omega) (by omega) (by omega) (by omega), fun lq hlq => ?_⟩
    rw [rgV_nat, hlw]
    have s2 : Same H1 (upd H1 lq (.lst ((List.range ws.length).map fun i => V.int (i : Nat)))) := same_new hlq
    have e2 : (upd H1 lq (.lst ((List.range ws.length).map fun i => V.int (i : Nat)))) lq = some (.lst (nvs (List.range ws.length))) := upd_same
    generalize upd H1 lq (.lst ((List.range ws.length).map fun i => V.int (i : Nat))) = H2 at s2 e2
    have s12 := s1.trans s2
    exact ⟨p, ng, nw, lp, lq, List.range ws.length, gs, ws, ws, ev, es, rfl, NA.same s12, N, s12.seq hlp, al.imp fun _ _ r => EntV.same s12 r, eok, bal, range_all2 ws, SqL.of e2, fun H3 s3 => q H3 (s12.trans s3)⟩
abbrev nBoundOf : List Str := ["net", "thing", "beat"]
theorem scBoundOf : FnScope nBoundOf ["net", "thing", "beat"] (defScope sBoundOf) := ⟨rfl, rfl, rfl, by decide +kernel, rfl, by decide +kernel, by decide +kernel⟩
abbrev DBoundOf (P : Program) (w : World) (K : PySem.W.Frag) (mg : Str → Option Value) (base : Heap) (C : Addr) := Df P w K mg base 7 "bound_of" ["net", "thing", "beat"] (spBoundOf K C)
theorem ok_boundOf {f fP fR fI C : Addr} {fd fdP fdR fdI : FuncData} (F : Fun K "bound_of" "bound_of" sBoundOf f fd) (hm : mg "bound_of" = some (.ref f)) (DPf : DPaperFault P w K mg base C fP fdP) (DRg : DRegisters P w K mg base C fR fdR) (DRi : DRoomIn P w K mg base C fI fdI) : DBoundOf P w K mg base C f fd := by
  refine ⟨?_, hm, F.kp, F.binds fun _ _ _ _ _ _ us hl => match us, hl with | [_, _, _], _ => rfl⟩
  refine F.ok scBoundOf (fun vs H Q E h => ?_) (fun cdv A outer s H vs Q E hr h => ?_)
  · obtain ⟨p, ng, nw, lp, gs, ws, b, ev, es, rfl, _⟩ := h
    rfl
  · obtain ⟨p, ng, nw, lp, gs, ws, b, ev, es, rfl, NA, N, hb, hlp, al, eok, hel, bal, q⟩ := h
    have nd := scBoundOf.nd
    refine ⟨_, pss_cons (ps_if (pt_cmpR op_notN (pe_call DPf.ok (hr.mono (by decide)) (by rfl) DPf.mg DPf.kp DPf.bd .nil pass0 (pa_cons (pv 0) (pa_cons (pv 2) (pa_cons (pv 1) pa_nil)))) pe_non (nomark _)) (pss_one (ps_never)) pss_nil) <|
        pss_one (ps_ret (pe_op op_sub (pe_call DRg.ok (hr.mono (by decide)) (by rfl) DRg.mg DRg.kp DRg.bd .nil pass0 (pa_cons (pv 0) pa_nil)) (pe_call DRi.ok (hr.mono (by decide)) (by rfl) DRi.mg DRi.kp DRi.bd .nil pass0 (pa_cons (pv 0) (pa_cons (pv 2) (pa_cons (pv 1) pa_nil)))))), ?_⟩
    refine ⟨_, rfl, _, rfl, _, rfl, p, ng, nw, lp, gs, ws, b, ev, es, rfl, NA, N, hb, hlp, al, eok, hel, bal, fun H1 s1 => ⟨rfl, _, rfl, iteF ?_⟩⟩
    refine ⟨_, rfl, p, ng, nw, gs, ws, rfl, NA.same s1, N, fun H2 s2 => ?_⟩
    have s12 := s1.trans s2
    exact ⟨_, rfl, _, rfl, _, rfl, p, ng, nw, lp, gs, ws, b, ev, es, rfl, NA.same s12, N, s12.seq hlp, al.imp fun _ _ r => EntV.same s12 r, eok, hel, fun H3 s3 => ⟨_, _, rfl, rfl, q H3 (s12.trans s3)⟩⟩
abbrev nLetBounds : List Str := ["net", "beat", "kind", "told"]
theorem scLetBounds : FnScope nLetBounds ["net", "beat"] (defScope sLetBounds) := ⟨rfl, rfl, rfl, by decide +kernel, rfl, by decide +kernel, by decide +kernel⟩
abbrev DLetBounds (P : Program) (w : World) (K : PySem.W.Frag) (mg : Str → Option Value) (base : Heap) (C : Addr) := Df P w K mg base 5 "let_bounds" ["net", "beat"] (spLetBounds K C)
theorem ok_letBounds {f fF fB C : Addr} {fd fdF fdB : FuncData} (F : Fun K "let_bounds" "let_bounds" sLetBounds f fd) (hm : mg "let_bounds" = some (.ref f)) (DFb : DForBeat P w K mg base C fF fdF) (DBd : DBoundsFor P w K mg base C fB fdB) : DLetBounds P w K mg base C f fd := by
  refine ⟨?_, hm, F.kp, F.binds fun _ _ _ _ _ _ us hl => match us, hl with | [_, _], _ => rfl⟩
  refine F.ok scLetBounds (fun vs H Q E h => ?_) (fun cdv A outer s H vs Q E hr h => ?_)
  · obtain ⟨p, ng, nw, gs, ws, b, rfl, _⟩ := h
    rfl
  · obtain ⟨p, ng, nw, gs, ws, b, rfl, NA, N, hb, fe, q⟩ := h
    have nd := scLetBounds.nd
    refine ⟨_, pss_cons (ps_asg (pe_call DFb.ok (hr.mono (by decide)) (by rfl) DFb.mg DFb.kp DFb.bd .nil pass0 (pa_cons (pv 0) (pa_cons (pv 1) pa_nil))) (pg_tup rfl (pgs_cons (pg_name (i := 2) nd rfl (.inl rfl)) (pgs_cons (pg_name (i := 3) nd rfl (.inl rfl)) pgs_nil)))) <|
        pss_cons (ps_if (pt_cmpR op_eq (pv 2) pe_str (nomark _)) (pss_one (ps_never)) pss_nil) <|
        pss_one (ps_ret (pe_call DBd.ok (hr.mono (by decide)) (by rfl) DBd.mg DBd.kp DBd.bd .nil pass0 (pa_cons (pv 0) (pa_cons (pv 1) pa_nil)))), ?_⟩
    refine ⟨_, rfl, _, rfl, p, ng, nw, gs, ws, b, rfl, NA, N, hb, fun t H1 s1 ht fr => ?_⟩
    obtain ⟨wd, l', h1, h2, h3⟩ := fr.lags N
    have hw : wd = "lags" := h3.mpr fe
    subst hw
    refine ⟨t, _, rfl, .inl (.inl h1), rfl, _, _, rfl, _, _, rfl, rfl, ?_⟩
    refine ⟨_, rfl, rfl, _, rfl, iteF ?_⟩
    exact ⟨_, rfl, _, rfl, p, ng, nw, gs, ws, b, rfl, NA.same s1, N, fun lb bv bps H2 s2 hlb elb al bok hbl hpce => q lb bv bps H2 (s1.trans s2) (s1.free hlb) elb (al.imp fun _ _ r => r.weak fun l h k => h (s1.free k)) bok hbl hpce⟩
end
end Lag

set_option maxRecDepth 100000
set_option maxHeartbeats 8000000
namespace Lag
open PySem PySem.Spec PyProof.Rows L2
theorem papF_len {bps : List (Bnd × Pce)} {f : List Int} : (papF bps f).length ≤ bps.length := by
  unfold papF
  rw [List.length_map]
  refine Nat.le_trans (List.length_filter_le _ _) ?_
  rw [List.length_zip]
  exact Nat.min_le_left _ _
theorem BdsOk.satL {gs : List Gt} {ws : List Wr} {b : Int} {bps : List (Bnd × Pce)} {L : Nat → Int} (N : NetOk gs ws) (h : BdsOk gs ws b (bps.map fun bp => bp.2) (bps.map fun bp => bp.1)) (f : Feas gs ws b L) : Sat (bps.map fun bp => bp.1) (spotL gs L) := fun bd hb => by
  obtain ⟨i, hi⟩ := List.getElem?_of_mem hb
  obtain ⟨pc, _, e, h1, h2, rfl⟩ := h.al.getR hi
  show spotL gs L (spotF gs pc.1) ≤ spotL gs L (spotF gs e) + roomF gs ws b pc
  rw [f.spot h1, f.spot (h2.lt N h1)]
  exact f.room h1 h2
theorem lagsAt_wdl (gs : List Gt) (ws : List Wr) (G : Nat → Int) : wdl (lagsAt gs G) ws = wdl (fun x => G (spotF gs x)) ws := by
  unfold wdl
  refine congrArg List.sum (List.map_congr_left fun x _ => ?_)
  show G (spotF gs x.1) - G gs.length - (G (spotF gs x.2.1) - G gs.length) = G (spotF gs x.1) - G (spotF gs x.2.1)
  omega
theorem kept_room {gs : List Gt} {ws : List Wr} {b R : Int} {bps : List (Bnd × Pce)} {g : List Int} {ks : List Kpt} (h : BdsOk gs ws b (bps.map fun bp => bp.2) (bps.map fun bp => bp.1)) (hpce : ∀ bp ∈ bps, PceOk gs ws bp.2 ∧ bp.2.2.length ≤ 1000) (hR : 1 ≤ R) (hb : ∀ s e c, s < gs.length → best gs ws s e = some c → c.1 ≤ R) (k : Kept (bps.map fun bp => bp.1) g ks) : ∀ b ∈ ks.map (fun e => e.1), -R ≤ b.2.2 := fun bd hm => by
  obtain ⟨e, he, rfl⟩ := List.mem_map.mp hm
  obtain ⟨b0, h1, h2⟩ := k.ok e he
  obtain ⟨bp, hbp, rfl⟩ := List.mem_map.mp (List.mem_of_getElem? h1)
  have h3 := h.bp bp hbp
  obtain ⟨e', h4, h5⟩ := h.bst bp.2 (List.mem_map.mpr ⟨bp, hbp, rfl⟩)
  have h6 := hb _ _ _ (hpce bp hbp).1.1 h5
  have h6 : prg ws bp.2.2 ≤ R := h6
  have h7 := prg_nn ws bp.2.2
  have h8 : -1 ≤ bp.1.2.2 ∧ bp.1.2.2 ≤ R := by
    rw [h3]
    show -1 ≤ roomF gs ws b bp.2 ∧ roomF gs ws b bp.2 ≤ R
    unfold roomF
    split <;> omega
  rcases h2 with ⟨_, h9⟩ | ⟨_, h9, _⟩
  · rw [h9]
    omega
  · rw [h9]
    show -R ≤ -bp.1.2.2
    omega
section
variable {P : Program} {w : World} {K : PySem.W.Frag} {mg : Str → Option Value} {base : Heap}
abbrev nFewest : List Str := ["net", "beat", "bounds", "flow", "kept", "paper"]
theorem scFewest : FnScope nFewest ["net", "beat"] (defScope sFewest) := ⟨rfl, rfl, rfl, by decide +kernel, rfl, by decide +kernel, by decide +kernel⟩
abbrev DFewest (P : Program) (w : World) (K : PySem.W.Frag) (mg : Str → Option Value) (base : Heap) (C : Addr) := Df P w K mg base 8 "fewest" ["net", "beat"] (spFewest K C)
theorem ok_fewest {f fL fF fS fP fO fB fN C : Addr} {fd fdL fdF fdS fdP fdO fdB fdN : FuncData} (F : Fun K "fewest" "fewest" sFewest f fd) (hm : mg "fewest" = some (.ref f)) (B : Bt mg) (T : NT K mg C) (DLb : DLetBounds P w K mg base C fL fdL) (DLf : DLeastFlow P w K mg base fF fdF) (DSi : DSpotsIn P w K mg base C fS fdS) (DPl : DPlainFlow P w K mg base C fP fdP) (DPo : DPaperOf P w K mg base fO fdO) (DBo : DBoundOf P w K mg base C fB fdB) (DNl : DNearLags P w K mg base C fN fdN) : DFewest P w K mg base C f fd := by
  refine ⟨?_, hm, F.kp, F.binds fun _ _ _ _ _ _ us hl => match us, hl with | [_, _], _ => rfl⟩
  refine F.ok scFewest (fun vs H Q E h => ?_) (fun cdv A outer s H vs Q E hr h => ?_)
  · obtain ⟨p, ng, nw, gs, ws, b, rfl, _⟩ := h
    rfl
  · obtain ⟨p, ng, nw, gs, ws, b, rfl, NA, N, hb, fe, q⟩ := h
    have nd := scFewest.nd
    refine ⟨_, pss_cons (ps_set (i := 2) nd rfl (.inl rfl) (pe_call DLb.ok (hr.mono (by decide)) (by rfl) DLb.mg DLb.kp DLb.bd .nil pass0 (pa_cons (pv 0) (pa_cons (pv 1) pa_nil)))) <|
        pss_cons (ps_asg (pe_call DLf.ok (hr.mono (by decide)) (by rfl) DLf.mg DLf.kp DLf.bd .nil pass0 (pa_cons (pe_call DSi.ok (hr.mono (by decide)) (by rfl) DSi.mg DSi.kp DSi.bd .nil pass0 (pa_cons (pv 0) pa_nil)) (pa_cons (pv 2) (pa_cons (pe_call DPl.ok (hr.mono (by decide)) (by rfl) DPl.mg DPl.kp DPl.bd .nil pass0 (pa_cons (pv 0) (pa_cons (pv 2) (pa_cons (pe_listRg rfl (by rfl) B.list (prg_1 (by rfl) B.range (pe_callB call_len_seq (by rfl) B.len PySem.boot_len (pa_cons (pe_fld (pv 0) rfl) pa_nil)))) pa_nil)))) pa_nil)))) (pg_tup rfl (pgs_cons (pg_name (i := 3) nd rfl (.inl rfl)) (pgs_cons (pg_name (i := 4) nd rfl (.inl rfl)) pgs_nil)))) <|
        pss_cons (ps_set (i := 5) nd rfl (.inl rfl) (pe_call DPo.ok (hr.mono (by decide)) (by rfl) DPo.mg DPo.kp DPo.bd .nil pass0 (pa_cons (pv 2) (pa_cons (pv 3) pa_nil)))) <|
        pss_one (ps_ret (pe_tup (pa_cons (pe_call DBo.ok (hr.mono (by decide)) (by rfl) DBo.mg DBo.kp DBo.bd .nil pass0 (pa_cons (pv 0) (pa_cons (pv 5) (pa_cons (pv 1) pa_nil)))) (pa_cons (pe_call DNl.ok (hr.mono (by decide)) (by rfl) DNl.mg DNl.kp DNl.bd .nil pass0 (pa_cons (pv 0) (pa_cons (pe_call DSi.ok (hr.mono (by decide)) (by rfl) DSi.mg DSi.kp DSi.bd .nil pass0 (pa_cons (pv 0) pa_nil)) (pa_cons (pv 4) pa_nil)))) (pa_cons (pv 5) pa_nil))))), ?_⟩
    obtain ⟨dx, ob⟩ := id NA.ob
    obtain ⟨gv, hgv, ga⟩ := id NA.g
    obtain ⟨wv, hwv, wa⟩ := id NA.w
    have hlg : gv.length = gs.length := ga.1
    have hlw : wv.length = ws.length := wa.1
    have hgl := N.gl
    have hwl := N.wl
    refine ⟨_, rfl, _, rfl, p, ng, nw, gs, ws, b, rfl, NA, N, hb, fe, fun lb bv bps H1 s1 hlb0 hlb al bok hbl hpce => ?_⟩
    refine gn_norm (σ' := [some (.ref p), some (.int b), some (.ref lb), none, none, none]) rfl ?_
    refine ⟨_, rfl, p, ng, nw, gs, ws, rfl, NA.same s1, ?_⟩
    refine ⟨_, rfl, _, rfl, _, rfl, _, rfl, p, C, dx, _, _, rfl, s1 _ _ ob, T.cl, T.nW, nf_wires _ _, nw, wv, rfl, .inl (SqL.of (s1 _ _ hwv)), _, rfl, RgOk.of_le (by omega) (by omega) (by omega) (by omega), fun lq hlq => ?_⟩
    rw [rgV_nat, hlw]
    have s2 : Same H1 (upd H1 lq (.lst ((List.range ws.length).map fun i => V.int (i : Nat)))) := same_new hlq
    have e2 : (upd H1 lq (.lst ((List.range ws.length).map fun i => V.int (i : Nat)))) lq = some (.lst (nvs (List.range ws.length))) := upd_same
    generalize upd H1 lq (.lst ((List.range ws.length).map fun i => V.int (i : Nat))) = H2 at s2 e2
    have s12 := s1.trans s2
    have al2 := al.imp fun _ _ r => BpV.same s2 r
    refine ⟨p, ng, nw, lb, lq, List.range ws.length, gs, ws, ws, b, bv, bps, rfl, NA.same s12, N, s2 _ _ hlb, ⟨_, al2⟩, bok, by omega, hpce, range_all2 ws, SqL.of e2, fun l0 f0 H3 s3 hl0 el0 hf0l hf00 hft hfx => ?_⟩
    obtain ⟨L0, hL0⟩ := id fe
    have S0 := bok.satL N hL0
    have s23 := s2.trans s3
    have al3 := al.imp fun _ _ r => BpV.same s23 r
    refine ⟨gs.length + 1, lb, l0, bv, bps.map fun bp => bp.1, f0, rfl, by omega, by omega, s23 _ _ hlb, bpv_bnd al3, bok.below N, by rw [List.length_map]; omega, SqL.of el0, by rw [List.length_map]; exact hf0l, hf00, ⟨_, S0⟩, fun t lg lk kv ks g F H4 s4 et eg ek hlk ka kp hkl hgl' hg0 hgt fS sat hle hlow => ?_⟩
    refine ⟨t, _, rfl, .inl (.inl et), rfl, _, _, rfl, _, _, rfl, rfl, ?_⟩
    refine gn_norm (σ' := [some (.ref p), some (.int b), some (.ref lb), some (.ref lg), some (.ref lk), none]) rfl ?_
    have s14 := s23.trans s4
    have s04 := s1.trans s14
    have al4 := al.imp fun _ _ r => BpV.same s14 r
    rw [List.length_map] at hgl'
    -- the paper
    refine ⟨_, rfl, _, rfl, lb, lg, lb, bv, bps, g, _, rfl, s14 _ _ hlb, al4, SqL.of eg, hgl', by omega, fun lp ev H5 s5 hlp elp ea => ?_⟩
    refine gn_norm (σ' := [some (.ref p), some (.int b), some (.ref lb), some (.ref lg), some (.ref lk), some (.ref lp)]) rfl ?_
    have s05 := s04.trans s5
    have hbp := bok.bp
    have gt2 : ∀ F, wsum (dF F) (bps.map fun bp => bp.1) g = wdl (fun x => F (spotF gs x)) ws := fun F => (hgt F).trans (hft F)
    have bal := pap_bal hbp hg0 gt2
    have room := pap_room hbp hg0
    have eok : ∀ e ∈ papF bps g, EntOk gs ws e := fun e he => by
      obtain ⟨⟨bp, h1, h2⟩, h3⟩ := papF_mem he
      obtain ⟨k1, k2⟩ := hpce bp h1
      exact ⟨by rw [h2]; exact k1, by rw [h2]; exact k2, h3⟩
    have pl := papF_len (bps := bps) (f := g)
    refine ⟨_, rfl, _, rfl, _, rfl, p, ng, nw, lp, gs, ws, b, ev, papF bps g, rfl, NA.same s05, N, hb, SqL.of elp, (ea.imp fun _ _ r => r.ent), eok, by omega, bal, fun H6 s6 => ?_⟩
    have s06 := s05.trans s6
    have s46 := s5.trans s6
    refine ⟨_, rfl, _, rfl, p, ng, nw, gs, ws, rfl, NA.same s06, ?_⟩
    refine ⟨_, rfl, p, ng, nw, lk, gs.length + 1, gs, ws, kv, ks.map fun e => e.1, fun v => F.getD v 0, rfl, Nat.le_refl _, by omega, NA.same s06, N, s46 _ _ ek, (kpt_bnd ka).imp fun _ _ r => BndV.tk (TK.same s46) r, kp.below (bok.below N), by rw [List.length_map]; exact hkl, sat, fun ll G H7 s7 hll ell satG nrx hlim => ?_⟩
    refine ⟨_, rfl, (by show 3 ≤ sizeLine; decide), fun tt htt => ?_⟩
    have st := same_new (o := .tup [.int (regsum ws - psum (roomF gs ws b) (papF bps g)), .ref ll, .ref lp]) htt
    have s67 := s6.trans s7
    have s5t := s67.trans st
    obtain ⟨satB, _⟩ := kp.sat satG
    have tight := kp.tight hg0 satG
    refine q tt ll lp _ (lagsAt gs G) ev (papF bps g) _ (s06.trans (s7.trans st)) upd_same (s06.free hll) (st _ _ ell) (s04.free hlp) (s5t _ _ elp) (ea.imp fun _ _ r => EntZ.same s5t r) eok (by omega) bal (bok.lags N satB) ?_ rfl (fun R hR hn hbst g' hg' => hlim (fun v hv => ?_) g' hg') ⟨bps, g, G, bok, hfx ▸ fS, ⟨_, kp.ex ▸ sat⟩, rfl, kp.ex ▸ nrx, rfl⟩
    · rw [cntsum_eq, lagsAt_wdl, ← gt2 G, tight, room]
    · have hr := hlow R (by omega) (kept_room bok hpce hR hbst kp)
      have h1 := hr v (by omega)
      have h2 := hr gs.length (by omega)
      have h3 := hle v
      have h4 := hle gs.length
      have h5 : ((gs.length + 1 : Nat) : Int) * R ≤ 500 := hn
      show F.getD v 0 - F.getD gs.length 0 ≤ 500 ∧ -500 ≤ F.getD v 0 - F.getD gs.length 0
      omega
end
end Lag

set_option maxRecDepth 100000
set_option maxHeartbeats 8000000
namespace Lag
open PySem PySem.Spec PyProof.Rows L2
/-! ### shared registers: the mathematics -/
def cntW (L : Nat → Int) (x : Wr) : Int := ((x.2.2.length : Nat) : Int) + L x.2.1 - L x.1
/-- the greatest of the numbers, or 0 -/
def mx0 : List Int → Int
  | [] => 0
  | a :: l => if a < mx0 l then mx0 l else a
theorem mx0_le {l : List Int} {m : Int} (h0 : 0 ≤ m) (h : ∀ y ∈ l, y ≤ m) : mx0 l ≤ m := by
  induction l with
  | nil => exact h0
  | cons a l ih =>
    have h1 := h a (List.mem_cons_self ..)
    have h2 := ih fun y hy => h y (List.mem_cons_of_mem _ hy)
    unfold mx0
    split <;> omega
theorem le_mx0 {l : List Int} {y : Int} (h : y ∈ l) : y ≤ mx0 l := by
  induction l with
  | nil => cases h
  | cons a l ih =>
    unfold mx0
    rcases List.mem_cons.mp h with h | h
    · rw [h]
      split <;> omega
    · have := ih h
      split <;> omega
/-- the greatest number of a list of numbers from 0 on, told by its bounds -/
theorem mx0_eq {l : List Int} {m : Int} (hm : m ∈ l) (h : ∀ y ∈ l, y ≤ m) (h0 : ∀ y ∈ l, 0 ≤ y) : mx0 l = m := by
  have h1 := mx0_le (h0 m hm) h
  have h2 := le_mx0 hm
  omega
def givB (ws : List Wr) (g : Nat) : Bool := ws.any fun x => x.1 == g
theorem givB_iff {ws : List Wr} {g : Nat} : givB ws g = true ↔ ∃ x ∈ ws, x.1 = g := by
  unfold givB
  rw [List.any_eq_true]
  constructor
  · rintro ⟨x, hx, h⟩
    exact ⟨x, hx, beq_iff_eq.mp h⟩
  · rintro ⟨x, hx, h⟩
    exact ⟨x, hx, beq_iff_eq.mpr h⟩
/-- the gates out of which a wire leads -/
def givL (n : Nat) (ws : List Wr) : List Nat := (List.range n).filter (givB ws)
theorem givL_nd (n : Nat) (ws : List Wr) : (givL n ws).Nodup := List.Pairwise.filter _ List.nodup_range
theorem mem_givL {n : Nat} {ws : List Wr} {g : Nat} : g ∈ givL n ws ↔ g < n ∧ ∃ x ∈ ws, x.1 = g := by
  unfold givL
  rw [List.mem_filter, List.mem_range, givB_iff]
/-- the counts of the wires out of a gate -/
def outC (ws : List Wr) (L : Nat → Int) (g : Nat) : List Int := (ws.filter fun x => x.1 == g).map (cntW L)
theorem mem_outC {ws : List Wr} {L : Nat → Int} {g : Nat} {c : Int} : c ∈ outC ws L g ↔ ∃ x ∈ ws, x.1 = g ∧ cntW L x = c := by
  unfold outC
  rw [List.mem_map]
  constructor
  · rintro ⟨x, hx, h⟩
    obtain ⟨h1, h2⟩ := List.mem_filter.mp hx
    exact ⟨x, h1, beq_iff_eq.mp h2, h⟩
  · rintro ⟨x, hx, h1, h2⟩
    exact ⟨x, List.mem_filter.mpr ⟨hx, beq_iff_eq.mpr h1⟩, h2⟩
/-- the shared registers with these lags -/
def sharedF (n : Nat) (ws : List Wr) (L : Nat → Int) : Int := ((givL n ws).map fun g => mx0 (outC ws L g)).sum
theorem map_sum_le {α : Type} {f g : α → Int} {l : List α} (h : ∀ x ∈ l, f x ≤ g x) : (l.map f).sum ≤ (l.map g).sum := by
  induction l with
  | nil => exact Int.le_refl _
  | cons a l ih =>
    have h1 := h a (List.mem_cons_self ..)
    have h2 := ih fun y hy => h y (List.mem_cons_of_mem _ hy)
    rw [List.map_cons, List.map_cons, List.sum_cons, List.sum_cons]
    omega
theorem perm_sumI {l l' : List Int} (h : l.Perm l') : l.sum = l'.sum := by
  induction h with
  | nil => rfl
  | cons x _ ih => rw [List.sum_cons, List.sum_cons, ih]
  | swap x y l =>
    rw [List.sum_cons, List.sum_cons, List.sum_cons, List.sum_cons]
    omega
  | trans _ _ h1 h2 => exact h1.trans h2
/-- a wire picked out of each gate out of which one leads -/
def PickW (n : Nat) (ws us : List Wr) : Prop := (∀ x ∈ us, x ∈ ws) ∧ (us.map fun x => x.1).Perm (givL n ws)
theorem PickW.sum {n : Nat} {ws us : List Wr} (h : PickW n ws us) (φ : Nat → Int) : (us.map fun x => φ x.1).sum = ((givL n ws).map φ).sum := by
  have := perm_sumI (h.2.map φ)
  rw [List.map_map] at this
  exact this
theorem psum_lin {gs : List Gt} {ws us : List Wr} {es : List Ent} (hu : ∀ x ∈ us, x ∈ ws) (N : NetOk gs ws) (hb : BalP gs ws us es) (ho : ∀ e ∈ es, EntOk gs ws e) (L : Nat → Int) (hL : ∀ g, g < gs.length → portK (kindAt gs g) → L g = 0) : psum (fun pc => L pc.1 - L (endW ws pc.1 pc.2)) es = wdl L us := by
  have key : ∀ (G : Nat → Int) (n : Nat), n ≤ gs.length → (∀ g, g < n → portK (kindAt gs g) → G g = 0) → (∀ g, n ≤ g → G g = 0) → psum (fun pc => G pc.1 - G (endW ws pc.1 pc.2)) es = wdl G us := by
    intro G n
    induction n generalizing G with
    | zero =>
      intro _ _ h2
      have z : ∀ x, G x = 0 := fun x => h2 x (Nat.zero_le _)
      have a1 : psum (fun pc => G pc.1 - G (endW ws pc.1 pc.2)) es = 0 := by
        clear hb ho
        induction es with
        | nil => rfl
        | cons e r ih =>
          rw [psum_cons, ih, z, z]
          simp
      have gen : ∀ r : List Wr, wdl G r = 0 := fun r => by
        induction r with
        | nil => rfl
        | cons x r ih => rw [wdl_cons, z, z, ih]; rfl
      have a2 := gen us
      rw [a1, a2]
    | succ n ih =>
      intro hn hp h2
      have ih := ih (fun x => if x = n then 0 else G x) (by omega) (fun g hg hk => by
        show (if g = n then 0 else G g) = 0
        rw [if_neg (by omega)]
        exact hp g (by omega) hk) (fun g hg => by
        show (if g = n then 0 else G g) = 0
        by_cases e : g = n
        · rw [if_pos e]
        · rw [if_neg e]
          exact h2 g (by omega))
      have sp : ∀ x, G x = (if x = n then 0 else G x) + G n * dl n x := fun x => by
        unfold dl
        by_cases e : x = n
        · rw [if_pos e, if_pos e, e]
          omega
        · rw [if_neg e, if_neg e]
          omega
      have gen2 : ∀ r : List Ent, psum (fun pc => G pc.1 - G (endW ws pc.1 pc.2)) r = psum (fun pc => (if pc.1 = n then 0 else G pc.1) - (if endW ws pc.1 pc.2 = n then 0 else G (endW ws pc.1 pc.2))) r + G n * psum (dlP ws n) r := fun r => by
        induction r with
        | nil =>
          show (0 : Int) = 0 + G n * 0
          omega
        | cons e r ih2 =>
          rw [psum_cons, psum_cons, psum_cons, ih2]
          have a := sp e.1.1
          have b' := sp (endW ws e.1.1 e.1.2)
          generalize (if e.1.1 = n then (0 : Int) else G e.1.1) = u at a ⊢
          generalize (if endW ws e.1.1 e.1.2 = n then (0 : Int) else G (endW ws e.1.1 e.1.2)) = v at b' ⊢
          unfold dlP
          rw [a, b', Int.mul_add, ← Int.mul_assoc, Int.mul_sub, show u + G n * dl n e.1.1 - (v + G n * dl n (endW ws e.1.1 e.1.2)) = (u - v) + (G n * dl n e.1.1 - G n * dl n (endW ws e.1.1 e.1.2)) by omega, Int.add_mul]
          omega
      have a1 := gen2 es
      have gen : ∀ r : List Wr, wdl G r = wdl (fun x => if x = n then 0 else G x) r + G n * wdl (dl n) r := fun r => by
        induction r with
        | nil =>
          show (0 : Int) = 0 + G n * 0
          omega
        | cons x r ih3 =>
          rw [wdl_cons, wdl_cons, wdl_cons, ih3]
          have a := sp x.1
          have b' := sp x.2.1
          generalize (if x.1 = n then (0 : Int) else G x.1) = u at a ⊢
          generalize (if x.2.1 = n then (0 : Int) else G x.2.1) = v at b' ⊢
          rw [a, b', Int.mul_add, Int.mul_sub]
          omega
      have a2 := gen us
      rw [a1, a2, ih]
      by_cases hk : portK (kindAt gs n)
      · rw [hp n (Nat.lt_succ_self _) hk, Int.zero_mul, Int.zero_mul]
      · rw [hb n (by omega) hk]
  have h2 := key (fun x => if x < gs.length then L x else 0) gs.length (Nat.le_refl _) (fun g hg hk => by
    show (if g < gs.length then L g else 0) = 0
    rw [if_pos hg]
    exact hL g hg hk) (fun g hg => by
    show (if g < gs.length then L g else 0) = 0
    rw [if_neg (by omega)])
  have h3 : wdl (fun x => if x < gs.length then L x else 0) us = wdl L us := by
    unfold wdl
    refine congrArg List.sum (List.map_congr_left fun x hx => ?_)
    have WX := N.wok x (hu x hx)
    show (if x.1 < gs.length then L x.1 else 0) - (if x.2.1 < gs.length then L x.2.1 else 0) = _
    rw [if_pos WX.s, if_pos WX.e]
  have h4 : psum (fun pc => (if pc.1 < gs.length then L pc.1 else 0) - (if endW ws pc.1 pc.2 < gs.length then L (endW ws pc.1 pc.2) else 0)) es = psum (fun pc => L pc.1 - L (endW ws pc.1 pc.2)) es := by
    unfold psum
    refine congrArg List.sum (List.map_congr_left fun e he => ?_)
    obtain ⟨⟨k1, m, k2⟩, _⟩ := ho e he
    have k3 := k2.lt N k1
    dsimp only
    rw [endW_of k2, if_pos k1, if_pos k3]
  rw [← h4, h2, h3]
/-- a shared paper tells how few there may be -/
theorem shp_le {gs : List Gt} {ws us : List Wr} {b : Int} {es : List Ent} {L : Nat → Int} (N : NetOk gs ws) (hp : PickW gs.length ws us) (hb : BalP gs ws us es) (ho : ∀ e ∈ es, EntOk gs ws e) (f : Feas gs ws b L) : regsum us - psum (roomF gs ws b) es ≤ sharedF gs.length ws L := by
  have h1 : psum (fun pc => L pc.1 - L (endW ws pc.1 pc.2)) es ≤ psum (roomF gs ws b) es := by
    clear hb
    induction es with
    | nil => exact Int.le_refl 0
    | cons e r ih =>
      have ih := ih fun x hx => ho x (List.mem_cons_of_mem _ hx)
      obtain ⟨⟨k1, m, k2⟩, k3, k4⟩ := ho e (List.mem_cons_self ..)
      have k5 := f.room k1 k2
      have k6 : L e.1.1 - L (endW ws e.1.1 e.1.2) ≤ roomF gs ws b e.1 := by
        rw [endW_of k2]
        have k5 : L e.1.1 ≤ L m + roomF gs ws b e.1 := k5
        omega
      have k7 := Int.mul_le_mul_of_nonneg_right k6 (show 0 ≤ e.2 by omega)
      rw [psum_cons, psum_cons]
      omega
  rw [psum_lin hp.1 N hb ho L f.out] at h1
  have h2 := cntsum_eq us L
  have h3 : cntsum us L ≤ sharedF gs.length ws L := by
    unfold sharedF
    rw [← hp.sum fun g => mx0 (outC ws L g)]
    unfold cntsum
    exact map_sum_le fun x hx => le_mx0 (mem_outC.mpr ⟨x, hp.1 x hx, rfl, rfl⟩)
  omega
/-! ### the flow's tails -/
def tailB (gs : List Gt) (x : Wr) : Bnd := (spotF gs x.2.1, gs.length + 1 + x.1, -((x.2.2.length : Nat) : Int))
def tailsF (gs : List Gt) (ws : List Wr) : List Bnd := ws.map (tailB gs)
theorem wsum_app (c : Bnd → Int) : ∀ {A B : List Bnd} {f : List Int}, A.length ≤ f.length → wsum c (A ++ B) f = wsum c A (f.take A.length) + wsum c B (f.drop A.length)
  | [], B, f, _ => by
    rw [wsum_nil]
    show wsum c B f = 0 + wsum c B (f.drop 0)
    rw [List.drop_zero]
    omega
  | a :: A, B, [], h => by cases h
  | a :: A, B, x :: f, h => by
    have ih := wsum_app c (A := A) (B := B) (f := f) (Nat.le_of_succ_le_succ h)
    show c a * x + wsum c (A ++ B) f = c a * x + wsum c A (f.take A.length) + wsum c B (f.drop A.length)
    rw [ih]
    omega
/-- the wires at places where the number is above 0 -/
def posW (ws : List Wr) (f : List Int) : List Wr := ((ws.zip f).filter fun p => decide (0 < p.2)).map fun p => p.1
theorem posW_cons {x : Wr} {ws : List Wr} {y : Int} {f : List Int} : posW (x :: ws) (y :: f) = (if 0 < y then [x] else []) ++ posW ws f := by
  unfold posW
  by_cases e : 0 < y
  · rw [if_pos e]
    show List.map _ (List.filter _ ((x, y) :: ws.zip f)) = _
    rw [List.filter_cons_of_pos (by rw [decide_eq_true_iff]; exact e)]
    rfl
  · rw [if_neg e]
    show List.map _ (List.filter _ ((x, y) :: ws.zip f)) = _
    rw [List.filter_cons_of_neg (by rw [decide_eq_true_iff]; exact e)]
    rfl
theorem posW_sub {ws : List Wr} {f : List Int} {x : Wr} (h : x ∈ posW ws f) : x ∈ ws := by
  unfold posW at h
  obtain ⟨p, hp, rfl⟩ := List.mem_map.mp h
  exact (List.of_mem_zip (List.mem_filter.mp hp).1).1
/-- of a list of numbers 0 and 1 -/
theorem tails01 {gs : List Gt} (c : Bnd → Int) : ∀ {ws : List Wr} {f : List Int}, ws.length = f.length → (∀ y ∈ f, y = 0 ∨ y = 1) → wsum c (tailsF gs ws) f = ((posW ws f).map fun x => c (tailB gs x)).sum
  | [], [], _, _ => rfl
  | [], _ :: _, h, _ => by cases h
  | _ :: _, [], h, _ => by cases h
  | x :: ws, y :: f, h, h01 => by
    have ih := tails01 c (gs := gs) (ws := ws) (f := f) (by simpa using h) fun z hz => h01 z (List.mem_cons_of_mem _ hz)
    show c (tailB gs x) * y + wsum c (tailsF gs ws) f = _
    rw [ih, posW_cons, List.map_append, List.sum_append]
    rcases h01 y (List.mem_cons_self ..) with e | e
    · rw [e, Int.mul_zero, if_neg (by decide)]
      rfl
    · rw [e, Int.mul_one, if_pos (by decide)]
      show _ = (c (tailB gs x) + 0) + _
      omega
def atG (s : Nat) (x : Wr) : Int := if x.1 = s then 1 else 0
/-- how much leads out of a gate -/
def outF (ws : List Wr) (f : List Int) (s : Nat) : Int := ((ws.zip f).map fun p => atG s p.1 * p.2).sum
theorem outF_cons (x : Wr) (ws : List Wr) (y : Int) (f : List Int) (s : Nat) : outF (x :: ws) (y :: f) s = atG s x * y + outF ws f s := by
  unfold outF
  rw [List.zip_cons_cons, List.map_cons, List.sum_cons]
theorem outF_nn : ∀ {ws : List Wr} {f : List Int} (s : Nat), (∀ y ∈ f, 0 ≤ y) → 0 ≤ outF ws f s
  | [], _, _, _ => Int.le_refl 0
  | _ :: _, [], _, _ => Int.le_refl 0
  | x :: ws, y :: f, s, h => by
    have ih := outF_nn (ws := ws) (f := f) s fun z hz => h z (List.mem_cons_of_mem _ hz)
    have hy := h y (List.mem_cons_self ..)
    rw [outF_cons]
    unfold atG
    split
    · rw [Int.one_mul]; omega
    · rw [Int.zero_mul]; omega
theorem outF_le : ∀ {ws : List Wr} {f : List Int} {x : Wr} {y : Int} {i : Nat}, (∀ y ∈ f, 0 ≤ y) → ws[i]? = some x → f[i]? = some y → y ≤ outF ws f x.1
  | [], _, _, _, i, _, h, _ => by cases h
  | _ :: _, [], _, _, i, _, _, h => by cases h
  | x' :: ws, y' :: f, x, y, 0, h, h1, h2 => by
    cases h1
    cases h2
    have := outF_nn (ws := ws) (f := f) x'.1 fun z hz => h z (List.mem_cons_of_mem _ hz)
    rw [outF_cons]
    unfold atG
    rw [if_pos rfl, Int.one_mul]
    omega
  | x' :: ws, y' :: f, x, y, i + 1, h, h1, h2 => by
    have ih := outF_le (ws := ws) (f := f) (x := x) (y := y) (i := i) (fun z hz => h z (List.mem_cons_of_mem _ hz)) h1 h2
    have hy := h y' (List.mem_cons_self ..)
    rw [outF_cons]
    unfold atG
    split
    · rw [Int.one_mul]; omega
    · rw [Int.zero_mul]; omega
theorem outF_count : ∀ {ws : List Wr} {f : List Int} (s : Nat), (∀ y ∈ f, y = 0 ∨ y = 1) → outF ws f s = ((((posW ws f).map fun x => x.1).count s : Nat) : Int)
  | [], _, _, _ => rfl
  | _ :: _, [], _, _ => rfl
  | x :: ws, y :: f, s, h => by
    have ih := outF_count (ws := ws) (f := f) s fun z hz => h z (List.mem_cons_of_mem _ hz)
    rw [outF_cons, ih, posW_cons, List.map_append, List.count_append]
    unfold atG
    rcases h y (List.mem_cons_self ..) with e | e
    · rw [e, Int.mul_zero, show (if (0 : Int) < 0 then [x] else []) = [] from rfl]
      show _ = (((0 : Nat) + _ : Nat) : Int)
      omega
    · rw [e, Int.mul_one, show (if (0 : Int) < 1 then [x] else []) = [x] from rfl, List.map_cons, List.map_nil, List.count_singleton]
      by_cases z : x.1 = s
      · rw [if_pos z, if_pos (by rw [beq_iff_eq]; exact z)]
        omega
      · rw [if_neg z, if_neg (by rw [beq_iff_eq]; exact z)]
        omega
theorem outF_tails {gs : List Gt} : ∀ {ws : List Wr} {f : List Int} (s : Nat), (∀ x ∈ ws, x.2.1 < gs.length) → wsum (dF fun v => if v = gs.length + 1 + s then (1 : Int) else 0) (tailsF gs ws) f = -outF ws f s
  | [], f, s, _ => by
    show wsum _ [] f = _
    rw [wsum_nil]
    rfl
  | x :: ws, [], s, _ => rfl
  | x :: ws, y :: f, s, h => by
    have ih := outF_tails (ws := ws) (f := f) s fun z hz => h z (List.mem_cons_of_mem _ hz)
    have hx := spot_le (gs := gs) x.2.1 (h x (List.mem_cons_self ..))
    show dF (fun v => if v = gs.length + 1 + s then (1 : Int) else 0) (tailB gs x) * y + wsum _ (tailsF gs ws) f = _
    rw [ih, outF_cons]
    have : dF (fun v => if v = gs.length + 1 + s then (1 : Int) else 0) (tailB gs x) = -atG s x := by
      show (if spotF gs x.2.1 = gs.length + 1 + s then (1 : Int) else 0) - (if gs.length + 1 + x.1 = gs.length + 1 + s then (1 : Int) else 0) = -atG s x
      unfold atG
      rw [if_neg (by omega)]
      by_cases e : x.1 = s
      · rw [if_pos (by omega), if_pos e]; rfl
      · rw [if_neg (by omega), if_neg e]; rfl
    rw [this, Int.neg_mul]
    omega
theorem wsum_none {c : Bnd → Int} {A : List Bnd} {f : List Int} (h : ∀ b ∈ A, c b = 0) : wsum c A f = 0 := by
  rw [wsum_eq (c' := fun _ => 0) fun j b x h1 _ => .inr (h b (List.mem_of_getElem? h1))]
  induction A generalizing f with
  | nil => exact wsum_nil _ _
  | cons a A ih =>
    cases f with
    | nil => rfl
    | cons x f =>
      show 0 * x + wsum _ A f = 0
      rw [ih fun b hb => h b (List.mem_cons_of_mem _ hb), Int.zero_mul]
      rfl
theorem count_givL {n : Nat} {ws : List Wr} (s : Nat) : (givL n ws).count s ≤ 1 := List.nodup_iff_count.mp (givL_nd n ws) s
theorem sum_sub {α : Type} (f g : α → Int) (l : List α) : (l.map fun x => f x - g x).sum = (l.map f).sum - (l.map g).sum := by
  induction l with
  | nil => rfl
  | cons a l ih =>
    rw [List.map_cons, List.map_cons, List.map_cons, List.sum_cons, List.sum_cons, List.sum_cons, ih]
    omega
theorem sum_neg {α : Type} (f : α → Int) (l : List α) : (l.map fun x => -f x).sum = -(l.map f).sum := by
  induction l with
  | nil => rfl
  | cons a l ih =>
    rw [List.map_cons, List.map_cons, List.sum_cons, List.sum_cons, ih]
    omega
theorem sum_ind (s : Nat) : ∀ l : List Wr, (l.map fun x => if x.1 = s then (1 : Int) else 0).sum = (((l.map fun x => x.1).count s : Nat) : Int)
  | [] => rfl
  | x :: l => by
    rw [List.map_cons, List.sum_cons, sum_ind s l, List.map_cons, List.count_cons]
    by_cases e : x.1 = s
    · rw [if_pos e, if_pos (by rw [beq_iff_eq]; exact e)]
      push_cast
      omega
    · rw [if_neg e, if_neg (by rw [beq_iff_eq]; exact e)]
      omega
theorem outsum_eq {n : Nat} {ws us fus : List Wr} (h1 : PickW n ws us) (h2 : PickW n ws fus) (φ : Nat → Int) : (us.map fun x => φ x.1).sum = (fus.map fun x => φ x.1).sum := by
  rw [h1.sum, h2.sum]
/-- what the least flow tells: a pick, balanced pieces, lags, and that the numbers meet -/
theorem share_main {gs : List Gt} {ws fus : List Wr} {b : Int} {bps : List (Bnd × Pce)} {g : List Int} {ks : List Kpt} {G : Nat → Int} (N : NetOk gs ws) (bok : BdsOk gs ws b (bps.map fun bp => bp.2) (bps.map fun bp => bp.1)) (hgl : g.length = bps.length + ws.length) (hg0 : ∀ x ∈ g, 0 ≤ x)
    (hf : PickW gs.length ws fus) (gt : ∀ F, wsum (dF F) ((bps.map fun bp => bp.1) ++ tailsF gs ws) g = (fus.map fun x => F (spotF gs x.1) - F (gs.length + 1 + x.1)).sum) (kp : Kept ((bps.map fun bp => bp.1) ++ tailsF gs ws) g ks) (S : Sat (ks.map fun e => e.1) G) (eok : ∀ e ∈ papF bps (g.take bps.length), EntOk gs ws e) :
    PickW gs.length ws (posW ws (g.drop bps.length)) ∧ BalP gs ws (posW ws (g.drop bps.length)) (papF bps (g.take bps.length)) ∧ Feas gs ws b (lagsAt gs G) ∧ (∀ y ∈ g.drop bps.length, y = 0 ∨ y = 1) ∧
      regsum (posW ws (g.drop bps.length)) - psum (roomF gs ws b) (papF bps (g.take bps.length)) = sharedF gs.length ws (lagsAt gs G) := by
  have hAl : (bps.map fun bp => bp.1).length ≤ g.length := by rw [List.length_map]; omega
  have sp : ∀ c, wsum c ((bps.map fun bp => bp.1) ++ tailsF gs ws) g = wsum c (bps.map fun bp => bp.1) (g.take bps.length) + wsum c (tailsF gs ws) (g.drop bps.length) := fun c => by
    rw [wsum_app c hAl, List.length_map]
  have h1n : ∀ x ∈ g.take bps.length, 0 ≤ x := fun x hx => hg0 x (List.mem_of_mem_take hx)
  have h2n : ∀ x ∈ g.drop bps.length, 0 ≤ x := fun x hx => hg0 x (List.mem_of_mem_drop hx)
  have h2l : (g.drop bps.length).length = ws.length := by rw [List.length_drop]; omega
  have we : ∀ x ∈ ws, x.2.1 < gs.length := fun x hx => (N.wok x hx).e
  have wS : ∀ x ∈ ws, x.1 < gs.length := fun x hx => (N.wok x hx).s
  generalize g.take bps.length = g1 at *
  generalize g.drop bps.length = g2 at *
  -- out of each gate 1 in all, where a wire leads
  have out1 : ∀ s, outF ws g2 s = (((givL gs.length ws).count s : Nat) : Int) := fun s => by
    have e := gt fun v => if v = gs.length + 1 + s then (1 : Int) else 0
    rw [sp, outF_tails s we, wsum_none fun bd hb => ?_] at e
    · have e2 : (fus.map fun x => (if spotF gs x.1 = gs.length + 1 + s then (1 : Int) else 0) - (if gs.length + 1 + x.1 = gs.length + 1 + s then (1 : Int) else 0)) = fus.map fun x => -(if x.1 = s then (1 : Int) else 0) := List.map_congr_left fun x hx => by
        have h3 := spot_le (gs := gs) x.1 (wS x (hf.1 x hx))
        rw [if_neg (by omega)]
        by_cases z : x.1 = s
        · rw [if_pos (by omega), if_pos z]; rfl
        · rw [if_neg (by omega), if_neg z]; rfl
      rw [e2, sum_neg, sum_ind, hf.2.count_eq s] at e
      omega
    · have := bok.below N bd hb
      show (if bd.1 = gs.length + 1 + s then (1 : Int) else 0) - (if bd.2.1 = gs.length + 1 + s then (1 : Int) else 0) = 0
      rw [if_neg (by omega), if_neg (by omega)]
      rfl
  have h01 : ∀ y ∈ g2, y = 0 ∨ y = 1 := fun y hy => by
    obtain ⟨i, hi⟩ := List.getElem?_of_mem hy
    have hil : i < ws.length := by rw [← h2l]; exact (List.getElem?_eq_some_iff.mp hi).1
    have h3 := outF_le h2n (List.getElem?_eq_getElem hil) hi
    rw [out1] at h3
    have h4 := count_givL (n := gs.length) (ws := ws) ws[i].1
    have h5 := h2n y hy
    omega
  have PW : PickW gs.length ws (posW ws g2) := by
    refine ⟨fun x hx => posW_sub hx, List.perm_iff_count.mpr fun s => ?_⟩
    have e1 := outF_count (ws := ws) s h01
    rw [out1] at e1
    omega
  have tl : ∀ c, wsum c (tailsF gs ws) g2 = ((posW ws g2).map fun x => c (tailB gs x)).sum := fun c => tails01 c h2l.symm h01
  have hbp := bok.bp
  have BAL : BalP gs ws (posW ws g2) (papF bps g1) := fun q hq hp => by
    rw [papF_sum (c' := dF (dl q)) (fun bp hbp' => ?_) h1n]
    · have e := gt (dl q)
      rw [sp, tl] at e
      have e1 : ((posW ws g2).map fun x => dF (dl q) (tailB gs x)) = (posW ws g2).map fun x => dl q x.2.1 := List.map_congr_left fun x hx => by
        show dl q (spotF gs x.2.1) - dl q (gs.length + 1 + x.1) = _
        rw [dl_spot hq hp]
        unfold dl
        rw [if_neg (show ¬ gs.length + 1 + x.1 = q by omega)]
        omega
      have e2 : (fus.map fun x => dl q (spotF gs x.1) - dl q (gs.length + 1 + x.1)) = fus.map fun x => dl q x.1 := List.map_congr_left fun x hx => by
        rw [dl_spot hq hp]
        unfold dl
        rw [if_neg (show ¬ gs.length + 1 + x.1 = q by omega)]
        omega
      rw [e1, e2, ← outsum_eq PW hf (dl q)] at e
      unfold wdl
      rw [sum_sub]
      omega
    · rw [hbp bp hbp']
      show dl q _ - dl q _ = dl q _ - dl q _
      rw [dl_spot hq hp, dl_spot hq hp]
  obtain ⟨satAll, _⟩ := kp.sat S
  obtain ⟨satA, satT⟩ := sat_app.mp satAll
  have FE := bok.lags N satA
  have val : regsum (posW ws g2) - psum (roomF gs ws b) (papF bps g1) = ((givL gs.length ws).map fun s => G (gs.length + 1 + s) - G (spotF gs s)).sum := by
    have t := kp.tight hg0 S
    rw [gt G, sp, tl, ← pap_room hbp h1n] at t
    have e1 : ((posW ws g2).map fun x => (tailB gs x).2.2) = (posW ws g2).map fun x => -((x.2.2.length : Nat) : Int) := rfl
    rw [e1, sum_neg] at t
    have e2 := hf.sum fun s => G (gs.length + 1 + s) - G (spotF gs s)
    rw [← e2]
    have e3 : (fus.map fun x => G (spotF gs x.1) - G (gs.length + 1 + x.1)) = fus.map fun x => -(G (gs.length + 1 + x.1) - G (spotF gs x.1)) := List.map_congr_left fun x _ => by omega
    rw [e3, sum_neg] at t
    unfold regsum
    omega
  refine ⟨PW, BAL, FE, h01, ?_⟩
  have low := shp_le N PW BAL eok FE
  have up : sharedF gs.length ws (lagsAt gs G) ≤ ((givL gs.length ws).map fun s => G (gs.length + 1 + s) - G (spotF gs s)).sum := by
    unfold sharedF
    refine map_sum_le fun s hs => ?_
    obtain ⟨hs1, x, hx, hxs⟩ := mem_givL.mp hs
    have cle : ∀ c ∈ outC ws (lagsAt gs G) s, c ≤ G (gs.length + 1 + s) - G (spotF gs s) := fun c hc => by
      obtain ⟨y, hy, e1, rfl⟩ := mem_outC.mp hc
      have := satT (tailB gs y) (List.mem_map.mpr ⟨y, hy, rfl⟩)
      have this : G (spotF gs y.2.1) ≤ G (gs.length + 1 + y.1) + -((y.2.2.length : Nat) : Int) := this
      rw [e1] at this
      unfold cntW lagsAt
      rw [e1]
      omega
    refine mx0_le ?_ cle
    have h1 := FE.lt x hx
    have h2 := cle (cntW (lagsAt gs G) x) (mem_outC.mpr ⟨x, hx, hxs, rfl⟩)
    unfold cntW at h2
    omega
  omega
end Lag

set_option maxRecDepth 100000
set_option maxHeartbeats 8000000
namespace Lag
open PySem PySem.Spec PyProof.Rows L2
abbrev sFirstWires : Stmt := topS 86 -- @first_wires
abbrev sTailBounds : Stmt := topS 87 -- @tail_bounds
abbrev sIsPick : Stmt := topS 83 -- @is_pick
abbrev sSharedFault : Stmt := topS 82 -- @shared_fault
abbrev sSharedBound : Stmt := topS 84 -- @shared_bound
abbrev sFewestShared : Stmt := topS 85 -- @fewest_shared
def firstI (ws : List Wr) (i : Nat) : List Nat := (List.range i).filter fun k => decide ((svW ws k).1 ∉ (ws.take k).map fun x => x.1)
/-- the places of the first wires out of the gates -/
def firstL (ws : List Wr) : List Nat := firstI ws ws.length
theorem nvs_in {k : Nat} {r : List Nat} : inV (.int (k : Nat)) (nvs r) = decide (k ∈ r) := by
  rw [Bool.eq_iff_iff, decide_eq_true_eq]
  unfold inV nvs
  rw [List.any_eq_true]
  constructor
  · rintro ⟨v, hv, h⟩
    obtain ⟨a, ha, rfl⟩ := List.mem_map.mp hv
    have h2 : (a : Int) = (k : Int) := by simpa [eqV] using h
    have : k = a := by omega
    exact this ▸ ha
  · intro h
    exact ⟨.int (k : Nat), List.mem_map.mpr ⟨k, h, rfl⟩, by simp [eqV]⟩
theorem nvs_flat (r : List Nat) : (nvs r).all flatV = true := by
  unfold nvs
  rw [List.all_eq_true]
  intro v hv
  obtain ⟨a, _, rfl⟩ := List.mem_map.mp hv
  rfl
theorem hcut_to {xs : List V} (k : Nat) : cutV xs none (some (k : Int)) = xs.take k := by
  unfold cutV
  rw [HT.sIx_none, HT.sIx_nat, List.drop_zero, Nat.sub_zero, take_min]
theorem hcut_from {xs : List V} (k : Nat) : cutV xs (some (k : Int)) none = xs.drop k := by
  unfold cutV
  rw [HT.sIx_none, HT.sIx_nat, drop_min]
  exact List.take_of_length_le (by rw [List.length_drop]; omega)
theorem firstI_succ (ws : List Wr) (i : Nat) : firstI ws (i + 1) = firstI ws i ++ if (svW ws i).1 ∈ (ws.take i).map (fun x => x.1) then [] else [i] := by
  unfold firstI
  rw [List.range_succ, List.filter_append]
  congr 1
  by_cases e : (svW ws i).1 ∈ (ws.take i).map fun x => x.1
  · rw [if_pos e, List.filter_cons_of_neg (by rw [decide_eq_true_iff]; exact fun z => z e)]
    rfl
  · rw [if_neg e, List.filter_cons_of_pos (by rw [decide_eq_true_iff]; exact e)]
    rfl
theorem firstI_len (ws : List Wr) (i : Nat) : (firstI ws i).length ≤ i := by
  have := List.length_filter_le (fun k => decide ((svW ws k).1 ∉ (ws.take k).map fun x => x.1)) (List.range i)
  rw [List.length_range] at this
  exact this
def spFirstWires (K : PySem.W.Frag) (C : Addr) : Sp := fun vs H Q _ => ∃ (p ng nw : Addr) (gs : List Gt) (ws : List Wr), vs = [.ref p] ∧ NetAt K C H p ng nw gs ws ∧ NetOk gs ws ∧ ∀ l H', Same H H' → H l = none → H' l = some (.lst (nvs (firstL ws))) → Q (.ref l) H'
def spTailBounds (K : PySem.W.Frag) (C : Addr) : Sp := fun vs H Q _ => ∃ (p ng nw : Addr) (gs : List Gt) (ws : List Wr), vs = [.ref p] ∧ NetAt K C H p ng nw gs ws ∧ NetOk gs ws ∧ ∀ l tv H', Same H H' → H l = none → H' l = some (.lst tv) → All2 (BndV K H') tv (tailsF gs ws) → Q (.ref l) H'
section
variable {P : Program} {w : World} {K : PySem.W.Frag} {mg : Str → Option Value} {base : Heap}
abbrev nFirstWires : List Str := ["net", "wire", "starts", "place", "start"]
theorem scFirstWires : FnScope nFirstWires ["net"] (defScope sFirstWires) := ⟨rfl, rfl, rfl, by decide +kernel, rfl, by decide +kernel, by decide +kernel⟩
abbrev DFirstWires (P : Program) (w : World) (K : PySem.W.Frag) (mg : Str → Option Value) (base : Heap) (C : Addr) := Df P w K mg base 1 "first_wires" ["net"] (spFirstWires K C)
theorem ok_firstWires {f C : Addr} {fd : FuncData} (F : Fun K "first_wires" "first_wires" sFirstWires f fd) (hm : mg "first_wires" = some (.ref f)) (B : Bt mg) (T : NT K mg C) : DFirstWires P w K mg base C f fd := by
  refine ⟨?_, hm, F.kp, F.binds fun _ _ _ _ _ _ us hl => match us, hl with | [_], _ => rfl⟩
  refine F.ok scFirstWires (fun vs H Q E h => ?_) (fun cdv A outer s H vs Q E hr h => ?_)
  · obtain ⟨p, ng, nw, gs, ws, rfl, _⟩ := h
    rfl
  · obtain ⟨p, ng, nw, gs, ws, rfl, NA, N, q⟩ := h
    have nd := scFirstWires.nd
    refine ⟨_, pss_cons (ps_set (i := 2) nd rfl (.inr rfl) (pe_lc (own := [("wire", 1)]) (g := (gName 1)) (tt := tYes) (te := (tOp (rIxT K) (tVar 1) (tC (.int 0)))) rfl nd (pi_list (pe_fld (pv 0) rfl)) (blkOk_by (N := nFirstWires) (sc := defScope sFirstWires) (own := [("wire", 1)]) (by decide +kernel)) (fun _ _ _ _ _ => (pg_name (i := 1) nd rfl (.inl rfl))) (fun _ _ _ _ _ => pts_nil) (fun _ _ _ _ _ => (pe_ix ix_tup (pv 1) pe_int (fun _ _ => rfl))))) <|
        pss_one (ps_ret (pe_lc (own := [("place", 3), ("start", 4)]) (g := (gTup K 2 (gCons (gName 3) (gCons (gName 4) gNil)))) (tt := (tTest (tOp (rIn K true) (tVar 4) (tSl (rSlL K) (tVar 2) tNoPart (tPart (tVar 3)))))) (te := (tVar 3)) rfl nd (pi_enum (by rfl) B.enum (pa_cons (pv 2) pa_nil)) (blkOk_by (N := nFirstWires) (sc := defScope sFirstWires) (own := [("place", 3), ("start", 4)]) (by decide +kernel)) (fun _ _ _ _ _ => (pg_tup rfl (pgs_cons (pg_name (i := 3) nd rfl (.inl rfl)) (pgs_cons (pg_name (i := 4) nd rfl (.inl rfl)) pgs_nil)))) (fun _ _ _ _ _ => pts_one (pt_cmpR op_notIn_seq (pv 4) (pe_slice sl_list (pv 2) po_none (po_some (pv 3))) (by rfl))) (fun _ _ _ _ _ => (pv 3)))), ?_⟩
    obtain ⟨dx, ob⟩ := id NA.ob
    obtain ⟨gv, hgv, ga⟩ := id NA.g
    obtain ⟨wv, hwv, wa⟩ := id NA.w
    have hlg : gv.length = gs.length := ga.1
    have hlw : wv.length = ws.length := wa.1
    have hgl := N.gl
    have hwl := N.wl
    refine ⟨_, rfl, p, C, dx, _, _, rfl, ob, T.cl, T.nW, nf_wires _ _, nw, rfl, ⟨_, SqL.of hwv⟩, fun ls hls => ?_⟩
    refine lc_list (K := K) (a := nw) (xs := wv) (fun i Hc => Hc ls = some (.lst (nvs ((ws.take i).map fun x => x.1))) ∧ Same H Hc) ⟨upd_same, same_new hls⟩ (fun i Hc _ ⟨_, sm⟩ => SqL.of (sm _ _ hwv)) ?_ ?_
    · rintro i v Hc hv ⟨hc, sm⟩
      obtain ⟨x, hx, a, b, rfl, sq1, sq2⟩ := wa.get hv
      have hi : i < ws.length := (List.getElem?_eq_some_iff.mp hx).1
      refine ⟨rfl, tyes ?_⟩
      refine ⟨_, rfl, a, _, 0, _, rfl, rfl, (TK.same sm).seq sq1, atI_nat (j := 0) rfl, _, hc, ?_, ?_, same_mut sm hls⟩
      · rw [nvs_len, List.length_map, List.length_take]
        exact small1000 (by omega)
      · rw [upd_same, List.take_add_one, hx, List.map_append]
        show _ = some (HO.lst (List.map _ (_ ++ _)))
        rw [List.map_append]
        rfl
    rintro H1 ⟨h1, s1⟩
    rw [hlw, List.take_length] at h1
    refine gn_norm (σ' := [some (.ref p), none, some (.ref ls), none, none]) rfl ?_
    refine ⟨_, rfl, ls, _, rfl, SqL.of h1, fun D hD => ?_⟩
    have sl : (ws.map fun x => x.1).length = ws.length := List.length_map ..
    refine lc_it (walk_enum (K := K) (a := ls) (xs := nvs (ws.map fun x => x.1))) (fun i Hc => Hc D = some (.lst (nvs (firstI ws i))) ∧ Same H1 Hc) ⟨upd_same, same_new hD⟩ (fun i Hc _ ⟨_, sm⟩ => SqL.of (sm _ _ h1)) ?_ ?_
    · rintro i v Hc Hc' hi ⟨hc, sm⟩ ⟨T', x1, y, rfl, hT, rfl, ex, ey⟩
      cases ex
      obtain ⟨k, hk, rfl⟩ := nvs_of ey
      rw [nvs_len, sl] at hi
      have hx : ws[i]? = some ws[i] := List.getElem?_eq_getElem hi
      have hks : k = (svW ws i).1 := by
        rw [List.getElem?_map, hx] at hk
        rw [svW_get hx]
        exact (Option.some.inj hk).symm
      have sT := same_new (o := .tup [.int (i : Nat), .int (k : Nat)]) hT
      have eT : (upd Hc T' (.tup [.int (i : Nat), .int (k : Nat)])) T' = some (.tup [.int (i : Nat), .int (k : Nat)]) := upd_same
      have smT := sm.trans sT
      have hcT := sT _ _ hc
      generalize upd Hc T' (.tup [.int (i : Nat), .int (k : Nat)]) = Hd at sT eT smT hcT
      refine ⟨T', _, rfl, .inl (.inl eT), rfl, _, _, rfl, _, _, rfl, rfl, ?_⟩
      refine ⟨by
        show wipe ([some (V.ref p), none, some (V.ref ls), some _, some _] : L2.St) [3, 4] = _
        rfl, ?_⟩
      refine ⟨_, rfl, _, rfl, _, rfl, _, rfl, ls, _, rfl, SqL.of (smT _ _ h1), fun l5 hl5 => ?_⟩
      rw [hcut_to]
      have s5 := same_new (o := .lst ((nvs (ws.map fun x => x.1)).take i)) hl5
      have e5 : (upd Hd l5 (.lst ((nvs (ws.map fun x => x.1)).take i))) l5 = some (.lst (nvs ((ws.take i).map fun x => x.1))) := by
        rw [upd_same]
        unfold nvs
        rw [← List.map_take, ← List.map_take]
      generalize upd Hd l5 (.lst ((nvs (ws.map fun x => x.1)).take i)) = He at s5 e5
      refine ⟨l5, _, rfl, .inl (SqL.of e5), rfl, nvs_flat _, _, rfl, ?_⟩
      rw [nvs_in, firstI_succ, ← hks]
      have hc5 := s5 _ _ hcT
      by_cases h : k ∈ (ws.take i).map fun x => x.1
      · rw [decide_eq_true h, if_pos h, List.append_nil]
        exact iteF ⟨hc5, smT.trans s5⟩
      · rw [decide_eq_false h, if_neg h]
        refine iteT ⟨_, rfl, _, hc5, ?_, ?_, same_mut (smT.trans s5) hD⟩
        · have := firstI_len ws i
          rw [nvs_len]
          exact small1000 (by omega)
        · rw [upd_same]
          show _ = some (HO.lst (List.map _ (_ ++ _)))
          rw [List.map_append]
          rfl
    rintro H2 ⟨h2, s2⟩
    rw [nvs_len, sl] at h2
    exact q D H2 (s1.trans s2) (s1.free hD) h2
abbrev nTailBounds : List Str := ["net", "spots", "told", "place", "start", "end", "held"]
theorem scTailBounds : FnScope nTailBounds ["net"] (defScope sTailBounds) := ⟨rfl, rfl, rfl, by decide +kernel, rfl, by decide +kernel, by decide +kernel⟩
abbrev DTailBounds (P : Program) (w : World) (K : PySem.W.Frag) (mg : Str → Option Value) (base : Heap) (C : Addr) := Df P w K mg base 3 "tail_bounds" ["net"] (spTailBounds K C)
theorem ok_tailBounds {f fS fI C : Addr} {fd fdS fdI : FuncData} (F : Fun K "tail_bounds" "tail_bounds" sTailBounds f fd) (hm : mg "tail_bounds" = some (.ref f)) (B : Bt mg) (T : NT K mg C) (DSo : DSpotsOf P w K mg base C fS fdS) (DSi : DSpotsIn P w K mg base C fI fdI) : DTailBounds P w K mg base C f fd := by
  refine ⟨?_, hm, F.kp, F.binds fun _ _ _ _ _ _ us hl => match us, hl with | [_], _ => rfl⟩
  refine F.ok scTailBounds (fun vs H Q E h => ?_) (fun cdv A outer s H vs Q E hr h => ?_)
  · obtain ⟨p, ng, nw, gs, ws, rfl, _⟩ := h
    rfl
  · obtain ⟨p, ng, nw, gs, ws, rfl, NA, N, q⟩ := h
    have nd := scTailBounds.nd
    refine ⟨_, pss_cons (ps_set (i := 1) nd rfl (.inl rfl) (pe_call DSo.ok (hr.mono (by decide)) (by rfl) DSo.mg DSo.kp DSo.bd .nil pass0 (pa_cons (pv 0) pa_nil))) <|
        pss_cons (ps_set (i := 2) nd rfl (.inl rfl) (pe_lst pa_nil)) <|
        pss_cons (ps_for PassesOwn.never rfl (pi_enum (by rfl) B.enum (pa_cons (pe_fld (pv 0) rfl) pa_nil)) (pg_tup rfl (pgs_cons (pg_name (i := 3) nd rfl (.inl rfl)) (pgs_cons (pg_tup rfl (pgs_cons (pg_name (i := 4) nd rfl (.inl rfl)) (pgs_cons (pg_name (i := 5) nd rfl (.inl rfl)) (pgs_cons (pg_name (i := 6) nd rfl (.inl rfl)) pgs_nil)))) pgs_nil))) (pss_one (ps_expr (pe_bm PySem.F.plainAttrs_list PySem.F.slot_list_append PySem.F.type_list_append mt_append (pv 2) (pa_cons (pe_tup (pa_cons (pe_ix ix_list (pv 1) (pv 5) (fun _ _ => rfl)) (pa_cons (pe_op op_add (pe_call DSi.ok (hr.mono (by decide)) (by rfl) DSi.mg DSi.kp DSi.bd .nil pass0 (pa_cons (pv 0) pa_nil)) (pv 4)) (pa_cons (pe_un un_neg (pe_callB call_len_seq (by rfl) B.len PySem.boot_len (pa_cons (pv 6) pa_nil))) (pa_cons (pv 3) pa_nil))))) pa_nil))))) <|
        pss_one (ps_ret (pv 2)), ?_⟩
    obtain ⟨dx, ob⟩ := id NA.ob
    obtain ⟨gv, hgv, ga⟩ := id NA.g
    obtain ⟨wv, hwv, wa⟩ := id NA.w
    have hlg : gv.length = gs.length := ga.1
    have hlw : wv.length = ws.length := wa.1
    have hgl := N.gl
    have hwl := N.wl
    refine ⟨_, rfl, p, ng, nw, gs, ws, rfl, NA, N, fun ls H1 s1 hls els => ?_⟩
    refine gn_norm (σ' := [some (.ref p), some (.ref ls), none, none, none, none, none]) rfl ?_
    refine ⟨(by show 0 ≤ sizeLine; decide), fun lt hlt => ?_⟩
    have s2 : Same H1 (upd H1 lt (.lst [])) := same_new hlt
    have e2 : (upd H1 lt (.lst [])) lt = some (.lst []) := upd_same
    obtain ⟨H2, hH2⟩ : ∃ H2, H2 = upd H1 lt (.lst []) := ⟨_, rfl⟩
    rw [← hH2] at s2 e2
    refine gn_normH (σ' := [some (.ref p), some (.ref ls), some (.ref lt), none, none, none, none]) (H' := H2) rfl hH2.symm ?_
    have s02 := s1.trans s2
    have hlt0 : H lt = none := s1.free hlt
    refine ⟨_, rfl, p, C, dx, _, _, rfl, s02 _ _ ob, T.cl, T.nW, nf_wires _ _, nw, wv, rfl, SqL.of (s02 _ _ hwv), for_it (walk_enum (K := K) (a := nw) (xs := wv)) (fun i σ H' => ∃ (u3 u4 u5 u6 : Option V) (tv : List V), σ = [some (.ref p), some (.ref ls), some (.ref lt), u3, u4, u5, u6] ∧ H' lt = some (.lst tv) ∧ All2 (BndV K H') tv (tailsF gs (ws.take i)) ∧ But lt H2 H' ∧ Same H H')
      ⟨_, _, _, _, [], rfl, e2, .nil, But.refl _ _, s02⟩ (fun i σ H' _ ⟨_, _, _, _, _, _, _, _, _, sm⟩ => SqL.of (sm _ _ hwv)) ?_ ?_⟩
    · rintro i v σ H3 H3' hi ⟨u3, u4, u5, u6, tv, rfl, ht3, al, bt, sm⟩ ⟨T', x1, y, rfl, hT, rfl, ex, ey⟩
      cases ex
      obtain ⟨x, hx, a, b, rfl, sq1, sq2⟩ := wa.get ey
      have WX := N.wok x (List.mem_of_getElem? hx)
      have hiw : i < ws.length := (List.getElem?_eq_some_iff.mp hx).1
      have sT := same_new (o := .tup [.int (i : Nat), .ref a]) hT
      have eT : (upd H3 T' (.tup [.int (i : Nat), .ref a])) T' = some (.tup [.int (i : Nat), .ref a]) := upd_same
      have smT := sm.trans sT
      have ht4 := sT _ _ ht3
      have al4 := al.imp fun _ _ r => BndV.tk (TK.same sT) r
      have ls4 := sT _ _ (bt _ _ (ne_of_none els hlt) (s2 _ _ els))
      generalize upd H3 T' (.tup [.int (i : Nat), .ref a]) = H4 at sT eT smT ht4 al4 ls4
      refine ⟨T', _, rfl, .inl (.inl eT), rfl, _, _, rfl, _, _, rfl, a, _, rfl, (TK.same smT).seq sq1, rfl, _, _, rfl, _, _, rfl, _, _, rfl, rfl, rfl, ?_⟩
      have hsp : (spotsL gs)[x.2.1]? = some (spotF gs x.2.1) := by
        unfold spotsL
        rw [List.getElem?_map, List.getElem?_range WX.e]
        rfl
      refine ⟨_, rfl, .inl ⟨rfl, _, SqL.of ht4⟩, _, rfl, _, rfl, ls, _, x.2.1, _, rfl, rfl, SqL.of ls4, atI_nat (nvs_at hsp), ?_⟩
      refine ⟨_, rfl, p, ng, nw, gs, ws, rfl, NA.same smT, ?_⟩
      refine ⟨_, rfl, _, _, rfl, rfl, _, rfl, b, _, rfl, .inr ((TK.same smT).seq sq2), _, rfl, _, rfl, (by show 4 ≤ sizeLine; decide), fun t2 ht2 => ?_⟩
      have e1 : ((gs.length + 1 : Nat) : Int) + ((x.1 : Nat) : Int) = ((gs.length + 1 + x.1 : Nat) : Int) := by omega
      have st2 := same_new (o := .tup [.int ((spotF gs x.2.1 : Nat) : Int), .int (((gs.length + 1 : Nat) : Int) + ((x.1 : Nat) : Int)), .int (-(((x.2.2.map V.int).length : Nat) : Int)), .int ((i : Nat) : Int)]) ht2
      have et2 : (upd H4 t2 (.tup [.int ((spotF gs x.2.1 : Nat) : Int), .int (((gs.length + 1 : Nat) : Int) + ((x.1 : Nat) : Int)), .int (-(((x.2.2.map V.int).length : Nat) : Int)), .int ((i : Nat) : Int)])) t2 = some (.tup [.int ((spotF gs x.2.1 : Nat) : Int), .int ((gs.length + 1 + x.1 : Nat) : Int), .int (-((x.2.2.length : Nat) : Int)), .int ((i : Nat) : Int)]) := by rw [upd_same, e1, List.length_map]
      generalize upd H4 t2 (.tup [.int ((spotF gs x.2.1 : Nat) : Int), .int (((gs.length + 1 : Nat) : Int) + ((x.1 : Nat) : Int)), .int (-(((x.2.2.map V.int).length : Nat) : Int)), .int ((i : Nat) : Int)]) = H5 at st2 et2
      have ht5 := st2 _ _ ht4
      have tl : tv.length = i := by
        rw [al.1]
        unfold tailsF
        rw [List.length_map, List.length_take]
        omega
      refine ⟨lt, _, _, rfl, rfl, ht5, small1000 (by have := N.wl; omega), ?_⟩
      refine ⟨_, _, _, _, tv ++ [.ref t2], rfl, upd_same, ?_, fun a o n h => (upd_ne n).trans (st2 _ _ (sT _ _ (bt a o n h))), same_mut (smT.trans st2) hlt0⟩
      rw [show tailsF gs (ws.take (i + 1)) = tailsF gs (ws.take i) ++ [tailB gs x] by unfold tailsF; rw [List.take_add_one, hx, List.map_append]; rfl]
      exact All2.snoc (al4.imp fun _ _ r => (BndV.tk (TK.same st2) r).tk (TK.lst ht5)) ((show BndV K H5 (.ref t2) (tailB gs x) from ⟨t2, _, rfl, .inl (.inl et2)⟩).tk (TK.lst ht5))
    · rintro σ H3 ⟨u3, u4, u5, u6, tv, rfl, ht3, al, bt, sm⟩
      rw [hlw, List.take_length] at al
      exact ⟨_, rfl, q lt tv H3 sm hlt0 ht3 al⟩
end
end Lag

set_option maxRecDepth 100000
set_option maxHeartbeats 8000000
namespace Lag
open PySem PySem.Spec PyProof.Rows L2
/-! ### places picked -/
def pickI (f : List Int) (i : Nat) : List Nat := (List.range i).filter fun k => decide (0 < f.getD k 0)
def pickL (f : List Int) : List Nat := pickI f f.length
theorem pickI_succ (f : List Int) (i : Nat) : pickI f (i + 1) = pickI f i ++ if 0 < f.getD i 0 then [i] else [] := by
  unfold pickI
  rw [List.range_succ, List.filter_append]
  congr 1
  by_cases e : 0 < f.getD i 0
  · rw [if_pos e, List.filter_cons_of_pos (by rw [decide_eq_true_iff]; exact e)]
    rfl
  · rw [if_neg e, List.filter_cons_of_neg (by rw [decide_eq_true_iff]; exact e)]
    rfl
theorem pickI_len (f : List Int) (i : Nat) : (pickI f i).length ≤ i := by
  have := List.length_filter_le (fun k => decide (0 < f.getD k 0)) (List.range i)
  rw [List.length_range] at this
  exact this
theorem pickI_lt (f : List Int) (i : Nat) : ∀ k ∈ pickI f i, k < i := fun k hk => List.mem_range.mp (List.mem_filter.mp hk).1
theorem pickL_sort (f : List Int) : (pickL f).Pairwise (· < ·) := List.Pairwise.filter _ List.pairwise_lt_range
theorem posW_snoc {ws : List Wr} {f : List Int} (h : ws.length = f.length) (x : Wr) (y : Int) : posW (ws ++ [x]) (f ++ [y]) = posW ws f ++ if 0 < y then [x] else [] := by
  unfold posW
  rw [List.zip_append h, List.filter_append, List.map_append]
  congr 1
  show ((List.filter _ [(x, y)]).map _) = _
  by_cases e : 0 < y
  · rw [if_pos e, List.filter_cons_of_pos (by rw [decide_eq_true_iff]; exact e)]
    rfl
  · rw [if_neg e, List.filter_cons_of_neg (by rw [decide_eq_true_iff]; exact e)]
    rfl
theorem posW_pick {ws : List Wr} {f : List Int} (h : ws.length = f.length) : posW ws f = (pickL f).map (svW ws) := by
  have key : ∀ n, n ≤ ws.length → posW (ws.take n) (f.take n) = (pickI f n).map (svW ws) := by
    intro n
    induction n with
    | zero => intro _; rfl
    | succ n ih =>
      intro hn
      have hx : ws[n]? = some ws[n] := List.getElem?_eq_getElem (by omega)
      have hy : f[n]? = some f[n] := List.getElem?_eq_getElem (by omega)
      have hg : f.getD n 0 = f[n] := by rw [List.getD_eq_getElem?_getD, hy]; rfl
      have l : (ws.take n).length = (f.take n).length := by rw [List.length_take, List.length_take, h]
      rw [List.take_add_one, List.take_add_one, hx, hy]
      show posW (_ ++ [ws[n]]) (_ ++ [f[n]]) = _
      rw [posW_snoc l, ih (by omega), pickI_succ, List.map_append, hg]
      congr 1
      split
      · show [ws[n]] = [svW ws n]
        rw [svW_get hx]
      · rfl
  have := key ws.length (Nat.le_refl _)
  rw [List.take_length, h, List.take_length] at this
  exact this
theorem pick_all2 {ws : List Wr} {f : List Int} (h : ws.length = f.length) : All2 (fun (p : Nat) (x : Wr) => ws[p]? = some x) (pickL f) (posW ws f) := by
  rw [posW_pick h]
  refine ⟨(List.length_map _).symm, fun i p x hp hx => ?_⟩
  rw [List.getElem?_map, hp] at hx
  cases hx
  have hl := pickI_lt f _ p (List.mem_of_getElem? hp)
  have hx : ws[p]? = some ws[p] := List.getElem?_eq_getElem (by omega)
  rw [hx, svW_get hx]
def indI (ws : List Wr) (i : Nat) : List Int := (List.range i).map fun k => if k ∈ firstL ws then (1 : Int) else 0
theorem indI_len (ws : List Wr) (i : Nat) : (indI ws i).length = i := by unfold indI; rw [List.length_map, List.length_range]
theorem indI_succ (ws : List Wr) (i : Nat) : indI ws (i + 1) = indI ws i ++ [if i ∈ firstL ws then (1 : Int) else 0] := by
  unfold indI
  rw [List.range_succ, List.map_append]
  rfl
theorem indI_01 (ws : List Wr) (i : Nat) : ∀ y ∈ indI ws i, y = 0 ∨ y = 1 := fun y hy => by
  obtain ⟨k, _, rfl⟩ := List.mem_map.mp hy
  split
  · exact .inr rfl
  · exact .inl rfl
theorem pick_first (ws : List Wr) : pickL (indI ws ws.length) = firstL ws := by
  unfold pickL pickI
  rw [indI_len]
  have : firstL ws = (List.range ws.length).filter fun k => decide ((svW ws k).1 ∉ (ws.take k).map fun x => x.1) := rfl
  rw [this]
  refine List.filter_congr fun k hk => ?_
  have hk := List.mem_range.mp hk
  have e : (indI ws ws.length).getD k 0 = if k ∈ firstL ws then (1 : Int) else 0 := by
    unfold indI
    rw [List.getD_eq_getElem?_getD, List.getElem?_map, List.getElem?_range hk]
    rfl
  rw [e, this]
  by_cases h : (svW ws k).1 ∉ (ws.take k).map fun x => x.1
  · rw [if_pos (List.mem_filter.mpr ⟨List.mem_range.mpr hk, by rw [decide_eq_true_iff]; exact h⟩), decide_eq_true h]
    rfl
  · rw [if_neg fun z => h (by have := (List.mem_filter.mp z).2; rw [decide_eq_true_iff] at this; exact this), decide_eq_false h]
    rfl
theorem first_all2 (ws : List Wr) : All2 (fun (p : Nat) (x : Wr) => ws[p]? = some x) (firstL ws) (posW ws (indI ws ws.length)) := by
  have := pick_all2 (ws := ws) (f := indI ws ws.length) (indI_len ws _).symm
  rw [pick_first] at this
  exact this
theorem firstI_starts (ws : List Wr) : ∀ i, i ≤ ws.length → ((firstI ws i).map fun k => (svW ws k).1).Nodup ∧ ∀ s, s ∈ (firstI ws i).map (fun k => (svW ws k).1) ↔ s ∈ (ws.take i).map fun x => x.1 := by
  intro i
  induction i with
  | zero => intro _; exact ⟨List.nodup_nil, fun s => Iff.rfl⟩
  | succ i ih =>
    intro hi
    obtain ⟨h1, h2⟩ := ih (by omega)
    have hx : ws[i]? = some ws[i] := List.getElem?_eq_getElem (by omega)
    rw [firstI_succ, List.take_add_one, hx, List.map_append, List.map_append]
    rw [svW_get hx]
    by_cases e : ws[i].1 ∈ (ws.take i).map fun x => x.1
    · rw [if_pos e]
      refine ⟨by simpa using h1, fun s => ?_⟩
      show s ∈ _ ++ [] ↔ s ∈ _ ++ [ws[i].1]
      rw [List.append_nil, h2, List.mem_append, List.mem_singleton]
      constructor
      · exact .inl
      · rintro (h | h)
        · exact h
        · rw [h]; exact e
    · rw [if_neg e]
      have e3 : ([i].map fun k => (svW ws k).1) = [ws[i].1] := by show [(svW ws i).1] = _; rw [svW_get hx]
      rw [e3]
      refine ⟨List.nodup_append.mpr ⟨h1, (List.nodup_cons.mpr ⟨(fun h => nomatch h), List.nodup_nil⟩), fun a ha b hb => ?_⟩, fun s => ?_⟩
      · rw [List.mem_singleton.mp hb]
        exact fun z => e ((h2 _).mp (z ▸ ha))
      · rw [List.mem_append, h2]
        show _ ↔ s ∈ _ ++ [ws[i].1]
        rw [List.mem_append]
theorem first_pick {gs : List Gt} {ws : List Wr} (N : NetOk gs ws) : PickW gs.length ws (posW ws (indI ws ws.length)) := by
  refine ⟨fun x hx => posW_sub hx, ?_⟩
  obtain ⟨h1, h2⟩ := firstI_starts ws ws.length (Nat.le_refl _)
  rw [posW_pick (indI_len ws _).symm, pick_first, List.map_map]
  refine (List.perm_ext_iff_of_nodup h1 (givL_nd _ _)).mpr fun s => ?_
  rw [h2, List.take_length, mem_givL]
  constructor
  · intro h
    obtain ⟨x, hx, rfl⟩ := List.mem_map.mp h
    exact ⟨(N.wok x hx).s, x, hx, rfl⟩
  · rintro ⟨_, x, hx, rfl⟩
    exact List.mem_map.mpr ⟨x, hx, rfl⟩
/-! ### shared papers -/
structure ShAt (K : PySem.W.Frag) (H : Hp) (t lq lp : Addr) (gs : List Gt) (ws us : List Wr) (ps : List Nat) (ev : List V) (es : List Ent) : Prop where
  t : SqT K H t [.ref lq, .ref lp]
  q : SqL K H lq (nvs ps)
  g : All2 (fun (p : Nat) (x : Wr) => ws[p]? = some x) ps us
  s : ps.Pairwise (· < ·)
  w : PickW gs.length ws us
  p : SqL K H lp ev
  a : All2 (EntV K H) ev es
  o : ∀ e ∈ es, EntOk gs ws e
  l : es.length ≤ 11000
  b : BalP gs ws us es
theorem ShAt.same {K : PySem.W.Frag} {H H' : Hp} {t lq lp : Addr} {gs : List Gt} {ws us : List Wr} {ps : List Nat} {ev : List V} {es : List Ent} (s : Same H H') (h : ShAt K H t lq lp gs ws us ps ev es) : ShAt K H' t lq lp gs ws us ps ev es :=
  ⟨(TK.same s).seq h.t, s.seq h.q, h.g, h.s, h.w, s.seq h.p, h.a.imp fun _ _ r => EntV.same s r, h.o, h.l, h.b⟩
theorem all2_len {gs : List Gt} {ws us : List Wr} {ps : List Nat} (N : NetOk gs ws) (h : All2 (fun (p : Nat) (x : Wr) => ws[p]? = some x) ps us) (s : ps.Pairwise (· < ·)) : ps.length ≤ 1000 := by
  have nd : ps.Nodup := s.imp fun h => Nat.ne_of_lt h
  have hlt : ∀ p ∈ ps, p < ws.length := fun p hp => by
    obtain ⟨i, hi⟩ := List.getElem?_of_mem hp
    obtain ⟨x, _, hx⟩ := h.get hi
    exact (List.getElem?_eq_some_iff.mp hx).1
  have := List.Nodup.length_le_of_subset nd (l₂ := List.range ws.length) (fun a ha => List.mem_range.mpr (hlt a ha))
  rw [List.length_range] at this
  have := N.wl
  omega
theorem nvs_ints (r : List Nat) : nvs r = (r.map fun k => ((k : Nat) : Int)).map V.int := by
  unfold nvs
  rw [List.map_map]
  rfl
theorem sorted_eq {xs ys : List Int} (h : xs.Perm ys) (h1 : xs.Pairwise (· ≤ ·)) (h2 : ys.Pairwise (· ≤ ·)) : xs = ys :=
  h.eq_of_pairwise (fun a b _ _ h1 h2 => Int.le_antisymm h1 h2) h1 h2
theorem pw_int {r : List Nat} (h : r.Pairwise (· < ·)) : (r.map fun k => ((k : Nat) : Int)).Pairwise (· < ·) := List.pairwise_map.mpr (h.imp fun h => by omega)
theorem givL_sort (n : Nat) (ws : List Wr) : (givL n ws).Pairwise (· < ·) := List.Pairwise.filter _ List.pairwise_lt_range
def spIsPick (K : PySem.W.Frag) (C : Addr) : Sp := fun vs H Q _ => ∃ (p ng nw lq : Addr) (gs : List Gt) (ws us : List Wr) (ps : List Nat), vs = [.ref p, .ref lq] ∧ NetAt K C H p ng nw gs ws ∧ NetOk gs ws ∧ SqL K H lq (nvs ps) ∧ All2 (fun (p : Nat) (x : Wr) => ws[p]? = some x) ps us ∧ ps.Pairwise (· < ·) ∧ PickW gs.length ws us ∧ ∀ H', Same H H' → Q (.bl true) H'
def spSharedFault (K : PySem.W.Frag) (C : Addr) : Sp := fun vs H Q _ => ∃ (p ng nw t lq lp : Addr) (gs : List Gt) (ws us : List Wr) (ps : List Nat) (b : Int) (ev : List V) (es : List Ent), vs = [.ref p, .int b, .ref t] ∧ NetAt K C H p ng nw gs ws ∧ NetOk gs ws ∧ 0 ≤ b ∧ ShAt K H t lq lp gs ws us ps ev es ∧ ∀ H', Same H H' → Q .non H'
def spSharedBound (K : PySem.W.Frag) (C : Addr) : Sp := fun vs H Q _ => ∃ (p ng nw t lq lp : Addr) (gs : List Gt) (ws us : List Wr) (ps : List Nat) (b : Int) (ev : List V) (es : List Ent), vs = [.ref p, .ref t, .int b] ∧ NetAt K C H p ng nw gs ws ∧ NetOk gs ws ∧ 0 ≤ b ∧ ShAt K H t lq lp gs ws us ps ev es ∧ ∀ H', Same H H' → Q (.int (regsum us - psum (roomF gs ws b) es)) H'
/-- fewest_shared told exactly: lags, a pick and a paper -/
def FsX (gs : List Gt) (ws : List Wr) (b : Int) (L : Nat → Int) (ps : List Nat) (es : List Ent) : Prop := ∃ (bps : List (Bnd × Pce)) (g : List Int) (G : Nat → Int), BdsOk gs ws b (bps.map fun bp => bp.2) (bps.map fun bp => bp.1) ∧ FlowS (gs.length + 1 + gs.length) ((bps.map fun bp => bp.1) ++ tailsF gs ws) (plnF ws bps (posW ws (indI ws ws.length)) ++ indI ws ws.length) g ∧ FEnd ((bps.map fun bp => bp.1) ++ tailsF gs ws) g ∧ ps = pickL (g.drop bps.length) ∧ es = papF bps (g.take bps.length) ∧ NearX (gs.length + 1 + gs.length) gs ((bothI ((bps.map fun bp => bp.1) ++ tailsF gs ws) g ((bps.map fun bp => bp.1) ++ tailsF gs ws).length).map fun e => e.1) G ∧ L = lagsAt gs G
/-- the fewest shared registers of lags for b, such lags, a shared paper -/
def spFewestShared (K : PySem.W.Frag) (C : Addr) : Sp := fun vs H Q _ => ∃ (p ng nw : Addr) (gs : List Gt) (ws : List Wr) (b : Int), vs = [.ref p, .int b] ∧ NetAt K C H p ng nw gs ws ∧ NetOk gs ws ∧ 0 ≤ b ∧ FeasE gs ws b ∧
  ∀ (tt ll th lq lp : Addr) (m : Int) (L : Nat → Int) (us : List Wr) (ps : List Nat) (ev : List V) (es : List Ent) (H' : Hp), Same H H' → H' tt = some (.tup [.int m, .ref ll, .ref th]) → H ll = none → H' ll = some (.lst ((lagsL gs L).map V.int)) → H lq = none → H' lq = some (.lst (nvs ps)) → H lp = none → H' lp = some (.lst ev) → All2 (EntZ K (fun l => H l ≠ none) H') ev es → ShAt K H' th lq lp gs ws us ps ev es →
    Feas gs ws b L → m = sharedF gs.length ws L → m = regsum us - psum (roomF gs ws b) es → (∀ R : Int, 1 ≤ R → (2 * (gs.length : Int) + 1) * R ≤ 500 → (∀ x ∈ ws, ((x.2.2.length : Nat) : Int) ≤ R) → (∀ s e c, s < gs.length → best gs ws s e = some c → c.1 ≤ R) → ∀ g, g < gs.length → -500 ≤ L g ∧ L g ≤ 500) → FsX gs ws b L ps es → Q (.ref tt) H'
theorem tails_below {gs : List Gt} {ws : List Wr} (N : NetOk gs ws) : ∀ bd ∈ tailsF gs ws, bd.1 < gs.length + 1 + gs.length ∧ bd.2.1 < gs.length + 1 + gs.length := fun bd hb => by
  obtain ⟨x, hx, rfl⟩ := List.mem_map.mp hb
  have W := N.wok x hx
  have h1 := spot_le (gs := gs) x.2.1 W.e
  have h2 := W.s
  refine ⟨?_, ?_⟩
  · show spotF gs x.2.1 < _
    omega
  · show gs.length + 1 + x.1 < _
    omega
theorem tails_sat {gs : List Gt} {ws : List Wr} (N : NetOk gs ws) {A : List Bnd} {F : Nat → Int} (hA : ∀ bd ∈ A, bd.1 < gs.length + 1 ∧ bd.2.1 < gs.length + 1) (S : Sat A F) : ∃ F', Sat (A ++ tailsF gs ws) F' := by
  refine ⟨fun v => if v < gs.length + 1 then F v else mx0 (ws.map fun x => F (spotF gs x.2.1) + ((x.2.2.length : Nat) : Int)), sat_app.mpr ⟨fun bd hb => ?_, fun bd hb => ?_⟩⟩
  · obtain ⟨h1, h2⟩ := hA bd hb
    show (if bd.1 < _ then _ else _) ≤ (if bd.2.1 < _ then _ else _) + _
    rw [if_pos h1, if_pos h2]
    exact S bd hb
  · obtain ⟨x, hx, rfl⟩ := List.mem_map.mp hb
    have h1 := spot_le (gs := gs) x.2.1 (N.wok x hx).e
    show (if spotF gs x.2.1 < _ then _ else _) ≤ (if gs.length + 1 + x.1 < _ then _ else _) + -((x.2.2.length : Nat) : Int)
    rw [if_pos h1, if_neg (by omega)]
    have := le_mx0 (l := ws.map fun x => F (spotF gs x.2.1) + ((x.2.2.length : Nat) : Int)) (List.mem_map.mpr ⟨x, hx, rfl⟩)
    show F (spotF gs x.2.1) ≤ _
    omega
theorem share_gt {gs : List Gt} {ws fus : List Wr} {A : List Bnd} {f0 f2 : List Int} (hl : A.length = f0.length) (hw : ws.length = f2.length) (h01 : ∀ y ∈ f2, y = 0 ∨ y = 1) (hu : posW ws f2 = fus) (hft : ∀ F, wsum (dF F) A f0 = wdl (fun x => F (spotF gs x)) fus) : ∀ F, wsum (dF F) (A ++ tailsF gs ws) (f0 ++ f2) = (fus.map fun x => F (spotF gs x.1) - F (gs.length + 1 + x.1)).sum := fun F => by
  rw [wsum_app _ (by rw [List.length_append]; omega), List.take_append_of_le_length (by omega), List.take_of_length_le (by omega), List.drop_left' hl.symm, hft, tails01 _ hw h01, hu]
  unfold wdl
  have gen : ∀ r : List Wr, (r.map fun x => F (spotF gs x.1) - F (spotF gs x.2.1)).sum + (r.map fun x => dF F (tailB gs x)).sum = (r.map fun x => F (spotF gs x.1) - F (gs.length + 1 + x.1)).sum := by
    intro r
    induction r with
    | nil => rfl
    | cons x r ih =>
      simp only [List.map_cons, List.sum_cons]
      have e : dF F (tailB gs x) = F (spotF gs x.2.1) - F (gs.length + 1 + x.1) := rfl
      rw [e]
      omega
  exact gen fus
theorem share_room {gs : List Gt} {ws : List Wr} {b R : Int} {bps : List (Bnd × Pce)} {g : List Int} {ks : List Kpt} (h : BdsOk gs ws b (bps.map fun bp => bp.2) (bps.map fun bp => bp.1)) (hpce : ∀ bp ∈ bps, PceOk gs ws bp.2 ∧ bp.2.2.length ≤ 1000) (hR : 1 ≤ R) (hb : ∀ s e c, s < gs.length → best gs ws s e = some c → c.1 ≤ R) (hw : ∀ x ∈ ws, ((x.2.2.length : Nat) : Int) ≤ R) (k : Kept ((bps.map fun bp => bp.1) ++ tailsF gs ws) g ks) : ∀ b ∈ ks.map (fun e => e.1), -R ≤ b.2.2 := fun bd hm => by
  obtain ⟨e, he, rfl⟩ := List.mem_map.mp hm
  obtain ⟨b0, h1, h2⟩ := k.ok e he
  have h8 : -R ≤ b0.2.2 ∧ b0.2.2 ≤ R := by
    rcases List.mem_append.mp (List.mem_of_getElem? h1) with hm | hm
    · obtain ⟨bp, hbp, rfl⟩ := List.mem_map.mp hm
      have h3 := h.bp bp hbp
      obtain ⟨e', h4, h5⟩ := h.bst bp.2 (List.mem_map.mpr ⟨bp, hbp, rfl⟩)
      have h6 := hb _ _ _ (hpce bp hbp).1.1 h5
      have h6 : prg ws bp.2.2 ≤ R := h6
      have h7 := prg_nn ws bp.2.2
      rw [h3]
      show -R ≤ roomF gs ws b bp.2 ∧ roomF gs ws b bp.2 ≤ R
      unfold roomF
      split <;> omega
    · obtain ⟨x, hx, rfl⟩ := List.mem_map.mp hm
      have := hw x hx
      show -R ≤ -((x.2.2.length : Nat) : Int) ∧ -((x.2.2.length : Nat) : Int) ≤ R
      omega
  rcases h2 with ⟨_, h9⟩ | ⟨_, h9, _⟩
  · rw [h9]
    omega
  · rw [h9]
    show -R ≤ -b0.2.2
    omega
section
variable {P : Program} {w : World} {K : PySem.W.Frag} {mg : Str → Option Value} {base : Heap}
abbrev nIsPick : List Str := ["net", "thing", "place", "starts", "wire"]
theorem scIsPick : FnScope nIsPick ["net", "thing"] (defScope sIsPick) := ⟨rfl, rfl, rfl, by decide +kernel, rfl, by decide +kernel, by decide +kernel⟩
abbrev DIsPick (P : Program) (w : World) (K : PySem.W.Frag) (mg : Str → Option Value) (base : Heap) (C : Addr) := Df P w K mg base 3 "is_pick" ["net", "thing"] (spIsPick K C)
theorem ok_isPick {f fF C : Addr} {fd fdF : FuncData} (F : Fun K "is_pick" "is_pick" sIsPick f fd) (hm : mg "is_pick" = some (.ref f)) (B : Bt mg) (T : NT K mg C) (mso : mg "sorted" = none) (mse : mg "set" = none) (DFt : DFromTo P w K mg base fF fdF) : DIsPick P w K mg base C f fd := by
  refine ⟨?_, hm, F.kp, F.binds fun _ _ _ _ _ _ us hl => match us, hl with | [_, _], _ => rfl⟩
  refine F.ok scIsPick (fun vs H Q E h => ?_) (fun cdv A outer s H vs Q E hr h => ?_)
  · obtain ⟨p, ng, nw, lq, gs, ws, us, ps, rfl, _⟩ := h
    rfl
  · obtain ⟨p, ng, nw, lq, gs, ws, us, ps, rfl, NA, N, hlq, pu, hps, hpw, q⟩ := h
    have nd := scIsPick.nd
    refine ⟨_, pss_cons (ps_if (pt_not (pt_val (pe_callB call_isi (by rfl) B.isi (by decide +kernel) (pa_cons (pv 1) (pa_cons (pe_bltn (v := .ty "list") (by rfl) B.list (by decide +kernel) rfl) pa_nil))))) (pss_one (ps_ret pe_bl)) pss_nil) <|
        pss_cons (ps_if (pt_not (pt_val (pe_callB (cr_all rfl) (by rfl) B.all (by decide +kernel) (pa_cons (pe_lc (own := [("place", 2)]) (g := (gName 2)) (tt := tYes) (te := (tCall spFromTo [] E0 (tCons (tVar 2) (tCons (tC (.int 0)) (tCons (tOp (rI0 fun i j => .int (i - j)) (tCB (Evl.rLenS K) (tCons (tFld K (tVar 0) "wires") tNil)) (tC (.int 1))) tNil))))) rfl nd (pi_list (pv 1)) (blkOk_by (N := nIsPick) (sc := defScope sIsPick) (own := [("place", 2)]) (by decide +kernel)) (fun _ _ _ _ _ => (pg_name (i := 2) nd rfl (.inl rfl))) (fun _ _ _ _ _ => pts_nil) (fun _ _ _ _ _ => (pe_call DFt.ok (hr.mono (by decide)) (by rfl) DFt.mg DFt.kp DFt.bd .nil pass0 (pa_cons (pv 2) (pa_cons pe_int (pa_cons (pe_op op_sub (pe_callB call_len_seq (by rfl) B.len PySem.boot_len (pa_cons (pe_fld (pv 0) rfl) pa_nil)) pe_int) pa_nil)))))) pa_nil)))) (pss_one (ps_ret pe_bl)) pss_nil) <|
        pss_cons (ps_setLc (i := 3) (own := [("place", 2)]) (g := (gName 2)) (tt := tYes) (te := (tOp (rIxT K) (tOp (rIxL K) (tFld K (tVar 0) "wires") (tVar 2)) (tC (.int 0)))) rfl nd rfl rfl (sw_true rfl rfl rfl (by decide +kernel)) (pi_list (pv 1)) (blkOk_by (N := nIsPick) (sc := defScope sIsPick) (own := [("place", 2)]) (by decide +kernel)) (fun _ _ _ _ _ => (pg_name (i := 2) nd rfl (.inl rfl))) (fun _ _ _ _ _ => pts_nil) (fun _ _ _ _ _ => (pe_ix ix_tup (pe_ix ix_list (pe_fld (pv 0) rfl) (pv 2) (fun _ _ => rfl)) pe_int (fun _ _ => rfl)))) <|
        pss_one (ps_ret (pe_and (pe_cmpR (op_eqD hr.units) (pv 1) (pe_callB cr_sortedI (by rfl) mso (by decide +kernel) (pa_cons (pv 1) pa_nil)) (nomark _)) (pe_one (pe_cmpR (op_eqD hr.units) (pe_callB cr_sortedI (by rfl) mso (by decide +kernel) (pa_cons (pv 3) pa_nil)) (pe_sortSet (by rfl) mso (by rfl) mse (pe_lc (own := [("wire", 4)]) (g := (gName 4)) (tt := tYes) (te := (tOp (rIxT K) (tVar 4) (tC (.int 0)))) rfl nd (pi_list (pe_fld (pv 0) rfl)) (blkOk_by (N := nIsPick) (sc := defScope sIsPick) (own := [("wire", 4)]) (by decide +kernel)) (fun _ _ _ _ _ => (pg_name (i := 4) nd rfl (.inl rfl))) (fun _ _ _ _ _ => pts_nil) (fun _ _ _ _ _ => (pe_ix ix_tup (pv 4) pe_int (fun _ _ => rfl)))) (by decide +kernel)) (nomark _))))), ?_⟩
    obtain ⟨dx, ob⟩ := id NA.ob
    obtain ⟨gv, hgv, ga⟩ := id NA.g
    obtain ⟨wv, hwv, wa⟩ := id NA.w
    have hlg : gv.length = gs.length := ga.1
    have hlw : wv.length = ws.length := wa.1
    have hgl := N.gl
    have hwl := N.wl
    have hpl := all2_len N pu hps
    refine ⟨_, rfl, _, _, _, _, true, rfl, .ty "list", ty_lst hlq, kit_ty (by decide +kernel), true, rfl, iteF ?_⟩
    refine ⟨_, rfl, lq, rfl, ⟨_, hlq⟩, fun D hD => ?_⟩
    refine lc_list (K := K) (a := lq) (xs := nvs ps) (fun i Hc => Hc D = some (.lst ((List.replicate i true).map V.bl)) ∧ Same H Hc) ⟨upd_same, same_new hD⟩ (fun i Hc _ ⟨_, sm⟩ => sm.seq hlq) ?_ ?_
    · rintro i v Hc hv ⟨hc, sm⟩
      obtain ⟨k, hk, rfl⟩ := nvs_of hv
      obtain ⟨x, _, hx⟩ := pu.get hk
      have hkw : k < ws.length := (List.getElem?_eq_some_iff.mp hx).1
      have hi : i < ps.length := (List.getElem?_eq_some_iff.mp hk).1
      refine ⟨rfl, tyes ?_⟩
      refine ⟨_, rfl, _, rfl, p, C, dx, _, _, rfl, sm _ _ ob, T.cl, T.nW, nf_wires _ _, nw, wv, rfl, .inl (SqL.of (sm _ _ hwv)), _, _, rfl, rfl, ((k : Nat) : Int), 0, _, rfl, ?_⟩
      rw [hlw, decide_eq_true (show (0 : Int) ≤ ((k : Nat) : Int) by omega), decide_eq_true (show ((k : Nat) : Int) ≤ ((ws.length : Nat) : Int) - 1 by omega)]
      refine ⟨_, hc, ?_, ?_, same_mut sm hD⟩
      · rw [List.length_map, List.length_replicate]
        exact small1000 (by omega)
      · rw [upd_same, List.replicate_succ', List.map_append]
        rfl
    rintro H1 ⟨h1, s1⟩
    have rall : ∀ n : Nat, (List.replicate n true).all id = true := fun n => by
      rw [List.all_eq_true]
      intro x hx
      exact List.eq_of_mem_replicate hx
    refine ⟨D, List.replicate (nvs ps).length true, rfl, SqL.of h1, ?_⟩
    rw [rall]
    refine ⟨true, rfl, iteF ?_⟩
    refine ⟨_, rfl, lq, rfl, ⟨_, s1.seq hlq⟩, fun D2 hD2 => ?_⟩
    refine lc_list (K := K) (a := lq) (xs := nvs ps) (fun i Hc => Hc D2 = some (.lst (nvs ((us.take i).map fun x => x.1))) ∧ Same H1 Hc) ⟨upd_same, same_new hD2⟩ (fun i Hc _ ⟨_, sm⟩ => sm.seq (s1.seq hlq)) ?_ ?_
    · rintro i v Hc hv ⟨hc, sm⟩
      obtain ⟨k, hk, rfl⟩ := nvs_of hv
      obtain ⟨x, hux, hx⟩ := pu.get hk
      obtain ⟨_, hwvk, a, b, rfl, sq1, sq2⟩ := wa.getR hx
      have hi : i < ps.length := (List.getElem?_eq_some_iff.mp hk).1
      have smm := s1.trans sm
      refine ⟨rfl, tyes ?_⟩
      refine ⟨_, rfl, p, C, dx, _, _, rfl, smm _ _ ob, T.cl, T.nW, nf_wires _ _, _, rfl, nw, wv, k, _, rfl, rfl, SqL.of (smm _ _ hwv), atI_nat hwvk, a, _, 0, _, rfl, rfl, (TK.same smm).seq sq1, atI_nat (j := 0) rfl, _, hc, ?_, ?_, same_mut sm hD2⟩
      · rw [nvs_len, List.length_map, List.length_take]
        exact small1000 (by omega)
      · rw [upd_same, List.take_add_one, hux, List.map_append]
        show _ = some (HO.lst (List.map _ (_ ++ _)))
        rw [List.map_append]
        rfl
    rintro H2 ⟨h2, s2⟩
    rw [nvs_len, pu.1, List.take_length] at h2
    refine gn_norm (σ' := [some (.ref p), some (.ref lq), none, some (.ref D2), none]) rfl ?_
    have s02 := s1.trans s2
    refine ⟨_, rfl, _, rfl, lq, ps.map fun k => ((k : Nat) : Int), rfl, by rw [← nvs_ints]; exact s02.seq hlq, fun ns' l3 hpm hpw' hl3 => ?_⟩
    have hnp := pw_int hps
    have e : ns' = ps.map fun k => ((k : Nat) : Int) := sorted_eq hpm hpw' (hnp.imp fun h => Int.le_of_lt h)
    subst e
    have s3 := same_new (o := .lst ((ps.map fun k => ((k : Nat) : Int)).map V.int)) hl3
    have e3 : (upd H2 l3 (.lst ((ps.map fun k => ((k : Nat) : Int)).map V.int))) l3 = some (.lst ((ps.map fun k => ((k : Nat) : Int)).map V.int)) := upd_same
    generalize upd H2 l3 (.lst ((ps.map fun k => ((k : Nat) : Int)).map V.int)) = H3 at s3 e3
    have s03 := s02.trans s3
    have dp1 : Dp K H3 (.ref lq) (numsD (ps.map fun k => ((k : Nat) : Int))) := dp_nums (by rw [← nvs_ints]; exact s03.seq hlq)
    have dp2 : Dp K H3 (.ref l3) (numsD (ps.map fun k => ((k : Nat) : Int))) := dp_nums (SqL.of e3)
    refine ⟨_, _, dp1, dp2, Sh.ok (sh_nums _) (by decide), Sh.ok (sh_nums _) (by decide), ?_⟩
    rw [numsD_eq, decide_eq_true rfl]
    refine ⟨true, rfl, ?_⟩
    refine ⟨_, rfl, D2, (us.map fun x => x.1).map fun k => ((k : Nat) : Int), rfl, by rw [← nvs_ints]; exact SqL.of (s3 _ _ h2), fun ns2 l4 hpm2 hpw2 hl4 => ?_⟩
    have s4 := same_new (o := .lst (ns2.map V.int)) hl4
    have e4 : (upd H3 l4 (.lst (ns2.map V.int))) l4 = some (.lst (ns2.map V.int)) := upd_same
    generalize upd H3 l4 (.lst (ns2.map V.int)) = H4 at s4 e4
    have s04 := s03.trans s4
    refine ⟨_, rfl, p, C, dx, _, _, rfl, s04 _ _ ob, T.cl, T.nW, nf_wires _ _, nw, rfl, ⟨_, SqL.of (s04 _ _ hwv)⟩, fun D5 hD5 => ?_⟩
    refine lc_list (K := K) (a := nw) (xs := wv) (fun i Hc => Hc D5 = some (.lst (nvs ((ws.take i).map fun x => x.1))) ∧ Same H4 Hc) ⟨upd_same, same_new hD5⟩ (fun i Hc _ ⟨_, sm⟩ => SqL.of (sm _ _ (s04 _ _ hwv))) ?_ ?_
    · rintro i v Hc hv ⟨hc, sm⟩
      obtain ⟨x, hx, a, b, rfl, sq1, sq2⟩ := wa.get hv
      have hi : i < ws.length := (List.getElem?_eq_some_iff.mp hx).1
      refine ⟨rfl, tyes ?_⟩
      refine ⟨_, rfl, a, _, 0, _, rfl, rfl, (TK.same (s04.trans sm)).seq sq1, atI_nat (j := 0) rfl, _, hc, ?_, ?_, same_mut sm hD5⟩
      · rw [nvs_len, List.length_map, List.length_take]
        exact small1000 (by omega)
      · rw [upd_same, List.take_add_one, hx, List.map_append]
        show _ = some (HO.lst (List.map _ (_ ++ _)))
        rw [List.map_append]
        rfl
    rintro H5 ⟨h5, s5⟩
    rw [hlw, List.take_length, nvs_ints] at h5
    refine ⟨D5, _, rfl, SqL.of h5, by rw [List.length_map, List.length_map]; omega, fun W l6 hW hmem hl6 => ?_⟩
    have hWg : W = (givL gs.length ws).map fun k => ((k : Nat) : Int) := by
      have h1 := pw_int (givL_sort gs.length ws)
      refine sorted_eq ((List.perm_ext_iff_of_nodup (hW.imp fun h => Int.ne_of_lt h) (h1.imp fun h => Int.ne_of_lt h)).mpr fun k => ?_) (hW.imp fun h => Int.le_of_lt h) (h1.imp fun h => Int.le_of_lt h)
      rw [hmem, List.mem_map, List.mem_map]
      constructor
      · rintro ⟨s, hs, rfl⟩
        obtain ⟨x, hx, rfl⟩ := List.mem_map.mp hs
        exact ⟨x.1, mem_givL.mpr ⟨(N.wok x hx).s, x, hx, rfl⟩, rfl⟩
      · rintro ⟨s, hs, rfl⟩
        obtain ⟨_, x, hx, rfl⟩ := mem_givL.mp hs
        exact ⟨x.1, List.mem_map.mpr ⟨x, hx, rfl⟩, rfl⟩
    have hn2 : ns2 = W := by
      rw [hWg]
      refine sorted_eq (hpm2.trans ?_) hpw2 ((pw_int (givL_sort gs.length ws)).imp fun h => Int.le_of_lt h)
      exact hpw.2.map _
    subst hn2
    have s6 := same_new (o := .lst (ns2.map V.int)) hl6
    have e6 : (upd H5 l6 (.lst (ns2.map V.int))) l6 = some (.lst (ns2.map V.int)) := upd_same
    generalize upd H5 l6 (.lst (ns2.map V.int)) = H6 at s6 e6
    have dp3 : Dp K H6 (.ref l4) (numsD ns2) := dp_nums (SqL.of (s6 _ _ (s5 _ _ e4)))
    have dp4 : Dp K H6 (.ref l6) (numsD ns2) := dp_nums (SqL.of e6)
    refine ⟨_, _, dp3, dp4, Sh.ok (sh_nums _) (by decide), Sh.ok (sh_nums _) (by decide), ?_⟩
    rw [numsD_eq, decide_eq_true rfl]
    exact q H6 (s04.trans (s5.trans s6))
abbrev nSharedFault : List Str := ["net", "beat", "thing", "pick", "paper"]
theorem scSharedFault : FnScope nSharedFault ["net", "beat", "thing"] (defScope sSharedFault) := ⟨rfl, rfl, rfl, by decide +kernel, rfl, by decide +kernel, by decide +kernel⟩
abbrev DSharedFault (P : Program) (w : World) (K : PySem.W.Frag) (mg : Str → Option Value) (base : Heap) (C : Addr) := Df P w K mg base 6 "shared_fault" ["net", "beat", "thing"] (spSharedFault K C)
theorem ok_sharedFault {f fC fK fP fG C : Addr} {fd fdC fdK fdP fdG : FuncData} (F : Fun K "shared_fault" "shared_fault" sSharedFault f fd) (hm : mg "shared_fault" = some (.ref f)) (B : Bt mg) (DCb : DChkB P w K mg base fC fdC) (DPk : DIsPick P w K mg base C fK fdK) (DPp : DIsPaper P w K mg base C fP fdP) (DGf : DGateFault P w K mg base C fG fdG) : DSharedFault P w K mg base C f fd := by
  refine ⟨?_, hm, F.kp, F.binds fun _ _ _ _ _ _ us hl => match us, hl with | [_, _, _], _ => rfl⟩
  refine F.ok scSharedFault (fun vs H Q E h => ?_) (fun cdv A outer s H vs Q E hr h => ?_)
  · obtain ⟨p, ng, nw, t, lq, lp, gs, ws, us, ps, b, ev, es, rfl, _⟩ := h
    rfl
  · obtain ⟨p, ng, nw, t, lq, lp, gs, ws, us, ps, b, ev, es, rfl, NA, N, hb, sh, q⟩ := h
    have nd := scSharedFault.nd
    refine ⟨_, pss_cons (ps_expr (pe_call DCb.ok (hr.mono (by decide)) (by rfl) DCb.mg DCb.kp DCb.bd .nil pass0 (pa_cons (pv 1) pa_nil))) <|
        pss_cons (ps_if (PW.pt (pw_or (pt_not (pt_val (pe_callB call_isi (by rfl) B.isi (by decide +kernel) (pa_cons (pv 2) (pa_cons (pe_bltn (v := .ty "tuple") (by rfl) B.tuple (by decide +kernel) rfl) pa_nil))))) (pw_or1 (pt_cmpR op_ne (pe_callB call_len_seq (by rfl) B.len PySem.boot_len (pa_cons (pv 2) pa_nil)) pe_int (nomark _))))) (pss_one (ps_ret (pe_tup (pa_cons pe_str pa_nil)))) pss_nil) <|
        pss_cons (ps_asg (pv 2) (pg_tup rfl (pgs_cons (pg_name (i := 3) nd rfl (.inl rfl)) (pgs_cons (pg_name (i := 4) nd rfl (.inl rfl)) pgs_nil)))) <|
        pss_cons (ps_if (PW.pt (pw_or (pt_not (pt_val (pe_call DPk.ok (hr.mono (by decide)) (by rfl) DPk.mg DPk.kp DPk.bd .nil pass0 (pa_cons (pv 0) (pa_cons (pv 3) pa_nil))))) (pw_or1 (pt_not (pt_val (pe_call DPp.ok (hr.mono (by decide)) (by rfl) DPp.mg DPp.kp DPp.bd .nil pass0 (pa_cons (pv 0) (pa_cons (pv 4) pa_nil)))))))) (pss_one (ps_ret (pe_tup (pa_cons pe_str pa_nil)))) pss_nil) <|
        pss_one (ps_ret (pe_call DGf.ok (hr.mono (by decide)) (by rfl) DGf.mg DGf.kp DGf.bd .nil pass0 (pa_cons (pv 0) (pa_cons (pv 4) (pa_cons (pv 3) pa_nil))))), ?_⟩
    refine ⟨_, rfl, b, rfl, hb, ?_⟩
    refine ⟨_, rfl, _, _, _, _, true, rfl, .ty "tuple", ty_tup sh.t, kit_ty (by decide +kernel), true, rfl, iteF ?_⟩
    refine ⟨_, rfl, t, _, rfl, .inr sh.t, rfl, false, rfl, iteF ?_⟩
    refine ⟨_, rfl, t, _, rfl, sh.t, rfl, _, _, rfl, _, _, rfl, rfl, ?_⟩
    refine ⟨_, rfl, _, rfl, p, ng, nw, lq, gs, ws, us, ps, rfl, NA, N, sh.q, sh.g, sh.s, sh.w, fun H1 s1 => ⟨true, rfl, iteF ?_⟩⟩
    have sh1 := sh.same s1
    refine ⟨_, rfl, _, rfl, p, ng, nw, lp, gs, ws, ev, es, rfl, NA.same s1, N, sh1.p, sh1.a, sh.o, sh.l, fun H2 s2 => ⟨true, rfl, iteF ?_⟩⟩
    have s12 := s1.trans s2
    have sh2 := sh.same s12
    exact ⟨_, rfl, _, rfl, _, rfl, p, ng, nw, lp, lq, ps, gs, ws, us, ev, es, rfl, NA.same s12, N, sh2.p, sh2.a, sh.o, sh.b, sh.g, sh2.q, fun H3 s3 => q H3 (s12.trans s3)⟩
abbrev nSharedBound : List Str := ["net", "thing", "beat", "pick", "paper", "place"]
theorem scSharedBound : FnScope nSharedBound ["net", "thing", "beat"] (defScope sSharedBound) := ⟨rfl, rfl, rfl, by decide +kernel, rfl, by decide +kernel, by decide +kernel⟩
abbrev DSharedBound (P : Program) (w : World) (K : PySem.W.Frag) (mg : Str → Option Value) (base : Heap) (C : Addr) := Df P w K mg base 7 "shared_bound" ["net", "thing", "beat"] (spSharedBound K C)
theorem ok_sharedBound {f fS fR C : Addr} {fd fdS fdR : FuncData} (F : Fun K "shared_bound" "shared_bound" sSharedBound f fd) (hm : mg "shared_bound" = some (.ref f)) (B : Bt mg) (T : NT K mg C) (ms : mg "sum" = none) (DSf : DSharedFault P w K mg base C fS fdS) (DRi : DRoomIn P w K mg base C fR fdR) : DSharedBound P w K mg base C f fd := by
  refine ⟨?_, hm, F.kp, F.binds fun _ _ _ _ _ _ us hl => match us, hl with | [_, _, _], _ => rfl⟩
  refine F.ok scSharedBound (fun vs H Q E h => ?_) (fun cdv A outer s H vs Q E hr h => ?_)
  · obtain ⟨p, ng, nw, t, lq, lp, gs, ws, us, ps, b, ev, es, rfl, _⟩ := h
    rfl
  · obtain ⟨p, ng, nw, t, lq, lp, gs, ws, us, ps, b, ev, es, rfl, NA, N, hb, sh, q⟩ := h
    have nd := scSharedBound.nd
    refine ⟨_, pss_cons (ps_if (pt_cmpR op_notN (pe_call DSf.ok (hr.mono (by decide)) (by rfl) DSf.mg DSf.kp DSf.bd .nil pass0 (pa_cons (pv 0) (pa_cons (pv 2) (pa_cons (pv 1) pa_nil)))) pe_non (nomark _)) (pss_one (ps_never)) pss_nil) <|
        pss_cons (ps_asg (pv 1) (pg_tup rfl (pgs_cons (pg_name (i := 3) nd rfl (.inl rfl)) (pgs_cons (pg_name (i := 4) nd rfl (.inl rfl)) pgs_nil)))) <|
        pss_one (ps_ret (pe_op op_sub (pe_callB (cr_sum rfl) (by rfl) ms (by decide +kernel) (pa_cons (pe_lc (own := [("place", 5)]) (g := (gName 5)) (tt := tYes) (te := (tCB (Evl.rLenS K) (tCons (tOp (rIxT K) (tOp (rIxL K) (tFld K (tVar 0) "wires") (tVar 5)) (tC (.int 2))) tNil))) rfl nd (pi_list (pv 3)) (blkOk_by (N := nSharedBound) (sc := defScope sSharedBound) (own := [("place", 5)]) (by decide +kernel)) (fun _ _ _ _ _ => (pg_name (i := 5) nd rfl (.inl rfl))) (fun _ _ _ _ _ => pts_nil) (fun _ _ _ _ _ => (pe_callB call_len_seq (by rfl) B.len PySem.boot_len (pa_cons (pe_ix ix_tup (pe_ix ix_list (pe_fld (pv 0) rfl) (pv 5) (fun _ _ => rfl)) pe_int (fun _ _ => rfl)) pa_nil)))) pa_nil)) (pe_call DRi.ok (hr.mono (by decide)) (by rfl) DRi.mg DRi.kp DRi.bd .nil pass0 (pa_cons (pv 0) (pa_cons (pv 2) (pa_cons (pv 4) pa_nil)))))), ?_⟩
    obtain ⟨dx, ob⟩ := id NA.ob
    obtain ⟨gv, hgv, ga⟩ := id NA.g
    obtain ⟨wv, hwv, wa⟩ := id NA.w
    have hlg : gv.length = gs.length := ga.1
    have hlw : wv.length = ws.length := wa.1
    have hgl := N.gl
    have hwl := N.wl
    have hpl := all2_len N sh.g sh.s
    refine ⟨_, rfl, _, rfl, _, rfl, p, ng, nw, t, lq, lp, gs, ws, us, ps, b, ev, es, rfl, NA, N, hb, sh, fun H1 s1 => ⟨rfl, _, rfl, iteF ?_⟩⟩
    have sh1 := sh.same s1
    refine ⟨_, rfl, t, _, rfl, sh1.t, rfl, _, _, rfl, _, _, rfl, rfl, ?_⟩
    refine ⟨_, rfl, lq, rfl, ⟨_, sh1.q⟩, fun D hD => ?_⟩
    refine lc_list (K := K) (a := lq) (xs := nvs ps) (fun i Hc => Hc D = some (.lst (((us.take i).map fun x => ((x.2.2.length : Nat) : Int)).map V.int)) ∧ Same H1 Hc) ⟨upd_same, same_new hD⟩ (fun i Hc _ ⟨_, sm⟩ => sm.seq sh1.q) ?_ ?_
    · rintro i v Hc hv ⟨hc, sm⟩
      obtain ⟨k, hk, rfl⟩ := nvs_of hv
      obtain ⟨x, hux, hx⟩ := sh.g.get hk
      obtain ⟨_, hwvk, a, b2, rfl, sq1, sq2⟩ := wa.getR hx
      have hi : i < ps.length := (List.getElem?_eq_some_iff.mp hk).1
      have smm := s1.trans sm
      refine ⟨rfl, tyes ?_⟩
      refine ⟨_, rfl, p, C, dx, _, _, rfl, smm _ _ ob, T.cl, T.nW, nf_wires _ _, _, rfl, nw, wv, k, _, rfl, rfl, SqL.of (smm _ _ hwv), atI_nat hwvk, a, _, 2, _, rfl, rfl, (TK.same smm).seq sq1, atI_nat (j := 2) rfl, b2, _, rfl, .inr ((TK.same smm).seq sq2), _, hc, ?_, ?_, same_mut sm hD⟩
      · rw [List.length_map, List.length_map, List.length_take]
        exact small1000 (by omega)
      · rw [upd_same, List.take_add_one, hux, List.map_append, List.map_append, List.length_map]
        rfl
    rintro H2 ⟨h2, s2⟩
    rw [nvs_len, sh.g.1, List.take_length] at h2
    refine ⟨D, _, rfl, SqL.of h2, ?_⟩
    have s12 := s1.trans s2
    have sh2 := sh.same s12
    exact ⟨_, rfl, _, rfl, _, rfl, p, ng, nw, lp, gs, ws, b, ev, es, rfl, NA.same s12, N, sh2.p, sh2.a, sh.o, sh.l, fun H3 s3 => ⟨_, _, rfl, rfl, q H3 (s12.trans s3)⟩⟩
abbrev nFewestShared : List Str := ["net", "beat", "bounds", "first", "place", "flow", "many", "kept", "number", "pick", "thing"]
theorem scFewestShared : FnScope nFewestShared ["net", "beat"] (defScope sFewestShared) := ⟨rfl, rfl, rfl, by decide +kernel, rfl, by decide +kernel, by decide +kernel⟩
abbrev DFewestShared (P : Program) (w : World) (K : PySem.W.Frag) (mg : Str → Option Value) (base : Heap) (C : Addr) := Df P w K mg base 8 "fewest_shared" ["net", "beat"] (spFewestShared K C)
theorem ok_fewestShared {f fL fF fS fP fO fB fN fI fT C : Addr} {fd fdL fdF fdS fdP fdO fdB fdN fdI fdT : FuncData} (F : Fun K "fewest_shared" "fewest_shared" sFewestShared f fd) (hm : mg "fewest_shared" = some (.ref f)) (B : Bt mg) (T : NT K mg C) (DLb : DLetBounds P w K mg base C fL fdL) (DLf : DLeastFlow P w K mg base fF fdF) (DSi : DSpotsIn P w K mg base C fS fdS) (DPl : DPlainFlow P w K mg base C fP fdP) (DPo : DPaperOf P w K mg base fO fdO) (DSb : DSharedBound P w K mg base C fB fdB) (DNl : DNearLags P w K mg base C fN fdN) (DFi : DFirstWires P w K mg base C fI fdI) (DTb : DTailBounds P w K mg base C fT fdT) : DFewestShared P w K mg base C f fd := by
  refine ⟨?_, hm, F.kp, F.binds fun _ _ _ _ _ _ us hl => match us, hl with | [_, _], _ => rfl⟩
  refine F.ok scFewestShared (fun vs H Q E h => ?_) (fun cdv A outer s H vs Q E hr h => ?_)
  · obtain ⟨p, ng, nw, gs, ws, b, rfl, _⟩ := h
    rfl
  · obtain ⟨p, ng, nw, gs, ws, b, rfl, NA, N, hb, fe, q⟩ := h
    have nd := scFewestShared.nd
    refine ⟨_, pss_cons (ps_set (i := 2) nd rfl (.inl rfl) (pe_call DLb.ok (hr.mono (by decide)) (by rfl) DLb.mg DLb.kp DLb.bd .nil pass0 (pa_cons (pv 0) (pa_cons (pv 1) pa_nil)))) <|
        pss_cons (ps_set (i := 3) nd rfl (.inr rfl) (pe_call DFi.ok (hr.mono (by decide)) (by rfl) DFi.mg DFi.kp DFi.bd .nil pass0 (pa_cons (pv 0) pa_nil))) <|
        pss_cons (ps_set (i := 5) nd rfl (.inl rfl) (pe_op op_cat (pe_call DPl.ok (hr.mono (by decide)) (by rfl) DPl.mg DPl.kp DPl.bd .nil pass0 (pa_cons (pv 0) (pa_cons (pv 2) (pa_cons (pv 3) pa_nil)))) (pe_lc (own := [("place", 4)]) (g := (gName 4)) (tt := tYes) (te := (tIf (tTest (tOp (rIn K false) (tVar 4) (tVar 3))) (tC (.int 1)) (tC (.int 0)))) rfl nd (pi_range1 (by rfl) B.range (pa_cons (pe_callB call_len_seq (by rfl) B.len PySem.boot_len (pa_cons (pe_fld (pv 0) rfl) pa_nil)) pa_nil)) (blkOk_by (N := nFewestShared) (sc := defScope sFewestShared) (own := [("place", 4)]) (by decide +kernel)) (fun _ _ _ _ _ => (pg_name (i := 4) nd rfl (.inl rfl))) (fun _ _ _ _ _ => pts_nil) (fun _ _ _ _ _ => (pe_ifExp (pt_cmpR op_in_seq (pv 4) (pv 3) (by rfl)) pe_int pe_int))))) <|
        pss_cons (ps_set (i := 6) nd rfl (.inl rfl) (pe_op op_add (pe_call DSi.ok (hr.mono (by decide)) (by rfl) DSi.mg DSi.kp DSi.bd .nil pass0 (pa_cons (pv 0) pa_nil)) (pe_callB call_len_seq (by rfl) B.len PySem.boot_len (pa_cons (pe_fld (pv 0) rfl) pa_nil)))) <|
        pss_cons (ps_asg (pe_call DLf.ok (hr.mono (by decide)) (by rfl) DLf.mg DLf.kp DLf.bd .nil pass0 (pa_cons (pv 6) (pa_cons (pe_op op_cat (pv 2) (pe_call DTb.ok (hr.mono (by decide)) (by rfl) DTb.mg DTb.kp DTb.bd .nil pass0 (pa_cons (pv 0) pa_nil))) (pa_cons (pv 5) pa_nil)))) (pg_tup rfl (pgs_cons (pg_name (i := 5) nd rfl (.inl rfl)) (pgs_cons (pg_name (i := 7) nd rfl (.inl rfl)) pgs_nil)))) <|
        pss_cons (ps_setLc (i := 9) (own := [("place", 4), ("number", 8)]) (g := (gTup K 2 (gCons (gName 4) (gCons (gName 8) gNil)))) (tt := (tTest (tOp (rI0 fun i j => .bl (decide (j < i))) (tVar 8) (tC (.int 0))))) (te := (tVar 4)) rfl nd rfl rfl (sw_true rfl rfl rfl (by decide +kernel)) (pi_enum (by rfl) B.enum (pa_cons (pe_slice sl_list (pv 5) (po_some (pe_callB call_len_seq (by rfl) B.len PySem.boot_len (pa_cons (pv 2) pa_nil))) po_none) pa_nil)) (blkOk_by (N := nFewestShared) (sc := defScope sFewestShared) (own := [("place", 4), ("number", 8)]) (by decide +kernel)) (fun _ _ _ _ _ => (pg_tup rfl (pgs_cons (pg_name (i := 4) nd rfl (.inl rfl)) (pgs_cons (pg_name (i := 8) nd rfl (.inl rfl)) pgs_nil)))) (fun _ _ _ _ _ => pts_one (pt_cmpR op_gt (pv 8) pe_int (nomark _))) (fun _ _ _ _ _ => (pv 4))) <|
        pss_cons (ps_set (i := 10) nd rfl (.inl rfl) (pe_tup (pa_cons (pv 9) (pa_cons (pe_call DPo.ok (hr.mono (by decide)) (by rfl) DPo.mg DPo.kp DPo.bd .nil pass0 (pa_cons (pv 2) (pa_cons (pe_slice sl_list (pv 5) po_none (po_some (pe_callB call_len_seq (by rfl) B.len PySem.boot_len (pa_cons (pv 2) pa_nil)))) pa_nil))) pa_nil)))) <|
        pss_one (ps_ret (pe_tup (pa_cons (pe_call DSb.ok (hr.mono (by decide)) (by rfl) DSb.mg DSb.kp DSb.bd .nil pass0 (pa_cons (pv 0) (pa_cons (pv 10) (pa_cons (pv 1) pa_nil)))) (pa_cons (pe_call DNl.ok (hr.mono (by decide)) (by rfl) DNl.mg DNl.kp DNl.bd .nil pass0 (pa_cons (pv 0) (pa_cons (pv 6) (pa_cons (pv 7) pa_nil)))) (pa_cons (pv 10) pa_nil))))), ?_⟩
    obtain ⟨dx, ob⟩ := id NA.ob
    obtain ⟨gv, hgv, ga⟩ := id NA.g
    obtain ⟨wv, hwv, wa⟩ := id NA.w
    have hlg : gv.length = gs.length := ga.1
    have hlw : wv.length = ws.length := wa.1
    have hgl := N.gl
    have hwl := N.wl
    refine ⟨_, rfl, _, rfl, p, ng, nw, gs, ws, b, rfl, NA, N, hb, fe, fun lb bv bps H1 s1 hlb0 hlb al bok hbl hpce => ?_⟩
    refine gn_norm (σ' := [some (.ref p), some (.int b), some (.ref lb), none, none, none, none, none, none, none, none]) rfl ?_
    refine ⟨_, rfl, p, ng, nw, gs, ws, rfl, NA.same s1, N, fun lq H2 s2 hlq elq => ?_⟩
    refine gn_norm (σ' := [some (.ref p), some (.int b), some (.ref lb), some (.ref lq), none, none, none, none, none, none, none]) rfl ?_
    have s02 := s1.trans s2
    have al2 := al.imp fun _ _ r => BpV.same s2 r
    have hfl := firstI_len ws ws.length
    refine ⟨_, rfl, _, rfl, _, rfl, p, ng, nw, lb, lq, firstL ws, gs, ws, posW ws (indI ws ws.length), b, bv, bps, rfl, NA.same s02, N, s2 _ _ hlb, ⟨_, al2⟩, bok, by omega, hpce, first_all2 ws, SqL.of elq, fun l0 f0 H3 s3 hl0 el0 hf0l hf00 hft hfx => ?_⟩
    have s03 := s02.trans s3
    refine ⟨_, rfl, p, C, dx, _, _, rfl, s03 _ _ ob, T.cl, T.nW, nf_wires _ _, nw, wv, rfl, .inl (SqL.of (s03 _ _ hwv)), _, rfl, by omega, by omega, fun D hD => ?_⟩
    rw [Int.toNat_natCast, hlw]
    refine lc_range (lo := 0) (n := ws.length) (fun i Hc => Hc D = some (.lst ((indI ws i).map V.int)) ∧ Same H3 Hc) ⟨upd_same, same_new hD⟩ ?_ ?_
    · rintro i Hc hi ⟨hc, sm⟩
      have ei : (0 : Int) + ((i : Nat) : Int) = ((i : Nat) : Int) := Int.zero_add _
      rw [ei]
      refine ⟨rfl, tyes ?_⟩
      refine ⟨_, rfl, _, rfl, lq, _, rfl, .inl (SqL.of ((s3.trans sm) _ _ elq)), rfl, nvs_flat _, _, rfl, ?_⟩
      rw [nvs_in]
      have fin : ∀ z : Int, z = (if i ∈ firstL ws then (1 : Int) else 0) → ∃ acc, Hc D = some (.lst acc) ∧ acc.length < sizeLine ∧ (upd Hc D (.lst (acc ++ [V.int z]))) D = some (.lst ((indI ws (i + 1)).map V.int)) ∧ Same H3 (upd Hc D (.lst (acc ++ [V.int z]))) := fun z e => by
        refine ⟨_, hc, ?_, ?_, same_mut sm hD⟩
        · rw [List.length_map, indI_len]
          exact small1000 (by omega)
        · rw [upd_same, indI_succ, List.map_append, e]
          rfl
      by_cases h : i ∈ firstL ws
      · rw [decide_eq_true h]
        exact iteT (fin 1 (by rw [if_pos h]))
      · rw [decide_eq_false h]
        exact iteF (fin 0 (by rw [if_neg h]))
    rintro H4 ⟨h4, s4⟩
    refine ⟨l0, D, _, _, rfl, rfl, s4 _ _ el0, h4, ?_, fun l6 hl6 => ?_⟩
    · rw [List.length_map, List.length_map, indI_len]
      exact Nat.le_of_lt (small11k (by omega))
    have s6 := same_new (o := .lst (f0.map V.int ++ (indI ws ws.length).map V.int)) hl6
    have e6 : (upd H4 l6 (.lst (f0.map V.int ++ (indI ws ws.length).map V.int))) l6 = some (.lst ((f0 ++ indI ws ws.length).map V.int)) := by rw [upd_same, List.map_append]
    generalize upd H4 l6 (.lst (f0.map V.int ++ (indI ws ws.length).map V.int)) = H6 at s6 e6
    refine gn_norm (σ' := [some (.ref p), some (.int b), some (.ref lb), some (.ref lq), none, some (.ref l6), none, none, none, none, none]) rfl ?_
    have s36 := s4.trans s6
    have s06 := s03.trans s36
    -- how many places
    refine ⟨_, rfl, p, ng, nw, gs, ws, rfl, NA.same s06, ?_⟩
    refine ⟨_, rfl, p, C, dx, _, _, rfl, s06 _ _ ob, T.cl, T.nG, nf_gates _ _, ng, gv, rfl, .inl (SqL.of (s06 _ _ hgv)), _, _, rfl, rfl, ?_⟩
    obtain ⟨n, hn⟩ : ∃ n, n = gs.length + 1 + gs.length := ⟨_, rfl⟩
    refine gn_norm (σ' := [some (.ref p), some (.int b), some (.ref lb), some (.ref lq), none, some (.ref l6), some (.int ((n : Nat) : Int)), none, none, none, none]) (by rw [hn, hlg, show ((gs.length + 1 + gs.length : Nat) : Int) = ((gs.length + 1 : Nat) : Int) + ((gs.length : Nat) : Int) by omega]; rfl) ?_
    -- the least flow
    refine ⟨_, rfl, _, rfl, _, rfl, p, ng, nw, gs, ws, rfl, NA.same s06, N, fun lt tv H7 s7 hlt elt at7 => ?_⟩
    have s27 := (s3.trans s36).trans s7
    have s07 := s06.trans s7
    have htl : tv.length = ws.length := by rw [at7.1]; exact List.length_map ..
    have hbv : bv.length = bps.length := al.1
    refine ⟨lb, lt, _, _, rfl, rfl, s27 _ _ (s2 _ _ hlb), elt, ?_, fun l8 hl8 => ?_⟩
    · exact Nat.le_of_lt (small11k (by omega))
    have s8 := same_new (o := .lst (bv ++ tv)) hl8
    have e8 : (upd H7 l8 (.lst (bv ++ tv))) l8 = some (.lst (bv ++ tv)) := upd_same
    generalize upd H7 l8 (.lst (bv ++ tv)) = H8 at s8 e8
    have s28 := s27.trans s8
    have s08 := s07.trans s8
    have al8 := al2.imp fun _ _ r => BpV.same s28 r
    obtain ⟨L0, hL0⟩ := id fe
    obtain ⟨F0, S0⟩ := tails_sat N (bok.below N) (bok.satL N hL0)
    have tl0 : (tailsF gs ws).length = ws.length := List.length_map ..
    have hpos := List.length_pos_iff.mpr N.ne
    refine ⟨_, rfl, n, l8, l6, bv ++ tv, (bps.map fun bp => bp.1) ++ tailsF gs ws, f0 ++ indI ws ws.length, rfl, by omega, by omega, e8, all2_app' (bpv_bnd al8) (at7.imp fun _ _ r => BndV.tk (TK.same s8) r), fun bd hb => ?_, by rw [List.length_append, List.length_map, tl0]; omega, SqL.of ((s7.trans s8) _ _ e6), by rw [List.length_append, List.length_append, List.length_map, tl0, indI_len, hf0l], fun y hy => ?_, ⟨F0, S0⟩, fun t lg lk kv ks g F H9 s9 et eg ek hlk ka kp hkl hgl' hg0 hgt fS sat hle hlow => ?_⟩
    · rcases List.mem_append.mp hb with h | h
      · have := bok.below N bd h
        omega
      · rw [hn]
        exact tails_below N bd h
    · rcases List.mem_append.mp hy with h | h
      · exact hf00 y h
      · rcases indI_01 ws _ y h with e | e <;> omega
    refine ⟨t, _, rfl, .inl (.inl et), rfl, _, _, rfl, _, _, rfl, rfl, ?_⟩
    refine gn_norm (σ' := [some (.ref p), some (.int b), some (.ref lb), some (.ref lq), none, some (.ref lg), some (.int ((n : Nat) : Int)), some (.ref lk), none, none, none]) rfl ?_
    have s09 := s08.trans s9
    have s29 := s28.trans s9
    rw [List.length_append, List.length_map, tl0] at hgl'
    have hgt2 : ∀ F, wsum (dF F) ((bps.map fun bp => bp.1) ++ tailsF gs ws) g = ((posW ws (indI ws ws.length)).map fun x => F (spotF gs x.1) - F (gs.length + 1 + x.1)).sum := fun F => (hgt F).trans (share_gt (by rw [List.length_map, hf0l]) (indI_len ws _).symm (indI_01 ws _) rfl hft F)
    have hlb9 := s29 _ _ (s2 _ _ hlb)
    -- the pick
    refine ⟨_, rfl, _, rfl, lb, _, rfl, .inl (SqL.of hlb9), _, rfl, lg, _, rfl, SqL.of eg, fun l10 hl10 => ?_⟩
    rw [hbv, hcut_from]
    have s10 := same_new (o := .lst ((g.map V.int).drop bps.length)) hl10
    have e10 : (upd H9 l10 (.lst ((g.map V.int).drop bps.length))) l10 = some (.lst ((g.drop bps.length).map V.int)) := by rw [upd_same, List.map_drop]
    generalize upd H9 l10 (.lst ((g.map V.int).drop bps.length)) = H10 at s10 e10
    have g2l : (g.drop bps.length).length = ws.length := by rw [List.length_drop]; omega
    refine ⟨l10, _, rfl, SqL.of e10, fun D1 hD1 => ?_⟩
    refine lc_it (walk_enum (K := K) (a := l10) (xs := (g.drop bps.length).map V.int)) (fun i Hc => Hc D1 = some (.lst (nvs (pickI (g.drop bps.length) i))) ∧ Same H10 Hc) ⟨upd_same, same_new hD1⟩ (fun i Hc _ ⟨_, sm⟩ => SqL.of (sm _ _ e10)) ?_ ?_
    · rintro i v Hc Hc' hi ⟨hc, sm⟩ ⟨T', x1, y, rfl, hT, rfl, ex, ey⟩
      cases ex
      obtain ⟨z, hz, rfl⟩ := int_atF ey
      have hil : i < ws.length := by rw [← g2l]; exact (List.getElem?_eq_some_iff.mp hz).1
      have sT := same_new (o := .tup [.int (i : Nat), .int z]) hT
      have eT : (upd Hc T' (.tup [.int (i : Nat), .int z])) T' = some (.tup [.int (i : Nat), .int z]) := upd_same
      have smT := sm.trans sT
      have hcT := sT _ _ hc
      generalize upd Hc T' (.tup [.int (i : Nat), .int z]) = Hd at sT eT smT hcT
      refine ⟨T', _, rfl, .inl (.inl eT), rfl, _, _, rfl, _, _, rfl, rfl, ?_⟩
      refine ⟨by
        show wipe ([some (V.ref p), some (V.int b), some (V.ref lb), some (V.ref lq), some _, some (V.ref lg), some _, some (V.ref lk), some _, none, none] : L2.St) [4, 8] = _
        rfl, ?_⟩
      have hgz : (g.drop bps.length).getD i 0 = z := by rw [List.getD_eq_getElem?_getD, hz]; rfl
      refine ⟨_, rfl, _, _, rfl, rfl, _, rfl, ?_⟩
      rw [pickI_succ, hgz]
      by_cases h : 0 < z
      · rw [decide_eq_true h, if_pos h]
        refine iteT ⟨_, rfl, _, hcT, ?_, ?_, same_mut smT hD1⟩
        · rw [nvs_len]
          have := pickI_len (g.drop bps.length) i
          exact small1000 (by omega)
        · rw [upd_same]
          show _ = some (HO.lst (List.map _ (_ ++ _)))
          rw [List.map_append]
          rfl
      · rw [decide_eq_false h, if_neg h, List.append_nil]
        exact iteF ⟨hcT, smT⟩
    rintro H11 ⟨h11, s11⟩
    rw [List.length_map, show pickI (g.drop bps.length) (g.drop bps.length).length = pickL (g.drop bps.length) from rfl] at h11
    refine gn_norm (σ' := [some (.ref p), some (.int b), some (.ref lb), some (.ref lq), none, some (.ref lg), some (.int ((n : Nat) : Int)), some (.ref lk), none, some (.ref D1), none]) rfl ?_
    have s911 := s10.trans s11
    have s011 := s09.trans s911
    have s211 := s29.trans s911
    -- the paper
    refine ⟨_, rfl, _, rfl, _, rfl, _, rfl, lb, _, rfl, .inl (SqL.of (s911 _ _ hlb9)), _, rfl, lg, _, rfl, SqL.of (s911 _ _ eg), fun l12 hl12 => ?_⟩
    rw [hbv, hcut_to]
    have s12 := same_new (o := .lst ((g.map V.int).take bps.length)) hl12
    have e12 : (upd H11 l12 (.lst ((g.map V.int).take bps.length))) l12 = some (.lst ((g.take bps.length).map V.int)) := by rw [upd_same, List.map_take]
    generalize upd H11 l12 (.lst ((g.map V.int).take bps.length)) = H12 at s12 e12
    have s212 := s211.trans s12
    have al12 := al2.imp fun _ _ r => BpV.same s212 r
    refine ⟨lb, l12, lb, bv, bps, g.take bps.length, _, rfl, s212 _ _ (s2 _ _ hlb), al12, SqL.of e12, by rw [List.length_take]; omega, by omega, fun lp ev H13 s13 hlp elp ea => ?_⟩
    refine ⟨(by show 2 ≤ sizeLine; decide), fun th hth => ?_⟩
    have s14 := same_new (o := .tup [.ref D1, .ref lp]) hth
    have e14 : (upd H13 th (.tup [.ref D1, .ref lp])) th = some (.tup [.ref D1, .ref lp]) := upd_same
    obtain ⟨H14, hH14⟩ : ∃ H14, H14 = upd H13 th (.tup [.ref D1, .ref lp]) := ⟨_, rfl⟩
    rw [← hH14] at s14 e14
    refine gn_normH (σ' := [some (.ref p), some (.int b), some (.ref lb), some (.ref lq), none, some (.ref lg), some (.int ((n : Nat) : Int)), some (.ref lk), none, some (.ref D1), some (.ref th)]) (H' := H14) rfl hH14.symm ?_
    have s1114 := s12.trans (s13.trans s14)
    have s014 := s011.trans s1114
    have h1n : ∀ x ∈ g.take bps.length, 0 ≤ x := fun x hx => hg0 x (List.mem_of_mem_take hx)
    have eok : ∀ e ∈ papF bps (g.take bps.length), EntOk gs ws e := fun e he => by
      obtain ⟨⟨bp, h1, h2⟩, h3⟩ := papF_mem he
      obtain ⟨k1, k2⟩ := hpce bp h1
      exact ⟨by rw [h2]; exact k1, by rw [h2]; exact k2, h3⟩
    have pl := papF_len (bps := bps) (f := g.take bps.length)
    have ea14 := ea.imp fun _ _ r => EntZ.same s14 r
    have main0 : ∀ {G : Nat → Int}, Sat (ks.map fun e => e.1) G → _ := fun {G} S => share_main N bok hgl' hg0 (first_pick N) hgt2 kp S eok
    obtain ⟨PW, BAL, _, _, _⟩ := main0 sat
    have shA : ShAt K H14 th D1 lp gs ws (posW ws (g.drop bps.length)) (pickL (g.drop bps.length)) ev (papF bps (g.take bps.length)) :=
      ⟨.inl (.inl e14), SqL.of (s1114 _ _ h11), pick_all2 g2l.symm, pickL_sort _, PW, SqL.of (s14 _ _ elp), ea14.imp fun _ _ r => r.ent, eok, by omega, BAL⟩
    refine ⟨_, rfl, _, rfl, _, rfl, p, ng, nw, th, D1, lp, gs, ws, _, _, b, ev, _, rfl, NA.same s014, N, hb, shA, fun H15 s15 => ?_⟩
    have s015 := s014.trans s15
    have ek15 := (s911.trans (s1114.trans s15)) _ _ ek
    have ka15 := (kpt_bnd ka).imp fun _ _ r => BndV.tk (TK.same (s911.trans (s1114.trans s15))) r
    refine ⟨_, rfl, _, rfl, _, rfl, p, ng, nw, lk, n, gs, ws, kv, ks.map fun e => e.1, fun v => F.getD v 0, rfl, by omega, by omega, NA.same s015, N, ek15, ka15, kp.below (fun bd hb => ?_), by rw [List.length_map]; exact hkl, sat, fun ll G H16 s16 hll ell satG nrx hlim => ?_⟩
    · rcases List.mem_append.mp hb with h | h
      · have := bok.below N bd h
        omega
      · rw [hn]
        exact tails_below N bd h
    refine ⟨_, rfl, (by show 3 ≤ sizeLine; decide), fun tt htt => ?_⟩
    obtain ⟨_, _, FE, _, val⟩ := main0 satG
    have st := same_new (o := .tup [.int (regsum (posW ws (g.drop bps.length)) - psum (roomF gs ws b) (papF bps (g.take bps.length))), .ref ll, .ref th]) htt
    have s1416 := s15.trans (s16.trans st)
    refine q tt ll th D1 lp _ (lagsAt gs G) _ _ ev _ _ (s014.trans s1416) upd_same ((s015).free hll) (st _ _ ell) (s09.free (s10.free hD1)) ((s1114.trans s1416) _ _ h11) ((s011.trans s12).free hlp) ((s14.trans s1416) _ _ elp) (ea14.imp fun _ _ r => EntZ.same s1416 r) (shA.same s1416) FE val rfl (fun R hR hnR hwR hbst g' hg' => hlim (fun v hv => ?_) g' hg') ⟨bps, g, G, bok, hn ▸ hfx ▸ fS, ⟨_, kp.ex ▸ sat⟩, rfl, rfl, hn ▸ kp.ex ▸ nrx, rfl⟩
    have hr := hlow R (by omega) (share_room bok hpce hR hbst hwR kp)
    have h1 := hr v (by omega)
    have h2 := hr gs.length (by omega)
    have h3 := hle v
    have h4 := hle gs.length
    have h5 : ((n : Nat) : Int) * R ≤ 500 := by
      rw [hn, show ((gs.length + 1 + gs.length : Nat) : Int) = 2 * (gs.length : Int) + 1 by omega]
      exact hnR
    show F.getD v 0 - F.getD gs.length 0 ≤ 500 ∧ -500 ≤ F.getD v 0 - F.getD gs.length 0
    omega
end
end Lag

set_option maxRecDepth 100000
set_option maxHeartbeats 8000000
namespace Lag
open PySem PySem.Spec PyProof.Rows L2
/-- list(d.values()) -/
def tListVals (td : TE) : TE := fun σ H Q => td σ H fun x H1 => ∃ d kvs, x = .ref d ∧ H1 d = some (.dK kvs) ∧ ∀ q, H1 q = none → Q (.ref q) (upd H1 q (.lst (kvs.map fun kv => kv.2)))
theorem pe_listVals {X : Cx} {e : Expr} {td : TE} {p apos cpos pos : Pos} (hc : X.calm = true) (hg : Gl X "list") (hm : X.mg "list" = none) (he : PE X e td) (hbase : attributeBase e "values" X.env (eval e X.env) = eval e X.env := by rfl) (hline : (apos.endLine == cpos.line) = true := by rfl)
    (na : starEach [Expr.Call (.Attribute e "values" apos) [] [] cpos] X.env = (false, eval (Expr.Call (.Attribute e "values" apos) [] [] cpos) X.env) :: starEach [] X.env := by rfl) : PE X (.Call (.Name "list" p) [.Call (.Attribute e "values" apos) [] [] cpos] [] pos) (tListVals td) := by
  refine ⟨fun pins s σ H Q I h => ?_⟩
  refine Call_ (ld_blt I hg hm boot_list (callWith_type1 (args_cons ?_ na) na))
  refine wpAny_Call_method (T := "dict") (id := "dict.values") hbase rfl hline PySem.F.plainAttrs_dict PySem.F.slot_dict_values PySem.F.type_dict_values (thn (he.run pins s σ H _ I h) fun u s1 ⟨x, H1, I1, rx, d, kvs, ex, hd, q⟩ => ?_)
  subst ex
  obtain rfl : u = Value.ref d := rx
  obtain ⟨z, lo, vs, rk, hdo⟩ := (show ObjOk X.prog X.w H1 s1.heap d (.dK kvs) from I1.hok d _ hd)
  have hl : kvs.length = vs.length := Paired.length rk
  refine ⟨hdo.typeIs, hdo.mapOf.noDict, ?_⟩
  have I2 : Inv X pins σ H1 { s1 with heap := s1.heap.push { cls := .type "dict_values", data := .fields #[.ref d] } } := I1.kept (t' := s1.toks) fun b ob q => Heap.get?_push_of_some _ q
  obtain ⟨z2, lo2, vs2, rk2, hd2⟩ := (show ObjOk X.prog X.w H1 (s1.heap.push { cls := .type "dict_values", data := .fields #[.ref d] }) d (.dK kvs) from I2.hok d _ hd)
  obtain ⟨ep, hat⟩ := hd2.dictAt
  have hl2 : kvs.length = vs2.length := Paired.length rk2
  show wpAny _ _ (callWith cpos (.builtin "dict.values") [.ref d] [] []) _ X.xe s1
  refine method_meetsIn PySem.F.slot_dict_values PySem.F.entry_dict_values rfl (PySem.evalArgs_none ⟨rfl, hdo.typeIs, PySem.F.args_dict_values_1 _, _, meets_dict_values (mixKind X.prog X.w) d lo, ⟨vs, hdo⟩, ?_⟩)
  refine args_nil ?_
  refine PySem.W.kdl_call (PySem.W.kdl_values (knd := mixKind X.prog X.w) (kvs := vs2) (ep := ep)) (I2.ok.hd hc) ⟨⟨_, Heap.get?_push_size _ rfl, rfl, rfl⟩, hat⟩ (by rw [← hl2]; exact z2) fun h' tk acc' c' hkeep hS hacc => ?_
  refine ⟨.ref _, upd H1 _ (.lst (kvs.map fun kv => kv.2)), I2.laid hkeep (Nat.le_refl _) (show ObjOk X.prog X.w _ _ _ (.lst (kvs.map fun kv => kv.2)) from ⟨?_, acc'.toList, c', ?_, ?_⟩), rfl, q _ (I2.hok.fresh (Nat.le_refl _))⟩
  · rw [List.length_map]; exact z2
  · have el : acc'.toList.length = acc'.size := by simp
    refine vals_of_at (by rw [List.length_map, el, hacc.1, hl2]) fun j x w h1 h2 => ?_
    obtain ⟨k, hky⟩ := hacc.2 j w (by rw [← Array.getElem?_toList]; exact h2)
    rw [List.getElem?_map] at h1
    cases hk : kvs[j]? with
    | none => rw [hk] at h1; cases h1
    | some kv =>
      rw [hk] at h1
      cases h1
      obtain ⟨k', v'⟩ := kv
      obtain ⟨u, hu, ru⟩ := kv_get rk2 hk
      rw [hky] at hu
      cases hu
      exact ru
  · rw [Array.toArray_toList]; exact hS
end Lag

set_option maxRecDepth 100000
set_option maxHeartbeats 8000000
namespace Lag
open PySem PySem.Spec PyProof.Rows L2
abbrev sCounts : Stmt := topS 44 -- @counts
abbrev sChkLags : Stmt := topS 47 -- @check_lags
abbrev sCountsBy : Stmt := topS 45 -- @counts_by
abbrev sLetCounts : Stmt := topS 48 -- @let_counts
theorem lgetD_at {ts : List Int} {g : Nat} (h : g < ts.length) : (ts.map V.int)[g]? = some (.int (ts.getD g 0)) := by
  rw [List.getElem?_map, List.getElem?_eq_getElem h, List.getD_eq_getElem?_getD, List.getElem?_eq_getElem h]
  rfl
structure LagOk (gs : List Gt) (ls : List Int) : Prop where
  len : ls.length = gs.length
  ok : ∀ (i : Nat) (g : Gt) (l : Int), gs[i]? = some g → ls[i]? = some l → -500 ≤ l ∧ l ≤ 500 ∧ (portK g.1 → l = 0)
def cntsL (ws : List Wr) (ls : List Int) : List Int := ws.map fun x => ((x.2.2.length : Nat) : Int) + ls.getD x.2.1 0 - ls.getD x.1 0
def spChkLags (K : PySem.W.Frag) (C : Addr) : Sp := fun vs H Q _ => ∃ (p ng nw ll : Addr) (gs : List Gt) (ws : List Wr) (ls : List Int), vs = [.ref p, .ref ll] ∧ NetAt K C H p ng nw gs ws ∧ gs.length ≤ 1000 ∧ SqL K H ll (ls.map V.int) ∧ LagOk gs ls ∧ ∀ H', Same H H' → Q .non H'
def spCounts (K : PySem.W.Frag) (C : Addr) : Sp := fun vs H Q _ => ∃ (p ng nw ll : Addr) (gs : List Gt) (ws : List Wr) (ls : List Int), vs = [.ref p, .ref ll] ∧ NetAt K C H p ng nw gs ws ∧ NetOk gs ws ∧ SqL K H ll (ls.map V.int) ∧ LagOk gs ls ∧ ∀ l H', Same H H' → H l = none → H' l = some (.lst ((cntsL ws ls).map V.int)) → Q (.ref l) H'
def spCountsBy (K : PySem.W.Frag) (C : Addr) : Sp := fun vs H Q _ => ∃ (p ng nw ll : Addr) (gs : List Gt) (ws : List Wr) (ls : List Int), vs = [.ref p, .ref ll] ∧ NetAt K C H p ng nw gs ws ∧ NetOk gs ws ∧ SqL K H ll (ls.map V.int) ∧ ls.length = gs.length ∧ ∀ l H', Same H H' → H l = none → H' l = some (.lst ((cntsL ws ls).map V.int)) → Q (.ref l) H'
def lagF (ls : List Int) (g : Nat) : Int := ls.getD g 0
def LetOk (ws : List Wr) (ls : List Int) : Prop := ∀ y ∈ cntsL ws ls, 0 ≤ y
def spLetCounts (K : PySem.W.Frag) (C : Addr) : Sp := fun vs H Q _ => ∃ (p ng nw ll : Addr) (gs : List Gt) (ws : List Wr) (ls : List Int), vs = [.ref p, .ref ll] ∧ NetAt K C H p ng nw gs ws ∧ NetOk gs ws ∧ SqL K H ll (ls.map V.int) ∧ LagOk gs ls ∧ LetOk ws ls ∧ ∀ l H', Same H H' → H l = none → H' l = some (.lst ((cntsL ws ls).map V.int)) → Q (.ref l) H'
section
variable {P : Program} {w : World} {K : PySem.W.Frag} {mg : Str → Option Value} {base : Heap}
theorem scChkLags : FnScope ["net", "lags", "gate", "lag", "greatest"] ["net", "lags"] (defScope sChkLags) := ⟨rfl, rfl, rfl, by decide +kernel, rfl, by decide +kernel, by decide +kernel⟩
abbrev DChkLags (P : Program) (w : World) (K : PySem.W.Frag) (mg : Str → Option Value) (base : Heap) (C : Addr) := Df P w K mg base 3 "check_lags" ["net", "lags"] (spChkLags K C)
theorem ok_chkLags {f fO fF C : Addr} {fd fdO fdF : FuncData} (F : Fun K "check_lags" "check_lags" sChkLags f fd) (hm : mg "check_lags" = some (.ref f)) (B : Bt mg) (T : NT K mg C) (gl : ∃ t, mg "GREATEST_LAG" = some (.int 500 t)) (DO : DOuter P w K mg base fO fdO) (DF : DFromTo P w K mg base fF fdF) : DChkLags P w K mg base C f fd := by
  obtain ⟨tg, hgl⟩ := gl
  refine ⟨?_, hm, F.kp, F.binds fun _ _ _ _ _ _ us hl => match us, hl with | [_, _], _ => rfl⟩
  refine F.ok scChkLags (fun vs H Q E h => ?_) (fun cdv A outer s H vs Q E hr h => ?_)
  · obtain ⟨p, ng, nw, ll, gs, ws, ls, rfl, _⟩ := h
    rfl
  · obtain ⟨p, ng, nw, ll, gs, ws, ls, rfl, NA, hgl1, sl, lok, q⟩ := h
    have nd := scChkLags.nd
    have hr1 : Room 1 _ := hr.mono (by decide)
    refine ⟨_, pss_cons (ps_if (PW.pt (pw_or (pt_not (pt_val (pe_callB call_isi (by rfl) B.isi (by decide +kernel) (pa_cons (pv 1) (pa_cons (pe_bltn (v := .ty "list") (by rfl) B.list (by decide +kernel) rfl) pa_nil)))))
          (pw_or1 (pt_cmpR op_ne (pe_callB call_len_seq (by rfl) B.len PySem.boot_len (pa_cons (pv 1) pa_nil)) (pe_callB call_len_seq (by rfl) B.len PySem.boot_len (pa_cons (pe_fld (pv 0) rfl) pa_nil)) (nomark _))))) (pss_one ps_never) pss_nil) <|
      pss_one <| ps_for PassesOwn.never rfl (pi_zip (by rfl) B.zip (pa_cons (pe_fld (pv 0) rfl) (pa_cons (pv 1) pa_nil))) (pg_tup rfl (pgs_cons (pg_name (i := 2) nd rfl (.inl rfl)) (pgs_cons (pg_name (i := 3) nd rfl (.inl rfl)) pgs_nil))) <|
        pss_cons (ps_set (i := 4) nd rfl (.inl rfl) (pe_ifExp (pt_val (pe_call DO.ok hr1 (by rfl) DO.mg DO.kp DO.bd .nil pass0 (pa_cons (pv 2) pa_nil))) pe_int (pe_glob (v := .int 500) (by rfl) hgl ⟨_, rfl⟩))) <|
        pss_one <| ps_if (pt_not (pt_val (pe_call DF.ok hr (by rfl) DF.mg DF.kp DF.bd .nil pass0 (pa_cons (pv 3) (pa_cons (pe_un un_neg (pv 4)) (pa_cons (pv 4) pa_nil)))))) (pss_one ps_never) pss_nil, ?_⟩
    obtain ⟨dx, ob⟩ := id NA.ob
    obtain ⟨gv, hgv, ga⟩ := id NA.g
    have hlg : gv.length = gs.length := ga.1
    have hll := lok.len
    refine ⟨_, rfl, _, _, _, _, true, rfl, .ty "list", ty_lst sl, kit_ty (by decide +kernel), true, rfl, iteF ?_⟩
    refine ⟨_, rfl, ll, _, rfl, .inl sl, _, rfl, p, C, dx, _, _, rfl, ob, T.cl, T.nG, nf_gates _ _, ng, gv, rfl, .inl (SqL.of hgv), rfl, false, ?_, iteF ?_⟩
    · rw [List.length_map, hlg, hll, decide_eq_true rfl]
      rfl
    refine ⟨_, rfl, p, C, dx, _, _, rfl, ob, T.cl, T.nG, nf_gates _ _, _, rfl, ng, ll, gv, _, rfl, SqL.of hgv, sl, RZ.for_zipL (K := K) (a := ng) (b := ll) (xs := gv) (ys := ls.map V.int) (by rw [List.length_map, hlg, hll]) (fun i σ H' => ∃ s2 s3 s4 : Option V, σ = [some (.ref p), some (.ref ll), s2, s3, s4] ∧ Same H H') ⟨_, _, _, rfl, Same.refl _⟩ (fun i σ H' ⟨_, _, _, _, sm⟩ => ⟨SqL.of (sm _ _ hgv), sm.seq sl⟩) ?_ ?_⟩
    · rintro i x y T' σ H1 hx hy ⟨s2, s3, s4, rfl, sm⟩ hT
      obtain ⟨g, hg, gv'⟩ := ga.get hx
      obtain ⟨l, hl, rfl⟩ := int_atF hy
      obtain ⟨l0, l1, lp⟩ := lok.ok i g l hg hl
      have sT := sm.trans (same_new (o := .tup [x, .int l]) hT)
      refine ⟨T', _, rfl, .inl (.inl upd_same), rfl, _, _, rfl, _, _, rfl, rfl, ?_⟩
      refine ⟨_, rfl, x, g, rfl, gv'.tk (TK.same sT), fun b hb => ⟨b, rfl, ite2 (fun e => ?_) (fun e => ?_)⟩⟩
      · have h0 := lp (hb.mp e)
        refine ⟨_, rfl, _, rfl, _, rfl, _, rfl, l, 0, 0, rfl, true, ?_, iteF ⟨_, _, _, rfl, sT⟩⟩
        rw [h0]
        rfl
      · refine ⟨_, rfl, _, rfl, _, rfl, _, rfl, l, -500, 500, rfl, true, ?_, iteF ⟨_, _, _, rfl, sT⟩⟩
        rw [decide_eq_true l0, decide_eq_true l1]
        rfl
    · rintro σ H1 ⟨s2, s3, s4, rfl, sm⟩
      exact q H1 sm
abbrev nCountsBy : List Str := ["net", "numbers", "start", "end", "held"]
theorem scCountsBy : FnScope nCountsBy ["net", "numbers"] (defScope sCountsBy) := ⟨rfl, rfl, rfl, by decide +kernel, rfl, by decide +kernel, by decide +kernel⟩
abbrev DCountsBy (P : Program) (w : World) (K : PySem.W.Frag) (mg : Str → Option Value) (base : Heap) (C : Addr) := Df P w K mg base 1 "counts_by" ["net", "numbers"] (spCountsBy K C)
theorem ok_countsBy {f C : Addr} {fd : FuncData} (F : Fun K "counts_by" "counts_by" sCountsBy f fd) (hm : mg "counts_by" = some (.ref f)) (B : Bt mg) (T : NT K mg C) : DCountsBy P w K mg base C f fd := by
  refine ⟨?_, hm, F.kp, F.binds fun _ _ _ _ _ _ us hl => match us, hl with | [_, _], _ => rfl⟩
  refine F.ok scCountsBy (fun vs H Q E h => ?_) (fun cdv A outer s H vs Q E hr h => ?_)
  · obtain ⟨p, ng, nw, ll, gs, ws, ls, rfl, _⟩ := h
    rfl
  · obtain ⟨p, ng, nw, ll, gs, ws, ls, rfl, NA, N, sl, lok, q⟩ := h
    have nd := scCountsBy.nd
    refine ⟨_, pss_one <| ps_ret <| pe_lc (own := [("start", 2), ("end", 3), ("held", 4)]) (g := gTup K 3 (gCons (gName 2) (gCons (gName 3) (gCons (gName 4) gNil)))) (tt := tYes) (te := tOp (rI0 fun i j => .int (i - j)) (tOp (rI0 fun i j => .int (i + j)) (tCB (Evl.rLenS K) (tCons (tVar 4) tNil)) (tOp (rIxL K) (tVar 1) (tVar 3))) (tOp (rIxL K) (tVar 1) (tVar 2))) rfl nd
        (pi_list (pe_fld (pv 0) rfl)) (blkOk_by (N := nCountsBy) (sc := defScope sCountsBy) (own := [("start", 2), ("end", 3), ("held", 4)]) (by decide +kernel))
        (fun _ _ _ _ _ => pg_tup rfl (pgs_cons (pg_name (i := 2) nd rfl (.inl rfl)) (pgs_cons (pg_name (i := 3) nd rfl (.inl rfl)) (pgs_cons (pg_name (i := 4) nd rfl (.inl rfl)) pgs_nil)))) (fun _ _ _ _ _ => pts_nil)
        (fun _ _ _ _ _ => pe_op op_sub (pe_op op_add (pe_callB call_len_seq (by rfl) B.len PySem.boot_len (pa_cons (pv 4) pa_nil)) (pe_ix ix_list (pv 1) (pv 3) (fun _ _ => rfl))) (pe_ix ix_list (pv 1) (pv 2) (fun _ _ => rfl))), ?_⟩
    have hgl := N.gl
    have hwl := N.wl
    obtain ⟨dx, ob⟩ := id NA.ob
    obtain ⟨wv, hwv, wa⟩ := id NA.w
    have hlw : wv.length = ws.length := wa.1
    have hll := lok
    refine ⟨_, rfl, p, C, dx, _, _, rfl, ob, T.cl, T.nW, nf_wires _ _, nw, rfl, ⟨_, SqL.of hwv⟩, fun D hD => ?_⟩
    refine lc_list (K := K) (a := nw) (xs := wv) (fun i Hc => Hc D = some (.lst ((cntsL (ws.take i) ls).map V.int)) ∧ Same H Hc) ⟨by rw [upd_same]; rfl, same_new hD⟩ (fun i Hc _ ⟨_, sm⟩ => SqL.of (sm _ _ hwv)) ?_ ?_
    · rintro i v Hc hv ⟨hc, sm⟩
      obtain ⟨x, hx, a, b, rfl, sq1, sq2⟩ := wa.get hv
      have hi : i < ws.length := (List.getElem?_eq_some_iff.mp hx).1
      have WX := N.wok x (List.mem_of_getElem? hx)
      have tk := TK.same sm
      refine ⟨a, _, rfl, tk.seq sq1, rfl, _, _, rfl, _, _, rfl, _, _, rfl, rfl, rfl, tyes ?_⟩
      refine ⟨_, rfl, b, _, rfl, .inr (tk.seq sq2), _, rfl, _, rfl, ll, _, _, _, rfl, rfl, sm.seq sl, atI_nat (lgetD_at (by rw [hll]; exact WX.e)), _, _, rfl, rfl, ?_⟩
      refine ⟨_, rfl, _, rfl, ll, _, _, _, rfl, rfl, sm.seq sl, atI_nat (lgetD_at (by rw [hll]; exact WX.s)), _, _, rfl, rfl, _, hc, ?_, ?_, same_mut sm hD⟩
      · unfold cntsL
        rw [List.length_map, List.length_map, List.length_take]
        exact small1000 (by omega)
      · rw [upd_same, List.take_add_one, hx]
        unfold cntsL
        rw [List.map_append, List.map_append, List.length_map]
        rfl
    · rintro H2 ⟨hc, sm⟩
      rw [hlw, List.take_length] at hc
      exact q D H2 sm hD hc
theorem scCounts : FnScope ["net", "lags"] ["net", "lags"] (defScope sCounts) := ⟨rfl, rfl, rfl, by decide +kernel, rfl, by decide +kernel, by decide +kernel⟩
abbrev DCounts (P : Program) (w : World) (K : PySem.W.Frag) (mg : Str → Option Value) (base : Heap) (C : Addr) := Df P w K mg base 4 "counts" ["net", "lags"] (spCounts K C)
theorem ok_counts {f fC fB C : Addr} {fd fdC fdB : FuncData} (F : Fun K "counts" "counts" sCounts f fd) (hm : mg "counts" = some (.ref f)) (DC : DChkLags P w K mg base C fC fdC) (DB : DCountsBy P w K mg base C fB fdB) : DCounts P w K mg base C f fd := by
  refine ⟨?_, hm, F.kp, F.binds fun _ _ _ _ _ _ us hl => match us, hl with | [_, _], _ => rfl⟩
  refine F.ok scCounts (fun vs H Q E h => ?_) (fun cdv A outer s H vs Q E hr h => ?_)
  · obtain ⟨p, ng, nw, ll, gs, ws, ls, rfl, _⟩ := h
    rfl
  · obtain ⟨p, ng, nw, ll, gs, ws, ls, rfl, NA, N, sl, lok, q⟩ := h
    have hr1 : Room 1 _ := hr.mono (by decide)
    refine ⟨_, pss_cons (ps_expr (pe_call DC.ok hr (by rfl) DC.mg DC.kp DC.bd .nil pass0 (pa_cons (pv 0) (pa_cons (pv 1) pa_nil)))) <|
      pss_one <| ps_ret (pe_call DB.ok hr1 (by rfl) DB.mg DB.kp DB.bd .nil pass0 (pa_cons (pv 0) (pa_cons (pv 1) pa_nil))), ?_⟩
    have hgl := N.gl
    refine ⟨_, rfl, _, rfl, p, ng, nw, ll, gs, ws, ls, rfl, NA, by omega, sl, lok, fun H1 s1 => ?_⟩
    exact ⟨_, rfl, _, rfl, p, ng, nw, ll, gs, ws, ls, rfl, NA.same s1, N, s1.seq sl, lok.len, fun l H2 s2 hl el => q l H2 (s1.trans s2) (s1.free hl) el⟩
theorem scLetCounts : FnScope ["net", "lags", "told", "place", "many"] ["net", "lags"] (defScope sLetCounts) := ⟨rfl, rfl, rfl, by decide +kernel, rfl, by decide +kernel, by decide +kernel⟩
abbrev DLetCounts (P : Program) (w : World) (K : PySem.W.Frag) (mg : Str → Option Value) (base : Heap) (C : Addr) := Df P w K mg base 5 "let_counts" ["net", "lags"] (spLetCounts K C)
theorem ok_letCounts {f fC C : Addr} {fd fdC : FuncData} (F : Fun K "let_counts" "let_counts" sLetCounts f fd) (hm : mg "let_counts" = some (.ref f)) (B : Bt mg) (DC : DCounts P w K mg base C fC fdC) : DLetCounts P w K mg base C f fd := by
  refine ⟨?_, hm, F.kp, F.binds fun _ _ _ _ _ _ us hl => match us, hl with | [_, _], _ => rfl⟩
  refine F.ok scLetCounts (fun vs H Q E h => ?_) (fun cdv A outer s H vs Q E hr h => ?_)
  · obtain ⟨p, ng, nw, ll, gs, ws, ls, rfl, _⟩ := h
    rfl
  · obtain ⟨p, ng, nw, ll, gs, ws, ls, rfl, NA, N, sl, lok, lt, q⟩ := h
    have nd := scLetCounts.nd
    refine ⟨_, pss_cons (ps_set (i := 2) nd rfl (.inl rfl) (pe_call DC.ok hr (by rfl) DC.mg DC.kp DC.bd .nil pass0 (pa_cons (pv 0) (pa_cons (pv 1) pa_nil)))) <|
      pss_cons (ps_for PassesOwn.never rfl (pi_enum (by rfl) B.enum (pa_cons (pv 2) pa_nil)) (pg_tup rfl (pgs_cons (pg_name (i := 3) nd rfl (.inl rfl)) (pgs_cons (pg_name (i := 4) nd rfl (.inl rfl)) pgs_nil))) <|
        pss_one <| ps_if (pt_cmpR op_lt (pv 4) pe_int (nomark _)) (pss_one ps_never) pss_nil) <|
      pss_one <| ps_ret (pv 2), ?_⟩
    refine ⟨_, rfl, _, rfl, p, ng, nw, ll, gs, ws, ls, rfl, NA, N, sl, lok, fun l H1 s1 hl el => ?_⟩
    refine ⟨_, rfl, l, _, rfl, SqL.of el, for_it (walk_enum (K := K) (a := l) (xs := (cntsL ws ls).map V.int)) (fun i σ H2 => ∃ s3 s4 : Option V, σ = [some (.ref p), some (.ref ll), some (.ref l), s3, s4] ∧ Same H1 H2) ⟨_, _, rfl, Same.refl _⟩ (fun i σ H2 _ ⟨_, _, _, sm⟩ => SqL.of (sm _ _ el)) ?_ ?_⟩
    · rintro i x σ H2 H2' hi ⟨s3, s4, rfl, sm⟩ ⟨T', x1, y, rfl, hT, rfl, ex, ey⟩
      cases ex
      obtain ⟨z, hz, rfl⟩ := int_atF ey
      have h0 := lt z (List.mem_of_getElem? hz)
      refine ⟨T', _, rfl, .inl (.inl upd_same), rfl, _, _, rfl, _, _, rfl, rfl, ?_⟩
      refine ⟨_, rfl, _, _, rfl, rfl, _, rfl, ite2 (fun e => ?_) (fun _ => ⟨_, _, rfl, sm.trans (same_new hT)⟩)⟩
      exfalso
      have : z < 0 := of_decide_eq_true e
      omega
    · rintro σ H2 ⟨s3, s4, rfl, sm⟩
      exact ⟨_, rfl, q l H2 (s1.trans sm) hl (sm _ _ el)⟩
end
end Lag

set_option maxRecDepth 100000
set_option maxHeartbeats 8000000
namespace Lag
open PySem PySem.Spec PyProof.Rows L2
abbrev sShared : Stmt := topS 81 -- @shared
theorem cntsL_cntW (ws : List Wr) (ls : List Int) : cntsL ws ls = ws.map (cntW (lagF ls)) := rfl
theorem mx0_snoc {l : List Int} {c : Int} (hc : 0 ≤ c) : mx0 (l ++ [c]) = if mx0 l < c then c else mx0 l := by
  induction l with
  | nil =>
    show (if c < 0 then 0 else c) = if 0 < c then c else 0
    split <;> split <;> omega
  | cons a l ih =>
    show (if a < mx0 (l ++ [c]) then mx0 (l ++ [c]) else a) = if (if a < mx0 l then mx0 l else a) < c then c else (if a < mx0 l then mx0 l else a)
    rw [ih]
    repeat' split
    all_goals omega
theorem outC_snoc {ws : List Wr} {x : Wr} {L : Nat → Int} {s : Nat} : outC (ws ++ [x]) L s = outC ws L s ++ if x.1 = s then [cntW L x] else [] := by
  unfold outC
  rw [List.filter_append, List.map_append]
  congr 1
  by_cases e : x.1 = s
  · rw [if_pos e, List.filter_cons_of_pos (by rw [beq_iff_eq]; exact e)]
    rfl
  · rw [if_neg e, List.filter_cons_of_neg (by rw [beq_iff_eq]; exact e)]
    rfl
/-- the dict of the most registers out of each gate -/
structure SInv (ws : List Wr) (L : Nat → Int) (kvs : List (Key × V)) (ks : List Nat) : Prop where
  ky : kvs.map (fun kv => kv.1) = ks.map fun s => (Sum.inl ((s : Nat) : Int) : Key)
  nd : ks.Nodup
  me : ∀ s, s ∈ ks ↔ s ∈ ws.map fun x => x.1
  vl : ∀ s ∈ ks, valV kvs (Sum.inl ((s : Nat) : Int)) = some (.int (mx0 (outC ws L s)))
theorem SInv.len {ws : List Wr} {L : Nat → Int} {kvs : List (Key × V)} {ks : List Nat} (h : SInv ws L kvs ks) : kvs.length = ks.length := by
  have := congrArg List.length h.ky
  rw [List.length_map, List.length_map] at this
  exact this
theorem valV_noneS {kvs : List (Key × V)} {ks : List Nat} (h : kvs.map (fun kv => kv.1) = ks.map fun s => (Sum.inl ((s : Nat) : Int) : Key)) {v : Nat} (hv : v ∉ ks) : valV kvs (Sum.inl ((v : Nat) : Int)) = none := by
  induction kvs generalizing ks with
  | nil => rfl
  | cons p r ih =>
    cases ks with
    | nil => exact nomatch congrArg List.length h
    | cons k t =>
      rw [List.map_cons, List.map_cons] at h
      obtain ⟨h1, h2⟩ := List.cons.inj h
      rw [valV_neg, ih h2 fun hm => hv (List.mem_cons_of_mem _ hm)]
      intro e
      rw [h1] at e
      have e := Sum.inl.inj e
      have : k = v := by omega
      exact hv (by rw [← this]; exact List.mem_cons_self ..)
theorem SInv.get {ws : List Wr} {L : Nat → Int} {kvs : List (Key × V)} {ks : List Nat} (h : SInv ws L kvs ks) (s : Nat) : (valV kvs (Sum.inl ((s : Nat) : Int))).getD (.int 0) = .int (mx0 (outC ws L s)) := by
  by_cases hm : s ∈ ks
  · rw [h.vl s hm]
    rfl
  · rw [valV_noneS h.ky hm]
    have : outC ws L s = [] := by
      cases e : outC ws L s with
      | nil => rfl
      | cons c r =>
        obtain ⟨x, hx, h1, _⟩ := mem_outC.mp (show c ∈ outC ws L s by rw [e]; exact List.mem_cons_self ..)
        exact absurd ((h.me s).mpr (List.mem_map.mpr ⟨x, hx, h1⟩)) hm
    rw [this]
    rfl
theorem SInv.put {ws : List Wr} {L : Nat → Int} {kvs : List (Key × V)} {ks : List Nat} {x : Wr} (h : SInv ws L kvs ks) (hc : 0 ≤ cntW L x) : ∃ ks', SInv (ws ++ [x]) L (putK kvs (Sum.inl ((x.1 : Nat) : Int)) (.int (if mx0 (outC ws L x.1) < cntW L x then cntW L x else mx0 (outC ws L x.1)))) ks' := by
  have vals : ∀ u, (u ∈ ks ∨ u = x.1) → valV (putK kvs (Sum.inl ((x.1 : Nat) : Int)) (.int (if mx0 (outC ws L x.1) < cntW L x then cntW L x else mx0 (outC ws L x.1)))) (Sum.inl ((u : Nat) : Int)) = some (.int (mx0 (outC (ws ++ [x]) L u))) := fun u hu => by
    rw [valV_put, outC_snoc]
    by_cases e : u = x.1
    · rw [e, if_pos rfl, if_pos rfl, mx0_snoc hc]
    · rw [if_neg (fun z => e (by have := Sum.inl.inj z; omega)), if_neg (fun z => e z.symm), List.append_nil]
      exact h.vl u (hu.resolve_right e)
  have mem : ∀ s, (s ∈ ks ∨ s = x.1) ↔ s ∈ (ws ++ [x]).map fun x => x.1 := fun s => by
    rw [List.map_append, List.mem_append, h.me s]
    show _ ↔ _ ∨ s ∈ [x.1]
    rw [List.mem_singleton]
  by_cases hm : x.1 ∈ ks
  · refine ⟨ks, ?_, h.nd, fun s => ?_, fun u hu => vals u (.inl hu)⟩
    · rw [putK_old (by rw [h.ky]; exact List.mem_map.mpr ⟨x.1, hm, rfl⟩)]
      exact h.ky
    · rw [← mem]
      constructor
      · exact .inl
      · rintro (z | z)
        · exact z
        · rw [z]; exact hm
  · refine ⟨ks ++ [x.1], ?_, ?_, fun s => ?_, fun u hu => vals u ?_⟩
    · rw [putK_fresh, h.ky, List.map_append]
      · rfl
      · rw [h.ky]
        intro z
        obtain ⟨u, hu, e⟩ := List.mem_map.mp z
        have e := Sum.inl.inj e
        have : u = x.1 := by omega
        exact hm (this ▸ hu)
    · refine List.nodup_append.mpr ⟨h.nd, List.nodup_cons.mpr ⟨(fun h => nomatch h), List.nodup_nil⟩, fun a ha b hb => ?_⟩
      rw [List.mem_singleton.mp hb]
      exact fun e => hm (e ▸ ha)
    · rw [← mem, List.mem_append, List.mem_singleton]
    · rcases List.mem_append.mp hu with z | z
      · exact .inl z
      · exact .inr (List.mem_singleton.mp z)
theorem valV_head {k : Key} {v : V} {r : List (Key × V)} : valV ((k, v) :: r) k = some v := valV_pos rfl
theorem vals_list : ∀ {kvs : List (Key × V)} {ks : List Nat} {φ : Nat → Int}, kvs.map (fun kv => kv.1) = ks.map (fun s => (Sum.inl ((s : Nat) : Int) : Key)) → ks.Nodup → (∀ s ∈ ks, valV kvs (Sum.inl ((s : Nat) : Int)) = some (.int (φ s))) → (kvs.map fun kv => kv.2) = (ks.map φ).map V.int
  | [], [], φ, _, _, _ => rfl
  | [], _ :: _, φ, h, _, _ => nomatch congrArg List.length h
  | _ :: _, [], φ, h, _, _ => nomatch congrArg List.length h
  | (k, v) :: r, s :: t, φ, h, nd, hv => by
    rw [List.map_cons, List.map_cons] at h
    obtain ⟨h1, h2⟩ := List.cons.inj h
    have h1 : k = Sum.inl ((s : Nat) : Int) := h1
    obtain ⟨n1, n2⟩ := List.nodup_cons.mp nd
    have e1 := hv s (List.mem_cons_self ..)
    rw [h1, valV_head] at e1
    have ih := vals_list h2 n2 (φ := φ) fun u hu => by
      have := hv u (List.mem_cons_of_mem _ hu)
      rw [valV_neg] at this
      · exact this
      · intro e
        rw [h1] at e
        have e := Sum.inl.inj e
        have : s = u := by omega
        exact n1 (this ▸ hu)
    rw [List.map_cons, ih, Option.some.inj e1]
    rfl
theorem SInv.sum {n : Nat} {ws : List Wr} {L : Nat → Int} {kvs : List (Key × V)} {ks : List Nat} (h : SInv ws L kvs ks) (hs : ∀ x ∈ ws, x.1 < n) : (kvs.map fun kv => kv.2) = (ks.map fun s => mx0 (outC ws L s)).map V.int ∧ (ks.map fun s => mx0 (outC ws L s)).sum = sharedF n ws L := by
  refine ⟨vals_list h.ky h.nd h.vl, ?_⟩
  unfold sharedF
  refine perm_sumI (((List.perm_ext_iff_of_nodup h.nd (givL_nd n ws)).mpr fun s => ?_).map _)
  rw [h.me, mem_givL]
  constructor
  · intro z
    obtain ⟨x, hx, rfl⟩ := List.mem_map.mp z
    exact ⟨hs x hx, x, hx, rfl⟩
  · rintro ⟨_, x, hx, rfl⟩
    exact List.mem_map.mpr ⟨x, hx, rfl⟩
def spShared (K : PySem.W.Frag) (C : Addr) : Sp := fun vs H Q _ => ∃ (p ng nw ll : Addr) (gs : List Gt) (ws : List Wr) (ls : List Int), vs = [.ref p, .ref ll] ∧ NetAt K C H p ng nw gs ws ∧ NetOk gs ws ∧ SqL K H ll (ls.map V.int) ∧ LagOk gs ls ∧ LetOk ws ls ∧ ∀ H', Same H H' → Q (.int (sharedF gs.length ws (lagF ls))) H'
section
variable {P : Program} {w : World} {K : PySem.W.Frag} {mg : Str → Option Value} {base : Heap}
abbrev nShared : List Str := ["net", "lags", "most", "start", "end", "held", "many"]
theorem scShared : FnScope nShared ["net", "lags"] (defScope sShared) := ⟨rfl, rfl, rfl, by decide +kernel, rfl, by decide +kernel, by decide +kernel⟩
abbrev DShared (P : Program) (w : World) (K : PySem.W.Frag) (mg : Str → Option Value) (base : Heap) (C : Addr) := Df P w K mg base 6 "shared" ["net", "lags"] (spShared K C)
theorem ok_shared {f fC C : Addr} {fd fdC : FuncData} (F : Fun K "shared" "shared" sShared f fd) (hm : mg "shared" = some (.ref f)) (B : Bt mg) (T : NT K mg C) (ms : mg "sum" = none) (DLc : DLetCounts P w K mg base C fC fdC) : DShared P w K mg base C f fd := by
  refine ⟨?_, hm, F.kp, F.binds fun _ _ _ _ _ _ us hl => match us, hl with | [_, _], _ => rfl⟩
  refine F.ok scShared (fun vs H Q E h => ?_) (fun cdv A outer s H vs Q E hr h => ?_)
  · obtain ⟨p, ng, nw, ll, gs, ws, ls, rfl, _⟩ := h
    rfl
  · obtain ⟨p, ng, nw, ll, gs, ws, ls, rfl, NA, N, sl, lok, lt, q⟩ := h
    have nd := scShared.nd
    refine ⟨_, pss_cons (ps_set (i := 2) nd rfl (.inl rfl) pe_dnewK) <|
        pss_cons (ps_for PassesOwn.never rfl (pi_zip (by rfl) B.zip (pa_cons (pe_fld (pv 0) rfl) (pa_cons (pe_call DLc.ok (hr.mono (by decide)) (by rfl) DLc.mg DLc.kp DLc.bd .nil pass0 (pa_cons (pv 0) (pa_cons (pv 1) pa_nil))) pa_nil))) (pg_tup rfl (pgs_cons (pg_tup rfl (pgs_cons (pg_name (i := 3) nd rfl (.inl rfl)) (pgs_cons (pg_name (i := 4) nd rfl (.inl rfl)) (pgs_cons (pg_name (i := 5) nd rfl (.inl rfl)) pgs_nil)))) (pgs_cons (pg_name (i := 6) nd rfl (.inl rfl)) pgs_nil))) (pss_one (ps_dput (hu_of hr) (pv 2) (pv 3) (pe_callB (call_max2 rfl) (by rfl) B.max (by decide +kernel) (pa_cons (pe_dget2 (hu_of hr) (pv 2) (pv 3) pe_int ⟨rfl, rfl, rfl, rfl⟩) (pa_cons (pv 6) pa_nil))) rfl))) <|
        pss_one (ps_ret (pe_callB (cr_sum rfl) (by rfl) ms (by decide +kernel) (pa_cons (pe_listVals rfl (by rfl) B.list (pv 2)) pa_nil))), ?_⟩
    obtain ⟨dx, ob⟩ := id NA.ob
    obtain ⟨gv, hgv, ga⟩ := id NA.g
    obtain ⟨wv, hwv, wa⟩ := id NA.w
    have hlg : gv.length = gs.length := ga.1
    have hlw : wv.length = ws.length := wa.1
    have hgl := N.gl
    have hwl := N.wl
    refine fun dd hdd => ?_
    have ed : (upd H dd (.dK [])) dd = some (.dK []) := upd_same
    have s1 : Same H (upd H dd (.dK [])) := same_new hdd
    obtain ⟨H1, hH1⟩ : ∃ H1, H1 = upd H dd (.dK []) := ⟨_, rfl⟩
    rw [← hH1] at ed s1
    refine gn_normH (σ' := [some (.ref p), some (.ref ll), some (.ref dd), none, none, none, none]) (H' := H1) rfl hH1.symm ?_
    refine ⟨_, rfl, p, C, dx, _, _, rfl, s1 _ _ ob, T.cl, T.nW, nf_wires _ _, _, rfl, _, rfl, p, ng, nw, ll, gs, ws, ls, rfl, NA.same s1, N, s1.seq sl, lok, lt, fun lc H2 s2 hlc elc => ?_⟩
    have s12 := s1.trans s2
    have hcl : (cntsL ws ls).length = ws.length := List.length_map ..
    refine ⟨nw, lc, wv, _, rfl, SqL.of (s12 _ _ hwv), SqL.of elc, for_it (walk_zip (K := K) (a := nw) (b := lc) (xs := wv) (ys := (cntsL ws ls).map V.int) (n := ws.length) (by rw [List.length_map]; omega)) (fun i σ H' => ∃ (u3 u4 u5 u6 : Option V) (kvs : List (Key × V)) (ks : List Nat), σ = [some (.ref p), some (.ref ll), some (.ref dd), u3, u4, u5, u6] ∧ H' dd = some (.dK kvs) ∧ SInv (ws.take i) (lagF ls) kvs ks ∧ Same H H' ∧ H' lc = some (.lst ((cntsL ws ls).map V.int)))
      ⟨_, _, _, _, [], [], rfl, s2 _ _ ed, ⟨rfl, List.nodup_nil, (fun s => Iff.rfl), (fun s hs => nomatch hs)⟩, s12, elc⟩ (fun i σ H' _ ⟨_, _, _, _, _, _, _, _, _, sm, sc⟩ => ⟨SqL.of (sm _ _ hwv), SqL.of sc⟩) ?_ ?_⟩
    · rintro i v σ H3 H3' hi ⟨u3, u4, u5, u6, kvs, ks, rfl, hd3, SI, sm, sc⟩ ⟨T', x1, y, rfl, hT, rfl, ex, ey⟩
      obtain ⟨x, hx, a, b, rfl, sq1, sq2⟩ := wa.get ex
      have hiw : i < ws.length := (List.getElem?_eq_some_iff.mp hx).1
      obtain ⟨c, hc, rfl⟩ := int_atF ey
      have hcx : c = cntW (lagF ls) x := by
        rw [cntsL_cntW, List.getElem?_map, hx] at hc
        exact (Option.some.inj hc).symm
      have hc0 : 0 ≤ c := lt c (List.mem_of_getElem? hc)
      have sT := same_new (o := .tup [.ref a, .int c]) hT
      have eT : (upd H3 T' (.tup [.ref a, .int c])) T' = some (.tup [.ref a, .int c]) := upd_same
      have smT := sm.trans sT
      have hd4 := sT _ _ hd3
      have sc4 := sT _ _ sc
      generalize upd H3 T' (.tup [.ref a, .int c]) = H4 at sT eT smT hd4 sc4
      refine ⟨T', _, rfl, .inl (.inl eT), rfl, _, _, rfl, a, _, rfl, (TK.same smT).seq sq1, rfl, _, _, rfl, _, _, rfl, _, _, rfl, rfl, _, _, rfl, rfl, ?_⟩
      have hkl := SI.len
      have hkb : ks.length ≤ 1000 := by
        have := List.Nodup.length_le_of_subset SI.nd (l₂ := (ws.take i).map fun x => x.1) (fun a ha => (SI.me a).mp ha)
        rw [List.length_map, List.length_take] at this
        omega
      refine ⟨_, rfl, dd, rfl, .inl ⟨_, .inl hd4⟩, _, rfl, _, DGet.k (k := Sum.inl ((x.1 : Nat) : Int)) hd4, ?_⟩
      refine ⟨_, rfl, _, c, congrArg (fun z => [z, V.int c]) (SI.get x.1), ?_⟩
      refine ⟨_, rfl, _, rfl, dd, _, rfl, DPut.k (k := Sum.inl ((x.1 : Nat) : Int)) hd4 (small1000 (by omega)), ?_⟩
      rw [hcx] at hc0 ⊢
      obtain ⟨ks', SI'⟩ := SI.put hc0
      refine ⟨_, _, _, _, _, ks', rfl, upd_same, ?_, same_mut smT hdd, ?_⟩
      · rw [List.take_add_one, hx]
        exact SI'
      · have nd : lc ≠ dd := fun e => by
          rw [e, s2 _ _ ed] at elc
          cases elc
        exact (upd_ne nd).trans sc4
    rintro σ H3 ⟨u3, u4, u5, u6, kvs, ks, rfl, hd3, SI, sm, sc⟩
    rw [List.take_length] at SI
    obtain ⟨e1, e2⟩ := SI.sum fun x hx => (N.wok x hx).s
    refine ⟨_, rfl, dd, kvs, rfl, hd3, fun lv hlv => ?_⟩
    have s4 := same_new (o := .lst (kvs.map fun kv => kv.2)) hlv
    refine ⟨lv, _, rfl, SqL.of (by rw [upd_same, e1]), ?_⟩
    rw [e2]
    exact q _ (sm.trans s4)
end
end Lag

set_option maxRecDepth 100000
set_option maxHeartbeats 8000000
namespace Lag
open PySem PySem.Spec PyProof.Rows L2
/-! ### nets in which one wire alone leads on from a gate: only one best way -/
def Uni (ws : List Wr) : Prop := ∀ (p q : Nat) (x y : Wr), ws[p]? = some x → ws[q]? = some y → x.1 = y.1 → x.2.1 ≠ x.1 → y.2.1 ≠ y.1 → p = q
/-- no ring on the way -/
def Smp (ws : List Wr) (ps : List Nat) : Prop := ∀ (a c b : List Nat) (u : Nat), ps = a ++ c ++ b → Pw ws u c u → c = []
theorem Smp.tail {ws : List Wr} {p : Nat} {ps : List Nat} (h : Smp ws (p :: ps)) : Smp ws ps := fun a c b u e hp => h (p :: a) c b u (by rw [e]; rfl) hp
theorem way_uniq {ws : List Wr} (U : Uni ws) : ∀ {ps qs : List Nat} {s e : Nat}, Pw ws s ps e → Pw ws s qs e → Smp ws ps → Smp ws qs → ps = qs
  | [], [], _, _, _, _, _, _ => rfl
  | [], q :: qs, s, e, h, h', _, S' => by
    have h : s = e := h
    subst h
    have := S' [] (q :: qs) [] s (by simp) h'
    cases this
  | p :: ps, [], s, e, h, h', S, _ => by
    have h' : s = e := h'
    subst h'
    have := S [] (p :: ps) [] s (by simp) h
    cases this
  | p :: ps, q :: qs, s, e, ⟨x, hx, hs, h3⟩, ⟨y, hy, hs', h3'⟩, S, S' => by
    have nx : x.2.1 ≠ x.1 := fun z => by
      have := S [] [p] ps x.1 rfl ⟨x, hx, rfl, z⟩
      cases this
    have ny : y.2.1 ≠ y.1 := fun z => by
      have := S' [] [q] qs y.1 rfl ⟨y, hy, rfl, z⟩
      cases this
    have e1 := U p q x y hx hy (by rw [hs, hs']) nx ny
    subst e1
    rw [hx] at hy
    cases hy
    rw [way_uniq U h3 h3' S.tail S'.tail]
theorem best_simple {gs : List Gt} {ws : List Wr} {s e : Nat} {ps : List Nat} (N : NetOk gs ws) (hs : s < gs.length) (h : Pw ws s ps e) (hb : best gs ws s e = some (prg ws ps, -pwt gs ws s ps)) : Smp ws ps := fun a c b u eq hc => by
  obtain ⟨ρ, hρ⟩ := N.rank
  by_cases z : c = []
  · exact z
  subst eq
  obtain ⟨m2, h1, h2⟩ := Pw.split h
  obtain ⟨m1, h3, h4⟩ := Pw.split h1
  have e1 : m1 = u := by
    cases c with
    | nil => exact absurd rfl z
    | cons p r =>
      obtain ⟨x, hx, q1, _⟩ := h4
      obtain ⟨y, hy, q2, _⟩ := hc
      rw [hx] at hy
      cases hy
      rw [← q1, q2]
  subst e1
  have e2 := Pw.fn h4 hc
  subst e2
  obtain ⟨c', hc', hle⟩ := best_le N hs (h3.app h2)
  rw [hb] at hc'
  cases hc'
  rw [leC_iff] at hle
  have hle : prg ws (a ++ c ++ b) < prg ws (a ++ b) ∨ (prg ws (a ++ c ++ b) = prg ws (a ++ b) ∧ _) := hle
  rw [prg_app, prg_app, prg_app] at hle
  have h0 := prg_nn ws c
  have hz : prg ws c = 0 := by
    rcases hle with hle | ⟨hle, _⟩ <;> omega
  have h5 := ring_regs hρ hc hz
  exact List.length_eq_zero_iff.mp (by omega)
theorem BdsOk.uniqP {gs : List Gt} {ws : List Wr} {b : Int} {pcs pcs' : List Pce} {bs bs' : List Bnd} (N : NetOk gs ws) (U : Uni ws) (h : BdsOk gs ws b pcs bs) (h' : BdsOk gs ws b pcs' bs') : pcs = pcs' := by
  have ho := h.ord.trans h'.ord.symm
  have hl := congrArg List.length ho
  rw [List.length_map, List.length_map] at hl
  refine List.ext_getElem hl fun i h1 h2 => ?_
  have e1 : endsF ws pcs[i] = endsF ws pcs'[i] := by
    have := congrArg (fun l => l[i]?) ho
    rw [List.getElem?_map, List.getElem?_map, List.getElem?_eq_getElem h1, List.getElem?_eq_getElem h2] at this
    exact Option.some.inj this
  have lt : pcs[i].1 < gs.length := by
    have hb := h.al.1
    obtain ⟨e, k, _⟩ := h.al.2 i pcs[i] (bs[i]'(by omega)) (List.getElem?_eq_getElem h1) (List.getElem?_eq_getElem (by omega))
    exact k
  obtain ⟨e, k1, k2⟩ := h.bst pcs[i] (List.getElem_mem h1)
  obtain ⟨e', k1', k2'⟩ := h'.bst pcs'[i] (List.getElem_mem h2)
  have e2 : pcs[i].1 = pcs'[i].1 := congrArg (fun q : Nat × Nat => q.1) e1
  have e3 : e = e' := by
    have := congrArg (fun q : Nat × Nat => q.2) e1
    have : endW ws pcs[i].1 pcs[i].2 = endW ws pcs'[i].1 pcs'[i].2 := this
    rw [endW_of k1, endW_of k1'] at this
    exact this
  subst e3
  have s1 := best_simple N lt k1 k2
  have s2 := best_simple N (by rw [← e2]; exact lt) k1' k2'
  rw [← e2] at k1'
  exact Prod.ext e2 (way_uniq U k1 k1' s1 s2)
theorem BdsOk.uniqB {gs : List Gt} {ws : List Wr} {b : Int} {pcs : List Pce} {bs bs' : List Bnd} (h : BdsOk gs ws b pcs bs) (h' : BdsOk gs ws b pcs bs') : bs = bs' := by
  refine List.ext_getElem (by rw [← h.al.1, ← h'.al.1]) fun i h1 h2 => ?_
  have hi : i < pcs.length := by rw [h.al.1]; exact h1
  obtain ⟨e, _, k1, k2⟩ := h.al.2 i pcs[i] bs[i] (List.getElem?_eq_getElem hi) (List.getElem?_eq_getElem h1)
  obtain ⟨e', _, k1', k2'⟩ := h'.al.2 i pcs[i] bs'[i] (List.getElem?_eq_getElem hi) (List.getElem?_eq_getElem h2)
  rw [k2, k2', Pw.fn k1 k1']
theorem bps_ext {bps bps' : List (Bnd × Pce)} (h1 : (bps.map fun bp => bp.2) = bps'.map fun bp => bp.2) (h2 : (bps.map fun bp => bp.1) = bps'.map fun bp => bp.1) : bps = bps' := by
  have hl := congrArg List.length h1
  rw [List.length_map, List.length_map] at hl
  refine List.ext_getElem hl fun i k1 k2 => ?_
  have a1 := congrArg (fun l => l[i]?) h1
  have a2 := congrArg (fun l => l[i]?) h2
  rw [List.getElem?_map, List.getElem?_map, List.getElem?_eq_getElem k1, List.getElem?_eq_getElem k2] at a1 a2
  exact Prod.ext (Option.some.inj a2) (Option.some.inj a1)
theorem BdsOk.uniq {gs : List Gt} {ws : List Wr} {b : Int} {bps bps' : List (Bnd × Pce)} (N : NetOk gs ws) (U : Uni ws) (h : BdsOk gs ws b (bps.map fun bp => bp.2) (bps.map fun bp => bp.1)) (h' : BdsOk gs ws b (bps'.map fun bp => bp.2) (bps'.map fun bp => bp.1)) : bps = bps' := by
  have e := h.uniqP N U h'
  rw [← e] at h'
  exact bps_ext e (h.uniqB h')
theorem FbL.uniq {gs : List Gt} {ws : List Wr} {b : Int} {L L' : Nat → Int} (N : NetOk gs ws) (U : Uni ws) (h : FbL gs ws b L) (h' : FbL gs ws b L') : L = L' := by
  obtain ⟨pcs, bs, F, k1, k2, rfl⟩ := h
  obtain ⟨pcs', bs', F', k1', k2', rfl⟩ := h'
  have e := k1.uniqP N U k1'
  subst e
  have e := k1.uniqB k1'
  subst e
  rw [k2.uniq k2']
theorem FbB.uniq {gs : List Gt} {ws : List Wr} {b : Int} {ps ps' : List Pce} (N : NetOk gs ws) (U : Uni ws) (h : FbB gs ws b ps) (h' : FbB gs ws b ps') : ps = ps' := by
  obtain ⟨pcs, bs, js, k1, k2, rfl⟩ := h
  obtain ⟨pcs', bs', js', k1', k2', rfl⟩ := h'
  have e := k1.uniqP N U k1'
  subst e
  have e := k1.uniqB k1'
  subst e
  rw [k2.uniq k2']
theorem FwX.uniq {gs : List Gt} {ws : List Wr} {b : Int} {L L' : Nat → Int} {es es' : List Ent} (N : NetOk gs ws) (U : Uni ws) (h : FwX gs ws b L es) (h' : FwX gs ws b L' es') : L = L' ∧ es = es' := by
  obtain ⟨bps, g, G, k1, k2, k3, rfl, k4, rfl⟩ := h
  obtain ⟨bps', g', G', k1', k2', k3', rfl, k4', rfl⟩ := h'
  have e := k1.uniq N U k1'
  subst e
  have e := k2.uniq k3 k2' k3'
  subst e
  rw [k4.uniq k4']
  exact ⟨rfl, rfl⟩
theorem FsX.uniq {gs : List Gt} {ws : List Wr} {b : Int} {L L' : Nat → Int} {ps ps' : List Nat} {es es' : List Ent} (N : NetOk gs ws) (U : Uni ws) (h : FsX gs ws b L ps es) (h' : FsX gs ws b L' ps' es') : L = L' ∧ ps = ps' ∧ es = es' := by
  obtain ⟨bps, g, G, k1, k2, k3, rfl, rfl, k4, rfl⟩ := h
  obtain ⟨bps', g', G', k1', k2', k3', rfl, rfl, k4', rfl⟩ := h'
  have e := k1.uniq N U k1'
  subst e
  have e := k2.uniq k3 k2' k3'
  subst e
  rw [k4.uniq k4']
  exact ⟨rfl, rfl, rfl⟩
end Lag

set_option maxRecDepth 100000
set_option maxHeartbeats 8000000
namespace Lag
open PySem PySem.Spec PyProof.Rows L2
abbrev sHouse : Stmt := topS 91 -- @_law_house
/-- the wires so far: n gates, those out of the gates below k -/
structure HsI (n k : Nat) (ws : List Wr) : Prop where
  st : ∀ x ∈ ws, x.1 < k
  en : ∀ x ∈ ws, x.2.1 = (x.1 + 1) % n ∨ (x.2.1 = x.1 ∧ x.2.2 ≠ [])
  rg : ∀ x ∈ ws, ROk x.2.2 ∧ x.2.2.length ≤ 3
  ls : ∀ x ∈ ws, x.1 + 1 = n → x.2.2 ≠ []
  un : Uni ws
  len : ws.length ≤ 2 * k
theorem HsI.nil (n : Nat) : HsI n 0 [] := ⟨fun x h => (nomatch h), fun x h => (nomatch h), fun x h => (nomatch h), fun x h => (nomatch h), fun p q x y h => by simp at h, Nat.le_refl _⟩
theorem get_snoc {α : Type} {l : List α} {a x : α} {p : Nat} (h : (l ++ [a])[p]? = some x) : (p < l.length ∧ l[p]? = some x) ∨ (p = l.length ∧ x = a) := by
  by_cases e : p < l.length
  · rw [List.getElem?_append_left e] at h
    exact .inl ⟨e, h⟩
  · rw [List.getElem?_append_right (by omega)] at h
    by_cases z : p - l.length = 0
    · rw [z] at h
      cases h
      exact .inr ⟨by omega, rfl⟩
    · rw [List.getElem?_eq_none (by rw [List.length_singleton]; omega)] at h
      cases h
theorem HsI.on {n k : Nat} {ws : List Wr} {r : List Int} (h : HsI n k ws) (hr : ROk r) (hl : r.length ≤ 3) (hz : k + 1 = n → r ≠ []) : HsI n (k + 1) (ws ++ [(k, (k + 1) % n, r)]) ∧ (ws ++ [(k, (k + 1) % n, r)]).length ≤ 2 * k + 1 := by
  have hlen := h.len
  refine ⟨⟨fun x hx => ?_, fun x hx => ?_, fun x hx => ?_, fun x hx e => ?_, fun p q x y hp hq e nx ny => ?_, by rw [List.length_append, List.length_singleton]; omega⟩, by rw [List.length_append, List.length_singleton]; omega⟩
  · rcases List.mem_append.mp hx with hx | hx
    · have := h.st x hx
      omega
    · rw [List.mem_singleton.mp hx]
      exact Nat.lt_succ_self k
  · rcases List.mem_append.mp hx with hx | hx
    · exact h.en x hx
    · rw [List.mem_singleton.mp hx]
      exact .inl rfl
  · rcases List.mem_append.mp hx with hx | hx
    · exact h.rg x hx
    · rw [List.mem_singleton.mp hx]
      exact ⟨hr, hl⟩
  · rcases List.mem_append.mp hx with hx | hx
    · exact h.ls x hx e
    · rw [List.mem_singleton.mp hx] at e ⊢
      exact hz e
  · rcases get_snoc hp with ⟨_, hp⟩ | ⟨hp, rfl⟩ <;> rcases get_snoc hq with ⟨_, hq⟩ | ⟨hq, rfl⟩
    · exact h.un p q x y hp hq e nx ny
    · have e : x.1 = k := e
      have := h.st x (List.mem_of_getElem? hp)
      omega
    · have e : k = y.1 := e
      have := h.st y (List.mem_of_getElem? hq)
      omega
    · omega
theorem HsI.loop {n k : Nat} {ws : List Wr} {r : List Int} (h : HsI n (k + 1) ws) (hl : ws.length ≤ 2 * k + 1) (hr : ROk r) (hl3 : r.length ≤ 3) (hz : r ≠ []) : HsI n (k + 1) (ws ++ [(k, k, r)]) := by
  refine ⟨fun x hx => ?_, fun x hx => ?_, fun x hx => ?_, fun x hx e => ?_, fun p q x y hp hq e nx ny => ?_, by rw [List.length_append, List.length_singleton]; omega⟩
  · rcases List.mem_append.mp hx with hx | hx
    · exact h.st x hx
    · rw [List.mem_singleton.mp hx]
      exact Nat.lt_succ_self k
  · rcases List.mem_append.mp hx with hx | hx
    · exact h.en x hx
    · rw [List.mem_singleton.mp hx]
      exact .inr ⟨rfl, hz⟩
  · rcases List.mem_append.mp hx with hx | hx
    · exact h.rg x hx
    · rw [List.mem_singleton.mp hx]
      exact ⟨hr, hl3⟩
  · rcases List.mem_append.mp hx with hx | hx
    · exact h.ls x hx e
    · rw [List.mem_singleton.mp hx]
      exact hz
  · rcases get_snoc hp with ⟨_, hp⟩ | ⟨hp, rfl⟩ <;> rcases get_snoc hq with ⟨_, hq⟩ | ⟨hq, rfl⟩
    · exact h.un p q x y hp hq e nx ny
    · exact absurd rfl ny
    · exact absurd rfl nx
    · omega
theorem HsI.net {n : Nat} {gs : List Gt} {ws : List Wr} (h : HsI n n ws) (hn : 2 ≤ n) (hn3 : n ≤ 3) (hg : gs.length = n) (hk : ∀ g ∈ gs, (g.1 = "sum" ∨ g.1 = "most") ∧ 0 ≤ g.2 ∧ g.2 ≤ 9) : NetOk gs ws := by
  have hkind : ∀ i, i < gs.length → kindAt gs i = "sum" ∨ kindAt gs i = "most" := fun i hi => by
    rw [kindAt_get (List.getElem?_eq_getElem hi)]
    exact (hk _ (List.getElem_mem hi)).1
  have hlen := h.len
  have en : ∀ x ∈ ws, x.2.1 < gs.length := fun x hx => by
    have h1 := h.st x hx
    rcases h.en x hx with e | ⟨e, _⟩
    · rw [e, hg]
      exact Nat.mod_lt _ (by omega)
    · rw [e, hg]
      exact h1
  refine ⟨fun e => ?_, by omega, by omega, fun g hgm => ?_, fun x hx => ?_, fun e he ho => ?_, fun e he ho => ?_, ⟨fun v => v, fun x hx e => ?_⟩⟩
  · rw [e] at hg
    have hg : 0 = n := hg
    omega
  · obtain ⟨h1, h2, h3⟩ := hk g hgm
    refine ⟨?_, h2, by omega, fun hp => ?_⟩
    · rcases h1 with e | e <;> rw [e] <;> decide
    · unfold portK at hp
      rcases h1 with e | e <;> rw [e] at hp <;> exact absurd hp (by decide)
  · have h1 := h.st x hx
    obtain ⟨h2, h3⟩ := h.rg x hx
    refine ⟨by rw [hg]; exact h1, en x hx, fun e => ?_, fun e => ?_, h2, by omega⟩
    · rcases hkind x.1 (by rw [hg]; exact h1) with z | z <;> rw [z] at e <;> exact absurd e (by decide)
    · rcases hkind x.2.1 (en x hx) with z | z <;> rw [z] at e <;> exact absurd e (by decide)
  · rcases hkind e he with z | z <;> rw [z] at ho <;> exact absurd ho (by decide)
  · rcases hkind e he with z | z <;> rw [z] at ho <;> exact absurd ho (by decide)
  · show x.1 < x.2.1
    have h1 := h.st x hx
    rcases h.en x hx with z | ⟨_, z⟩
    · by_cases l : x.1 + 1 = n
      · exact absurd e (h.ls x hx l)
      · rw [z, Nat.mod_eq_of_lt (by omega)]
        exact Nat.lt_succ_self _
    · exact absurd e z
def spHouse (K : PySem.W.Frag) (C : Addr) : Sp := fun vs H Q _ => ∃ wl : Addr, vs = [.ref wl] ∧ WellAt wl H ∧
  ∀ (p ng nw : Addr) (gs : List Gt) (ws : List Wr) H', Dr wl H H' → NetAt K C H' p ng nw gs ws → NetOk gs ws → Uni ws → gs.length ≤ 3 → (∀ x ∈ ws, x.2.2.length ≤ 3) → Q (.ref p) H'
section
variable {P : Program} {w : World} {K : PySem.W.Frag} {mg : Str → Option Value} {base : Heap}
abbrev nHouse : List Str := ["_law_well_here", "_law_some", "_law_k", "_law_boxes", "_law_lines"]
theorem scHouse : FnScope nHouse ["_law_well_here"] (defScope sHouse) := ⟨rfl, rfl, rfl, by decide +kernel, rfl, by decide +kernel, by decide +kernel⟩
abbrev DHouse (P : Program) (w : World) (K : PySem.W.Frag) (mg : Str → Option Value) (base : Heap) (C : Addr) := Df P w K mg base 8 "_law_house" ["_law_well_here"] (spHouse K C)
theorem ok_house {f fD fI C : Addr} {fd fdD fdI : FuncData} (F : Fun K "_law_house" "_law_house" sHouse f fd) (hm : mg "_law_house" = some (.ref f)) (B : Bt mg) (T : NT K mg C) (MK : Mk K C fI) (init : FnOk P w K mg base CX0 6 fI fdI ["self", "gates", "wires"] (spInit K C)) (bI : Binds K fdI ["self", "gates", "wires"] []) (DD : DDraw P w K mg base fD fdD) : DHouse P w K mg base C f fd := by
  refine ⟨?_, hm, F.kp, F.binds fun _ _ _ _ _ _ us hl => match us, hl with | [_], _ => rfl⟩
  refine F.ok scHouse (fun vs H Q E h => ?_) (fun cdv A outer s H vs Q E hr h => ?_)
  · obtain ⟨wl, rfl, _⟩ := h
    rfl
  · obtain ⟨wl, rfl, hw, q⟩ := h
    have nd := scHouse.nd
    refine ⟨_, pss_cons (ps_set (i := 1) nd rfl (.inl rfl) (pe_op op_add pe_int (pe_call DD.ok (hr.mono (by decide)) (by rfl) DD.mg DD.kp DD.bd .nil pass0 (pa_cons (pv 0) (pa_cons pe_int pa_nil))))) <|
        pss_cons (ps_setLc (i := 3) (own := [("_law_k", 2)]) (g := (gName 2)) (tt := tYes) (te := (tTup (tCons (tOp (rIxL K) (tLst (tCons (tC (.str "sum")) (tCons (tC (.str "most")) tNil))) (tCall spDraw [] E0 (tCons (tVar 0) (tCons (tC (.int 2)) tNil)))) (tCons (tCall spDraw [] E0 (tCons (tVar 0) (tCons (tC (.int 9)) tNil))) tNil)))) rfl nd rfl rfl (sw_true rfl rfl rfl (by decide +kernel)) (pi_range1 (by rfl) B.range (pa_cons (pv 1) pa_nil)) (blkOk_by (N := nHouse) (sc := defScope sHouse) (own := [("_law_k", 2)]) (by decide +kernel)) (fun _ _ _ _ _ => (pg_name (i := 2) nd rfl (.inl rfl))) (fun _ _ _ _ _ => pts_nil) (fun _ _ _ _ _ => (pe_tup (pa_cons (pe_ix ix_list (pe_lst (pa_cons pe_str (pa_cons pe_str pa_nil))) (pe_call DD.ok (hr.mono (by decide)) (by rfl) DD.mg DD.kp DD.bd .nil pass0 (pa_cons (pv 0) (pa_cons pe_int pa_nil))) (fun _ _ => rfl)) (pa_cons (pe_call DD.ok (hr.mono (by decide)) (by rfl) DD.mg DD.kp DD.bd .nil pass0 (pa_cons (pv 0) (pa_cons pe_int pa_nil))) pa_nil))))) <|
        pss_cons (ps_set (i := 4) nd rfl (.inl rfl) (pe_lst pa_nil)) <|
        pss_cons (ps_for PassesOwn.never rfl (pi_range1 (by rfl) B.range (pa_cons (pv 1) pa_nil)) (pg_name (i := 2) nd rfl (.inl rfl)) (pss_cons (ps_expr (pe_bm PySem.F.plainAttrs_list PySem.F.slot_list_append PySem.F.type_list_append mt_append (pv 4) (pa_cons (pe_tup (pa_cons (pv 2) (pa_cons (pe_op op_mod (pe_op op_add (pv 2) pe_int) (pv 1)) (pa_cons (pe_callTy call_tuple_of (by rfl) B.tuple (by decide +kernel) (pa_cons (pe_op op_rep (pe_lst (pa_cons pe_int pa_nil)) (pe_op op_add (pe_call DD.ok (hr.mono (by decide)) (by rfl) DD.mg DD.kp DD.bd .nil pass0 (pa_cons (pv 0) (pa_cons pe_int pa_nil))) (pe_callTy call_int1 (by rfl) B.int (by decide +kernel) (pa_cons (pe_cmpR op_eq (pv 2) (pe_op op_sub (pv 1) pe_int) (nomark _)) pa_nil)))) pa_nil)) pa_nil)))) pa_nil))) <|
        pss_one (ps_if (pt_cmpR op_eq (pe_call DD.ok (hr.mono (by decide)) (by rfl) DD.mg DD.kp DD.bd .nil pass0 (pa_cons (pv 0) (pa_cons pe_int pa_nil))) pe_int (nomark _)) (pss_one (ps_expr (pe_bm PySem.F.plainAttrs_list PySem.F.slot_list_append PySem.F.type_list_append mt_append (pv 4) (pa_cons (pe_tup (pa_cons (pv 2) (pa_cons (pv 2) (pa_cons (pe_slice sl_tupA (pe_tup (pa_cons pe_int (pa_cons pe_int pa_nil))) po_none (po_some (pe_op op_add pe_int (pe_call DD.ok (hr.mono (by decide)) (by rfl) DD.mg DD.kp DD.bd .nil pass0 (pa_cons (pv 0) (pa_cons pe_int pa_nil)))))) pa_nil)))) pa_nil)))) pss_nil))) <|
        pss_one (ps_ret (pe_make MK init (hr.mono (by decide)) (by rfl) T.mg bI .nil pass0 (pa_cons (pv 3) (pa_cons (pv 4) pa_nil)))), ?_⟩
    refine ⟨_, rfl, wl, 2, rfl, by decide, by decide, hw, fun d H1 d0 d1 D1 => ?_⟩
    refine ⟨_, _, rfl, rfl, ?_⟩
    obtain ⟨n, hn, hn2, hn3⟩ : ∃ n : Nat, (2 : Int) + d = (n : Int) ∧ 2 ≤ n ∧ n ≤ 3 := ⟨(2 + d).toNat, by omega, by omega, by omega⟩
    refine gn_norm (σ' := [some (.ref wl), some (.int (n : Nat)), none, none, none]) (by show [some (V.ref wl), some (V.int (2 + d)), none, none, none] = _; rw [hn]) ?_
    refine ⟨_, rfl, _, rfl, by omega, by omega, fun lg hlg => ?_⟩
    have nlg : lg ≠ wl := (D1.well.ne hlg).symm
    have hlg0 : H lg = none := D1.free hw hlg
    rw [Int.toNat_natCast]
    refine lc_range (lo := 0) (n := n) (fun i Hc => ∃ (acc : List V) (gs : List Gt), Hc lg = some (.lst acc) ∧ All2 (GateV K Hc) acc gs ∧ gs.length = i ∧ (∀ g ∈ gs, (g.1 = "sum" ∨ g.1 = "most") ∧ 0 ≤ g.2 ∧ g.2 ≤ 9) ∧ Dr wl H Hc) ⟨[], [], upd_same, All2.nil, rfl, (fun g h => nomatch h), D1.trans (Dr.new D1.well hlg)⟩ ?_ ?_
    · rintro i Hc hi ⟨acc, gs, hc, ga, hgl, hgk, D⟩
      have hal : acc.length = i := by rw [ga.1, hgl]
      refine ⟨rfl, tyes ?_⟩
      refine ⟨(by show 2 ≤ sizeLine; decide), fun l2 hl2 => ?_⟩
      have E2 := Dr.new (o := .lst [.str "sum", .str "most"]) D.well hl2
      have el2 : (upd Hc l2 (.lst [.str "sum", .str "most"])) l2 = some (.lst [.str "sum", .str "most"]) := upd_same
      have nl2 : l2 ≠ wl := (D.well.ne hl2).symm
      generalize upd Hc l2 (.lst [.str "sum", .str "most"]) = H2 at E2 el2
      refine ⟨_, rfl, wl, 2, rfl, by decide, by decide, E2.well, fun j H3 j0 j1 E3 => ?_⟩
      have el3 := E3.but _ _ nl2 el2
      obtain ⟨kd, hkd, hk⟩ : ∃ kd : Str, ([.str "sum", .str "most"] : List V)[j.toNat]? = some (.str kd) ∧ (kd = "sum" ∨ kd = "most") := by
        rcases (by omega : j.toNat = 0 ∨ j.toNat = 1) with h | h <;> rw [h]
        · exact ⟨"sum", rfl, .inl rfl⟩
        · exact ⟨"most", rfl, .inr rfl⟩
      refine ⟨l2, _, j, .str kd, rfl, rfl, SqL.of el3, at_of (j := j.toNat) (by omega) hkd, ?_⟩
      refine ⟨_, rfl, wl, 9, rfl, by decide, by decide, E3.well, fun wt H4 w0 w1 E4 => ?_⟩
      refine ⟨(by show 2 ≤ sizeLine; decide), fun tp htp => ?_⟩
      have E5 := ((E2.trans E3).trans E4).trans (Dr.new (o := .tup [.str kd, .int wt]) E4.well htp)
      have e5 : (upd H4 tp (.tup [.str kd, .int wt])) tp = some (.tup [.str kd, .int wt]) := upd_same
      generalize upd H4 tp (.tup [.str kd, .int wt]) = H5 at E5 e5
      have hc5 := E5.but _ _ nlg hc
      refine ⟨acc, hc5, small1000 (by omega), acc ++ [.ref tp], gs ++ [(kd, wt)], upd_same, ?_, by rw [List.length_append, hgl]; rfl, fun g hg => ?_, set_well (D.trans E5) hlg0 nlg⟩
      · exact All2.pushT (fun t r => GateV.tk t r) ga hc5 (TK.dr D.well E5.but) ⟨tp, rfl, .inl (.inl e5)⟩
      · rcases List.mem_append.mp hg with hg | hg
        · exact hgk g hg
        · rw [List.mem_singleton.mp hg]
          exact ⟨hk, w0, by omega⟩
    rintro H2 ⟨acc, gs, hc, ga, hgl, hgk, D2⟩
    have G2 : LG K H2 lg gs := ⟨acc, hc, ga⟩
    refine gn_norm (σ' := [some (.ref wl), some (.int (n : Nat)), none, some (.ref lg), none]) rfl ?_
    refine ⟨(by show 0 ≤ sizeLine; decide), fun lw hlw => ?_⟩
    have E3 := Dr.new (o := .lst []) D2.well hlw
    have e3 : (upd H2 lw (.lst [])) lw = some (.lst []) := upd_same
    have nlw : lw ≠ wl := (D2.well.ne hlw).symm
    have hlw0 : H lw = none := D2.free hw hlw
    have ngw : lg ≠ lw := ne_of_none hc hlw
    have D3 := D2.trans E3
    have G3 : LG K (upd H2 lw (.lst [])) lg gs := G2.same' (same_new hlw)
    obtain ⟨H3, hH3⟩ : ∃ H3, H3 = upd H2 lw (.lst []) := ⟨_, rfl⟩
    rw [← hH3] at D3 e3 G3
    refine gn_normH (σ' := [some (.ref wl), some (.int (n : Nat)), none, some (.ref lg), some (.ref lw)]) (H' := H3) rfl hH3.symm ?_
    refine ⟨_, rfl, _, rfl, by omega, by omega, for_range (lo := 0) (n := ((n : Nat) : Int).toNat) (fun i σ H' => ∃ (u2 : Option V) (wv : List V) (ws : List Wr), σ = [some (.ref wl), some (.int (n : Nat)), u2, some (.ref lg), some (.ref lw)] ∧ H' lw = some (.lst wv) ∧ All2 (WireV K H') wv ws ∧ HsI n i ws ∧ LG K H' lg gs ∧ Dr wl H H')
      ⟨_, [], [], rfl, e3, All2.nil, HsI.nil n, G3, D3⟩ ?_ ?_⟩
    · rintro i σ H4 hi ⟨u2, wv, ws, rfl, hwv, wa, hs, G4, D4⟩
      rw [Int.toNat_natCast] at hi
      have ei : (0 : Int) + ((i : Nat) : Int) = ((i : Nat) : Int) := Int.zero_add _
      rw [ei]
      have hwl : wv.length = ws.length := wa.1
      have hlen := hs.len
      refine gn_norm (σ' := [some (.ref wl), some (.int (n : Nat)), some (.int (i : Nat)), some (.ref lg), some (.ref lw)]) rfl ?_
      refine ⟨_, rfl, .inl ⟨rfl, _, SqL.of hwv⟩, _, rfl, _, rfl, _, _, rfl, rfl, _, rfl, _, _, rfl, rfl, (by omega), (by show 1 ≤ sizeLine; decide), fun l0 hl0 => ?_⟩
      have E5 := Dr.new (o := .lst [.int 1]) D4.well hl0
      have e5 : (upd H4 l0 (.lst [.int 1])) l0 = some (.lst [.int 1]) := upd_same
      have nl0 : l0 ≠ wl := (D4.well.ne hl0).symm
      generalize upd H4 l0 (.lst [.int 1]) = H5 at E5 e5
      refine ⟨_, rfl, wl, 3, rfl, by decide, by decide, E5.well, fun m H6 m0 m1 E6 => ?_⟩
      have e6 := E6.but _ _ nl0 e5
      refine ⟨_, rfl, _, rfl, _, _, rfl, rfl, rfl, .inr ⟨_, rfl, _, _, rfl, rfl, l0, _, _, rfl, rfl, e6, ?_, ?_, ?_, fun l7 hl7 => ?_⟩⟩
      · split <;> omega
      · split <;> omega
      · show 1 * _ ≤ sizeLine
        exact Nat.le_of_lt (small1000 (by split <;> omega))
      obtain ⟨r, hr, rl, rz⟩ : ∃ r : Nat, m + (if decide (V.int ((i : Nat) : Int) = V.int (((n : Nat) : Int) - 1)) = true then 1 else 0) = ((r : Nat) : Int) ∧ r ≤ 3 ∧ (i + 1 = n → 1 ≤ r) := by
        by_cases z : i + 1 = n
        · have : V.int ((i : Nat) : Int) = V.int (((n : Nat) : Int) - 1) := by rw [show ((n : Nat) : Int) - 1 = ((i : Nat) : Int) by omega]
          rw [if_pos (decide_eq_true this)]
          exact ⟨(m + 1).toNat, by omega, by omega, fun _ => by omega⟩
        · have : ¬ V.int ((i : Nat) : Int) = V.int (((n : Nat) : Int) - 1) := fun e => by
            have := V.int.inj e
            omega
          rw [if_neg (by rw [decide_eq_false this]; decide)]
          exact ⟨m.toNat, by omega, by omega, fun e => absurd e z⟩
      have er : (List.replicate (m + (if decide (V.int ((i : Nat) : Int) = V.int (((n : Nat) : Int) - 1)) = true then 1 else 0)).toNat [V.int 1]).flatten = (List.replicate r (1 : Int)).map V.int := by
        rw [hr, Int.toNat_natCast, List.map_replicate]
        exact List.flatten_replicate_singleton
      rw [er]
      have E7 := (E5.trans E6).trans (Dr.new (o := .lst ((List.replicate r (1 : Int)).map V.int)) E6.well hl7)
      have e7 : (upd H6 l7 (.lst ((List.replicate r (1 : Int)).map V.int))) l7 = some (.lst ((List.replicate r (1 : Int)).map V.int)) := upd_same
      generalize upd H6 l7 (.lst ((List.replicate r (1 : Int)).map V.int)) = H7 at E7 e7
      refine ⟨l7, _, rfl, .inl ⟨SqL.of e7, fun b hb => ?_⟩⟩
      have E8 := E7.trans (Dr.new (o := .tup ((List.replicate r (1 : Int)).map V.int)) E7.well hb)
      have e8 : (upd H7 b (.tup ((List.replicate r (1 : Int)).map V.int))) b = some (.tup ((List.replicate r (1 : Int)).map V.int)) := upd_same
      generalize upd H7 b (.tup ((List.replicate r (1 : Int)).map V.int)) = H8 at E8 e8
      have emod : (((i : Nat) : Int) + 1) % ((n : Nat) : Int) = (((i + 1) % n : Nat) : Int) := by rw [show ((i : Nat) : Int) + 1 = ((i + 1 : Nat) : Int) by omega]; rfl
      refine ⟨(by show 3 ≤ sizeLine; decide), fun t ht => ?_⟩
      have E9 := E8.trans (Dr.new (o := .tup [.int ((i : Nat) : Int), .int ((((i : Nat) : Int) + 1) % ((n : Nat) : Int)), .ref b]) E8.well ht)
      have e9 : (upd H8 t (.tup [.int ((i : Nat) : Int), .int ((((i : Nat) : Int) + 1) % ((n : Nat) : Int)), .ref b])) t = some (.tup [.int ((i : Nat) : Int), .int (((i + 1) % n : Nat) : Int), .ref b]) := by rw [upd_same, emod]
      have e9b := (same_new (H := H8) (p := t) (o := .tup [.int ((i : Nat) : Int), .int ((((i : Nat) : Int) + 1) % ((n : Nat) : Int)), .ref b]) ht) _ _ e8
      generalize upd H8 t (.tup [.int ((i : Nat) : Int), .int ((((i : Nat) : Int) + 1) % ((n : Nat) : Int)), .ref b]) = H9 at E9 e9 e9b
      have hw9 := E9.but _ _ nlw hwv
      refine ⟨lw, wv, _, rfl, rfl, hw9, small1000 (by omega), ?_⟩
      have wr9 : WireV K H9 (.ref t) (i, (i + 1) % n, List.replicate r 1) := ⟨t, b, rfl, .inl (.inl e9), .inl (.inl e9b)⟩
      have wa10 := All2.pushT (R := WireV K) (o := .lst (wv ++ [.ref t])) (fun t r => WireV.tk t r) wa hw9 (TK.dr D4.well E9.but) wr9
      have D10 : Dr wl H (upd H9 lw (.lst (wv ++ [.ref t]))) := set_well (D4.trans E9) hlw0 nlw
      have hw10 : (upd H9 lw (.lst (wv ++ [.ref t]))) lw = some (.lst (wv ++ [.ref t])) := upd_same
      have G10 : LG K (upd H9 lw (.lst (wv ++ [.ref t]))) lg gs := by
        obtain ⟨gv, hgv, ga'⟩ := G4
        exact ⟨gv, (upd_ne ngw).trans (E9.but _ _ nlg hgv), (ga'.imp fun _ _ x => x.tk (TK.dr D4.well E9.but)).imp fun _ _ x => x.tk (TK.lst hw9)⟩
      have rok : ROk (List.replicate r (1 : Int)) := fun x hx => by
        rw [List.eq_of_mem_replicate hx]
        decide
      obtain ⟨hs1, hl1⟩ := hs.on (r := List.replicate r 1) rok (by rw [List.length_replicate]; exact rl) (fun z e => by
        have := congrArg List.length e
        rw [List.length_replicate] at this
        have := rz z
        simp at *
        omega)
      generalize upd H9 lw (.lst (wv ++ [.ref t])) = H10 at wa10 D10 hw10 G10
      -- a ring of its own
      refine ⟨_, rfl, wl, 2, rfl, by decide, by decide, D10.well, fun y H11 y0 y1 E11 => ?_⟩
      have hw11 := E11.but _ _ nlw hw10
      have wa11 := wa10.imp fun _ _ x => WireV.tk (TK.dr D10.well E11.but) x
      have G11 : LG K H11 lg gs := G10.dr nlg D10.well E11
      have D11 := D10.trans E11
      refine ⟨rfl, _, rfl, ite2 (fun _ => ?_) (fun _ => ⟨_, _, _, rfl, hw11, wa11, hs1, G11, D11⟩)⟩
      refine ⟨_, rfl, .inl ⟨rfl, _, SqL.of hw11⟩, _, rfl, _, rfl, (by show 2 ≤ sizeLine; decide), fun l2 hl2 => ?_⟩
      have E12 := Dr.new (o := .tup [.int 2, .int 3]) D11.well hl2
      have e12 : (upd H11 l2 (.tup [.int 2, .int 3])) l2 = some (.tup [.int 2, .int 3]) := upd_same
      have nl2 : l2 ≠ wl := (D11.well.ne hl2).symm
      generalize upd H11 l2 (.tup [.int 2, .int 3]) = H12 at E12 e12
      refine ⟨_, rfl, wl, 2, rfl, by decide, by decide, E12.well, fun z H13 z0 z1 E13 => ?_⟩
      have e13 := E13.but _ _ nl2 e12
      have D13 := D11.trans (E12.trans E13)
      have hw13 := (E12.trans E13).but _ _ nlw hw11
      have wa13 := wa11.imp fun _ _ x => WireV.tk (TK.dr D11.well (E12.trans E13).but) x
      have G13 : LG K H13 lg gs := G11.dr nlg D11.well (E12.trans E13)
      have hwl13 : wv.length + 1 = ws.length + 1 := by rw [hwl]
      have fin : ∀ (b : Addr) (r : List Int) (H14 : Hp), Dr wl H13 H14 → SqT K H14 b (r.map V.int) → ROk r → r.length ≤ 3 → r ≠ [] → 3 ≤ sizeLine ∧ ∀ t, H14 t = none → ∃ (a : Addr) (xs : List V) (v : V), V.ref lw = .ref a ∧ [V.ref t] = [v] ∧ (upd H14 t (.tup [.int ((i : Nat) : Int), .int ((i : Nat) : Int), .ref b])) a = some (.lst xs) ∧ xs.length < sizeLine ∧ ∃ (u2 : Option V) (wv : List V) (ws : List Wr), [some (V.ref wl), some (V.int (n : Nat)), some (V.int (i : Nat)), some (V.ref lg), some (V.ref lw)] = [some (.ref wl), some (.int (n : Nat)), u2, some (.ref lg), some (.ref lw)] ∧ (upd (upd H14 t (.tup [.int ((i : Nat) : Int), .int ((i : Nat) : Int), .ref b])) a (.lst (xs ++ [v]))) lw = some (.lst wv) ∧ All2 (WireV K (upd (upd H14 t (.tup [.int ((i : Nat) : Int), .int ((i : Nat) : Int), .ref b])) a (.lst (xs ++ [v])))) wv ws ∧ HsI n (i + 1) ws ∧ LG K (upd (upd H14 t (.tup [.int ((i : Nat) : Int), .int ((i : Nat) : Int), .ref b])) a (.lst (xs ++ [v]))) lg gs ∧ Dr wl H (upd (upd H14 t (.tup [.int ((i : Nat) : Int), .int ((i : Nat) : Int), .ref b])) a (.lst (xs ++ [v]))) := fun b r H14 E14 sq ro r3 rn => by
        refine ⟨by decide, fun t ht => ?_⟩
        have E15 := E14.trans (Dr.new (o := .tup [.int ((i : Nat) : Int), .int ((i : Nat) : Int), .ref b]) E14.well ht)
        have e15 : (upd H14 t (.tup [.int ((i : Nat) : Int), .int ((i : Nat) : Int), .ref b])) t = some (.tup [.int ((i : Nat) : Int), .int ((i : Nat) : Int), .ref b]) := upd_same
        have sq15 := (TK.same (same_new (H := H14) (p := t) (o := .tup [.int ((i : Nat) : Int), .int ((i : Nat) : Int), .ref b]) ht)).seq sq
        generalize upd H14 t (.tup [.int ((i : Nat) : Int), .int ((i : Nat) : Int), .ref b]) = H15 at E15 e15 sq15
        have hw15 := E15.but _ _ nlw hw13
        have wr15 : WireV K H15 (.ref t) (i, i, r) := ⟨t, b, rfl, .inl (.inl e15), sq15⟩
        refine ⟨lw, _, _, rfl, rfl, hw15, small1000 (by rw [List.length_append, List.length_singleton]; omega), _, _, _, rfl, upd_same, All2.pushT (R := WireV K) (fun t r => WireV.tk t r) wa13 hw15 (TK.dr D13.well E15.but) wr15, hs1.loop hl1 ro r3 rn, ?_, set_well (D13.trans E15) hlw0 nlw⟩
        obtain ⟨gv, hgv, ga'⟩ := G13
        exact ⟨gv, (upd_ne ngw).trans (E15.but _ _ nlg hgv), (ga'.imp fun _ _ x => x.tk (TK.dr D13.well E15.but)).imp fun _ _ x => x.tk (TK.lst hw15)⟩
      refine ⟨_, _, rfl, rfl, _, rfl, l2, _, rfl, .inl (.inl e13), fun _ => ?_, fun _ b hb => ?_⟩
      · exact fin l2 [2, 3] H13 ⟨But.refl _ _, D13.well⟩ (.inl (.inl e13)) (fun x hx => by
          rcases List.mem_cons.mp hx with rfl | hx
          · decide
          · rw [List.mem_singleton.mp hx]
            decide) (by decide) (by decide)
      · obtain ⟨r, e, h1, h2, h3⟩ : ∃ r : List Int, cutV [V.int 2, V.int 3] none (some (1 + z)) = r.map V.int ∧ ROk r ∧ r.length ≤ 3 ∧ r ≠ [] := by
          rcases (by omega : z = 0 ∨ z = 1) with rfl | rfl
          · refine ⟨[2], rfl, fun x hx => ?_, by decide, by decide⟩
            rw [List.mem_singleton.mp hx]
            decide
          · refine ⟨[2, 3], rfl, fun x hx => ?_, by decide, by decide⟩
            rcases List.mem_cons.mp hx with rfl | hx
            · decide
            · rw [List.mem_singleton.mp hx]
              decide
        rw [e]
        exact fin b r _ (Dr.new D13.well hb) (.inl (.inl upd_same)) h1 h2 h3
    · rintro σ H4 ⟨u2, wv, ws, rfl, hwv, wa, hs, G4, D4⟩
      rw [Int.toNat_natCast] at hs
      have W4 : LW K H4 lw ws := ⟨wv, hwv, wa⟩
      have N := hs.net hn2 hn3 hgl hgk
      refine ⟨_, rfl, _, rfl, ?_⟩
      refine net_in G4.rg W4.rw N fun p ng nw H5 NA s5 hp hng hnw => ?_
      exact q p ng nw gs ws H5 (D4.trans (Dr.ofSame D4.well s5)) NA N hs.un (by omega) (fun x hx => (hs.rg x hx).2)
end
end Lag

set_option maxRecDepth 100000
set_option maxHeartbeats 8000000
namespace Lag
open PySem PySem.Spec PyProof.Rows L2
/-! ### calls by keywords alone -/
section
variable {X : Cx} {CX : CXT} {k : Nat} {f : Addr} {fd : FuncData} {ps ks : List Str} {sp : Sp} {E : XK} {x : Str} {p pos : Pos} {kws : List Keyword} {tk : TA} {g : List Value → List Value → List Value} {gV : List V → List V → List V}
theorem pe_callK0 (F : FnOk X.prog X.w X.K X.mg X.base CX k f fd ps sp) (hr : Room k X.A) (hg : Gl X x) (hm : X.mg x = some (.ref f)) (hk : PySem.W.keepIn X.K (.ref f) = true) (hb : KBinds X.K fd ps ks g gV) (hx : Passes CX X E) (hkw : PK X kws tk)
    (hall : (backToKw pos (keywordEach kws X.env)).all (·.1.isSome) = true := by rfl) (hks : (backToKw pos (keywordEach kws X.env)).filterMap (·.1) = ks := by rfl) (hdb : (x == ("__debug__" : Str)) = false := by decide)
    (hpl : ((backTo pos (starEach [] X.env)).any (·.1) || (backToKw pos (keywordEach kws X.env)).any (·.1.isNone)) = false := by rfl) :
    PE X (.Call (.Name x p) [] kws pos) (tCallK sp gV E tNil tk) := by
  refine ⟨fun pins s σ H Q I h => ?_⟩
  refine wpAny_Call_Name_kw (ld_glob I hg hm ?_ hdb)
  refine PySem.W.callWith_KW0 (h₀ := X.base) I.ok.mod.kin hk hall ?_ hpl
  refine thn (hkw.run pos pins s σ H _ I h) fun ws s2 ⟨zs, H2, I2, rz, q2⟩ => ⟨I2.kIn, ?_⟩
  rw [hks]
  exact run_fnk (us := []) (vs := []) F hr hb hx I2 .nil rz q2
end
/-- two things by their names, turned about -/
def swp {α : Type} (us ws : List α) : List α := match us, ws with
  | [], [a, b] => [b, a]
  | _, _ => []
/-- one thing by its name -/
def one1 {α : Type} (us ws : List α) : List α := match us, ws with
  | [], [a] => [a]
  | _, _ => []
theorem swp_rel {vs zs : List V} {us ws : List Value} (h : Vals vs us) (h' : Vals zs ws) : Vals (swp vs zs) (swp us ws) := by
  cases h with
  | cons _ _ => exact .nil
  | nil =>
    cases h' with
    | nil => exact .nil
    | cons r1 h1 =>
      cases h1 with
      | nil => exact .nil
      | cons r2 h2 =>
        cases h2 with
        | nil => exact .cons r2 (.cons r1 .nil)
        | cons _ _ => exact .nil
theorem one1_rel {vs zs : List V} {us ws : List Value} (h : Vals vs us) (h' : Vals zs ws) : Vals (one1 vs zs) (one1 us ws) := by
  cases h with
  | cons _ _ => exact .nil
  | nil =>
    cases h' with
    | nil => exact .nil
    | cons r1 h1 =>
      cases h1 with
      | nil => exact .cons r1 .nil
      | cons _ _ => exact .nil
theorem kb_swp {K : PySem.W.Frag} {x qual : Str} {st : Stmt} {f : Addr} {fd : FuncData} {p1 p2 : Str} (F : Fun K x qual st f fd)
    (h : ∀ (kV doc pm : Value) (an : Option Addr) (cdv ct a b : Value), bindArgs (PySem.W.fnOf x qual (defArgs st) (defBody st) (defScope st) .none kV doc pm an cdv ct) ⟨[], [(p2, a), (p1, b)]⟩ = pure [(p1, b), (p2, a)]) : KBinds K fd [p1, p2] [p2, p1] swp swp := by
  obtain ⟨oc, od, kV, doc, pm, an, cdv, ct, osl, rfl, lk, hcd⟩ := F.ex
  refine ⟨fun s us ws _ hl => ?_, swp_rel⟩
  match us, ws, hl with
  | [], [a, b], _ => exact .of_eq (h kV doc pm an cdv ct a b)
theorem kb_one {K : PySem.W.Frag} {x qual : Str} {st : Stmt} {f : Addr} {fd : FuncData} {p1 : Str} (F : Fun K x qual st f fd)
    (h : ∀ (kV doc pm : Value) (an : Option Addr) (cdv ct a : Value), bindArgs (PySem.W.fnOf x qual (defArgs st) (defBody st) (defScope st) .none kV doc pm an cdv ct) ⟨[], [(p1, a)]⟩ = pure [(p1, a)]) : KBinds K fd [p1] [p1] one1 one1 := by
  obtain ⟨oc, od, kV, doc, pm, an, cdv, ct, osl, rfl, lk, hcd⟩ := F.ex
  refine ⟨fun s us ws _ hl => ?_, one1_rel⟩
  match us, ws, hl with
  | [], [a], _ => exact .of_eq (h kV doc pm an cdv ct a)
/-- three things by their names, turned about -/
def rev3 {α : Type} (us ws : List α) : List α := match us, ws with
  | [], [a, b, c] => [c, b, a]
  | _, _ => []
theorem rev3_rel {vs zs : List V} {us ws : List Value} (h : Vals vs us) (h' : Vals zs ws) : Vals (rev3 vs zs) (rev3 us ws) := by
  cases h with
  | cons _ _ => exact .nil
  | nil =>
    cases h' with
    | nil => exact .nil
    | cons r1 h1 =>
      cases h1 with
      | nil => exact .nil
      | cons r2 h2 =>
        cases h2 with
        | nil => exact .nil
        | cons r3 h3 =>
          cases h3 with
          | nil => exact .cons r3 (.cons r2 (.cons r1 .nil))
          | cons _ _ => exact .nil
theorem kb_rev3 {K : PySem.W.Frag} {x qual : Str} {st : Stmt} {f : Addr} {fd : FuncData} {p1 p2 p3 : Str} (F : Fun K x qual st f fd)
    (h : ∀ (kV doc pm : Value) (an : Option Addr) (cdv ct a b c : Value), bindArgs (PySem.W.fnOf x qual (defArgs st) (defBody st) (defScope st) .none kV doc pm an cdv ct) ⟨[], [(p3, a), (p2, b), (p1, c)]⟩ = pure [(p1, c), (p2, b), (p3, a)]) : KBinds K fd [p1, p2, p3] [p3, p2, p1] rev3 rev3 := by
  obtain ⟨oc, od, kV, doc, pm, an, cdv, ct, osl, rfl, lk, hcd⟩ := F.ex
  refine ⟨fun s us ws _ hl => ?_, rev3_rel⟩
  match us, ws, hl with
  | [], [a, b, c], _ => exact .of_eq (h kV doc pm an cdv ct a b c)
/-! ### data of lags, bars, papers -/
def Rf (d : PyData) : Prop := PyData.eqv d d = true
theorem rf_int (i : Int) : Rf (.int i) := by
  show (i == i) = true
  simp
theorem rf_str (s : Str) : Rf (.str s) := by
  show (s == s) = true
  simp
theorem rf_all : ∀ {l : List PyData}, (∀ d ∈ l, Rf d) → PyData.eqvAll l l = true
  | [], _ => rfl
  | d :: l, h => by
    show (PyData.eqv d d && PyData.eqvAll l l) = true
    rw [h d (List.mem_cons_self ..), rf_all fun x hx => h x (List.mem_cons_of_mem _ hx)]
    rfl
theorem rf_list {l : List PyData} (h : ∀ d ∈ l, Rf d) : Rf (.list l) := rf_all h
theorem rf_tup {l : List PyData} (h : ∀ d ∈ l, Rf d) : Rf (.tuple l) := rf_all h
theorem rf_nums (l : List Int) : Rf (numsD l) := rf_list fun d hd => by
  obtain ⟨i, _, rfl⟩ := List.mem_map.mp hd
  exact rf_int i
theorem Sh.up {k m : Nat} {d : PyData} (h : Sh k d) (hm : k ≤ m) : Sh m d := ⟨h.1, Nat.le_trans h.2 hm⟩
theorem sh_lags {k : Nat} : Sh k (.str "lags") := ⟨by decide +kernel, Nat.zero_le k⟩
theorem sh_bar {k : Nat} : Sh k (.str "bar") := ⟨by decide +kernel, Nat.zero_le k⟩
theorem dpallG {α : Type} {K : PySem.W.Frag} {H : Hp} {R : V → α → Prop} {f : α → PyData} (hR : ∀ v x, R v x → Dp K H v (f x)) : ∀ {vs : List V} {es : List α}, All2 R vs es → DpAll K H vs (es.map f)
  | [], [], _ => .nil
  | [], _ :: _, h => by have := h.1; cases this
  | _ :: _, [], h => by have := h.1; cases this
  | v :: vs, e :: es, h => .cons (hR v e h.head) (dpallG hR h.tail)
def natsN (l : List Nat) : PyData := numsD (l.map fun i => ((i : Nat) : Int))
theorem dp_nats {K : PySem.W.Frag} {H : Hp} {l : Addr} {xs : List Nat} (h : SqL K H l (nvs xs)) : Dp K H (.ref l) (natsN xs) := dp_nums (by
  rw [List.map_map]
  exact h)
def pceD (pc : Pce) : PyData := .tuple [.int ((pc.1 : Nat) : Int), natsN pc.2]
theorem dp_pce {K : PySem.W.Frag} {H : Hp} {v : V} {pc : Pce} (h : PceV K H v pc) : Dp K H v (pceD pc) := by
  obtain ⟨a, l, rfl, h1, h2⟩ := h
  exact .tup h1 (.cons (.int _) (.cons (dp_nats h2) .nil))
theorem rf_pce (pc : Pce) : Rf (pceD pc) := rf_tup fun d hd => by
  rcases List.mem_cons.mp hd with rfl | hd
  · exact rf_int _
  · rw [List.mem_singleton.mp hd]
    exact rf_nums _
theorem sh_pce (pc : Pce) : Sh 2 (pceD pc) := sh_tuple fun d hd => by
  rcases List.mem_cons.mp hd with rfl | hd
  · exact sh_int _
  · rw [List.mem_singleton.mp hd]
    exact sh_nums _
def pcesD (ps : List Pce) : PyData := .list (ps.map pceD)
theorem rf_pces (ps : List Pce) : Rf (pcesD ps) := rf_list fun d hd => by
  obtain ⟨e, _, rfl⟩ := List.mem_map.mp hd
  exact rf_pce e
theorem sh_pces (ps : List Pce) : Sh 3 (pcesD ps) := sh_list fun d hd => by
  obtain ⟨e, _, rfl⟩ := List.mem_map.mp hd
  exact sh_pce e
theorem dp_bar {K : PySem.W.Frag} {H : Hp} {l : Addr} {ps : List Pce} (h : BarV K H l ps) : Dp K H (.ref l) (pcesD ps) := by
  obtain ⟨pv, h1, h2⟩ := h
  exact .lst (SqL.of h1) (dpallG (fun v x r => dp_pce r) h2)
def entD (e : Ent) : PyData := .tuple [pceD e.1, .int e.2]
theorem dp_ent {K : PySem.W.Frag} {H : Hp} {v : V} {e : Ent} (h : EntV K H v e) : Dp K H v (entD e) := by
  obtain ⟨a, p, rfl, h1, h2⟩ := h
  exact .tup h1 (.cons (dp_pce h2) (.cons (.int _) .nil))
theorem rf_ent (e : Ent) : Rf (entD e) := rf_tup fun d hd => by
  rcases List.mem_cons.mp hd with rfl | hd
  · exact rf_pce _
  · rw [List.mem_singleton.mp hd]
    exact rf_int _
theorem sh_ent (e : Ent) : Sh 3 (entD e) := sh_tuple fun d hd => by
  rcases List.mem_cons.mp hd with rfl | hd
  · exact sh_pce _
  · rw [List.mem_singleton.mp hd]
    exact sh_int _
def papD (es : List Ent) : PyData := .list (es.map entD)
theorem rf_pap (es : List Ent) : Rf (papD es) := rf_list fun d hd => by
  obtain ⟨e, _, rfl⟩ := List.mem_map.mp hd
  exact rf_ent e
theorem sh_pap (es : List Ent) : Sh 4 (papD es) := sh_list fun d hd => by
  obtain ⟨e, _, rfl⟩ := List.mem_map.mp hd
  exact sh_ent e
theorem dp_pap {K : PySem.W.Frag} {H : Hp} {l : Addr} {ev : List V} {es : List Ent} (h : SqL K H l ev) (h2 : All2 (EntV K H) ev es) : Dp K H (.ref l) (papD es) := .lst h (dpallG (fun v x r => dp_ent r) h2)
def twoD (a b : PyData) : PyData := .tuple [a, b]
def thrD (a b c : PyData) : PyData := .tuple [a, b, c]
theorem rf_two {a b : PyData} (ha : Rf a) (hb : Rf b) : Rf (twoD a b) := rf_tup fun d hd => by
  rcases List.mem_cons.mp hd with rfl | hd
  · exact ha
  · rw [List.mem_singleton.mp hd]
    exact hb
theorem rf_thr {a b c : PyData} (ha : Rf a) (hb : Rf b) (hc : Rf c) : Rf (thrD a b c) := rf_tup fun d hd => by
  rcases List.mem_cons.mp hd with rfl | hd
  · exact ha
  · rcases List.mem_cons.mp hd with rfl | hd
    · exact hb
    · rw [List.mem_singleton.mp hd]
      exact hc
theorem sh_two {k : Nat} {a b : PyData} (ha : Sh k a) (hb : Sh k b) : Sh (k + 1) (twoD a b) := sh_tuple fun d hd => by
  rcases List.mem_cons.mp hd with rfl | hd
  · exact ha
  · rw [List.mem_singleton.mp hd]
    exact hb
theorem sh_thr {k : Nat} {a b c : PyData} (ha : Sh k a) (hb : Sh k b) (hc : Sh k c) : Sh (k + 1) (thrD a b c) := sh_tuple fun d hd => by
  rcases List.mem_cons.mp hd with rfl | hd
  · exact ha
  · rcases List.mem_cons.mp hd with rfl | hd
    · exact hb
    · rw [List.mem_singleton.mp hd]
      exact hc
theorem Feas.lagOk {gs : List Gt} {ws : List Wr} {b : Int} {L : Nat → Int} (f : Feas gs ws b L) (h : ∀ g, g < gs.length → -500 ≤ L g ∧ L g ≤ 500) : LagOk gs (lagsL gs L) := by
  refine ⟨lagsL_len gs L, fun i g l hg hl => ?_⟩
  have hi : i < gs.length := (List.getElem?_eq_some_iff.mp hg).1
  have e : l = L i := by
    have := lagsL_at (L := L) hi
    rw [List.getD_eq_getElem?_getD, hl] at this
    exact this
  rw [e]
  obtain ⟨h1, h2⟩ := h i hi
  exact ⟨h1, h2, fun hp => f.out i hi (by rw [kindAt_get hg]; exact hp)⟩
theorem Feas.letOk {gs : List Gt} {ws : List Wr} {b : Int} {L : Nat → Int} (N : NetOk gs ws) (f : Feas gs ws b L) : LetOk ws (lagsL gs L) := fun y hy => by
  obtain ⟨x, hx, rfl⟩ := List.mem_map.mp hy
  have W := N.wok x hx
  rw [lagsL_at W.s, lagsL_at W.e]
  exact f.lt x hx
theorem Wk.rg3 {gs : List Gt} {ws : List Wr} {s : Nat} (h2 : ∀ x ∈ ws, x.2.2.length ≤ 3) {vs : List Nat} {g : Nat} {c : Cst} (h : Wk gs ws s vs g c) : c.1 + 3 ≤ 3 * (vs.length : Int) := by
  induction h with
  | nil =>
    show (0 : Int) + 3 ≤ 3 * 1
    omega
  | @cons vs v c x _ hx _ ih =>
    have := h2 x hx
    rw [List.length_cons]
    show c.1 + ((x.2.2.length : Nat) : Int) + 3 ≤ _
    omega
theorem best_few {gs : List Gt} {ws : List Wr} (N : NetOk gs ws) (h2 : ∀ x ∈ ws, x.2.2.length ≤ 3) (h3 : gs.length ≤ 3) {s g : Nat} {c : Cst} (hs : s < gs.length) (h : best gs ws s g = some c) : c.1 ≤ 9 := by
  obtain ⟨ρ, hρ⟩ := N.rank
  obtain ⟨vs, hv⟩ := Snd.rnds (gs := gs) (ws := ws) (s := s) gs.length g c h
  obtain ⟨vs', c', h1, h2', h3'⟩ := hv.simple hρ
  have hl := svNodup_le h2' (h1.lows N hs)
  obtain ⟨o, ho, h4⟩ := h1.comp gs.length (by omega)
  have e : o = c := by
    have : best gs ws s g = some o := ho
    rw [h] at this
    exact (Option.some.inj this).symm
  subst e
  have e := leC.anti h4 h3'
  subst e
  have := h1.rg3 h2
  omega
end Lag

set_option maxRecDepth 100000
set_option maxHeartbeats 8000000
namespace Lag
open PySem PySem.Spec PyProof.Rows L2
abbrev sLaw : Stmt := topS 92 -- @law
theorem mem_cutK {xs : List V} {lo hi : Option Int} {v : V} (h : v ∈ cutV xs lo hi) : v ∈ xs := by
  unfold cutV at h
  exact List.mem_of_mem_drop (List.mem_of_mem_take h)
def spLaw (K : PySem.W.Frag) : Sp := fun vs H Q _ => ∃ (a : Addr) (ns : List Int), vs = [.ref a] ∧ SqL K H a (ns.map V.int) ∧ ns.length ≤ 63 ∧ ∀ H', Q (.bl true) H'
section
variable {P : Program} {w : World} {K : PySem.W.Frag} {mg : Str → Option Value} {base : Heap}
abbrev nLaw : List Str := ["_law_script", "_law_cell", "_law_well_here", "_law_house_here", "_law_most", "_law_clock", "_law_told", "_law_found", "_law_due"]
theorem scLaw : FnScope nLaw ["_law_script"] (defScope sLaw) := ⟨rfl, rfl, rfl, by decide +kernel, rfl, by decide +kernel, by decide +kernel⟩
theorem ok_law {f fWl fHo a1 a2 a3 a4 a5 a6 a7 a8 a9 a10 C : Addr} {fd fdWl fdHo d1 d2 d3 d4 d5 d6 d7 d8 d9 d10 : FuncData} (F : Fun K "law" "law" sLaw f fd) (B : Bt mg) (T : NT K mg C) (DWl : DWell P w K mg base fWl fdWl) (DHo : DHouse P w K mg base C fHo fdHo)
    (DLb : DLeastBeat P w K mg base C a1 d1) (kLb : KBinds K d1 ["net"] ["net"] one1 one1) (DFb : DForBeat P w K mg base C a2 d2) (kFb : KBinds K d2 ["net", "beat"] ["beat", "net"] swp swp) (DBf : DBarFault P w K mg base C a3 d3) (kBf : KBinds K d3 ["net", "beat", "thing"] ["thing", "beat", "net"] rev3 rev3)
    (DFw : DFewest P w K mg base C a4 d4) (kFw : KBinds K d4 ["net", "beat"] ["beat", "net"] swp swp) (DPf : DPaperFault P w K mg base C a5 d5) (kPf : KBinds K d5 ["net", "beat", "thing"] ["thing", "beat", "net"] rev3 rev3) (DBo : DBoundOf P w K mg base C a6 d6) (kBo : KBinds K d6 ["net", "thing", "beat"] ["beat", "thing", "net"] rev3 rev3)
    (DSh : DShared P w K mg base C a7 d7) (kSh : KBinds K d7 ["net", "lags"] ["lags", "net"] swp swp) (DFs : DFewestShared P w K mg base C a8 d8) (kFs : KBinds K d8 ["net", "beat"] ["beat", "net"] swp swp) (DSf : DSharedFault P w K mg base C a9 d9) (kSf : KBinds K d9 ["net", "beat", "thing"] ["thing", "beat", "net"] rev3 rev3) (DSb : DSharedBound P w K mg base C a10 d10) (kSb : KBinds K d10 ["net", "thing", "beat"] ["beat", "thing", "net"] rev3 rev3) :
    FnOk P w K mg base CX0 14 f fd ["_law_script"] (spLaw K) := by
  refine F.ok scLaw (fun vs H Q E h => ?_) (fun cdv A outer s H vs Q E hr h => ?_)
  · obtain ⟨a, ns, rfl, _⟩ := h
    rfl
  · obtain ⟨a, ns, rfl, hS, hlen, q⟩ := h
    have nd := scLaw.nd
    refine ⟨_, pss_cons (ps_for PassesOwn.never rfl (pi_list (pe_op op_cat (pe_lst (pa_cons pe_int (pa_cons pe_int pa_nil))) (pe_slice sl_list (pv 0) po_none (po_some pe_int)))) (pg_name (i := 1) nd rfl (.inl rfl)) (pss_cons (ps_set (i := 2) nd rfl (.inl rfl) (pe_call DWl.ok (hr.mono (by decide)) (by rfl) DWl.mg DWl.kp DWl.bd .nil pass0 (pa_cons (pv 1) pa_nil))) <|
        pss_cons (ps_set (i := 3) nd rfl (.inl rfl) (pe_call DHo.ok (hr.mono (by decide)) (by rfl) DHo.mg DHo.kp DHo.bd .nil pass0 (pa_cons (pv 2) pa_nil))) <|
        pss_cons (ps_if (pt_cmpR (op_neD hr.units) (pe_callK0 DLb.ok (hr.mono (by decide)) (by rfl) DLb.mg DLb.kp kLb pass0 (pk_cons (pv 3) pk_nil)) (pe_call DLb.ok (hr.mono (by decide)) (by rfl) DLb.mg DLb.kp DLb.bd .nil pass0 (pa_cons (pv 3) pa_nil)) (nomark _)) (pss_one (ps_ret pe_bl)) pss_nil) <|
        pss_cons (ps_set (i := 4) nd rfl (.inl rfl) (pe_ix ix_tup (pe_call DLb.ok (hr.mono (by decide)) (by rfl) DLb.mg DLb.kp DLb.bd .nil pass0 (pa_cons (pv 3) pa_nil)) pe_int (fun _ _ => rfl))) <|
        pss_one (ps_for PassesOwn.never rfl (pi_list (pe_lst (pa_cons (pv 4) (pa_cons (pe_op op_add (pv 4) pe_int) (pa_cons (pe_callB (call_max2 rfl) (by rfl) B.max (by decide +kernel) (pa_cons pe_int (pa_cons (pe_op op_sub (pv 4) pe_int) pa_nil))) pa_nil))))) (pg_name (i := 5) nd rfl (.inl rfl)) (pss_cons (ps_set (i := 6) nd rfl (.inl rfl) (pe_callK0 DFb.ok (hr.mono (by decide)) (by rfl) DFb.mg DFb.kp kFb pass0 (pk_cons (pv 5) (pk_cons (pv 3) pk_nil)))) <|
        pss_cons (ps_if (pt_cmpR (op_neD hr.units) (pv 6) (pe_call DFb.ok (hr.mono (by decide)) (by rfl) DFb.mg DFb.kp DFb.bd .nil pass0 (pa_cons (pv 3) (pa_cons (pv 5) pa_nil))) (nomark _)) (pss_one (ps_ret pe_bl)) pss_nil) <|
        pss_one (ps_if (pt_cmpR op_eq (pe_ix ix_tup (pv 6) pe_int (fun _ _ => rfl)) pe_str (nomark _)) (pss_one (ps_if (pt_cmpR (op_neD hr.units) (pe_callK0 DBf.ok (hr.mono (by decide)) (by rfl) DBf.mg DBf.kp kBf pass0 (pk_cons (pe_ix ix_tup (pv 6) pe_int (fun _ _ => rfl)) (pk_cons (pv 5) (pk_cons (pv 3) pk_nil)))) (pe_call DBf.ok (hr.mono (by decide)) (by rfl) DBf.mg DBf.kp DBf.bd .nil pass0 (pa_cons (pv 3) (pa_cons (pv 5) (pa_cons (pe_ix ix_tup (pv 6) pe_int (fun _ _ => rfl)) pa_nil)))) (nomark _)) (pss_one (ps_ret pe_bl)) pss_nil)) (pss_cons (ps_set (i := 7) nd rfl (.inl rfl) (pe_callK0 DFw.ok (hr.mono (by decide)) (by rfl) DFw.mg DFw.kp kFw pass0 (pk_cons (pv 5) (pk_cons (pv 3) pk_nil)))) <|
        pss_cons (ps_if (pt_cmpR (op_neD hr.units) (pv 7) (pe_call DFw.ok (hr.mono (by decide)) (by rfl) DFw.mg DFw.kp DFw.bd .nil pass0 (pa_cons (pv 3) (pa_cons (pv 5) pa_nil))) (nomark _)) (pss_one (ps_ret pe_bl)) pss_nil) <|
        pss_cons (ps_if (pt_cmpR op_notN (pe_callK0 DPf.ok (hr.mono (by decide)) (by rfl) DPf.mg DPf.kp kPf pass0 (pk_cons (pe_ix ix_tup (pv 7) pe_int (fun _ _ => rfl)) (pk_cons (pv 5) (pk_cons (pv 3) pk_nil)))) pe_non (nomark _)) (pss_one (ps_ret pe_bl)) pss_nil) <|
        pss_cons (ps_set (i := 8) nd rfl (.inl rfl) (pe_call DBo.ok (hr.mono (by decide)) (by rfl) DBo.mg DBo.kp DBo.bd .nil pass0 (pa_cons (pv 3) (pa_cons (pe_ix ix_tup (pv 7) pe_int (fun _ _ => rfl)) (pa_cons (pv 5) pa_nil))))) <|
        pss_cons (ps_if (pt_cmpR op_ne (pe_callK0 DBo.ok (hr.mono (by decide)) (by rfl) DBo.mg DBo.kp kBo pass0 (pk_cons (pv 5) (pk_cons (pe_ix ix_tup (pv 7) pe_int (fun _ _ => rfl)) (pk_cons (pv 3) pk_nil)))) (pv 8) (nomark _)) (pss_one (ps_ret pe_bl)) pss_nil) <|
        pss_cons (ps_if (pt_cmpR op_ne (pe_callK0 DSh.ok (hr.mono (by decide)) (by rfl) DSh.mg DSh.kp kSh pass0 (pk_cons (pe_ix ix_tup (pv 7) pe_int (fun _ _ => rfl)) (pk_cons (pv 3) pk_nil))) (pe_call DSh.ok (hr.mono (by decide)) (by rfl) DSh.mg DSh.kp DSh.bd .nil pass0 (pa_cons (pv 3) (pa_cons (pe_ix ix_tup (pv 7) pe_int (fun _ _ => rfl)) pa_nil))) (nomark _)) (pss_one (ps_ret pe_bl)) pss_nil) <|
        pss_cons (ps_set (i := 7) nd rfl (.inl rfl) (pe_callK0 DFs.ok (hr.mono (by decide)) (by rfl) DFs.mg DFs.kp kFs pass0 (pk_cons (pv 5) (pk_cons (pv 3) pk_nil)))) <|
        pss_cons (ps_if (pt_cmpR (op_neD hr.units) (pv 7) (pe_call DFs.ok (hr.mono (by decide)) (by rfl) DFs.mg DFs.kp DFs.bd .nil pass0 (pa_cons (pv 3) (pa_cons (pv 5) pa_nil))) (nomark _)) (pss_one (ps_ret pe_bl)) pss_nil) <|
        pss_cons (ps_if (pt_cmpR op_notN (pe_callK0 DSf.ok (hr.mono (by decide)) (by rfl) DSf.mg DSf.kp kSf pass0 (pk_cons (pe_ix ix_tup (pv 7) pe_int (fun _ _ => rfl)) (pk_cons (pv 5) (pk_cons (pv 3) pk_nil)))) pe_non (nomark _)) (pss_one (ps_ret pe_bl)) pss_nil) <|
        pss_cons (ps_set (i := 8) nd rfl (.inl rfl) (pe_call DSb.ok (hr.mono (by decide)) (by rfl) DSb.mg DSb.kp DSb.bd .nil pass0 (pa_cons (pv 3) (pa_cons (pe_ix ix_tup (pv 7) pe_int (fun _ _ => rfl)) (pa_cons (pv 5) pa_nil))))) <|
        pss_one (ps_if (pt_cmpR op_ne (pe_callK0 DSb.ok (hr.mono (by decide)) (by rfl) DSb.mg DSb.kp kSb pass0 (pk_cons (pv 5) (pk_cons (pe_ix ix_tup (pv 7) pe_int (fun _ _ => rfl)) (pk_cons (pv 3) pk_nil)))) (pv 8) (nomark _)) (pss_one (ps_ret pe_bl)) pss_nil))))))) <|
        pss_one (ps_ret pe_bl), ?_⟩
    refine ⟨(by show 2 ≤ sizeLine; decide), fun l1 hl1 => ?_⟩
    have s1 : Same H (upd H l1 (.lst [.int 0, .int 3])) := same_new hl1
    have e1 : (upd H l1 (.lst [.int 0, .int 3])) l1 = some (.lst [.int 0, .int 3]) := upd_same
    generalize upd H l1 (.lst [.int 0, .int 3]) = H1 at s1 e1
    refine ⟨_, rfl, _, rfl, a, _, rfl, s1.seq hS, fun l2 hl2 => ?_⟩
    have hcl : (cutV (ns.map V.int) none (some 6)).length ≤ 63 := by
      have := cutV_length (ns.map V.int) none (some 6)
      rw [List.length_map] at this
      omega
    refine ⟨l1, l2, _, _, rfl, rfl, same_new hl2 _ _ e1, upd_same, ?_, fun l3 hl3 => ?_⟩
    · show 2 + _ ≤ sizeLine
      exact Nat.le_of_lt (small1000 (by omega))
    refine ⟨l3, rfl, ⟨_, SqL.of upd_same⟩, for_list (K := K) (a := l3) (xs := [.int 0, .int 3] ++ cutV (ns.map V.int) none (some 6)) (fun i σ H' => ∃ t1 t2 t3 t4 t5 t6 t7 t8 : Option V, σ = [some (.ref a), t1, t2, t3, t4, t5, t6, t7, t8] ∧ H' l3 = some (.lst ([.int 0, .int 3] ++ cutV (ns.map V.int) none (some 6))))
      ⟨_, _, _, _, _, _, _, _, rfl, upd_same⟩ (fun i σ H' _ ⟨_, _, _, _, _, _, _, _, _, e⟩ => SqL.of e) ?_ ?_⟩
    · rintro i x σ H0 hx ⟨t1, t2, t3, t4, t5, t6, t7, t8, rfl, e3⟩
      obtain ⟨c, rfl⟩ : ∃ c, x = V.int c := by
        rcases List.mem_append.mp (List.mem_of_getElem? hx) with hm | hm
        · rcases List.mem_cons.mp hm with hm | hm
          · exact ⟨0, hm⟩
          · rcases List.mem_cons.mp hm with hm | hm
            · exact ⟨3, hm⟩
            · cases hm
        · obtain ⟨c, _, rfl⟩ := List.mem_map.mp (mem_cutK hm)
          exact ⟨c, rfl⟩
      refine gn_norm (σ' := [some (.ref a), some (.int c), t2, t3, t4, t5, t6, t7, t8]) rfl ?_
      refine ⟨_, rfl, c, rfl, fun wl H1 hwl sw W1 => ?_⟩
      refine gn_norm (σ' := [some (.ref a), some (.int c), some (.ref wl), t3, t4, t5, t6, t7, t8]) rfl ?_
      have n3 := ne_of_none e3 hwl
      refine ⟨_, rfl, wl, rfl, W1, fun p ng nw gs ws H2 D2 NA N U hg3 hr3 => ?_⟩
      refine gn_norm (σ' := [some (.ref a), some (.int c), some (.ref wl), some (.ref p), t4, t5, t6, t7, t8]) rfl ?_
      have e3' := D2.but _ _ n3 (sw _ _ e3)
      clear e3
      -- least_beat
      refine ⟨_, rfl, p, ng, nw, gs, ws, rfl, NA, N, by omega, fun y1 l1 B1 L1 H3 s3 et1 hl1 el1 lst1 fe1 lb1 B10 fx1 => ?_⟩
      have NA3 := NA.same s3
      refine ⟨_, rfl, p, ng, nw, gs, ws, rfl, NA3, N, by omega, fun y2 l2 B2 L2 H4 s4 et2 hl2 el2 lst2 fe2 lb2 B20 fx2 => ?_⟩
      have NA4 := NA3.same s4
      have eB := lst1.eq lst2
      subst eB
      have eL := fx1.uniq N U fx2
      subst eL
      refine ⟨twoD (.int B1) (numsD (lagsL gs L1)), twoD (.int B1) (numsD (lagsL gs L1)), .tup (.inl (.inl (s4 _ _ et1))) (.cons (.int _) (.cons (dp_nums (SqL.of (s4 _ _ el1))) .nil)), .tup (.inl (.inl et2)) (.cons (.int _) (.cons (dp_nums (SqL.of el2)) .nil)), Sh.ok (sh_two (sh_int _) (sh_nums _)) (by decide), Sh.ok (sh_two (sh_int _) (sh_nums _)) (by decide), false, by rw [rf_two (rf_int _) (rf_nums _)]; rfl, iteF ?_⟩
      refine ⟨_, rfl, p, ng, nw, gs, ws, rfl, NA4, N, by omega, fun y3 l3 B3 L3 H5 s5 et3 hl3 el3 lst3 fe3 lb3 B30 fx3 => ?_⟩
      have NA5 := NA4.same s5
      have eB := lst1.eq lst3
      subst eB
      refine ⟨y3, _, 0, _, rfl, rfl, .inl (.inl et3), atI_nat (j := 0) rfl, ?_⟩
      refine gn_norm (σ' := [some (.ref a), some (.int c), some (.ref wl), some (.ref p), some (.int B1), t5, t6, t7, t8]) rfl ?_
      have s25 := (s3.trans s4).trans s5
      have e5 := s25 _ _ e3'
      clear et1 hl1 el1 fe1 lb1 fx1 et2 hl2 el2 lst2 fe2 lb2 B20 fx2 et3 hl3 el3 lst3 fe3 lb3 B30 fx3 s3 s4 s5 NA3 NA4
      obtain ⟨M, hM, M0⟩ : ∃ M : Int, (if (B1 - 1 : Int) > 0 then B1 - 1 else 0) = M ∧ 0 ≤ M := ⟨_, rfl, by split <;> omega⟩
      refine ⟨_, rfl, _, rfl, _, _, rfl, rfl, _, rfl, _, _, rfl, rfl, _, _, rfl, (by show 3 ≤ sizeLine; decide), fun lN hlN => ?_⟩
      rw [hM]
      have s6 := same_new (o := .lst [.int B1, .int (B1 + 1), .int M]) hlN
      have eN : (upd H5 lN (.lst [.int B1, .int (B1 + 1), .int M])) lN = some (.lst [.int B1, .int (B1 + 1), .int M]) := upd_same
      generalize upd H5 lN (.lst [.int B1, .int (B1 + 1), .int M]) = H6 at s6 eN
      have NA6 := NA5.same s6
      have e6 := s6 _ _ e5
      refine ⟨lN, rfl, ⟨_, SqL.of eN⟩, for_list (K := K) (a := lN) (xs := [.int B1, .int (B1 + 1), .int M]) (fun j σ Hc => ∃ u5 u6 u7 u8 : Option V, σ = [some (.ref a), some (.int c), some (.ref wl), some (.ref p), some (.int B1), u5, u6, u7, u8] ∧ Same H6 Hc) ⟨_, _, _, _, rfl, Same.refl _⟩ (fun j σ Hc _ ⟨_, _, _, _, _, sm⟩ => SqL.of (sm _ _ eN)) ?_ (fun σ Hc ⟨_, _, _, _, e, sm⟩ => ?_)⟩
      rotate_left
      · subst e
        exact ⟨_, _, _, _, _, _, _, _, rfl, sm _ _ e6⟩
      rintro j v σ Hc hv ⟨u5, u6, u7, u8, rfl, sm⟩
      obtain ⟨b, rfl, hb⟩ : ∃ b : Int, v = .int b ∧ 0 ≤ b := by
        have := List.mem_of_getElem? hv
        simp at this
        rcases this with rfl | rfl | rfl
        · exact ⟨B1, rfl, B10⟩
        · exact ⟨B1 + 1, rfl, by omega⟩
        · exact ⟨M, rfl, M0⟩
      clear hv
      refine gn_norm (σ' := [some (.ref a), some (.int c), some (.ref wl), some (.ref p), some (.int B1), some (.int b), u6, u7, u8]) rfl ?_
      have NAc := NA6.same sm
      -- for_beat
      refine ⟨_, rfl, _, rfl, p, ng, nw, gs, ws, b, rfl, NAc, N, hb, fun y1 H7 s7 hy1 fr1 => ?_⟩
      have NA7 := NAc.same s7
      refine gn_norm (σ' := [some (.ref a), some (.int c), some (.ref wl), some (.ref p), some (.int B1), some (.int b), some (.ref y1), u7, u8]) rfl ?_
      refine ⟨_, rfl, _, rfl, _, rfl, p, ng, nw, gs, ws, b, rfl, NA7, N, hb, fun y2 H8 s8 hy2 fr2 => ?_⟩
      have NA8 := NA7.same s8
      rcases fr1 with ⟨l1, L1, et1, _, el1, fe1, lb1, fx1⟩ | ⟨l1, ps1, et1, _, bv1, ib1, po1, pl1, fx1⟩ <;> rcases fr2 with ⟨l2, L2, et2, _, el2, fe2, lb2, fx2⟩ | ⟨l2, ps2, et2, _, bv2, ib2, po2, pl2, fx2⟩
      · have eL := fx1.uniq N U fx2
        subst eL
        refine ⟨twoD (.str "lags") (numsD (lagsL gs L1)), twoD (.str "lags") (numsD (lagsL gs L1)), .tup (.inl (.inl (s8 _ _ et1))) (.cons (.str _) (.cons (dp_nums (SqL.of (s8 _ _ el1))) .nil)), .tup (.inl (.inl et2)) (.cons (.str _) (.cons (dp_nums (SqL.of el2)) .nil)), Sh.ok (sh_two sh_lags (sh_nums _)) (by decide), Sh.ok (sh_two sh_lags (sh_nums _)) (by decide), false, by rw [rf_two (rf_str _) (rf_nums _)]; rfl, iteF ?_⟩
        refine ⟨_, rfl, y1, _, 0, _, rfl, rfl, .inl (.inl (s8 _ _ et1)), atI_nat (j := 0) rfl, rfl, _, rfl, iteF ?_⟩
        have s68 := (sm.trans s7).trans s8
        have FE : FeasE gs ws b := ⟨L1, fe1⟩
        clear et2 el2 fe2 lb2 fx2
        -- fewest
        refine ⟨_, rfl, _, rfl, p, ng, nw, gs, ws, b, rfl, NA8, N, hb, FE, fun t1 ll1 lp1 m1 L1 ev1 es1 H9 s9 et1 _ ell1 _ elp1 ea1 eok1 hel1 bal1 fe1 em1 emr1 hlim1 fx1 => ?_⟩
        have NA9 := NA8.same s9
        refine gn_norm (σ' := [some (.ref a), some (.int c), some (.ref wl), some (.ref p), some (.int B1), some (.int b), some (.ref y1), some (.ref t1), u8]) rfl ?_
        refine ⟨_, rfl, _, rfl, _, rfl, p, ng, nw, gs, ws, b, rfl, NA9, N, hb, FE, fun t2 ll2 lp2 m2 L2 ev2 es2 Ha sa et2 _ ell2 _ elp2 ea2 eok2 hel2 bal2 fe2 em2 emr2 hlim2 fx2 => ?_⟩
        have NAa := NA9.same sa
        obtain ⟨eL, eE⟩ := fx1.uniq N U fx2
        subst eL eE
        rw [← emr1] at emr2
        subst emr2
        have ett1 := sa _ _ et1
        have ell1 := sa _ _ ell1
        have elp1 := sa _ _ elp1
        have ea1 := ea1.imp fun _ _ r => (EntZ.same sa r).ent
        have ea2 := ea2.imp fun _ _ r => r.ent
        refine ⟨thrD (.int m2) (numsD (lagsL gs L1)) (papD es1), thrD (.int m2) (numsD (lagsL gs L1)) (papD es1), .tup (.inl (.inl ett1)) (.cons (.int _) (.cons (dp_nums (SqL.of ell1)) (.cons (dp_pap (SqL.of elp1) ea1) .nil))), .tup (.inl (.inl et2)) (.cons (.int _) (.cons (dp_nums (SqL.of ell2)) (.cons (dp_pap (SqL.of elp2) ea2) .nil))), Sh.ok (sh_thr (sh_int _) ((sh_nums _).up (by decide)) (sh_pap _)) (by decide), Sh.ok (sh_thr (sh_int _) ((sh_nums _).up (by decide)) (sh_pap _)) (by decide), false, by rw [rf_thr (rf_int _) (rf_nums _) (rf_pap _)]; rfl, iteF ?_⟩
        -- paper_fault, bound_of
        refine ⟨_, rfl, t1, _, 2, _, rfl, rfl, .inl (.inl ett1), atI_nat (j := 2) rfl, _, rfl, _, rfl, p, ng, nw, lp1, gs, ws, b, ev1, es1, rfl, NAa, N, hb, SqL.of elp1, ea1, eok1, hel1, bal1, fun Hb sb => ?_⟩
        refine ⟨rfl, false, ?_, iteF ?_⟩
        · rw [decide_eq_true rfl]
          rfl
        have NAb := NAa.same sb
        refine ⟨_, rfl, _, rfl, t1, _, 2, _, rfl, rfl, .inl (.inl (sb _ _ ett1)), atI_nat (j := 2) rfl, _, rfl, p, ng, nw, lp1, gs, ws, b, ev1, es1, rfl, NAb, N, hb, SqL.of (sb _ _ elp1), ea1.imp (fun _ _ r => r.same sb), eok1, hel1, bal1, fun Hc' sc => ?_⟩
        have sbc := sb.trans sc
        have NAc' := NAa.same sbc
        refine gn_norm (σ' := [some (.ref a), some (.int c), some (.ref wl), some (.ref p), some (.int B1), some (.int b), some (.ref y1), some (.ref t1), some (.int (regsum ws - psum (roomF gs ws b) es1))]) rfl ?_
        refine ⟨_, rfl, _, rfl, t1, _, 2, _, rfl, rfl, .inl (.inl (sbc _ _ ett1)), atI_nat (j := 2) rfl, _, rfl, p, ng, nw, lp1, gs, ws, b, ev1, es1, rfl, NAc', N, hb, SqL.of (sbc _ _ elp1), ea1.imp (fun _ _ r => r.same sbc), eok1, hel1, bal1, fun Hd sd => ?_⟩
        refine ⟨_, rfl, rfl, false, ?_, iteF ?_⟩
        · rw [decide_eq_true rfl]
          rfl
        have sbd := sbc.trans sd
        have NAd := NAa.same sbd
        -- shared
        have hlm := hlim1 9 (by decide) (by omega) (fun s e c hs hc => best_few N hr3 hg3 hs hc)
        have lok := fe1.lagOk hlm
        have lto := fe1.letOk N
        refine ⟨_, rfl, t1, _, 1, _, rfl, rfl, .inl (.inl (sbd _ _ ett1)), atI_nat (j := 1) rfl, _, rfl, p, ng, nw, ll1, gs, ws, _, rfl, NAd, N, SqL.of (sbd _ _ ell1), lok, lto, fun He se => ?_⟩
        have sbe := sbd.trans se
        refine ⟨_, rfl, _, rfl, t1, _, 1, _, rfl, rfl, .inl (.inl (sbe _ _ ett1)), atI_nat (j := 1) rfl, p, ng, nw, ll1, gs, ws, _, rfl, NAa.same sbe, N, SqL.of (sbe _ _ ell1), lok, lto, fun Hf sf => ?_⟩
        have sbf := sbe.trans sf
        refine ⟨rfl, false, ?_, iteF ?_⟩
        · rw [decide_eq_true rfl]
          rfl
        have NAf := NAa.same sbf
        have s6f := ((s68.trans s9).trans sa).trans sbf
        clear et1 ett1 ell1 elp1 ea1 eok1 hel1 bal1 em1 emr1 hlim1 fx1 et2 ell2 elp2 ea2 eok2 hel2 bal2 fe2 em2 hlim2 fx2 hlm lok lto
        -- fewest_shared
        refine ⟨_, rfl, _, rfl, p, ng, nw, gs, ws, b, rfl, NAf, N, hb, FE, fun t3 ll3 th3 lq3 lp3 m3 L3 us3 ps3 ev3 es3 Hg sg et3 _ ell3 _ elq3 _ elp3 ea3 sh3 fe3 em3 emr3 hlim3 fx3 => ?_⟩
        have NAg := NAf.same sg
        refine gn_norm (σ' := [some (.ref a), some (.int c), some (.ref wl), some (.ref p), some (.int B1), some (.int b), some (.ref y1), some (.ref t3), some (.int (regsum ws - psum (roomF gs ws b) es1))]) rfl ?_
        refine ⟨_, rfl, _, rfl, _, rfl, p, ng, nw, gs, ws, b, rfl, NAg, N, hb, FE, fun t4 ll4 th4 lq4 lp4 m4 L4 us4 ps4 ev4 es4 Hh sh et4 _ ell4 _ elq4 _ elp4 ea4 sh4 fe4 em4 emr4 hlim4 fx4 => ?_⟩
        obtain ⟨eL, eP, eE⟩ := fx3.uniq N U fx4
        subst eL eP eE
        rw [← em3] at em4
        subst em4
        have ett3 := sh _ _ et3
        have ell3 := sh _ _ ell3
        have sh3 := sh3.same sh
        have dsp : ∀ {th lq lp : Addr} {us : List Wr} {ev : List V}, ShAt K Hh th lq lp gs ws us ps3 ev es3 → Dp K Hh (.ref th) (twoD (natsN ps3) (papD es3)) := fun h => .tup h.t (.cons (dp_nats h.q) (.cons (dp_pap h.p h.a) .nil))
        have shp : Sh 5 (twoD (natsN ps3) (papD es3)) := sh_two ((sh_nums _).up (by decide)) (sh_pap _)
        have rfp : Rf (twoD (natsN ps3) (papD es3)) := rf_two (rf_nums _) (rf_pap _)
        refine ⟨thrD (.int m4) (numsD (lagsL gs L3)) (twoD (natsN ps3) (papD es3)), thrD (.int m4) (numsD (lagsL gs L3)) (twoD (natsN ps3) (papD es3)), .tup (.inl (.inl ett3)) (.cons (.int _) (.cons (dp_nums (SqL.of ell3)) (.cons (dsp sh3) .nil))), .tup (.inl (.inl et4)) (.cons (.int _) (.cons (dp_nums (SqL.of ell4)) (.cons (dsp sh4) .nil))), Sh.ok (sh_thr (sh_int _) ((sh_nums _).up (by decide)) shp) (by decide), Sh.ok (sh_thr (sh_int _) ((sh_nums _).up (by decide)) shp) (by decide), false, by rw [rf_thr (rf_int _) (rf_nums _) rfp]; rfl, iteF ?_⟩
        have NAh := NAg.same sh
        refine ⟨_, rfl, t3, _, 2, _, rfl, rfl, .inl (.inl ett3), atI_nat (j := 2) rfl, _, rfl, _, rfl, p, ng, nw, th3, lq3, lp3, gs, ws, us3, ps3, b, ev3, es3, rfl, NAh, N, hb, sh3, fun Hi si => ?_⟩
        refine ⟨rfl, false, ?_, iteF ?_⟩
        · rw [decide_eq_true rfl]
          rfl
        refine ⟨_, rfl, _, rfl, t3, _, 2, _, rfl, rfl, .inl (.inl (si _ _ ett3)), atI_nat (j := 2) rfl, _, rfl, p, ng, nw, th3, lq3, lp3, gs, ws, us3, ps3, b, ev3, es3, rfl, NAh.same si, N, hb, sh3.same si, fun Hj sj => ?_⟩
        have sij := si.trans sj
        refine gn_norm (σ' := [some (.ref a), some (.int c), some (.ref wl), some (.ref p), some (.int B1), some (.int b), some (.ref y1), some (.ref t3), some (.int (regsum us3 - psum (roomF gs ws b) es3))]) rfl ?_
        refine ⟨_, rfl, _, rfl, t3, _, 2, _, rfl, rfl, .inl (.inl (sij _ _ ett3)), atI_nat (j := 2) rfl, _, rfl, p, ng, nw, th3, lq3, lp3, gs, ws, us3, ps3, b, ev3, es3, rfl, NAh.same sij, N, hb, sh3.same sij, fun Hk sk => ?_⟩
        refine ⟨_, rfl, rfl, false, ?_, iteF ⟨_, _, _, _, rfl, ((s6f.trans sg).trans sh).trans (sij.trans sk)⟩⟩
        rw [decide_eq_true rfl]
        rfl
      · exact absurd fe1 (ib2.none N)
      · exact absurd fe2 (ib1.none N)
      · have eL := fx1.uniq N U fx2
        subst eL
        refine ⟨twoD (.str "bar") (pcesD ps1), twoD (.str "bar") (pcesD ps1), .tup (.inl (.inl (s8 _ _ et1))) (.cons (.str _) (.cons (dp_bar (bv1.same s8)) .nil)), .tup (.inl (.inl et2)) (.cons (.str _) (.cons (dp_bar bv2) .nil)), Sh.ok (sh_two sh_bar (sh_pces _)) (by decide), Sh.ok (sh_two sh_bar (sh_pces _)) (by decide), false, by rw [rf_two (rf_str _) (rf_pces _)]; rfl, iteF ?_⟩
        refine ⟨_, rfl, y1, _, 0, _, rfl, rfl, .inl (.inl (s8 _ _ et1)), atI_nat (j := 0) rfl, rfl, _, rfl, iteT ?_⟩
        obtain ⟨ne, vj, jn, neg⟩ := id ib1
        refine ⟨_, rfl, y1, _, 1, _, rfl, rfl, .inl (.inl (s8 _ _ et1)), atI_nat (j := 1) rfl, _, rfl, _, rfl, p, ng, nw, l1, gs, ws, b, ps1, rfl, NA8, N, hb, bv1.same s8, ne, pl1, po1, ⟨vj, jn⟩, fun _ H9 s9 => ?_, fun h0 => absurd h0 (by omega)⟩
        refine ⟨_, rfl, _, rfl, _, rfl, y1, _, 1, _, rfl, rfl, .inl (.inl (s9 _ _ (s8 _ _ et1))), atI_nat (j := 1) rfl, p, ng, nw, l1, gs, ws, b, ps1, rfl, NA8.same s9, N, hb, (bv1.same s8).same s9, ne, pl1, po1, ⟨vj, jn⟩, fun _ Ha sa => ?_, fun h0 => absurd h0 (by omega)⟩
        exact ⟨.none, .none, .non, .non, rfl, rfl, false, rfl, iteF ⟨_, _, _, _, rfl, (((sm.trans s7).trans s8).trans s9).trans sa⟩⟩
    · rintro σ H' ⟨t1, t2, t3, t4, t5, t6, t7, t8, rfl, e3⟩
      exact q H'
end
end Lag

set_option maxRecDepth 100000
set_option maxHeartbeats 8000000
namespace Lag
open PySem PySem.Spec PyProof.Rows L2
theorem all_mk {l : PySem.W.OpenLaw} {w : World} {K : PySem.W.Frag} {h : Heap} {mg : Str → Option Value} {fa C : Addr} (X : K.In h) (G : h.Ns mainGlobals mg) (hfa : mg "law" = some (.ref fa))
    {fd0 : Addr} {odd0 and0 : Option Addr} {sld0 : Array (Option Value)} {ocd0 kVd0 dcd0 pmd0 cdd0 ctd0 : Value}
    {fd1 : Addr} {odd1 and1 : Option Addr} {sld1 : Array (Option Value)} {ocd1 kVd1 dcd1 pmd1 cdd1 ctd1 : Value}
    {fd2 : Addr} {odd2 and2 : Option Addr} {sld2 : Array (Option Value)} {ocd2 kVd2 dcd2 pmd2 cdd2 ctd2 : Value}
    {fd3 : Addr} {odd3 and3 : Option Addr} {sld3 : Array (Option Value)} {ocd3 kVd3 dcd3 pmd3 cdd3 ctd3 : Value}
    {fd4 : Addr} {odd4 and4 : Option Addr} {sld4 : Array (Option Value)} {ocd4 kVd4 dcd4 pmd4 cdd4 ctd4 : Value}
    {fd5 : Addr} {odd5 and5 : Option Addr} {sld5 : Array (Option Value)} {ocd5 kVd5 dcd5 pmd5 cdd5 ctd5 : Value}
    {fd6 : Addr} {odd6 and6 : Option Addr} {sld6 : Array (Option Value)} {ocd6 kVd6 dcd6 pmd6 cdd6 ctd6 : Value}
    {fd7 : Addr} {odd7 and7 : Option Addr} {sld7 : Array (Option Value)} {ocd7 kVd7 dcd7 pmd7 cdd7 ctd7 : Value}
    {fd8 : Addr} {odd8 and8 : Option Addr} {sld8 : Array (Option Value)} {ocd8 kVd8 dcd8 pmd8 cdd8 ctd8 : Value}
    {fd9 : Addr} {odd9 and9 : Option Addr} {sld9 : Array (Option Value)} {ocd9 kVd9 dcd9 pmd9 cdd9 ctd9 : Value}
    {fd10 : Addr} {odd10 and10 : Option Addr} {sld10 : Array (Option Value)} {ocd10 kVd10 dcd10 pmd10 cdd10 ctd10 : Value}
    {fd11 : Addr} {odd11 and11 : Option Addr} {sld11 : Array (Option Value)} {ocd11 kVd11 dcd11 pmd11 cdd11 ctd11 : Value}
    {fd12 : Addr} {odd12 and12 : Option Addr} {sld12 : Array (Option Value)} {ocd12 kVd12 dcd12 pmd12 cdd12 ctd12 : Value}
    {fd13 : Addr} {odd13 and13 : Option Addr} {sld13 : Array (Option Value)} {ocd13 kVd13 dcd13 pmd13 cdd13 ctd13 : Value}
    {fd14 : Addr} {odd14 and14 : Option Addr} {sld14 : Array (Option Value)} {ocd14 kVd14 dcd14 pmd14 cdd14 ctd14 : Value}
    {fd15 : Addr} {odd15 and15 : Option Addr} {sld15 : Array (Option Value)} {ocd15 kVd15 dcd15 pmd15 cdd15 ctd15 : Value}
    {fd16 : Addr} {odd16 and16 : Option Addr} {sld16 : Array (Option Value)} {ocd16 kVd16 dcd16 pmd16 cdd16 ctd16 : Value}
    {fd17 : Addr} {odd17 and17 : Option Addr} {sld17 : Array (Option Value)} {ocd17 kVd17 dcd17 pmd17 cdd17 ctd17 : Value}
    {fd18 : Addr} {odd18 and18 : Option Addr} {sld18 : Array (Option Value)} {ocd18 kVd18 dcd18 pmd18 cdd18 ctd18 : Value}
    {fd19 : Addr} {odd19 and19 : Option Addr} {sld19 : Array (Option Value)} {ocd19 kVd19 dcd19 pmd19 cdd19 ctd19 : Value}
    {fd20 : Addr} {odd20 and20 : Option Addr} {sld20 : Array (Option Value)} {ocd20 kVd20 dcd20 pmd20 cdd20 ctd20 : Value}
    {fd21 : Addr} {odd21 and21 : Option Addr} {sld21 : Array (Option Value)} {ocd21 kVd21 dcd21 pmd21 cdd21 ctd21 : Value}
    {fd22 : Addr} {odd22 and22 : Option Addr} {sld22 : Array (Option Value)} {ocd22 kVd22 dcd22 pmd22 cdd22 ctd22 : Value}
    {fd23 : Addr} {odd23 and23 : Option Addr} {sld23 : Array (Option Value)} {ocd23 kVd23 dcd23 pmd23 cdd23 ctd23 : Value}
    {fd24 : Addr} {odd24 and24 : Option Addr} {sld24 : Array (Option Value)} {ocd24 kVd24 dcd24 pmd24 cdd24 ctd24 : Value}
    {fd25 : Addr} {odd25 and25 : Option Addr} {sld25 : Array (Option Value)} {ocd25 kVd25 dcd25 pmd25 cdd25 ctd25 : Value}
    {fd26 : Addr} {odd26 and26 : Option Addr} {sld26 : Array (Option Value)} {ocd26 kVd26 dcd26 pmd26 cdd26 ctd26 : Value}
    {fd27 : Addr} {odd27 and27 : Option Addr} {sld27 : Array (Option Value)} {ocd27 kVd27 dcd27 pmd27 cdd27 ctd27 : Value}
    {fd28 : Addr} {odd28 and28 : Option Addr} {sld28 : Array (Option Value)} {ocd28 kVd28 dcd28 pmd28 cdd28 ctd28 : Value}
    {fd29 : Addr} {odd29 and29 : Option Addr} {sld29 : Array (Option Value)} {ocd29 kVd29 dcd29 pmd29 cdd29 ctd29 : Value}
    {fd30 : Addr} {odd30 and30 : Option Addr} {sld30 : Array (Option Value)} {ocd30 kVd30 dcd30 pmd30 cdd30 ctd30 : Value}
    {fd31 : Addr} {odd31 and31 : Option Addr} {sld31 : Array (Option Value)} {ocd31 kVd31 dcd31 pmd31 cdd31 ctd31 : Value}
    {fd32 : Addr} {odd32 and32 : Option Addr} {sld32 : Array (Option Value)} {ocd32 kVd32 dcd32 pmd32 cdd32 ctd32 : Value}
    {fd33 : Addr} {odd33 and33 : Option Addr} {sld33 : Array (Option Value)} {ocd33 kVd33 dcd33 pmd33 cdd33 ctd33 : Value}
    {fd34 : Addr} {odd34 and34 : Option Addr} {sld34 : Array (Option Value)} {ocd34 kVd34 dcd34 pmd34 cdd34 ctd34 : Value}
    {fd35 : Addr} {odd35 and35 : Option Addr} {sld35 : Array (Option Value)} {ocd35 kVd35 dcd35 pmd35 cdd35 ctd35 : Value}
    {fd36 : Addr} {odd36 and36 : Option Addr} {sld36 : Array (Option Value)} {ocd36 kVd36 dcd36 pmd36 cdd36 ctd36 : Value}
    {fd37 : Addr} {odd37 and37 : Option Addr} {sld37 : Array (Option Value)} {ocd37 kVd37 dcd37 pmd37 cdd37 ctd37 : Value}
    {fd38 : Addr} {odd38 and38 : Option Addr} {sld38 : Array (Option Value)} {ocd38 kVd38 dcd38 pmd38 cdd38 ctd38 : Value}
    {fd39 : Addr} {odd39 and39 : Option Addr} {sld39 : Array (Option Value)} {ocd39 kVd39 dcd39 pmd39 cdd39 ctd39 : Value}
    {fd40 : Addr} {odd40 and40 : Option Addr} {sld40 : Array (Option Value)} {ocd40 kVd40 dcd40 pmd40 cdd40 ctd40 : Value}
    {fd41 : Addr} {odd41 and41 : Option Addr} {sld41 : Array (Option Value)} {ocd41 kVd41 dcd41 pmd41 cdd41 ctd41 : Value}
    {fd42 : Addr} {odd42 and42 : Option Addr} {sld42 : Array (Option Value)} {ocd42 kVd42 dcd42 pmd42 cdd42 ctd42 : Value}
    {fd43 : Addr} {odd43 and43 : Option Addr} {sld43 : Array (Option Value)} {ocd43 kVd43 dcd43 pmd43 cdd43 ctd43 : Value}
    {fd44 : Addr} {odd44 and44 : Option Addr} {sld44 : Array (Option Value)} {ocd44 kVd44 dcd44 pmd44 cdd44 ctd44 : Value}
    {fd45 : Addr} {odd45 and45 : Option Addr} {sld45 : Array (Option Value)} {ocd45 kVd45 dcd45 pmd45 cdd45 ctd45 : Value}
    {fd46 : Addr} {odd46 and46 : Option Addr} {sld46 : Array (Option Value)} {ocd46 kVd46 dcd46 pmd46 cdd46 ctd46 : Value}
    {fd47 : Addr} {odd47 and47 : Option Addr} {sld47 : Array (Option Value)} {ocd47 kVd47 dcd47 pmd47 cdd47 ctd47 : Value}
    {fd48 : Addr} {odd48 and48 : Option Addr} {sld48 : Array (Option Value)} {ocd48 kVd48 dcd48 pmd48 cdd48 ctd48 : Value}
    {fd49 : Addr} {odd49 and49 : Option Addr} {sld49 : Array (Option Value)} {ocd49 kVd49 dcd49 pmd49 cdd49 ctd49 : Value}
    {fd50 : Addr} {odd50 and50 : Option Addr} {sld50 : Array (Option Value)} {ocd50 kVd50 dcd50 pmd50 cdd50 ctd50 : Value}
    {fd51 : Addr} {odd51 and51 : Option Addr} {sld51 : Array (Option Value)} {ocd51 kVd51 dcd51 pmd51 cdd51 ctd51 : Value}
    {fd52 : Addr} {odd52 and52 : Option Addr} {sld52 : Array (Option Value)} {ocd52 kVd52 dcd52 pmd52 cdd52 ctd52 : Value}
    {fd53 : Addr} {odd53 and53 : Option Addr} {sld53 : Array (Option Value)} {ocd53 kVd53 dcd53 pmd53 cdd53 ctd53 : Value}
    {fd54 : Addr} {odd54 and54 : Option Addr} {sld54 : Array (Option Value)} {ocd54 kVd54 dcd54 pmd54 cdd54 ctd54 : Value}
    {fd55 : Addr} {odd55 and55 : Option Addr} {sld55 : Array (Option Value)} {ocd55 kVd55 dcd55 pmd55 cdd55 ctd55 : Value}
    {fd56 : Addr} {odd56 and56 : Option Addr} {sld56 : Array (Option Value)} {ocd56 kVd56 dcd56 pmd56 cdd56 ctd56 : Value}
    {fd57 : Addr} {odd57 and57 : Option Addr} {sld57 : Array (Option Value)} {ocd57 kVd57 dcd57 pmd57 cdd57 ctd57 : Value}
    {fd58 : Addr} {odd58 and58 : Option Addr} {sld58 : Array (Option Value)} {ocd58 kVd58 dcd58 pmd58 cdd58 ctd58 : Value}
    {fd59 : Addr} {odd59 and59 : Option Addr} {sld59 : Array (Option Value)} {ocd59 kVd59 dcd59 pmd59 cdd59 ctd59 : Value}
    {fd60 : Addr} {odd60 and60 : Option Addr} {sld60 : Array (Option Value)} {ocd60 kVd60 dcd60 pmd60 cdd60 ctd60 : Value}
    {fm0 : Addr} {odm0 anm0 : Option Addr} {slm0 : Array (Option Value)} {ocm0 kVm0 dcm0 pmm0 cdm0 ctm0 : Value}
    {tGW tGA tGL : Tok}
    {aK nnK : Nat} {ddK : Option Addr} {ssK : Array (Option Value)} {tK0 tK1 tK2 tK3 tK4 tK5 tK6 tK7 : Tok}
    {aW nnW : Nat} {ddW : Option Addr} {ssW : Array (Option Value)} {tW0 tW1 : Tok}
    {aF nnF : Nat} {ddF : Option Addr} {ssF : Array (Option Value)} {tF0 tF1 : Tok}
    (aC : PySem.W.nsIn K mainGlobals "Net" = some (some (.ref C)))
    (ad0 : PySem.W.nsIn K mainGlobals "is_whole" = some (some (.ref fd0)))
    (ld0 : K.lookup fd0 = some ⟨ocd0, odd0, .func (PySem.W.fnOf "is_whole" "is_whole" (defArgs sWhole) (defBody sWhole) (defScope sWhole) .none kVd0 dcd0 pmd0 and0 cdd0 ctd0), sld0⟩)
    (cd0 : PySem.W.codeIn K cdd0 "is_whole" = true)
    (kd0 : PySem.W.keepIn K (.ref fd0) = true)
    (ad1 : PySem.W.nsIn K mainGlobals "is_whole_from_to" = some (some (.ref fd1)))
    (ld1 : K.lookup fd1 = some ⟨ocd1, odd1, .func (PySem.W.fnOf "is_whole_from_to" "is_whole_from_to" (defArgs sFromTo) (defBody sFromTo) (defScope sFromTo) .none kVd1 dcd1 pmd1 and1 cdd1 ctd1), sld1⟩)
    (cd1 : PySem.W.codeIn K cdd1 "is_whole_from_to" = true)
    (kd1 : PySem.W.keepIn K (.ref fd1) = true)
    (ad2 : PySem.W.nsIn K mainGlobals "is_worth" = some (some (.ref fd2)))
    (ld2 : K.lookup fd2 = some ⟨ocd2, odd2, .func (PySem.W.fnOf "is_worth" "is_worth" (defArgs sWorth) (defBody sWorth) (defScope sWorth) .none kVd2 dcd2 pmd2 and2 cdd2 ctd2), sld2⟩)
    (cd2 : PySem.W.codeIn K cdd2 "is_worth" = true)
    (kd2 : PySem.W.keepIn K (.ref fd2) = true)
    (ad3 : PySem.W.nsIn K mainGlobals "is_gate" = some (some (.ref fd3)))
    (ld3 : K.lookup fd3 = some ⟨ocd3, odd3, .func (PySem.W.fnOf "is_gate" "is_gate" (defArgs sIsGate) (defBody sIsGate) (defScope sIsGate) .none kVd3 dcd3 pmd3 and3 cdd3 ctd3), sld3⟩)
    (cd3 : PySem.W.codeIn K cdd3 "is_gate" = true)
    (kd3 : PySem.W.keepIn K (.ref fd3) = true)
    (ad4 : PySem.W.nsIn K mainGlobals "check_gates" = some (some (.ref fd4)))
    (ld4 : K.lookup fd4 = some ⟨ocd4, odd4, .func (PySem.W.fnOf "check_gates" "check_gates" (defArgs sChkGates) (defBody sChkGates) (defScope sChkGates) .none kVd4 dcd4 pmd4 and4 cdd4 ctd4), sld4⟩)
    (cd4 : PySem.W.codeIn K cdd4 "check_gates" = true)
    (kd4 : PySem.W.keepIn K (.ref fd4) = true)
    (ad5 : PySem.W.nsIn K mainGlobals "is_wire" = some (some (.ref fd5)))
    (ld5 : K.lookup fd5 = some ⟨ocd5, odd5, .func (PySem.W.fnOf "is_wire" "is_wire" (defArgs sIsWire) (defBody sIsWire) (defScope sIsWire) .none kVd5 dcd5 pmd5 and5 cdd5 ctd5), sld5⟩)
    (cd5 : PySem.W.codeIn K cdd5 "is_wire" = true)
    (kd5 : PySem.W.keepIn K (.ref fd5) = true)
    (ad6 : PySem.W.nsIn K mainGlobals "is_taken" = some (some (.ref fd6)))
    (ld6 : K.lookup fd6 = some ⟨ocd6, odd6, .func (PySem.W.fnOf "is_taken" "is_taken" (defArgs sTaken) (defBody sTaken) (defScope sTaken) .none kVd6 dcd6 pmd6 and6 cdd6 ctd6), sld6⟩)
    (cd6 : PySem.W.codeIn K cdd6 "is_taken" = true)
    (kd6 : PySem.W.keepIn K (.ref fd6) = true)
    (ad7 : PySem.W.nsIn K mainGlobals "check_wires" = some (some (.ref fd7)))
    (ld7 : K.lookup fd7 = some ⟨ocd7, odd7, .func (PySem.W.fnOf "check_wires" "check_wires" (defArgs sChkWires) (defBody sChkWires) (defScope sChkWires) .none kVd7 dcd7 pmd7 and7 cdd7 ctd7), sld7⟩)
    (cd7 : PySem.W.codeIn K cdd7 "check_wires" = true)
    (kd7 : PySem.W.keepIn K (.ref fd7) = true)
    (ad8 : PySem.W.nsIn K mainGlobals "order_along" = some (some (.ref fd8)))
    (ld8 : K.lookup fd8 = some ⟨ocd8, odd8, .func (PySem.W.fnOf "order_along" "order_along" (defArgs sAlong) (defBody sAlong) (defScope sAlong) .none kVd8 dcd8 pmd8 and8 cdd8 ctd8), sld8⟩)
    (cd8 : PySem.W.codeIn K cdd8 "order_along" = true)
    (kd8 : PySem.W.keepIn K (.ref fd8) = true)
    (ad9 : PySem.W.nsIn K mainGlobals "bare_order" = some (some (.ref fd9)))
    (ld9 : K.lookup fd9 = some ⟨ocd9, odd9, .func (PySem.W.fnOf "bare_order" "bare_order" (defArgs sOrder) (defBody sOrder) (defScope sOrder) .none kVd9 dcd9 pmd9 and9 cdd9 ctd9), sld9⟩)
    (cd9 : PySem.W.codeIn K cdd9 "bare_order" = true)
    (kd9 : PySem.W.keepIn K (.ref fd9) = true)
    (ad10 : PySem.W.nsIn K mainGlobals "check_rings" = some (some (.ref fd10)))
    (ld10 : K.lookup fd10 = some ⟨ocd10, odd10, .func (PySem.W.fnOf "check_rings" "check_rings" (defArgs sChkRings) (defBody sChkRings) (defScope sChkRings) .none kVd10 dcd10 pmd10 and10 cdd10 ctd10), sld10⟩)
    (cd10 : PySem.W.codeIn K cdd10 "check_rings" = true)
    (kd10 : PySem.W.keepIn K (.ref fd10) = true)
    (ad11 : PySem.W.nsIn K mainGlobals "is_outer" = some (some (.ref fd11)))
    (ld11 : K.lookup fd11 = some ⟨ocd11, odd11, .func (PySem.W.fnOf "is_outer" "is_outer" (defArgs sOuter) (defBody sOuter) (defScope sOuter) .none kVd11 dcd11 pmd11 and11 cdd11 ctd11), sld11⟩)
    (cd11 : PySem.W.codeIn K cdd11 "is_outer" = true)
    (kd11 : PySem.W.keepIn K (.ref fd11) = true)
    (ad12 : PySem.W.nsIn K mainGlobals "best_from" = some (some (.ref fd12)))
    (ld12 : K.lookup fd12 = some ⟨ocd12, odd12, .func (PySem.W.fnOf "best_from" "best_from" (defArgs sBestFrom) (defBody sBestFrom) (defScope sBestFrom) .none kVd12 dcd12 pmd12 and12 cdd12 ctd12), sld12⟩)
    (cd12 : PySem.W.codeIn K cdd12 "best_from" = true)
    (kd12 : PySem.W.keepIn K (.ref fd12) = true)
    (ad13 : PySem.W.nsIn K mainGlobals "way_to" = some (some (.ref fd13)))
    (ld13 : K.lookup fd13 = some ⟨ocd13, odd13, .func (PySem.W.fnOf "way_to" "way_to" (defArgs sWayTo) (defBody sWayTo) (defScope sWayTo) .none kVd13 dcd13 pmd13 and13 cdd13 ctd13), sld13⟩)
    (cd13 : PySem.W.codeIn K cdd13 "way_to" = true)
    (kd13 : PySem.W.keepIn K (.ref fd13) = true)
    (ad14 : PySem.W.nsIn K mainGlobals "wait_of" = some (some (.ref fd14)))
    (ld14 : K.lookup fd14 = some ⟨ocd14, odd14, .func (PySem.W.fnOf "wait_of" "wait_of" (defArgs sWaitOf) (defBody sWaitOf) (defScope sWaitOf) .none kVd14 dcd14 pmd14 and14 cdd14 ctd14), sld14⟩)
    (cd14 : PySem.W.codeIn K cdd14 "wait_of" = true)
    (kd14 : PySem.W.keepIn K (.ref fd14) = true)
    (ad15 : PySem.W.nsIn K mainGlobals "room_of" = some (some (.ref fd15)))
    (ld15 : K.lookup fd15 = some ⟨ocd15, odd15, .func (PySem.W.fnOf "room_of" "room_of" (defArgs sRoomOf) (defBody sRoomOf) (defScope sRoomOf) .none kVd15 dcd15 pmd15 and15 cdd15 ctd15), sld15⟩)
    (cd15 : PySem.W.codeIn K cdd15 "room_of" = true)
    (kd15 : PySem.W.keepIn K (.ref fd15) = true)
    (ad16 : PySem.W.nsIn K mainGlobals "spots_in" = some (some (.ref fd16)))
    (ld16 : K.lookup fd16 = some ⟨ocd16, odd16, .func (PySem.W.fnOf "spots_in" "spots_in" (defArgs sSpotsIn) (defBody sSpotsIn) (defScope sSpotsIn) .none kVd16 dcd16 pmd16 and16 cdd16 ctd16), sld16⟩)
    (cd16 : PySem.W.codeIn K cdd16 "spots_in" = true)
    (kd16 : PySem.W.keepIn K (.ref fd16) = true)
    (ad17 : PySem.W.nsIn K mainGlobals "spots_of" = some (some (.ref fd17)))
    (ld17 : K.lookup fd17 = some ⟨ocd17, odd17, .func (PySem.W.fnOf "spots_of" "spots_of" (defArgs sSpotsOf) (defBody sSpotsOf) (defScope sSpotsOf) .none kVd17 dcd17 pmd17 and17 cdd17 ctd17), sld17⟩)
    (cd17 : PySem.W.codeIn K cdd17 "spots_of" = true)
    (kd17 : PySem.W.keepIn K (.ref fd17) = true)
    (ad18 : PySem.W.nsIn K mainGlobals "lags_at" = some (some (.ref fd18)))
    (ld18 : K.lookup fd18 = some ⟨ocd18, odd18, .func (PySem.W.fnOf "lags_at" "lags_at" (defArgs sLagsAt) (defBody sLagsAt) (defScope sLagsAt) .none kVd18 dcd18 pmd18 and18 cdd18 ctd18), sld18⟩)
    (cd18 : PySem.W.codeIn K cdd18 "lags_at" = true)
    (kd18 : PySem.W.keepIn K (.ref fd18) = true)
    (ad19 : PySem.W.nsIn K mainGlobals "bounds_for" = some (some (.ref fd19)))
    (ld19 : K.lookup fd19 = some ⟨ocd19, odd19, .func (PySem.W.fnOf "bounds_for" "bounds_for" (defArgs sBoundsFor) (defBody sBoundsFor) (defScope sBoundsFor) .none kVd19 dcd19 pmd19 and19 cdd19 ctd19), sld19⟩)
    (cd19 : PySem.W.codeIn K cdd19 "bounds_for" = true)
    (kd19 : PySem.W.keepIn K (.ref fd19) = true)
    (ad20 : PySem.W.nsIn K mainGlobals "ring_from" = some (some (.ref fd20)))
    (ld20 : K.lookup fd20 = some ⟨ocd20, odd20, .func (PySem.W.fnOf "ring_from" "ring_from" (defArgs sRingFrom) (defBody sRingFrom) (defScope sRingFrom) .none kVd20 dcd20 pmd20 and20 cdd20 ctd20), sld20⟩)
    (cd20 : PySem.W.codeIn K cdd20 "ring_from" = true)
    (kd20 : PySem.W.keepIn K (.ref fd20) = true)
    (ad21 : PySem.W.nsIn K mainGlobals "settle" = some (some (.ref fd21)))
    (ld21 : K.lookup fd21 = some ⟨ocd21, odd21, .func (PySem.W.fnOf "settle" "settle" (defArgs sSettle) (defBody sSettle) (defScope sSettle) .none kVd21 dcd21 pmd21 and21 cdd21 ctd21), sld21⟩)
    (cd21 : PySem.W.codeIn K cdd21 "settle" = true)
    (kd21 : PySem.W.keepIn K (.ref fd21) = true)
    (ad22 : PySem.W.nsIn K mainGlobals "check_beat" = some (some (.ref fd22)))
    (ld22 : K.lookup fd22 = some ⟨ocd22, odd22, .func (PySem.W.fnOf "check_beat" "check_beat" (defArgs sChkBeat) (defBody sChkBeat) (defScope sChkBeat) .none kVd22 dcd22 pmd22 and22 cdd22 ctd22), sld22⟩)
    (cd22 : PySem.W.codeIn K cdd22 "check_beat" = true)
    (kd22 : PySem.W.keepIn K (.ref fd22) = true)
    (ad23 : PySem.W.nsIn K mainGlobals "for_beat" = some (some (.ref fd23)))
    (ld23 : K.lookup fd23 = some ⟨ocd23, odd23, .func (PySem.W.fnOf "for_beat" "for_beat" (defArgs sForBeat) (defBody sForBeat) (defScope sForBeat) .none kVd23 dcd23 pmd23 and23 cdd23 ctd23), sld23⟩)
    (cd23 : PySem.W.codeIn K cdd23 "for_beat" = true)
    (kd23 : PySem.W.keepIn K (.ref fd23) = true)
    (ad24 : PySem.W.nsIn K mainGlobals "between" = some (some (.ref fd24)))
    (ld24 : K.lookup fd24 = some ⟨ocd24, odd24, .func (PySem.W.fnOf "between" "between" (defArgs sBetween) (defBody sBetween) (defScope sBetween) .none kVd24 dcd24 pmd24 and24 cdd24 ctd24), sld24⟩)
    (cd24 : PySem.W.codeIn K cdd24 "between" = true)
    (kd24 : PySem.W.keepIn K (.ref fd24) = true)
    (ad25 : PySem.W.nsIn K mainGlobals "least_beat" = some (some (.ref fd25)))
    (ld25 : K.lookup fd25 = some ⟨ocd25, odd25, .func (PySem.W.fnOf "least_beat" "least_beat" (defArgs sLeastBeat) (defBody sLeastBeat) (defScope sLeastBeat) .none kVd25 dcd25 pmd25 and25 cdd25 ctd25), sld25⟩)
    (cd25 : PySem.W.codeIn K cdd25 "least_beat" = true)
    (kd25 : PySem.W.keepIn K (.ref fd25) = true)
    (ad26 : PySem.W.nsIn K mainGlobals "is_piece" = some (some (.ref fd26)))
    (ld26 : K.lookup fd26 = some ⟨ocd26, odd26, .func (PySem.W.fnOf "is_piece" "is_piece" (defArgs sIsPiece) (defBody sIsPiece) (defScope sIsPiece) .none kVd26 dcd26 pmd26 and26 cdd26 ctd26), sld26⟩)
    (cd26 : PySem.W.codeIn K cdd26 "is_piece" = true)
    (kd26 : PySem.W.keepIn K (.ref fd26) = true)
    (ad27 : PySem.W.nsIn K mainGlobals "end_of" = some (some (.ref fd27)))
    (ld27 : K.lookup fd27 = some ⟨ocd27, odd27, .func (PySem.W.fnOf "end_of" "end_of" (defArgs sEndOf) (defBody sEndOf) (defScope sEndOf) .none kVd27 dcd27 pmd27 and27 cdd27 ctd27), sld27⟩)
    (cd27 : PySem.W.codeIn K cdd27 "end_of" = true)
    (kd27 : PySem.W.keepIn K (.ref fd27) = true)
    (ad28 : PySem.W.nsIn K mainGlobals "ends_of" = some (some (.ref fd28)))
    (ld28 : K.lookup fd28 = some ⟨ocd28, odd28, .func (PySem.W.fnOf "ends_of" "ends_of" (defArgs sEndsOf) (defBody sEndsOf) (defScope sEndsOf) .none kVd28 dcd28 pmd28 and28 cdd28 ctd28), sld28⟩)
    (cd28 : PySem.W.codeIn K cdd28 "ends_of" = true)
    (kd28 : PySem.W.keepIn K (.ref fd28) = true)
    (ad29 : PySem.W.nsIn K mainGlobals "first_gap" = some (some (.ref fd29)))
    (ld29 : K.lookup fd29 = some ⟨ocd29, odd29, .func (PySem.W.fnOf "first_gap" "first_gap" (defArgs sFirstGap) (defBody sFirstGap) (defScope sFirstGap) .none kVd29 dcd29 pmd29 and29 cdd29 ctd29), sld29⟩)
    (cd29 : PySem.W.codeIn K cdd29 "first_gap" = true)
    (kd29 : PySem.W.keepIn K (.ref fd29) = true)
    (ad30 : PySem.W.nsIn K mainGlobals "bar_fault" = some (some (.ref fd30)))
    (ld30 : K.lookup fd30 = some ⟨ocd30, odd30, .func (PySem.W.fnOf "bar_fault" "bar_fault" (defArgs sBarFault) (defBody sBarFault) (defScope sBarFault) .none kVd30 dcd30 pmd30 and30 cdd30 ctd30), sld30⟩)
    (cd30 : PySem.W.codeIn K cdd30 "bar_fault" = true)
    (kd30 : PySem.W.keepIn K (.ref fd30) = true)
    (ad31 : PySem.W.nsIn K mainGlobals "both_ways" = some (some (.ref fd31)))
    (ld31 : K.lookup fd31 = some ⟨ocd31, odd31, .func (PySem.W.fnOf "both_ways" "both_ways" (defArgs sBothWays) (defBody sBothWays) (defScope sBothWays) .none kVd31 dcd31 pmd31 and31 cdd31 ctd31), sld31⟩)
    (cd31 : PySem.W.codeIn K cdd31 "both_ways" = true)
    (kd31 : PySem.W.keepIn K (.ref fd31) = true)
    (ad32 : PySem.W.nsIn K mainGlobals "change_along" = some (some (.ref fd32)))
    (ld32 : K.lookup fd32 = some ⟨ocd32, odd32, .func (PySem.W.fnOf "change_along" "change_along" (defArgs sChange) (defBody sChange) (defScope sChange) .none kVd32 dcd32 pmd32 and32 cdd32 ctd32), sld32⟩)
    (cd32 : PySem.W.codeIn K cdd32 "change_along" = true)
    (kd32 : PySem.W.keepIn K (.ref fd32) = true)
    (ad33 : PySem.W.nsIn K mainGlobals "least_flow" = some (some (.ref fd33)))
    (ld33 : K.lookup fd33 = some ⟨ocd33, odd33, .func (PySem.W.fnOf "least_flow" "least_flow" (defArgs sLeastFlow) (defBody sLeastFlow) (defScope sLeastFlow) .none kVd33 dcd33 pmd33 and33 cdd33 ctd33), sld33⟩)
    (cd33 : PySem.W.codeIn K cdd33 "least_flow" = true)
    (kd33 : PySem.W.keepIn K (.ref fd33) = true)
    (ad34 : PySem.W.nsIn K mainGlobals "near_lags" = some (some (.ref fd34)))
    (ld34 : K.lookup fd34 = some ⟨ocd34, odd34, .func (PySem.W.fnOf "near_lags" "near_lags" (defArgs sNearLags) (defBody sNearLags) (defScope sNearLags) .none kVd34 dcd34 pmd34 and34 cdd34 ctd34), sld34⟩)
    (cd34 : PySem.W.codeIn K cdd34 "near_lags" = true)
    (kd34 : PySem.W.keepIn K (.ref fd34) = true)
    (ad35 : PySem.W.nsIn K mainGlobals "registers" = some (some (.ref fd35)))
    (ld35 : K.lookup fd35 = some ⟨ocd35, odd35, .func (PySem.W.fnOf "registers" "registers" (defArgs sRegisters) (defBody sRegisters) (defScope sRegisters) .none kVd35 dcd35 pmd35 and35 cdd35 ctd35), sld35⟩)
    (cd35 : PySem.W.codeIn K cdd35 "registers" = true)
    (kd35 : PySem.W.keepIn K (.ref fd35) = true)
    (ad36 : PySem.W.nsIn K mainGlobals "plain_flow" = some (some (.ref fd36)))
    (ld36 : K.lookup fd36 = some ⟨ocd36, odd36, .func (PySem.W.fnOf "plain_flow" "plain_flow" (defArgs sPlainFlow) (defBody sPlainFlow) (defScope sPlainFlow) .none kVd36 dcd36 pmd36 and36 cdd36 ctd36), sld36⟩)
    (cd36 : PySem.W.codeIn K cdd36 "plain_flow" = true)
    (kd36 : PySem.W.keepIn K (.ref fd36) = true)
    (ad37 : PySem.W.nsIn K mainGlobals "paper_of" = some (some (.ref fd37)))
    (ld37 : K.lookup fd37 = some ⟨ocd37, odd37, .func (PySem.W.fnOf "paper_of" "paper_of" (defArgs sPaperOf) (defBody sPaperOf) (defScope sPaperOf) .none kVd37 dcd37 pmd37 and37 cdd37 ctd37), sld37⟩)
    (cd37 : PySem.W.codeIn K cdd37 "paper_of" = true)
    (kd37 : PySem.W.keepIn K (.ref fd37) = true)
    (ad38 : PySem.W.nsIn K mainGlobals "room_in" = some (some (.ref fd38)))
    (ld38 : K.lookup fd38 = some ⟨ocd38, odd38, .func (PySem.W.fnOf "room_in" "room_in" (defArgs sRoomIn) (defBody sRoomIn) (defScope sRoomIn) .none kVd38 dcd38 pmd38 and38 cdd38 ctd38), sld38⟩)
    (cd38 : PySem.W.codeIn K cdd38 "room_in" = true)
    (kd38 : PySem.W.keepIn K (.ref fd38) = true)
    (ad39 : PySem.W.nsIn K mainGlobals "is_numbered_piece" = some (some (.ref fd39)))
    (ld39 : K.lookup fd39 = some ⟨ocd39, odd39, .func (PySem.W.fnOf "is_numbered_piece" "is_numbered_piece" (defArgs sNumPiece) (defBody sNumPiece) (defScope sNumPiece) .none kVd39 dcd39 pmd39 and39 cdd39 ctd39), sld39⟩)
    (cd39 : PySem.W.codeIn K cdd39 "is_numbered_piece" = true)
    (kd39 : PySem.W.keepIn K (.ref fd39) = true)
    (ad40 : PySem.W.nsIn K mainGlobals "is_paper" = some (some (.ref fd40)))
    (ld40 : K.lookup fd40 = some ⟨ocd40, odd40, .func (PySem.W.fnOf "is_paper" "is_paper" (defArgs sIsPaper) (defBody sIsPaper) (defScope sIsPaper) .none kVd40 dcd40 pmd40 and40 cdd40 ctd40), sld40⟩)
    (cd40 : PySem.W.codeIn K cdd40 "is_paper" = true)
    (kd40 : PySem.W.keepIn K (.ref fd40) = true)
    (ad41 : PySem.W.nsIn K mainGlobals "gate_fault" = some (some (.ref fd41)))
    (ld41 : K.lookup fd41 = some ⟨ocd41, odd41, .func (PySem.W.fnOf "gate_fault" "gate_fault" (defArgs sGateFault) (defBody sGateFault) (defScope sGateFault) .none kVd41 dcd41 pmd41 and41 cdd41 ctd41), sld41⟩)
    (cd41 : PySem.W.codeIn K cdd41 "gate_fault" = true)
    (kd41 : PySem.W.keepIn K (.ref fd41) = true)
    (ad42 : PySem.W.nsIn K mainGlobals "paper_fault" = some (some (.ref fd42)))
    (ld42 : K.lookup fd42 = some ⟨ocd42, odd42, .func (PySem.W.fnOf "paper_fault" "paper_fault" (defArgs sPaperFault) (defBody sPaperFault) (defScope sPaperFault) .none kVd42 dcd42 pmd42 and42 cdd42 ctd42), sld42⟩)
    (cd42 : PySem.W.codeIn K cdd42 "paper_fault" = true)
    (kd42 : PySem.W.keepIn K (.ref fd42) = true)
    (ad43 : PySem.W.nsIn K mainGlobals "bound_of" = some (some (.ref fd43)))
    (ld43 : K.lookup fd43 = some ⟨ocd43, odd43, .func (PySem.W.fnOf "bound_of" "bound_of" (defArgs sBoundOf) (defBody sBoundOf) (defScope sBoundOf) .none kVd43 dcd43 pmd43 and43 cdd43 ctd43), sld43⟩)
    (cd43 : PySem.W.codeIn K cdd43 "bound_of" = true)
    (kd43 : PySem.W.keepIn K (.ref fd43) = true)
    (ad44 : PySem.W.nsIn K mainGlobals "let_bounds" = some (some (.ref fd44)))
    (ld44 : K.lookup fd44 = some ⟨ocd44, odd44, .func (PySem.W.fnOf "let_bounds" "let_bounds" (defArgs sLetBounds) (defBody sLetBounds) (defScope sLetBounds) .none kVd44 dcd44 pmd44 and44 cdd44 ctd44), sld44⟩)
    (cd44 : PySem.W.codeIn K cdd44 "let_bounds" = true)
    (kd44 : PySem.W.keepIn K (.ref fd44) = true)
    (ad45 : PySem.W.nsIn K mainGlobals "fewest" = some (some (.ref fd45)))
    (ld45 : K.lookup fd45 = some ⟨ocd45, odd45, .func (PySem.W.fnOf "fewest" "fewest" (defArgs sFewest) (defBody sFewest) (defScope sFewest) .none kVd45 dcd45 pmd45 and45 cdd45 ctd45), sld45⟩)
    (cd45 : PySem.W.codeIn K cdd45 "fewest" = true)
    (kd45 : PySem.W.keepIn K (.ref fd45) = true)
    (ad46 : PySem.W.nsIn K mainGlobals "first_wires" = some (some (.ref fd46)))
    (ld46 : K.lookup fd46 = some ⟨ocd46, odd46, .func (PySem.W.fnOf "first_wires" "first_wires" (defArgs sFirstWires) (defBody sFirstWires) (defScope sFirstWires) .none kVd46 dcd46 pmd46 and46 cdd46 ctd46), sld46⟩)
    (cd46 : PySem.W.codeIn K cdd46 "first_wires" = true)
    (kd46 : PySem.W.keepIn K (.ref fd46) = true)
    (ad47 : PySem.W.nsIn K mainGlobals "tail_bounds" = some (some (.ref fd47)))
    (ld47 : K.lookup fd47 = some ⟨ocd47, odd47, .func (PySem.W.fnOf "tail_bounds" "tail_bounds" (defArgs sTailBounds) (defBody sTailBounds) (defScope sTailBounds) .none kVd47 dcd47 pmd47 and47 cdd47 ctd47), sld47⟩)
    (cd47 : PySem.W.codeIn K cdd47 "tail_bounds" = true)
    (kd47 : PySem.W.keepIn K (.ref fd47) = true)
    (ad48 : PySem.W.nsIn K mainGlobals "is_pick" = some (some (.ref fd48)))
    (ld48 : K.lookup fd48 = some ⟨ocd48, odd48, .func (PySem.W.fnOf "is_pick" "is_pick" (defArgs sIsPick) (defBody sIsPick) (defScope sIsPick) .none kVd48 dcd48 pmd48 and48 cdd48 ctd48), sld48⟩)
    (cd48 : PySem.W.codeIn K cdd48 "is_pick" = true)
    (kd48 : PySem.W.keepIn K (.ref fd48) = true)
    (ad49 : PySem.W.nsIn K mainGlobals "shared_fault" = some (some (.ref fd49)))
    (ld49 : K.lookup fd49 = some ⟨ocd49, odd49, .func (PySem.W.fnOf "shared_fault" "shared_fault" (defArgs sSharedFault) (defBody sSharedFault) (defScope sSharedFault) .none kVd49 dcd49 pmd49 and49 cdd49 ctd49), sld49⟩)
    (cd49 : PySem.W.codeIn K cdd49 "shared_fault" = true)
    (kd49 : PySem.W.keepIn K (.ref fd49) = true)
    (ad50 : PySem.W.nsIn K mainGlobals "shared_bound" = some (some (.ref fd50)))
    (ld50 : K.lookup fd50 = some ⟨ocd50, odd50, .func (PySem.W.fnOf "shared_bound" "shared_bound" (defArgs sSharedBound) (defBody sSharedBound) (defScope sSharedBound) .none kVd50 dcd50 pmd50 and50 cdd50 ctd50), sld50⟩)
    (cd50 : PySem.W.codeIn K cdd50 "shared_bound" = true)
    (kd50 : PySem.W.keepIn K (.ref fd50) = true)
    (ad51 : PySem.W.nsIn K mainGlobals "fewest_shared" = some (some (.ref fd51)))
    (ld51 : K.lookup fd51 = some ⟨ocd51, odd51, .func (PySem.W.fnOf "fewest_shared" "fewest_shared" (defArgs sFewestShared) (defBody sFewestShared) (defScope sFewestShared) .none kVd51 dcd51 pmd51 and51 cdd51 ctd51), sld51⟩)
    (cd51 : PySem.W.codeIn K cdd51 "fewest_shared" = true)
    (kd51 : PySem.W.keepIn K (.ref fd51) = true)
    (ad52 : PySem.W.nsIn K mainGlobals "check_lags" = some (some (.ref fd52)))
    (ld52 : K.lookup fd52 = some ⟨ocd52, odd52, .func (PySem.W.fnOf "check_lags" "check_lags" (defArgs sChkLags) (defBody sChkLags) (defScope sChkLags) .none kVd52 dcd52 pmd52 and52 cdd52 ctd52), sld52⟩)
    (cd52 : PySem.W.codeIn K cdd52 "check_lags" = true)
    (kd52 : PySem.W.keepIn K (.ref fd52) = true)
    (ad53 : PySem.W.nsIn K mainGlobals "counts_by" = some (some (.ref fd53)))
    (ld53 : K.lookup fd53 = some ⟨ocd53, odd53, .func (PySem.W.fnOf "counts_by" "counts_by" (defArgs sCountsBy) (defBody sCountsBy) (defScope sCountsBy) .none kVd53 dcd53 pmd53 and53 cdd53 ctd53), sld53⟩)
    (cd53 : PySem.W.codeIn K cdd53 "counts_by" = true)
    (kd53 : PySem.W.keepIn K (.ref fd53) = true)
    (ad54 : PySem.W.nsIn K mainGlobals "counts" = some (some (.ref fd54)))
    (ld54 : K.lookup fd54 = some ⟨ocd54, odd54, .func (PySem.W.fnOf "counts" "counts" (defArgs sCounts) (defBody sCounts) (defScope sCounts) .none kVd54 dcd54 pmd54 and54 cdd54 ctd54), sld54⟩)
    (cd54 : PySem.W.codeIn K cdd54 "counts" = true)
    (kd54 : PySem.W.keepIn K (.ref fd54) = true)
    (ad55 : PySem.W.nsIn K mainGlobals "let_counts" = some (some (.ref fd55)))
    (ld55 : K.lookup fd55 = some ⟨ocd55, odd55, .func (PySem.W.fnOf "let_counts" "let_counts" (defArgs sLetCounts) (defBody sLetCounts) (defScope sLetCounts) .none kVd55 dcd55 pmd55 and55 cdd55 ctd55), sld55⟩)
    (cd55 : PySem.W.codeIn K cdd55 "let_counts" = true)
    (kd55 : PySem.W.keepIn K (.ref fd55) = true)
    (ad56 : PySem.W.nsIn K mainGlobals "shared" = some (some (.ref fd56)))
    (ld56 : K.lookup fd56 = some ⟨ocd56, odd56, .func (PySem.W.fnOf "shared" "shared" (defArgs sShared) (defBody sShared) (defScope sShared) .none kVd56 dcd56 pmd56 and56 cdd56 ctd56), sld56⟩)
    (cd56 : PySem.W.codeIn K cdd56 "shared" = true)
    (kd56 : PySem.W.keepIn K (.ref fd56) = true)
    (ad57 : PySem.W.nsIn K mainGlobals "_law_well" = some (some (.ref fd57)))
    (ld57 : K.lookup fd57 = some ⟨ocd57, odd57, .func (PySem.W.fnOf "_law_well" "_law_well" (defArgs sWell) (defBody sWell) (defScope sWell) .none kVd57 dcd57 pmd57 and57 cdd57 ctd57), sld57⟩)
    (cd57 : PySem.W.codeIn K cdd57 "_law_well" = true)
    (kd57 : PySem.W.keepIn K (.ref fd57) = true)
    (ad58 : PySem.W.nsIn K mainGlobals "_law_draw" = some (some (.ref fd58)))
    (ld58 : K.lookup fd58 = some ⟨ocd58, odd58, .func (PySem.W.fnOf "_law_draw" "_law_draw" (defArgs sDraw) (defBody sDraw) (defScope sDraw) .none kVd58 dcd58 pmd58 and58 cdd58 ctd58), sld58⟩)
    (cd58 : PySem.W.codeIn K cdd58 "_law_draw" = true)
    (kd58 : PySem.W.keepIn K (.ref fd58) = true)
    (ad59 : PySem.W.nsIn K mainGlobals "_law_house" = some (some (.ref fd59)))
    (ld59 : K.lookup fd59 = some ⟨ocd59, odd59, .func (PySem.W.fnOf "_law_house" "_law_house" (defArgs sHouse) (defBody sHouse) (defScope sHouse) .none kVd59 dcd59 pmd59 and59 cdd59 ctd59), sld59⟩)
    (cd59 : PySem.W.codeIn K cdd59 "_law_house" = true)
    (kd59 : PySem.W.keepIn K (.ref fd59) = true)
    (ad60 : PySem.W.nsIn K mainGlobals "law" = some (some (.ref fd60)))
    (ld60 : K.lookup fd60 = some ⟨ocd60, odd60, .func (PySem.W.fnOf "law" "law" (defArgs sLaw) (defBody sLaw) (defScope sLaw) .none kVd60 dcd60 pmd60 and60 cdd60 ctd60), sld60⟩)
    (cd60 : PySem.W.codeIn K cdd60 "law" = true)
    (kd60 : PySem.W.keepIn K (.ref fd60) = true)
    (am0 : PySem.W.findIn K (.ref C) "__init__" = some (some (.ref fm0)))
    (im0 : PySem.W.isFn K (.ref fm0) = true)
    (lm0 : K.lookup fm0 = some ⟨ocm0, odm0, .func (PySem.W.fnOf "__init__" "Net.__init__" (defArgs sInit) (defBody sInit) (defScope sInit) .none kVm0 dcm0 pmm0 anm0 cdm0 ctm0), slm0⟩)
    (cm0 : PySem.W.codeIn K cdm0 "Net.__init__" = true)
    (km0 : PySem.W.keepIn K (.ref fm0) = true)
    (pgC : PySem.W.plainGet K C Str.empty = true)
    (hdC : PySem.W.hasDictIn K C = true)
    (poC : PySem.W.plainOver K C = true)
    (saC : PySem.W.findIn K (.ref C) "__setattr__" = some (some (.builtin "object.__setattr__")))
    (mkC : PySem.W.makesIn K C = true)
    (kcC : PySem.W.keepIn K (.ref C) = true)
    (nG : PySem.W.findIn K (.ref C) "gates" = some none)
    (nW : PySem.W.findIn K (.ref C) "wires" = some none)
    (zisi : PySem.W.nsIn K mainGlobals "isinstance" = some none)
    (zint : PySem.W.nsIn K mainGlobals "int" = some none)
    (zbool : PySem.W.nsIn K mainGlobals "bool" = some none)
    (zlen : PySem.W.nsIn K mainGlobals "len" = some none)
    (ztuple : PySem.W.nsIn K mainGlobals "tuple" = some none)
    (zstr : PySem.W.nsIn K mainGlobals "str" = some none)
    (zlist : PySem.W.nsIn K mainGlobals "list" = some none)
    (zall : PySem.W.nsIn K mainGlobals "all" = some none)
    (zenum : PySem.W.nsIn K mainGlobals "enumerate" = some none)
    (zzip : PySem.W.nsIn K mainGlobals "zip" = some none)
    (zrange : PySem.W.nsIn K mainGlobals "range" = some none)
    (zmax : PySem.W.nsIn K mainGlobals "max" = some none)
    (zsum : PySem.W.nsIn K mainGlobals "sum" = some none)
    (zmin : PySem.W.nsIn K mainGlobals "min" = some none)
    (zsorted : PySem.W.nsIn K mainGlobals "sorted" = some none)
    (zset : PySem.W.nsIn K mainGlobals "set" = some none)
    (gGW : PySem.W.nsIn K mainGlobals "GREATEST_WORTH" = some (some (.int 96 tGW)))
    (gGA : PySem.W.nsIn K mainGlobals "GREATEST_WAIT" = some (some (.int 100 tGA)))
    (gGL : PySem.W.nsIn K mainGlobals "GREATEST_LAG" = some (some (.int 500 tGL)))
    (gK : PySem.W.nsIn K mainGlobals "KINDS" = some (some (.ref aK)))
    (oK : K.lookup aK = some ⟨.type "tuple", ddK, .seq #[.str "in" tK0, .str "out" tK1, .str "sum" tK2, .str "times" tK3, .str "most" tK4, .str "least" tK5, .str "first" tK6, .str "one" tK7] nnK, ssK⟩)
    (gW : PySem.W.nsIn K mainGlobals "OUTER_KINDS" = some (some (.ref aW)))
    (oW : K.lookup aW = some ⟨.type "tuple", ddW, .seq #[.str "in" tW0, .str "out" tW1] nnW, ssW⟩)
    (gF : PySem.W.nsIn K mainGlobals "KINDS_WITH_A_WIRE" = some (some (.ref aF)))
    (oF : K.lookup aF = some ⟨.type "tuple", ddF, .seq #[.str "out" tF0, .str "first" tF1] nnF, ssF⟩) :
    ∃ fd : FuncData, (∀ (s : Shared) (v : Value), BindsTo s fd ⟨[v], []⟩ [("_law_script", v)]) ∧ ∀ base : Heap, K.In base → base.Ns mainGlobals mg → FnOk l.prog w K mg base CX0 14 fa fd ["_law_script"] (spLaw K) := by
  have e := hfa.symm.trans (PySem.W.mg_of X G ad60)
  cases e
  have Fd0 := fun_mk (st := sWhole) ld0 cd0 kd0
  have Fd1 := fun_mk (st := sFromTo) ld1 cd1 kd1
  have Fd2 := fun_mk (st := sWorth) ld2 cd2 kd2
  have Fd3 := fun_mk (st := sIsGate) ld3 cd3 kd3
  have Fd4 := fun_mk (st := sChkGates) ld4 cd4 kd4
  have Fd5 := fun_mk (st := sIsWire) ld5 cd5 kd5
  have Fd6 := fun_mk (st := sTaken) ld6 cd6 kd6
  have Fd7 := fun_mk (st := sChkWires) ld7 cd7 kd7
  have Fd8 := fun_mk (st := sAlong) ld8 cd8 kd8
  have Fd9 := fun_mk (st := sOrder) ld9 cd9 kd9
  have Fd10 := fun_mk (st := sChkRings) ld10 cd10 kd10
  have Fd11 := fun_mk (st := sOuter) ld11 cd11 kd11
  have Fd12 := fun_mk (st := sBestFrom) ld12 cd12 kd12
  have Fd13 := fun_mk (st := sWayTo) ld13 cd13 kd13
  have Fd14 := fun_mk (st := sWaitOf) ld14 cd14 kd14
  have Fd15 := fun_mk (st := sRoomOf) ld15 cd15 kd15
  have Fd16 := fun_mk (st := sSpotsIn) ld16 cd16 kd16
  have Fd17 := fun_mk (st := sSpotsOf) ld17 cd17 kd17
  have Fd18 := fun_mk (st := sLagsAt) ld18 cd18 kd18
  have Fd19 := fun_mk (st := sBoundsFor) ld19 cd19 kd19
  have Fd20 := fun_mk (st := sRingFrom) ld20 cd20 kd20
  have Fd21 := fun_mk (st := sSettle) ld21 cd21 kd21
  have Fd22 := fun_mk (st := sChkBeat) ld22 cd22 kd22
  have Fd23 := fun_mk (st := sForBeat) ld23 cd23 kd23
  have Fd24 := fun_mk (st := sBetween) ld24 cd24 kd24
  have Fd25 := fun_mk (st := sLeastBeat) ld25 cd25 kd25
  have Fd26 := fun_mk (st := sIsPiece) ld26 cd26 kd26
  have Fd27 := fun_mk (st := sEndOf) ld27 cd27 kd27
  have Fd28 := fun_mk (st := sEndsOf) ld28 cd28 kd28
  have Fd29 := fun_mk (st := sFirstGap) ld29 cd29 kd29
  have Fd30 := fun_mk (st := sBarFault) ld30 cd30 kd30
  have Fd31 := fun_mk (st := sBothWays) ld31 cd31 kd31
  have Fd32 := fun_mk (st := sChange) ld32 cd32 kd32
  have Fd33 := fun_mk (st := sLeastFlow) ld33 cd33 kd33
  have Fd34 := fun_mk (st := sNearLags) ld34 cd34 kd34
  have Fd35 := fun_mk (st := sRegisters) ld35 cd35 kd35
  have Fd36 := fun_mk (st := sPlainFlow) ld36 cd36 kd36
  have Fd37 := fun_mk (st := sPaperOf) ld37 cd37 kd37
  have Fd38 := fun_mk (st := sRoomIn) ld38 cd38 kd38
  have Fd39 := fun_mk (st := sNumPiece) ld39 cd39 kd39
  have Fd40 := fun_mk (st := sIsPaper) ld40 cd40 kd40
  have Fd41 := fun_mk (st := sGateFault) ld41 cd41 kd41
  have Fd42 := fun_mk (st := sPaperFault) ld42 cd42 kd42
  have Fd43 := fun_mk (st := sBoundOf) ld43 cd43 kd43
  have Fd44 := fun_mk (st := sLetBounds) ld44 cd44 kd44
  have Fd45 := fun_mk (st := sFewest) ld45 cd45 kd45
  have Fd46 := fun_mk (st := sFirstWires) ld46 cd46 kd46
  have Fd47 := fun_mk (st := sTailBounds) ld47 cd47 kd47
  have Fd48 := fun_mk (st := sIsPick) ld48 cd48 kd48
  have Fd49 := fun_mk (st := sSharedFault) ld49 cd49 kd49
  have Fd50 := fun_mk (st := sSharedBound) ld50 cd50 kd50
  have Fd51 := fun_mk (st := sFewestShared) ld51 cd51 kd51
  have Fd52 := fun_mk (st := sChkLags) ld52 cd52 kd52
  have Fd53 := fun_mk (st := sCountsBy) ld53 cd53 kd53
  have Fd54 := fun_mk (st := sCounts) ld54 cd54 kd54
  have Fd55 := fun_mk (st := sLetCounts) ld55 cd55 kd55
  have Fd56 := fun_mk (st := sShared) ld56 cd56 kd56
  have Fd57 := fun_mk (st := sWell) ld57 cd57 kd57
  have Fd58 := fun_mk (st := sDraw) ld58 cd58 kd58
  have Fd59 := fun_mk (st := sHouse) ld59 cd59 kd59
  have Fd60 := fun_mk (st := sLaw) ld60 cd60 kd60
  have Fm0 := fun_mk (st := sInit) lm0 cm0 km0
  have B : Bt mg := ⟨PySem.W.mg_none_of X G zisi, PySem.W.mg_none_of X G zint, PySem.W.mg_none_of X G zbool, PySem.W.mg_none_of X G zlen, PySem.W.mg_none_of X G ztuple, PySem.W.mg_none_of X G zstr, PySem.W.mg_none_of X G zlist, PySem.W.mg_none_of X G zall, PySem.W.mg_none_of X G zenum, PySem.W.mg_none_of X G zzip, PySem.W.mg_none_of X G zrange, PySem.W.mg_none_of X G zmax⟩
  have b_sum := PySem.W.mg_none_of X G zsum
  have b_min := PySem.W.mg_none_of X G zmin
  have b_sorted := PySem.W.mg_none_of X G zsorted
  have b_set := PySem.W.mg_none_of X G zset
  have Cn : Cns K mg aK aW aF := ⟨⟨_, PySem.W.mg_of X G gGW⟩, ⟨_, PySem.W.mg_of X G gGA⟩, PySem.W.mg_of X G gK, fun _ => .inr ⟨_, _, _, oK, rfl, rfl, (by show 8 ≤ sizeLine; decide), .cons ⟨_, rfl⟩ (.cons ⟨_, rfl⟩ (.cons ⟨_, rfl⟩ (.cons ⟨_, rfl⟩ (.cons ⟨_, rfl⟩ (.cons ⟨_, rfl⟩ (.cons ⟨_, rfl⟩ (.cons ⟨_, rfl⟩ (.nil))))))))⟩, PySem.W.mg_of X G gW, fun _ => .inr ⟨_, _, _, oW, rfl, rfl, (by show 2 ≤ sizeLine; decide), .cons ⟨_, rfl⟩ (.cons ⟨_, rfl⟩ (.nil))⟩, PySem.W.mg_of X G gF, fun _ => .inr ⟨_, _, _, oF, rfl, rfl, (by show 2 ≤ sizeLine; decide), .cons ⟨_, rfl⟩ (.cons ⟨_, rfl⟩ (.nil))⟩⟩
  have i_GL : ∃ t, mg "GREATEST_LAG" = some (.int 500 t) := ⟨_, PySem.W.mg_of X G gGL⟩
  have T : NT K mg C := ⟨⟨pgC, hdC, poC, saC⟩, nG, nW, PySem.W.mg_of X G aC⟩
  have bm0 := Fm0.binds (ps := ["self", "gates", "wires"]) fun _ _ _ _ _ _ us hl => match us, hl with | [_, _, _], _ => rfl
  refine ⟨PySem.W.fnOf "law" "law" (defArgs sLaw) (defBody sLaw) (defScope sLaw) .none kVd60 dcd60 pmd60 and60 cdd60 ctd60, fun s v => .of_eq rfl, fun base _ _ => ?_⟩
  have whole := ok_whole (P := l.prog) (w := w) (base := base) Fd0 (PySem.W.mg_of X G ad0) B
  have ft := ok_fromTo (P := l.prog) (w := w) (base := base) Fd1 (PySem.W.mg_of X G ad1) whole
  have wo := ok_worth (P := l.prog) (w := w) (base := base) Fd2 (PySem.W.mg_of X G ad2) Cn ft
  have ig := ok_isGate (P := l.prog) (w := w) (base := base) Fd3 (PySem.W.mg_of X G ad3) B Cn ft
  have cg := ok_chkGates (P := l.prog) (w := w) (base := base) Fd4 (PySem.W.mg_of X G ad4) B ig
  have iw := ok_isWire (P := l.prog) (w := w) (base := base) Fd5 (PySem.W.mg_of X G ad5) B ft wo
  have tk := ok_taken (P := l.prog) (w := w) (base := base) Fd6 (PySem.W.mg_of X G ad6)
  have cw := ok_chkWires (P := l.prog) (w := w) (base := base) Fd7 (PySem.W.mg_of X G ad7) B Cn iw tk
  have al := ok_along (P := l.prog) (w := w) (base := base) Fd8 (PySem.W.mg_of X G ad8) B
  have od := ok_order (P := l.prog) (w := w) (base := base) Fd9 (PySem.W.mg_of X G ad9) B al
  have cr := ok_chkRings (P := l.prog) (w := w) (base := base) Fd10 (PySem.W.mg_of X G ad10) B od
  have init := ok_init (P := l.prog) (w := w) (base := base) Fm0 T B cg cw cr
  have MK : Mk K C fm0 := ⟨mkC, am0, im0, kcC⟩
  have ou := ok_outer (P := l.prog) (w := w) (base := base) Fd11 (PySem.W.mg_of X G ad11) Cn
  have bf := ok_bestFrom (P := l.prog) (w := w) (base := base) Fd12 (PySem.W.mg_of X G ad12) B T
  have wy := ok_wayTo (P := l.prog) (w := w) (base := base) Fd13 (PySem.W.mg_of X G ad13) B T
  have wto := ok_waitOf (P := l.prog) (w := w) (base := base) Fd14 (PySem.W.mg_of X G ad14) B b_sum T
  have rmo := ok_roomOf (P := l.prog) (w := w) (base := base) Fd15 (PySem.W.mg_of X G ad15) B b_sum T wto
  have spi := ok_spotsIn (P := l.prog) (w := w) (base := base) Fd16 (PySem.W.mg_of X G ad16) B T
  have spo := ok_spotsOf (P := l.prog) (w := w) (base := base) Fd17 (PySem.W.mg_of X G ad17) B T ou
  have lat := ok_lagsAt (P := l.prog) (w := w) (base := base) Fd18 (PySem.W.mg_of X G ad18) B T spo
  have bdf := ok_boundsFor (P := l.prog) (w := w) (base := base) Fd19 (PySem.W.mg_of X G ad19) B b_sorted T spo bf wy rmo
  have rgf := ok_ringF (P := l.prog) (w := w) (base := base) Fd20 (PySem.W.mg_of X G ad20) B
  have stl := ok_settle (P := l.prog) (w := w) (base := base) Fd21 (PySem.W.mg_of X G ad21) B rgf
  have chb := ok_chkB (P := l.prog) (w := w) (base := base) Fd22 (PySem.W.mg_of X G ad22) whole
  have fbt := ok_forBeat (P := l.prog) (w := w) (base := base) Fd23 (PySem.W.mg_of X G ad23) B T chb stl spi bdf lat
  have btw := ok_between (P := l.prog) (w := w) (base := base) Fd24 (PySem.W.mg_of X G ad24) B b_sorted T bf
  have lbt := ok_leastBeat (P := l.prog) (w := w) (base := base) Fd25 (PySem.W.mg_of X G ad25) B b_sorted b_set btw fbt
  have isp := ok_isPiece (P := l.prog) (w := w) (base := base) Fd26 (PySem.W.mg_of X G ad26) B T ft
  have eof := ok_endOf (P := l.prog) (w := w) (base := base) Fd27 (PySem.W.mg_of X G ad27) B T
  have eso := ok_endsOf (P := l.prog) (w := w) (base := base) Fd28 (PySem.W.mg_of X G ad28) eof
  have fgp := ok_firstGap (P := l.prog) (w := w) (base := base) Fd29 (PySem.W.mg_of X G ad29) B spo
  have bft := ok_barFault (P := l.prog) (w := w) (base := base) Fd30 (PySem.W.mg_of X G ad30) B b_sum chb isp eso fgp rmo
  have bw := ok_bothWays (P := l.prog) (w := w) (base := base) Fd31 (PySem.W.mg_of X G ad31) B
  have ca := ok_change (P := l.prog) (w := w) (base := base) Fd32 (PySem.W.mg_of X G ad32) B b_min
  have lf := ok_leastFlow (P := l.prog) (w := w) (base := base) Fd33 (PySem.W.mg_of X G ad33) B bw stl ca
  have nl := ok_nearLags (P := l.prog) (w := w) (base := base) Fd34 (PySem.W.mg_of X G ad34) B T i_GL stl lat
  have rg := ok_registers (P := l.prog) (w := w) (base := base) Fd35 (PySem.W.mg_of X G ad35) B T b_sum
  have pl := ok_plainFlow (P := l.prog) (w := w) (base := base) Fd36 (PySem.W.mg_of X G ad36) B T eso
  have po := ok_paperOf (P := l.prog) (w := w) (base := base) Fd37 (PySem.W.mg_of X G ad37) B
  have ri := ok_roomIn (P := l.prog) (w := w) (base := base) Fd38 (PySem.W.mg_of X G ad38) B b_sum rmo
  have np := ok_numPiece (P := l.prog) (w := w) (base := base) Fd39 (PySem.W.mg_of X G ad39) B isp whole
  have pp := ok_isPaper (P := l.prog) (w := w) (base := base) Fd40 (PySem.W.mg_of X G ad40) B np
  have gf := ok_gateFault (P := l.prog) (w := w) (base := base) Fd41 (PySem.W.mg_of X G ad41) B T eof ou
  have pf := ok_paperFault (P := l.prog) (w := w) (base := base) Fd42 (PySem.W.mg_of X G ad42) B T chb pp gf
  have bo := ok_boundOf (P := l.prog) (w := w) (base := base) Fd43 (PySem.W.mg_of X G ad43) pf rg ri
  have lb := ok_letBounds (P := l.prog) (w := w) (base := base) Fd44 (PySem.W.mg_of X G ad44) fbt bdf
  have fw := ok_fewest (P := l.prog) (w := w) (base := base) Fd45 (PySem.W.mg_of X G ad45) B T lb lf spi pl po bo nl
  have fi := ok_firstWires (P := l.prog) (w := w) (base := base) Fd46 (PySem.W.mg_of X G ad46) B T
  have tb := ok_tailBounds (P := l.prog) (w := w) (base := base) Fd47 (PySem.W.mg_of X G ad47) B T spo spi
  have pk := ok_isPick (P := l.prog) (w := w) (base := base) Fd48 (PySem.W.mg_of X G ad48) B T b_sorted b_set ft
  have sf := ok_sharedFault (P := l.prog) (w := w) (base := base) Fd49 (PySem.W.mg_of X G ad49) B chb pk pp gf
  have sb := ok_sharedBound (P := l.prog) (w := w) (base := base) Fd50 (PySem.W.mg_of X G ad50) B T b_sum sf ri
  have fs := ok_fewestShared (P := l.prog) (w := w) (base := base) Fd51 (PySem.W.mg_of X G ad51) B T lb lf spi pl po sb nl fi tb
  have cl := ok_chkLags (P := l.prog) (w := w) (base := base) Fd52 (PySem.W.mg_of X G ad52) B T i_GL ou ft
  have cb := ok_countsBy (P := l.prog) (w := w) (base := base) Fd53 (PySem.W.mg_of X G ad53) B T
  have cn := ok_counts (P := l.prog) (w := w) (base := base) Fd54 (PySem.W.mg_of X G ad54) cl cb
  have lc := ok_letCounts (P := l.prog) (w := w) (base := base) Fd55 (PySem.W.mg_of X G ad55) B cn
  have psd := ok_shared (P := l.prog) (w := w) (base := base) Fd56 (PySem.W.mg_of X G ad56) B T b_sum lc
  have wel := ok_well (P := l.prog) (w := w) (base := base) Fd57 (PySem.W.mg_of X G ad57) B
  have drw := ok_draw (P := l.prog) (w := w) (base := base) Fd58 (PySem.W.mg_of X G ad58)
  have hou := ok_house (P := l.prog) (w := w) (base := base) Fd59 (PySem.W.mg_of X G ad59) B T MK init bm0 drw
  have kLb := kb_one (p1 := "net") Fd25 fun _ _ _ _ _ _ _ => rfl
  have kFb := kb_swp (p1 := "net") (p2 := "beat") Fd23 fun _ _ _ _ _ _ _ _ => rfl
  have kBf := kb_rev3 (p1 := "net") (p2 := "beat") (p3 := "thing") Fd30 fun _ _ _ _ _ _ _ _ _ => rfl
  have kFw := kb_swp (p1 := "net") (p2 := "beat") Fd45 fun _ _ _ _ _ _ _ _ => rfl
  have kPf := kb_rev3 (p1 := "net") (p2 := "beat") (p3 := "thing") Fd42 fun _ _ _ _ _ _ _ _ _ => rfl
  have kBo := kb_rev3 (p1 := "net") (p2 := "thing") (p3 := "beat") Fd43 fun _ _ _ _ _ _ _ _ _ => rfl
  have kSh := kb_swp (p1 := "net") (p2 := "lags") Fd56 fun _ _ _ _ _ _ _ _ => rfl
  have kFs := kb_swp (p1 := "net") (p2 := "beat") Fd51 fun _ _ _ _ _ _ _ _ => rfl
  have kSf := kb_rev3 (p1 := "net") (p2 := "beat") (p3 := "thing") Fd49 fun _ _ _ _ _ _ _ _ _ => rfl
  have kSb := kb_rev3 (p1 := "net") (p2 := "thing") (p3 := "beat") Fd50 fun _ _ _ _ _ _ _ _ _ => rfl
  exact ok_law Fd60 B T wel hou lbt kLb fbt kFb bft kBf fw kFw pf kPf bo kBo psd kSh fs kFs sf kSf sb kSb
end Lag

set_option maxRecDepth 100000
open PySem PySem.W PyProof.Rows
set_option maxRecDepth 100000 in
set_option maxHeartbeats 0 in
theorem PySem.Challenge.cw_lagshift_k48_bars_by_names_holds : PySem.Challenge.rw_lagshift_k48_bars_by_names.Holds := by
  w_on; o_law; k_head; (case hw => w_witness2)
  k_fill
  refine L2.walk_of (l := PySem.Challenge.rw_lagshift_k48_bars_by_names) (n := 63) (k := 14) (x := "_law_script") (CX := fun _ => L2.CX0) (sp := fun w => Lag.spLaw _) rfl (by decide) rfl ⟨rfl, by decide, by decide⟩ (fun w h Y => PySem.W.kIn_of Y) ?F (fun _ _ a ns hl _ hS => ⟨a, ns, rfl, hS, hl, fun _ => rfl⟩) (fun _ _ _ _ _ h => h)
  case F =>
    intro w mg fa h KX G hmg
    refine' Lag.all_mk KX G hmg ?aC ?ad0 ?ld0 ?cd0 ?kd0 ?ad1 ?ld1 ?cd1 ?kd1 ?ad2 ?ld2 ?cd2 ?kd2 ?ad3 ?ld3 ?cd3 ?kd3 ?ad4 ?ld4 ?cd4 ?kd4 ?ad5 ?ld5 ?cd5 ?kd5 ?ad6 ?ld6 ?cd6 ?kd6 ?ad7 ?ld7 ?cd7 ?kd7 ?ad8 ?ld8 ?cd8 ?kd8 ?ad9 ?ld9 ?cd9 ?kd9 ?ad10 ?ld10 ?cd10 ?kd10 ?ad11 ?ld11 ?cd11 ?kd11 ?ad12 ?ld12 ?cd12 ?kd12 ?ad13 ?ld13 ?cd13 ?kd13 ?ad14 ?ld14 ?cd14 ?kd14 ?ad15 ?ld15 ?cd15 ?kd15 ?ad16 ?ld16 ?cd16 ?kd16 ?ad17 ?ld17 ?cd17 ?kd17 ?ad18 ?ld18 ?cd18 ?kd18 ?ad19 ?ld19 ?cd19 ?kd19 ?ad20 ?ld20 ?cd20 ?kd20 ?ad21 ?ld21 ?cd21 ?kd21 ?ad22 ?ld22 ?cd22 ?kd22 ?ad23 ?ld23 ?cd23 ?kd23 ?ad24 ?ld24 ?cd24 ?kd24 ?ad25 ?ld25 ?cd25 ?kd25 ?ad26 ?ld26 ?cd26 ?kd26 ?ad27 ?ld27 ?cd27 ?kd27 ?ad28 ?ld28 ?cd28 ?kd28 ?ad29 ?ld29 ?cd29 ?kd29 ?ad30 ?ld30 ?cd30 ?kd30 ?ad31 ?ld31 ?cd31 ?kd31 ?ad32 ?ld32 ?cd32 ?kd32 ?ad33 ?ld33 ?cd33 ?kd33 ?ad34 ?ld34 ?cd34 ?kd34 ?ad35 ?ld35 ?cd35 ?kd35 ?ad36 ?ld36 ?cd36 ?kd36 ?ad37 ?ld37 ?cd37 ?kd37 ?ad38 ?ld38 ?cd38 ?kd38 ?ad39 ?ld39 ?cd39 ?kd39 ?ad40 ?ld40 ?cd40 ?kd40 ?ad41 ?ld41 ?cd41 ?kd41 ?ad42 ?ld42 ?cd42 ?kd42 ?ad43 ?ld43 ?cd43 ?kd43 ?ad44 ?ld44 ?cd44 ?kd44 ?ad45 ?ld45 ?cd45 ?kd45 ?ad46 ?ld46 ?cd46 ?kd46 ?ad47 ?ld47 ?cd47 ?kd47 ?ad48 ?ld48 ?cd48 ?kd48 ?ad49 ?ld49 ?cd49 ?kd49 ?ad50 ?ld50 ?cd50 ?kd50 ?ad51 ?ld51 ?cd51 ?kd51 ?ad52 ?ld52 ?cd52 ?kd52 ?ad53 ?ld53 ?cd53 ?kd53 ?ad54 ?ld54 ?cd54 ?kd54 ?ad55 ?ld55 ?cd55 ?kd55 ?ad56 ?ld56 ?cd56 ?kd56 ?ad57 ?ld57 ?cd57 ?kd57 ?ad58 ?ld58 ?cd58 ?kd58 ?ad59 ?ld59 ?cd59 ?kd59 ?ad60 ?ld60 ?cd60 ?kd60 ?am0 ?im0 ?lm0 ?cm0 ?km0 ?pgC ?hdC ?poC ?saC ?mkC ?kcC ?nG ?nW ?zisi ?zint ?zbool ?zlen ?ztuple ?zstr ?zlist ?zall ?zenum ?zzip ?zrange ?zmax ?zsum ?zmin ?zsorted ?zset ?gGW ?gGA ?gGL ?gK ?oK ?gW ?oW ?gF ?oF
    (case aC => k_is)
    (case ad0 => k_is)
    (case ld0 => k_is)
    (case cd0 => k_is)
    (case kd0 => k_is)
    (case ad1 => k_is)
    (case ld1 => k_is)
    (case cd1 => k_is)
    (case kd1 => k_is)
    (case ad2 => k_is)
    (case ld2 => k_is)
    (case cd2 => k_is)
    (case kd2 => k_is)
    (case ad3 => k_is)
    (case ld3 => k_is)
    (case cd3 => k_is)
    (case kd3 => k_is)
    (case ad4 => k_is)
    (case ld4 => k_is)
    (case cd4 => k_is)
    (case kd4 => k_is)
    (case ad5 => k_is)
    (case ld5 => k_is)
    (case cd5 => k_is)
    (case kd5 => k_is)
    (case ad6 => k_is)
    (case ld6 => k_is)
    (case cd6 => k_is)
    (case kd6 => k_is)
    (case ad7 => k_is)
    (case ld7 => k_is)
    (case cd7 => k_is)
    (case kd7 => k_is)
    (case ad8 => k_is)
    (case ld8 => k_is)
    (case cd8 => k_is)
    (case kd8 => k_is)
    (case ad9 => k_is)
    (case ld9 => k_is)
    (case cd9 => k_is)
    (case kd9 => k_is)
    (case ad10 => k_is)
    (case ld10 => k_is)
    (case cd10 => k_is)
    (case kd10 => k_is)
    (case ad11 => k_is)
    (case ld11 => k_is)
    (case cd11 => k_is)
    (case kd11 => k_is)
    (case ad12 => k_is)
    (case ld12 => k_is)
    (case cd12 => k_is)
    (case kd12 => k_is)
    (case ad13 => k_is)
    (case ld13 => k_is)
    (case cd13 => k_is)
    (case kd13 => k_is)
    (case ad14 => k_is)
    (case ld14 => k_is)
    (case cd14 => k_is)
    (case kd14 => k_is)
    (case ad15 => k_is)
    (case ld15 => k_is)
    (case cd15 => k_is)
    (case kd15 => k_is)
    (case ad16 => k_is)
    (case ld16 => k_is)
    (case cd16 => k_is)
    (case kd16 => k_is)
    (case ad17 => k_is)
    (case ld17 => k_is)
    (case cd17 => k_is)
    (case kd17 => k_is)
    (case ad18 => k_is)
    (case ld18 => k_is)
    (case cd18 => k_is)
    (case kd18 => k_is)
    (case ad19 => k_is)
    (case ld19 => k_is)
    (case cd19 => k_is)
    (case kd19 => k_is)
    (case ad20 => k_is)
    (case ld20 => k_is)
    (case cd20 => k_is)
    (case kd20 => k_is)
    (case ad21 => k_is)
    (case ld21 => k_is)
    (case cd21 => k_is)
    (case kd21 => k_is)
    (case ad22 => k_is)
    (case ld22 => k_is)
    (case cd22 => k_is)
    (case kd22 => k_is)
    (case ad23 => k_is)
    (case ld23 => k_is)
    (case cd23 => k_is)
    (case kd23 => k_is)
    (case ad24 => k_is)
    (case ld24 => k_is)
    (case cd24 => k_is)
    (case kd24 => k_is)
    (case ad25 => k_is)
    (case ld25 => k_is)
    (case cd25 => k_is)
    (case kd25 => k_is)
    (case ad26 => k_is)
    (case ld26 => k_is)
    (case cd26 => k_is)
    (case kd26 => k_is)
    (case ad27 => k_is)
    (case ld27 => k_is)
    (case cd27 => k_is)
    (case kd27 => k_is)
    (case ad28 => k_is)
    (case ld28 => k_is)
    (case cd28 => k_is)
    (case kd28 => k_is)
    (case ad29 => k_is)
    (case ld29 => k_is)
    (case cd29 => k_is)
    (case kd29 => k_is)
    (case ad30 => k_is)
    (case ld30 => k_is)
    (case cd30 => k_is)
    (case kd30 => k_is)
    (case ad31 => k_is)
    (case ld31 => k_is)
    (case cd31 => k_is)
    (case kd31 => k_is)
    (case ad32 => k_is)
    (case ld32 => k_is)
    (case cd32 => k_is)
    (case kd32 => k_is)
    (case ad33 => k_is)
    (case ld33 => k_is)
    (case cd33 => k_is)
    (case kd33 => k_is)
    (case ad34 => k_is)
    (case ld34 => k_is)
    (case cd34 => k_is)
    (case kd34 => k_is)
    (case ad35 => k_is)
    (case ld35 => k_is)
    (case cd35 => k_is)
    (case kd35 => k_is)
    (case ad36 => k_is)
    (case ld36 => k_is)
    (case cd36 => k_is)
    (case kd36 => k_is)
    (case ad37 => k_is)
    (case ld37 => k_is)
    (case cd37 => k_is)
    (case kd37 => k_is)
    (case ad38 => k_is)
    (case ld38 => k_is)
    (case cd38 => k_is)
    (case kd38 => k_is)
    (case ad39 => k_is)
    (case ld39 => k_is)
    (case cd39 => k_is)
    (case kd39 => k_is)
    (case ad40 => k_is)
    (case ld40 => k_is)
    (case cd40 => k_is)
    (case kd40 => k_is)
    (case ad41 => k_is)
    (case ld41 => k_is)
    (case cd41 => k_is)
    (case kd41 => k_is)
    (case ad42 => k_is)
    (case ld42 => k_is)
    (case cd42 => k_is)
    (case kd42 => k_is)
    (case ad43 => k_is)
    (case ld43 => k_is)
    (case cd43 => k_is)
    (case kd43 => k_is)
    (case ad44 => k_is)
    (case ld44 => k_is)
    (case cd44 => k_is)
    (case kd44 => k_is)
    (case ad45 => k_is)
    (case ld45 => k_is)
    (case cd45 => k_is)
    (case kd45 => k_is)
    (case ad46 => k_is)
    (case ld46 => k_is)
    (case cd46 => k_is)
    (case kd46 => k_is)
    (case ad47 => k_is)
    (case ld47 => k_is)
    (case cd47 => k_is)
    (case kd47 => k_is)
    (case ad48 => k_is)
    (case ld48 => k_is)
    (case cd48 => k_is)
    (case kd48 => k_is)
    (case ad49 => k_is)
    (case ld49 => k_is)
    (case cd49 => k_is)
    (case kd49 => k_is)
    (case ad50 => k_is)
    (case ld50 => k_is)
    (case cd50 => k_is)
    (case kd50 => k_is)
    (case ad51 => k_is)
    (case ld51 => k_is)
    (case cd51 => k_is)
    (case kd51 => k_is)
    (case ad52 => k_is)
    (case ld52 => k_is)
    (case cd52 => k_is)
    (case kd52 => k_is)
    (case ad53 => k_is)
    (case ld53 => k_is)
    (case cd53 => k_is)
    (case kd53 => k_is)
    (case ad54 => k_is)
    (case ld54 => k_is)
    (case cd54 => k_is)
    (case kd54 => k_is)
    (case ad55 => k_is)
    (case ld55 => k_is)
    (case cd55 => k_is)
    (case kd55 => k_is)
    (case ad56 => k_is)
    (case ld56 => k_is)
    (case cd56 => k_is)
    (case kd56 => k_is)
    (case ad57 => k_is)
    (case ld57 => k_is)
    (case cd57 => k_is)
    (case kd57 => k_is)
    (case ad58 => k_is)
    (case ld58 => k_is)
    (case cd58 => k_is)
    (case kd58 => k_is)
    (case ad59 => k_is)
    (case ld59 => k_is)
    (case cd59 => k_is)
    (case kd59 => k_is)
    (case ad60 => k_is)
    (case ld60 => k_is)
    (case cd60 => k_is)
    (case kd60 => k_is)
    (case am0 => k_is)
    (case im0 => k_is)
    (case lm0 => k_is)
    (case cm0 => k_is)
    (case km0 => k_is)
    (case pgC => k_is)
    (case hdC => k_is)
    (case poC => k_is)
    (case saC => k_is)
    (case mkC => k_is)
    (case kcC => k_is)
    (case nG => k_is)
    (case nW => k_is)
    (case zisi => k_is)
    (case zint => k_is)
    (case zbool => k_is)
    (case zlen => k_is)
    (case ztuple => k_is)
    (case zstr => k_is)
    (case zlist => k_is)
    (case zall => k_is)
    (case zenum => k_is)
    (case zzip => k_is)
    (case zrange => k_is)
    (case zmax => k_is)
    (case zsum => k_is)
    (case zmin => k_is)
    (case zsorted => k_is)
    (case zset => k_is)
    (case gGW => k_is)
    (case gGA => k_is)
    (case gGL => k_is)
    (case gK => k_is)
    (case oK => k_is)
    (case gW => k_is)
    (case oW => k_is)
    (case gF => k_is)
    (case oF => k_is)

