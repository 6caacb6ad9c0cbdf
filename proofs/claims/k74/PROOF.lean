import PyProof.Rows.All
import Wide.All
import OpenK.AllK
import Wide.FinOn
import HandS.ForMost
import HandS.IsInst
import HandS.Evl
import HandS.Flow
import HandS.Conv
import HandS.Wide
import HandS.Walk
import HandS.Zip
import HandS.OwnEq
import HandS.Style
import HandS.TupAny
import HandS.More
import HandS.SortInts
import HandS.SetFor
import HandS.TupSets
import HandS.Deep
import HandS.Iter
import HandS.Dict
import HandS.DictComp
import HandS.WordsExc
import HandS.ExcOwn
import HandS.ExcField
import HandS.TryOnly
import HandS.ExcIs
import HandS.Lambda
import HandS.TryMany
import HandS.ExcInit
import KE.KNestM
import PySem.Challenge.RW_lagshift_k74_shared_registers
set_option Elab.async false
set_option linter.all false
set_option maxRecDepth 100000
set_option maxHeartbeats 4000000
namespace Lag
open PySem PySem.Spec PyProof.Rows L2
/-! ### the text by its places -/
def topS (i : Nat) : Stmt := PySem.Challenge.pw_lagshift_k74_shared_registers.main.body.getD i (.Pass ⟨0, 0, 0, 0⟩)
/-! ### heaps -/
/-- all stands as it stood but at w -/
def But (w : Addr) (H H' : Hp) : Prop := ∀ b o, b ≠ w → H b = some o → H' b = some o
theorem But.refl (w : Addr) (H : Hp) : But w H H := fun _ _ _ h => h
theorem But.trans {w : Addr} {H H1 H2 : Hp} (a : But w H H1) (b : But w H1 H2) : But w H H2 := fun c o n h => b c o n (a c o n h)
theorem But.same {w : Addr} {H H1 : Hp} (a : Same H H1) : But w H H1 := fun c o _ h => a c o h
theorem But.upd {w : Addr} {H : Hp} {o : HO} : But w H (upd H w o) := fun c u n h => by rw [upd_ne n]; exact h
theorem But.new {w p : Addr} {H : Hp} {o : HO} (h : H p = none) : But w H (L2.upd H p o) := fun c u n e => by rw [upd_ne (ne_of_none e h)]; exact e
theorem same_new {H : Hp} {p : Addr} {o : HO} (h : H p = none) : Same H (upd H p o) := fun b x e => by rw [upd_ne (ne_of_none e h)]; exact e
/-- an object that H does not know may be changed -/
theorem same_mut {H H' : Hp} {p : Addr} {o : HO} (e : Same H H') (h : H p = none) : Same H (upd H' p o) := fun a u ha => by rw [upd_ne (ne_of_none ha h)]; exact e a u ha
theorem But.mut {w p : Addr} {H H' : Hp} {o : HO} (e : But w H H') (h : H p = none) : But w H (L2.upd H' p o) := fun a u n ha => by rw [upd_ne (ne_of_none ha h)]; exact e a u n ha
theorem But.seq {K : PySem.W.Frag} {w a : Addr} {H H' : Hp} {xs : List V} (e : But w H H') (n : a ≠ w) (h : SqL K H a xs) : SqL K H' a xs := by
  rcases h with (h | ⟨o, h⟩) | h
  · exact .inl (.inl (e _ _ n h))
  · exact .inl (.inr ⟨o, e _ _ n h⟩)
  · exact .inr h
/-- at w the well: three numbers -/
def StOk (xs : List V) : Prop := ∃ a b c : Int, xs = [.int a, .int b, .int c]
def WellAt (w : Addr) (H : Hp) : Prop := ∃ xs : List V, H w = some (.lst xs) ∧ StOk xs
theorem WellAt.new {w p : Addr} {H : Hp} {o : HO} (W : WellAt w H) (h : H p = none) : WellAt w (upd H p o) := by
  obtain ⟨xs, e, k⟩ := W
  exact ⟨xs, by rw [upd_ne (ne_of_none e h)]; exact e, k⟩
theorem WellAt.same {w : Addr} {H H' : Hp} (W : WellAt w H) (s : Same H H') : WellAt w H' := by
  obtain ⟨xs, e, k⟩ := W
  exact ⟨xs, s _ _ e, k⟩
theorem WellAt.ne {w p : Addr} {H : Hp} (W : WellAt w H) (h : H p = none) : w ≠ p := by
  obtain ⟨xs, e, k⟩ := W
  exact ne_of_none e h
/-- a draw of the well: what stood stands, the well is one -/
structure Dr (w : Addr) (H H' : Hp) : Prop where
  but : But w H H'
  well : WellAt w H'
theorem Dr.trans {w : Addr} {H H1 H2 : Hp} (a : Dr w H H1) (b : Dr w H1 H2) : Dr w H H2 := ⟨a.but.trans b.but, b.well⟩
theorem Dr.free {w p : Addr} {H H' : Hp} (d : Dr w H H') (W : WellAt w H) (h : H' p = none) : H p = none := by
  cases q : H p with
  | none => rfl
  | some o =>
    have n : p ≠ w := (d.well.ne h).symm
    rw [d.but _ _ n q] at h
    cases h
/-! ### the promises of the draws -/
def spCellAt (K : PySem.W.Frag) : Sp := fun vs H Q _ => ∃ (a : Addr) (ns : List Int) (k : Int), vs = [.ref a, .int k] ∧ 0 ≤ k ∧ SqL K H a (ns.map V.int) ∧ ∀ z : Int, Q (.int z) H
section
variable {P : Program} {w : World} {K : PySem.W.Frag} {mg : Str → Option Value} {base : Heap}
/-- a def at its name: it keeps its promise, its name holds it, its arguments bind -/
structure Df (P : Program) (w : World) (K : PySem.W.Frag) (mg : Str → Option Value) (base : Heap) (k : Nat) (name : Str) (ps : List Str) (sp : Sp) (f : Addr) (fd : FuncData) : Prop where
  ok : FnOk P w K mg base CX0 k f fd ps sp
  mg : mg name = some (.ref f)
  kp : PySem.W.keepIn K (.ref f) = true
  bd : Binds K fd ps []
/-! ### _law_cell_at -/
abbrev DCellAt (P : Program) (w : World) (K : PySem.W.Frag) (mg : Str → Option Value) (base : Heap) := Df P w K mg base 1 "_law_cell_at" ["_law_script", "_law_k"] (spCellAt K)
end
/-! ### what is kept of tuples -/
def isT : HO → Prop
  | .tup _ => True
  | .frz _ _ => True
  | _ => False
/-- tuples, and what is locked, stand as they stood -/
def TK (H H' : Hp) : Prop := ∀ a o, isT o → H a = some o → H' a = some o
theorem TK.refl (H : Hp) : TK H H := fun _ _ _ h => h
theorem TK.trans {H H1 H2 : Hp} (a : TK H H1) (b : TK H1 H2) : TK H H2 := fun c o t h => b c o t (a c o t h)
theorem TK.same {H H1 : Hp} (a : Same H H1) : TK H H1 := fun c o _ h => a c o h
theorem TK.new {p : Addr} {H : Hp} {o : HO} (h : H p = none) : TK H (upd H p o) := TK.same (same_new h)
theorem TK.lst {l : Addr} {H : Hp} {xs : List V} {o : HO} (h : H l = some (.lst xs)) : TK H (upd H l o) := fun c u t e => by
  have n : c ≠ l := fun z => by
    rw [z, h] at e
    cases e
    exact t
  rw [upd_ne n]
  exact e
theorem TK.dr {w : Addr} {H H' : Hp} (W : WellAt w H) (d : But w H H') : TK H H' := fun c u t e => by
  obtain ⟨xs, h, _⟩ := W
  have n : c ≠ w := fun z => by
    rw [z, h] at e
    cases e
    exact t
  exact d _ _ n e
theorem TK.seq {K : PySem.W.Frag} {H H' : Hp} {a : Addr} {xs : List V} (t : TK H H') (h : SqT K H a xs) : SqT K H' a xs := by
  rcases h with (h | ⟨o, h⟩) | h
  · exact .inl (.inl (t _ _ trivial h))
  · exact .inl (.inr ⟨o, t _ _ trivial h⟩)
  · exact .inr h
/-! ### gates and wires as data -/
abbrev Gt := Str × Int
abbrev Wr := Nat × Nat × List Int
def kinds : List Str := ["in", "out", "sum", "times", "most", "least", "first", "one"]
def portK (k : Str) : Prop := k = "in" ∨ k = "out"
/-- a gate -/
def GOk (g : Gt) : Prop := g.1 ∈ kinds ∧ 0 ≤ g.2 ∧ g.2 ≤ 100 ∧ (portK g.1 → g.2 = 0)
def GateV (K : PySem.W.Frag) (H : Hp) (v : V) (g : Gt) : Prop := ∃ a, v = .ref a ∧ SqT K H a [.str g.1, .int g.2]
def WireV (K : PySem.W.Frag) (H : Hp) (v : V) (x : Wr) : Prop := ∃ a b, v = .ref a ∧ SqT K H a [.int x.1, .int x.2.1, .ref b] ∧ SqT K H b (x.2.2.map V.int)
theorem GateV.tk {K : PySem.W.Frag} {H H' : Hp} {v : V} {g : Gt} (t : TK H H') (h : GateV K H v g) : GateV K H' v g := by
  obtain ⟨a, e, s⟩ := h
  exact ⟨a, e, t.seq s⟩
theorem WireV.tk {K : PySem.W.Frag} {H H' : Hp} {v : V} {x : Wr} (t : TK H H') (h : WireV K H v x) : WireV K H' v x := by
  obtain ⟨a, b, e, s, s2⟩ := h
  exact ⟨a, b, e, t.seq s, t.seq s2⟩
theorem Dr.new {wl p : Addr} {H : Hp} {o : HO} (W : WellAt wl H) (h : H p = none) : Dr wl H (upd H p o) := ⟨But.new h, W.new h⟩
def ROk (r : List Int) : Prop := ∀ x ∈ r, 0 ≤ x ∧ x ≤ 96
theorem tyes {σ : L2.St} {H : Hp} {A B : Hp → Prop} (h : A H) : tYes σ H (fun b H3 => if b = true then A H3 else B H3) := by
  show if true = true then A H else B H
  rw [if_pos rfl]
  exact h
/-! ### two lists, place by place -/
def All2 {α β : Type} (R : α → β → Prop) (xs : List α) (ys : List β) : Prop := xs.length = ys.length ∧ ∀ (i : Nat) (x : α) (y : β), xs[i]? = some x → ys[i]? = some y → R x y
section
variable {α β : Type} {R S : α → β → Prop} {xs : List α} {ys : List β} {x : α} {y : β}
theorem All2.nil : All2 R [] [] := ⟨rfl, fun i x y h => by simp at h⟩
theorem All2.imp (h : All2 R xs ys) (f : ∀ x y, R x y → S x y) : All2 S xs ys := ⟨h.1, fun i x y a b => f x y (h.2 i x y a b)⟩
theorem All2.snoc (h : All2 R xs ys) (r : R x y) : All2 R (xs ++ [x]) (ys ++ [y]) := by
  refine ⟨by simp [h.1], fun i a b ha hb => ?_⟩
  by_cases hi : i < xs.length
  · rw [List.getElem?_append_left hi] at ha
    rw [List.getElem?_append_left (by rw [← h.1]; exact hi)] at hb
    exact h.2 i a b ha hb
  · rw [List.getElem?_append_right (by omega)] at ha
    rw [List.getElem?_append_right (by rw [← h.1]; omega), ← h.1] at hb
    cases e : i - xs.length with
    | zero =>
      rw [e] at ha hb
      simp at ha hb
      subst ha hb
      exact r
    | succ n =>
      rw [e] at ha
      simp at ha
theorem All2.cons (r : R x y) (h : All2 R xs ys) : All2 R (x :: xs) (y :: ys) := by
  refine ⟨by simp [h.1], fun i a b ha hb => ?_⟩
  cases i with
  | zero =>
    simp at ha hb
    subst ha hb
    exact r
  | succ n => exact h.2 n a b (by simpa using ha) (by simpa using hb)
theorem All2.head {x : α} {y : β} (h : All2 R (x :: xs) (y :: ys)) : R x y := h.2 0 x y rfl rfl
theorem All2.tail {x : α} {y : β} (h : All2 R (x :: xs) (y :: ys)) : All2 R xs ys := ⟨by have := h.1; simp at this; exact this, fun i a b ha hb => h.2 (i + 1) a b (by simpa using ha) (by simpa using hb)⟩
theorem All2.get (h : All2 R xs ys) {i : Nat} {x : α} (e : xs[i]? = some x) : ∃ y, ys[i]? = some y ∧ R x y := by
  have hi := (List.getElem?_eq_some_iff.mp e).1
  have hj : i < ys.length := by rw [← h.1]; exact hi
  exact ⟨ys[i], List.getElem?_eq_getElem hj, h.2 i x _ e (List.getElem?_eq_getElem hj)⟩
theorem All2.getR (h : All2 R xs ys) {i : Nat} {y : β} (e : ys[i]? = some y) : ∃ x, xs[i]? = some x ∧ R x y := by
  have hi := (List.getElem?_eq_some_iff.mp e).1
  have hj : i < xs.length := by rw [h.1]; exact hi
  exact ⟨xs[i], List.getElem?_eq_getElem hj, h.2 i _ y (List.getElem?_eq_getElem hj) e⟩
theorem All2.perm {xs' : List α} (p : xs'.Perm xs) : ∀ {ys : List β}, All2 R xs ys → ∃ ys', ys'.Perm ys ∧ All2 R xs' ys' := by
  induction p with
  | nil => intro ys h; exact ⟨ys, .refl _, h⟩
  | @cons a l1 l2 p ih =>
    intro ys h
    cases ys with
    | nil => have := h.1; simp at this
    | cons y ys =>
      obtain ⟨ys', p', h'⟩ := ih h.tail
      exact ⟨y :: ys', p'.cons y, h'.cons h.head⟩
  | swap a b l =>
    intro ys h
    match ys, h with
    | [], h => have := h.1; simp at this
    | [_], h => have := h.1; simp at this
    | y :: z :: ys, h => exact ⟨z :: y :: ys, .swap _ _ _, All2.cons h.tail.head (All2.cons h.head h.tail.tail)⟩
  | trans p1 p2 ih1 ih2 =>
    intro ys h
    obtain ⟨ys1, q1, h1⟩ := ih2 h
    obtain ⟨ys2, q2, h2⟩ := ih1 h1
    exact ⟨ys2, q2.trans q1, h2⟩
end
/-! ### nets as data -/
def kindAt (gs : List Gt) (i : Nat) : Str := (gs.getD i ("", 0)).1
def cnt (ws : List Wr) (e : Nat) : Nat := ws.countP (fun x => x.2.1 == e)
/-- a wire between these gates -/
structure WOk (gs : List Gt) (x : Wr) : Prop where
  s : x.1 < gs.length
  e : x.2.1 < gs.length
  ks : kindAt gs x.1 ≠ "out"
  ke : kindAt gs x.2.1 ≠ "in"
  r : ROk x.2.2
  rl : x.2.2.length ≤ 100
structure NetOk (gs : List Gt) (ws : List Wr) : Prop where
  ne : gs ≠ []
  gl : gs.length ≤ 100
  wl : ws.length ≤ 1000
  gok : ∀ g ∈ gs, GOk g
  wok : ∀ x ∈ ws, WOk gs x
  one : ∀ e, e < gs.length → kindAt gs e = "out" → cnt ws e = 1
  some : ∀ e, e < gs.length → kindAt gs e = "first" → 1 ≤ cnt ws e
  rank : ∃ ρ : Nat → Nat, ∀ x ∈ ws, x.2.2 = [] → ρ x.1 < ρ x.2.1
/-- numbered anew: the gate k is the old gate at left's place k -/
theorem NetOk.anew {gs : List Gt} {ws : List Wr} {left : List Nat} (N : NetOk gs ws) (p : left.Perm (List.range gs.length)) {ws' : List Wr} (pw : ws'.Perm ws) :
    NetOk (left.map fun k => gs.getD k ("", 0)) (ws'.map fun x => (left.idxOf x.1, left.idxOf x.2.1, x.2.2)) := by
  have hl : left.length = gs.length := by rw [p.length_eq, List.length_range]
  have nd : left.Nodup := p.nodup_iff.mpr List.nodup_range
  have mem : ∀ i, i < gs.length → i ∈ left := fun i hi => p.mem_iff.mpr (List.mem_range.mpr hi)
  have memb : ∀ i, i ∈ left → i < gs.length := fun i hi => List.mem_range.mp (p.mem_iff.mp hi)
  have il : ∀ i, i < gs.length → left.idxOf i < left.length := fun i hi => List.idxOf_lt_length_iff.mpr (mem i hi)
  have ge : ∀ i (h : i < gs.length), left[left.idxOf i]? = Option.some i := fun i h => by
    rw [List.getElem?_eq_getElem (il i h), List.getElem_idxOf]
  have kk : ∀ i, i < gs.length → kindAt (left.map fun k => gs.getD k ("", 0)) (left.idxOf i) = kindAt gs i := fun i h => by
    unfold kindAt
    rw [List.getD_eq_getElem?_getD, List.getElem?_map, ge i h]
    rfl
  have inj : ∀ i j, i < gs.length → j < gs.length → left.idxOf i = left.idxOf j → i = j := fun i j hi hj e => by
    have h1 := ge i hi
    rw [e, ge j hj] at h1
    exact (Option.some.inj h1).symm
  have cc : ∀ e, e < gs.length → cnt (ws'.map fun x => (left.idxOf x.1, left.idxOf x.2.1, x.2.2)) (left.idxOf e) = cnt ws e := fun e he => by
    unfold cnt
    rw [List.countP_map, ← pw.countP_eq]
    refine List.countP_congr fun x hx => ?_
    have := (N.wok x (pw.mem_iff.mp hx)).e
    simp only [Function.comp, beq_iff_eq]
    exact ⟨fun z => inj _ _ this he z, fun z => by rw [z]⟩
  have back : ∀ e, e < left.length → ∃ i, i < gs.length ∧ left.idxOf i = e := fun e he => by
    refine ⟨left[e], memb _ (List.getElem_mem he), ?_⟩
    exact List.Nodup.idxOf_getElem nd e he
  obtain ⟨ρ, hρ⟩ := N.rank
  refine ⟨?_, by simpa [hl] using N.gl, by simpa [pw.length_eq] using N.wl, ?_, ?_, ?_, ?_, ?_⟩
  · intro z
    have := congrArg List.length z
    simp [hl] at this
    exact N.ne this
  · intro g hg
    obtain ⟨k, hk, rfl⟩ := List.mem_map.mp hg
    refine N.gok _ ?_
    rw [List.getD_eq_getElem?_getD, List.getElem?_eq_getElem (memb k hk)]
    exact List.getElem_mem _
  · intro y hy
    obtain ⟨x, hx, rfl⟩ := List.mem_map.mp hy
    have W := N.wok x (pw.mem_iff.mp hx)
    refine ⟨by simpa using il _ W.s, by simpa using il _ W.e, ?_, ?_, W.r, W.rl⟩
    · show kindAt _ (left.idxOf x.1) ≠ _
      rw [kk _ W.s]
      exact W.ks
    · show kindAt _ (left.idxOf x.2.1) ≠ _
      rw [kk _ W.e]
      exact W.ke
  · intro e he hk
    obtain ⟨i, hi, rfl⟩ := back e (by simpa using he)
    rw [kk i hi] at hk
    rw [cc i hi]
    exact N.one i hi hk
  · intro e he hk
    obtain ⟨i, hi, rfl⟩ := back e (by simpa using he)
    rw [kk i hi] at hk
    rw [cc i hi]
    exact N.some i hi hk
  · refine ⟨fun k => ρ (left.getD k 0), fun y hy h => ?_⟩
    obtain ⟨x, hx, rfl⟩ := List.mem_map.mp hy
    have W := N.wok x (pw.mem_iff.mp hx)
    have := hρ x (pw.mem_iff.mp hx) h
    simp only [List.getD_eq_getElem?_getD, ge _ W.s, ge _ W.e, Option.getD_some]
    exact this
theorem set_well {wl D : Addr} {H0 H : Hp} {o : HO} (d : Dr wl H0 H) (h0 : H0 D = none) (n : D ≠ wl) : Dr wl H0 (upd H D o) := by
  refine ⟨fun c u nc e => ?_, ?_⟩
  · rw [upd_ne (ne_of_none e h0)]
    exact d.but c u nc e
  · obtain ⟨xs, hx, k⟩ := d.well
    exact ⟨xs, by rw [upd_ne n.symm]; exact hx, k⟩
def tLen (K : PySem.W.Frag) (i : Nat) : TE := tCB (Evl.rLenS K) (tCons (tVar i) tNil)
/-- the wires into the gates ahead of i -/
structure WInv (gs : List Gt) (ws : List Wr) (i : Nat) : Prop where
  ok : ∀ x ∈ ws, WOk gs x ∧ (x.2.2 = [] → x.1 < x.2.1) ∧ x.2.1 < i
  one : ∀ e, e < i → kindAt gs e = "out" → cnt ws e = 1
  some : ∀ e, e < i → kindAt gs e = "first" → 1 ≤ cnt ws e
  len : ws.length ≤ 3 * i
  r2 : ∀ x ∈ ws, x.2.2.length ≤ 3
/-- .. and j wires into the gate i -/
structure WInv2 (gs : List Gt) (ws : List Wr) (i j : Nat) : Prop where
  ok : ∀ x ∈ ws, WOk gs x ∧ (x.2.2 = [] → x.1 < x.2.1) ∧ x.2.1 < i + 1
  one : ∀ e, e < i → kindAt gs e = "out" → cnt ws e = 1
  some : ∀ e, e < i → kindAt gs e = "first" → 1 ≤ cnt ws e
  here : cnt ws i = j
  len : ws.length ≤ 3 * i + j
  r2 : ∀ x ∈ ws, x.2.2.length ≤ 3
theorem WInv.go {gs : List Gt} {ws : List Wr} {i : Nat} (h : WInv gs ws i) : WInv2 gs ws i 0 := by
  refine ⟨fun x hx => ⟨(h.ok x hx).1, (h.ok x hx).2.1, by have := (h.ok x hx).2.2; omega⟩, h.one, h.some, ?_, h.len, h.r2⟩
  unfold cnt
  rw [List.countP_eq_zero]
  intro x hx z
  have := (h.ok x hx).2.2
  simp at z
  omega
theorem WInv2.app {gs : List Gt} {ws : List Wr} {i j : Nat} {x : Wr} (h : WInv2 gs ws i j) (hx : WOk gs x) (hr : x.2.2 = [] → x.1 < x.2.1) (he : x.2.1 = i) (h2 : x.2.2.length ≤ 3) : WInv2 gs (ws ++ [x]) i (j + 1) := by
  have c : ∀ e, e < i → cnt (ws ++ [x]) e = cnt ws e := fun e he' => by
    unfold cnt
    rw [List.countP_append]
    have : (x.2.1 == e) = false := by simp; omega
    simp [List.countP_cons, this]
  refine ⟨fun y hy => ?_, fun e h1 h2 => by rw [c e h1]; exact h.one e h1 h2, fun e h1 h2 => by rw [c e h1]; exact h.some e h1 h2, ?_, by have := h.len; simp; omega, fun y hy => ?_⟩
  · rcases List.mem_append.mp hy with hy | hy
    · exact h.ok y hy
    · simp at hy
      subst hy
      exact ⟨hx, hr, by omega⟩
  · have := h.here
    unfold cnt at this ⊢
    rw [List.countP_append, this]
    simp [List.countP_cons, he]
  · rcases List.mem_append.mp hy with hy | hy
    · exact h.r2 y hy
    · simp at hy
      subst hy
      exact h2
theorem WInv2.done {gs : List Gt} {ws : List Wr} {i j : Nat} (h : WInv2 gs ws i j) (h1 : kindAt gs i = "out" → j = 1) (h2 : kindAt gs i = "first" → 1 ≤ j) (hj : j ≤ 3) : WInv gs ws (i + 1) := by
  refine ⟨fun x hx => h.ok x hx, fun e he hk => ?_, fun e he hk => ?_, by have := h.len; omega, h.r2⟩
  · by_cases hi : e = i
    · subst hi
      rw [h.here]
      exact h1 hk
    · exact h.one e (by omega) hk
  · by_cases hi : e = i
    · subst hi
      rw [h.here]
      exact h2 hk
    · exact h.some e (by omega) hk
theorem WInv.net {gs : List Gt} {ws : List Wr} (h : WInv gs ws gs.length) (ne : gs ≠ []) (gl : gs.length ≤ 100) (gok : ∀ g ∈ gs, GOk g) : NetOk gs ws :=
  ⟨ne, gl, by have := h.len; omega, gok, fun x hx => (h.ok x hx).1, h.one, h.some, id, fun x hx hr => (h.ok x hx).2.1 hr⟩
/-- lists of gates, of wires, that stand tracked -/
def LG (K : PySem.W.Frag) (H : Hp) (l : Addr) (gs : List Gt) : Prop := ∃ vs, H l = some (.lst vs) ∧ All2 (GateV K H) vs gs
def LW (K : PySem.W.Frag) (H : Hp) (l : Addr) (ws : List Wr) : Prop := ∃ vs, H l = some (.lst vs) ∧ All2 (WireV K H) vs ws
theorem kindAt_get {gs : List Gt} {i : Nat} {g : Gt} (h : gs[i]? = some g) : kindAt gs i = g.1 := by
  unfold kindAt
  rw [List.getD_eq_getElem?_getD, h]
  rfl
theorem all2_eq {α β : Type} {f : β → α} : ∀ {xs : List α} {ys : List β}, All2 (fun x y => x = f y) xs ys → xs = ys.map f
  | [], [], _ => rfl
  | [], _ :: _, h => by have := h.1; simp at this
  | _ :: _, [], h => by have := h.1; simp at this
  | x :: xs, y :: ys, h => by rw [List.map_cons, ← all2_eq h.tail, ← h.head]
theorem eq_all2 {α β : Type} {f : β → α} (ys : List β) : All2 (fun x y => x = f y) (ys.map f) ys := ⟨by simp, fun i x y h1 h2 => by
  rw [List.getElem?_map, h2] at h1
  exact (Option.some.inj h1).symm⟩
theorem rgV_nat (n : Nat) : rgV 0 (n : Int) = (List.range n).map fun i => V.int (i : Nat) := by
  unfold rgV
  have : ((n : Int) - 0).toNat = n := by omega
  rw [this]
  refine List.map_congr_left fun i _ => ?_
  rw [Int.zero_add]
theorem flat_ints (l : List Nat) : (l.map fun i => V.int (i : Nat)).all flatV = true := by
  rw [List.all_eq_true]
  intro x hx
  obtain ⟨i, _, rfl⟩ := List.mem_map.mp hx
  rfl
/-- where a number stands among numbers without two alike -/
theorem idx_at {left : List Nat} {a : Nat} (h : a ∈ left) : (left.map fun i => V.int (i : Nat))[left.idxOf a]? = some (V.int (a : Nat)) := by
  rw [List.getElem?_map, List.getElem?_eq_getElem (List.idxOf_lt_length_iff.mpr h), List.getElem_idxOf]
  rfl
theorem eqV_int (a b : Int) : eqV (V.int a) (V.int b) = decide (a = b) := rfl
theorem idx_no {left : List Nat} {a m : Nat} {z : V} (nd : left.Nodup) (hm : m < left.idxOf a) (h : (left.map fun i => V.int (i : Nat))[m]? = some z) : eqV z (V.int (a : Nat)) = false := by
  rw [List.getElem?_map] at h
  cases e : left[m]? with
  | none =>
    rw [e] at h
    cases h
  | some b =>
    rw [e] at h
    cases h
    rw [eqV_int]
    refine decide_eq_false fun z => ?_
    have z : b = a := by omega
    obtain ⟨hm', eb⟩ := List.getElem?_eq_some_iff.mp e
    have := List.Nodup.idxOf_getElem nd m hm'
    rw [eb, z] at this
    omega
end Lag

set_option maxRecDepth 100000
set_option maxHeartbeats 4000000
namespace Lag
open PySem PySem.Spec PyProof.Rows L2
abbrev sWhole : Stmt := topS 13
abbrev sFromTo : Stmt := topS 14
abbrev sWorth : Stmt := topS 15
abbrev sIsGate : Stmt := topS 27
abbrev sChkGates : Stmt := topS 26
/-! ### o[i] of a list, by values -/
def rGetL (K : PySem.W.Frag) : V → V → Hp → VK → Prop := fun o i H Q => ∃ (p : Addr) (xs : List V) (j : Nat) (v : V), o = .ref p ∧ i = .int (j : Nat) ∧ SqL K H p xs ∧ xs[j]? = some v ∧ Q v H
theorem get_list {X : Cx} : PGet X (rGetL X.K) := by
  intro pins s σ H o i ov iv Q I ro ri h
  obtain ⟨p, xs, j, v, rfl, rfl, hq, he, q⟩ := h
  cases ro
  obtain ⟨t, rfl⟩ := ri
  obtain ⟨its, r, pl, hz⟩ := I.list hq
  obtain ⟨w, ew, rw'⟩ := r.get he
  have hl := r.length
  have hn := line63
  have hj : j < its.length := (List.getElem?_eq_some_iff.mp ew).1
  exact wpAny_getItem_list pl.isList (by omega) (by omega) (by simpa using ew) ⟨v, H, I, rw', q⟩
/-! ### names of built-ins, constants of the text -/
structure Bt (mg : Str → Option Value) : Prop where
  isi : mg "isinstance" = none
  int : mg "int" = none
  bool : mg "bool" = none
  len : mg "len" = none
  tuple : mg "tuple" = none
  str : mg "str" = none
  list : mg "list" = none
  all : mg "all" = none
  enum : mg "enumerate" = none
  zip : mg "zip" = none
  range : mg "range" = none
  max : mg "max" = none
structure Cns (K : PySem.W.Frag) (mg : Str → Option Value) (aK aW aF : Addr) : Prop where
  gw : ∃ t, mg "GREATEST_WORTH" = some (.int 96 t)
  ga : ∃ t, mg "GREATEST_WAIT" = some (.int 100 t)
  mK : mg "KINDS" = some (.ref aK)
  sK : ∀ H, SqT K H aK (kinds.map V.str)
  mW : mg "OUTER_KINDS" = some (.ref aW)
  sW : ∀ H, SqT K H aW [.str "in", .str "out"]
  mF : mg "KINDS_WITH_A_WIRE" = some (.ref aF)
  sF : ∀ H, SqT K H aF [.str "out", .str "first"]
theorem ty_tup {K : PySem.W.Frag} {H : Hp} {a : Addr} {xs : List V} (h : SqT K H a xs) : TyX K H (.ref a) (.type "tuple") := by
  rcases h with (h | ⟨o, h⟩) | ⟨o, its, n, hk, hc, _⟩
  · exact .base (.tup h)
  · exact .fTuple h
  · exact .kTuple hk hc
theorem ty_lst {K : PySem.W.Frag} {H : Hp} {a : Addr} {xs : List V} (h : SqL K H a xs) : TyX K H (.ref a) (.type "list") := by
  rcases h with (h | ⟨o, h⟩) | ⟨o, its, n, hk, hc, _⟩
  · exact .base (.lst h)
  · exact .base (.frz h)
  · exact .kList hk hc
/-! ### promises -/
def spWhole : Sp := fun vs H Q _ => ∃ n : Int, vs = [.int n] ∧ Q (.bl true) H
def spFromTo : Sp := fun vs H Q _ => ∃ n a b : Int, vs = [.int n, .int a, .int b] ∧ Q (.bl (decide (a ≤ n) && decide (n ≤ b))) H
def spWorth : Sp := fun vs H Q _ => ∃ n : Int, vs = [.int n] ∧ Q (.bl (decide (0 ≤ n) && decide (n ≤ 96))) H
def spIsGate (K : PySem.W.Frag) : Sp := fun vs H Q _ => ∃ (v : V) (g : Gt), vs = [v] ∧ GateV K H v g ∧ GOk g ∧ ∀ H', Same H H' → Q (.bl true) H'
/-- lists that are read -/
def RG (K : PySem.W.Frag) (H : Hp) (l : Addr) (gs : List Gt) : Prop := ∃ vs, SqL K H l vs ∧ All2 (GateV K H) vs gs
def RW (K : PySem.W.Frag) (H : Hp) (l : Addr) (ws : List Wr) : Prop := ∃ vs, SqL K H l vs ∧ All2 (WireV K H) vs ws
theorem RG.same {K : PySem.W.Frag} {H H' : Hp} {l : Addr} {gs : List Gt} (h : RG K H l gs) (s : Same H H') : RG K H' l gs := by
  obtain ⟨vs, q, a⟩ := h
  exact ⟨vs, s.seq q, a.imp fun _ _ r => r.tk (TK.same s)⟩
theorem RW.same {K : PySem.W.Frag} {H H' : Hp} {l : Addr} {ws : List Wr} (h : RW K H l ws) (s : Same H H') : RW K H' l ws := by
  obtain ⟨vs, q, a⟩ := h
  exact ⟨vs, s.seq q, a.imp fun _ _ r => r.tk (TK.same s)⟩
def spChkGates (K : PySem.W.Frag) : Sp := fun vs H Q _ => ∃ (l : Addr) (gs : List Gt), vs = [.ref l] ∧ RG K H l gs ∧ gs ≠ [] ∧ (∀ g ∈ gs, GOk g) ∧ ∀ H', Same H H' → Q .non H'
section
variable {P : Program} {w : World} {K : PySem.W.Frag} {mg : Str → Option Value} {base : Heap}
/-! ### is_whole, is_whole_from_to, is_worth -/
theorem scWhole : FnScope ["thing"] ["thing"] (defScope sWhole) := ⟨rfl, rfl, rfl, by decide +kernel, rfl, by decide +kernel, by decide +kernel⟩
abbrev DWhole (P : Program) (w : World) (K : PySem.W.Frag) (mg : Str → Option Value) (base : Heap) := Df P w K mg base 1 "is_whole" ["thing"] spWhole
theorem ok_whole {f : Addr} {fd : FuncData} (F : Fun K "is_whole" "is_whole" sWhole f fd) (hm : mg "is_whole" = some (.ref f)) (B : Bt mg) : DWhole P w K mg base f fd := by
  refine ⟨?_, hm, F.kp, F.binds fun _ _ _ _ _ _ us hl => match us, hl with | [_], _ => rfl⟩
  refine F.ok scWhole (fun vs H Q E h => ?_) (fun cdv A outer s H vs Q E hr h => ?_)
  · obtain ⟨n, rfl, _⟩ := h
    rfl
  · obtain ⟨n, rfl, q⟩ := h
    refine ⟨_, pss_one <| ps_ret <| pe_and (pe_callB call_isi (by rfl) B.isi (by decide +kernel) (pa_cons (pv 0) (pa_cons (pe_bltn (v := .ty "int") (by rfl) B.int (by decide +kernel) rfl) pa_nil)))
      (pe_one (pe_not (pe_callB call_isi (by rfl) B.isi (by decide +kernel) (pa_cons (pv 0) (pa_cons (pe_bltn (v := .ty "bool") (by rfl) B.bool (by decide +kernel) rfl) pa_nil))))), ?_⟩
    refine ⟨_, rfl, _, _, _, _, true, rfl, .ty "int", .base (.int n), kit_ty (by decide +kernel), true, rfl, iteT ?_⟩
    exact ⟨_, rfl, _, _, _, _, false, rfl, .ty "bool", .base (.int n), kit_ty (by decide +kernel), false, rfl, q⟩
theorem scFromTo : FnScope ["thing", "least", "greatest"] ["thing", "least", "greatest"] (defScope sFromTo) := ⟨rfl, rfl, rfl, by decide +kernel, rfl, by decide +kernel, by decide +kernel⟩
abbrev DFromTo (P : Program) (w : World) (K : PySem.W.Frag) (mg : Str → Option Value) (base : Heap) := Df P w K mg base 2 "is_whole_from_to" ["thing", "least", "greatest"] spFromTo
theorem ok_fromTo {f fW : Addr} {fd fdW : FuncData} (F : Fun K "is_whole_from_to" "is_whole_from_to" sFromTo f fd) (hm : mg "is_whole_from_to" = some (.ref f)) (DW : DWhole P w K mg base fW fdW) : DFromTo P w K mg base f fd := by
  refine ⟨?_, hm, F.kp, F.binds fun _ _ _ _ _ _ us hl => match us, hl with | [_, _, _], _ => rfl⟩
  refine F.ok scFromTo (fun vs H Q E h => ?_) (fun cdv A outer s H vs Q E hr h => ?_)
  · obtain ⟨n, a, b, rfl, _⟩ := h
    rfl
  · obtain ⟨n, a, b, rfl, q⟩ := h
    refine ⟨_, pss_one <| ps_ret <| pe_and (pe_call DW.ok hr (by rfl) DW.mg DW.kp DW.bd .nil pass0 (pa_cons (pv 0) pa_nil)) (pe_one (pe_chain op_le op_le (pv 1) (pv 0) (pv 2))), ?_⟩
    refine ⟨_, rfl, n, rfl, true, rfl, iteT ?_⟩
    refine ⟨_, rfl, _, rfl, _, _, rfl, rfl, _, rfl, ?_⟩
    cases e : decide (a ≤ n) with
    | false =>
      rw [e] at q
      exact iteF q
    | true =>
      rw [e] at q
      exact iteT ⟨_, rfl, _, _, rfl, rfl, q⟩
theorem scWorth : FnScope ["thing"] ["thing"] (defScope sWorth) := ⟨rfl, rfl, rfl, by decide +kernel, rfl, by decide +kernel, by decide +kernel⟩
abbrev DWorth (P : Program) (w : World) (K : PySem.W.Frag) (mg : Str → Option Value) (base : Heap) := Df P w K mg base 3 "is_worth" ["thing"] spWorth
theorem ok_worth {f fF aK aW aF : Addr} {fd fdF : FuncData} (F : Fun K "is_worth" "is_worth" sWorth f fd) (hm : mg "is_worth" = some (.ref f)) (C : Cns K mg aK aW aF) (DF : DFromTo P w K mg base fF fdF) : DWorth P w K mg base f fd := by
  obtain ⟨tg, hgw⟩ := C.gw
  refine ⟨?_, hm, F.kp, F.binds fun _ _ _ _ _ _ us hl => match us, hl with | [_], _ => rfl⟩
  refine F.ok scWorth (fun vs H Q E h => ?_) (fun cdv A outer s H vs Q E hr h => ?_)
  · obtain ⟨n, rfl, _⟩ := h
    rfl
  · obtain ⟨n, rfl, q⟩ := h
    refine ⟨_, pss_one <| ps_ret <| pe_call DF.ok hr (by rfl) DF.mg DF.kp DF.bd .nil pass0 <| pa_cons (pv 0) <| pa_cons pe_int <| pa_cons (pe_glob (v := .int 96) (by rfl) hgw ⟨_, rfl⟩) pa_nil, ?_⟩
    exact ⟨_, rfl, n, 0, 96, rfl, q⟩
/-! ### is_gate -/
theorem scIsGate : FnScope ["thing", "kind", "wait"] ["thing"] (defScope sIsGate) := ⟨rfl, rfl, rfl, by decide +kernel, rfl, by decide +kernel, by decide +kernel⟩
abbrev DIsGate (P : Program) (w : World) (K : PySem.W.Frag) (mg : Str → Option Value) (base : Heap) := Df P w K mg base 3 "is_gate" ["thing"] (spIsGate K)
theorem kinds_in {k : Str} (h : k ∈ kinds) : inV (.str k) (kinds.map V.str) = true := by
  unfold inV
  rw [List.any_eq_true]
  exact ⟨.str k, List.mem_map.mpr ⟨k, h, rfl⟩, beq_self_eq_true k⟩
theorem flat_strs (l : List Str) : (l.map V.str).all flatV = true := by
  rw [List.all_eq_true]
  intro x hx
  obtain ⟨i, _, rfl⟩ := List.mem_map.mp hx
  rfl
theorem ok_isGate {f fF aK aW aF : Addr} {fd fdF : FuncData} (F : Fun K "is_gate" "is_gate" sIsGate f fd) (hm : mg "is_gate" = some (.ref f)) (B : Bt mg) (C : Cns K mg aK aW aF) (DF : DFromTo P w K mg base fF fdF) : DIsGate P w K mg base f fd := by
  obtain ⟨tg, hga⟩ := C.ga
  refine ⟨?_, hm, F.kp, F.binds fun _ _ _ _ _ _ us hl => match us, hl with | [_], _ => rfl⟩
  refine F.ok scIsGate (fun vs H Q E h => ?_) (fun cdv A outer s H vs Q E hr h => ?_)
  · obtain ⟨v, g, rfl, _⟩ := h
    rfl
  · obtain ⟨v, g, rfl, ⟨a, rfl, sq⟩, gok, q⟩ := h
    have nd := scIsGate.nd
    refine ⟨_, pss_cons (ps_if (PW.pt (pw_or (pt_not (pt_val (pe_callB call_isi (by rfl) B.isi (by decide +kernel) (pa_cons (pv 0) (pa_cons (pe_bltn (v := .ty "tuple") (by rfl) B.tuple (by decide +kernel) rfl) pa_nil)))))
          (pw_or1 (pt_cmpR op_ne (pe_callB call_len_seq (by rfl) B.len PySem.boot_len (pa_cons (pv 0) pa_nil)) pe_int (nomark _))))) (pss_one (ps_ret pe_bl)) pss_nil) <|
      pss_cons (ps_asg (pv 0) (pg_tup (by rfl) (pgs_cons (pg_name (i := 1) nd rfl (.inl rfl)) (pgs_cons (pg_name (i := 2) nd rfl (.inl rfl)) pgs_nil)))) <|
      pss_cons (ps_if (PW.pt (pw_or (pt_not (pt_val (pe_callB call_isi (by rfl) B.isi (by decide +kernel) (pa_cons (pv 1) (pa_cons (pe_bltn (v := .ty "str") (by rfl) B.str (by decide +kernel) rfl) pa_nil)))))
          (pw_or1 (pt_cmpR op_notIn_seq (pv 1) (pe_glob (v := .ref aK) (by rfl) C.mK rfl) (by rfl))))) (pss_one (ps_ret pe_bl)) pss_nil) <|
      pss_one <| ps_ret <| pe_call DF.ok hr (by rfl) DF.mg DF.kp DF.bd .nil pass0 <| pa_cons (pv 2) <| pa_cons pe_int <| (pa_cons · pa_nil) <|
        pe_ifExp (pt_cmpR op_in_seq (pv 1) (pe_glob (v := .ref aW) (by rfl) C.mW rfl) (by rfl)) pe_int (pe_glob (v := .int 100) (by rfl) hga ⟨_, rfl⟩), ?_⟩
    refine ⟨_, rfl, _, _, _, _, true, rfl, .ty "tuple", ty_tup sq, kit_ty (by decide +kernel), true, rfl, ?_⟩
    refine iteF ⟨_, rfl, a, _, rfl, .inr sq, rfl, _, rfl, iteF ?_⟩
    refine ⟨_, rfl, a, _, rfl, sq, rfl, _, _, rfl, _, _, rfl, rfl, ?_⟩
    refine ⟨_, rfl, _, _, _, _, true, rfl, .ty "str", .base (.str g.1), kit_ty (by decide +kernel), true, rfl, ?_⟩
    refine iteF ⟨_, rfl, aK, _, rfl, .inr (C.sK H), rfl, flat_strs _, false, ?_, iteF ?_⟩
    · show V.bl (!inV (V.str g.1) (kinds.map V.str)) = V.bl false
      rw [kinds_in gok.1]
      rfl
    refine ⟨_, rfl, _, rfl, aW, _, rfl, .inr (C.sW H), rfl, rfl, _, rfl, ite2 (fun e => ?_) (fun e => ?_)⟩
    · have hp : portK g.1 := by
        have e' : inV (V.str g.1) [V.str "in", V.str "out"] = true := e
        unfold inV at e'
        rw [List.any_eq_true] at e'
        obtain ⟨x, hx, hxe⟩ := e'
        simp only [List.mem_cons, List.not_mem_nil, or_false] at hx
        rcases hx with rfl | rfl
        · exact .inl (eq_of_beq hxe).symm
        · exact .inr (eq_of_beq hxe).symm
      have h0 := gok.2.2.2 hp
      refine ⟨g.2, 0, 0, rfl, ?_⟩
      rw [h0]
      exact q H (Same.refl H)
    · refine ⟨g.2, 0, 100, rfl, ?_⟩
      rw [decide_eq_true gok.2.1, decide_eq_true gok.2.2.1]
      exact q H (Same.refl H)
end
end Lag

set_option maxRecDepth 100000
set_option maxHeartbeats 4000000
namespace Lag
open PySem PySem.Spec PyProof.Rows L2
abbrev sIsWire : Stmt := topS 29
abbrev sTaken : Stmt := topS 30
def spIsWire (K : PySem.W.Frag) : Sp := fun vs H Q _ => ∃ (v : V) (x : Wr) (n : Nat), vs = [v, .int (n : Nat)] ∧ WireV K H v x ∧ x.1 < n ∧ x.2.1 < n ∧ ROk x.2.2 ∧ x.2.2.length ≤ 1000 ∧ ∀ H', Same H H' → Q (.bl true) H'
def spTaken (K : PySem.W.Frag) : Sp := fun vs H Q _ => ∃ (v : V) (x : Wr) (lg lc : Addr) (gs : List Gt) (cs : List Nat), vs = [v, .ref lg, .ref lc] ∧ WireV K H v x ∧ RG K H lg gs ∧ SqL K H lc (cs.map fun i => V.int (i : Nat)) ∧ WOk gs x ∧ cs.length = gs.length ∧
  (kindAt gs x.2.1 = "out" → cs[x.2.1]? = some 0) ∧ Q (.bl true) H
section
variable {P : Program} {w : World} {K : PySem.W.Frag} {mg : Str → Option Value} {base : Heap}
/-! ### check_gates -/
theorem scChkGates : FnScope ["gates", "thing"] ["gates"] (defScope sChkGates) := ⟨rfl, rfl, rfl, by decide +kernel, rfl, by decide +kernel, by decide +kernel⟩
abbrev DChkGates (P : Program) (w : World) (K : PySem.W.Frag) (mg : Str → Option Value) (base : Heap) := Df P w K mg base 4 "check_gates" ["gates"] (spChkGates K)
theorem ok_chkGates {f fG : Addr} {fd fdG : FuncData} (F : Fun K "check_gates" "check_gates" sChkGates f fd) (hm : mg "check_gates" = some (.ref f)) (B : Bt mg) (DG : DIsGate P w K mg base fG fdG) : DChkGates P w K mg base f fd := by
  refine ⟨?_, hm, F.kp, F.binds fun _ _ _ _ _ _ us hl => match us, hl with | [_], _ => rfl⟩
  refine F.ok scChkGates (fun vs H Q E h => ?_) (fun cdv A outer s H vs Q E hr h => ?_)
  · obtain ⟨l, gs, rfl, _⟩ := h
    rfl
  · obtain ⟨l, gs, rfl, R, hne, gok, q⟩ := h
    have nd := scChkGates.nd
    refine ⟨_, pss_cons (ps_if (PW.pt (pw_or (pt_not (pt_val (pe_callB call_isi (by rfl) B.isi (by decide +kernel) (pa_cons (pv 0) (pa_cons (pe_bltn (v := .ty "list") (by rfl) B.list (by decide +kernel) rfl) pa_nil)))))
          (pw_or1 (pt_cmpR op_eq (pe_callB call_len_seq (by rfl) B.len PySem.boot_len (pa_cons (pv 0) pa_nil)) pe_int (nomark _))))) (pss_one ps_never) pss_nil) <|
      pss_one <| ps_for PassesOwn.never rfl (pi_list (pv 0)) (pg_name (i := 1) nd rfl (.inl rfl)) <|
        pss_one <| ps_if (pt_not (pt_val (pe_call DG.ok hr (by rfl) DG.mg DG.kp DG.bd .nil pass0 (pa_cons (pv 1) pa_nil)))) (pss_one ps_never) pss_nil, ?_⟩
    obtain ⟨gv, sg, ga⟩ := R
    have hl : gv.length = gs.length := ga.1
    have hpos : 0 < gs.length := by
      cases gs with
      | nil => exact absurd rfl hne
      | cons _ _ => simp
    refine ⟨_, rfl, _, _, _, _, true, rfl, .ty "list", ty_lst sg, kit_ty (by decide +kernel), true, rfl, ?_⟩
    refine iteF ⟨_, rfl, l, gv, rfl, .inl sg, rfl, false, ?_, iteF ?_⟩
    · show V.bl (decide (V.int (gv.length : Int) = V.int 0)) = V.bl false
      rw [decide_eq_false]
      intro z
      have := V.int.inj z
      omega
    refine ⟨_, rfl, l, rfl, ⟨_, sg⟩, for_list (K := K) (a := l) (xs := gv) (fun i σ H2 => ∃ y, σ = [some (.ref l), y] ∧ Same H H2) ⟨_, rfl, Same.refl H⟩ (fun i σ H2 _ ⟨_, _, sm⟩ => sm.seq sg) ?_ ?_⟩
    · rintro i x σ H2 hx ⟨y, rfl, sm⟩
      obtain ⟨g, hg, gv⟩ := ga.get hx
      refine ⟨_, rfl, x, g, rfl, gv.tk (TK.same sm), gok g (List.mem_of_getElem? hg), fun H3 sm3 => ⟨true, rfl, iteF ⟨_, rfl, sm.trans sm3⟩⟩⟩
    · rintro σ H2 ⟨y, rfl, sm⟩
      exact q H2 sm
/-! ### is_wire -/
abbrev nIsWire : List Str := ["thing", "many_gates", "start", "end", "held", "worth"]
theorem scIsWire : FnScope nIsWire ["thing", "many_gates"] (defScope sIsWire) := ⟨rfl, rfl, rfl, by decide +kernel, rfl, by decide +kernel, by decide +kernel⟩
abbrev DIsWire (P : Program) (w : World) (K : PySem.W.Frag) (mg : Str → Option Value) (base : Heap) := Df P w K mg base 4 "is_wire" ["thing", "many_gates"] (spIsWire K)
theorem ok_isWire {f fF fW : Addr} {fd fdF fdW : FuncData} (F : Fun K "is_wire" "is_wire" sIsWire f fd) (hm : mg "is_wire" = some (.ref f)) (B : Bt mg) (DF : DFromTo P w K mg base fF fdF) (DW : DWorth P w K mg base fW fdW) : DIsWire P w K mg base f fd := by
  refine ⟨?_, hm, F.kp, F.binds fun _ _ _ _ _ _ us hl => match us, hl with | [_, _], _ => rfl⟩
  refine F.ok scIsWire (fun vs H Q E h => ?_) (fun cdv A outer s H vs Q E hr h => ?_)
  · obtain ⟨v, x, n, rfl, _⟩ := h
    rfl
  · obtain ⟨v, x, n, rfl, ⟨a, b, rfl, sq1, sq2⟩, hs, he, rok, rl, q⟩ := h
    have nd := scIsWire.nd
    have hr2 : Room 2 _ := hr.mono (by decide)
    refine ⟨_, pss_cons (ps_if (PW.pt (pw_or (pt_not (pt_val (pe_callB call_isi (by rfl) B.isi (by decide +kernel) (pa_cons (pv 0) (pa_cons (pe_bltn (v := .ty "tuple") (by rfl) B.tuple (by decide +kernel) rfl) pa_nil)))))
          (pw_or1 (pt_cmpR op_ne (pe_callB call_len_seq (by rfl) B.len PySem.boot_len (pa_cons (pv 0) pa_nil)) pe_int (nomark _))))) (pss_one (ps_ret pe_bl)) pss_nil) <|
      pss_cons (ps_asg (pv 0) (pg_tup (by rfl) (pgs_cons (pg_name (i := 2) nd rfl (.inl rfl)) (pgs_cons (pg_name (i := 3) nd rfl (.inl rfl)) (pgs_cons (pg_name (i := 4) nd rfl (.inl rfl)) pgs_nil))))) <|
      pss_cons (ps_if (PW.pt (pw_or (pt_not (pt_val (pe_call DF.ok hr2 (by rfl) DF.mg DF.kp DF.bd .nil pass0 (pa_cons (pv 2) (pa_cons pe_int (pa_cons (pe_op op_sub (pv 1) pe_int) pa_nil))))))
          (pw_or1 (pt_not (pt_val (pe_call DF.ok hr2 (by rfl) DF.mg DF.kp DF.bd .nil pass0 (pa_cons (pv 3) (pa_cons pe_int (pa_cons (pe_op op_sub (pv 1) pe_int) pa_nil))))))))) (pss_one (ps_ret pe_bl)) pss_nil) <|
      pss_one <| ps_ret <| pe_and (pe_callB call_isi (by rfl) B.isi (by decide +kernel) (pa_cons (pv 4) (pa_cons (pe_bltn (v := .ty "tuple") (by rfl) B.tuple (by decide +kernel) rfl) pa_nil))) <| pe_one <|
        pe_callB (cr_all rfl) (by rfl) B.all (by decide +kernel) <| (pa_cons · pa_nil) <| pe_lc (own := [("worth", 5)]) (g := gName 5) (tt := tYes) (te := tCall spWorth [] E0 (tCons (tVar 5) tNil)) rfl nd (pi_tup (pv 4)) (blkOk_by (N := nIsWire) (sc := defScope sIsWire) (own := [("worth", 5)]) (by decide +kernel))
          (fun _ _ _ _ _ => pg_name (i := 5) nd rfl (.inl rfl)) (fun _ _ _ _ _ => pts_nil) (fun _ _ _ _ _ => pe_call DW.ok hr (by rfl) DW.mg DW.kp DW.bd .nil pass0 (pa_cons (pv 5) pa_nil)), ?_⟩
    refine ⟨_, rfl, _, _, _, _, true, rfl, .ty "tuple", ty_tup sq1, kit_ty (by decide +kernel), true, rfl, ?_⟩
    refine iteF ⟨_, rfl, a, _, rfl, .inr sq1, rfl, _, rfl, iteF ?_⟩
    refine ⟨_, rfl, a, _, rfl, sq1, rfl, _, _, rfl, _, _, rfl, _, _, rfl, rfl, ?_⟩
    refine ⟨_, rfl, _, rfl, _, _, rfl, rfl, _, _, _, rfl, true, ?_, iteF ?_⟩
    · rw [decide_eq_true (by omega), decide_eq_true (by omega)]
      rfl
    refine ⟨_, rfl, _, rfl, _, _, rfl, rfl, _, _, _, rfl, true, ?_, iteF ?_⟩
    · rw [decide_eq_true (by omega), decide_eq_true (by omega)]
      rfl
    refine ⟨_, rfl, _, _, _, _, true, rfl, .ty "tuple", ty_tup sq2, kit_ty (by decide +kernel), true, rfl, iteT ?_⟩
    refine ⟨_, rfl, b, rfl, ⟨_, sq2⟩, fun D hD => ?_⟩
    refine lc_tup (K := K) (a := b) (xs := x.2.2.map V.int) (fun i Hc => Hc D = some (.lst ((List.replicate i true).map V.bl)) ∧ Same H Hc) ⟨upd_same, same_new hD⟩ (fun i Hc _ ⟨_, sm⟩ => (TK.same sm).seq sq2) ?_ ?_
    · rintro i y Hc hy ⟨hc, sm⟩
      rw [List.getElem?_map] at hy
      cases ey : x.2.2[i]? with
      | none =>
        rw [ey] at hy
        cases hy
      | some z =>
      rw [ey] at hy
      cases hy
      have hz := rok z (List.mem_of_getElem? ey)
      have hi : i < x.2.2.length := (List.getElem?_eq_some_iff.mp ey).1
      refine ⟨rfl, tyes ?_⟩
      refine ⟨_, rfl, z, rfl, _, hc, by rw [List.length_map, List.length_replicate]; exact small1000 (by omega), ?_, same_mut sm hD⟩
      rw [upd_same, decide_eq_true hz.1, decide_eq_true hz.2, List.replicate_succ', List.map_append]
      rfl
    · rintro Hc ⟨hc, sm⟩
      refine ⟨D, _, rfl, SqL.of hc, ?_⟩
      have e : (List.replicate (x.2.2.map V.int).length true).all id = true := by
        rw [List.all_eq_true]
        intro y hy
        rw [List.mem_replicate] at hy
        rw [hy.2]
        rfl
      rw [e]
      exact q Hc sm
/-! ### is_taken -/
theorem scTaken : FnScope ["wire", "gates", "come", "start", "end"] ["wire", "gates", "come"] (defScope sTaken) := ⟨rfl, rfl, rfl, by decide +kernel, rfl, by decide +kernel, by decide +kernel⟩
abbrev DTaken (P : Program) (w : World) (K : PySem.W.Frag) (mg : Str → Option Value) (base : Heap) := Df P w K mg base 1 "is_taken" ["wire", "gates", "come"] (spTaken K)
theorem ok_taken {f : Addr} {fd : FuncData} (F : Fun K "is_taken" "is_taken" sTaken f fd) (hm : mg "is_taken" = some (.ref f)) : DTaken P w K mg base f fd := by
  refine ⟨?_, hm, F.kp, F.binds fun _ _ _ _ _ _ us hl => match us, hl with | [_, _, _], _ => rfl⟩
  refine F.ok scTaken (fun vs H Q E h => ?_) (fun cdv A outer s H vs Q E hr h => ?_)
  · obtain ⟨v, x, lg, lc, gs, cs, rfl, _⟩ := h
    rfl
  · obtain ⟨v, x, lg, lc, gs, cs, rfl, ⟨a, b, rfl, sq1, sq2⟩, ⟨gv, sg, ga⟩, sc, W, hcl, h0, q⟩ := h
    have nd := scTaken.nd
    refine ⟨_, pss_cons (ps_par (i := 3) (j := 4) (by rfl) nd rfl rfl (by decide) rfl rfl (pa_cons (pe_ix ix_tup (pv 0) pe_int (fun _ _ => rfl)) (pa_cons (pe_ix ix_tup (pv 0) pe_int (fun _ _ => rfl)) pa_nil)) (by rfl)) <|
      pss_cons (ps_if (PW.pt (pw_or (pt_cmpR op_eq (pe_ix ix_tup (pe_ix ix_list (pv 1) (pv 3) (fun _ _ => rfl)) pe_int (fun _ _ => rfl)) pe_str (nomark _)) (pw_or1 (pt_cmpR op_eq (pe_ix ix_tup (pe_ix ix_list (pv 1) (pv 4) (fun _ _ => rfl)) pe_int (fun _ _ => rfl)) pe_str (nomark _))))) (pss_one (ps_ret pe_bl)) pss_nil) <|
      pss_one <| ps_ret <| pe_or (pe_cmpR op_ne (pe_ix ix_tup (pe_ix ix_list (pv 1) (pv 4) (fun _ _ => rfl)) pe_int (fun _ _ => rfl)) pe_str (nomark _)) (pe_one (pe_cmpR op_eq (pe_ix ix_list (pv 2) (pv 4) (fun _ _ => rfl)) pe_int (nomark _))), ?_⟩
    have hl : gv.length = gs.length := ga.1
    obtain ⟨vs1, g1, e1, f1, a1, rfl, s1⟩ : ∃ vs1 g1, gv[x.1]? = some vs1 ∧ gs[x.1]? = some g1 ∧ GateV K H vs1 g1 := by
      have e1 : gs[x.1]? = some (gs[x.1]'W.s) := List.getElem?_eq_getElem W.s
      obtain ⟨y, hy, r⟩ := ga.getR e1
      exact ⟨y, _, hy, e1, r⟩
    obtain ⟨vs2, g2, e2, f2, a2, rfl, s2⟩ : ∃ vs2 g2, gv[x.2.1]? = some vs2 ∧ gs[x.2.1]? = some g2 ∧ GateV K H vs2 g2 := by
      have e1 : gs[x.2.1]? = some (gs[x.2.1]'W.e) := List.getElem?_eq_getElem W.e
      obtain ⟨y, hy, r⟩ := ga.getR e1
      exact ⟨y, _, hy, e1, r⟩
    have k1 := kindAt_get f1
    have k2 := kindAt_get f2
    refine ⟨_, rfl, a, _, 0, _, rfl, rfl, sq1, atI_nat (j := 0) rfl, _, rfl, a, _, 1, _, rfl, rfl, sq1, atI_nat (j := 1) rfl, _, _, rfl, ?_⟩
    refine ⟨_, rfl, _, rfl, lg, gv, _, _, rfl, rfl, sg, atI_nat e1, a1, _, 0, _, rfl, rfl, s1, atI_nat (j := 0) rfl, rfl, false, ?_, iteF ?_⟩
    · show V.bl (decide (V.str g1.1 = V.str "out")) = V.bl false
      rw [decide_eq_false]
      intro z
      exact W.ks (by rw [k1]; exact V.str.inj z)
    refine ⟨_, rfl, _, rfl, lg, gv, _, _, rfl, rfl, sg, atI_nat e2, a2, _, 0, _, rfl, rfl, s2, atI_nat (j := 0) rfl, rfl, false, ?_, iteF ?_⟩
    · show V.bl (decide (V.str g2.1 = V.str "in")) = V.bl false
      rw [decide_eq_false]
      intro z
      exact W.ke (by rw [k2]; exact V.str.inj z)
    refine ⟨_, rfl, _, rfl, lg, gv, _, _, rfl, rfl, sg, atI_nat e2, a2, _, 0, _, rfl, rfl, s2, atI_nat (j := 0) rfl, rfl, _, rfl, ite2 (fun e => ?_) (fun e => ?_)⟩
    · exact q
    · have hk : kindAt gs x.2.1 = "out" := by
        rw [k2]
        refine Classical.byContradiction fun z => e ?_
        show (!decide (V.str g2.1 = V.str "out")) = true
        rw [decide_eq_false (fun y => z (V.str.inj y))]
        rfl
      have hc := h0 hk
      refine ⟨_, rfl, _, rfl, lc, _, _, .int 0, rfl, rfl, sc, atI_nat (by rw [List.getElem?_map, hc]; rfl), rfl, q⟩
end
end Lag

set_option maxRecDepth 100000
set_option maxHeartbeats 4000000
namespace Lag
open PySem PySem.Spec PyProof.Rows L2
abbrev sChkWires : Stmt := topS 28
def cntL (n : Nat) (ws : List Wr) : List Nat := (List.range n).map (cnt ws)
theorem cntL_len (n : Nat) (ws : List Wr) : (cntL n ws).length = n := by simp [cntL]
theorem cntL_get {n e : Nat} {ws : List Wr} (h : e < n) : (cntL n ws)[e]? = some (cnt ws e) := by
  unfold cntL
  rw [List.getElem?_map, List.getElem?_range h]
  rfl
theorem cntL_nil (n : Nat) : cntL n [] = List.replicate n 0 := by
  refine List.ext_getElem? fun i => ?_
  by_cases h : i < n
  · rw [cntL_get h, List.getElem?_replicate, if_pos h]
    rfl
  · rw [List.getElem?_eq_none (by rw [cntL_len]; omega), List.getElem?_eq_none (by simp; omega)]
theorem cnt_app (ws : List Wr) (x : Wr) (e : Nat) : cnt (ws ++ [x]) e = cnt ws e + if x.2.1 = e then 1 else 0 := by
  unfold cnt
  rw [List.countP_append, List.countP_cons, List.countP_nil]
  by_cases h : x.2.1 = e <;> simp [h]
theorem cntL_app {n : Nat} {ws : List Wr} {x : Wr} (h : x.2.1 < n) : (cntL n ws).set x.2.1 (cnt ws x.2.1 + 1) = cntL n (ws ++ [x]) := by
  refine List.ext_getElem? fun i => ?_
  by_cases hi : i < n
  · rw [cntL_get hi, cnt_app, List.getElem?_set]
    by_cases e : x.2.1 = i
    · rw [if_pos e, if_pos e, if_pos (by rw [cntL_len]; exact h), e]
    · rw [if_neg e, if_neg e, cntL_get hi]
      rfl
  · rw [List.getElem?_eq_none (by rw [List.length_set, cntL_len]; omega), List.getElem?_eq_none (by rw [cntL_len]; omega)]
theorem cnt_take_lt {ws : List Wr} {i : Nat} {x : Wr} (h : ws[i]? = some x) : cnt (ws.take i) x.2.1 + 1 ≤ cnt ws x.2.1 := by
  have e : ws.take (i + 1) = ws.take i ++ [x] := by rw [List.take_add_one, h]; rfl
  have h1 : cnt (ws.take (i + 1)) x.2.1 ≤ cnt ws x.2.1 := by
    unfold cnt
    exact List.Sublist.countP_le (List.take_sublist _ _)
  rw [e, cnt_app, if_pos rfl] at h1
  exact h1
def spChkWires (K : PySem.W.Frag) : Sp := fun vs H Q _ => ∃ (lg lw : Addr) (gs : List Gt) (ws : List Wr), vs = [.ref lg, .ref lw] ∧ RG K H lg gs ∧ RW K H lw ws ∧ NetOk gs ws ∧ ∀ H', Same H H' → Q .non H'
theorem map_set' {α β : Type} (f : α → β) (l : List α) (i : Nat) (a : α) : (l.map f).set i (f a) = (l.set i a).map f := by simp [List.map_set]
section
variable {P : Program} {w : World} {K : PySem.W.Frag} {mg : Str → Option Value} {base : Heap}
theorem scChkWires : FnScope ["gates", "wires", "come", "place", "thing", "gate", "many"] ["gates", "wires"] (defScope sChkWires) := ⟨rfl, rfl, rfl, by decide +kernel, rfl, by decide +kernel, by decide +kernel⟩
abbrev DChkWires (P : Program) (w : World) (K : PySem.W.Frag) (mg : Str → Option Value) (base : Heap) := Df P w K mg base 5 "check_wires" ["gates", "wires"] (spChkWires K)
theorem ok_chkWires {f fW fT aK aW aF : Addr} {fd fdW fdT : FuncData} (F : Fun K "check_wires" "check_wires" sChkWires f fd) (hm : mg "check_wires" = some (.ref f)) (B : Bt mg) (C : Cns K mg aK aW aF) (DW : DIsWire P w K mg base fW fdW) (DT : DTaken P w K mg base fT fdT) : DChkWires P w K mg base f fd := by
  refine ⟨?_, hm, F.kp, F.binds fun _ _ _ _ _ _ us hl => match us, hl with | [_, _], _ => rfl⟩
  refine F.ok scChkWires (fun vs H Q E h => ?_) (fun cdv A outer s H vs Q E hr h => ?_)
  · obtain ⟨lg, lw, gs, ws, rfl, _⟩ := h
    rfl
  · obtain ⟨lg, lw, gs, ws, rfl, RGs, ⟨wv, sw, wa⟩, N, q⟩ := h
    have nd := scChkWires.nd
    have hr1 : Room 1 _ := hr.mono (by decide)
    refine ⟨_, pss_cons (ps_if (pt_not (pt_val (pe_callB call_isi (by rfl) B.isi (by decide +kernel) (pa_cons (pv 1) (pa_cons (pe_bltn (v := .ty "list") (by rfl) B.list (by decide +kernel) rfl) pa_nil))))) (pss_one ps_never) pss_nil) <|
      pss_cons (ps_set (i := 2) nd rfl (Or.inl rfl) (pe_op op_rep (pe_lst (pa_cons pe_int pa_nil)) (pe_callB call_len_seq (by rfl) B.len PySem.boot_len (pa_cons (pv 0) pa_nil)))) <|
      pss_cons (ps_for PassesOwn.never rfl (pi_enum (by rfl) B.enum (pa_cons (pv 1) pa_nil)) (pg_tup rfl (pgs_cons (pg_name (i := 3) nd rfl (Or.inl rfl)) (pgs_cons (pg_name (i := 4) nd rfl (Or.inl rfl)) pgs_nil))) <|
        pss_cons (ps_if (PW.pt (pw_or (pt_not (pt_val (pe_call DW.ok hr (by rfl) DW.mg DW.kp DW.bd .nil pass0 (pa_cons (pv 4) (pa_cons (pe_callB call_len_seq (by rfl) B.len PySem.boot_len (pa_cons (pv 0) pa_nil)) pa_nil)))))
            (pw_or1 (pt_not (pt_val (pe_call DT.ok hr1 (by rfl) DT.mg DT.kp DT.bd .nil pass0 (pa_cons (pv 4) (pa_cons (pv 0) (pa_cons (pv 2) pa_nil))))))))) (pss_one ps_never) pss_nil) <|
        pss_one <| ps_augS (pv 2) (pe_ix ix_tup (pv 4) pe_int (fun _ _ => rfl)) get_list pe_int ip_add set_list) <|
      pss_one <| ps_for PassesOwn.never rfl (pi_zip (by rfl) B.zip (pa_cons (pv 0) (pa_cons (pv 2) pa_nil))) (pg_tup rfl (pgs_cons (pg_name (i := 5) nd rfl (Or.inl rfl)) (pgs_cons (pg_name (i := 6) nd rfl (Or.inl rfl)) pgs_nil))) <|
        pss_one <| ps_if (PW.pt (pw_and (pt_cmpR op_in_seq (pe_ix ix_tup (pv 5) pe_int (fun _ _ => rfl)) (pe_glob (v := .ref aF) (by rfl) C.mF rfl) (by rfl)) (pw_and1 (pt_cmpR op_eq (pv 6) pe_int (nomark _))))) (pss_one ps_never) pss_nil, ?_⟩
    obtain ⟨gv, sg, ga⟩ := id RGs
    have hlg : gv.length = gs.length := ga.1
    have hlw : wv.length = ws.length := wa.1
    have hgl := N.gl
    refine ⟨_, rfl, _, _, _, _, true, rfl, .ty "list", ty_lst sw, kit_ty (by decide +kernel), true, rfl, iteF ?_⟩
    refine ⟨(by show 1 ≤ sizeLine; decide), fun l0 hl0 => ?_⟩
    refine ⟨_, rfl, lg, gv, rfl, .inl ((same_new hl0).seq sg), ?_⟩
    refine ⟨l0, _, _, rfl, rfl, upd_same, by omega, by omega, ?_, fun lc hlc => ?_⟩
    · show 1 * _ ≤ sizeLine
      have : 1 * ((gv.length : Int)).toNat ≤ 1000 := by omega
      exact Nat.le_of_lt (small1000 this)
    have sm0 : Same H (upd H l0 (.lst [.int 0])) := same_new hl0
    have hlc0 : H lc = none := sm0.free hlc
    have e0 : (List.replicate ((gv.length : Int)).toNat [V.int 0]).flatten = (cntL gs.length (ws.take 0)).map fun i => V.int (i : Nat) := by
      rw [List.take_zero, cntL_nil, List.map_replicate, ← hlg, Int.toNat_natCast]
      generalize gv.length = n
      induction n with
      | zero => rfl
      | succ n ih =>
        rw [List.replicate_succ, List.flatten_cons, ih, List.replicate_succ]
        rfl
    rw [e0]
    -- for place, thing in enumerate(wires)
    refine ⟨_, rfl, lw, wv, rfl, (sm0.trans (same_new hlc)).seq sw, for_it (walk_enum (K := K) (a := lw) (xs := wv)) (fun i σ H2 => ∃ s3 s4 : Option V, σ = [some (.ref lg), some (.ref lw), some (.ref lc), s3, s4, none, none] ∧
        H2 lc = some (.lst ((cntL gs.length (ws.take i)).map fun i => V.int (i : Nat))) ∧ Same H H2)
      ⟨_, _, rfl, upd_same, sm0.trans (same_new hlc)⟩ (fun i σ H2 _ ⟨_, _, _, _, sm⟩ => sm.seq sw) ?_ ?_⟩
    · rintro i v σ H2 H2' hi ⟨s3, s4, rfl, hc, sm⟩ ⟨T, x1, y, rfl, hT, rfl, ex, ey⟩
      cases ex
      obtain ⟨x, hx, wx⟩ := wa.get ey
      have W := N.wok x (List.mem_of_getElem? hx)
      have hxi : i < ws.length := (List.getElem?_eq_some_iff.mp hx).1
      have smT : Same H2 (upd H2 T (.tup [.int (i : Nat), y])) := same_new hT
      have sm2 := sm.trans smT
      refine ⟨T, _, rfl, .inl (.inl upd_same), rfl, _, _, rfl, _, _, rfl, rfl, ?_⟩
      refine ⟨_, rfl, _, rfl, lg, gv, rfl, .inl (sm2.seq sg), y, x, gv.length, rfl, wx.tk (TK.same sm2), by rw [hlg]; exact W.s, by rw [hlg]; exact W.e, W.r, by have := W.rl; omega, fun H3 sm3 => ⟨true, rfl, iteF ?_⟩⟩
      have sm4 := sm2.trans sm3
      have hc3 := sm3 _ _ (smT _ _ hc)
      refine ⟨_, rfl, _, rfl, _, rfl, y, x, lg, lc, gs, cntL gs.length (ws.take i), rfl, wx.tk (TK.same sm4), RGs.same sm4, SqL.of hc3, W, cntL_len _ _, fun hk => ?_, true, rfl, iteF ?_⟩
      · rw [cntL_get W.e]
        have h1 := N.one _ W.e hk
        have h2 := cnt_take_lt hx
        congr 1
        omega
      obtain ⟨a, b, rfl, sq1, sq2⟩ := wx
      have hlen : x.2.1 < (cntL gs.length (ws.take i)).length := by rw [cntL_len]; exact W.e
      refine ⟨_, rfl, _, rfl, a, _, 1, _, rfl, rfl, (TK.same sm4).seq sq1, atI_nat (j := 1) rfl, lc, _, x.2.1, .int (cnt (ws.take i) x.2.1 : Nat), rfl, rfl, SqL.of hc3, by rw [List.getElem?_map, cntL_get W.e]; rfl, _, _, rfl, rfl, lc, _, _, x.2.1, rfl, rfl, hc3, Evl.ixN_nat (by rw [List.length_map]; exact hlen), ?_⟩
      refine ⟨_, _, rfl, ?_, same_mut sm4 hlc0⟩
      have et : ws.take (i + 1) = ws.take i ++ [x] := by rw [List.take_add_one, hx]; rfl
      rw [upd_same, et, ← cntL_app W.e, ← map_set']
      rfl
    · rintro σ H2 ⟨s3, s4, rfl, hc, sm⟩
      rw [hlw, List.take_length] at hc
      -- for gate, many in zip(gates, come)
      refine ⟨_, rfl, _, rfl, lg, lc, gv, _, rfl, sm.seq sg, SqL.of hc, RZ.for_zipL (K := K) (a := lg) (b := lc) (xs := gv) (by rw [List.length_map, cntL_len]; exact hlg) (fun i σ H3 => ∃ s5 s6 : Option V, σ = [some (.ref lg), some (.ref lw), some (.ref lc), s3, s4, s5, s6] ∧ Same H2 H3)
        ⟨_, _, rfl, Same.refl H2⟩ (fun i σ H3 ⟨_, _, _, sm3⟩ => ⟨(sm.trans sm3).seq sg, SqL.of (sm3 _ _ hc)⟩) ?_ ?_⟩
      · rintro i x y T σ H3 hx hy ⟨s5, s6, rfl, sm3⟩ hT
        obtain ⟨g, hg, a, rfl, sq⟩ := ga.get hx
        have hgi : i < gs.length := (List.getElem?_eq_some_iff.mp hg).1
        rw [List.getElem?_map, cntL_get hgi] at hy
        cases hy
        have sm4 : Same H (upd H3 T (.tup [.ref a, .int (cnt ws i : Nat)])) := (sm.trans sm3).trans (same_new hT)
        refine ⟨T, _, rfl, .inl (.inl upd_same), rfl, _, _, rfl, _, _, rfl, rfl, ?_⟩
        refine ⟨_, rfl, a, _, 0, _, rfl, rfl, (TK.same sm4).seq sq, atI_nat (j := 0) rfl, aF, _, rfl, .inr (C.sF _), rfl, rfl, _, rfl, ite2 (fun e => ?_) (fun e => ?_)⟩
        · have e' : inV (V.str g.1) [V.str "out", V.str "first"] = true := e
          have hpos : 1 ≤ cnt ws i := by
            unfold inV at e'
            rw [List.any_eq_true] at e'
            obtain ⟨x, hx, hxe⟩ := e'
            simp only [List.mem_cons, List.not_mem_nil, or_false] at hx
            rcases hx with rfl | rfl
            · have := N.one i hgi (by rw [kindAt_get hg]; exact (eq_of_beq hxe).symm)
              omega
            · exact N.some i hgi (by rw [kindAt_get hg]; exact (eq_of_beq hxe).symm)
          refine ⟨_, rfl, rfl, false, ?_, iteF ⟨_, _, rfl, sm3.trans (same_new hT)⟩⟩
          show V.bl (decide (V.int (cnt ws i : Int) = V.int 0)) = V.bl false
          rw [decide_eq_false]
          intro z
          have := V.int.inj z
          omega
        · exact iteF ⟨_, _, rfl, sm3.trans (same_new hT)⟩
      · rintro σ H3 ⟨s5, s6, rfl, sm3⟩
        exact q H3 (sm.trans sm3)
end
end Lag

set_option maxRecDepth 100000
set_option maxHeartbeats 4000000
namespace Lag
open PySem PySem.Spec PyProof.Rows L2
/-! ### the order of gates along wires without registers: the mathematics -/
def bare (ws : List Wr) : List (Nat × Nat) := (ws.filter fun x => x.2.2.isEmpty).map fun x => (x.1, x.2.1)
/-- how many wires of B lead into e from gates that are not in dn -/
def mis (B : List (Nat × Nat)) (dn : List Nat) (e : Nat) : Nat := B.countP fun b => b.2 == e && !dn.contains b.1
def frm (B : List (Nat × Nat)) (g e : Nat) : Nat := B.countP fun b => b.1 == g && b.2 == e
theorem mis_split {B : List (Nat × Nat)} {dn : List Nat} {g : Nat} (h : g ∉ dn) (e : Nat) : mis B dn e = mis B (dn ++ [g]) e + frm B g e := by
  unfold mis frm
  induction B with
  | nil => rfl
  | cons b B ih =>
    rw [List.countP_cons, List.countP_cons, List.countP_cons, ih]
    by_cases h1 : b.2 = e
    · by_cases h2 : b.1 = g
      · have : b.1 ∉ dn := by rw [h2]; exact h
        simp [h1, h2, h]
        omega
      · by_cases h3 : b.1 ∈ dn
        · simp [h1, h2, h3]
        · simp [h1, h2, h3]
          omega
    · simp [h1]
theorem mis_zero {B : List (Nat × Nat)} {dn : List Nat} {e : Nat} (h : mis B dn e = 0) {b : Nat × Nat} (hb : b ∈ B) (he : b.2 = e) : b.1 ∈ dn := by
  unfold mis at h
  rw [List.countP_eq_zero] at h
  have := h b hb
  simp [he] at this
  exact this
theorem frm_drop {B : List (Nat × Nat)} {j : Nat} {b : Nat × Nat} (h : B[j]? = some b) (g e : Nat) : frm (B.drop j) g e = frm (B.drop (j + 1)) g e + if b.1 = g ∧ b.2 = e then 1 else 0 := by
  obtain ⟨hj, rfl⟩ := List.getElem?_eq_some_iff.mp h
  rw [List.drop_eq_getElem_cons hj]
  unfold frm
  rw [List.countP_cons]
  by_cases h1 : B[j].1 = g <;> by_cases h2 : B[j].2 = e <;> simp [h1, h2]
structure KI (B : List (Nat × Nat)) (n : Nat) (placed : List Nat) (d : Nat) : Prop where
  nd : placed.Nodup
  lt : ∀ e ∈ placed, e < n
  le : d ≤ placed.length
  iff : ∀ e, e < n → (e ∈ placed ↔ mis B (placed.take d) e = 0)
  top : ∀ (j e : Nat), placed[j]? = some e → ∀ b ∈ B, b.2 = e → b.1 ∈ placed.take j
structure KJ (B : List (Nat × Nat)) (n : Nat) (placed : List Nat) (d g j : Nat) : Prop where
  nd : placed.Nodup
  lt : ∀ e ∈ placed, e < n
  at_ : placed[d]? = some g
  iff : ∀ e, e < n → (e ∈ placed ↔ mis B (placed.take (d + 1)) e + frm (B.drop j) g e = 0)
  top : ∀ (j e : Nat), placed[j]? = some e → ∀ b ∈ B, b.2 = e → b.1 ∈ placed.take j
theorem take_add {l : List Nat} {d g : Nat} (h : l[d]? = some g) : l.take (d + 1) = l.take d ++ [g] := by rw [List.take_add_one, h]; rfl
theorem nodup_take {l : List Nat} {d g : Nat} (nd : l.Nodup) (h : l[d]? = some g) : g ∉ l.take d := by
  intro hm
  obtain ⟨i, hi⟩ := List.getElem?_of_mem hm
  have h1 : i < d := by
    have := (List.getElem?_eq_some_iff.mp hi).1
    rw [List.length_take] at this
    omega
  rw [List.getElem?_take_of_lt h1] at hi
  have := nd_ix nd hi h
  omega
theorem KI.go {B : List (Nat × Nat)} {n : Nat} {placed : List Nat} {d g : Nat} (h : KI B n placed d) (hg : placed[d]? = some g) : KJ B n placed d g 0 :=
  ⟨h.nd, h.lt, hg, fun e he => by rw [h.iff e he, take_add hg, mis_split (nodup_take h.nd hg), List.drop_zero], h.top⟩
theorem KJ.done {B : List (Nat × Nat)} {n : Nat} {placed : List Nat} {d g : Nat} (h : KJ B n placed d g B.length) : KI B n placed (d + 1) := by
  have hd : d < placed.length := (List.getElem?_eq_some_iff.mp h.at_).1
  refine ⟨h.nd, h.lt, hd, fun e he => ?_, h.top⟩
  rw [h.iff e he, List.drop_length]
  rfl
theorem KJ.skip {B : List (Nat × Nat)} {n : Nat} {placed : List Nat} {d g j : Nat} {b : Nat × Nat} (h : KJ B n placed d g j) (hb : B[j]? = some b) (hg : b.1 ≠ g) : KJ B n placed d g (j + 1) :=
  ⟨h.nd, h.lt, h.at_, fun e he => by rw [h.iff e he, frm_drop hb, if_neg (fun z => hg z.1)]; rfl, h.top⟩
theorem KJ.not {B : List (Nat × Nat)} {n : Nat} {placed : List Nat} {d g j : Nat} {b : Nat × Nat} (h : KJ B n placed d g j) (hb : B[j]? = some b) (hg : b.1 = g) (hn : mis B (placed.take (d + 1)) b.2 + frm (B.drop (j + 1)) g b.2 ≠ 0) : KJ B n placed d g (j + 1) := by
  refine ⟨h.nd, h.lt, h.at_, fun e he => ?_, h.top⟩
  rw [h.iff e he, frm_drop hb]
  by_cases h2 : b.2 = e
  · subst h2
    rw [if_pos ⟨hg, rfl⟩]
    omega
  · rw [if_neg (fun z => h2 z.2)]
    rfl
theorem KJ.put {B : List (Nat × Nat)} {n : Nat} {placed : List Nat} {d g j : Nat} {b : Nat × Nat} (h : KJ B n placed d g j) (hb : B[j]? = some b) (hg : b.1 = g) (hlt : b.2 < n) (hn : mis B (placed.take (d + 1)) b.2 + frm (B.drop (j + 1)) g b.2 = 0) : KJ B n (placed ++ [b.2]) d g (j + 1) := by
  have hd : d < placed.length := (List.getElem?_eq_some_iff.mp h.at_).1
  have hnot : b.2 ∉ placed := fun z => by
    have := (h.iff _ hlt).mp z
    rw [frm_drop hb, if_pos ⟨hg, rfl⟩] at this
    omega
  have et : (placed ++ [b.2]).take (d + 1) = placed.take (d + 1) := List.take_append_of_le_length (by omega)
  refine ⟨?_, ?_, ?_, ?_, ?_⟩
  · rw [List.nodup_append]
    refine ⟨h.nd, by simp, fun a ha c hc => ?_⟩
    simp at hc
    subst hc
    intro z
    exact hnot (by rw [← z]; exact ha)
  · intro e he
    rcases List.mem_append.mp he with he | he
    · exact h.lt e he
    · simp at he
      subst he
      exact hlt
  · rw [List.getElem?_append_left hd]
    exact h.at_
  · intro e he
    rw [et, List.mem_append]
    by_cases h2 : b.2 = e
    · subst h2
      simp [hn]
    · have := h.iff e he
      rw [frm_drop hb, if_neg (fun z => h2 z.2)] at this
      rw [this]
      simp
      intro z
      exact absurd z.symm h2
  · intro k e hk c hc hce
    by_cases hk' : k < placed.length
    · rw [List.getElem?_append_left hk'] at hk
      rw [List.take_append_of_le_length (by omega)]
      exact h.top k e hk c hc hce
    · have hkl : k = placed.length := by
        have := (List.getElem?_eq_some_iff.mp hk).1
        simp at this
        omega
      subst hkl
      rw [List.getElem?_append_right (by omega)] at hk
      simp at hk
      subst hk
      rw [List.take_left']
      · have := mis_zero (show mis B (placed.take (d + 1)) b.2 = 0 by omega) hc hce
        exact List.mem_of_mem_take this
      · rfl
/-- what the order is: gates without two alike, each behind those it hangs on; all whose wires come from such -/
def Ord (n : Nat) (ws : List Wr) (ord : List Nat) : Prop := KI (bare ws) n ord ord.length
theorem Ord.full {n : Nat} {ws : List Wr} {ord : List Nat} (h : Ord n ws ord) (hw : ∀ x ∈ ws, x.1 < n ∧ x.2.1 < n) (rk : ∃ ρ : Nat → Nat, ∀ x ∈ ws, x.2.2 = [] → ρ x.1 < ρ x.2.1) : ord.Perm (List.range n) := by
  obtain ⟨ρ, hρ⟩ := rk
  have all : ∀ r e, e < n → ρ e = r → e ∈ ord := by
    intro r
    induction r using Nat.strongRecOn with
    | ind r ih =>
      intro e he hr
      rw [h.iff e he, List.take_length]
      unfold mis
      rw [List.countP_eq_zero]
      intro b hb
      obtain ⟨x, hx, rfl⟩ := List.mem_map.mp hb
      rw [List.mem_filter] at hx
      have hr0 : x.2.2 = [] := by simpa using hx.2
      have := hρ x hx.1 hr0
      simp
      intro z
      exact ih (ρ x.1) (by rw [← hr, ← z]; exact this) x.1 (hw x hx.1).1 rfl
  rw [List.perm_iff_count]
  intro a
  rw [h.nd.count, List.nodup_range.count]
  by_cases ha : a < n
  · rw [if_pos (all _ a ha rfl), if_pos (List.mem_range.mpr ha)]
  · rw [if_neg (fun z => ha (h.lt a z)), if_neg (fun z => ha (List.mem_range.mp z))]
end Lag

set_option maxRecDepth 100000
set_option maxHeartbeats 8000000
namespace Lag
open PySem PySem.Spec PyProof.Rows L2
abbrev sAlong : Stmt := topS 17
abbrev sOrder : Stmt := topS 32
def PairV (K : PySem.W.Frag) (H : Hp) (v : V) (b : Nat × Nat) : Prop := ∃ a, v = .ref a ∧ SqT K H a [.int (b.1 : Nat), .int (b.2 : Nat)]
theorem PairV.tk {K : PySem.W.Frag} {H H' : Hp} {v : V} {b : Nat × Nat} (t : TK H H') (h : PairV K H v b) : PairV K H' v b := by
  obtain ⟨a, e, s⟩ := h
  exact ⟨a, e, t.seq s⟩
/-- numbers by a function of the place -/
def fnL (n : Nat) (f : Nat → Nat) : List V := (List.range n).map fun e => V.int (f e : Nat)
theorem fnL_len (n : Nat) (f : Nat → Nat) : (fnL n f).length = n := by simp [fnL]
theorem fnL_get {n e : Nat} {f : Nat → Nat} (h : e < n) : (fnL n f)[e]? = some (V.int (f e : Nat)) := by
  unfold fnL
  rw [List.getElem?_map, List.getElem?_range h]
  rfl
theorem fnL_set {n e : Nat} {f f' : Nat → Nat} {z : Int} (h : e < n) (he : (f' e : Int) = z) (ho : ∀ i, i ≠ e → f' i = f i) : (fnL n f).set e (V.int z) = fnL n f' := by
  refine List.ext_getElem? fun i => ?_
  by_cases hi : i < n
  · rw [fnL_get hi, List.getElem?_set]
    by_cases ei : e = i
    · subst ei
      rw [if_pos rfl, if_pos (by rw [fnL_len]; exact h), he]
    · rw [if_neg ei, fnL_get hi, ho i (fun z => ei z.symm)]
  · rw [List.getElem?_eq_none (by rw [List.length_set, fnL_len]; omega), List.getElem?_eq_none (by rw [fnL_len]; omega)]
theorem fnL_zero (n : Nat) (f : Nat → Nat) (h : ∀ e, f e = 0) : (List.replicate n [V.int 0]).flatten = fnL n f := by
  have e : f = fun _ => 0 := funext h
  subst e
  unfold fnL
  induction n with
  | zero => rfl
  | succ n ih =>
    rw [List.replicate_succ', List.flatten_append, ih, List.range_succ, List.map_append]
    rfl
def spOrder (K : PySem.W.Frag) : Sp := fun vs H Q _ => ∃ (n : Nat) (lw : Addr) (ws : List Wr), vs = [.int (n : Nat), .ref lw] ∧ RW K H lw ws ∧ (∀ x ∈ ws, x.1 < n ∧ x.2.1 < n) ∧ n ≤ 1000 ∧ ws.length ≤ 1000 ∧
  ∀ (ord : List Nat) (p : Addr) (H' : Hp), Ord n ws ord → Same H H' → H p = none → H' p = some (.lst (ord.map fun i => V.int (i : Nat))) → Q (.ref p) H'
def spAlong (K : PySem.W.Frag) : Sp := fun vs H Q _ => ∃ (n : Nat) (lb : Addr) (bv : List V) (B : List (Nat × Nat)), vs = [.int (n : Nat), .ref lb] ∧ SqL K H lb bv ∧ All2 (PairV K H) bv B ∧ (∀ b ∈ B, b.1 < n ∧ b.2 < n) ∧ n ≤ 1000 ∧ B.length ≤ 1000 ∧
  ∀ (ord : List Nat) (p : Addr) (H' : Hp), KI B n ord ord.length → Same H H' → H p = none → H' p = some (.lst (ord.map fun i => V.int (i : Nat))) → Q (.ref p) H'
abbrev nAlong : List Str := ["many", "pairs", "missing", "start", "end", "placed", "done", "place"]
theorem scAlong : FnScope nAlong ["many", "pairs"] (defScope sAlong) := ⟨rfl, rfl, rfl, by decide +kernel, rfl, by decide +kernel, by decide +kernel⟩
abbrev nOrder : List Str := ["many_gates", "wires", "start", "end", "held"]
theorem scOrder : FnScope nOrder ["many_gates", "wires"] (defScope sOrder) := ⟨rfl, rfl, rfl, by decide +kernel, rfl, by decide +kernel, by decide +kernel⟩
theorem bare_take {ws : List Wr} {i : Nat} {x : Wr} (h : ws[i]? = some x) : bare (ws.take (i + 1)) = if x.2.2.isEmpty then bare (ws.take i) ++ [(x.1, x.2.1)] else bare (ws.take i) := by
  unfold bare
  rw [List.take_add_one, h]
  show ((ws.take i ++ [x]).filter _).map _ = _
  rw [List.filter_append]
  by_cases e : x.2.2.isEmpty
  · rw [if_pos e, List.filter_cons, if_pos e, List.map_append]
    rfl
  · rw [if_neg e, List.filter_cons, if_neg e, List.filter_nil, List.append_nil]
theorem bare_len (ws : List Wr) : (bare ws).length ≤ ws.length := by
  unfold bare
  rw [List.length_map]
  exact List.length_filter_le _ _
theorem mis_take {B : List (Nat × Nat)} {i : Nat} {b : Nat × Nat} (h : B[i]? = some b) (e : Nat) : mis (B.take (i + 1)) [] e = mis (B.take i) [] e + if b.2 = e then 1 else 0 := by
  unfold mis
  rw [List.take_add_one, h]
  show (B.take i ++ [b]).countP _ = _
  rw [List.countP_append, List.countP_cons, List.countP_nil]
  by_cases h1 : b.2 = e <;> simp [h1]
section
variable {P : Program} {w : World} {K : PySem.W.Frag} {mg : Str → Option Value} {base : Heap}
abbrev DAlong (P : Program) (w : World) (K : PySem.W.Frag) (mg : Str → Option Value) (base : Heap) := Df P w K mg base 1 "order_along" ["many", "pairs"] (spAlong K)
theorem ok_along {f : Addr} {fd : FuncData} (F : Fun K "order_along" "order_along" sAlong f fd) (hm : mg "order_along" = some (.ref f)) (Bb : Bt mg) : DAlong P w K mg base f fd := by
  refine ⟨?_, hm, F.kp, F.binds fun _ _ _ _ _ _ us hl => match us, hl with | [_, _], _ => rfl⟩
  refine F.ok scAlong (fun vs H Q E h => ?_) (fun cdv A outer s H vs Q E hr h => ?_)
  · obtain ⟨n, lb, bv, B, rfl, _⟩ := h
    rfl
  · obtain ⟨n, lb, bv, B, rfl, sb, ba1, hBlt, hn, hwl, q⟩ := h
    have nd := scAlong.nd
    refine ⟨_, pss_cons (ps_set (i := 2) nd rfl (Or.inr rfl) (pe_op op_rep (pe_lst (pa_cons pe_int pa_nil)) (pv 0))) <|
      pss_cons (ps_for PassesOwn.never rfl (pi_list (pv 1)) (pg_tup rfl (pgs_cons (pg_name (i := 3) nd rfl (Or.inl rfl)) (pgs_cons (pg_name (i := 4) nd rfl (Or.inl rfl)) pgs_nil)))
        (pss_one (ps_augS (pv 2) (pv 4) get_list pe_int ip_add set_list))) <|
      pss_cons (ps_setLc (i := 5) (own := [("place", 7)]) (g := gName 7) (tt := tTest (tOp rEq (tOp (rIxL K) (tVar 2) (tVar 7)) (tC (.int 0)))) (te := tVar 7) rfl nd rfl rfl (sw_true rfl rfl rfl (by decide +kernel))
          (pi_range1 (by rfl) Bb.range (pa_cons (pv 0) pa_nil)) (blkOk_by (N := nAlong) (sc := defScope sAlong) (own := [("place", 7)]) (by decide +kernel)) (fun _ _ _ _ _ => pg_name (i := 7) nd rfl (Or.inl rfl))
          (fun _ _ _ _ _ => pts_one (pt_cmpR op_eq (pe_ix ix_list (pv 2) (pv 7) (fun _ _ => rfl)) pe_int (nomark _))) (fun _ _ _ _ _ => pv 7)) <|
      pss_cons (ps_set (i := 6) nd rfl (Or.inl rfl) pe_int) <|
      pss_cons (ps_while PassesOwn.never (pt_cmpR op_lt (pv 6) (pe_callB call_len_seq (by rfl) Bb.len PySem.boot_len (pa_cons (pv 5) pa_nil)) (nomark _)) <|
        pss_cons (ps_for PassesOwn.never rfl (pi_list (pv 1)) (pg_tup rfl (pgs_cons (pg_name (i := 3) nd rfl (Or.inl rfl)) (pgs_cons (pg_name (i := 4) nd rfl (Or.inl rfl)) pgs_nil))) <|
          pss_one <| ps_if (pt_cmpR op_eq (pv 3) (pe_ix ix_list (pv 5) (pv 6) (fun _ _ => rfl)) (nomark _))
            (pss_cons (ps_augS (pv 2) (pv 4) get_list pe_int ip_sub set_list) <| pss_one <| ps_if (pt_cmpR op_eq (pe_ix ix_list (pv 2) (pv 4) (fun _ _ => rfl)) pe_int (nomark _))
              (pss_one (ps_expr (pe_bm PySem.F.plainAttrs_list PySem.F.slot_list_append PySem.F.type_list_append mt_append (pv 5) (pa_cons (pv 4) pa_nil)))) pss_nil) pss_nil) <|
        pss_one <| ps_aug (i := 6) nd rfl (Or.inl rfl) pe_int ip_add) <|
      pss_one <| ps_ret (pv 5), ?_⟩
    have hbl : bv.length ≤ 1000 := by
      rw [ba1.1]
      omega
    -- missing = [0] * many_gates
    refine ⟨(by show 1 ≤ sizeLine; decide), fun l0 hl0 => ?_⟩
    have sm2 : Same H (upd H l0 (.lst [.int 0])) := same_new hl0
    refine ⟨_, rfl, l0, _, _, rfl, rfl, upd_same, by omega, by omega, ?_, fun lm hlm => ?_⟩
    · show 1 * _ ≤ sizeLine
      have : 1 * ((n : Int)).toNat ≤ 1000 := by omega
      exact Nat.le_of_lt (small1000 this)
    rw [Int.toNat_natCast, fnL_zero n (mis (B.take 0) []) (fun e => by simp [mis])]
    have sm3 : Same H (upd (upd H l0 (.lst [.int 0])) lm (.lst (fnL n (mis (B.take 0) [])))) := sm2.trans (same_new hlm)
    have hm1 : H lm = none := sm2.free hlm
    -- for start, end in bare: missing[end] += 1
    refine ⟨_, rfl, lb, rfl, ⟨_, sm3.seq sb⟩, for_list (K := K) (a := lb) (xs := bv) (fun i σ H4 => ∃ s4 s5 : Option V, σ = [some (.int (n : Nat)), some (.ref lb), some (.ref lm), s4, s5, none, none, none] ∧
        H4 lm = some (.lst (fnL n (mis (B.take i) []))) ∧ Same H H4) ⟨_, _, rfl, upd_same, sm3⟩ (fun i σ H4 _ ⟨_, _, _, _, sm⟩ => sm.seq sb) ?_ ?_⟩
    · rintro i x σ H4 hx ⟨s4, s5, rfl, hml, sm4⟩
      obtain ⟨b, hbb, a, rfl, sq⟩ := ba1.get hx
      have hlt := hBlt b (List.mem_of_getElem? hbb)
      refine ⟨a, _, rfl, (TK.same sm4).seq sq, rfl, _, _, rfl, _, _, rfl, rfl, ?_⟩
      refine ⟨_, rfl, _, rfl, lm, _, b.2, _, rfl, rfl, SqL.of hml, fnL_get hlt.2, _, _, rfl, rfl, lm, _, _, b.2, rfl, rfl, hml, Evl.ixN_nat (by rw [fnL_len]; exact hlt.2), ?_⟩
      refine ⟨_, _, rfl, ?_, same_mut sm4 hm1⟩
      rw [upd_same]
      refine congrArg (fun z => some (HO.lst z)) (fnL_set hlt.2 ?_ ?_)
      · rw [mis_take hbb, if_pos rfl]
        show ((mis (B.take i) [] b.2 + 1 : Nat) : Int) = ((mis (B.take i) [] b.2 : Nat) : Int) + 1
        omega
      · intro j hj
        rw [mis_take hbb, if_neg (fun z => hj z.symm)]
        rfl
    · rintro σ H4 ⟨s4, s5, rfl, hml, sm4⟩
      rw [ba1.1, List.take_length] at hml
      -- placed = [gate for gate in range(many_gates) if missing[gate] == 0]
      refine ⟨_, rfl, _, rfl, by omega, by omega, fun lp hlp => ?_⟩
      refine lc_range (lo := 0) (n := ((n : Int)).toNat) (fun i Hc => Hc lp = some (.lst (((List.range i).filter fun e => mis B [] e == 0).map fun i => V.int (i : Nat))) ∧ Same H4 Hc) ⟨upd_same, same_new hlp⟩ ?_ ?_
      · rintro i Hc hi ⟨hc, sm⟩
        have hi' : i < n := by omega
        have hlen : (((List.range i).filter fun e => mis B [] e == 0).map fun i => V.int (i : Nat)).length ≤ 1000 := by
          rw [List.length_map]
          have := List.length_filter_le (fun e => mis B [] e == 0) (List.range i)
          rw [List.length_range] at this
          omega
        have e0 : (0 : Int) + (i : Int) = (i : Int) := Int.zero_add _
        rw [e0]
        refine ⟨rfl, ?_⟩
        refine ⟨_, rfl, _, rfl, lm, _, _, _, rfl, rfl, SqL.of (sm _ _ hml), atI_nat (fnL_get hi'), rfl, _, rfl, ite2 (fun e => ?_) (fun e => ?_)⟩
        · have hz : mis B [] i = 0 := by
            have := V.int.inj (of_decide_eq_true e)
            omega
          refine ⟨_, rfl, _, hc, Nat.lt_of_le_of_lt hlen (small1000 (Nat.le_refl _)), ?_, same_mut sm hlp⟩
          rw [upd_same, List.range_succ, List.filter_append, List.map_append, List.filter_cons, if_pos (by rw [hz]; rfl)]
          rfl
        · have hz : ¬ (mis B [] i == 0) = true := fun z => by
            apply e
            rw [beq_iff_eq] at z
            rw [z]
            rfl
          refine ⟨?_, sm⟩
          rw [List.range_succ, List.filter_append, List.filter_cons, if_neg hz, List.filter_nil, List.append_nil]
          exact hc
      · rintro H5 ⟨hp5, sm5⟩
        rw [Int.toNat_natCast] at hp5
        have k0 : KI B n ((List.range n).filter fun e => mis B [] e == 0) 0 := by
          refine ⟨List.nodup_range.sublist List.filter_sublist, fun e he => List.mem_range.mp (List.mem_filter.mp he).1, Nat.zero_le _, fun e he => ?_, fun j e hj b hb hbe => ?_⟩
          · rw [List.mem_filter, List.take_zero]
            simp [he]
          · have hm0 := (List.mem_filter.mp (List.mem_of_getElem? hj)).2
            rw [beq_iff_eq] at hm0
            have := mis_zero hm0 hb hbe
            simp at this
        -- the while
        have hp0 : H lp = none := sm4.free hlp
        refine ⟨fun m σ H6 => ∃ (placed : List Nat) (d : Nat) (s4 s5 : Option V), σ = [some (.int (n : Nat)), some (.ref lb), some (.ref lm), s4, s5, some (.ref lp), some (.int (d : Nat)), none] ∧
          KI B n placed d ∧ H6 lp = some (.lst (placed.map fun i => V.int (i : Nat))) ∧ H6 lm = some (.lst (fnL n (mis B (placed.take d)))) ∧ Same H H6 ∧ m = n - d, ?_, ?_⟩
        · have h5m := sm5 _ _ hml
          have e0 : mis B [] = mis B (((List.range n).filter fun e => mis B [] e == 0).take 0) := by rw [List.take_zero]
          rw [e0] at h5m
          exact ⟨n, _, 0, _, _, rfl, k0, hp5, h5m, sm4.trans sm5, rfl⟩
        · rintro m σ H6 ⟨placed, d, s4, s5, rfl, ki, hp6, hm6, sm6, rfl⟩
          have hp1 : H lp = none := sm4.free hlp
          have npm : lp ≠ lm := fun z => by
            rw [z, hml] at hlp
            cases hlp
          refine ⟨_, rfl, _, rfl, lp, _, rfl, .inl (SqL.of hp6), _, _, rfl, rfl, _, rfl, ite2 (fun e => ?_) (fun e => ?_)⟩
          · have hd : d < placed.length := by
              have e' : (d : Int) < ((placed.map fun i => V.int (i : Nat)).length : Int) := of_decide_eq_true e
              rw [List.length_map] at e'
              omega
            have hpl : ∀ placed : List Nat, placed.Nodup → (∀ e ∈ placed, e < n) → placed.length ≤ n := fun l hnd hlt => by
              have h1 : l.length = (l.filter fun e => decide (e < n)).length := by
                rw [List.filter_eq_self.mpr]
                intro a ha
                exact decide_eq_true (hlt a ha)
              have h2 := List.Nodup.length_le_of_subset hnd (l₂ := List.range n) (fun a ha => List.mem_range.mpr (hlt a ha))
              rw [List.length_range] at h2
              exact h2
            have hdn := hpl placed ki.nd ki.lt
            have hg : placed[d]? = some placed[d] := List.getElem?_eq_getElem hd
            refine ⟨fun σ H7 => ∃ (placed : List Nat) (s4 s5 : Option V), σ = [some (.int (n : Nat)), some (.ref lb), some (.ref lm), s4, s5, some (.ref lp), some (.int ((d : Nat) + 1)), none] ∧
              KI B n placed (d + 1) ∧ H7 lp = some (.lst (placed.map fun i => V.int (i : Nat))) ∧ H7 lm = some (.lst (fnL n (mis B (placed.take (d + 1))))) ∧ Same H H7, ?_, ?_⟩
            · rintro σ' H' ⟨placed', t4, t5, rfl, ki', hp', hm', sm'⟩
              exact ⟨n - (d + 1), by omega, placed', d + 1, t4, t5, rfl, ki', hp', hm', sm', rfl⟩
            · have e1 : mis B (placed.take d) = fun e => mis B (placed.take (d + 1)) e + frm (B.drop 0) placed[d] e := funext fun e => by
                rw [take_add hg, List.drop_zero]
                exact mis_split (nodup_take ki.nd hg) e
              rw [e1] at hm6
              generalize placed[d] = g at hg hm6
              refine ⟨_, rfl, lb, rfl, ⟨_, sm6.seq sb⟩, for_list (K := K) (a := lb) (xs := bv) (fun j σ H7 => ∃ (placed : List Nat) (s4 s5 : Option V), σ = [some (.int (n : Nat)), some (.ref lb), some (.ref lm), s4, s5, some (.ref lp), some (.int (d : Nat)), none] ∧
                  KJ B n placed d g j ∧ H7 lp = some (.lst (placed.map fun i => V.int (i : Nat))) ∧ H7 lm = some (.lst (fnL n fun e => mis B (placed.take (d + 1)) e + frm (B.drop j) g e)) ∧ Same H H7)
                ⟨placed, _, _, rfl, ki.go hg, hp6, hm6, sm6⟩ (fun i σ H4 _ ⟨_, _, _, _, _, _, _, sm⟩ => sm.seq sb) ?_ ?_⟩
              · rintro j x σ H7 hx ⟨placed, s4, s5, rfl, kj, hp7, hm7, sm7⟩
                obtain ⟨b, hbb, a, rfl, sq⟩ := ba1.get hx
                have hlt := hBlt b (List.mem_of_getElem? hbb)
                refine ⟨a, _, rfl, (TK.same sm7).seq sq, rfl, _, _, rfl, _, _, rfl, rfl, ?_⟩
                refine ⟨_, rfl, _, rfl, _, rfl, lp, _, _, _, rfl, rfl, SqL.of hp7, atI_nat (j := d) (by rw [List.getElem?_map, kj.at_]; rfl), rfl, _, rfl, ite2 (fun e => ?_) (fun e => ?_)⟩
                · have hbg : b.1 = g := by
                    have := V.int.inj (of_decide_eq_true e)
                    omega
                  have hfd : ∀ e, frm (B.drop j) g e = frm (B.drop (j + 1)) g e + if b.1 = g ∧ b.2 = e then 1 else 0 := fun e => frm_drop hbb g e
                  refine ⟨_, rfl, _, rfl, lm, _, b.2, _, rfl, rfl, SqL.of hm7, fnL_get hlt.2, _, _, rfl, rfl, lm, _, _, b.2, rfl, rfl, hm7, Evl.ixN_nat (by rw [fnL_len]; exact hlt.2), ?_⟩
                  have e2 : (fnL n fun e => mis B (placed.take (d + 1)) e + frm (B.drop j) g e).set b.2 (V.int (((mis B (placed.take (d + 1)) b.2 + frm (B.drop j) g b.2 : Nat) : Int) - 1)) = fnL n fun e => mis B (placed.take (d + 1)) e + frm (B.drop (j + 1)) g e := by
                    refine fnL_set hlt.2 ?_ ?_
                    · rw [hfd, if_pos ⟨hbg, rfl⟩]
                      omega
                    · intro i hi
                      rw [hfd, if_neg (fun z => hi z.2.symm)]
                      rfl
                  have hm8 : (upd H7 lm (.lst (fnL n fun e => mis B (placed.take (d + 1)) e + frm (B.drop (j + 1)) g e))) lm = some (.lst (fnL n fun e => mis B (placed.take (d + 1)) e + frm (B.drop (j + 1)) g e)) := upd_same
                  rw [← e2] at hm8
                  have hp8 : (upd H7 lm (.lst ((fnL n fun e => mis B (placed.take (d + 1)) e + frm (B.drop j) g e).set b.2 (V.int (((mis B (placed.take (d + 1)) b.2 + frm (B.drop j) g b.2 : Nat) : Int) - 1))))) lp = some (.lst (placed.map fun i => V.int (i : Nat))) := by
                    rw [upd_ne npm]
                    exact hp7
                  have sm8 := same_mut (p := lm) (o := .lst ((fnL n fun e => mis B (placed.take (d + 1)) e + frm (B.drop j) g e).set b.2 (V.int (((mis B (placed.take (d + 1)) b.2 + frm (B.drop j) g b.2 : Nat) : Int) - 1)))) sm7 hm1
                  have hg8 : ((fnL n fun e => mis B (placed.take (d + 1)) e + frm (B.drop j) g e).set b.2 (V.int (((mis B (placed.take (d + 1)) b.2 + frm (B.drop j) g b.2 : Nat) : Int) - 1)))[b.2]? = some (V.int ((mis B (placed.take (d + 1)) b.2 + frm (B.drop (j + 1)) g b.2 : Nat) : Int)) := by
                    rw [e2]
                    exact fnL_get hlt.2
                  have hm9 := hm8
                  rw [e2] at hm9
                  refine ⟨_, rfl, _, rfl, lm, _, _, _, rfl, rfl, SqL.of upd_same, atI_nat hg8, rfl, _, rfl, ite2 (fun e3 => ?_) (fun e3 => ?_)⟩
                  · have hz : mis B (placed.take (d + 1)) b.2 + frm (B.drop (j + 1)) g b.2 = 0 := by
                      have := V.int.inj (of_decide_eq_true e3)
                      omega
                    have hlp1 := hpl placed kj.nd kj.lt
                    have hdl : d < placed.length := (List.getElem?_eq_some_iff.mp kj.at_).1
                    refine ⟨_, rfl, .inl ⟨rfl, _, SqL.of hp8⟩, _, rfl, lp, _, _, rfl, rfl, hp8, by rw [List.length_map]; exact small1000 (by omega), ?_⟩
                    refine ⟨placed ++ [b.2], _, _, rfl, kj.put hbb hbg hlt.2 hz, ?_, ?_, same_mut sm8 hp1⟩
                    · rw [upd_same, List.map_append]
                      rfl
                    · rw [upd_ne npm.symm, List.take_append_of_le_length (by omega), ← e2]
                      exact upd_same
                  · have hz : mis B (placed.take (d + 1)) b.2 + frm (B.drop (j + 1)) g b.2 ≠ 0 := fun z => by
                      apply e3
                      rw [z]
                      rfl
                    refine ⟨placed, _, _, rfl, kj.not hbb hbg hz, hp8, ?_, sm8⟩
                    rw [← e2]
                    exact upd_same
                · have hbg : b.1 ≠ g := fun z => by
                    apply e
                    rw [z]
                    exact decide_eq_true rfl
                  refine ⟨placed, _, _, rfl, kj.skip hbb hbg, hp7, ?_, sm7⟩
                  have : (fun e => mis B (placed.take (d + 1)) e + frm (B.drop (j + 1)) g e) = fun e => mis B (placed.take (d + 1)) e + frm (B.drop j) g e := funext fun e => by
                    rw [frm_drop hbb, if_neg (fun z => hbg z.1)]
                    rfl
                  rw [this]
                  exact hm7
              · rintro σ H7 ⟨placed, s4, s5, rfl, kj, hp7, hm7, sm7⟩
                rw [ba1.1] at kj hm7
                refine ⟨_, rfl, _, _, rfl, rfl, placed, _, _, rfl, kj.done, hp7, ?_, sm7⟩
                rw [List.drop_length] at hm7
                exact hm7
          · have hd : d = placed.length := by
              have e' : ¬ (d : Int) < ((placed.map fun i => V.int (i : Nat)).length : Int) := fun z => e (decide_eq_true z)
              rw [List.length_map] at e'
              have := ki.le
              omega
            subst hd
            exact ⟨_, rfl, q placed lp H6 ki sm6 hp0 hp6⟩
abbrev DOrder (P : Program) (w : World) (K : PySem.W.Frag) (mg : Str → Option Value) (base : Heap) := Df P w K mg base 2 "bare_order" ["many_gates", "wires"] (spOrder K)
theorem ok_order {f fA : Addr} {fd fdA : FuncData} (F : Fun K "bare_order" "bare_order" sOrder f fd) (hm : mg "bare_order" = some (.ref f)) (B : Bt mg) (DA : DAlong P w K mg base fA fdA) : DOrder P w K mg base f fd := by
  refine ⟨?_, hm, F.kp, F.binds fun _ _ _ _ _ _ us hl => match us, hl with | [_, _], _ => rfl⟩
  refine F.ok scOrder (fun vs H Q E h => ?_) (fun cdv A outer s H vs Q E hr h => ?_)
  · obtain ⟨n, lw, ws, rfl, _⟩ := h
    rfl
  · obtain ⟨n, lw, ws, rfl, ⟨wv, sw, wa⟩, hws, hn, hwl, q⟩ := h
    have nd := scOrder.nd
    refine ⟨_, pss_one <| ps_ret <| pe_call DA.ok hr (by rfl) DA.mg DA.kp DA.bd .nil pass0 <| pa_cons (pv 0) <| (pa_cons · pa_nil) <|
      pe_lc (own := [("start", 2), ("end", 3), ("held", 4)]) (g := gTup K 3 (gCons (gName 2) (gCons (gName 3) (gCons (gName 4) gNil)))) (tt := tTest (tOp rEq (tCB (Evl.rLenS K) (tCons (tVar 4) tNil)) (tC (.int 0)))) (te := tTup (tCons (tVar 2) (tCons (tVar 3) tNil))) rfl nd
        (pi_list (pv 1)) (blkOk_by (N := nOrder) (sc := defScope sOrder) (own := [("start", 2), ("end", 3), ("held", 4)]) (by decide +kernel))
        (fun _ _ _ _ _ => pg_tup rfl (pgs_cons (pg_name (i := 2) nd rfl (Or.inl rfl)) (pgs_cons (pg_name (i := 3) nd rfl (Or.inl rfl)) (pgs_cons (pg_name (i := 4) nd rfl (Or.inl rfl)) pgs_nil))))
        (fun _ _ _ _ _ => pts_one (pt_cmpR op_eq (pe_callB call_len_seq (by rfl) B.len PySem.boot_len (pa_cons (pv 4) pa_nil)) pe_int (nomark _)))
        (fun _ _ _ _ _ => pe_tup (pa_cons (pv 2) (pa_cons (pv 3) pa_nil))), ?_⟩
    have hlw : wv.length = ws.length := wa.1
    -- bare = [..]
    refine ⟨_, rfl, _, rfl, lw, rfl, ⟨_, sw⟩, fun lb hlb => ?_⟩
    refine lc_list (K := K) (a := lw) (xs := wv) (fun i Hc => ∃ bv, Hc lb = some (.lst bv) ∧ All2 (PairV K Hc) bv (bare (ws.take i)) ∧ Same H Hc) ⟨[], upd_same, by simpa [bare] using All2.nil, same_new hlb⟩ (fun i Hc _ ⟨_, _, _, sm⟩ => sm.seq sw) ?_ ?_
    · rintro i x Hc hx ⟨bv, hb, ba, sm⟩
      obtain ⟨y, hy, a, b, rfl, sq1, sq2⟩ := wa.get hx
      have hyi : i < ws.length := (List.getElem?_eq_some_iff.mp hy).1
      have t := TK.same sm
      have hbl : bv.length ≤ 1000 := by
        rw [ba.1]
        have := bare_len (ws.take i)
        rw [List.length_take] at this
        omega
      refine ⟨a, _, rfl, t.seq sq1, rfl, _, _, rfl, _, _, rfl, _, _, rfl, rfl, rfl, ?_⟩
      refine ⟨_, rfl, b, _, rfl, .inr (t.seq sq2), rfl, _, rfl, ite2 (fun e => ?_) (fun e => ?_)⟩
      · have he : y.2.2.isEmpty = true := by
          have e' : (((y.2.2.map V.int).length : Nat) : Int) = 0 := V.int.inj (of_decide_eq_true e)
          rw [List.length_map] at e'
          rw [List.isEmpty_iff, ← List.length_eq_zero_iff]
          omega
        refine ⟨_, rfl, _, rfl, (by show 2 ≤ sizeLine; decide), fun p hp => ?_⟩
        have smp : Same Hc (upd Hc p (.tup [.int (y.1 : Nat), .int (y.2.1 : Nat)])) := same_new hp
        have npb : p ≠ lb := fun z => by
          rw [z, hb] at hp
          cases hp
        have t2 : TK Hc (upd (upd Hc p (.tup [.int (y.1 : Nat), .int (y.2.1 : Nat)])) lb (.lst (bv ++ [.ref p]))) := (TK.new hp).trans (TK.lst (smp _ _ hb))
        refine ⟨bv, smp _ _ hb, Nat.lt_of_le_of_lt hbl (small1000 (Nat.le_refl _)), bv ++ [.ref p], upd_same, ?_, same_mut (sm.trans smp) hlb⟩
        rw [bare_take hy, if_pos he]
        exact (ba.imp fun _ _ r => r.tk t2).snoc ⟨p, rfl, .inl (.inl (by rw [upd_ne npb]; exact upd_same))⟩
      · have he : ¬ y.2.2.isEmpty = true := fun z => by
          apply e
          rw [List.isEmpty_iff] at z
          rw [z]
          rfl
        exact ⟨bv, hb, by rw [bare_take hy, if_neg he]; exact ba, sm⟩
    · rintro H1 ⟨bv, hb1, ba1, sm1⟩
      rw [hlw, List.take_length] at ba1
      have hbl : bv.length ≤ 1000 := by
        rw [ba1.1]
        have := bare_len ws
        omega
      have hBlt : ∀ b ∈ bare ws, b.1 < n ∧ b.2 < n := by
        intro b hb
        obtain ⟨x, hx, rfl⟩ := List.mem_map.mp hb
        rw [List.mem_filter] at hx
        exact hws x hx.1
      exact ⟨n, lb, bv, bare ws, rfl, SqL.of hb1, ba1, hBlt, hn, by have := bare_len ws; omega, fun ord p H2 ki s2 hp h2 => q ord p H2 ki (sm1.trans s2) (sm1.free hp) h2⟩
end
end Lag

set_option maxRecDepth 100000
set_option maxHeartbeats 4000000
namespace Lag
open PySem PySem.Spec PyProof.Rows L2
abbrev sChkRings : Stmt := topS 31
abbrev sInit : Stmt := inClass (topS 24) 0
abbrev sEq : Stmt := inClass (topS 24) 1
def spChkRings (K : PySem.W.Frag) : Sp := fun vs H Q _ => ∃ (n : Nat) (lw : Addr) (ws : List Wr), vs = [.int (n : Nat), .ref lw] ∧ RW K H lw ws ∧ (∀ x ∈ ws, x.1 < n ∧ x.2.1 < n) ∧ n ≤ 1000 ∧ ws.length ≤ 1000 ∧
  (∃ ρ : Nat → Nat, ∀ x ∈ ws, x.2.2 = [] → ρ x.1 < ρ x.2.1) ∧ ∀ H', Same H H' → Q .non H'
/-! ### a net's object -/
def nf (lg lw : Addr) : List (Str × V) := putF "wires" (.ref lw) (putF "gates" (.ref lg) [])
theorem gw_ne : ¬ (("gates" : Str) = "wires") := by decide +kernel
theorem nf_eq (lg lw : Addr) : nf lg lw = ([("gates", V.ref lg), ("wires", V.ref lw)] : List (Str × V)) := by
  show (if ("gates" : Str) = "wires" then [(("gates" : Str), V.ref lw)] else (("gates" : Str), V.ref lg) :: putF "wires" (V.ref lw) []) = ([("gates", V.ref lg), ("wires", V.ref lw)] : List (Str × V))
  rw [if_neg gw_ne]
  all_goals rfl
theorem nf_gates (lg lw : Addr) : (nf lg lw).lookup ("gates" : Str) = some (.ref lg) := by
  unfold nf
  rw [lookup_putF, if_neg gw_ne, lookup_putF, if_pos rfl]
theorem nf_wires (lg lw : Addr) : (nf lg lw).lookup ("wires" : Str) = some (.ref lw) := by
  unfold nf
  rw [lookup_putF, if_pos rfl]
theorem nf_no (lg lw : Addr) {m : Str} (h1 : ¬ m = "wires") (h2 : ¬ m = "gates") : (nf lg lw).lookup m = none := by
  unfold nf
  rw [lookup_putF, if_neg h1, lookup_putF, if_neg h2]
  all_goals rfl
/-- the class as the top has made it -/
structure NT (K : PySem.W.Frag) (mg : Str → Option Value) (C : Addr) : Prop where
  cl : Cls K C
  nG : NoAttr K C "gates"
  nW : NoAttr K C "wires"
  mg : mg "Net" = some (.ref C)
/-- a net at p: its own lists at lg, lw -/
structure NetAt (K : PySem.W.Frag) (C : Addr) (H : Hp) (p lg lw : Addr) (gs : List Gt) (ws : List Wr) : Prop where
  ob : ∃ dx, H p = some (.ins C dx (nf lg lw))
  g : LG K H lg gs
  w : LW K H lw ws
  ne : lg ≠ lw
theorem LG.same {K : PySem.W.Frag} {H H' : Hp} {l : Addr} {gs : List Gt} (h : LG K H l gs) (s : Same H H') : LG K H' l gs := by
  obtain ⟨vs, q, a⟩ := h
  exact ⟨vs, s _ _ q, a.imp fun _ _ r => r.tk (TK.same s)⟩
theorem LW.same {K : PySem.W.Frag} {H H' : Hp} {l : Addr} {ws : List Wr} (h : LW K H l ws) (s : Same H H') : LW K H' l ws := by
  obtain ⟨vs, q, a⟩ := h
  exact ⟨vs, s _ _ q, a.imp fun _ _ r => r.tk (TK.same s)⟩
theorem LG.rg {K : PySem.W.Frag} {H : Hp} {l : Addr} {gs : List Gt} (h : LG K H l gs) : RG K H l gs := by
  obtain ⟨vs, q, a⟩ := h
  exact ⟨vs, SqL.of q, a⟩
theorem LW.rw {K : PySem.W.Frag} {H : Hp} {l : Addr} {ws : List Wr} (h : LW K H l ws) : RW K H l ws := by
  obtain ⟨vs, q, a⟩ := h
  exact ⟨vs, SqL.of q, a⟩
theorem NetAt.same {K : PySem.W.Frag} {C : Addr} {H H' : Hp} {p lg lw : Addr} {gs : List Gt} {ws : List Wr} (n : NetAt K C H p lg lw gs ws) (s : Same H H') : NetAt K C H' p lg lw gs ws := by
  obtain ⟨dx, h⟩ := n.ob
  exact ⟨⟨dx, s _ _ h⟩, n.g.same s, n.w.same s, n.ne⟩
def spInit (K : PySem.W.Frag) (C : Addr) : Sp := fun vs H Q _ => ∃ (p dx lg lw : Addr) (gs : List Gt) (ws : List Wr), vs = [.ref p, .ref lg, .ref lw] ∧ H p = some (.ins C dx []) ∧ RG K H lg gs ∧ RW K H lw ws ∧ NetOk gs ws ∧
  ∀ (H' : Hp) (lg' lw' : Addr), NetAt K C H' p lg' lw' gs ws → H lg' = none → H lw' = none → (∀ b o, H b = some o → b ≠ p → H' b = some o) → Q .non H'
section
variable {P : Program} {w : World} {K : PySem.W.Frag} {mg : Str → Option Value} {base : Heap}
theorem scChkRings : FnScope ["many_gates", "wires", "placed"] ["many_gates", "wires"] (defScope sChkRings) := ⟨rfl, rfl, rfl, by decide +kernel, rfl, by decide +kernel, by decide +kernel⟩
abbrev DChkRings (P : Program) (w : World) (K : PySem.W.Frag) (mg : Str → Option Value) (base : Heap) := Df P w K mg base 3 "check_rings" ["many_gates", "wires"] (spChkRings K)
theorem ok_chkRings {f fO : Addr} {fd fdO : FuncData} (F : Fun K "check_rings" "check_rings" sChkRings f fd) (hm : mg "check_rings" = some (.ref f)) (B : Bt mg) (DO : DOrder P w K mg base fO fdO) : DChkRings P w K mg base f fd := by
  refine ⟨?_, hm, F.kp, F.binds fun _ _ _ _ _ _ us hl => match us, hl with | [_, _], _ => rfl⟩
  refine F.ok scChkRings (fun vs H Q E h => ?_) (fun cdv A outer s H vs Q E hr h => ?_)
  · obtain ⟨n, lw, ws, rfl, _⟩ := h
    rfl
  · obtain ⟨n, lw, ws, rfl, R, hws, hn, hwl, rk, q⟩ := h
    have nd := scChkRings.nd
    refine ⟨_, pss_cons (ps_set (i := 2) nd rfl (Or.inl rfl) (pe_call DO.ok hr (by rfl) DO.mg DO.kp DO.bd .nil pass0 (pa_cons (pv 0) (pa_cons (pv 1) pa_nil)))) <|
      pss_one <| ps_if (pt_cmpR op_lt (pe_callB call_len_seq (by rfl) B.len PySem.boot_len (pa_cons (pv 2) pa_nil)) (pv 0) (nomark _)) (pss_one ps_never) pss_nil, ?_⟩
    refine ⟨_, rfl, _, rfl, n, lw, ws, rfl, R, hws, hn, hwl, fun ord p H1 ho sm hp h1 => ?_⟩
    have hpl : ord.length = n := by rw [(ho.full hws rk).length_eq, List.length_range]
    refine ⟨_, rfl, p, _, rfl, .inl (SqL.of h1), _, rfl, _, _, rfl, rfl, false, ?_, iteF (q H1 sm)⟩
    show V.bl (decide (((ord.map fun i => V.int (i : Nat)).length : Int) < (n : Int))) = V.bl false
    rw [decide_eq_false]
    rw [List.length_map, hpl]
    omega
theorem scInit : FnScope ["self", "gates", "wires"] ["self", "gates", "wires"] (defScope sInit) := ⟨rfl, rfl, rfl, by decide +kernel, rfl, by decide +kernel, by decide +kernel⟩
theorem ok_init {f fG fW fR C : Addr} {fd fdG fdW fdR : FuncData} (F : Fun K "__init__" "Net.__init__" sInit f fd) (T : NT K mg C) (B : Bt mg) (DG : DChkGates P w K mg base fG fdG) (DW : DChkWires P w K mg base fW fdW) (DR : DChkRings P w K mg base fR fdR) :
    FnOk P w K mg base CX0 6 f fd ["self", "gates", "wires"] (spInit K C) := by
  refine F.ok scInit (fun vs H Q E h => ?_) (fun cdv A outer s H vs Q E hr h => ?_)
  · obtain ⟨p, dx, lg, lw, gs, ws, rfl, _⟩ := h
    rfl
  · obtain ⟨p, dx, lg, lw, gs, ws, rfl, hp, RGs, RWs, N, q⟩ := h
    have hr4 : Room 4 _ := hr.mono (by decide)
    have hr2 : Room 3 _ := hr.mono (by decide)
    refine ⟨_, pss_cons (ps_expr (pe_call DG.ok hr4 (by rfl) DG.mg DG.kp DG.bd .nil pass0 (pa_cons (pv 1) pa_nil))) <|
      pss_cons (ps_expr (pe_call DW.ok hr (by rfl) DW.mg DW.kp DW.bd .nil pass0 (pa_cons (pv 1) (pa_cons (pv 2) pa_nil)))) <|
      pss_cons (ps_expr (pe_call DR.ok hr2 (by rfl) DR.mg DR.kp DR.bd .nil pass0 (pa_cons (pe_callB call_len_seq (by rfl) B.len PySem.boot_len (pa_cons (pv 1) pa_nil)) (pa_cons (pv 2) pa_nil)))) <|
      pss_cons (ps_fld (pv 0) (pe_callTy call_list_of (by rfl) B.list (by decide +kernel) (pa_cons (pv 1) pa_nil)) rfl) <|
      pss_one (ps_fld (pv 0) (pe_callTy call_list_of (by rfl) B.list (by decide +kernel) (pa_cons (pv 2) pa_nil)) rfl), ?_⟩
    refine ⟨_, rfl, lg, gs, rfl, RGs, N.ne, N.gok, fun H1 sm1 => ?_⟩
    refine ⟨_, rfl, _, rfl, lg, lw, gs, ws, rfl, RGs.same sm1, RWs.same sm1, N, fun H2 sm2 => ?_⟩
    have s2 := sm1.trans sm2
    obtain ⟨gv, sg, ga⟩ := RGs.same s2
    have hlg : gv.length = gs.length := ga.1
    refine ⟨_, rfl, lg, gv, rfl, .inl sg, _, rfl, gv.length, lw, ws, rfl, RWs.same s2, fun x hx => ?_, by have := N.gl; omega, N.wl, N.rank, fun H3 sm3 => ?_⟩
    · rw [hlg]
      exact ⟨(N.wok x hx).s, (N.wok x hx).e⟩
    have s3 := s2.trans sm3
    obtain ⟨gv3, sg3, ga3⟩ := RGs.same s3
    obtain ⟨wv3, sw3, wa3⟩ := RWs.same s3
    have hp3 := s3 _ _ hp
    refine ⟨_, rfl, lg, gv3, rfl, .inl sg3, fun l1 hl1 => ?_⟩
    have np1 : p ≠ l1 := ne_of_none hp3 hl1
    have sm4 : Same H3 (upd H3 l1 (.lst gv3)) := same_new hl1
    refine ⟨_, rfl, p, C, dx, [], rfl, sm4 _ _ hp3, T.cl, T.nG, (by show 0 < 1000; decide), ?_⟩
    have hw4 : SqL K (upd (upd H3 l1 (.lst gv3)) p (.ins C dx (putF "gates" (.ref l1) []))) lw wv3 := by
      rcases sm4.seq sw3 with (h | ⟨o, h⟩) | h
      · have n : lw ≠ p := fun z => by
          rw [z, sm4 _ _ hp3] at h
          cases h
        exact .inl (.inl (by rw [upd_ne n]; exact h))
      · have n : lw ≠ p := fun z => by
          rw [z, sm4 _ _ hp3] at h
          cases h
        exact .inl (.inr ⟨o, by rw [upd_ne n]; exact h⟩)
      · exact .inr h
    refine ⟨_, rfl, lw, wv3, rfl, .inl hw4, fun l2 hl2 => ?_⟩
    have np2 : p ≠ l2 := fun z => by
      rw [← z, upd_same] at hl2
      cases hl2
    have h11 : (upd (upd H3 l1 (.lst gv3)) p (.ins C dx (putF "gates" (.ref l1) []))) l1 = some (.lst gv3) := by
      rw [upd_ne np1.symm]
      exact upd_same
    have n12 : l1 ≠ l2 := ne_of_none h11 hl2
    have hl2' : H3 l2 = none := by
      rw [upd_ne np2.symm, upd_ne n12.symm] at hl2
      exact hl2
    refine ⟨_, rfl, p, C, dx, _, rfl, (by rw [upd_ne np2]; exact upd_same), T.cl, T.nW, (by show 1 < 1000; decide), ?_⟩
    have keep : ∀ b o, b ≠ p → H3 b = some o → (upd (upd (upd (upd H3 l1 (.lst gv3)) p (.ins C dx (putF "gates" (.ref l1) []))) l2 (.lst wv3)) p (.ins C dx (putF "wires" (.ref l2) (putF "gates" (.ref l1) [])))) b = some o := fun b o nb e => by
      rw [upd_ne nb, upd_ne (ne_of_none e hl2'), upd_ne nb, upd_ne (ne_of_none e hl1)]
      exact e
    have tk : TK H3 (upd (upd (upd (upd H3 l1 (.lst gv3)) p (.ins C dx (putF "gates" (.ref l1) []))) l2 (.lst wv3)) p (.ins C dx (putF "wires" (.ref l2) (putF "gates" (.ref l1) [])))) := fun b o t e => keep b o (fun z => by
      rw [z, hp3] at e
      cases e
      exact t) e
    refine q _ l1 l2 ⟨⟨dx, upd_same⟩, ⟨gv3, ?_, ga3.imp fun _ _ r => r.tk tk⟩, ⟨wv3, ?_, wa3.imp fun _ _ r => r.tk tk⟩, n12⟩ (s3.free hl1) (s3.free hl2') fun b o e nb => keep b o nb (s3 _ _ e)
    · rw [upd_ne np1.symm, upd_ne n12, upd_ne np1.symm]
      exact upd_same
    · rw [upd_ne np2.symm]
      exact upd_same
end
end Lag

set_option maxRecDepth 100000
set_option maxHeartbeats 4000000
namespace Lag
open PySem PySem.Spec PyProof.Rows L2
/-! ### == and != by an own __eq__, whatever the other thing is -/
section
variable {X : Cx} {pins : List (Addr × Obj)} {σ : L2.St} {H : Hp} {s : Shared}
/-- what typeOf says -/
def TyL (X : Cx) (s : Shared) (v tb : Value) : Prop := PySem.W.Looks (model X.prog X.w) s.heap (typeOf v) tb
theorem ty_looks {y : V} {v tb : Value} (I : Inv X pins σ H s) (r : RelV y v) (t : TyOf X.K H y tb) : TyL X s v tb := by
  cases t with
  | non => cases r; exact .of_pure rfl
  | bl b => cases r; exact .of_pure rfl
  | int i => obtain ⟨t, rfl⟩ := r; exact .of_pure rfl
  | str x => obtain ⟨t, rfl⟩ := r; exact .of_pure rfl
  | flt x => obtain ⟨t, rfl⟩ := r; exact .of_pure rfl
  | @lst a xs ea =>
    cases r
    obtain ⟨_, _, n, _, h1⟩ := (show ObjOk X.prog X.w H s.heap a (.lst xs) from I.hok a _ ea)
    exact (PySem.W.Looks.ld h1).andThen .now
  | @frz a ob xs ea =>
    cases r
    obtain ⟨_, _, _, n, _, h1⟩ := (show ObjOk X.prog X.w H s.heap a (.frz ob (.lst xs)) from I.hok a _ ea)
    exact (PySem.W.Looks.ld h1).andThen .now
  | @tup a xs ea =>
    cases r
    obtain ⟨_, _, _, o, h1, h2, _⟩ := (show ObjOk X.prog X.w H s.heap a (.tup xs) from I.hok a _ ea)
    exact h2 ▸ (PySem.W.Looks.ld h1).andThen .now
  | @dK a kvs ea =>
    cases r
    obtain ⟨_, _, vs, _, o, es, ep, h1, h2, _⟩ := (show ObjOk X.prog X.w H s.heap a (.dK kvs) from I.hok a _ ea)
    exact h2.1 ▸ (PySem.W.Looks.ld h1).andThen .now
  | @dT a kvs ea =>
    cases r
    obtain ⟨_, _, xs, _, o, es, ep, h1, h2, _⟩ := (show ObjOk X.prog X.w H s.heap a (.dT kvs) from I.hok a _ ea)
    exact h2.1 ▸ (PySem.W.Looks.ld h1).andThen .now
  | @ins a C dx fs ea cl ha hn htk hm =>
    cases r
    obtain ⟨mA, O, _⟩ := ins_get I.hok ea
    obtain ⟨od, J, _⟩ := O.look
    exact J.type
/-- a call of a def from within -/
theorem call_own {n : Nat} {f : Addr} {fd : FuncData} {ps : List Str} {sp : Sp} {xs : List V} {us : List Value} {Q : VK} {A : Around} (F : FnOk X.prog X.w X.K X.mg X.base CX0 n f fd ps sp) (hb : Binds X.K fd ps []) (sb : Sub X n A) (I : Inv X pins σ H s) (rx : Vals xs us)
    (h : sp xs H Q E0) : wpAny (model X.prog X.w) A (call (.ref f) us) (EP X pins σ Q) X.xe s := by
  have e0 : Env0 X.prog X.w X.K X.mg X.base A X.stack s H := by
    have e := I.env0
    exact ⟨by rw [sb.fr]; exact e.frames, e.mod, e.bs, e.bsz, e.funs, e.frf, e.hok, e.bare⟩
  have hl := F.len _ _ _ _ h
  have hl' : us.length = ps.length := by rw [← rx.length, hl]
  refine wpAny_call (codeAny_mono (F.run A X.stack s H ⟨us, []⟩ us xs _ E0 sb.room e0 (by
    have := hb s us I.kIn (by simpa using hl')
    simpa using this) rx h) fun r s' hq => ?_)
  cases r with
  | error e => exact False.elim hq
  | ok fl =>
    cases fl with
    | ret w => exact I.after hq
    | next => exact False.elim hq
    | brk => exact False.elim hq
    | cont => exact False.elim hq
/-- a special method that is a built-in -/
theorem ifBound_B {M : Model} {K : PySem.W.Frag} {A : Around} {E : Value → Shared → Prop} {s : Shared} {x C : Addr} {ox : Obj} {od : Option Obj} {name : Str} {id : String} {args : List Value} {Q : Option Value → Shared → Prop} (X : K.In s.heap) (I : PySem.W.InstAt s.heap x ox C od)
    (hs : PySem.W.findIn K (.ref C) name = some (some (.builtin id))) (hb : ∀ self, bindSpecial (.builtin id) self = pure (.builtin id, [self]))
    (h : wpAny M A (call (.builtin id) (.ref x :: args)) (fun v => Q (some v)) E s) : wpAny M A (callSpecialIfBound? (.ref x) name args) Q E s := by
  simp only [callSpecialIfBound?, bindSpecialIfBound?]
  refine wpAny_holding (wpAny_bind (wpAny_bind (wpAny_bind (I.type.here ((PySem.W.looks_findIn X hs).here ?_)))))
  refine wpAny_bind (wpAny_askSetting (wpAny_ite ?_))
  have fin : wpAny M A (call (.builtin id) ([.ref x] ++ args) >>= fun v => pure (some v)) Q E s := wpAny_bind (wpAny_mono h (fun v s' h' => wpAny_pure h') fun _ _ h' => h')
  split
  · exact wpAny_bind (wpAny_of_eq (hb _) (wpAny_pure (by exact fin)))
  · exact wpAny_tryCatch (wpAny_bind (wpAny_of_eq (hb _) (wpAny_pure (by exact fin))))
theorem bind_ne (self : Value) : bindSpecial (.builtin "object.__ne__") self = pure (.builtin "object.__ne__", [self]) := PySem.F.slot_tuple_iterator_ne.bind self
theorem ne_body {K : PySem.W.Frag} {prog : Program} {w : World} {A : Around} {E : Value → Shared → Prop} {s : Shared} {x C f : Addr} {ox : Obj} {od : Option Obj} {b : Value} {Q : Fin → Shared → Prop} (X : K.In s.heap) (I : PySem.W.InstAt s.heap x ox C od)
    (hs : PySem.W.findIn K (.ref C) "__eq__" = some (some (.ref f))) (hf : PySem.W.isFn K (.ref f) = true) (hu : A.units < cLine)
    (hcall : wpAny (model prog w) A (call (.ref f) [.ref x, b]) (fun v s' => ∃ c, v = .bool c ∧ Q (.done (.ret (.bool (!c)))) s') E s) :
    wpAny (model prog w) A (Builtin.«object.__ne__» ⟨[.ref x, b], []⟩) Q E s := by
  obtain ⟨h, g, d, t, os⟩ := s
  unfold Builtin.«object.__ne__»
  repeat (first
    | with_reducible refine wpAny_cRoomFor hu ?_
    | (refine wpAny_bind (m := callSpecialIfBound? (.ref x) (Str.ofString "__eq__") [b])
        (PySem.W.ifBound_K X I hs hf (wpAny_mono hcall (fun r s' hr => by
          obtain ⟨c, rfl, hq⟩ := hr
          repeat (first | exact hq | exact wpAny_pure hq | exact wpAny_truthy_bool hq | (refine wpAny_bind (m := truthy (.bool _)) (wpAny_truthy_bool ?_)) | wp_step)) fun _ _ e => e)))
    | wp_step)
theorem op_eqO {n : Nat} {C f : Addr} {fd : FuncData} {ps : List Str} {sp : Sp} (F : FnOk X.prog X.w X.K X.mg X.base CX0 n f fd ps sp) (hs : PySem.W.findIn X.K (.ref C) "__eq__" = some (some (.ref f))) (hf : PySem.W.isFn X.K (.ref f) = true) (hb : Binds X.K fd ps []) (hr : Room n X.A) :
    OpR X (compareOp .Eq) (fun x y H Q => ∃ a dx fs tb, x = .ref a ∧ H a = some (.ins C dx fs) ∧ TyOf X.K H y tb ∧ PySem.W.notFirst X.K C tb = true ∧ sp [x, y] H (fun v H' => ∃ c, v = .bl c ∧ Q v H') E0) := by
  intro pins s σ H x y u v Q I rx ry h
  obtain ⟨a, dx, fs, tb, rfl, ha, ty, nf, q⟩ := h
  cases rx
  obtain ⟨mA, J, _⟩ := ins_get I.hok ha
  obtain ⟨od, J, _⟩ := J.look
  obtain ⟨m, hF⟩ := I.fr
  show wpAny (model X.prog X.w) X.A (richCompare .Eq (.ref a) v) (EP X pins σ Q) X.xe s
  refine PySem.W.cmp_K (op := .Eq) (tb := tb) hr.units0 hF I.ok.mod.kin J (ty_looks I ry ty) nf hs hf ?_
  refine wpAny_mono (call_own F hb ⟨hr, rfl⟩ I (.cons (show RelV (V.ref a) (Value.ref a) from rfl) (.cons ry .nil)) q) (fun r s' z => ?_) fun _ _ x => x
  obtain ⟨z, H', I', rz, c, ez, q'⟩ := z
  subst ez
  cases rz
  exact ⟨.bl c, H', I', rfl, q'⟩
theorem op_neO {n : Nat} {C f : Addr} {fd : FuncData} {ps : List Str} {sp : Sp} (F : FnOk X.prog X.w X.K X.mg X.base CX0 n f fd ps sp) (hs : PySem.W.findIn X.K (.ref C) "__eq__" = some (some (.ref f))) (hn : PySem.W.findIn X.K (.ref C) "__ne__" = some (some (.builtin "object.__ne__")))
    (ho : PySem.W.mroIn X.K C (.type "object") = some true) (hf : PySem.W.isFn X.K (.ref f) = true) (hb : Binds X.K fd ps []) (hr : Room (n + 1) X.A) :
    OpR X (compareOp .NotEq) (fun x y H Q => ∃ a dx fs tb, x = .ref a ∧ H a = some (.ins C dx fs) ∧ TyOf X.K H y tb ∧ PySem.W.notFirst X.K C tb = true ∧ sp [x, y] H (fun v H' => ∃ c, v = .bl c ∧ Q (.bl (!c)) H') E0) := by
  intro pins s σ H x y u v Q I rx ry h
  obtain ⟨a, dx, fs, tb, rfl, ha, ty, nf, q⟩ := h
  cases rx
  obtain ⟨mA, J, _⟩ := ins_get I.hok ha
  obtain ⟨od, J, _⟩ := J.look
  have hb' := ty_looks I ry ty
  have sb : Sub X (n + 1) X.A := ⟨hr, rfl⟩
  show wpAny (model X.prog X.w) X.A (richCompare .NotEq (.ref a) v) (EP X pins σ Q) X.xe s
  have one : wpAny (model X.prog X.w) X.A (tryCompare (.ref a) "__ne__" v) (fun r s' => ∃ w, r = some w ∧ EP X pins σ Q w s') X.xe s := by
    unfold tryCompare
    refine wpAny_bind (ifBound_B I.kIn J hn bind_ne (wpAny_call (codeAny_call_builtin PySem.F.slot_tuple_iterator_ne.plain PySem.F.cmpEntry_ne
      (PySem.W.check_slot PySem.F.cmpKind_ne PySem.F.cmpSplit_ne (J.type.andThen (PySem.W.looks_mroIn I.kIn ho)) (PySem.F.cmpArgs_ne _ _)
        (ne_body I.kIn J hs hf sb.in1.room.units0 (wpAny_mono (call_own F hb sb.in1 I (.cons (show RelV (V.ref a) (Value.ref a) from rfl) (.cons ry .nil)) q) (fun r s' z => ?_) fun _ _ x => x))))))
    obtain ⟨z, H', I', rz, c, ez, q'⟩ := z
    subst ez
    cases rz
    have fin : EP X pins σ Q (.bool (!c)) s' := ⟨.bl (!c), H', I', rfl, q'⟩
    first | exact ⟨c, rfl, wpAny_pure ⟨_, rfl, fin⟩⟩ | exact ⟨c, rfl, wpAny_pure (wpAny_pure ⟨_, rfl, fin⟩)⟩ | exact ⟨c, rfl, ⟨_, rfl, fin⟩⟩
  unfold richCompare
  simp only [oneThing_ref]
  refine wpAny_holding (wpAny_bind (wpAny_cRoomFor hr.units0 ?_))
  refine wpAny_bind (J.type.here (wpAny_bind (hb'.here ?_)))
  split
  · rename_i q'
    have e : PySem.W.subIn X.K tb (.ref C) = some false := by
      rcases Bool.or_eq_true_iff.mp nf with e | e
      · rw [beq_iff_eq.mp e] at q'; simp at q'
      · exact beq_iff_eq.mp e
    refine wpAny_bind ((PySem.W.looks_subIn I.kIn e).here ?_)
    simp only [Bool.false_eq_true, if_false]
    refine wpAny_bind (wpAny_mono one (fun r s' z => ?_) fun _ _ e => e)
    obtain ⟨v, rfl, hq⟩ := z
    exact wpAny_pure hq
  · refine wpAny_bind (wpAny_pure ?_)
    simp only [Bool.false_eq_true, if_false]
    refine wpAny_bind (wpAny_mono one (fun r s' z => ?_) fun _ _ e => e)
    obtain ⟨v, rfl, hq⟩ := z
    exact wpAny_pure hq
end
end Lag

set_option maxRecDepth 100000
set_option maxHeartbeats 4000000
namespace Lag
open PySem PySem.Spec PyProof.Rows L2
/-! ### nets as data that is compared -/
def gateD (g : Gt) : PyData := .tuple [.str g.1, .int g.2]
def gatesD (gs : List Gt) : PyData := .list (gs.map gateD)
def wireD (x : Wr) : PyData := .tuple [.int (x.1 : Nat), .int (x.2.1 : Nat), .tuple (x.2.2.map PyData.int)]
def wiresD (ws : List Wr) : PyData := .list (ws.map wireD)
def intsD (l : List Nat) : PyData := .list (l.map fun i => .int (i : Nat))
theorem eqvAll_map {α : Type} [DecidableEq α] {f : α → PyData} (h : ∀ x y, PyData.eqv (f x) (f y) = decide (x = y)) : ∀ xs ys : List α, PyData.eqvAll (xs.map f) (ys.map f) = decide (xs = ys)
  | [], [] => rfl
  | [], _ :: _ => rfl
  | _ :: _, [] => rfl
  | x :: xs, y :: ys => by
    show (PyData.eqv (f x) (f y) && PyData.eqvAll (xs.map f) (ys.map f)) = _
    rw [h, eqvAll_map h xs ys, Bool.eq_iff_iff]
    simp
theorem gateD_eq (a b : Gt) : PyData.eqv (gateD a) (gateD b) = decide (a = b) := by
  show ((a.1 == b.1) && ((a.2 == b.2) && true)) = _
  rw [Bool.eq_iff_iff]
  simp [Prod.ext_iff]
theorem gatesD_eq (a b : List Gt) : PyData.eqv (gatesD a) (gatesD b) = decide (a = b) := eqvAll_map gateD_eq a b
theorem intD_eq (a b : Int) : PyData.eqv (.int a) (.int b) = decide (a = b) := rfl
theorem wireD_eq (a b : Wr) : PyData.eqv (wireD a) (wireD b) = decide (a = b) := by
  show ((((a.1 : Nat) : Int) == ((b.1 : Nat) : Int)) && ((((a.2.1 : Nat) : Int) == ((b.2.1 : Nat) : Int)) && (PyData.eqvAll (a.2.2.map PyData.int) (b.2.2.map PyData.int) && true))) = _
  rw [eqvAll_map intD_eq, Bool.eq_iff_iff]
  simp only [Bool.and_eq_true, beq_iff_eq, decide_eq_true_eq, and_true]
  constructor
  · rintro ⟨h1, h2, h3⟩
    exact Prod.ext (by omega) (Prod.ext (by show a.2.1 = b.2.1; omega) h3)
  · rintro rfl
    exact ⟨rfl, rfl, rfl⟩
theorem wiresD_eq (a b : List Wr) : PyData.eqv (wiresD a) (wiresD b) = decide (a = b) := eqvAll_map wireD_eq a b
theorem natD_eq (a b : Nat) : PyData.eqv (.int (a : Nat)) (.int (b : Nat)) = decide (a = b) := by
  show (((a : Nat) : Int) == ((b : Nat) : Int)) = _
  rw [Bool.eq_iff_iff]
  simp
  omega
theorem intsD_eq (a b : List Nat) : PyData.eqv (intsD a) (intsD b) = decide (a = b) := eqvAll_map natD_eq a b
theorem lay_all {ds : List PyData} : (∀ d ∈ ds, PyData.canLay0 d = true) → PyData.canLayAll0 ds = true := by
  induction ds with
  | nil => intro _; rfl
  | cons d ds ih =>
    intro h
    show (PyData.canLay0 d && PyData.canLayAll0 ds) = true
    rw [h d (List.mem_cons_self ..), ih fun x hx => h x (List.mem_cons_of_mem _ hx)]
    rfl
theorem depth_all {ds : List PyData} {k : Nat} : (∀ d ∈ ds, PyData.depth d ≤ k) → PyData.depthAll ds ≤ k := by
  induction ds with
  | nil => intro _; exact Nat.zero_le _
  | cons d ds ih =>
    intro h
    show max (PyData.depth d) (PyData.depthAll ds) ≤ k
    have h1 := h d (List.mem_cons_self ..)
    have h2 := ih fun x hx => h x (List.mem_cons_of_mem _ hx)
    omega
/-- such data may be compared, to the depth k -/
def Sh (k : Nat) (d : PyData) : Prop := PyData.canLay0 d = true ∧ PyData.depth d ≤ k
theorem Sh.ok {k : Nat} {d : PyData} (h : Sh k d) (hk : k ≤ 64) : SeqAt.shaped d = true := by
  show (PyData.canLay0 d && decide (PyData.depth d ≤ 64)) = true
  rw [h.1, decide_eq_true (Nat.le_trans h.2 hk)]
  rfl
theorem sh_list {k : Nat} {ds : List PyData} (h : ∀ d ∈ ds, Sh k d) : Sh (k + 1) (.list ds) := ⟨lay_all fun d hd => (h d hd).1, Nat.succ_le_succ (depth_all fun d hd => (h d hd).2)⟩
theorem sh_tuple {k : Nat} {ds : List PyData} (h : ∀ d ∈ ds, Sh k d) : Sh (k + 1) (.tuple ds) := ⟨lay_all fun d hd => (h d hd).1, Nat.succ_le_succ (depth_all fun d hd => (h d hd).2)⟩
theorem sh_int {k : Nat} (i : Int) : Sh k (.int i) := ⟨rfl, Nat.zero_le _⟩
theorem kinds_str : ∀ k ∈ kinds, PyData.canLay0 (.str k) = true := by decide +kernel
theorem sh_kind {k : Nat} {z : Str} (h : z ∈ kinds) : Sh k (.str z) := ⟨kinds_str z h, Nat.zero_le _⟩
theorem sh_gates {gs : List Gt} (h : ∀ g ∈ gs, GOk g) : Sh 2 (gatesD gs) := by
  refine sh_list fun d hd => ?_
  obtain ⟨g, hg, rfl⟩ := List.mem_map.mp hd
  refine sh_tuple fun d hd => ?_
  simp only [List.mem_cons, List.not_mem_nil, or_false] at hd
  rcases hd with rfl | rfl
  · exact sh_kind (h g hg).1
  · exact sh_int _
theorem sh_wires (ws : List Wr) : Sh 3 (wiresD ws) := by
  refine sh_list fun d hd => ?_
  obtain ⟨g, hg, rfl⟩ := List.mem_map.mp hd
  refine sh_tuple fun d hd => ?_
  simp only [List.mem_cons, List.not_mem_nil, or_false] at hd
  rcases hd with rfl | rfl | rfl
  · exact sh_int _
  · exact sh_int _
  · refine sh_tuple fun d hd => ?_
    obtain ⟨i, _, rfl⟩ := List.mem_map.mp hd
    exact sh_int _
theorem sh_ints (l : List Nat) : Sh 1 (intsD l) := by
  refine sh_list fun d hd => ?_
  obtain ⟨i, _, rfl⟩ := List.mem_map.mp hd
  exact sh_int _
section
variable {K : PySem.W.Frag} {H : Hp}
theorem dp_all {α : Type} {R : V → α → Prop} {f : α → PyData} (h : ∀ v x, R v x → Dp K H v (f x)) : ∀ {vs : List V} {xs : List α}, All2 R vs xs → DpAll K H vs (xs.map f)
  | [], [], _ => .nil
  | [], _ :: _, a => by have := a.1; simp at this
  | _ :: _, [], a => by have := a.1; simp at this
  | _ :: _, _ :: _, a => .cons (h _ _ a.head) (dp_all h a.tail)
theorem GateV.dp {v : V} {g : Gt} (h : GateV K H v g) : Dp K H v (gateD g) := by
  obtain ⟨a, rfl, s⟩ := h
  exact .tup s (.cons (.str _) (.cons (.int _) .nil))
theorem ints_dp : ∀ l : List Int, DpAll K H (l.map V.int) (l.map PyData.int)
  | [] => .nil
  | i :: l => .cons (.int i) (ints_dp l)
theorem nats_dp : ∀ l : List Nat, DpAll K H (l.map fun i => V.int (i : Nat)) (l.map fun i => PyData.int (i : Nat))
  | [] => .nil
  | i :: l => .cons (.int _) (nats_dp l)
theorem WireV.dp {v : V} {x : Wr} (h : WireV K H v x) : Dp K H v (wireD x) := by
  obtain ⟨a, b, rfl, s1, s2⟩ := h
  exact .tup s1 (.cons (.int _) (.cons (.int _) (.cons (.tup s2 (ints_dp _)) .nil)))
theorem RG.dp {l : Addr} {gs : List Gt} (h : RG K H l gs) : Dp K H (.ref l) (gatesD gs) := by
  obtain ⟨vs, s, a⟩ := h
  exact .lst s (dp_all (fun _ _ r => GateV.dp r) a)
theorem RW.dp {l : Addr} {ws : List Wr} (h : RW K H l ws) : Dp K H (.ref l) (wiresD ws) := by
  obtain ⟨vs, s, a⟩ := h
  exact .lst s (dp_all (fun _ _ r => WireV.dp r) a)
theorem dp_ints {l : Addr} {xs : List Nat} (h : SqL K H l (xs.map fun i => V.int (i : Nat))) : Dp K H (.ref l) (intsD xs) := .lst h (nats_dp xs)
end
/-! ### Net.__eq__ -/
structure NTy (K : PySem.W.Frag) (C : Addr) : Prop where
  ha : PySem.W.findIn K (.ref C) "__class__" = some (some (.builtin "object.__class__"))
  hn : PySem.W.specialIn K (.builtin "object.__class__") "__get__" = some (some (.builtin "getset_descriptor.__get__"))
  htk : PySem.W.takesIn K (.builtin "object.__class__") = some true
  hm : PySem.W.mroIn K C (.type "object") = some true
theorem ty_net {K : PySem.W.Frag} {mg : Str → Option Value} {C : Addr} {H : Hp} {p dx : Addr} {fs : List (Str × V)} (T : NT K mg C) (Y : NTy K C) (h : H p = some (.ins C dx fs)) : TyOf K H (.ref p) (.ref C) := .ins h T.cl Y.ha Y.hn Y.htk Y.hm
def spEqN (K : PySem.W.Frag) (C : Addr) : Sp := fun vs H Q _ => ∃ (p lg lw : Addr) (gs : List Gt) (ws : List Wr) (y : V), vs = [.ref p, y] ∧ NetAt K C H p lg lw gs ws ∧
  ((∃ (q lg' lw' : Addr) (gs' : List Gt) (ws' : List Wr), y = .ref q ∧ NetAt K C H q lg' lw' gs' ws' ∧ (∀ g ∈ gs, GOk g) ∧ (∀ g ∈ gs', GOk g) ∧ Q (.bl (decide (gs = gs') && decide (ws = ws'))) H) ∨
    (∃ t, TyX K H y t ∧ PySem.W.kitOne K t (.ref C) = some false ∧ Q (.bl false) H))
section
variable {P : Program} {w : World} {K : PySem.W.Frag} {mg : Str → Option Value} {base : Heap}
theorem scEq : FnScope ["self", "other"] ["self", "other"] (defScope sEq) := ⟨rfl, rfl, rfl, by decide +kernel, rfl, by decide +kernel, by decide +kernel⟩
theorem kit_self {K : PySem.W.Frag} (C : Addr) : PySem.W.kitOne K (.ref C) (.ref C) = some true := by
  unfold PySem.W.kitOne
  rw [if_pos (beq_self_eq_true _)]
theorem ok_eqN {f C : Addr} {fd : FuncData} (F : Fun K "__eq__" "Net.__eq__" sEq f fd) (T : NT K mg C) (Y : NTy K C) (B : Bt mg) : FnOk P w K mg base CX0 1 f fd ["self", "other"] (spEqN K C) := by
  refine F.ok scEq (fun vs H Q E h => ?_) (fun cdv A outer s H vs Q E hr h => ?_)
  · obtain ⟨p, lg, lw, gs, ws, y, rfl, _⟩ := h
    rfl
  · obtain ⟨p, lg, lw, gs, ws, y, rfl, N, h⟩ := h
    refine ⟨_, pss_one <| ps_ret <| pe_and (pe_callB call_isi (by rfl) B.isi (by decide +kernel) (pa_cons (pv 1) (pa_cons (pe_glob (v := .ref C) (by rfl) T.mg rfl) pa_nil))) <|
      pe_and (pe_cmpR (op_eqD hr.units) (pe_fld (pv 0) rfl) (pe_fld (pv 1) rfl) (nomark _)) <| pe_one <| pe_cmpR (op_eqD hr.units) (pe_fld (pv 0) rfl) (pe_fld (pv 1) rfl) (nomark _), ?_⟩
    obtain ⟨dx, hp⟩ := N.ob
    rcases h with ⟨q, lg', lw', gs', ws', rfl, N', gok, gok', k⟩ | ⟨t, ty, kt, k⟩
    · obtain ⟨dx', hq⟩ := N'.ob
      refine ⟨_, rfl, _, _, _, _, true, rfl, .own C, .base (ty_net T Y hq), kit_self C, true, rfl, iteT ?_⟩
      refine ⟨_, rfl, p, C, dx, _, _, rfl, hp, T.cl, T.nG, nf_gates _ _, _, rfl, q, C, dx', _, _, rfl, hq, T.cl, T.nG, nf_gates _ _, _, _, N.g.rg.dp, N'.g.rg.dp, (sh_gates gok).ok (by decide), (sh_gates gok').ok (by decide), _, rfl, ?_⟩
      rw [gatesD_eq]
      cases e : decide (gs = gs') with
      | false =>
        rw [e] at k
        exact iteF k
      | true =>
        rw [e] at k
        refine iteT ⟨_, rfl, p, C, dx, _, _, rfl, hp, T.cl, T.nW, nf_wires _ _, _, rfl, q, C, dx', _, _, rfl, hq, T.cl, T.nW, nf_wires _ _, _, _, N.w.rw.dp, N'.w.rw.dp, (sh_wires _).ok (by decide), (sh_wires _).ok (by decide), ?_⟩
        rw [wiresD_eq]
        exact k
    · exact ⟨_, rfl, _, _, _, _, false, rfl, .own C, ty, kt, false, rfl, iteF k⟩
end
end Lag

set_option maxRecDepth 100000
set_option maxHeartbeats 4000000
namespace Lag
open PySem PySem.Spec PyProof.Rows L2
/-! ### what keeps a net a net -/
theorem kindAt_set {gs : List Gt} {i j : Nat} {g : Gt} (h : i < gs.length) : kindAt (gs.set i g) j = if j = i then g.1 else kindAt gs j := by
  unfold kindAt
  rw [List.getD_eq_getElem?_getD, List.getD_eq_getElem?_getD, List.getElem?_set]
  by_cases e : i = j
  · subst e
    rw [if_pos rfl, if_pos h, if_pos rfl]
    rfl
  · rw [if_neg e, if_neg (fun z => e z.symm)]
/-- another gate at a place whose gate is no port: no port, and no first where it was none -/
theorem NetOk.setG {gs : List Gt} {ws : List Wr} (N : NetOk gs ws) {i : Nat} {g : Gt} (hi : i < gs.length) (hg : GOk g) (h1 : g.1 ≠ "out") (h2 : g.1 ≠ "in") (h3 : g.1 = "first" → kindAt gs i = "first") : NetOk (gs.set i g) ws := by
  have kk := @kindAt_set gs i
  refine ⟨?_, by rw [List.length_set]; exact N.gl, N.wl, ?_, fun x hx => ?_, fun e he hk => ?_, fun e he hk => ?_, N.rank⟩
  · intro z
    have := congrArg List.length z
    rw [List.length_set] at this
    exact N.ne (List.length_eq_zero_iff.mp this)
  · intro y hy
    rcases List.mem_or_eq_of_mem_set hy with hy | hy
    · exact N.gok y hy
    · rw [hy]
      exact hg
  · have W := N.wok x hx
    refine ⟨by rw [List.length_set]; exact W.s, by rw [List.length_set]; exact W.e, ?_, ?_, W.r, W.rl⟩
    · rw [kk hi]
      split
      · exact h1
      · exact W.ks
    · rw [kk hi]
      split
      · exact h2
      · exact W.ke
  · rw [List.length_set] at he
    rw [kk hi] at hk
    split at hk
    · exact absurd hk h1
    · exact N.one e he hk
  · rw [List.length_set] at he
    rw [kk hi] at hk
    split at hk
    · rename_i hei
      subst hei
      exact N.some _ he (h3 hk)
    · exact N.some e he hk
theorem kindAt_app {gs : List Gt} {g : Gt} {j : Nat} (h : j < gs.length) : kindAt (gs ++ [g]) j = kindAt gs j := by
  unfold kindAt
  rw [List.getD_eq_getElem?_getD, List.getD_eq_getElem?_getD, List.getElem?_append_left h]
theorem NetOk.addIn {gs : List Gt} {ws : List Wr} (N : NetOk gs ws) (hl : gs.length < 100) : NetOk (gs ++ [(("in" : Str), (0 : Int))]) ws := by
  have kl : kindAt (gs ++ [(("in" : Str), (0 : Int))]) gs.length = "in" := by
    unfold kindAt
    rw [List.getD_eq_getElem?_getD, List.getElem?_append_right (Nat.le_refl _), Nat.sub_self]
    rfl
  refine ⟨by simp, by simp; omega, N.wl, ?_, fun x hx => ?_, fun e he hk => ?_, fun e he hk => ?_, N.rank⟩
  · intro y hy
    rcases List.mem_append.mp hy with hy | hy
    · exact N.gok y hy
    · simp at hy
      subst hy
      exact ⟨by show ("in" : Str) ∈ kinds; decide +kernel, Int.le_refl 0, (by show (0 : Int) ≤ 100; decide), fun _ => rfl⟩
  · have W := N.wok x hx
    exact ⟨by have := W.s; simp; omega, by have := W.e; simp; omega, by rw [kindAt_app W.s]; exact W.ks, by rw [kindAt_app W.e]; exact W.ke, W.r, W.rl⟩
  · by_cases h : e < gs.length
    · rw [kindAt_app h] at hk
      exact N.one e h hk
    · have : e = gs.length := by simp at he; omega
      subst this
      rw [kl] at hk
      exact absurd hk (by decide +kernel)
  · by_cases h : e < gs.length
    · rw [kindAt_app h] at hk
      exact N.some e h hk
    · have : e = gs.length := by simp at he; omega
      subst this
      rw [kl] at hk
      exact absurd hk (by decide +kernel)
theorem cnt_set {ws : List Wr} {i : Nat} {x y : Wr} (h : ws[i]? = some x) (he : y.2.1 = x.2.1) (e : Nat) : cnt (ws.set i y) e = cnt ws e := by
  obtain ⟨hi, rfl⟩ := List.getElem?_eq_some_iff.mp h
  have h1 : ws.set i y = ws.take i ++ y :: ws.drop (i + 1) := List.set_eq_take_append_cons_drop .. |>.trans (by rw [if_pos hi])
  have h2 : ws = ws.take i ++ ws[i] :: ws.drop (i + 1) := by rw [List.getElem_cons_drop, List.take_append_drop]
  unfold cnt
  conv => rhs; rw [h2]
  rw [h1, List.countP_append, List.countP_append, List.countP_cons, List.countP_cons, he]
/-- a wire with other registers, one at least -/
theorem NetOk.setW {gs : List Gt} {ws : List Wr} (N : NetOk gs ws) {i : Nat} {x : Wr} {r : List Int} (h : ws[i]? = Option.some x) (hr : ROk r) (hl : r.length ≤ 100) (hne : r ≠ []) : NetOk gs (ws.set i (x.1, x.2.1, r)) := by
  have W := N.wok x (List.mem_of_getElem? h)
  obtain ⟨ρ, hρ⟩ := N.rank
  refine ⟨N.ne, N.gl, by rw [List.length_set]; exact N.wl, N.gok, fun y hy => ?_, fun e he hk => ?_, fun e he hk => ?_, ρ, fun y hy hyr => ?_⟩
  · rcases List.mem_or_eq_of_mem_set hy with hy | hy
    · exact N.wok y hy
    · rw [hy]
      exact ⟨W.s, W.e, W.ks, W.ke, hr, hl⟩
  · rw [cnt_set (y := (x.1, x.2.1, r)) h rfl]
    exact N.one e he hk
  · rw [cnt_set (y := (x.1, x.2.1, r)) h rfl]
    exact N.some e he hk
  · rcases List.mem_or_eq_of_mem_set hy with hy | hy
    · exact hρ y hy hyr
    · rw [hy] at hyr
      exact absurd hyr hne
theorem NetOk.perm {gs : List Gt} {ws ws' : List Wr} (N : NetOk gs ws) (p : ws'.Perm ws) : NetOk gs ws' := by
  obtain ⟨ρ, hρ⟩ := N.rank
  have c : ∀ e, cnt ws' e = cnt ws e := fun e => p.countP_eq _
  exact ⟨N.ne, N.gl, by rw [p.length_eq]; exact N.wl, N.gok, fun x hx => N.wok x (p.mem_iff.mp hx), fun e he hk => by rw [c]; exact N.one e he hk, fun e he hk => by rw [c]; exact N.some e he hk, ρ, fun x hx h => hρ x (p.mem_iff.mp hx) h⟩
/-! ### slices -/
theorem take_min {α : Type} (l : List α) (k : Nat) : l.take (min k l.length) = l.take k := by
  by_cases h : k ≤ l.length
  · rw [Nat.min_eq_left h]
  · rw [Nat.min_eq_right (by omega), List.take_length, List.take_of_length_le (by omega)]
theorem drop_min {α : Type} (l : List α) (k : Nat) : l.drop (min k l.length) = l.drop k := by
  by_cases h : k ≤ l.length
  · rw [Nat.min_eq_left h]
  · rw [Nat.min_eq_right (by omega), List.drop_length, List.drop_of_length_le (by omega)]
theorem cut_to {xs : List V} (k : Nat) : cutV xs none (some (k : Int)) = xs.take k := by
  unfold cutV
  rw [HT.sIx_none, HT.sIx_nat, List.drop_zero, Nat.sub_zero, take_min]
theorem cut_from {xs : List V} (k : Nat) : cutV xs (some (k : Int)) none = xs.drop k := by
  unfold cutV
  rw [HT.sIx_none, HT.sIx_nat, drop_min]
  exact List.take_of_length_le (by rw [List.length_drop]; omega)
theorem cut_mid {xs : List V} (j k : Nat) : cutV xs (some (j : Int)) (some (k : Int)) = (xs.take k).drop j := by
  unfold cutV
  rw [HT.sIx_nat, HT.sIx_nat, List.drop_take, drop_min]
  by_cases h : j ≤ xs.length
  · by_cases h2 : k ≤ xs.length
    · rw [Nat.min_eq_left h, Nat.min_eq_left h2]
    · rw [List.take_of_length_le (by rw [List.length_drop]; omega), List.take_of_length_le (by rw [List.length_drop]; omega)]
  · rw [List.drop_of_length_le (by omega)]
    simp
section
variable {α β : Type} {R : α → β → Prop} {xs xs' : List α} {ys ys' : List β}
theorem All2.take (h : All2 R xs ys) (k : Nat) : All2 R (xs.take k) (ys.take k) := by
  refine ⟨by rw [List.length_take, List.length_take, h.1], fun i x y hx hy => ?_⟩
  have hi : i < k := by
    have := (List.getElem?_eq_some_iff.mp hx).1
    rw [List.length_take] at this
    omega
  rw [List.getElem?_take_of_lt hi] at hx hy
  exact h.2 i x y hx hy
theorem All2.drop (h : All2 R xs ys) (k : Nat) : All2 R (xs.drop k) (ys.drop k) := by
  refine ⟨by rw [List.length_drop, List.length_drop, h.1], fun i x y hx hy => ?_⟩
  rw [List.getElem?_drop] at hx hy
  exact h.2 _ x y hx hy
theorem All2.append (h : All2 R xs ys) (h' : All2 R xs' ys') : All2 R (xs ++ xs') (ys ++ ys') := by
  induction xs generalizing ys with
  | nil =>
    cases ys with
    | nil => exact h'
    | cons _ _ => have := h.1; simp at this
  | cons x xs ih =>
    cases ys with
    | nil => have := h.1; simp at this
    | cons y ys => exact All2.cons h.head (ih h.tail)
theorem All2.reverse (h : All2 R xs ys) : All2 R xs.reverse ys.reverse := by
  induction xs generalizing ys with
  | nil =>
    cases ys with
    | nil => exact h
    | cons _ _ => have := h.1; simp at this
  | cons x xs ih =>
    cases ys with
    | nil => have := h.1; simp at this
    | cons y ys =>
      rw [List.reverse_cons, List.reverse_cons]
      exact (ih h.tail).snoc h.head
theorem All2.one {x : α} {y : β} (r : R x y) : All2 R [x] [y] := All2.cons r All2.nil
end
theorem set_cut {α : Type} {l : List α} {i : Nat} {y : α} (h : i < l.length) : l.take i ++ [y] ++ l.drop (i + 1) = l.set i y := by
  rw [List.set_eq_take_append_cons_drop, if_pos h, List.append_assoc]
  rfl
theorem swap_perm {α : Type} (l : List α) (i : Nat) : (l.take i ++ ((l.take (i + 2)).drop i).reverse ++ l.drop (i + 2)).Perm l := by
  have e : l = l.take i ++ (l.take (i + 2)).drop i ++ l.drop (i + 2) := by
    have h1 : l.take i = (l.take (i + 2)).take i := by rw [List.take_take, Nat.min_eq_left (by omega)]
    rw [h1, List.take_append_drop, List.take_append_drop]
  conv => rhs; rw [e]
  exact ((List.Perm.refl _).append (List.reverse_perm _)).append (List.Perm.refl _)
end Lag

set_option maxRecDepth 100000
set_option maxHeartbeats 8000000
namespace Lag
open PySem PySem.Spec PyProof.Rows L2
abbrev sWell : Stmt := topS 43 -- @_law_well
abbrev sDraw : Stmt := topS 44 -- @_law_draw
abbrev sLGates : Stmt := topS 46 -- @_law_gates
abbrev sLWorths : Stmt := topS 45 -- @_law_worths
abbrev sOuter : Stmt := topS 25 -- @is_outer
theorem st_norm {f : L2.St → Hp → Prop} {σ σ' : L2.St} {H : Hp} (e : σ = σ') (h : f σ' H) : f σ H := e ▸ h
theorem gn_norm {i : Nat} {x : V} {σ σ' : L2.St} {H : Hp} {N : L2.St → Hp → Prop} (e : σ.set i (some x) = σ') (h : N σ' H) : gName i x σ H N := by
  subst e
  exact h
theorem All2.pushT {α : Type} {R : Hp → V → α → Prop} {H H2 : Hp} {D : Addr} {acc : List V} {l : List α} {v : V} {x : α} {o : HO} (mono : ∀ {H H' : Hp} {v : V} {x : α}, TK H H' → R H v x → R H' v x) (h : All2 (R H) acc l) (hD : H2 D = some (.lst acc)) (t : TK H H2) (r : R H2 v x) : All2 (R (upd H2 D o)) (acc ++ [v]) (l ++ [x]) :=
  (h.imp fun _ _ r => mono (t.trans (TK.lst hD)) r).snoc (mono (TK.lst hD) r)
theorem mod_b {x n : Int} (h : 0 < n) (hn : n ≤ 4294967296) : -(2 ^ 64) < x % n ∧ x % n < 2 ^ 64 := by
  have h1 := Int.emod_nonneg x (show n ≠ 0 by omega)
  have h2 := Int.emod_lt_of_pos x h
  constructor
  · have e : (-(2 ^ 64) : Int) = -18446744073709551616 := by decide
    omega
  · have e : (2 ^ 64 : Int) = 18446744073709551616 := by decide
    omega
theorem LG.dr {K : PySem.W.Frag} {wl l : Addr} {H H' : Hp} {gs : List Gt} (h : LG K H l gs) (n : l ≠ wl) (W : WellAt wl H) (d : Dr wl H H') : LG K H' l gs := by
  obtain ⟨vs, q, a⟩ := h
  exact ⟨vs, d.but _ _ n q, a.imp fun _ _ r => r.tk (TK.dr W d.but)⟩
theorem LW.dr {K : PySem.W.Frag} {wl l : Addr} {H H' : Hp} {ws : List Wr} (h : LW K H l ws) (n : l ≠ wl) (W : WellAt wl H) (d : Dr wl H H') : LW K H' l ws := by
  obtain ⟨vs, q, a⟩ := h
  exact ⟨vs, d.but _ _ n q, a.imp fun _ _ r => r.tk (TK.dr W d.but)⟩
theorem gn_normH {i : Nat} {x : V} {σ σ' : L2.St} {H H' : Hp} {N : L2.St → Hp → Prop} (e : σ.set i (some x) = σ') (eH : H = H') (h : N σ' H') : gName i x σ H N := by
  subst e
  subst eH
  exact h
theorem LG.same' {K : PySem.W.Frag} {l : Addr} {H H' : Hp} {gs : List Gt} (h : LG K H l gs) (s : Same H H') : LG K H' l gs := by
  obtain ⟨vs, q, a⟩ := h
  exact ⟨vs, s _ _ q, a.imp fun _ _ r => r.tk (TK.same s)⟩
theorem LW.same' {K : PySem.W.Frag} {l : Addr} {H H' : Hp} {ws : List Wr} (h : LW K H l ws) (s : Same H H') : LW K H' l ws := by
  obtain ⟨vs, q, a⟩ := h
  exact ⟨vs, s _ _ q, a.imp fun _ _ r => r.tk (TK.same s)⟩
theorem Dr.ofSame {wl : Addr} {H H' : Hp} (W : WellAt wl H) (s : Same H H') : Dr wl H H' := ⟨But.same s, W.same s⟩
section
variable {P : Program} {w : World} {K : PySem.W.Frag} {mg : Str → Option Value} {base : Heap} {C : Addr}
theorem net_in {Q : Addr → Hp → Prop} {lg lw : Addr} {gs : List Gt} {ws : List Wr} (R : RG K H lg gs) (R2 : RW K H lw ws) (N : NetOk gs ws)
    (q : ∀ p ng nw H', NetAt K C H' p ng nw gs ws → Same H H' → H p = none → H ng = none → H nw = none → Q p H') :
    ∀ x dx, H x = none → H dx = none → dx ≠ x → spInit K C (.ref x :: ([.ref lg, .ref lw] ++ [])) (upd (upd H dx (.own x)) x (.ins C dx [])) (fun v H' => v = .non ∧ Q x H') E0 := by
  intro x dx hx hdx ne
  have s0 : Same H (upd (upd H dx (.own x)) x (.ins C dx [])) := fun b o e => by
    rw [upd_ne (ne_of_none e hx), upd_ne (ne_of_none e hdx)]
    exact e
  refine ⟨x, dx, lg, lw, gs, ws, rfl, upd_same, R.same s0, R2.same s0, N, fun H' ng nw A h1 h2 k => ⟨rfl, ?_⟩⟩
  exact q x ng nw H' A (Same.made hx hdx k) hx (s0.free h1) (s0.free h2)
end
theorem port_in {k : Str} : inV (.str k) [.str "in", .str "out"] = true ↔ portK k := by
  unfold inV
  rw [List.any_eq_true]
  constructor
  · rintro ⟨v, hv, he⟩
    simp only [List.mem_cons, List.not_mem_nil, or_false] at hv
    rcases hv with rfl | rfl
    · exact .inl (eq_of_beq he).symm
    · exact .inr (eq_of_beq he).symm
  · rintro (rfl | rfl)
    · exact ⟨_, List.mem_cons_self .., beq_self_eq_true _⟩
    · exact ⟨_, List.mem_cons_of_mem _ (List.mem_cons_self ..), beq_self_eq_true _⟩
def spOuter (K : PySem.W.Frag) : Sp := fun vs H Q _ => ∃ (v : V) (g : Gt), vs = [v] ∧ GateV K H v g ∧ ∀ b : Bool, (b = true ↔ portK g.1) → Q (.bl b) H
def spWellW : Sp := fun vs H Q _ => ∃ z : Int, vs = [.int z] ∧ ∀ p H', H p = none → Same H H' → WellAt p H' → Q (.ref p) H'
def spDraw : Sp := fun vs H Q _ => ∃ (w : Addr) (n : Int), vs = [.ref w, .int n] ∧ 0 < n ∧ n < 1000000 ∧ WellAt w H ∧ ∀ d H', 0 ≤ d → d < n → Dr w H H' → Q (.int d) H'
section
variable {P : Program} {w : World} {K : PySem.W.Frag} {mg : Str → Option Value} {base : Heap}
theorem scOuter : FnScope ["gate"] ["gate"] (defScope sOuter) := ⟨rfl, rfl, rfl, by decide +kernel, rfl, by decide +kernel, by decide +kernel⟩
abbrev DOuter (P : Program) (w : World) (K : PySem.W.Frag) (mg : Str → Option Value) (base : Heap) := Df P w K mg base 1 "is_outer" ["gate"] (spOuter K)
theorem ok_outer {f aK aW aF : Addr} {fd : FuncData} (F : Fun K "is_outer" "is_outer" sOuter f fd) (hm : mg "is_outer" = some (.ref f)) (C : Cns K mg aK aW aF) : DOuter P w K mg base f fd := by
  refine ⟨?_, hm, F.kp, F.binds fun _ _ _ _ _ _ us hl => match us, hl with | [_], _ => rfl⟩
  refine F.ok scOuter (fun vs H Q E h => ?_) (fun cdv A outer s H vs Q E hr h => ?_)
  · obtain ⟨v, g, rfl, _⟩ := h
    rfl
  · obtain ⟨v, g, rfl, ⟨a, rfl, sq⟩, q⟩ := h
    refine ⟨_, pss_one <| ps_ret <| pe_cmpR op_in_seq (pe_ix ix_tup (pv 0) pe_int (fun _ _ => rfl)) (pe_glob (v := .ref aW) (by rfl) C.mW rfl) (by rfl), ?_⟩
    exact ⟨_, rfl, a, _, 0, _, rfl, rfl, sq, atI_nat (j := 0) rfl, aW, _, rfl, .inr (C.sW H), rfl, rfl, q _ port_in⟩
abbrev nWell : List Str := ["_law_cell"]
theorem scWell : FnScope nWell ["_law_cell"] (defScope sWell) := ⟨rfl, rfl, rfl, by decide +kernel, rfl, by decide +kernel, by decide +kernel⟩
abbrev DWell (P : Program) (w : World) (K : PySem.W.Frag) (mg : Str → Option Value) (base : Heap) := Df P w K mg base 1 "_law_well" ["_law_cell"] spWellW
theorem ok_well {f : Addr} {fd : FuncData} (F : Fun K "_law_well" "_law_well" sWell f fd) (hm : mg "_law_well" = some (.ref f)) (B : Bt mg) : DWell P w K mg base f fd := by
  refine ⟨?_, hm, F.kp, F.binds fun _ _ _ _ _ _ us hl => match us, hl with | [_], _ => rfl⟩
  refine F.ok scWell (fun vs H Q E h => ?_) (fun cdv A outer s H vs Q E hr h => ?_)
  · obtain ⟨z, rfl, _⟩ := h
    rfl
  · obtain ⟨z, rfl, q⟩ := h
    refine ⟨_, pss_one (ps_ret (pe_lst (pa_cons (pe_op op_mul (pv 0) (pe_callTy call_int1 (by rfl) B.int (by decide +kernel) (pa_cons (pe_cmpR op_ge (pv 0) (pe_op op_pow pe_int pe_int) (nomark _)) pa_nil))) (pa_cons (pv 0) (pa_cons pe_int pa_nil))))), ?_⟩
    refine ⟨_, rfl, _, rfl, _, _, rfl, rfl, ⟨by decide, by decide, by decide⟩, _, _, rfl, rfl, .inr ⟨_, rfl, _, _, rfl, rfl, .inr ?_, _, rfl, (by show 3 ≤ sizeLine; decide), fun p hp => q p _ hp (same_new hp) ⟨_, upd_same, _, _, _, rfl⟩⟩⟩
    split <;> exact ⟨by decide, by decide⟩
abbrev nDraw : List Str := ["_law_well_here", "_law_many", "_law_found", "_law_low"]
theorem scDraw : FnScope nDraw ["_law_well_here", "_law_many"] (defScope sDraw) := ⟨rfl, rfl, rfl, by decide +kernel, rfl, by decide +kernel, by decide +kernel⟩
abbrev DDraw (P : Program) (w : World) (K : PySem.W.Frag) (mg : Str → Option Value) (base : Heap) := Df P w K mg base 1 "_law_draw" ["_law_well_here", "_law_many"] spDraw
theorem ok_draw {f : Addr} {fd : FuncData} (F : Fun K "_law_draw" "_law_draw" sDraw f fd) (hm : mg "_law_draw" = some (.ref f)) : DDraw P w K mg base f fd := by
  refine ⟨?_, hm, F.kp, F.binds fun _ _ _ _ _ _ us hl => match us, hl with | [_, _], _ => rfl⟩
  refine F.ok scDraw (fun vs H Q E h => ?_) (fun cdv A outer s H vs Q E hr h => ?_)
  · obtain ⟨wl, n, rfl, _⟩ := h
    rfl
  · obtain ⟨wl, n, rfl, hn, hn2, ⟨_, hw, a, b, c, rfl⟩, q⟩ := h
    have nd := scDraw.nd
    refine ⟨_, pss_cons (ps_if (pt_cmpR op_gt (pe_ix ix_list (pv 0) pe_int (fun _ _ => rfl)) pe_int (nomark _)) (pss_cons (ps_set (i := 2) nd rfl (.inl rfl) (pe_op op_mod (pe_ix ix_list (pv 0) pe_int (fun _ _ => rfl)) (pv 1))) <|
        pss_cons (ps_asg (pe_op op_fdiv (pe_ix ix_list (pv 0) pe_int (fun _ _ => rfl)) (pv 1)) (pg_sub (pv 0) pe_int set_list)) <|
        pss_one (ps_ret (pv 2))) pss_nil) <|
        pss_cons (ps_asg (pe_op op_add (pe_ix ix_list (pv 0) pe_int (fun _ _ => rfl)) pe_int) (pg_sub (pv 0) pe_int set_list)) <|
        pss_cons (ps_set (i := 3) nd rfl (.inl rfl) (pe_op op_add (pe_op op_mod (pe_ix ix_list (pv 0) pe_int (fun _ _ => rfl)) pe_int) (pe_op op_mul (pe_op op_fdivW (pe_ix ix_list (pv 0) pe_int (fun _ _ => rfl)) pe_int) pe_int))) <|
        pss_cons (ps_set (i := 3) nd rfl (.inl rfl) (pe_op op_mod (pe_op op_mul (pe_op op_add (pe_op op_add (pv 3) (pe_op op_mul pe_int (pe_ix ix_list (pv 0) pe_int (fun _ _ => rfl)))) pe_int) pe_int) pe_int)) <|
        pss_cons (ps_set (i := 3) nd rfl (.inl rfl) (pe_op op_mod (pe_op op_mul (pv 3) (pe_op op_add (pe_op op_add (pe_op op_fdiv (pv 3) pe_int) pe_int) (pe_ix ix_list (pv 0) pe_int (fun _ _ => rfl)))) pe_int)) <|
        pss_one (ps_ret (pe_op op_mod (pe_op op_mod (pe_op op_mul (pv 3) (pe_op op_add (pe_op op_fdiv (pv 3) pe_int) pe_int)) pe_int) (pv 1))), ?_⟩
    refine ⟨_, rfl, wl, _, 0, .int a, rfl, rfl, SqL.of hw, atI_nat (j := 0) rfl, _, _, rfl, rfl, _, rfl, ite2 (fun e => ?_) (fun e => ?_)⟩
    · refine ⟨_, rfl, wl, _, 0, .int a, rfl, rfl, SqL.of hw, atI_nat (j := 0) rfl, _, rfl, _, _, rfl, rfl, hn, ?_⟩
      refine ⟨_, rfl, wl, _, 0, .int a, rfl, rfl, SqL.of hw, atI_nat (j := 0) rfl, _, rfl, _, _, rfl, rfl, ⟨hn, by omega⟩, ?_⟩
      refine ⟨_, rfl, wl, _, 0, 0, rfl, rfl, hw, rfl, ?_⟩
      refine ⟨_, rfl, ?_⟩
      exact q _ _ (Int.emod_nonneg _ (by omega)) (Int.emod_lt_of_pos _ hn) ⟨But.upd, ⟨_, upd_same, _, _, _, rfl⟩⟩
    · have h1 : (upd H wl (HO.lst [.int a, .int b, .int (c + 1)])) wl = some (.lst [.int a, .int b, .int (c + 1)]) := upd_same
      refine ⟨_, rfl, wl, _, 2, .int c, rfl, rfl, SqL.of hw, atI_nat (j := 2) rfl, _, _, rfl, rfl, ?_⟩
      refine ⟨_, rfl, wl, _, 2, 2, rfl, rfl, hw, rfl, ?_⟩
      refine ⟨_, rfl, wl, _, 1, .int b, rfl, rfl, SqL.of h1, atI_nat (j := 1) rfl, _, _, rfl, rfl, (by show (0 : Int) < 2147483629; decide), ?_⟩
      refine ⟨_, rfl, wl, _, 1, .int b, rfl, rfl, SqL.of h1, atI_nat (j := 1) rfl, _, _, rfl, rfl, wide_div (j := 2147483629) (b := 32) (by decide) (by decide) (by decide) (by decide), _, _, rfl, rfl, .inr ⟨by decide, by decide⟩, _, _, rfl, rfl, ?_⟩
      refine ⟨_, rfl, _, rfl, wl, _, 2, .int (c + 1), rfl, rfl, SqL.of h1, atI_nat (j := 2) rfl, _, _, rfl, rfl, .inl ⟨by decide, by decide⟩, _, _, rfl, rfl, _, _, rfl, rfl, _, _, rfl, rfl, .inr ⟨by decide, by decide⟩, _, _, rfl, rfl, (by show (0 : Int) < 2147483647; decide), ?_⟩
      refine ⟨_, rfl, _, rfl, _, _, rfl, rfl, ⟨by decide, by decide⟩, _, _, rfl, rfl, _, rfl, wl, _, 2, .int (c + 1), rfl, rfl, SqL.of h1, atI_nat (j := 2) rfl, _, _, rfl, rfl, _, _, rfl, rfl, .inl (mod_b (by decide) (by decide)), _, _, rfl, rfl, (by show (0 : Int) < 2147483629; decide), ?_⟩
      refine ⟨_, rfl, _, rfl, _, _, rfl, rfl, ⟨by decide, by decide⟩, _, _, rfl, rfl, _, _, rfl, rfl, .inl (mod_b (by decide) (by decide)), _, _, rfl, rfl, (by show (0 : Int) < 2147483399; decide), _, rfl, _, _, rfl, rfl, hn, ?_⟩
      exact q _ _ (Int.emod_nonneg _ (by omega)) (Int.emod_lt_of_pos _ hn) ⟨But.upd, ⟨_, h1, _, _, _, rfl⟩⟩
end
/-! ### _law_gates -/
def words10 : List Str := ["sum", "times", "most", "least", "first", "one", "sum", "most", "in", "out"]
theorem words10_ok : ∀ k ∈ words10, k ∈ kinds := by decide +kernel
def spLGates (K : PySem.W.Frag) : Sp := fun vs H Q _ => ∃ wl : Addr, vs = [.ref wl] ∧ WellAt wl H ∧ ∀ l gs H', Dr wl H H' → H l = none → LG K H' l gs → (∀ g ∈ gs, GOk g) → 1 ≤ gs.length → gs.length ≤ 7 → Q (.ref l) H'
section
variable {P : Program} {w : World} {K : PySem.W.Frag} {mg : Str → Option Value} {base : Heap}
abbrev nLGates : List Str := ["_law_well_here", "_law_words", "_law_found", "_law_k", "_law_word", "_law_wait"]
theorem scLGates : FnScope nLGates ["_law_well_here"] (defScope sLGates) := ⟨rfl, rfl, rfl, by decide +kernel, rfl, by decide +kernel, by decide +kernel⟩
abbrev DLGates (P : Program) (w : World) (K : PySem.W.Frag) (mg : Str → Option Value) (base : Heap) := Df P w K mg base 2 "_law_gates" ["_law_well_here"] (spLGates K)
theorem ok_lgates {f fD : Addr} {fd fdD : FuncData} (F : Fun K "_law_gates" "_law_gates" sLGates f fd) (hm : mg "_law_gates" = some (.ref f)) (B : Bt mg) (DD : DDraw P w K mg base fD fdD) : DLGates P w K mg base f fd := by
  refine ⟨?_, hm, F.kp, F.binds fun _ _ _ _ _ _ us hl => match us, hl with | [_], _ => rfl⟩
  refine F.ok scLGates (fun vs H Q E h => ?_) (fun cdv A outer s H vs Q E hr h => ?_)
  · obtain ⟨wl, rfl, _⟩ := h
    rfl
  · obtain ⟨wl, rfl, hw, q⟩ := h
    have nd := scLGates.nd
    have hr1 : Room 1 _ := hr.mono (by decide)
    refine ⟨_, pss_cons (ps_set (i := 1) nd rfl (.inl rfl) (pe_lst (pa_cons pe_str (pa_cons pe_str (pa_cons pe_str (pa_cons pe_str (pa_cons pe_str (pa_cons pe_str (pa_cons pe_str (pa_cons pe_str (pa_cons pe_str (pa_cons pe_str pa_nil)))))))))))) <|
        pss_cons (ps_set (i := 2) nd rfl (.inl rfl) (pe_lst pa_nil)) <|
        pss_cons (ps_for PassesOwn.never rfl (pi_range1 (by rfl) B.range (pa_cons (pe_op op_add pe_int (pe_call DD.ok hr1 (by rfl) DD.mg DD.kp DD.bd .nil pass0 (pa_cons (pv 0) (pa_cons pe_int pa_nil)))) pa_nil)) (pg_name (i := 3) nd rfl (.inl rfl)) (pss_cons (ps_set (i := 4) nd rfl (.inl rfl) (pe_ix ix_list (pv 1) (pe_call DD.ok hr1 (by rfl) DD.mg DD.kp DD.bd .nil pass0 (pa_cons (pv 0) (pa_cons pe_int pa_nil))) (fun _ _ => rfl))) <|
        pss_cons (ps_set (i := 5) nd rfl (.inl rfl) (pe_ix ix_list (pe_lst (pa_cons (pe_call DD.ok hr1 (by rfl) DD.mg DD.kp DD.bd .nil pass0 (pa_cons (pv 0) (pa_cons pe_int pa_nil))) (pa_cons (pe_call DD.ok hr1 (by rfl) DD.mg DD.kp DD.bd .nil pass0 (pa_cons (pv 0) (pa_cons pe_int pa_nil))) (pa_cons (pe_call DD.ok hr1 (by rfl) DD.mg DD.kp DD.bd .nil pass0 (pa_cons (pv 0) (pa_cons pe_int pa_nil))) (pa_cons pe_int pa_nil))))) (pe_call DD.ok hr1 (by rfl) DD.mg DD.kp DD.bd .nil pass0 (pa_cons (pv 0) (pa_cons pe_int pa_nil))) (fun _ _ => rfl))) <|
        pss_one (ps_expr (pe_bm PySem.F.plainAttrs_list PySem.F.slot_list_append PySem.F.type_list_append mt_append (pv 2) (pa_cons (pe_tup (pa_cons (pv 4) (pa_cons (pe_op op_mul (pv 5) (pe_callTy call_int1 (by rfl) B.int (by decide +kernel) (pa_cons (pe_cmpR op_notIn_seq (pv 4) (pe_lst (pa_cons pe_str (pa_cons pe_str pa_nil))) (by rfl)) pa_nil))) pa_nil))) pa_nil))))) <|
        pss_one (ps_ret (pv 2)), ?_⟩
    refine ⟨(by show 10 ≤ sizeLine; decide), fun lw0 hlw0 => ?_⟩
    have D1 := Dr.new (o := .lst (words10.map V.str)) hw hlw0
    have ew : (upd H lw0 (.lst (words10.map V.str))) lw0 = some (.lst (words10.map V.str)) := upd_same
    have nw0 : lw0 ≠ wl := (hw.ne hlw0).symm
    obtain ⟨H1, hH1⟩ : ∃ H1, H1 = upd H lw0 (.lst (words10.map V.str)) := ⟨_, rfl⟩
    rw [← hH1] at D1 ew
    refine gn_normH (σ' := [some (.ref wl), some (.ref lw0), none, none, none, none]) (H' := H1) rfl hH1.symm ?_
    refine ⟨(by show 0 ≤ sizeLine; decide), fun lg hlg => ?_⟩
    have D2 := D1.trans (Dr.new (o := .lst []) D1.well hlg)
    have eg : (upd H1 lg (.lst [])) lg = some (.lst []) := upd_same
    have nlg : lg ≠ wl := (D1.well.ne hlg).symm
    have hlg0 : H lg = none := D1.free hw hlg
    have nwg : lw0 ≠ lg := ne_of_none ew hlg
    have ew2 : (upd H1 lg (.lst [])) lw0 = some (.lst (words10.map V.str)) := (upd_ne nwg).trans ew
    generalize upd H1 lg (.lst []) = H2 at D2 eg ew2
    refine gn_norm (σ' := [some (.ref wl), some (.ref lw0), some (.ref lg), none, none, none]) rfl ?_
    refine ⟨_, rfl, wl, 7, rfl, by decide, by decide, D2.well, fun d H3 d0 d1 E3 => ⟨_, _, rfl, rfl, _, rfl, by omega, by omega, for_range (lo := 0) (n := (1 + d).toNat) (fun i σ H' => ∃ (s3 s4 s5 : Option V) (acc : List V) (gs : List Gt), σ = [some (.ref wl), some (.ref lw0), some (.ref lg), s3, s4, s5] ∧ H' lg = some (.lst acc) ∧ All2 (GateV K H') acc gs ∧ gs.length = i ∧ (∀ g ∈ gs, GOk g) ∧ H' lw0 = some (.lst (words10.map V.str)) ∧ Dr wl H H')
      ⟨_, _, _, [], [], rfl, E3.but _ _ nlg eg, All2.nil, rfl, (fun g h => nomatch h), E3.but _ _ nw0 ew2, D2.trans E3⟩ ?_ ?_⟩⟩
    · rintro i σ H4 hi ⟨s3, s4, s5, acc, gs, rfl, hacc, haa, hgl, hgo, ew4, D4⟩
      have hal : acc.length = i := by rw [haa.1, hgl]
      refine ⟨_, rfl, _, rfl, wl, 10, rfl, by decide, by decide, D4.well, fun k5 H5 k50 k51 E5 => ?_⟩
      have ew5 := E5.but _ _ nw0 ew4
      have hk5 : k5.toNat < (words10.map V.str).length := by show k5.toNat < 10; omega
      refine ⟨lw0, words10.map V.str, k5, (words10.map V.str)[k5.toNat], rfl, rfl, SqL.of ew5, at_of (j := k5.toNat) (by omega) (List.getElem?_eq_getElem hk5), ?_⟩
      obtain ⟨kd, hkd, ekd⟩ := List.mem_map.mp (List.getElem_mem hk5)
      rw [← ekd]
      have hk := words10_ok kd hkd
      refine gn_norm (σ' := [some (.ref wl), some (.ref lw0), some (.ref lg), some (.int (0 + (i : Nat))), some (.str kd), s5]) rfl ?_
      refine ⟨_, rfl, wl, 10, rfl, by decide, by decide, E5.well, fun z1 H6 z10 z11 E6 => ?_⟩
      refine ⟨_, rfl, wl, 4, rfl, by decide, by decide, E6.well, fun z2 H7 z20 z21 E7 => ?_⟩
      refine ⟨_, rfl, wl, 10, rfl, by decide, by decide, E7.well, fun z3 H8 z30 z31 E8 => ?_⟩
      refine ⟨(by show 4 ≤ sizeLine; decide), fun l8 hl8 => ?_⟩
      have E9 := ((E6.trans E7).trans E8).trans (Dr.new (o := .lst [.int z1, .int z2, .int z3, .int 100]) E8.well hl8)
      refine ⟨_, rfl, wl, 4, rfl, by decide, by decide, E9.well, fun j H10 j0 j1 E10 => ?_⟩
      have el8 := E10.but _ _ (E8.well.ne hl8).symm (upd_same (H := H8) (a := l8) (o := .lst [.int z1, .int z2, .int z3, .int 100]))
      obtain ⟨wt, hwt, w0, w1⟩ : ∃ wt : Int, ([.int z1, .int z2, .int z3, .int 100] : List V)[j.toNat]? = some (.int wt) ∧ 0 ≤ wt ∧ wt ≤ 100 := by
        rcases (by omega : j.toNat = 0 ∨ j.toNat = 1 ∨ j.toNat = 2 ∨ j.toNat = 3) with h | h | h | h <;> rw [h]
        · exact ⟨z1, rfl, z10, by omega⟩
        · exact ⟨z2, rfl, z20, by omega⟩
        · exact ⟨z3, rfl, z30, by omega⟩
        · exact ⟨100, rfl, by decide, by decide⟩
      refine ⟨l8, _, j, .int wt, rfl, rfl, SqL.of el8, at_of (j := j.toNat) (by omega) hwt, ?_⟩
      have E410 := (E5.trans E9).trans E10
      have D10 := D4.trans E410
      have hacc10 := E410.but _ _ nlg hacc
      have ew10 := E410.but _ _ nw0 ew4
      refine gn_norm (σ' := [some (.ref wl), some (.ref lw0), some (.ref lg), some (.int (0 + (i : Nat))), some (.str kd), some (.int wt)]) rfl ?_
      refine ⟨_, rfl, .inl ⟨rfl, _, SqL.of hacc10⟩, _, rfl, _, rfl, _, rfl, (by show 2 ≤ sizeLine; decide), fun l11 hl11 => ?_⟩
      refine ⟨l11, _, rfl, .inl (SqL.of upd_same), rfl, rfl, .inr ⟨_, rfl, _, _, rfl, rfl, .inl ?_, ?_⟩⟩
      · have e64 : (2 ^ 64 : Int) = 18446744073709551616 := by decide
        exact ⟨by omega, by omega⟩
      have E11 := E410.trans (Dr.new (o := .lst [.str "in", .str "out"]) E10.well hl11)
      have W11 := E11.well
      have hacc11 := E11.but _ _ nlg hacc
      have ew11 := E11.but _ _ nw0 ew4
      obtain ⟨g2, hg2, hg0, hg1, hgp⟩ : ∃ g2 : Int, wt * (if (!inV (.str kd) [.str "in", .str "out"]) = true then 1 else 0) = g2 ∧ 0 ≤ g2 ∧ g2 ≤ 100 ∧ (portK kd → g2 = 0) := by
        cases hin : inV (.str kd) [.str "in", .str "out"] with
        | true => exact ⟨0, by rw [if_neg (by decide), Int.mul_zero], by decide, by decide, fun _ => rfl⟩
        | false => exact ⟨wt, by rw [if_pos (by decide), Int.mul_one], w0, w1, fun z => by rw [port_in.mpr z] at hin; cases hin⟩
      refine ⟨(by show 2 ≤ sizeLine; decide), fun p hp => ?_⟩
      have E12 := E11.trans (Dr.new (o := .tup [.str kd, .int (wt * (if (!inV (.str kd) [.str "in", .str "out"]) = true then 1 else 0))]) W11 hp)
      have hacc12 := E12.but _ _ nlg hacc
      have ew12 := E12.but _ _ nw0 ew4
      refine ⟨lg, acc, _, rfl, rfl, hacc12, small1000 (by omega), ?_⟩
      refine ⟨_, _, _, acc ++ [.ref p], gs ++ [(kd, g2)], rfl, upd_same, ?_, by rw [List.length_append, hgl]; rfl, fun g hg => ?_, (upd_ne nwg).trans ew12, set_well (D4.trans E12) hlg0 nlg⟩
      · exact All2.pushT (fun t r => GateV.tk t r) haa hacc12 (TK.dr D4.well E12.but) ⟨p, rfl, .inl (.inl (by rw [← hg2]; exact upd_same))⟩
      · rcases List.mem_append.mp hg with hg | hg
        · exact hgo g hg
        · rw [List.mem_singleton.mp hg]
          exact ⟨hk, hg0, hg1, hgp⟩
    · rintro σ H4 ⟨s3, s4, s5, acc, gs, rfl, hacc, haa, hgl, hgo, ew4, D4⟩
      exact ⟨_, rfl, q lg gs H4 D4 hlg0 ⟨acc, hacc, haa⟩ hgo (by omega) (by omega)⟩
end
/-! ### _law_worths -/
def spLWorths (K : PySem.W.Frag) : Sp := fun vs H Q _ => ∃ (wl : Addr) (m : Nat), vs = [.ref wl, .int (m : Nat)] ∧ m ≤ 300 ∧ WellAt wl H ∧ ∀ p rs H', Dr wl H H' → H' p = some (.tup (rs.map V.int)) → rs.length = m → ROk rs → Q (.ref p) H'
section
variable {P : Program} {w : World} {K : PySem.W.Frag} {mg : Str → Option Value} {base : Heap}
abbrev nLWorths : List Str := ["_law_well_here", "_law_many", "_law_k"]
theorem scLWorths : FnScope nLWorths ["_law_well_here", "_law_many"] (defScope sLWorths) := ⟨rfl, rfl, rfl, by decide +kernel, rfl, by decide +kernel, by decide +kernel⟩
abbrev DLWorths (P : Program) (w : World) (K : PySem.W.Frag) (mg : Str → Option Value) (base : Heap) := Df P w K mg base 2 "_law_worths" ["_law_well_here", "_law_many"] (spLWorths K)
theorem ok_lworths {f fD : Addr} {fd fdD : FuncData} (F : Fun K "_law_worths" "_law_worths" sLWorths f fd) (hm : mg "_law_worths" = some (.ref f)) (B : Bt mg) (DD : DDraw P w K mg base fD fdD) : DLWorths P w K mg base f fd := by
  refine ⟨?_, hm, F.kp, F.binds fun _ _ _ _ _ _ us hl => match us, hl with | [_, _], _ => rfl⟩
  refine F.ok scLWorths (fun vs H Q E h => ?_) (fun cdv A outer s H vs Q E hr h => ?_)
  · obtain ⟨wl, m, rfl, _⟩ := h
    rfl
  · obtain ⟨wl, m, rfl, hm1, hw, q⟩ := h
    have nd := scLWorths.nd
    refine ⟨_, pss_one <| ps_ret <| pe_callTy call_tuple_of (by rfl) B.tuple (by decide +kernel) <| (pa_cons · pa_nil) <| pe_lc (own := [("_law_k", 2)]) (g := gName 2) (tt := tYes) (te := tCall spDraw [] E0 (tCons (tVar 0) (tCons (tC (.int 97)) tNil))) rfl nd (pi_range1 (by rfl) B.range (pa_cons (pv 1) pa_nil)) (blkOk_by (N := nLWorths) (sc := defScope sLWorths) (own := [("_law_k", 2)]) (by decide +kernel))
      (fun _ _ _ _ _ => pg_name (i := 2) nd rfl (.inl rfl)) (fun _ _ _ _ _ => pts_nil) (fun _ _ _ _ _ => pe_call DD.ok hr (by rfl) DD.mg DD.kp DD.bd .nil pass0 (pa_cons (pv 0) (pa_cons pe_int pa_nil))), ?_⟩
    refine ⟨_, rfl, _, rfl, by omega, by omega, fun R hR => ?_⟩
    have nRw : R ≠ wl := (hw.ne hR).symm
    refine lc_range (lo := 0) (n := ((m : Int)).toNat) (fun i Hc => ∃ rs : List Int, rs.length = i ∧ ROk rs ∧ Hc R = some (.lst (rs.map V.int)) ∧ Dr wl H Hc) ⟨[], rfl, by simp [ROk], upd_same, Dr.new hw hR⟩ ?_ ?_
    · rintro i Hc hi ⟨rs, hl, hr', hc, d⟩
      refine ⟨rfl, tyes ?_⟩
      refine ⟨_, rfl, wl, 97, rfl, by decide, by decide, d.well, fun z H2 z0 z1 E => ?_⟩
      refine ⟨_, E.but _ _ nRw hc, by rw [List.length_map]; exact small1000 (by omega), rs ++ [z], by simp [hl], ?_, ?_, set_well (d.trans E) hR nRw⟩
      · intro y hy
        rcases List.mem_append.mp hy with hy | hy
        · exact hr' y hy
        · simp at hy
          subst hy
          exact ⟨z0, by omega⟩
      · rw [upd_same, List.map_append]
        rfl
    · rintro Hc ⟨rs, hl, hr', hc, d⟩
      refine ⟨R, _, rfl, .inl ⟨SqL.of hc, fun p hp => ?_⟩⟩
      exact q p rs _ (d.trans (Dr.new d.well hp)) upd_same (by omega) hr'
end
end Lag

set_option maxRecDepth 100000
set_option maxHeartbeats 8000000
namespace Lag
open PySem PySem.Spec PyProof.Rows L2
abbrev sLWires : Stmt := topS 47 -- @_law_wires
def numsD (l : List Int) : PyData := .list (l.map PyData.int)
theorem numsD_eq (a b : List Int) : PyData.eqv (numsD a) (numsD b) = decide (a = b) := eqvAll_map (fun x y => intD_eq x y) a b
theorem sh_nums (l : List Int) : Sh 1 (numsD l) := by
  refine sh_list fun d hd => ?_
  obtain ⟨i, _, rfl⟩ := List.mem_map.mp hd
  exact sh_int _
theorem dp_nums {K : PySem.W.Frag} {H : Hp} {l : Addr} {xs : List Int} (h : SqL K H l (xs.map V.int)) : Dp K H (.ref l) (numsD xs) := .lst h (ints_dp xs)
def ivN (l : List Nat) : List V := (l.map fun i => ((i : Nat) : Int)).map V.int
theorem ivN_len (l : List Nat) : (ivN l).length = l.length := by unfold ivN; rw [List.length_map, List.length_map]
theorem ivN_at {l : List Nat} {i k : Nat} (h : l[i]? = some k) : (ivN l)[i]? = some (.int ((k : Nat) : Int)) := by
  unfold ivN
  rw [List.getElem?_map, List.getElem?_map, h]
  rfl
theorem ivN_snoc (l : List Nat) (k : Nat) : ivN (l ++ [k]) = ivN l ++ [.int ((k : Nat) : Int)] := by
  unfold ivN
  rw [List.map_append, List.map_append]
  rfl
def flt (p : Nat → Bool) (i : Nat) : List Nat := (List.range i).filter p
theorem flt_succ (p : Nat → Bool) (i : Nat) : flt p (i + 1) = if p i = true then flt p i ++ [i] else flt p i := by
  unfold flt
  rw [List.range_succ, List.filter_append]
  split
  · rename_i e
    rw [List.filter_cons_of_pos e]
    rfl
  · rename_i e
    rw [List.filter_cons_of_neg e]
    simp
theorem flt_len (p : Nat → Bool) (i : Nat) : (flt p i).length ≤ i := by
  have := List.length_filter_le p (List.range i)
  rw [List.length_range] at this
  exact this
theorem flt_mem {p : Nat → Bool} {i k : Nat} : k ∈ flt p i ↔ k < i ∧ p k = true := by
  unfold flt
  rw [List.mem_filter, List.mem_range]
def pS (gs : List Gt) (k : Nat) : Bool := !decide (V.str (kindAt gs k) = V.str "out")
def pE (gs : List Gt) (k : Nat) : Bool := !inV (.str (kindAt gs k)) [.str "in", .str "out"]
theorem pS_iff {gs : List Gt} {k : Nat} : pS gs k = true ↔ kindAt gs k ≠ "out" := by
  unfold pS
  rw [Bool.not_eq_true', decide_eq_false_iff_not]
  exact ⟨fun h z => h (by rw [z]), fun h z => h (V.str.inj z)⟩
theorem pE_iff {gs : List Gt} {k : Nat} : pE gs k = true ↔ ¬ portK (kindAt gs k) := by
  unfold pE
  rw [Bool.not_eq_true', ← port_in, Bool.not_eq_true]
/-- wires, the outputs below m joined -/
structure WIW (gs : List Gt) (ws : List Wr) (m : Nat) : Prop where
  wok : ∀ x ∈ ws, WOk gs x ∧ x.2.2.length ≤ 4
  rk : ∀ x ∈ ws, x.2.2 = [] → kindAt gs x.2.1 = "out" ∨ x.1 < x.2.1
  one : ∀ e, e < m → kindAt gs e = "out" → cnt ws e = 1
  zero : ∀ e, m ≤ e → kindAt gs e = "out" → cnt ws e = 0
theorem cnt_perm {ws us : List Wr} (h : us.Perm ws) (e : Nat) : cnt us e = cnt ws e := h.countP_eq _
theorem cnt_snoc (ws : List Wr) (x : Wr) (e : Nat) : cnt (ws ++ [x]) e = cnt ws e + if x.2.1 = e then 1 else 0 := by
  unfold cnt
  rw [List.countP_append, List.countP_singleton]
  simp
theorem WIW.nil (gs : List Gt) : WIW gs [] 0 := ⟨fun x h => (nomatch h), fun x h => (nomatch h), fun e h => absurd h (Nat.not_lt_zero _), fun e _ _ => rfl⟩
theorem WIW.inner {gs : List Gt} {ws : List Wr} {x : Wr} (h : WIW gs ws 0) (hw : WOk gs x) (hl : x.2.2.length ≤ 4) (hr : x.2.2 = [] → x.1 < x.2.1) (ho : kindAt gs x.2.1 ≠ "out") : WIW gs (ws ++ [x]) 0 := by
  refine ⟨fun y hy => ?_, fun y hy => ?_, fun e h => absurd h (Nat.not_lt_zero _), fun e he hk => ?_⟩
  · rcases List.mem_append.mp hy with hy | hy
    · exact h.wok y hy
    · rw [List.mem_singleton.mp hy]
      exact ⟨hw, hl⟩
  · rcases List.mem_append.mp hy with hy | hy
    · exact h.rk y hy
    · rw [List.mem_singleton.mp hy]
      exact fun z => .inr (hr z)
  · rw [cnt_snoc, h.zero e he hk, if_neg fun z => ho (by rw [z]; exact hk)]
theorem WIW.outer {gs : List Gt} {ws us : List Wr} {x : Wr} {m : Nat} (h : WIW gs ws m) (hw : WOk gs x) (hl : x.2.2.length ≤ 4) (he : x.2.1 = m) (ho : kindAt gs m = "out") (hp : us.Perm (ws ++ [x])) : WIW gs us (m + 1) := by
  have mem : ∀ y ∈ us, y ∈ ws ∨ y = x := fun y hy => by
    rcases List.mem_append.mp (hp.mem_iff.mp hy) with z | z
    · exact .inl z
    · exact .inr (List.mem_singleton.mp z)
  refine ⟨fun y hy => ?_, fun y hy => ?_, fun e h1 hk => ?_, fun e h1 hk => ?_⟩
  · rcases mem y hy with z | rfl
    · exact h.wok y z
    · exact ⟨hw, hl⟩
  · rcases mem y hy with z | rfl
    · exact h.rk y z
    · exact fun _ => .inl (by rw [he]; exact ho)
  · rw [cnt_perm hp, cnt_snoc]
    by_cases z : e = m
    · rw [z, h.zero m (Nat.le_refl _) ho, if_pos he]
    · rw [h.one e (by omega) hk, if_neg (by omega)]
  · rw [cnt_perm hp, cnt_snoc, h.zero e (by omega) hk, if_neg (by omega)]
theorem WIW.skip {gs : List Gt} {ws : List Wr} {m : Nat} (h : WIW gs ws m) (ho : kindAt gs m ≠ "out") : WIW gs ws (m + 1) :=
  ⟨h.wok, h.rk, fun e h1 hk => by
    by_cases z : e = m
    · rw [z] at hk
      exact absurd hk ho
    · exact h.one e (by omega) hk, fun e h1 hk => h.zero e (by omega) hk⟩
theorem insert_perm {α : Type} (l : List α) (i : Nat) (x : α) : (l.take i ++ [x] ++ l.drop i).Perm (l ++ [x]) := by
  have h1 : (l.take i ++ [x] ++ l.drop i).Perm (l.take i ++ l.drop i ++ [x]) := by
    rw [List.append_assoc, List.append_assoc]
    exact List.Perm.append_left _ List.perm_append_comm
  rw [List.take_append_drop] at h1
  exact h1
def spLWires (K : PySem.W.Frag) : Sp := fun vs H Q _ => ∃ (wl lg : Addr) (gs : List Gt), vs = [.ref wl, .ref lg] ∧ WellAt wl H ∧ lg ≠ wl ∧ LG K H lg gs ∧ gs.length ≤ 7 ∧ (∃ i, i < gs.length ∧ kindAt gs i ≠ "out") ∧ ∀ l ws H', Dr wl H H' → H l = none → LW K H' l ws → WIW gs ws gs.length → ws.length ≤ 21 → Q (.ref l) H'
section
variable {P : Program} {w : World} {K : PySem.W.Frag} {mg : Str → Option Value} {base : Heap}
abbrev nLWires : List Str := ["_law_well_here", "_law_gates_here", "_law_k", "_law_starts", "_law_ends", "_law_found", "_law_start", "_law_end", "_law_many"]
theorem scLWires : FnScope nLWires ["_law_well_here", "_law_gates_here"] (defScope sLWires) := ⟨rfl, rfl, rfl, by decide +kernel, rfl, by decide +kernel, by decide +kernel⟩
abbrev DLWires (P : Program) (w : World) (K : PySem.W.Frag) (mg : Str → Option Value) (base : Heap) := Df P w K mg base 3 "_law_wires" ["_law_well_here", "_law_gates_here"] (spLWires K)
theorem ok_lwires {f fD fW : Addr} {fd fdD fdW : FuncData} (F : Fun K "_law_wires" "_law_wires" sLWires f fd) (hm : mg "_law_wires" = some (.ref f)) (B : Bt mg) (DD : DDraw P w K mg base fD fdD) (DWo : DLWorths P w K mg base fW fdW) : DLWires P w K mg base f fd := by
  refine ⟨?_, hm, F.kp, F.binds fun _ _ _ _ _ _ us hl => match us, hl with | [_, _], _ => rfl⟩
  refine F.ok scLWires (fun vs H Q E h => ?_) (fun cdv A outer s H vs Q E hr h => ?_)
  · obtain ⟨wl, lg, gs, rfl, _⟩ := h
    rfl
  · obtain ⟨wl, lg, gs, rfl, hw, nlg, G, hg7, ⟨i0, hi0, hk0⟩, q⟩ := h
    have nd := scLWires.nd
    have hr1 : Room 1 _ := hr.mono (by decide)
    refine ⟨_, pss_cons (ps_setLc (i := 3) (own := [("_law_k", 2)]) (g := (gName 2)) (tt := (tTest (tOp rNe (tOp (rIxT K) (tOp (rIxL K) (tVar 1) (tVar 2)) (tC (.int 0))) (tC (.str "out"))))) (te := (tVar 2)) rfl nd rfl rfl (sw_true rfl rfl rfl (by decide +kernel)) (pi_range1 (by rfl) B.range (pa_cons (pe_callB call_len_seq (by rfl) B.len PySem.boot_len (pa_cons (pv 1) pa_nil)) pa_nil)) (blkOk_by (N := nLWires) (sc := defScope sLWires) (own := [("_law_k", 2)]) (by decide +kernel)) (fun _ _ _ _ _ => (pg_name (i := 2) nd rfl (.inl rfl))) (fun _ _ _ _ _ => pts_one (pt_cmpR op_ne (pe_ix ix_tup (pe_ix ix_list (pv 1) (pv 2) (fun _ _ => rfl)) pe_int (fun _ _ => rfl)) pe_str (nomark _))) (fun _ _ _ _ _ => (pv 2))) <|
        pss_cons (ps_setLc (i := 4) (own := [("_law_k", 2)]) (g := (gName 2)) (tt := (tTest (tOp (rIn K true) (tOp (rIxT K) (tOp (rIxL K) (tVar 1) (tVar 2)) (tC (.int 0))) (tLst (tCons (tC (.str "in")) (tCons (tC (.str "out")) tNil)))))) (te := (tVar 2)) rfl nd rfl rfl (sw_true rfl rfl rfl (by decide +kernel)) (pi_range1 (by rfl) B.range (pa_cons (pe_callB call_len_seq (by rfl) B.len PySem.boot_len (pa_cons (pv 1) pa_nil)) pa_nil)) (blkOk_by (N := nLWires) (sc := defScope sLWires) (own := [("_law_k", 2)]) (by decide +kernel)) (fun _ _ _ _ _ => (pg_name (i := 2) nd rfl (.inl rfl))) (fun _ _ _ _ _ => pts_one (pt_cmpR op_notIn_seq (pe_ix ix_tup (pe_ix ix_list (pv 1) (pv 2) (fun _ _ => rfl)) pe_int (fun _ _ => rfl)) (pe_lst (pa_cons pe_str (pa_cons pe_str pa_nil))) (by rfl))) (fun _ _ _ _ _ => (pv 2))) <|
        pss_cons (ps_set (i := 5) nd rfl (.inl rfl) (pe_lst pa_nil)) <|
        pss_cons (ps_for PassesOwn.never rfl (pi_range1 (by rfl) B.range (pa_cons (pe_op op_mul (pe_call DD.ok hr1 (by rfl) DD.mg DD.kp DD.bd .nil pass0 (pa_cons (pv 0) (pa_cons (pe_op op_add (pe_op op_mul pe_int (pe_callB call_len_seq (by rfl) B.len PySem.boot_len (pa_cons (pv 1) pa_nil))) pe_int) pa_nil))) (pe_callTy call_int1 (by rfl) B.int (by decide +kernel) (pa_cons (pe_cmpR (op_neD hr.units) (pv 4) (pe_lst pa_nil) (nomark _)) pa_nil))) pa_nil)) (pg_name (i := 2) nd rfl (.inl rfl)) (pss_cons (ps_set (i := 6) nd rfl (.inl rfl) (pe_ix ix_list (pv 3) (pe_call DD.ok hr1 (by rfl) DD.mg DD.kp DD.bd .nil pass0 (pa_cons (pv 0) (pa_cons (pe_callB call_len_seq (by rfl) B.len PySem.boot_len (pa_cons (pv 3) pa_nil)) pa_nil))) (fun _ _ => rfl))) <|
        pss_cons (ps_set (i := 7) nd rfl (.inl rfl) (pe_ix ix_list (pv 4) (pe_call DD.ok hr1 (by rfl) DD.mg DD.kp DD.bd .nil pass0 (pa_cons (pv 0) (pa_cons (pe_callB call_len_seq (by rfl) B.len PySem.boot_len (pa_cons (pv 4) pa_nil)) pa_nil))) (fun _ _ => rfl))) <|
        pss_cons (ps_set (i := 8) nd rfl (.inl rfl) (pe_op op_add (pe_ix ix_list (pe_lst (pa_cons pe_int (pa_cons pe_int (pa_cons pe_int (pa_cons pe_int (pa_cons pe_int (pa_cons pe_int pa_nil))))))) (pe_call DD.ok hr1 (by rfl) DD.mg DD.kp DD.bd .nil pass0 (pa_cons (pv 0) (pa_cons pe_int pa_nil))) (fun _ _ => rfl)) (pe_callTy call_int1 (by rfl) B.int (by decide +kernel) (pa_cons (pe_cmpR op_ge (pv 6) (pv 7) (nomark _)) pa_nil)))) <|
        pss_one (ps_expr (pe_bm PySem.F.plainAttrs_list PySem.F.slot_list_append PySem.F.type_list_append mt_append (pv 5) (pa_cons (pe_tup (pa_cons (pv 6) (pa_cons (pv 7) (pa_cons (pe_call DWo.ok hr (by rfl) DWo.mg DWo.kp DWo.bd .nil pass0 (pa_cons (pv 0) (pa_cons (pv 8) pa_nil))) pa_nil)))) pa_nil))))) <|
        pss_cons (ps_for PassesOwn.never rfl (pi_range1 (by rfl) B.range (pa_cons (pe_callB call_len_seq (by rfl) B.len PySem.boot_len (pa_cons (pv 1) pa_nil)) pa_nil)) (pg_name (i := 2) nd rfl (.inl rfl)) (pss_one (ps_if (pt_cmpR op_eq (pe_ix ix_tup (pe_ix ix_list (pv 1) (pv 2) (fun _ _ => rfl)) pe_int (fun _ _ => rfl)) pe_str (nomark _)) (pss_cons (ps_set (i := 6) nd rfl (.inl rfl) (pe_ix ix_list (pv 3) (pe_call DD.ok hr1 (by rfl) DD.mg DD.kp DD.bd .nil pass0 (pa_cons (pv 0) (pa_cons (pe_callB call_len_seq (by rfl) B.len PySem.boot_len (pa_cons (pv 3) pa_nil)) pa_nil))) (fun _ _ => rfl))) <|
        pss_one (ps_expr (pe_bm PySem.F.plainAttrs_list PySem.F.slot_list_insert PySem.F.type_list_insert mt_insert (pv 5) (pa_cons (pe_call DD.ok hr1 (by rfl) DD.mg DD.kp DD.bd .nil pass0 (pa_cons (pv 0) (pa_cons (pe_op op_add (pe_callB call_len_seq (by rfl) B.len PySem.boot_len (pa_cons (pv 5) pa_nil)) pe_int) pa_nil))) (pa_cons (pe_tup (pa_cons (pv 6) (pa_cons (pv 2) (pa_cons (pe_call DWo.ok hr (by rfl) DWo.mg DWo.kp DWo.bd .nil pass0 (pa_cons (pv 0) (pa_cons (pe_call DD.ok hr1 (by rfl) DD.mg DD.kp DD.bd .nil pass0 (pa_cons (pv 0) (pa_cons pe_int pa_nil))) pa_nil))) pa_nil)))) pa_nil))))) pss_nil))) <|
        pss_one (ps_ret (pv 5)), ?_⟩
    obtain ⟨gv, hgv, ga⟩ := id G
    have hlg : gv.length = gs.length := ga.1
    -- starts
    refine ⟨_, rfl, lg, gv, rfl, .inl (SqL.of hgv), _, rfl, by omega, by omega, fun ls hls => ?_⟩
    rw [Int.toNat_natCast, hlg]
    refine lc_range (lo := 0) (n := gs.length) (fun i Hc => Hc ls = some (.lst (ivN (flt (pS gs) i))) ∧ Same H Hc) ⟨upd_same, same_new hls⟩ ?_ ?_
    · rintro i Hc hi ⟨hc, sm⟩
      obtain ⟨_, hv, a, rfl, sq⟩ := ga.getR (List.getElem?_eq_getElem hi)
      have ei : (0 : Int) + ((i : Nat) : Int) = ((i : Nat) : Int) := Int.zero_add _
      rw [ei]
      have hk : kindAt gs i = (gs[i]).1 := kindAt_get (List.getElem?_eq_getElem hi)
      refine ⟨rfl, ?_⟩
      refine ⟨_, rfl, _, rfl, lg, gv, i, _, rfl, rfl, SqL.of (sm _ _ hgv), atI_nat hv, a, _, 0, _, rfl, rfl, (TK.same sm).seq sq, atI_nat (j := 0) rfl, rfl, pS gs i, ?_, ?_⟩
      · unfold pS
        rw [hk]
      cases hp : pS gs i with
      | true =>
        refine iteT ⟨_, rfl, _, hc, ?_, ?_, same_mut sm hls⟩
        · rw [ivN_len]
          have := flt_len (pS gs) i
          exact small1000 (by omega)
        · rw [upd_same, flt_succ, if_pos hp, ivN_snoc]
      | false =>
        refine iteF ⟨?_, sm⟩
        rw [flt_succ, if_neg (by rw [hp]; decide)]
        exact hc
    rintro H1 ⟨hs1, s1⟩
    have hgv1 := s1 _ _ hgv
    have ga1 := ga.imp fun _ _ r => r.tk (TK.same s1)
    -- ends
    refine ⟨_, rfl, lg, gv, rfl, .inl (SqL.of hgv1), _, rfl, by omega, by omega, fun le hle => ?_⟩
    rw [Int.toNat_natCast, hlg]
    refine lc_range (lo := 0) (n := gs.length) (fun i Hc => Hc le = some (.lst (ivN (flt (pE gs) i))) ∧ Same H1 Hc) ⟨upd_same, same_new hle⟩ ?_ ?_
    · rintro i Hc hi ⟨hc, sm⟩
      obtain ⟨_, hv, a, rfl, sq⟩ := ga1.getR (List.getElem?_eq_getElem hi)
      have ei : (0 : Int) + ((i : Nat) : Int) = ((i : Nat) : Int) := Int.zero_add _
      rw [ei]
      have hk : kindAt gs i = (gs[i]).1 := kindAt_get (List.getElem?_eq_getElem hi)
      refine ⟨rfl, ?_⟩
      refine ⟨_, rfl, _, rfl, lg, gv, i, _, rfl, rfl, SqL.of (sm _ _ hgv1), atI_nat hv, a, _, 0, _, rfl, rfl, (TK.same sm).seq sq, atI_nat (j := 0) rfl, (by show 2 ≤ sizeLine; decide), fun l2 hl2 => ?_⟩
      have t2 := same_new (o := .lst [.str "in", .str "out"]) hl2
      have e2 : (upd Hc l2 (.lst [.str "in", .str "out"])) l2 = some (.lst [.str "in", .str "out"]) := upd_same
      have hc2 := t2 _ _ hc
      refine ⟨l2, _, rfl, .inl (SqL.of e2), rfl, rfl, pE gs i, ?_, ?_⟩
      · unfold pE
        rw [hk]
        rfl
      cases hp : pE gs i with
      | true =>
        refine iteT ⟨_, rfl, _, hc2, ?_, ?_, same_mut (sm.trans t2) hle⟩
        · rw [ivN_len]
          have := flt_len (pE gs) i
          exact small1000 (by omega)
        · rw [upd_same, flt_succ, if_pos hp, ivN_snoc]
      | false =>
        refine iteF ⟨?_, sm.trans t2⟩
        rw [flt_succ, if_neg (by rw [hp]; decide)]
        exact hc2
    rintro H2 ⟨he2, s2⟩
    have s02 := s1.trans s2
    have hs2 := s2 _ _ hs1
    have hls0 : ls ≠ wl := (hw.ne hls).symm
    have hle0 : le ≠ wl := ((hw.same s1).ne hle).symm
    have sne : 0 < (flt (pS gs) gs.length).length := List.length_pos_of_mem (flt_mem.mpr ⟨hi0, pS_iff.mpr hk0⟩)
    have sl := flt_len (pS gs) gs.length
    have el := flt_len (pE gs) gs.length
    generalize hST : flt (pS gs) gs.length = ST at hs2 sne sl
    generalize hEN : flt (pE gs) gs.length = EN at he2 el
    have sST : ∀ k ∈ ST, k < gs.length ∧ kindAt gs k ≠ "out" := fun k hk => by
      rw [← hST] at hk
      obtain ⟨h1, h2⟩ := flt_mem.mp hk
      exact ⟨h1, pS_iff.mp h2⟩
    have sEN : ∀ k ∈ EN, k < gs.length ∧ ¬ portK (kindAt gs k) := fun k hk => by
      rw [← hEN] at hk
      obtain ⟨h1, h2⟩ := flt_mem.mp hk
      exact ⟨h1, pE_iff.mp h2⟩
    -- found
    refine ⟨(by show 0 ≤ sizeLine; decide), fun lf hlf => ?_⟩
    have t3 := same_new (o := .lst []) hlf
    have ef : (upd H2 lf (.lst [])) lf = some (.lst []) := upd_same
    have hlf0 : H lf = none := s02.free hlf
    have nlf : lf ≠ wl := ((hw.same s02).ne hlf).symm
    generalize upd H2 lf (.lst []) = H3 at t3 ef
    have s03 := s02.trans t3
    have D3 := Dr.ofSame hw s03
    have hgv3 := s03 _ _ hgv
    have hs3 := t3 _ _ hs2
    have he3 := t3 _ _ he2
    have ngf : lg ≠ lf := ne_of_none hgv hlf0
    have nsf : ls ≠ lf := ne_of_none hs2 hlf
    have nef : le ≠ lf := ne_of_none he2 hlf
    refine gn_norm (σ' := [some (.ref wl), some (.ref lg), none, some (.ref ls), some (.ref le), some (.ref lf), none, none, none]) rfl ?_
    -- what stands
    have keep : ∀ {H' : Hp} {a : Addr} {xs : List V}, a ≠ wl → a ≠ lf → But wl H3 H' → H3 a = some (.lst xs) → H' a = some (.lst xs) := fun h1 _ b e => b _ _ h1 e
    -- inner wires
    refine ⟨_, rfl, _, rfl, lg, gv, rfl, .inl (SqL.of hgv3), _, _, rfl, rfl, .inl ⟨by decide, by decide⟩, _, _, rfl, rfl, wl, _, rfl, by omega, by omega, D3.well, fun d H4 d0 d1 E4 => ?_⟩
    have D4 := D3.trans E4
    have he4 := E4.but _ _ hle0 he3
    refine ⟨_, rfl, (by show 0 ≤ sizeLine; decide), fun l5 hl5 => ?_⟩
    have t5 := same_new (o := .lst []) hl5
    have e5 : (upd H4 l5 (.lst [])) l5 = some (.lst []) := upd_same
    have E5 := E4.trans (Dr.ofSame E4.well t5)
    have he5 := t5 _ _ he4
    generalize upd H4 l5 (.lst []) = H5 at t5 e5 E5 he5
    have dpE : Dp K H5 (.ref le) (numsD (EN.map fun i => ((i : Nat) : Int))) := dp_nums (SqL.of he5)
    have dp5 : Dp K H5 (.ref l5) (numsD []) := dp_nums (SqL.of e5)
    refine ⟨_, _, dpE, dp5, Sh.ok (sh_nums _) (by decide), Sh.ok (sh_nums _) (by decide), .inr ⟨_, rfl, _, _, rfl, rfl, .inl ?_, ?_⟩⟩
    · have e64 : (2 ^ 64 : Int) = 18446744073709551616 := by decide
      exact ⟨by omega, by omega⟩
    rw [numsD_eq]
    obtain ⟨N0, hN0, hN14, hNE⟩ : ∃ N0 : Nat, d * (if (!decide (EN.map (fun i => ((i : Nat) : Int)) = [])) = true then 1 else 0) = (N0 : Int) ∧ N0 ≤ 14 ∧ (EN = [] → N0 = 0) := by
      by_cases hE : EN = []
      · exact ⟨0, by rw [hE]; show d * 0 = 0; rw [Int.mul_zero], by decide, fun _ => rfl⟩
      · refine ⟨d.toNat, ?_, by omega, fun z => absurd z hE⟩
        rw [decide_eq_false (fun z => hE (List.map_eq_nil_iff.mp z))]
        show d * 1 = _
        omega
    refine ⟨(N0 : Int), congrArg (fun z => [V.int z]) hN0, by omega, by omega, for_range (lo := 0) (n := ((N0 : Nat) : Int).toNat) (fun i σ H' => ∃ (u2 u6 u7 u8 : Option V) (acc : List V) (ws : List Wr), σ = [some (.ref wl), some (.ref lg), u2, some (.ref ls), some (.ref le), some (.ref lf), u6, u7, u8] ∧ H' lf = some (.lst acc) ∧ All2 (WireV K H') acc ws ∧ WIW gs ws 0 ∧ ws.length = i ∧ H' ls = some (.lst (ivN ST)) ∧ H' le = some (.lst (ivN EN)) ∧ H' lg = some (.lst gv) ∧ Dr wl H H')
      ⟨_, _, _, _, [], [], rfl, E5.but _ _ nlf ef, All2.nil, WIW.nil gs, rfl, E5.but _ _ hls0 hs3, he5, E5.but _ _ nlg hgv3, D3.trans E5⟩ ?_ ?_⟩
    · rintro i σ H6 hi ⟨u2, u6, u7, u8, acc, ws, rfl, hacc, haa, wi, hwl, hs6, he6, hg6, D6⟩
      have hal : acc.length = i := by rw [haa.1, hwl]
      have hEne : 0 < EN.length := by
        cases hE : EN with
        | nil => have := hNE hE; omega
        | cons _ _ => exact Nat.succ_pos _
      have lS := ivN_len ST
      have lE := ivN_len EN
      refine ⟨_, rfl, _, rfl, _, rfl, ls, ivN ST, rfl, .inl (SqL.of hs6), wl, _, rfl, by omega, by omega, D6.well, fun d1 H7 d10 d11 E7 => ?_⟩
      obtain ⟨k1, hk1⟩ : ∃ k, ST[d1.toNat]? = some k := ⟨_, List.getElem?_eq_getElem (by omega)⟩
      obtain ⟨k1l, k1o⟩ := sST k1 (List.mem_of_getElem? hk1)
      refine ⟨ls, ivN ST, d1, _, rfl, rfl, SqL.of (E7.but _ _ hls0 hs6), at_of (j := d1.toNat) (by omega) (ivN_at hk1), ?_⟩
      refine gn_norm (σ' := [some (.ref wl), some (.ref lg), some (.int (0 + (i : Nat))), some (.ref ls), some (.ref le), some (.ref lf), some (.int (k1 : Nat)), u7, u8]) rfl ?_
      refine ⟨_, rfl, _, rfl, _, rfl, le, ivN EN, rfl, .inl (SqL.of (E7.but _ _ hle0 he6)), wl, _, rfl, by omega, by omega, E7.well, fun d2 H8 d20 d21 E8 => ?_⟩
      obtain ⟨k2, hk2⟩ : ∃ k, EN[d2.toNat]? = some k := ⟨_, List.getElem?_eq_getElem (by omega)⟩
      obtain ⟨k2l, k2o⟩ := sEN k2 (List.mem_of_getElem? hk2)
      have E68 := E7.trans E8
      refine ⟨le, ivN EN, d2, _, rfl, rfl, SqL.of (E68.but _ _ hle0 he6), at_of (j := d2.toNat) (by omega) (ivN_at hk2), ?_⟩
      refine gn_norm (σ' := [some (.ref wl), some (.ref lg), some (.int (0 + (i : Nat))), some (.ref ls), some (.ref le), some (.ref lf), some (.int (k1 : Nat)), some (.int (k2 : Nat)), u8]) rfl ?_
      refine ⟨(by show 6 ≤ sizeLine; decide), fun l8 hl8 => ?_⟩
      have E9 := E68.trans (Dr.new (o := .lst [.int 0, .int 0, .int 1, .int 1, .int 2, .int 3]) E8.well hl8)
      refine ⟨_, rfl, wl, 6, rfl, by decide, by decide, E9.well, fun j H10 j0 j1 E10 => ?_⟩
      have el8 := E10.but _ _ (E8.well.ne hl8).symm (upd_same (H := H8) (a := l8) (o := .lst [.int 0, .int 0, .int 1, .int 1, .int 2, .int 3]))
      obtain ⟨wt, hwt, w0, w1⟩ : ∃ wt : Int, ([.int 0, .int 0, .int 1, .int 1, .int 2, .int 3] : List V)[j.toNat]? = some (.int wt) ∧ 0 ≤ wt ∧ wt ≤ 3 := by
        rcases (by omega : j.toNat = 0 ∨ j.toNat = 1 ∨ j.toNat = 2 ∨ j.toNat = 3 ∨ j.toNat = 4 ∨ j.toNat = 5) with h | h | h | h | h | h <;> rw [h]
        · exact ⟨0, rfl, by decide, by decide⟩
        · exact ⟨0, rfl, by decide, by decide⟩
        · exact ⟨1, rfl, by decide, by decide⟩
        · exact ⟨1, rfl, by decide, by decide⟩
        · exact ⟨2, rfl, by decide, by decide⟩
        · exact ⟨3, rfl, by decide, by decide⟩
      refine ⟨l8, _, j, .int wt, rfl, rfl, SqL.of el8, at_of (j := j.toNat) (by omega) hwt, ?_⟩
      have D10 := (D6.trans E9).trans E10
      have E610 := E9.trans E10
      refine ⟨_, rfl, _, rfl, _, _, rfl, rfl, .inr ⟨_, rfl, _, _, rfl, rfl, ?_⟩⟩
      obtain ⟨m, hm, hm4, hm1⟩ : ∃ m : Nat, wt + (if decide (((k1 : Nat) : Int) ≥ ((k2 : Nat) : Int)) = true then 1 else 0) = (m : Int) ∧ m ≤ 4 ∧ (m = 0 → k1 < k2) := by
        by_cases h : ((k1 : Nat) : Int) ≥ ((k2 : Nat) : Int)
        · exact ⟨(wt + 1).toNat, by rw [if_pos (decide_eq_true h)]; omega, by omega, fun z => by omega⟩
        · exact ⟨wt.toNat, by rw [if_neg (by rw [decide_eq_false h]; decide)]; omega, by omega, fun z => by omega⟩
      refine gn_norm (σ' := [some (.ref wl), some (.ref lg), some (.int (0 + (i : Nat))), some (.ref ls), some (.ref le), some (.ref lf), some (.int (k1 : Nat)), some (.int (k2 : Nat)), some (.int (m : Nat))]) (by rw [← hm]; rfl) ?_
      have hacc10 := E610.but _ _ nlf hacc
      refine ⟨_, rfl, .inl ⟨rfl, _, SqL.of hacc10⟩, _, rfl, _, rfl, _, rfl, _, rfl, wl, m, rfl, by omega, D10.well, fun p rs H11 E11 hp hrl hro => ?_⟩
      have E611 := E610.trans E11
      refine ⟨(by show 3 ≤ sizeLine; decide), fun p2 hp2 => ?_⟩
      have E12 := E611.trans (Dr.new (o := .tup [.int (k1 : Nat), .int (k2 : Nat), .ref p]) E11.well hp2)
      have hacc12 := E12.but _ _ nlf hacc
      have sn : Same H11 (upd H11 p2 (.tup [.int (k1 : Nat), .int (k2 : Nat), .ref p])) := same_new hp2
      refine ⟨lf, acc, _, rfl, rfl, hacc12, small1000 (by omega), ?_⟩
      have D12 := set_well (o := .lst (acc ++ [.ref p2])) (D6.trans E12) hlf0 nlf
      refine ⟨_, _, _, _, acc ++ [.ref p2], ws ++ [(k1, k2, rs)], rfl, upd_same, ?_, wi.inner ⟨k1l, k2l, k1o, fun z => k2o (.inl z), hro, by show rs.length ≤ 100; omega⟩ (by show rs.length ≤ 4; omega) (fun z => hm1 (by have z : rs = [] := z; rw [z] at hrl; exact hrl.symm)) (fun z => k2o (.inr z)), by rw [List.length_append, hwl]; rfl, (upd_ne nsf).trans (E12.but _ _ hls0 hs6), (upd_ne nef).trans (E12.but _ _ hle0 he6), (upd_ne ngf).trans (E12.but _ _ nlg hg6), D12⟩
      exact All2.pushT (fun t r => WireV.tk t r) haa hacc12 (TK.dr D6.well E12.but) ⟨p2, p, rfl, .inl (.inl upd_same), .inl (.inl (sn _ _ hp))⟩
    rintro σ H6 ⟨u2, u6, u7, u8, acc, ws, rfl, hacc, haa, wi, hwl, hs6, he6, hg6, D6⟩
    -- wires into outputs
    refine ⟨_, rfl, lg, gv, rfl, .inl (SqL.of hg6), _, rfl, by omega, by omega, ?_⟩
    refine for_range (lo := 0) (n := ((gv.length : Nat) : Int).toNat) (fun i σ H' => ∃ (u2 u6 u7 u8 : Option V) (acc : List V) (us : List Wr), σ = [some (.ref wl), some (.ref lg), u2, some (.ref ls), some (.ref le), some (.ref lf), u6, u7, u8] ∧ H' lf = some (.lst acc) ∧ All2 (WireV K H') acc us ∧ WIW gs us i ∧ us.length ≤ ws.length + i ∧ H' ls = some (.lst (ivN ST)) ∧ H' lg = some (.lst gv) ∧ Dr wl H H')
      ⟨_, _, _, _, acc, ws, rfl, hacc, haa, wi, Nat.le_refl _, hs6, hg6, D6⟩ ?_ ?_
    · rintro i σ H7 hi ⟨u2, u6, u7, u8, acc, us, rfl, hacc, haa, wi, hul, hs7, hg7', D7⟩
      have hi' : i < gs.length := by omega
      have lS := ivN_len ST
      have hal : acc.length = us.length := haa.1
      have ei : (0 : Int) + ((i : Nat) : Int) = ((i : Nat) : Int) := Int.zero_add _
      rw [ei]
      obtain ⟨_, hv, a, rfl, sq⟩ := ga.getR (List.getElem?_eq_getElem hi')
      have hk : kindAt gs i = (gs[i]).1 := kindAt_get (List.getElem?_eq_getElem hi')
      refine gn_norm (σ' := [some (.ref wl), some (.ref lg), some (.int (i : Nat)), some (.ref ls), some (.ref le), some (.ref lf), u6, u7, u8]) rfl ?_
      refine ⟨_, rfl, _, rfl, lg, gv, i, _, rfl, rfl, SqL.of hg7', atI_nat hv, a, _, 0, _, rfl, rfl, (TK.dr hw D7.but).seq sq, atI_nat (j := 0) rfl, rfl, _, rfl, ite2 (fun e => ?_) (fun e => ?_)⟩
      · have ko : kindAt gs i = "out" := by
          rw [hk]
          exact V.str.inj (of_decide_eq_true e)
        refine ⟨_, rfl, _, rfl, _, rfl, ls, ivN ST, rfl, .inl (SqL.of hs7), wl, _, rfl, by omega, by omega, D7.well, fun d1 H8 d10 d11 E8 => ?_⟩
        obtain ⟨k1, hk1⟩ : ∃ k, ST[d1.toNat]? = some k := ⟨_, List.getElem?_eq_getElem (by omega)⟩
        obtain ⟨k1l, k1o⟩ := sST k1 (List.mem_of_getElem? hk1)
        refine ⟨ls, ivN ST, d1, _, rfl, rfl, SqL.of (E8.but _ _ hls0 hs7), at_of (j := d1.toNat) (by omega) (ivN_at hk1), ?_⟩
        refine gn_norm (σ' := [some (.ref wl), some (.ref lg), some (.int (i : Nat)), some (.ref ls), some (.ref le), some (.ref lf), some (.int (k1 : Nat)), u7, u8]) rfl ?_
        have hacc8 := E8.but _ _ nlf hacc
        refine ⟨_, rfl, .inl ⟨rfl, _, SqL.of hacc8⟩, _, rfl, _, rfl, lf, acc, rfl, .inl (SqL.of hacc8), _, _, rfl, rfl, wl, _, rfl, by omega, by omega, E8.well, fun at' H9 a0 a1 E9 => ?_⟩
        refine ⟨_, rfl, _, rfl, _, rfl, _, rfl, wl, 3, rfl, by decide, by decide, E9.well, fun m H10 m0 m1 E10 => ?_⟩
        have E710 := (E8.trans E9).trans E10
        refine ⟨wl, m.toNat, by show [V.ref wl, V.int m] = _; rw [Int.toNat_of_nonneg m0], by omega, E710.well, fun p rs H11 E11 hp hrl hro => ?_⟩
        have E711 := E710.trans E11
        refine ⟨(by show 3 ≤ sizeLine; decide), fun p2 hp2 => ?_⟩
        have E12 := E711.trans (Dr.new (o := .tup [.int (k1 : Nat), .int (i : Nat), .ref p]) E711.well hp2)
        have hacc12 := E12.but _ _ nlf hacc
        have sn : Same H11 (upd H11 p2 (.tup [.int (k1 : Nat), .int (i : Nat), .ref p])) := same_new hp2
        have hb63 : at' < 2 ^ 63 := by
          have e63 : (2 ^ 63 : Int) = 9223372036854775808 := by decide
          omega
        refine ⟨lf, acc, at', _, rfl, rfl, hacc12, small1000 (by omega), a0, hb63, ?_⟩
        refine ⟨_, _, _, _, acc.take at'.toNat ++ [.ref p2] ++ acc.drop at'.toNat, us.take at'.toNat ++ [(k1, i, rs)] ++ us.drop at'.toNat, rfl, upd_same, ?_, wi.outer (x := (k1, i, rs)) ⟨k1l, hi', k1o, fun z => by rw [ko] at z; exact absurd z (by decide), hro, by show rs.length ≤ 100; omega⟩ (by show rs.length ≤ 4; omega) rfl ko (insert_perm _ _ _), ?_, (upd_ne nsf).trans (E12.but _ _ hls0 hs7), (upd_ne ngf).trans (E12.but _ _ nlg hg7'), set_well (D7.trans E12) hlf0 nlf⟩
        · have b12 : All2 (WireV K (upd (upd H11 p2 (.tup [.int (k1 : Nat), .int (i : Nat), .ref p])) lf (.lst (acc.take at'.toNat ++ [.ref p2] ++ acc.drop at'.toNat)))) acc us := haa.imp fun _ _ r => (r.tk (TK.dr D7.well E12.but)).tk (TK.lst hacc12)
          have one : WireV K (upd (upd H11 p2 (.tup [.int (k1 : Nat), .int (i : Nat), .ref p])) lf (.lst (acc.take at'.toNat ++ [.ref p2] ++ acc.drop at'.toNat))) (.ref p2) (k1, i, rs) := WireV.tk (TK.lst hacc12) ⟨p2, p, rfl, .inl (.inl upd_same), .inl (.inl (sn _ _ hp))⟩
          exact ((b12.take _).append (All2.nil.snoc one)).append (b12.drop _)
        · rw [(insert_perm us at'.toNat (k1, i, rs)).length_eq, List.length_append]
          show us.length + 1 ≤ _
          omega
      · have ko : kindAt gs i ≠ "out" := by
          rw [hk]
          intro z
          exact e (decide_eq_true (by rw [z]))
        exact ⟨_, _, _, _, acc, us, rfl, hacc, haa, wi.skip ko, by omega, hs7, hg7', D7⟩
    · rintro σ H7 ⟨u2, u6, u7, u8, acc, us, rfl, hacc, haa, wi7, hul, hs7, hg7', D7⟩
      have en : ((gv.length : Nat) : Int).toNat = gs.length := by omega
      rw [en] at wi7 hul
      exact ⟨_, rfl, q lf us H7 D7 hlf0 ⟨acc, hacc, haa⟩ wi7 (by omega)⟩
end
end Lag

set_option maxRecDepth 100000
set_option maxHeartbeats 8000000
namespace Lag
open PySem PySem.Spec PyProof.Rows L2
abbrev sLParts : Stmt := topS 48 -- @_law_parts
def rInt1 : List V → Hp → VK → Prop := fun xs H Q => (∃ i, xs = [.int i] ∧ Q (.int i) H) ∨ ∃ k, xs = [.bl k] ∧ Q (.int (if k then 1 else 0)) H
theorem int_or {ta tb : TE} {σ : L2.St} {H : Hp} {Q : VK} (c d : Bool) (ha : ∀ Q' : VK, Q' (.bl c) H → ta σ H Q') (hb : ∀ Q' : VK, Q' (.bl d) H → tb σ H Q') (q : Q (.int (if (c || d) = true then 1 else 0)) H) : tCB rInt1 (tCons (tOrV ta tb) tNil) σ H Q := by
  refine ha _ ⟨c, rfl, ?_⟩
  cases c with
  | false => exact hb _ (.inr ⟨d, rfl, q⟩)
  | true => exact .inr ⟨true, rfl, q⟩
theorem All2.set {α β : Type} {R : α → β → Prop} {xs : List α} {ys : List β} (h : All2 R xs ys) {i : Nat} {x : α} {y : β} (r : R x y) : All2 R (xs.set i x) (ys.set i y) := by
  refine ⟨by rw [List.length_set, List.length_set, h.1], fun j a b ha hb => ?_⟩
  rw [List.getElem?_set] at ha hb
  by_cases e : i = j
  · rw [if_pos e] at ha hb
    by_cases hl : i < xs.length
    · have hl2 : i < ys.length := by rw [← h.1]; exact hl
      rw [if_pos (by omega)] at ha hb
      cases ha
      cases hb
      exact r
    · rw [if_neg (by omega)] at ha
      cases ha
  · rw [if_neg e] at ha hb
    exact h.2 j a b ha hb
/-! ### numbered on from t -/
def rotL (n t : Nat) : List Nat := (List.range n).drop t ++ (List.range n).take t
theorem rot_perm (n t : Nat) : (rotL n t).Perm (List.range n) := by
  unfold rotL
  refine List.perm_append_comm.trans ?_
  rw [List.take_append_drop]
theorem rot_map {gs : List Gt} (t : Nat) : ((rotL gs.length t).map fun k => gs.getD k ("", 0)) = gs.drop t ++ gs.take t := by
  have e : (List.range gs.length).map (fun k => gs.getD k ("", 0)) = gs := by
    refine List.ext_getElem? fun i => ?_
    rw [List.getElem?_map]
    by_cases h : i < gs.length
    · rw [List.getElem?_range h, List.getElem?_eq_getElem h]
      show some (gs.getD i ("", 0)) = _
      rw [List.getD_eq_getElem?_getD, List.getElem?_eq_getElem h]
      rfl
    · rw [List.getElem?_eq_none (by rw [List.length_range]; omega), List.getElem?_eq_none (by omega)]
      rfl
  unfold rotL
  rw [List.map_append, List.map_drop, List.map_take, e]
theorem rot_idx {n t i : Nat} (ht : t ≤ n) (hi : i < n) : (((rotL n t).idxOf i : Nat) : Int) = ((i : Int) - (t : Int)) % (n : Int) := by
  have nd : (rotL n t).Nodup := (rot_perm n t).nodup_iff.mpr List.nodup_range
  have key : ∀ j, (rotL n t)[j]? = some i → (rotL n t).idxOf i = j := fun j hj => by
    obtain ⟨hjl, e⟩ := List.getElem?_eq_some_iff.mp hj
    rw [← e]
    exact List.Nodup.idxOf_getElem nd j hjl
  rcases Nat.lt_or_ge i t with h | h
  · have hj : (rotL n t)[n - t + i]? = some i := by
      unfold rotL
      rw [List.getElem?_append_right (by rw [List.length_drop, List.length_range]; omega), List.length_drop, List.length_range, List.getElem?_take_of_lt (by omega), List.getElem?_range (by omega)]
      congr 1
      omega
    rw [key _ hj]
    have : ((i : Int) - (t : Int)) % (n : Int) = ((i : Int) - (t : Int) + (n : Int)) % (n : Int) := by rw [Int.add_emod_right]
    rw [this, Int.emod_eq_of_lt (by omega) (by omega)]
    omega
  · have hj : (rotL n t)[i - t]? = some i := by
      unfold rotL
      rw [List.getElem?_append_left (by rw [List.length_drop, List.length_range]; omega), List.getElem?_drop, List.getElem?_range (by omega)]
      congr 1
      omega
    rw [key _ hj, Int.emod_eq_of_lt (by omega) (by omega)]
    omega
theorem rot_on {n t i : Nat} (ht : t < n) (hi : i < n) : (((rotL n (n - t)).idxOf i : Nat) : Int) = ((i : Int) + (t : Int)) % (n : Int) := by
  rw [rot_idx (by omega) hi]
  have e : ((i : Int) - ((n - t : Nat) : Int)) = (i : Int) + (t : Int) - (n : Int) := by omega
  rw [e, Int.sub_emod_right]
/-! ### a first that nothing leads into is a sum -/
def fixK (gs : List Gt) (ws : List Wr) (k : Nat) : Str := if kindAt gs k = "first" ∧ cnt ws k = 0 then "sum" else kindAt gs k
def fixG (gs : List Gt) (ws : List Wr) : List Gt := (List.range gs.length).map fun k => (fixK gs ws k, (gs.getD k ("", 0)).2)
theorem fixG_len (gs : List Gt) (ws : List Wr) : (fixG gs ws).length = gs.length := by unfold fixG; rw [List.length_map, List.length_range]
theorem fixG_at {gs : List Gt} {ws : List Wr} {k : Nat} (h : k < gs.length) : (fixG gs ws)[k]? = some (fixK gs ws k, (gs.getD k ("", 0)).2) := by
  unfold fixG
  rw [List.getElem?_map, List.getElem?_range h]
  rfl
theorem kindAt_fix {gs : List Gt} {ws : List Wr} {k : Nat} (h : k < gs.length) : kindAt (fixG gs ws) k = fixK gs ws k := kindAt_get (fixG_at h)
theorem fixK_port {gs : List Gt} {ws : List Wr} {k : Nat} {z : Str} (hz : z = "in" ∨ z = "out") : fixK gs ws k = z ↔ kindAt gs k = z := by
  unfold fixK
  split
  · rename_i h
    constructor
    · intro e
      rcases hz with rfl | rfl <;> exact absurd e (by decide)
    · intro e
      rw [h.1] at e
      rcases hz with rfl | rfl <;> exact absurd e (by decide)
  · exact Iff.rfl
theorem WIW.net {gs : List Gt} {ws : List Wr} (h : WIW gs ws gs.length) (ne : gs ≠ []) (gl : gs.length ≤ 100) (wl : ws.length ≤ 1000) (gok : ∀ g ∈ gs, GOk g) : NetOk (fixG gs ws) ws := by
  have fl := fixG_len gs ws
  refine ⟨fun z => ?_, by omega, wl, fun g hg => ?_, fun x hx => ?_, fun e he hk => ?_, fun e he hk => ?_, ?_⟩
  · rw [z] at fl
    exact ne (List.length_eq_zero_iff.mp fl.symm)
  · obtain ⟨k, hk, rfl⟩ := List.mem_map.mp hg
    have hk := List.mem_range.mp hk
    obtain ⟨g1, g2, g3, g4⟩ := gok _ (List.getElem_mem hk)
    have e1 : (gs.getD k ("", 0)) = gs[k] := by rw [List.getD_eq_getElem?_getD, List.getElem?_eq_getElem hk]; rfl
    have e2 : kindAt gs k = gs[k].1 := kindAt_get (List.getElem?_eq_getElem hk)
    rw [e1]
    refine ⟨?_, g2, g3, fun z => g4 ?_⟩
    · show fixK gs ws k ∈ kinds
      unfold fixK
      split
      · decide +kernel
      · rw [e2]
        exact g1
    · rw [← e2]
      rcases z with z | z
      · exact .inl ((fixK_port (.inl rfl)).mp z)
      · exact .inr ((fixK_port (.inr rfl)).mp z)
  · obtain ⟨w1, _⟩ := h.wok x hx
    refine ⟨by rw [fl]; exact w1.s, by rw [fl]; exact w1.e, ?_, ?_, w1.r, w1.rl⟩
    · rw [kindAt_fix w1.s]
      exact fun z => w1.ks ((fixK_port (.inr rfl)).mp z)
    · rw [kindAt_fix w1.e]
      exact fun z => w1.ke ((fixK_port (.inl rfl)).mp z)
  · rw [fl] at he
    rw [kindAt_fix he] at hk
    exact h.one e he ((fixK_port (.inr rfl)).mp hk)
  · rw [fl] at he
    rw [kindAt_fix he] at hk
    unfold fixK at hk
    split at hk
    · exact absurd hk (by decide)
    · rename_i hn
      have : cnt ws e ≠ 0 := fun z => hn ⟨hk, z⟩
      omega
  · refine ⟨fun k => if kindAt gs k = "out" then gs.length else k, fun x hx hr => ?_⟩
    obtain ⟨w1, _⟩ := h.wok x hx
    show (if kindAt gs x.1 = "out" then gs.length else x.1) < if kindAt gs x.2.1 = "out" then gs.length else x.2.1
    rw [if_neg w1.ks]
    split
    · exact w1.s
    · rename_i hn
      exact (h.rk x hx hr).resolve_left hn
def leds (ws : List Wr) : List V := (ws.map fun x => x.2.1).map fun i => V.int ((i : Nat) : Int)
theorem led_in {ws : List Wr} {k : Nat} : inV (.int ((k : Nat) : Int)) (leds ws) = true ↔ cnt ws k ≠ 0 := by
  unfold inV leds cnt
  rw [List.any_eq_true]
  constructor
  · rintro ⟨v, hv, he⟩ z
    obtain ⟨i, hi, rfl⟩ := List.mem_map.mp hv
    obtain ⟨x, hx, rfl⟩ := List.mem_map.mp hi
    have e : ((x.2.1 : Nat) : Int) = ((k : Nat) : Int) := of_decide_eq_true he
    exact absurd (List.countP_eq_zero.mp z x hx) (by simp; omega)
  · intro z
    have : 0 < ws.countP (fun x => x.2.1 == k) := Nat.pos_of_ne_zero z
    obtain ⟨x, hx, he⟩ := List.countP_pos_iff.mp this
    refine ⟨_, List.mem_map.mpr ⟨x.2.1, List.mem_map.mpr ⟨x, hx, rfl⟩, rfl⟩, ?_⟩
    rw [eq_of_beq he]
    exact decide_eq_true rfl
def nonOut (g : Gt) : Bool := !decide (V.str g.1 = V.str "out")
theorem nonOut_iff {g : Gt} : nonOut g = true ↔ g.1 ≠ "out" := by
  unfold nonOut
  rw [Bool.not_eq_true', decide_eq_false_iff_not]
  exact ⟨fun h z => h (by rw [z]), fun h z => h (V.str.inj z)⟩
def spLParts (K : PySem.W.Frag) : Sp := fun vs H Q _ => ∃ wl : Addr, vs = [.ref wl] ∧ WellAt wl H ∧
  ∀ (gs : List Gt) (ws : List Wr) (lg lw p : Addr) (H' : Hp), NetOk gs ws → gs.length ≤ 7 → ws.length ≤ 21 → (∀ x ∈ ws, x.2.2.length ≤ 4) → Dr wl H H' → H lg = none → H lw = none → lg ≠ lw → LG K H' lg gs → LW K H' lw ws → H' p = some (.tup [.ref lg, .ref lw]) → Q (.ref p) H'
section
variable {P : Program} {w : World} {K : PySem.W.Frag} {mg : Str → Option Value} {base : Heap}
abbrev nLParts : List Str := ["_law_well_here", "_law_gates_here", "_law_gate", "_law_wires_here", "_law_wire", "_law_led", "_law_k", "_law_turn", "_law_start", "_law_end", "_law_some", "_law_cut"]
theorem scLParts : FnScope nLParts ["_law_well_here"] (defScope sLParts) := ⟨rfl, rfl, rfl, by decide +kernel, rfl, by decide +kernel, by decide +kernel⟩
abbrev DLParts (P : Program) (w : World) (K : PySem.W.Frag) (mg : Str → Option Value) (base : Heap) := Df P w K mg base 4 "_law_parts" ["_law_well_here"] (spLParts K)
theorem ok_lparts {f fD fG fW : Addr} {fd fdD fdG fdW : FuncData} (F : Fun K "_law_parts" "_law_parts" sLParts f fd) (hm : mg "_law_parts" = some (.ref f)) (B : Bt mg) (DD : DDraw P w K mg base fD fdD) (DG : DLGates P w K mg base fG fdG) (DWi : DLWires P w K mg base fW fdW) : DLParts P w K mg base f fd := by
  refine ⟨?_, hm, F.kp, F.binds fun _ _ _ _ _ _ us hl => match us, hl with | [_], _ => rfl⟩
  refine F.ok scLParts (fun vs H Q E h => ?_) (fun cdv A outer s H vs Q E hr h => ?_)
  · obtain ⟨wl, rfl, _⟩ := h
    rfl
  · obtain ⟨wl, rfl, hw, q⟩ := h
    have nd := scLParts.nd
    refine ⟨_, pss_cons (ps_set (i := 1) nd rfl (.inr rfl) (pe_call DG.ok (hr.mono (by decide)) (by rfl) DG.mg DG.kp DG.bd .nil pass0 (pa_cons (pv 0) pa_nil))) <|
        Evl.pss_cut (ps_if (pt_cmpR (op_eqD hr.units) (pe_lc (own := [("_law_gate", 2)]) (g := (gName 2)) (tt := (tTest (tOp rNe (tOp (rIxT K) (tVar 2) (tC (.int 0))) (tC (.str "out"))))) (te := (tVar 2)) rfl nd (pi_list (pv 1)) (blkOk_by (N := nLParts) (sc := defScope sLParts) (own := [("_law_gate", 2)]) (by decide +kernel)) (fun _ _ _ _ _ => (pg_name (i := 2) nd rfl (.inl rfl))) (fun _ _ _ _ _ => pts_one (pt_cmpR op_ne (pe_ix ix_tup (pv 2) pe_int (fun _ _ => rfl)) pe_str (nomark _))) (fun _ _ _ _ _ => (pv 2))) (pe_lst pa_nil) (nomark _)) (pss_one (ps_asg (pe_tup (pa_cons pe_str (pa_cons pe_int pa_nil))) (pg_sub (pv 1) pe_int set_list))) pss_nil) <|
        pss_cons (ps_set (i := 3) nd rfl (.inl rfl) (pe_call DWi.ok (hr.mono (by decide)) (by rfl) DWi.mg DWi.kp DWi.bd .nil pass0 (pa_cons (pv 0) (pa_cons (pv 1) pa_nil)))) <|
        pss_cons (ps_set (i := 5) nd rfl (.inr rfl) (pe_lc (own := [("_law_wire", 4)]) (g := (gName 4)) (tt := tYes) (te := (tOp (rIxT K) (tVar 4) (tC (.int 1)))) rfl nd (pi_list (pv 3)) (blkOk_by (N := nLParts) (sc := defScope sLParts) (own := [("_law_wire", 4)]) (by decide +kernel)) (fun _ _ _ _ _ => (pg_name (i := 4) nd rfl (.inl rfl))) (fun _ _ _ _ _ => pts_nil) (fun _ _ _ _ _ => (pe_ix ix_tup (pv 4) pe_int (fun _ _ => rfl))))) <|
        pss_cons (ps_set (i := 1) nd rfl (.inr rfl) (pe_lc (own := [("_law_k", 6)]) (g := (gName 6)) (tt := tYes) (te := (tTup (tCons (tOp (rIxL K) (tLst (tCons (tC (.str "sum")) (tCons (tOp (rIxT K) (tOp (rIxL K) (tVar 1) (tVar 6)) (tC (.int 0))) tNil))) (tCB rInt1 (tCons (tOrV (tOp rNe (tOp (rIxT K) (tOp (rIxL K) (tVar 1) (tVar 6)) (tC (.int 0))) (tC (.str "first"))) (tOp (rIn K false) (tVar 6) (tVar 5))) tNil))) (tCons (tOp (rIxT K) (tOp (rIxL K) (tVar 1) (tVar 6)) (tC (.int 1))) tNil)))) rfl nd (pi_range1 (by rfl) B.range (pa_cons (pe_callB call_len_seq (by rfl) B.len PySem.boot_len (pa_cons (pv 1) pa_nil)) pa_nil)) (blkOk_by (N := nLParts) (sc := defScope sLParts) (own := [("_law_k", 6)]) (by decide +kernel)) (fun _ _ _ _ _ => (pg_name (i := 6) nd rfl (.inl rfl))) (fun _ _ _ _ _ => pts_nil) (fun _ _ _ _ _ => (pe_tup (pa_cons (pe_ix ix_list (pe_lst (pa_cons pe_str (pa_cons (pe_ix ix_tup (pe_ix ix_list (pv 1) (pv 6) (fun _ _ => rfl)) pe_int (fun _ _ => rfl)) pa_nil))) (pe_callTy call_int1 (by rfl) B.int (by decide +kernel) (pa_cons (pe_or (pe_cmpR op_ne (pe_ix ix_tup (pe_ix ix_list (pv 1) (pv 6) (fun _ _ => rfl)) pe_int (fun _ _ => rfl)) pe_str (nomark _)) (pe_one (pe_cmpR op_in_seq (pv 6) (pv 5) (by rfl)))) pa_nil)) (fun _ _ => rfl)) (pa_cons (pe_ix ix_tup (pe_ix ix_list (pv 1) (pv 6) (fun _ _ => rfl)) pe_int (fun _ _ => rfl)) pa_nil)))))) <|
        pss_cons (ps_set (i := 7) nd rfl (.inr rfl) (pe_call DD.ok (hr.mono (by decide)) (by rfl) DD.mg DD.kp DD.bd .nil pass0 (pa_cons (pv 0) (pa_cons (pe_callB call_len_seq (by rfl) B.len PySem.boot_len (pa_cons (pv 1) pa_nil)) pa_nil)))) <|
        pss_cons (ps_setLc (i := 3) (own := [("_law_start", 8), ("_law_end", 9), ("_law_some", 10)]) (g := (gTup K 3 (gCons (gName 8) (gCons (gName 9) (gCons (gName 10) gNil))))) (tt := tYes) (te := (tTup (tCons (tOp (rI (fun _ j => 0 < j) fun i j => .int (i % j)) (tOp (rI0 fun i j => .int (i + j)) (tVar 8) (tVar 7)) (tCB (Evl.rLenS K) (tCons (tVar 1) tNil))) (tCons (tOp (rI (fun _ j => 0 < j) fun i j => .int (i % j)) (tOp (rI0 fun i j => .int (i + j)) (tVar 9) (tVar 7)) (tCB (Evl.rLenS K) (tCons (tVar 1) tNil))) (tCons (tVar 10) tNil))))) rfl nd rfl rfl (sw_true rfl rfl rfl (by decide +kernel)) (pi_list (pv 3)) (blkOk_by (N := nLParts) (sc := defScope sLParts) (own := [("_law_start", 8), ("_law_end", 9), ("_law_some", 10)]) (by decide +kernel)) (fun _ _ _ _ _ => (pg_tup rfl (pgs_cons (pg_name (i := 8) nd rfl (.inl rfl)) (pgs_cons (pg_name (i := 9) nd rfl (.inl rfl)) (pgs_cons (pg_name (i := 10) nd rfl (.inl rfl)) pgs_nil))))) (fun _ _ _ _ _ => pts_nil) (fun _ _ _ _ _ => (pe_tup (pa_cons (pe_op op_mod (pe_op op_add (pv 8) (pv 7)) (pe_callB call_len_seq (by rfl) B.len PySem.boot_len (pa_cons (pv 1) pa_nil))) (pa_cons (pe_op op_mod (pe_op op_add (pv 9) (pv 7)) (pe_callB call_len_seq (by rfl) B.len PySem.boot_len (pa_cons (pv 1) pa_nil))) (pa_cons (pv 10) pa_nil)))))) <|
        pss_cons (ps_set (i := 11) nd rfl (.inl rfl) (pe_op op_sub (pe_callB call_len_seq (by rfl) B.len PySem.boot_len (pa_cons (pv 1) pa_nil)) (pv 7))) <|
        pss_one (ps_ret (pe_tup (pa_cons (pe_op op_cat (pe_slice sl_list (pv 1) (po_some (pv 11)) po_none) (pe_slice sl_list (pv 1) po_none (po_some (pv 11)))) (pa_cons (pv 3) pa_nil)))), ?_⟩
    refine ⟨_, rfl, wl, rfl, hw, fun lg0 gs0 H1 E1 hlg0 G1 gok0 g1 g7 => ?_⟩
    have nlg0 : lg0 ≠ wl := (hw.ne hlg0).symm
    refine gn_norm (σ' := [some (.ref wl), some (.ref lg0), none, none, none, none, none, none, none, none, none, none]) rfl ?_
    refine ⟨fun σ H' => ∃ gs : List Gt, σ = [some (.ref wl), some (.ref lg0), none, none, none, none, none, none, none, none, none, none] ∧ LG K H' lg0 gs ∧ (∀ g ∈ gs, GOk g) ∧ 1 ≤ gs.length ∧ gs.length ≤ 7 ∧ (∃ i, i < gs.length ∧ kindAt gs i ≠ "out") ∧ Dr wl H H', ?_, ?_⟩
    · obtain ⟨gv, hgv, ga⟩ := id G1
      refine ⟨_, rfl, lg0, rfl, ⟨_, SqL.of hgv⟩, fun lt hlt => ?_⟩
      refine lc_list (K := K) (a := lg0) (xs := gv) (fun i Hc => ∃ acc, Hc lt = some (.lst acc) ∧ acc.length ≤ i ∧ All2 (GateV K Hc) acc ((gs0.take i).filter nonOut) ∧ Same H1 Hc) ⟨[], upd_same, Nat.le_refl _, by simpa using All2.nil, same_new hlt⟩ (fun i Hc _ ⟨_, _, _, _, sm⟩ => SqL.of (sm _ _ hgv)) ?_ ?_
      · rintro i v Hc hv ⟨acc, hacc, hal, haa, sm⟩
        obtain ⟨g, hg, a, rfl, sq⟩ := ga.get hv
        have hi : i < gs0.length := (List.getElem?_eq_some_iff.mp hg).1
        refine ⟨rfl, ?_⟩
        refine ⟨_, rfl, a, _, 0, _, rfl, rfl, (TK.same sm).seq sq, atI_nat (j := 0) rfl, rfl, nonOut g, rfl, ?_⟩
        have fe : (gs0.take (i + 1)).filter nonOut = (gs0.take i).filter nonOut ++ if nonOut g = true then [g] else [] := by
          rw [List.take_add_one, hg, List.filter_append]
          congr 1
          show [g].filter nonOut = _
          cases hz : nonOut g with
          | true => rw [List.filter_cons_of_pos hz, if_pos rfl]; rfl
          | false => rw [List.filter_cons_of_neg (by rw [hz]; decide), if_neg (by decide)]; rfl
        cases hz : nonOut g with
        | true =>
          refine iteT ⟨_, rfl, acc, hacc, small1000 (by omega), acc ++ [.ref a], upd_same, by rw [List.length_append]; show acc.length + 1 ≤ _; omega, ?_, same_mut sm hlt⟩
          rw [fe, hz, if_pos rfl]
          exact All2.pushT (fun t r => GateV.tk t r) haa hacc (TK.same (Same.refl _)) ⟨a, rfl, (TK.same sm).seq sq⟩
        | false =>
          refine iteF ⟨acc, hacc, by omega, ?_, sm⟩
          rw [fe, hz, if_neg (by decide), List.append_nil]
          exact haa
      rintro H2 ⟨acc, hacc, hal, haa, s2⟩
      rw [ga.1, List.take_length] at haa
      refine ⟨(by show 0 ≤ sizeLine; decide), fun l5 hl5 => ?_⟩
      have t5 : Same H2 (upd H2 l5 (.lst [])) := same_new hl5
      have D2 := E1.trans (Dr.ofSame E1.well (s2.trans t5))
      have G5 : LG K (upd H2 l5 (.lst [])) lt (gs0.filter nonOut) := ⟨acc, t5 _ _ hacc, haa.imp fun _ _ r => r.tk (TK.same t5)⟩
      have Z5 : LG K (upd H2 l5 (.lst [])) l5 [] := ⟨[], upd_same, All2.nil⟩
      have gokf : ∀ g ∈ gs0.filter nonOut, GOk g := fun g hg => gok0 g (List.mem_filter.mp hg).1
      refine ⟨_, _, G5.rg.dp, Z5.rg.dp, (sh_gates gokf).ok (by decide), (sh_gates (gs := []) (fun g h => nomatch h)).ok (by decide), _, rfl, ?_⟩
      rw [gatesD_eq]
      have hgv5 := t5 _ _ (s2 _ _ hgv)
      have ga5 := ga.imp fun _ _ r => r.tk (TK.same (s2.trans t5))
      refine ite2 (fun e => ?_) (fun e => ?_)
      · refine ⟨(by show 2 ≤ sizeLine; decide), fun p hp => ?_⟩
        have sp : Same (upd H2 l5 (.lst [])) (upd (upd H2 l5 (.lst [])) p (.tup [.str "sum", .int 3])) := same_new hp
        have D6 := D2.trans (Dr.ofSame D2.well sp)
        have hgv6 := sp _ _ hgv5
        refine ⟨_, rfl, lg0, gv, 0, 0, rfl, rfl, hgv6, ?_, gs0.set 0 ("sum", 3), rfl, ⟨gv.set 0 (.ref p), upd_same, ?_⟩, fun g hg => ?_, by rw [List.length_set]; exact g1, by rw [List.length_set]; exact g7, ⟨0, by rw [List.length_set]; exact g1, ?_⟩, set_well D6 hlg0 nlg0⟩
        · have hl : 0 < gv.length := by rw [ga.1]; exact g1
          unfold ixN
          simp [hl]
        · exact (ga5.imp fun _ _ r => (r.tk (TK.same sp)).tk (TK.lst hgv6)).set (GateV.tk (TK.lst hgv6) ⟨p, rfl, .inl (.inl upd_same)⟩)
        · rcases List.mem_or_eq_of_mem_set hg with h | rfl
          · exact gok0 g h
          · exact ⟨by decide +kernel, by decide, by decide, fun z => by rcases z with z | z <;> exact absurd z (by decide)⟩
        · rw [kindAt_get (g := ("sum", 3)) (by rw [List.getElem?_set, if_pos rfl, if_pos (show 0 < gs0.length from g1)])]
          decide
      · refine ⟨gs0, rfl, ⟨gv, hgv5, ga5⟩, gok0, g1, g7, ?_, D2⟩
        have hne : gs0.filter nonOut ≠ [] := fun z => e (decide_eq_true z)
        obtain ⟨g, hg⟩ := List.exists_mem_of_ne_nil _ hne
        obtain ⟨h1, h2⟩ := List.mem_filter.mp hg
        obtain ⟨i, hi⟩ := List.getElem?_of_mem h1
        exact ⟨i, (List.getElem?_eq_some_iff.mp hi).1, by rw [kindAt_get hi]; exact nonOut_iff.mp h2⟩
    rintro σ H2 ⟨gs, rfl, G2, gok, gl1, gl7, nout, D2⟩
    refine ⟨_, rfl, _, rfl, wl, lg0, gs, rfl, D2.well, nlg0, G2, gl7, nout, fun lw0 ws H3 E3 hlw0 W3 wi hwl => ?_⟩
    have D3 := D2.trans E3
    have hlw0H : H lw0 = none := D2.free hw hlw0
    have nlw0 : lw0 ≠ wl := (hw.ne hlw0H).symm
    have G3 := G2.dr nlg0 D2.well E3
    have N := wi.net (fun z => by rw [z] at gl1; exact absurd gl1 (by decide)) (by omega) (by omega) gok
    refine gn_norm (σ' := [some (.ref wl), some (.ref lg0), none, some (.ref lw0), none, none, none, none, none, none, none, none]) rfl ?_
    obtain ⟨gv, hgv, ga⟩ := id G3
    obtain ⟨wv, hwv, wa⟩ := id W3
    have hlg : gv.length = gs.length := ga.1
    have hlw : wv.length = ws.length := wa.1
    -- led
    refine ⟨_, rfl, lw0, rfl, ⟨_, SqL.of hwv⟩, fun ld hld => ?_⟩
    refine lc_list (K := K) (a := lw0) (xs := wv) (fun i Hc => Hc ld = some (.lst (leds (ws.take i))) ∧ Same H3 Hc) ⟨upd_same, same_new hld⟩ (fun i Hc _ ⟨_, sm⟩ => SqL.of (sm _ _ hwv)) ?_ ?_
    · rintro i v Hc hv ⟨hc, sm⟩
      obtain ⟨x, hx, a', b', rfl, sq1, sq2⟩ := wa.get hv
      have hi : i < ws.length := (List.getElem?_eq_some_iff.mp hx).1
      refine ⟨rfl, tyes ?_⟩
      refine ⟨_, rfl, a', _, 1, _, rfl, rfl, (TK.same sm).seq sq1, atI_nat (j := 1) rfl, _, hc, ?_, ?_, same_mut sm hld⟩
      · unfold leds
        rw [List.length_map, List.length_map]
        have := List.length_take_le i ws
        exact small1000 (by omega)
      · rw [upd_same, List.take_add_one, hx]
        unfold leds
        rw [List.map_append, List.map_append]
        rfl
    rintro H4 ⟨hd4, s4⟩
    rw [hlw, List.take_length] at hd4
    refine gn_norm (σ' := [some (.ref wl), some (.ref lg0), none, some (.ref lw0), none, some (.ref ld), none, none, none, none, none, none]) rfl ?_
    have hgv4 := s4 _ _ hgv
    -- firsts
    refine ⟨_, rfl, lg0, gv, rfl, .inl (SqL.of hgv4), _, rfl, by omega, by omega, fun l2 hl2 => ?_⟩
    rw [Int.toNat_natCast, hlg]
    have hl2H : H l2 = none := D3.free hw (s4.free hl2)
    have nl2 : l2 ≠ wl := (hw.ne hl2H).symm
    refine lc_range (lo := 0) (n := gs.length) (fun i Hc => ∃ acc, Hc l2 = some (.lst acc) ∧ acc.length = i ∧ All2 (GateV K Hc) acc ((fixG gs ws).take i) ∧ Same H4 Hc) ⟨[], upd_same, rfl, by simpa using All2.nil, same_new hl2⟩ ?_ ?_
    · rintro i Hc hi ⟨acc, hacc, hal, haa, sm⟩
      obtain ⟨_, hv, a, rfl, sq⟩ := ga.getR (List.getElem?_eq_getElem hi)
      have ei : (0 : Int) + ((i : Nat) : Int) = ((i : Nat) : Int) := Int.zero_add _
      rw [ei]
      have sqc := (TK.same (s4.trans sm)).seq sq
      have hgc := sm _ _ hgv4
      refine ⟨rfl, tyes ?_⟩
      refine ⟨_, rfl, _, rfl, lg0, gv, i, _, rfl, rfl, SqL.of hgc, atI_nat hv, a, _, 0, _, rfl, rfl, sqc, atI_nat (j := 0) rfl, (by show 2 ≤ sizeLine; decide), fun l6 hl6 => ?_⟩
      have s6 : Same Hc (upd Hc l6 (.lst [.str "sum", .str gs[i].1])) := same_new hl6
      have e6 : (upd Hc l6 (.lst [.str "sum", .str gs[i].1])) l6 = some (.lst [.str "sum", .str gs[i].1]) := upd_same
      have hdc := s6 _ _ (sm _ _ hd4)
      refine int_or (!decide (V.str gs[i].1 = V.str "first")) (inV (.int ((i : Nat) : Int)) (leds ws)) (fun Q' q' => ⟨_, rfl, _, rfl, lg0, gv, i, _, rfl, rfl, SqL.of (s6 _ _ hgc), atI_nat hv, a, _, 0, _, rfl, rfl, (TK.same s6).seq sqc, atI_nat (j := 0) rfl, rfl, q'⟩) (fun Q' q' => ⟨_, rfl, _, rfl, ld, leds ws, rfl, .inl (SqL.of hdc), rfl, flat_ints _, q'⟩) ?_
      have hki : kindAt gs i = gs[i].1 := kindAt_get (List.getElem?_eq_getElem hi)
      obtain ⟨j, ej, hj⟩ : ∃ j : Nat, (if (!decide (V.str gs[i].1 = V.str "first") || inV (.int ((i : Nat) : Int)) (leds ws)) = true then (1 : Int) else 0) = (j : Int) ∧ ([.str "sum", .str gs[i].1] : List V)[j]? = some (.str (fixK gs ws i)) := by
        by_cases h1 : gs[i].1 = "first"
        · by_cases h2 : cnt ws i = 0
          · refine ⟨0, ?_, ?_⟩
            · rw [if_neg]
              · rfl
              rw [Bool.or_eq_true, led_in]
              rintro (h | h)
              · rw [Bool.not_eq_true', decide_eq_false_iff_not] at h
                exact h (by rw [h1])
              · exact h h2
            · unfold fixK
              rw [if_pos ⟨hki.trans h1, h2⟩]
              rfl
          · refine ⟨1, ?_, ?_⟩
            · rw [if_pos]
              · rfl
              rw [Bool.or_eq_true, led_in]
              exact .inr h2
            · unfold fixK
              rw [if_neg (fun h => h2 h.2), hki]
              rfl
        · refine ⟨1, ?_, ?_⟩
          · rw [if_pos]
            · rfl
            rw [Bool.or_eq_true, Bool.not_eq_true', decide_eq_false_iff_not]
            exact .inl fun z => h1 (V.str.inj z)
          · unfold fixK
            rw [if_neg (fun h => h1 (hki.symm.trans h.1)), hki]
            rfl
      refine ⟨l6, _, (j : Int), .str (fixK gs ws i), rfl, by rw [ej], SqL.of e6, atI_nat hj, ?_⟩
      refine ⟨_, rfl, _, rfl, lg0, gv, i, _, rfl, rfl, SqL.of (s6 _ _ hgc), atI_nat hv, a, _, 1, _, rfl, rfl, (TK.same s6).seq sqc, atI_nat (j := 1) rfl, (by show 2 ≤ sizeLine; decide), fun p hp => ?_⟩
      have s7 := s6.trans (same_new (o := .tup [.str (fixK gs ws i), .int gs[i].2]) hp)
      refine ⟨acc, s7 _ _ hacc, small1000 (by omega), acc ++ [.ref p], upd_same, by rw [List.length_append, hal]; rfl, ?_, same_mut (sm.trans s7) hl2⟩
      rw [List.take_add_one, fixG_at hi]
      have e2 : (gs.getD i ("", 0)) = gs[i] := by rw [List.getD_eq_getElem?_getD, List.getElem?_eq_getElem hi]; rfl
      rw [e2]
      exact All2.pushT (fun t r => GateV.tk t r) haa (s7 _ _ hacc) (TK.same s7) ⟨p, rfl, .inl (.inl upd_same)⟩
    rintro H5 ⟨fv, hfv, hfl, hfa, s5⟩
    have fl := fixG_len gs ws
    rw [← fl, List.take_length] at hfa
    have D5 := D3.trans (Dr.ofSame D3.well (s4.trans s5))
    have hwv5 := (s4.trans s5) _ _ hwv
    have wa5 := wa.imp fun _ _ r => r.tk (TK.same (s4.trans s5))
    refine gn_norm (σ' := [some (.ref wl), some (.ref l2), none, some (.ref lw0), none, some (.ref ld), none, none, none, none, none, none]) rfl ?_
    -- turned about
    refine ⟨_, rfl, _, rfl, l2, fv, rfl, .inl (SqL.of hfv), wl, _, rfl, by omega, by omega, D5.well, fun d H6 d0 d1 E6 => ?_⟩
    obtain ⟨t, rfl⟩ : ∃ t : Nat, d = (t : Int) := ⟨d.toNat, by omega⟩
    have ht : t < gs.length := by omega
    have D6 := D5.trans E6
    have hfv6 := E6.but _ _ nl2 hfv
    have hfa6 := hfa.imp fun _ _ r => r.tk (TK.dr D5.well E6.but)
    have hwv6 := E6.but _ _ nlw0 hwv5
    have wa6 := wa5.imp fun _ _ r => r.tk (TK.dr D5.well E6.but)
    refine gn_norm (σ' := [some (.ref wl), some (.ref l2), none, some (.ref lw0), none, some (.ref ld), none, some (.int (t : Nat)), none, none, none, none]) rfl ?_
    refine ⟨_, rfl, lw0, rfl, ⟨_, SqL.of hwv6⟩, fun lw hlw' => ?_⟩
    have nlw : lw ≠ wl := (E6.well.ne hlw').symm
    have hlwH : H lw = none := D6.free hw hlw'
    refine lc_list (K := K) (a := lw0) (xs := wv) (fun i Hc => ∃ acc, Hc lw = some (.lst acc) ∧ acc.length = i ∧ All2 (WireV K Hc) acc ((ws.take i).map fun x => ((rotL gs.length (gs.length - t)).idxOf x.1, (rotL gs.length (gs.length - t)).idxOf x.2.1, x.2.2)) ∧ Same H6 Hc) ⟨[], upd_same, rfl, by simpa using All2.nil, same_new hlw'⟩ (fun i Hc _ ⟨_, _, _, _, sm⟩ => SqL.of (sm _ _ hwv6)) ?_ ?_
    · rintro i v Hc hv ⟨acc, hacc, hal, haa, sm⟩
      obtain ⟨x, hx, a', b', rfl, sq1, sq2⟩ := wa6.get hv
      have hi : i < ws.length := (List.getElem?_eq_some_iff.mp hx).1
      have WX := (wi.wok x (List.mem_of_getElem? hx)).1
      have tk := TK.same sm
      have hfc := sm _ _ hfv6
      refine ⟨a', _, rfl, tk.seq sq1, rfl, _, _, rfl, _, _, rfl, _, _, rfl, rfl, rfl, tyes ?_⟩
      refine ⟨_, rfl, _, rfl, _, _, rfl, rfl, _, rfl, l2, fv, rfl, .inl (SqL.of hfc), _, _, rfl, rfl, (by show (0 : Int) < ((fv.length : Nat) : Int); omega), ?_⟩
      refine ⟨_, rfl, _, rfl, _, _, rfl, rfl, _, rfl, l2, fv, rfl, .inl (SqL.of hfc), _, _, rfl, rfl, (by show (0 : Int) < ((fv.length : Nat) : Int); omega), _, rfl, (by show 3 ≤ sizeLine; decide), fun p hp => ?_⟩
      have sp : Same Hc (upd Hc p (.tup [.int ((((x.1 : Nat) : Int) + ((t : Nat) : Int)) % ((fv.length : Nat) : Int)), .int ((((x.2.1 : Nat) : Int) + ((t : Nat) : Int)) % ((fv.length : Nat) : Int)), .ref b'])) := same_new hp
      refine ⟨acc, sp _ _ hacc, small1000 (by omega), acc ++ [.ref p], upd_same, by simp [hal], ?_, same_mut (sm.trans sp) hlw'⟩
      rw [List.take_add_one, hx, List.map_append]
      refine All2.pushT (fun t r => WireV.tk t r) haa (sp _ _ hacc) (TK.same sp) ⟨p, b', rfl, .inl (.inl ?_), (TK.same (sm.trans sp)).seq sq2⟩
      rw [upd_same]
      show some (HO.tup [V.int _, V.int _, V.ref b']) = some (HO.tup [V.int _, V.int _, V.ref b'])
      rw [rot_on ht WX.s, rot_on ht WX.e, hfl]
    rintro H7 ⟨acc, hacc, hal, haa, s7⟩
    rw [hlw, List.take_length] at haa
    have D7 : Dr wl H H7 := D6.trans (Dr.ofSame D6.well s7)
    have hfv7 := s7 _ _ hfv6
    have hfa7 := hfa6.imp fun _ _ r => r.tk (TK.same s7)
    refine gn_norm (σ' := [some (.ref wl), some (.ref l2), none, some (.ref lw), none, some (.ref ld), none, some (.int (t : Nat)), none, none, none, none]) rfl ?_
    refine ⟨_, rfl, l2, fv, rfl, .inl (SqL.of hfv7), _, rfl, _, _, rfl, rfl, ?_⟩
    refine gn_norm (σ' := [some (.ref wl), some (.ref l2), none, some (.ref lw), none, some (.ref ld), none, some (.int (t : Nat)), none, none, none, some (.int ((gs.length - t : Nat) : Int))]) (by
      show [some (V.ref wl), some (V.ref l2), none, some (V.ref lw), none, some (V.ref ld), none, some (V.int (t : Nat)), none, none, none, some (V.int (((fv.length : Nat) : Int) - ((t : Nat) : Int)))] = _
      rw [hfl, show (((gs.length : Nat) : Int) - ((t : Nat) : Int)) = ((gs.length - t : Nat) : Int) by omega]) ?_
    have NA := N.anew (left := rotL gs.length (gs.length - t)) (by rw [fl]; exact rot_perm gs.length (gs.length - t)) (.refl ws)
    have rm := rot_map (gs := fixG gs ws) (gs.length - t)
    rw [fl] at rm
    rw [rm] at NA
    refine ⟨_, rfl, _, rfl, _, rfl, l2, fv, rfl, SqL.of hfv7, fun l6 hl6 => ?_⟩
    have s8 : Same H7 (upd H7 l6 (.lst (cutV fv (some ((gs.length - t : Nat) : Int)) none))) := same_new hl6
    have el6 : (upd H7 l6 (.lst (cutV fv (some ((gs.length - t : Nat) : Int)) none))) l6 = some (.lst (fv.drop (gs.length - t))) := by rw [upd_same, cut_from]
    generalize upd H7 l6 (.lst (cutV fv (some ((gs.length - t : Nat) : Int)) none)) = H8 at s8 el6
    refine ⟨_, rfl, _, rfl, _, rfl, l2, fv, rfl, SqL.of (s8 _ _ hfv7), fun l7 hl7 => ?_⟩
    have s9 : Same H8 (upd H8 l7 (.lst (cutV fv none (some ((gs.length - t : Nat) : Int))))) := same_new hl7
    have el7 : (upd H8 l7 (.lst (cutV fv none (some ((gs.length - t : Nat) : Int))))) l7 = some (.lst (fv.take (gs.length - t))) := by rw [upd_same, cut_to]
    generalize upd H8 l7 (.lst (cutV fv none (some ((gs.length - t : Nat) : Int)))) = H9 at s9 el7
    refine ⟨l6, l7, _, _, rfl, rfl, s9 _ _ el6, el7, ?_, fun l8 hl8 => ?_⟩
    · rw [List.length_drop, List.length_take]
      exact Nat.le_of_lt (small1000 (by omega))
    have s10 : Same H9 (upd H9 l8 (.lst (fv.drop (gs.length - t) ++ fv.take (gs.length - t)))) := same_new hl8
    have el8 : (upd H9 l8 (.lst (fv.drop (gs.length - t) ++ fv.take (gs.length - t)))) l8 = some (.lst (fv.drop (gs.length - t) ++ fv.take (gs.length - t))) := upd_same
    generalize upd H9 l8 (.lst (fv.drop (gs.length - t) ++ fv.take (gs.length - t))) = H10 at s10 el8
    have t10 := s8.trans (s9.trans s10)
    have hl8H : H l8 = none := D7.free hw ((s8.trans s9).free hl8)
    have nl8 : l8 ≠ lw := fun z => by
      rw [z, (s8.trans s9) _ _ hacc] at hl8
      cases hl8
    refine ⟨_, rfl, (by show 2 ≤ sizeLine; decide), fun p hp' => ?_⟩
    have s11 := t10.trans (same_new (o := .tup [.ref l8, .ref lw]) hp')
    have hfa11 := hfa7.imp fun _ _ r => r.tk (TK.same s11)
    refine q _ _ l8 lw p _ NA ?_ (by rw [List.length_map]; exact hwl) ?_ (D7.trans (Dr.ofSame D7.well s11)) hl8H hlwH nl8 ⟨_, same_new hp' _ _ el8, (hfa11.drop _).append (hfa11.take _)⟩ ⟨acc, s11 _ _ hacc, haa.imp fun _ _ r => r.tk (TK.same s11)⟩ upd_same
    · rw [List.length_append, List.length_drop, List.length_take, fl]
      omega
    · intro y hy
      obtain ⟨x, hx, rfl⟩ := List.mem_map.mp hy
      exact (wi.wok x hx).2
end
end Lag

set_option maxRecDepth 100000
set_option maxHeartbeats 8000000
namespace Lag
open PySem PySem.Spec PyProof.Rows L2
/-! ### the best ways from a gate: the mathematics -/
abbrev Cst := Int × Int
def gw (gs : List Gt) (g : Nat) : Int := (gs.getD g ("", 0)).2
/-- a way's cost, one wire longer -/
def addC (gs : List Gt) (c : Cst) (x : Wr) : Cst := (c.1 + ((x.2.2.length : Nat) : Int), c.2 - gw gs x.2.1)
def ltC (a b : Cst) : Prop := a.1 < b.1 ∨ (a.1 = b.1 ∧ a.2 < b.2)
instance (a b : Cst) : Decidable (ltC a b) := by unfold ltC; exact inferInstance
def leC (a b : Cst) : Prop := ¬ ltC b a
theorem leC.refl (a : Cst) : leC a a := fun h => by
  rcases h with h | h
  · omega
  · omega
theorem leC_iff {a b : Cst} : leC a b ↔ a.1 < b.1 ∨ (a.1 = b.1 ∧ a.2 ≤ b.2) := by
  unfold leC ltC
  omega
theorem leC.trans {a b c : Cst} (h : leC a b) (h' : leC b c) : leC a c := by
  rw [leC_iff] at *
  omega
theorem ltC.le {a b : Cst} (h : ltC a b) : leC a b := by
  rw [leC_iff]
  unfold ltC at h
  omega
theorem leC.add {gs : List Gt} {a b : Cst} (x : Wr) (h : leC a b) : leC (addC gs a x) (addC gs b x) := by
  rw [leC_iff] at *
  unfold addC
  show a.1 + _ < b.1 + _ ∨ (a.1 + _ = b.1 + _ ∧ a.2 - _ ≤ b.2 - _)
  omega
theorem leC.anti {a b : Cst} (h : leC a b) (h' : leC b a) : a = b := by
  rw [leC_iff] at *
  exact Prod.ext (by omega) (by omega)
abbrev Dst := Nat → Option Cst
def setD (D : Dst) (g : Nat) (c : Cst) : Dst := fun j => if j = g then some c else D j
/-- whether this wire betters what is known -/
def bet (gs : List Gt) (D : Dst) (x : Wr) : Prop := ∃ c, D x.1 = some c ∧ ∀ o, D x.2.1 = some o → ltC (addC gs c x) o
def rel (gs : List Gt) (D : Dst) (x : Wr) : Dst := match D x.1 with
  | none => D
  | some c => match D x.2.1 with
    | none => setD D x.2.1 (addC gs c x)
    | some o => if ltC (addC gs c x) o then setD D x.2.1 (addC gs c x) else D
theorem rel_none {gs : List Gt} {D : Dst} {x : Wr} (h : D x.1 = none) : rel gs D x = D := by
  unfold rel
  rw [h]
theorem rel_new {gs : List Gt} {D : Dst} {x : Wr} {c : Cst} (h : D x.1 = some c) (h2 : D x.2.1 = none) : rel gs D x = setD D x.2.1 (addC gs c x) := by
  unfold rel
  rw [h, h2]
theorem rel_old {gs : List Gt} {D : Dst} {x : Wr} {c o : Cst} (h : D x.1 = some c) (h2 : D x.2.1 = some o) : rel gs D x = if ltC (addC gs c x) o then setD D x.2.1 (addC gs c x) else D := by
  unfold rel
  rw [h, h2]
/-- no worse anywhere -/
def leD (D D' : Dst) : Prop := ∀ g c', D' g = some c' → ∃ c, D g = some c ∧ leC c c'
theorem leD.refl (D : Dst) : leD D D := fun g c h => ⟨c, h, leC.refl c⟩
theorem leD.trans {a b c : Dst} (h : leD a b) (h' : leD b c) : leD a c := fun g z hz => by
  obtain ⟨y, hy, h1⟩ := h' g z hz
  obtain ⟨x, hx, h2⟩ := h g y hy
  exact ⟨x, hx, h2.trans h1⟩
theorem rel_le (gs : List Gt) (D : Dst) (x : Wr) : leD (rel gs D x) D := by
  intro g c' hg
  cases h : D x.1 with
  | none =>
    rw [rel_none h]
    exact ⟨c', hg, leC.refl _⟩
  | some c =>
    cases h2 : D x.2.1 with
    | none =>
      rw [rel_new h h2]
      unfold setD
      by_cases e : g = x.2.1
      · rw [e, h2] at hg
        cases hg
      · rw [if_neg e]
        exact ⟨c', hg, leC.refl _⟩
    | some o =>
      rw [rel_old h h2]
      by_cases hl : ltC (addC gs c x) o
      · rw [if_pos hl]
        unfold setD
        by_cases e : g = x.2.1
        · rw [if_pos e]
          rw [e, h2] at hg
          cases hg
          exact ⟨_, rfl, hl.le⟩
        · rw [if_neg e]
          exact ⟨c', hg, leC.refl _⟩
      · rw [if_neg hl]
        exact ⟨c', hg, leC.refl _⟩
theorem rel_done {gs : List Gt} {D : Dst} {x : Wr} {c : Cst} (h : D x.1 = some c) : ∃ o, rel gs D x x.2.1 = some o ∧ leC o (addC gs c x) := by
  cases h2 : D x.2.1 with
  | none =>
    rw [rel_new h h2]
    unfold setD
    rw [if_pos rfl]
    exact ⟨_, rfl, leC.refl _⟩
  | some o =>
    rw [rel_old h h2]
    by_cases hl : ltC (addC gs c x) o
    · rw [if_pos hl]
      unfold setD
      rw [if_pos rfl]
      exact ⟨_, rfl, leC.refl _⟩
    · rw [if_neg hl]
      exact ⟨o, h2, hl⟩
def rnd (gs : List Gt) (ws : List Wr) (D : Dst) : Dst := ws.foldl (rel gs) D
theorem fold_le (gs : List Gt) : ∀ (ws : List Wr) (D : Dst), leD (ws.foldl (rel gs) D) D
  | [], D => leD.refl D
  | x :: ws, D => (fold_le gs ws (rel gs D x)).trans (rel_le gs D x)
theorem rnd_done (gs : List Gt) : ∀ (ws : List Wr) (D : Dst) (x : Wr) (c : Cst), x ∈ ws → D x.1 = some c → ∃ o, rnd gs ws D x.2.1 = some o ∧ leC o (addC gs c x)
  | [], _, _, _, h, _ => by cases h
  | y :: ws, D, x, c, h, hc => by
    show ∃ o, ws.foldl (rel gs) (rel gs D y) x.2.1 = some o ∧ _
    rcases List.mem_cons.mp h with e | h
    · subst e
      obtain ⟨o, ho, h1⟩ := rel_done (gs := gs) hc
      obtain ⟨o2, ho2, h2⟩ := fold_le gs ws _ _ _ ho
      exact ⟨o2, ho2, h2.trans h1⟩
    · obtain ⟨c2, hc2, h1⟩ := rel_le gs D y _ _ hc
      obtain ⟨o, ho, h2⟩ := rnd_done gs ws (rel gs D y) x c2 h hc2
      exact ⟨o, ho, h2.trans (h1.add x)⟩
def ini (gs : List Gt) (s : Nat) : Dst := fun g => if g = s then some (0, -gw gs s) else none
def rnds (gs : List Gt) (ws : List Wr) (s : Nat) : Nat → Dst
  | 0 => ini gs s
  | k + 1 => rnd gs ws (rnds gs ws s k)
/-- ways along wires: the gates come by, the last one ahead; what it costs -/
inductive Wk (gs : List Gt) (ws : List Wr) (s : Nat) : List Nat → Nat → Cst → Prop
  | nil : Wk gs ws s [s] s (0, -gw gs s)
  | cons {vs : List Nat} {u : Nat} {c : Cst} {x : Wr} : Wk gs ws s vs u c → x ∈ ws → x.1 = u → Wk gs ws s (x.2.1 :: vs) x.2.1 (addC gs c x)
/-- what is known is a way's cost -/
def Snd (gs : List Gt) (ws : List Wr) (s : Nat) (D : Dst) : Prop := ∀ g c, D g = some c → ∃ vs, Wk gs ws s vs g c
theorem Snd.ini (gs : List Gt) (ws : List Wr) (s : Nat) : Snd gs ws s (ini gs s) := fun g c h => by
  unfold Lag.ini at h
  by_cases e : g = s
  · rw [if_pos e] at h
    cases h
    rw [e]
    exact ⟨_, .nil⟩
  · rw [if_neg e] at h
    cases h
theorem Snd.set {gs : List Gt} {ws : List Wr} {s : Nat} {D : Dst} {x : Wr} {c : Cst} (h : Snd gs ws s D) (hx : x ∈ ws) (hc : D x.1 = some c) : Snd gs ws s (setD D x.2.1 (addC gs c x)) := fun g c' hg => by
  unfold setD at hg
  by_cases e : g = x.2.1
  · rw [if_pos e] at hg
    cases hg
    rw [e]
    obtain ⟨vs, hv⟩ := h _ _ hc
    exact ⟨_, .cons hv hx rfl⟩
  · rw [if_neg e] at hg
    exact h g c' hg
theorem Snd.rel {gs : List Gt} {ws : List Wr} {s : Nat} {D : Dst} {x : Wr} (h : Snd gs ws s D) (hx : x ∈ ws) : Snd gs ws s (rel gs D x) := by
  cases h1 : D x.1 with
  | none =>
    rw [rel_none h1]
    exact h
  | some c =>
    cases h2 : D x.2.1 with
    | none =>
      rw [rel_new h1 h2]
      exact h.set hx h1
    | some o =>
      rw [rel_old h1 h2]
      split
      · exact h.set hx h1
      · exact h
theorem Snd.fold {gs : List Gt} {ws : List Wr} {s : Nat} : ∀ {us : List Wr} {D : Dst}, (∀ x ∈ us, x ∈ ws) → Snd gs ws s D → Snd gs ws s (us.foldl (Lag.rel gs) D)
  | [], _, _, h => h
  | x :: us, D, hu, h => Snd.fold (us := us) (fun y hy => hu y (List.mem_cons_of_mem _ hy)) (h.rel (hu x (List.mem_cons_self ..)))
theorem Snd.rnds {gs : List Gt} {ws : List Wr} {s : Nat} : ∀ k, Snd gs ws s (rnds gs ws s k)
  | 0 => Snd.ini gs ws s
  | k + 1 => Snd.fold (fun _ h => h) (Snd.rnds k)
/-- after k rounds no way of so many wires is better -/
theorem Wk.comp {gs : List Gt} {ws : List Wr} {s : Nat} {vs : List Nat} {g : Nat} {c : Cst} (h : Wk gs ws s vs g c) : ∀ k, vs.length ≤ k + 1 → ∃ o, rnds gs ws s k g = some o ∧ leC o c := by
  induction h with
  | nil =>
    intro k _
    induction k with
    | zero => exact ⟨_, by unfold rnds ini; rw [if_pos rfl], leC.refl _⟩
    | succ k ih =>
      obtain ⟨o, ho, h1⟩ := ih (by simp)
      obtain ⟨o2, ho2, h2⟩ := fold_le gs ws _ _ _ ho
      exact ⟨o2, ho2, h2.trans h1⟩
  | @cons vs u c x hw hx hu ih =>
    intro k hk
    rw [List.length_cons] at hk
    cases k with
    | zero =>
      exfalso
      cases hw with
      | nil => simp at hk
      | cons _ _ _ => simp at hk
    | succ k =>
      obtain ⟨o, ho, h1⟩ := ih k (by omega)
      rw [← hu] at ho
      obtain ⟨o2, ho2, h2⟩ := rnd_done gs ws _ x o hx ho
      exact ⟨o2, ho2, h2.trans (h1.add x)⟩
/-- the way to a gate that was come by -/
theorem Wk.sub {gs : List Gt} {ws : List Wr} {s : Nat} {ρ : Nat → Nat} (hρ : ∀ x ∈ ws, x.2.2 = [] → ρ x.1 < ρ x.2.1) {vs : List Nat} {g : Nat} {c : Cst} (h : Wk gs ws s vs g c) :
    ∀ u ∈ vs, ∃ vs' c', Wk gs ws s vs' u c' ∧ vs' <:+ vs ∧ c'.1 ≤ c.1 ∧ (c'.1 = c.1 → ρ u ≤ ρ g) := by
  induction h with
  | nil =>
    intro u hu
    rw [List.mem_singleton.mp hu]
    exact ⟨_, _, .nil, List.suffix_refl _, Int.le_refl _, fun _ => Nat.le_refl _⟩
  | @cons vs v c x hw hx hv ih =>
    intro u hu
    rcases List.mem_cons.mp hu with e | hu
    · rw [e]
      exact ⟨_, _, .cons hw hx hv, List.suffix_refl _, Int.le_refl _, fun _ => Nat.le_refl _⟩
    · obtain ⟨vs', c', h1, h2, h3, h4⟩ := ih u hu
      refine ⟨vs', c', h1, h2.trans (List.suffix_cons ..), ?_, fun e => ?_⟩
      · show c'.1 ≤ c.1 + _
        omega
      · have e : c'.1 = c.1 + ((x.2.2.length : Nat) : Int) := e
        have hx0 : x.2.2 = [] := List.length_eq_zero_iff.mp (by omega)
        have h5 := h4 (by omega)
        have h6 := hρ x hx hx0
        rw [hv] at h6
        omega
/-- a way without a gate twice is as good -/
theorem Wk.simple {gs : List Gt} {ws : List Wr} {s : Nat} {ρ : Nat → Nat} (hρ : ∀ x ∈ ws, x.2.2 = [] → ρ x.1 < ρ x.2.1) {vs : List Nat} {g : Nat} {c : Cst} (h : Wk gs ws s vs g c) :
    ∃ vs' c', Wk gs ws s vs' g c' ∧ vs'.Nodup ∧ leC c' c := by
  induction h with
  | nil => exact ⟨_, _, .nil, by simp, leC.refl _⟩
  | @cons vs v c x hw hx hv ih =>
    obtain ⟨vs', c', h1, h2, h3⟩ := ih
    by_cases hm : x.2.1 ∈ vs'
    · obtain ⟨vs2, c2, k1, k2, k3, k4⟩ := h1.sub hρ _ hm
      refine ⟨vs2, c2, k1, h2.sublist k2.sublist, ?_⟩
      refine leC.trans (ltC.le ?_) (h3.add x)
      refine .inl ?_
      show c2.1 < c'.1 + _
      rcases Nat.eq_zero_or_pos x.2.2.length with h0 | h0
      · have hx0 : x.2.2 = [] := List.length_eq_zero_iff.mp h0
        have h6 := hρ x hx hx0
        rw [hv] at h6
        by_cases e : c2.1 = c'.1
        · have := k4 e
          omega
        · omega
      · omega
    · exact ⟨_, _, .cons h1 hx hv, List.nodup_cons.mpr ⟨hm, h2⟩, h3.add x⟩
theorem Wk.lows {gs : List Gt} {ws : List Wr} {s : Nat} (N : NetOk gs ws) (hs : s < gs.length) {vs : List Nat} {g : Nat} {c : Cst} (h : Wk gs ws s vs g c) : ∀ u ∈ vs, u < gs.length := by
  induction h with
  | nil =>
    intro u hu
    rw [List.mem_singleton.mp hu]
    exact hs
  | @cons vs v c x hw hx hv ih =>
    intro u hu
    rcases List.mem_cons.mp hu with e | hu
    · rw [e]
      exact (N.wok x hx).e
    · exact ih u hu
theorem svNodup_le {n : Nat} {l : List Nat} (hnd : l.Nodup) (hlt : ∀ e ∈ l, e < n) : l.length ≤ n := by
  have h2 := List.Nodup.length_le_of_subset hnd (l₂ := List.range n) (fun a ha => List.mem_range.mpr (hlt a ha))
  rw [List.length_range] at h2
  exact h2
/-- nothing is bettered any more -/
def Fix (gs : List Gt) (ws : List Wr) (D : Dst) : Prop := ∀ x ∈ ws, ¬ bet gs D x
theorem rel_fix {gs : List Gt} {D : Dst} {x : Wr} (h : ¬ bet gs D x) : rel gs D x = D := by
  cases h1 : D x.1 with
  | none => exact rel_none h1
  | some c =>
    cases h2 : D x.2.1 with
    | none => exact absurd ⟨c, h1, fun o ho => by rw [h2] at ho; cases ho⟩ h
    | some o =>
      rw [rel_old h1 h2, if_neg fun hl => h ⟨c, h1, fun o' ho => by rw [h2] at ho; cases ho; exact hl⟩]
theorem fold_fix {gs : List Gt} {D : Dst} : ∀ {ws : List Wr}, (∀ x ∈ ws, ¬ bet gs D x) → ws.foldl (rel gs) D = D
  | [], _ => rfl
  | x :: ws, h => by
    rw [List.foldl_cons, rel_fix (h x (List.mem_cons_self ..))]
    exact fold_fix fun y hy => h y (List.mem_cons_of_mem _ hy)
theorem rnds_fix {gs : List Gt} {ws : List Wr} {s : Nat} (N : NetOk gs ws) (hs : s < gs.length) {k : Nat} (hk : gs.length ≤ k + 1) : Fix gs ws (rnds gs ws s k) := by
  obtain ⟨ρ, hρ⟩ := N.rank
  rintro x hx ⟨c, hc, hb⟩
  obtain ⟨vs, hv⟩ := Snd.rnds (gs := gs) (ws := ws) (s := s) k _ _ hc
  obtain ⟨vs', c', h1, h2, h3⟩ := (Wk.cons hv hx rfl).simple hρ
  obtain ⟨o, ho, h4⟩ := h1.comp k (by have := svNodup_le h2 (h1.lows N hs); omega)
  exact h4.trans h3 (hb o ho)
theorem rnds_stay {gs : List Gt} {ws : List Wr} {s k : Nat} (h : Fix gs ws (rnds gs ws s k)) : ∀ j, rnds gs ws s (k + j) = rnds gs ws s k
  | 0 => rfl
  | j + 1 => by
    show rnd gs ws (rnds gs ws s (k + j)) = _
    rw [rnds_stay h j]
    exact fold_fix h
theorem rel_below {gs : List Gt} {ws : List Wr} (N : NetOk gs ws) {D : Dst} {x : Wr} (hx : x ∈ ws) (h : ∀ g c, D g = some c → g < gs.length) : ∀ g c, rel gs D x g = some c → g < gs.length := fun g c hg => by
  have st : ∀ c', setD D x.2.1 c' g = some c → g < gs.length := fun c' hs => by
    unfold setD at hs
    by_cases e : g = x.2.1
    · rw [e]
      exact (N.wok x hx).e
    · rw [if_neg e] at hs
      exact h g c hs
  cases h1 : D x.1 with
  | none =>
    rw [rel_none h1] at hg
    exact h g c hg
  | some d =>
    cases h2 : D x.2.1 with
    | none =>
      rw [rel_new h1 h2] at hg
      exact st _ hg
    | some o =>
      rw [rel_old h1 h2] at hg
      split at hg
      · exact st _ hg
      · exact h g c hg

theorem gw_get {gs : List Gt} {i : Nat} {g : Gt} (h : gs[i]? = some g) : gw gs i = g.2 := by
  unfold gw
  rw [List.getD_eq_getElem?_getD, h]
  rfl
theorem gw_nn {gs : List Gt} {ws : List Wr} (N : NetOk gs ws) (i : Nat) : 0 ≤ gw gs i := by
  unfold gw
  rw [List.getD_eq_getElem?_getD]
  cases e : gs[i]? with
  | none => exact Int.le_refl 0
  | some g => exact (N.gok g (List.mem_of_getElem? e)).2.1
/-! ### ways by their wires' places -/
def svW (ws : List Wr) (p : Nat) : Wr := ws.getD p (0, 0, [])
theorem svW_get {ws : List Wr} {p : Nat} {x : Wr} (h : ws[p]? = some x) : svW ws p = x := by
  unfold svW
  rw [List.getD_eq_getElem?_getD, h]
  rfl
def Pw (ws : List Wr) : Nat → List Nat → Nat → Prop
  | s, [], e => s = e
  | s, p :: r, e => ∃ x, ws[p]? = some x ∧ x.1 = s ∧ Pw ws x.2.1 r e
def prg (ws : List Wr) (ps : List Nat) : Int := (ps.map fun p => (((svW ws p).2.2.length : Nat) : Int)).sum
def pws (gs : List Gt) (ws : List Wr) (ps : List Nat) : Int := (ps.map fun p => gw gs (svW ws p).2.1).sum
def pwt (gs : List Gt) (ws : List Wr) (g : Nat) (ps : List Nat) : Int := gw gs g + pws gs ws ps
theorem sum_snoc (l : List Int) (a : Int) : (l ++ [a]).sum = l.sum + a := by
  rw [List.sum_append, List.sum_cons, List.sum_nil]
  omega
theorem prg_nil (ws : List Wr) : prg ws [] = 0 := rfl
theorem pws_nil (gs : List Gt) (ws : List Wr) : pws gs ws [] = 0 := rfl
theorem prg_cons {ws : List Wr} {p : Nat} {x : Wr} (h : ws[p]? = some x) (r : List Nat) : prg ws (p :: r) = ((x.2.2.length : Nat) : Int) + prg ws r := by
  unfold prg
  rw [List.map_cons, List.sum_cons, svW_get h]
theorem pws_cons {gs : List Gt} {ws : List Wr} {p : Nat} {x : Wr} (h : ws[p]? = some x) (r : List Nat) : pws gs ws (p :: r) = gw gs x.2.1 + pws gs ws r := by
  unfold pws
  rw [List.map_cons, List.sum_cons, svW_get h]
theorem prg_snoc {ws : List Wr} {p : Nat} {x : Wr} (h : ws[p]? = some x) (r : List Nat) : prg ws (r ++ [p]) = prg ws r + ((x.2.2.length : Nat) : Int) := by
  unfold prg
  rw [List.map_append]
  rw [← svW_get h]
  exact sum_snoc _ _
theorem pws_snoc {gs : List Gt} {ws : List Wr} {p : Nat} {x : Wr} (h : ws[p]? = some x) (r : List Nat) : pws gs ws (r ++ [p]) = pws gs ws r + gw gs x.2.1 := by
  unfold pws
  rw [List.map_append]
  rw [← svW_get h]
  exact sum_snoc _ _
theorem prg_app (ws : List Wr) (a b : List Nat) : prg ws (a ++ b) = prg ws a + prg ws b := by
  unfold prg
  rw [List.map_append, List.sum_append]
theorem pws_app (gs : List Gt) (ws : List Wr) (a b : List Nat) : pws gs ws (a ++ b) = pws gs ws a + pws gs ws b := by
  unfold pws
  rw [List.map_append, List.sum_append]
theorem prg_nn (ws : List Wr) : ∀ ps, 0 ≤ prg ws ps
  | [] => Int.le_refl 0
  | p :: r => by
    have := prg_nn ws r
    unfold prg at *
    rw [List.map_cons, List.sum_cons]
    omega
theorem pws_nn {gs : List Gt} {ws : List Wr} (N : NetOk gs ws) : ∀ ps, 0 ≤ pws gs ws ps
  | [] => Int.le_refl 0
  | p :: r => by
    have := pws_nn N r
    have := gw_nn N (svW ws p).2.1
    unfold pws at *
    rw [List.map_cons, List.sum_cons]
    omega
theorem Pw.app {ws : List Wr} : ∀ {a : List Nat} {s m e : Nat} {b : List Nat}, Pw ws s a m → Pw ws m b e → Pw ws s (a ++ b) e
  | [], _, _, _, _, h, h' => by
    have h : _ = _ := h
    rw [h]
    exact h'
  | p :: a, s, m, e, b, ⟨x, h1, h2, h3⟩, h' => ⟨x, h1, h2, Pw.app h3 h'⟩
theorem Pw.snoc {ws : List Wr} {s e p : Nat} {a : List Nat} {x : Wr} (h : Pw ws s a e) (hx : ws[p]? = some x) (hs : x.1 = e) : Pw ws s (a ++ [p]) x.2.1 :=
  Pw.app h ⟨x, hx, hs, rfl⟩
theorem Pw.split {ws : List Wr} : ∀ {a : List Nat} {s e : Nat} {b : List Nat}, Pw ws s (a ++ b) e → ∃ m, Pw ws s a m ∧ Pw ws m b e
  | [], s, e, b, h => ⟨s, rfl, h⟩
  | p :: a, s, e, b, ⟨x, h1, h2, h3⟩ => by
    obtain ⟨m, h4, h5⟩ := Pw.split h3
    exact ⟨m, ⟨x, h1, h2, h4⟩, h5⟩
theorem Pw.fn {ws : List Wr} : ∀ {a : List Nat} {s e e' : Nat}, Pw ws s a e → Pw ws s a e' → e = e'
  | [], s, e, e', h, h' => by
    have h : s = e := h
    have h' : s = e' := h'
    omega
  | p :: a, s, e, e', ⟨x, h1, h2, h3⟩, ⟨y, k1, k2, k3⟩ => by
    rw [h1] at k1
    cases k1
    exact Pw.fn h3 k3
theorem Pw.lt {gs : List Gt} {ws : List Wr} (N : NetOk gs ws) : ∀ {a : List Nat} {s e : Nat}, s < gs.length → Pw ws s a e → e < gs.length
  | [], s, e, hs, h => by
    have h : s = e := h
    omega
  | p :: a, s, e, hs, ⟨x, h1, h2, h3⟩ => Pw.lt N (N.wok x (List.mem_of_getElem? h1)).e h3
theorem Pw.places {ws : List Wr} : ∀ {a : List Nat} {s e : Nat}, Pw ws s a e → ∀ p ∈ a, p < ws.length
  | [], _, _, _, p, h => by cases h
  | q :: a, s, e, ⟨x, h1, h2, h3⟩, p, h => by
    rcases List.mem_cons.mp h with h | h
    · rw [h]
      exact (List.getElem?_eq_some_iff.mp h1).1
    · exact Pw.places h3 p h
theorem Wk.pw {gs : List Gt} {ws : List Wr} {s : Nat} {vs : List Nat} {g : Nat} {c : Cst} (h : Wk gs ws s vs g c) : ∃ ps, Pw ws s ps g ∧ c = (prg ws ps, -pwt gs ws s ps) := by
  induction h with
  | nil => exact ⟨[], rfl, by unfold pwt; rw [pws_nil, prg_nil, Int.add_zero]⟩
  | @cons vs u c x hw hx hu ih =>
    obtain ⟨ps, h1, h2⟩ := ih
    obtain ⟨p, hp⟩ := List.getElem?_of_mem hx
    refine ⟨ps ++ [p], h1.snoc hp hu, ?_⟩
    rw [h2]
    unfold addC pwt
    rw [prg_snoc hp, pws_snoc hp]
    refine Prod.ext rfl ?_
    show -(gw gs s + pws gs ws ps) - gw gs x.2.1 = -(gw gs s + (pws gs ws ps + gw gs x.2.1))
    omega
theorem Pw.wk {gs : List Gt} {ws : List Wr} {s : Nat} : ∀ {ps : List Nat} {u g : Nat} {vs : List Nat} {c : Cst}, Wk gs ws s vs u c → Pw ws u ps g → ∃ vs', Wk gs ws s vs' g (c.1 + prg ws ps, c.2 - pws gs ws ps)
  | [], u, g, vs, c, hw, h => by
    have h : u = g := h
    subst h
    refine ⟨vs, ?_⟩
    rw [prg_nil, pws_nil, Int.add_zero, Int.sub_zero]
    exact hw
  | p :: ps, u, g, vs, c, hw, ⟨x, h1, h2, h3⟩ => by
    obtain ⟨vs', h4⟩ := Pw.wk (Wk.cons hw (List.mem_of_getElem? h1) h2) h3
    refine ⟨vs', ?_⟩
    rw [prg_cons h1, pws_cons h1]
    have e : ((addC gs c x).1 + prg ws ps, (addC gs c x).2 - pws gs ws ps) = (c.1 + (((x.2.2.length : Nat) : Int) + prg ws ps), c.2 - (gw gs x.2.1 + pws gs ws ps)) := by
      refine Prod.ext ?_ ?_
      · show c.1 + _ + _ = _
        omega
      · show c.2 - _ - _ = _
        omega
    rw [← e]
    exact h4
/-! ### the best ways -/
def best (gs : List Gt) (ws : List Wr) (s : Nat) : Dst := rnds gs ws s gs.length
section
variable {gs : List Gt} {ws : List Wr} {s : Nat}
theorem best_fix (N : NetOk gs ws) (hs : s < gs.length) : Fix gs ws (best gs ws s) := rnds_fix N hs (Nat.le_succ _)
theorem best_way {g : Nat} {c : Cst} (h : best gs ws s g = some c) : ∃ ps, Pw ws s ps g ∧ c = (prg ws ps, -pwt gs ws s ps) := by
  obtain ⟨vs, hv⟩ := Snd.rnds (gs := gs) (ws := ws) (s := s) gs.length g c h
  exact hv.pw
theorem best_le (N : NetOk gs ws) (hs : s < gs.length) {ps : List Nat} {g : Nat} (h : Pw ws s ps g) : ∃ c, best gs ws s g = some c ∧ leC c (prg ws ps, -pwt gs ws s ps) := by
  obtain ⟨ρ, hρ⟩ := N.rank
  obtain ⟨vs, hv⟩ := Pw.wk (gs := gs) (Wk.nil (gs := gs) (ws := ws) (s := s)) h
  obtain ⟨vs', c', h1, h2, h3⟩ := hv.simple hρ
  obtain ⟨o, ho, h4⟩ := h1.comp gs.length (by have := svNodup_le h2 (h1.lows N hs); omega)
  refine ⟨o, ho, h4.trans ?_⟩
  have e : ((0 : Int) + prg ws ps, -gw gs s - pws gs ws ps) = (prg ws ps, -pwt gs ws s ps) := by
    unfold pwt
    refine Prod.ext ?_ ?_
    · show (0 : Int) + _ = _
      omega
    · show -gw gs s - pws gs ws ps = -(gw gs s + pws gs ws ps)
      omega
  rw [← e]
  exact h3
theorem best_lt (N : NetOk gs ws) (hs : s < gs.length) {g : Nat} {c : Cst} (h : best gs ws s g = some c) : g < gs.length := by
  obtain ⟨ps, h1, _⟩ := best_way h
  exact h1.lt N hs
theorem best_nn {g : Nat} {c : Cst} (h : best gs ws s g = some c) : 0 ≤ c.1 := by
  obtain ⟨ps, _, e⟩ := best_way h
  rw [e]
  exact prg_nn ws ps
/-- no ring without registers -/
theorem ring_regs {ρ : Nat → Nat} (hρ : ∀ x ∈ ws, x.2.2 = [] → ρ x.1 < ρ x.2.1) : ∀ {ps : List Nat} {u g : Nat}, Pw ws u ps g → prg ws ps = 0 → ρ u + ps.length ≤ ρ g
  | [], u, g, h, _ => by
    have h : u = g := h
    rw [h]
    exact Nat.le_refl _
  | p :: ps, u, g, ⟨x, h1, h2, h3⟩, h0 => by
    rw [prg_cons h1] at h0
    have := prg_nn ws ps
    have hx0 : x.2.2 = [] := List.length_eq_zero_iff.mp (by omega)
    have h4 := ring_regs hρ h3 (by omega)
    have h5 := hρ x (List.mem_of_getElem? h1) hx0
    rw [h2] at h5
    rw [List.length_cons]
    omega
theorem rnds_s (N : NetOk gs ws) : ∀ k, rnds gs ws s k s = some (0, -gw gs s) := fun k => by
  obtain ⟨c, hc, hle⟩ : ∃ c, rnds gs ws s k s = some c ∧ leC c (0, -gw gs s) := (Wk.nil (gs := gs) (ws := ws) (s := s)).comp k (by simp)
  obtain ⟨vs, hv⟩ := Snd.rnds (gs := gs) (ws := ws) (s := s) k s c hc
  obtain ⟨ps, h1, h2⟩ := hv.pw
  obtain ⟨ρ, hρ⟩ := N.rank
  rw [hc]
  rw [leC_iff] at hle
  subst h2
  have h3 := prg_nn ws ps
  have h0 : prg ws ps = 0 := by
    rcases hle with h | h
    · have h : prg ws ps < 0 := h
      omega
    · exact h.1
  have h4 := ring_regs hρ h1 h0
  have h5 : ps = [] := List.length_eq_zero_iff.mp (by omega)
  subst h5
  unfold pwt
  rw [prg_nil, pws_nil, Int.add_zero]
end
/-! ### the last wires of the best ways -/
structure LaI (gs : List Gt) (ws : List Wr) (s : Nat) (D : Dst) (La : List (Option Nat)) : Prop where
  len : La.length = gs.length
  at_ : La.getD s none = none
  la : ∀ g c, g ≠ s → D g = some c → ∃ p x c', La.getD g none = some p ∧ ws[p]? = some x ∧ x.2.1 = g ∧ D x.1 = some c' ∧ leC (addC gs c' x) c
theorem getD_setL {l : List (Option Nat)} {e g : Nat} {v d : Option Nat} (h : e < l.length) : (l.set e v).getD g d = if g = e then v else l.getD g d := by
  rw [List.getD_eq_getElem?_getD, List.getElem?_set]
  by_cases he : e = g
  · subst he
    rw [if_pos rfl, if_pos rfl, if_pos h]
    rfl
  · rw [if_neg he, if_neg (fun z => he z.symm), List.getD_eq_getElem?_getD]
theorem LaI.ini (gs : List Gt) (ws : List Wr) (s : Nat) : LaI gs ws s (Lag.ini gs s) (List.replicate gs.length none) := by
  have nn : ∀ g, (List.replicate gs.length (none : Option Nat)).getD g none = none := fun g => by
    rw [List.getD_eq_getElem?_getD, List.getElem?_replicate]
    split <;> rfl
  refine ⟨List.length_replicate .., nn s, fun g c hg h => ?_⟩
  unfold Lag.ini at h
  rw [if_neg hg] at h
  cases h
/-- the fold's first j wires, one more -/
theorem fold_succ {gs : List Gt} {ws : List Wr} {D : Dst} {j : Nat} {x : Wr} (hx : ws[j]? = some x) : (ws.take (j + 1)).foldl (Lag.rel gs) D = Lag.rel gs ((ws.take j).foldl (Lag.rel gs) D) x := by
  rw [List.take_add_one, hx, List.foldl_append]
  rfl
theorem rel_bet {gs : List Gt} {D : Dst} {x : Wr} {c : Cst} (h : D x.1 = some c) (hb : ∀ o, D x.2.1 = some o → ltC (addC gs c x) o) : Lag.rel gs D x = setD D x.2.1 (addC gs c x) := by
  cases h2 : D x.2.1 with
  | none => exact rel_new h h2
  | some o => rw [rel_old h h2, if_pos (hb o h2)]
theorem LaI.set {gs : List Gt} {ws : List Wr} {s : Nat} {D : Dst} {La : List (Option Nat)} {x : Wr} {c : Cst} {p : Nat} (N : NetOk gs ws) (h : LaI gs ws s D La) (hp : ws[p]? = some x) (hc : D x.1 = some c) (hb : ∀ o, D x.2.1 = some o → ltC (addC gs c x) o) (hs : D s = some (0, -gw gs s)) (S : Snd gs ws s D) :
    LaI gs ws s (setD D x.2.1 (addC gs c x)) (La.set x.2.1 (some p)) := by
  have W := N.wok x (List.mem_of_getElem? hp)
  have hl : x.2.1 < La.length := by rw [h.len]; exact W.e
  obtain ⟨ρ, hρ⟩ := N.rank
  have hne : x.2.1 ≠ s := fun e => by
    have h1 := hb (0, -gw gs s) (by rw [e]; exact hs)
    obtain ⟨vs, hv⟩ := S _ _ hc
    obtain ⟨ps, h2, h3⟩ := hv.pw
    have h4 : Pw ws s (ps ++ [p]) x.2.1 := h2.snoc hp rfl
    rw [e] at h4
    have hn := prg_nn ws ps
    have hlt : prg ws (ps ++ [p]) = 0 := by
      rw [prg_snoc hp]
      unfold ltC addC at h1
      rw [h3] at h1
      have h1' : prg ws ps + ((x.2.2.length : Nat) : Int) < 0 ∨ (prg ws ps + ((x.2.2.length : Nat) : Int) = 0 ∧ _) := h1
      rcases h1' with h1' | h1'
      · omega
      · exact h1'.1
    have h5 := ring_regs hρ h4 hlt
    rw [List.length_append, List.length_singleton] at h5
    omega
  refine ⟨by rw [List.length_set]; exact h.len, ?_, fun g c2 hg h2 => ?_⟩
  · rw [getD_setL hl, if_neg fun e => hne e.symm]
    exact h.at_
  have nx : x.1 ≠ x.2.1 := fun e => by
    have h1 := hb c (by rw [← e]; exact hc)
    rcases h1 with h1 | h1
    · have h1 : c.1 + ((x.2.2.length : Nat) : Int) < c.1 := h1
      omega
    · have h1 : c.1 + ((x.2.2.length : Nat) : Int) = c.1 := h1.1
      have hx0 : x.2.2 = [] := List.length_eq_zero_iff.mp (by omega)
      have := hρ x (List.mem_of_getElem? hp) hx0
      rw [e] at this
      omega
  rw [getD_setL hl]
  unfold setD at h2
  by_cases e : g = x.2.1
  · rw [if_pos e] at h2
    cases h2
    refine ⟨p, x, c, by rw [if_pos e], hp, e.symm, ?_, leC.refl _⟩
    unfold setD
    rw [if_neg nx]
    exact hc
  · rw [if_neg e] at h2
    obtain ⟨p', x', c', k1, k2, k3, k4, k5⟩ := h.la g c2 hg h2
    unfold setD
    by_cases e2 : x'.1 = x.2.1
    · refine ⟨p', x', addC gs c x, by rw [if_neg e]; exact k1, k2, k3, by rw [if_pos e2], ?_⟩
      rw [e2] at k4
      exact ((hb c' k4).le.add x').trans k5
    · exact ⟨p', x', c', by rw [if_neg e]; exact k1, k2, k3, by rw [if_neg e2]; exact k4, k5⟩
theorem LaI.eq {gs : List Gt} {ws : List Wr} {s : Nat} {D : Dst} {La : List (Option Nat)} (h : LaI gs ws s D La) (F : Fix gs ws D) {g : Nat} {c : Cst} (hg : g ≠ s) (hc : D g = some c) :
    ∃ p x c', La.getD g none = some p ∧ ws[p]? = some x ∧ x.2.1 = g ∧ D x.1 = some c' ∧ addC gs c' x = c := by
  obtain ⟨p, x, c', k1, k2, k3, k4, k5⟩ := h.la g c hg hc
  refine ⟨p, x, c', k1, k2, k3, k4, leC.anti k5 fun hl => F x (List.mem_of_getElem? k2) ⟨c', k4, fun o ho => ?_⟩⟩
  rw [k3, hc] at ho
  cases ho
  exact hl
/-- the way back by the last wires -/
inductive Bk (ws : List Wr) (La : List (Option Nat)) : Nat → List Nat → Nat → Prop
  | nil {g : Nat} : La.getD g none = none → Bk ws La g [] g
  | cons {g p s : Nat} {x : Wr} {ps : List Nat} : La.getD g none = some p → ws[p]? = some x → x.2.1 = g → Bk ws La x.1 ps s → Bk ws La g (p :: ps) s
theorem Bk.pw {ws : List Wr} {La : List (Option Nat)} {g s : Nat} {ps : List Nat} (h : Bk ws La g ps s) : Pw ws s ps.reverse g := by
  induction h with
  | nil _ => exact rfl
  | @cons g p s x ps h1 h2 h3 _ ih =>
    rw [List.reverse_cons, ← h3]
    exact ih.snoc h2 rfl
/-- a lexicographic measure of a gate -/
def lt2 (a b : Nat × Nat) : Prop := a.1 < b.1 ∨ (a.1 = b.1 ∧ a.2 < b.2)
theorem LaI.back {gs : List Gt} {ws : List Wr} {s : Nat} {D : Dst} {La : List (Option Nat)} (N : NetOk gs ws) (h : LaI gs ws s D La) (F : Fix gs ws D) (hs : D s = some (0, -gw gs s)) (hsl : s < gs.length) (hn : ∀ g c, D g = some c → 0 ≤ c.1) (hlt : ∀ g c, D g = some c → g < gs.length)
    {ρ : Nat → Nat} (hρ : ∀ x ∈ ws, x.2.2 = [] → ρ x.1 < ρ x.2.1) : ∀ (m r g : Nat) (c : Cst), D g = some c → c.1.toNat = m → ρ g = r →
    ∃ (ps vs : List Nat), Bk ws La g ps s ∧ vs.length = ps.length + 1 ∧ vs.Nodup ∧ (∀ v ∈ vs, ∃ c', D v = some c' ∧ (c'.1 < c.1 ∨ (c'.1 = c.1 ∧ ρ v ≤ r))) ∧ c = (prg ws ps.reverse, -pwt gs ws s ps.reverse) := by
  intro m
  induction m using Nat.strongRecOn with
  | ind m ihm =>
    intro r
    induction r using Nat.strongRecOn with
    | ind r ihr =>
      intro g c hc hm hr
      by_cases hg : g = s
      · subst hg
        rw [hs] at hc
        cases hc
        refine ⟨[], [g], .nil h.at_, rfl, by simp, fun v hv => ?_, ?_⟩
        · rw [List.mem_singleton.mp hv]
          exact ⟨_, hs, .inr ⟨rfl, by omega⟩⟩
        · show _ = (prg ws [], -pwt gs ws g [])
          unfold pwt
          rw [prg_nil, pws_nil, Int.add_zero]
      · obtain ⟨p, x, c', k1, k2, k3, k4, k5⟩ := h.eq F hg hc
        have n0 := hn _ _ k4
        have e1 : c'.1 + ((x.2.2.length : Nat) : Int) = c.1 := by rw [← k5]; rfl
        have step : ∃ (ps vs : List Nat), Bk ws La x.1 ps s ∧ vs.length = ps.length + 1 ∧ vs.Nodup ∧ (∀ v ∈ vs, ∃ c2, D v = some c2 ∧ (c2.1 < c'.1 ∨ (c2.1 = c'.1 ∧ ρ v ≤ ρ x.1))) ∧ c' = (prg ws ps.reverse, -pwt gs ws s ps.reverse) := by
          by_cases h0 : x.2.2 = []
          · have hlr := hρ x (List.mem_of_getElem? k2) h0
            rw [h0] at e1
            have e2 : c'.1 = c.1 := by
              have : ((([] : List Int).length : Nat) : Int) = 0 := rfl
              omega
            exact ihr (ρ x.1) (by rw [← hr, ← k3]; exact hlr) x.1 c' k4 (by rw [e2]; exact hm) rfl
          · have hp : 0 < x.2.2.length := List.length_pos_iff.mpr h0
            exact ihm c'.1.toNat (by omega) (ρ x.1) x.1 c' k4 rfl rfl
        obtain ⟨ps, vs, b1, b2, b3, b4, b5⟩ := step
        have le : ∀ v ∈ vs, ∃ c2, D v = some c2 ∧ (c2.1 < c.1 ∨ (c2.1 = c.1 ∧ ρ v < ρ g)) := fun v hv => by
          obtain ⟨c2, h1, h2⟩ := b4 v hv
          refine ⟨c2, h1, ?_⟩
          by_cases h0 : x.2.2 = []
          · have hlr := hρ x (List.mem_of_getElem? k2) h0
            rw [k3] at hlr
            have : ((x.2.2.length : Nat) : Int) = 0 := by rw [h0]; rfl
            omega
          · have hp : 0 < x.2.2.length := List.length_pos_iff.mpr h0
            omega
        refine ⟨p :: ps, g :: vs, .cons k1 k2 k3 b1, by rw [List.length_cons, List.length_cons, b2], List.nodup_cons.mpr ⟨fun hm => ?_, b3⟩, fun v hv => ?_, ?_⟩
        · obtain ⟨c2, h1, h2⟩ := le g hm
          rw [hc] at h1
          cases h1
          omega
        · rcases List.mem_cons.mp hv with e | hv
          · rw [e]
            exact ⟨c, hc, .inr ⟨rfl, by omega⟩⟩
          · obtain ⟨c2, h1, h2⟩ := le v hv
            refine ⟨c2, h1, ?_⟩
            omega
        · rw [List.reverse_cons, ← k5, b5]
          unfold addC pwt
          rw [prg_snoc k2, pws_snoc k2]
          refine Prod.ext rfl ?_
          show -(gw gs s + pws gs ws ps.reverse) - gw gs x.2.1 = -(gw gs s + (pws gs ws ps.reverse + gw gs x.2.1))
          omega
/-- what best_from tells as last wires -/
def LaOk (gs : List Gt) (ws : List Wr) (s : Nat) (La : List (Option Nat)) : Prop := La.length = gs.length ∧ ∀ g c, best gs ws s g = some c → ∃ ps, Bk ws La g ps s ∧ c = (prg ws ps.reverse, -pwt gs ws s ps.reverse) ∧ ps.length < gs.length
theorem LaI.ok {gs : List Gt} {ws : List Wr} {s k : Nat} {La : List (Option Nat)} (N : NetOk gs ws) (hs : s < gs.length) (hk : k ≤ gs.length) (F : Fix gs ws (rnds gs ws s k)) (h : LaI gs ws s (rnds gs ws s k) La) : LaOk gs ws s La ∧ rnds gs ws s k = best gs ws s := by
  have e : best gs ws s = rnds gs ws s k := by
    unfold best
    obtain ⟨j, hj⟩ : ∃ j, gs.length = k + j := ⟨gs.length - k, by omega⟩
    rw [hj]
    exact rnds_stay F j
  rw [← e] at F h ⊢
  refine ⟨⟨h.len, fun g c hc => ?_⟩, rfl⟩
  obtain ⟨ρ, hρ⟩ := N.rank
  obtain ⟨ps, vs, h1, h2, h3, h4, h5⟩ := h.back N F (by unfold best; exact rnds_s N _) hs (fun g c h => best_nn h) (fun g c h => best_lt N hs h) hρ _ _ g c hc rfl rfl
  refine ⟨ps, h1, h5, ?_⟩
  have := svNodup_le h3 fun v hv => by
    obtain ⟨c2, h6, _⟩ := h4 v hv
    exact best_lt N hs h6
  omega
end Lag

set_option maxRecDepth 100000
set_option maxHeartbeats 8000000
namespace Lag
open PySem PySem.Spec PyProof.Rows L2
/-! ### bounds, and numbers that keep to them: the mathematics -/
abbrev Bnd := Nat × Nat × Int
def bAt (bs : List Bnd) (j : Nat) : Bnd := bs.getD j (0, 0, 0)
theorem bAt_get {bs : List Bnd} {j : Nat} {b : Bnd} (h : bs[j]? = some b) : bAt bs j = b := by
  unfold bAt
  rw [List.getD_eq_getElem?_getD, h]
  rfl
/-- a row of bounds that follows what O tells of each place -/
def PtO (bs : List Bnd) (O : Nat → Option Nat) : Nat → List Nat → Nat → Prop
  | s, [], e => s = e
  | s, j :: r, e => O s = some j ∧ ∃ b, bs[j]? = some b ∧ b.1 = s ∧ PtO bs O b.2.1 r e
/-- a row of bounds -/
def PtB (bs : List Bnd) : Nat → List Nat → Nat → Prop
  | s, [], e => s = e
  | s, j :: r, e => ∃ b, bs[j]? = some b ∧ b.1 = s ∧ PtB bs b.2.1 r e
def rsum (bs : List Bnd) (js : List Nat) : Int := (js.map fun j => (bAt bs j).2.2).sum
theorem rsum_cons {bs : List Bnd} {j : Nat} {b : Bnd} (h : bs[j]? = some b) (r : List Nat) : rsum bs (j :: r) = b.2.2 + rsum bs r := by
  unfold rsum
  rw [List.map_cons, List.sum_cons, bAt_get h]
theorem rsum_app (bs : List Bnd) (a b : List Nat) : rsum bs (a ++ b) = rsum bs a + rsum bs b := by
  unfold rsum
  rw [List.map_append, List.sum_append]
theorem PtO.ptB {bs : List Bnd} {O : Nat → Option Nat} : ∀ {js : List Nat} {s e : Nat}, PtO bs O s js e → PtB bs s js e
  | [], _, _, h => h
  | j :: r, s, e, ⟨_, b, h1, h2, h3⟩ => ⟨b, h1, h2, PtO.ptB h3⟩
theorem PtO.app {bs : List Bnd} {O : Nat → Option Nat} : ∀ {a : List Nat} {s m e : Nat} {b : List Nat}, PtO bs O s a m → PtO bs O m b e → PtO bs O s (a ++ b) e
  | [], _, _, _, _, h, h' => by
    have h : _ = _ := h
    rw [h]
    exact h'
  | j :: a, s, m, e, b, ⟨h0, x, h1, h2, h3⟩, h' => ⟨h0, x, h1, h2, PtO.app h3 h'⟩
theorem PtO.split {bs : List Bnd} {O : Nat → Option Nat} : ∀ {a : List Nat} {s e : Nat} {b : List Nat}, PtO bs O s (a ++ b) e → ∃ m, PtO bs O s a m ∧ PtO bs O m b e
  | [], s, e, b, h => ⟨s, rfl, h⟩
  | j :: a, s, e, b, ⟨h0, x, h1, h2, h3⟩ => by
    obtain ⟨m, h4, h5⟩ := PtO.split h3
    exact ⟨m, ⟨h0, x, h1, h2, h4⟩, h5⟩
theorem PtO.snoc {bs : List Bnd} {O : Nat → Option Nat} {s e j : Nat} {a : List Nat} {b : Bnd} (h : PtO bs O s a e) (h0 : O e = some j) (hb : bs[j]? = some b) (hs : b.1 = e) : PtO bs O s (a ++ [j]) b.2.1 :=
  PtO.app h ⟨h0, b, hb, hs, rfl⟩
theorem PtB.app {bs : List Bnd} : ∀ {a : List Nat} {s m e : Nat} {b : List Nat}, PtB bs s a m → PtB bs m b e → PtB bs s (a ++ b) e
  | [], _, _, _, _, h, h' => by
    have h : _ = _ := h
    rw [h]
    exact h'
  | j :: a, s, m, e, b, ⟨x, h1, h2, h3⟩, h' => ⟨x, h1, h2, PtB.app h3 h'⟩
def updO (O : Nat → Option Nat) (s j : Nat) : Nat → Option Nat := fun v => if v = s then some j else O v
/-- the first time that the new bound is gone along -/
theorem PtO.old {bs : List Bnd} {O : Nat → Option Nat} {s j : Nat} {b : Bnd} (hb : bs[j]? = some b) : ∀ {js : List Nat} {u v : Nat}, PtO bs (updO O s j) u js v →
    PtO bs O u js v ∨ ∃ a c, js = a ++ j :: c ∧ PtO bs O u a s ∧ PtO bs (updO O s j) u a s ∧ PtO bs (updO O s j) b.2.1 c v
  | [], u, v, h => .inl h
  | i :: r, u, v, ⟨h0, x, h1, h2, h3⟩ => by
    by_cases hu : u = s
    · have h0' : i = j := by
        unfold updO at h0
        rw [if_pos hu] at h0
        exact (Option.some.inj h0).symm
      subst h0'
      rw [hb] at h1
      cases h1
      exact .inr ⟨[], r, rfl, hu, hu, h3⟩
    · have h0' : O u = some i := by
        unfold updO at h0
        rw [if_neg hu] at h0
        exact h0
      rcases PtO.old hb h3 with h4 | ⟨a, c, e, h4, h5, h6⟩
      · exact .inl ⟨h0', x, h1, h2, h4⟩
      · exact .inr ⟨i :: a, c, by rw [e]; rfl, ⟨h0', x, h1, h2, h4⟩, ⟨h0, x, h1, h2, h5⟩, h6⟩
/-- what holds in round t, behind the first j bounds: F the numbers, O the bound of the last change, T its round -/
structure SI (bs : List Bnd) (n : Nat) (F : Nat → Int) (O : Nat → Option Nat) (T : Nat → Nat) (t j : Nat) : Prop where
  non : ∀ v, O v = none → T v = 0 ∧ F v = 0
  on : ∀ v i, O v = some i → v < n ∧ ∃ b, bs[i]? = some b ∧ b.1 = v ∧ F b.2.1 + b.2.2 ≤ F v ∧ T v ≤ T b.2.1 + 1
  ok : ∀ i b, bs[i]? = some b → F b.1 ≤ F b.2.1 + b.2.2 ∨ (if i < j then t else t - 1) ≤ T b.2.1
  cyc : ∀ v js, js ≠ [] → PtO bs O v js v → rsum bs js < 0
  le0 : ∀ v, F v ≤ 0
  tle : ∀ v, T v ≤ t
theorem SI.low {bs : List Bnd} {n : Nat} {F : Nat → Int} {O : Nat → Option Nat} {T : Nat → Nat} {t j : Nat} (h : SI bs n F O T t j) : ∀ {js : List Nat} {u v : Nat}, PtO bs O u js v → F v + rsum bs js ≤ F u
  | [], u, v, e => by
    have e : u = v := e
    rw [e]
    show F v + 0 ≤ F v
    omega
  | i :: r, u, v, ⟨h0, x, h1, h2, h3⟩ => by
    have h4 := SI.low h h3
    obtain ⟨_, b, h5, h6, h7, _⟩ := h.on u i h0
    rw [h1] at h5
    cases h5
    rw [rsum_cons h1]
    omega
theorem SI.start (bs : List Bnd) (n : Nat) : SI bs n (fun _ => 0) (fun _ => none) (fun _ => 0) 1 0 :=
  ⟨fun v _ => ⟨rfl, rfl⟩, fun v i h => (nomatch h), fun i b _ => .inr (by
    rw [if_neg (by omega)]
    exact Nat.le_refl 0), fun v js hn h => (match js, hn, h with
      | [], hn, _ => absurd rfl hn
      | i :: r, _, h => (nomatch h.1)), fun v => Int.le_refl 0, fun v => Nat.zero_le _⟩
theorem SI.next {bs : List Bnd} {n : Nat} {F : Nat → Int} {O : Nat → Option Nat} {T : Nat → Nat} {t : Nat} (h : SI bs n F O T t bs.length) : SI bs n F O T (t + 1) 0 :=
  ⟨h.non, h.on, fun i b hb => by
    rcases h.ok i b hb with h1 | h1
    · exact .inl h1
    · refine .inr ?_
      rw [if_pos (List.getElem?_eq_some_iff.mp hb).1] at h1
      rw [if_neg (by omega)]
      omega, h.cyc, h.le0, fun v => Nat.le_succ_of_le (h.tle v)⟩
theorem SI.skip {bs : List Bnd} {n : Nat} {F : Nat → Int} {O : Nat → Option Nat} {T : Nat → Nat} {t j : Nat} {b : Bnd} (h : SI bs n F O T t j) (hb : bs[j]? = some b) (hk : F b.1 ≤ F b.2.1 + b.2.2) : SI bs n F O T t (j + 1) :=
  ⟨h.non, h.on, fun i b' hb' => by
    by_cases e : i = j
    · subst e
      rw [hb] at hb'
      cases hb'
      exact .inl hk
    · rcases h.ok i b' hb' with h1 | h1
      · exact .inl h1
      · refine .inr ?_
        by_cases hi : i < j
        · rw [if_pos hi] at h1
          rw [if_pos (by omega)]
          exact h1
        · rw [if_neg hi] at h1
          rw [if_neg (by omega)]
          exact h1, h.cyc, h.le0, h.tle⟩
theorem SI.set {bs : List Bnd} {n : Nat} {F : Nat → Int} {O : Nat → Option Nat} {T : Nat → Nat} {t j : Nat} {b : Bnd} (h : SI bs n F O T t j) (ht : 1 ≤ t) (hb : bs[j]? = some b) (hs : b.1 < n) (hk : F b.2.1 + b.2.2 < F b.1) :
    SI bs n (fun v => if v = b.1 then F b.2.1 + b.2.2 else F v) (updO O b.1 j) (fun v => if v = b.1 then t else T v) t (j + 1) := by
  have hTe : t - 1 ≤ T b.2.1 := by
    rcases h.ok j b hb with h1 | h1
    · omega
    · rw [if_neg (by omega)] at h1
      exact h1
  have hFle : ∀ v, (if v = b.1 then F b.2.1 + b.2.2 else F v) ≤ F v := fun v => by
    by_cases e : v = b.1
    · rw [if_pos e, e]
      omega
    · rw [if_neg e]
      exact Int.le_refl _
  have hTle : ∀ v, t - 1 ≤ T v → t - 1 ≤ (if v = b.1 then t else T v) := fun v hv => by
    split
    · omega
    · exact hv
  refine ⟨fun v hv => ?_, fun v i hv => ?_, fun i b' hb' => ?_, fun v js hn hp => ?_, fun v => Int.le_trans (hFle v) (h.le0 v), fun v => ?_⟩
  · unfold updO at hv
    by_cases e : v = b.1
    · rw [if_pos e] at hv
      cases hv
    · rw [if_neg e] at hv
      rw [if_neg e, if_neg e]
      exact h.non v hv
  · unfold updO at hv
    by_cases e : v = b.1
    · rw [if_pos e] at hv
      cases hv
      refine ⟨by rw [e]; exact hs, b, hb, e.symm, ?_, ?_⟩
      · rw [if_pos e]
        have := hFle b.2.1
        omega
      · rw [if_pos e]
        have := hTle b.2.1 hTe
        omega
    · rw [if_neg e] at hv
      obtain ⟨h1, b2, h2, h3, h4, h5⟩ := h.on v i hv
      refine ⟨h1, b2, h2, h3, ?_, ?_⟩
      · rw [if_neg e]
        have := hFle b2.2.1
        omega
      · rw [if_neg e]
        by_cases e2 : b2.2.1 = b.1
        · rw [if_pos e2]
          have := h.tle b2.2.1
          omega
        · rw [if_neg e2]
          exact h5
  · by_cases e : b'.2.1 = b.1
    · refine .inr ?_
      rw [if_pos e]
      split <;> omega
    · rw [if_neg e, if_neg e]
      by_cases hij : i = j
      · subst hij
        rw [hb] at hb'
        cases hb'
        refine .inl ?_
        rw [if_pos rfl]
        exact Int.le_refl _
      · have cond : (if i < j + 1 then t else t - 1) = (if i < j then t else t - 1) := by
          by_cases hi : i < j
          · rw [if_pos hi, if_pos (by omega)]
          · rw [if_neg hi, if_neg (by omega)]
        rw [cond]
        rcases h.ok i b' hb' with h1 | h1
        · refine .inl ?_
          have := hFle b'.1
          omega
        · exact .inr h1
  · -- rings
    have neg : ∀ (m : Nat) (c : List Nat), c.length = m → PtO bs (updO O b.1 j) b.2.1 c b.1 → b.2.2 + rsum bs c < 0 := by
      intro m
      induction m using Nat.strongRecOn with
      | ind m ih =>
        intro c hm hc
        rcases PtO.old hb hc with h1 | ⟨a, d, e, h1, _, h3⟩
        · have := h.low h1
          omega
        · have h4 := h.low h1
          have h5 := ih d.length (by rw [← hm, e, List.length_append, List.length_cons]; omega) d rfl h3
          rw [e, rsum_app, rsum_cons hb]
          omega
    rcases PtO.old hb hp with h1 | ⟨a, c, e, h1, h2, h3⟩
    · exact h.cyc v js hn h1
    · have h4 := neg _ (c ++ a) rfl (PtO.app h3 h2)
      rw [e, rsum_app, rsum_cons hb]
      rw [rsum_app] at h4
      omega
  · by_cases e : v = b.1
    · rw [if_pos e]
      exact Nat.le_refl _
    · rw [if_neg e]
      exact h.tle v
theorem SI.congr {bs : List Bnd} {n : Nat} {F F' : Nat → Int} {O : Nat → Option Nat} {T : Nat → Nat} {t j : Nat} (h : SI bs n F O T t j) (e : ∀ v, F' v = F v) : SI bs n F' O T t j := by
  have e : F' = F := funext e
  rw [e]
  exact h
theorem SI.more {bs : List Bnd} {n : Nat} {F : Nat → Int} {O : Nat → Option Nat} {T : Nat → Nat} {t j : Nat} (h : SI bs n F O T t j) : ∀ {js : List Nat} {u v : Nat}, PtO bs O u js v → T u ≤ T v + js.length
  | [], u, v, e => by
    have e : u = v := e
    rw [e]
    exact Nat.le_refl _
  | i :: r, u, v, ⟨h0, x, h1, h2, h3⟩ => by
    have h4 := SI.more h h3
    obtain ⟨_, b, h5, h6, _, h7⟩ := h.on u i h0
    rw [h1] at h5
    cases h5
    rw [List.length_cons]
    omega
def Sat (bs : List Bnd) (F : Nat → Int) : Prop := ∀ b ∈ bs, F b.1 ≤ F b.2.1 + b.2.2
theorem Sat.along {bs : List Bnd} {F : Nat → Int} (h : Sat bs F) : ∀ {js : List Nat} {u v : Nat}, PtB bs u js v → F u ≤ F v + rsum bs js
  | [], u, v, e => by
    have e : u = v := e
    rw [e]
    show F v ≤ F v + 0
    omega
  | i :: r, u, v, ⟨x, h1, h2, h3⟩ => by
    have h4 := Sat.along h h3
    have := h x (List.mem_of_getElem? h1)
    rw [rsum_cons h1]
    rw [h2] at this
    omega
/-- the places come by -/
def vts (bs : List Bnd) (s : Nat) (js : List Nat) : List Nat := s :: js.map fun j => (bAt bs j).2.1
theorem vts_get {bs : List Bnd} {O : Nat → Option Nat} {s e : Nat} {js : List Nat} (h : PtO bs O s js e) {i : Nat} (hi : i ≤ js.length) : ∃ v, (vts bs s js)[i]? = some v ∧ PtO bs O s (js.take i) v ∧ PtO bs O v (js.drop i) e := by
  induction js generalizing s i with
  | nil =>
    have hi : i = 0 := by simpa using hi
    subst hi
    exact ⟨s, rfl, rfl, h⟩
  | cons j r ih =>
    obtain ⟨h0, b, h1, h2, h3⟩ := h
    cases i with
    | zero => exact ⟨s, rfl, rfl, h0, b, h1, h2, h3⟩
    | succ i =>
      obtain ⟨v, h4, h5, h6⟩ := ih h3 (by simpa using hi)
      refine ⟨v, ?_, ⟨h0, b, h1, h2, h5⟩, h6⟩
      unfold vts at *
      rw [List.getElem?_cons_succ, List.map_cons, bAt_get h1]
      exact h4
/-- a row that comes by no place twice is short -/
theorem SI.short {bs : List Bnd} {n : Nat} {F : Nat → Int} {O : Nat → Option Nat} {T : Nat → Nat} {t j : Nat} (h : SI bs n F O T t j) (S : Sat bs F) (hb : ∀ b ∈ bs, b.1 < n ∧ b.2.1 < n) {js : List Nat} {u v : Nat} (hu : u < n) (hp : PtO bs O u js v) : js.length < n := by
  have nd : (vts bs u js).Nodup := by
    unfold List.Nodup
    rw [List.pairwise_iff_getElem]
    intro a c ha hc hac e
    have hl : (vts bs u js).length = js.length + 1 := by unfold vts; rw [List.length_cons, List.length_map]
    obtain ⟨x, h1, h2, h3⟩ := vts_get hp (i := a) (by omega)
    obtain ⟨y, k1, k2, k3⟩ := vts_get hp (i := c) (by omega)
    rw [List.getElem?_eq_getElem ha] at h1
    rw [List.getElem?_eq_getElem hc] at k1
    have exy : x = y := by
      have := Option.some.inj h1
      have := Option.some.inj k1
      omega
    subst exy
    have e2 : js.take c = js.take a ++ (js.take c).drop a := by
      have e3 : (js.take c).take a = js.take a := by rw [List.take_take, Nat.min_eq_left (by omega)]
      rw [← e3, List.take_append_drop]
    rw [e2] at k2
    obtain ⟨m, p1, p2⟩ := PtO.split k2
    have em : m = x := by
      have fn : ∀ {js : List Nat} {s e e' : Nat}, PtO bs O s js e → PtO bs O s js e' → e = e' := by
        intro js
        induction js with
        | nil =>
          intro s e e' q q'
          have q : s = e := q
          have q' : s = e' := q'
          omega
        | cons i r ih =>
          intro s e e' ⟨_, b1, q1, _, q2⟩ ⟨_, b2, q3, _, q4⟩
          rw [q1] at q3
          cases q3
          exact ih q2 q4
      exact fn p1 h2
    subst em
    have hne : (js.take c).drop a ≠ [] := fun z => by
      have := congrArg List.length z
      rw [List.length_drop, List.length_take] at this
      simp at this
      omega
    have c1 := h.cyc _ _ hne p2
    have c2 := S.along p2.ptB
    omega
  have lt : ∀ w ∈ vts bs u js, w < n := fun w hw => by
    rcases List.mem_cons.mp hw with e | hw
    · rw [e]
      exact hu
    · obtain ⟨i, hi, rfl⟩ := List.mem_map.mp hw
      have hin : ∀ {js : List Nat} {s e : Nat}, PtO bs O s js e → ∀ i ∈ js, ∃ b, bs[i]? = some b := by
        intro js
        induction js with
        | nil => intro s e _ i h; cases h
        | cons k r ih =>
          intro s e ⟨_, b, q1, _, q2⟩ i h
          rcases List.mem_cons.mp h with h | h
          · rw [h]
            exact ⟨b, q1⟩
          · exact ih q2 i h
      obtain ⟨b, hb'⟩ := hin hp i hi
      rw [bAt_get hb']
      exact (hb b (List.mem_of_getElem? hb')).2
  have := svNodup_le nd lt
  unfold vts at this
  rw [List.length_cons, List.length_map] at this
  omega
theorem SI.lowR {bs : List Bnd} {n : Nat} {F : Nat → Int} {O : Nat → Option Nat} {T : Nat → Nat} {t j : Nat} (h : SI bs n F O T t j) (S : Sat bs F) (hb : ∀ b ∈ bs, b.1 < n ∧ b.2.1 < n) {R : Int} (hR : 0 ≤ R) (hr : ∀ b ∈ bs, -R ≤ b.2.2) {v : Nat} (hv : v < n) : -((n : Int) * R) ≤ F v := by
  have rs : ∀ {js : List Nat} {u e : Nat}, PtO bs O u js e → -((js.length : Int) * R) ≤ rsum bs js := by
    intro js
    induction js with
    | nil =>
      intro u e _
      show -((0 : Int) * R) ≤ 0
      rw [Int.zero_mul]
      decide
    | cons i r ih =>
      intro u e ⟨_, b, h1, _, h3⟩
      have := ih h3
      have := hr b (List.mem_of_getElem? h1)
      rw [rsum_cons h1, List.length_cons, Int.natCast_add, Int.add_mul]
      show -((r.length : Int) * R + 1 * R) ≤ _
      rw [Int.one_mul]
      omega
  have go : ∀ k, (∃ js e, js.length = k ∧ PtO bs O v js e) ∨ ∃ js e, PtO bs O v js e ∧ O e = none := by
    intro k
    induction k with
    | zero => exact .inl ⟨[], v, rfl, rfl⟩
    | succ k ih =>
      rcases ih with ⟨js, e, hl, hp⟩ | h2
      · cases ho : O e with
        | none => exact .inr ⟨js, e, hp, ho⟩
        | some i =>
          obtain ⟨_, b, h1, h2, _⟩ := h.on e i ho
          exact .inl ⟨js ++ [i], b.2.1, by rw [List.length_append, hl]; rfl, hp.snoc ho h1 h2⟩
      · exact .inr h2
  rcases go n with ⟨js, e, hl, hp⟩ | ⟨js, e, hp, ho⟩
  · have := h.short S hb hv hp
    omega
  · have h1 := h.short S hb hv hp
    have h2 := rs hp
    have h3 := h.low hp
    have h4 := (h.non e ho).2
    have h5 : (js.length : Int) * R ≤ (n : Int) * R := Int.mul_le_mul_of_nonneg_right (by omega) hR
    omega
theorem SI.lowB {bs : List Bnd} {n : Nat} {F : Nat → Int} {O : Nat → Option Nat} {T : Nat → Nat} {t j : Nat} (h : SI bs n F O T t j) (S : Sat bs F) (hb : ∀ b ∈ bs, b.1 < n ∧ b.2.1 < n) (hr : ∀ b ∈ bs, -1 ≤ b.2.2) {v : Nat} (hv : v < n) : -(n : Int) ≤ F v := by
  have := h.lowR S hb (R := 1) (by decide) hr hv
  rw [Int.mul_one] at this
  exact this
/-- a ring of bounds with too little room -/
def RingB (bs : List Bnd) (js : List Nat) : Prop := js ≠ [] ∧ ∃ v, PtB bs v js v ∧ rsum bs js < 0
end Lag

set_option maxRecDepth 100000
set_option maxHeartbeats 8000000
namespace Lag
open PySem PySem.Spec PyProof.Rows L2
/-! ### lags for a beat, bars: the mathematics -/
instance (k : Str) : Decidable (portK k) := by unfold portK; exact inferInstance
def spotF (gs : List Gt) (g : Nat) : Nat := if portK (kindAt gs g) then gs.length else g
abbrev Pce := Nat × List Nat
def roomF (gs : List Gt) (ws : List Wr) (b : Int) (pc : Pce) : Int := if b < pwt gs ws pc.1 pc.2 then prg ws pc.2 - 1 else prg ws pc.2
def cntF (ws : List Wr) (L : Nat → Int) (p : Nat) : Int := (((svW ws p).2.2.length : Nat) : Int) + L (svW ws p).2.1 - L (svW ws p).1
structure Feas (gs : List Gt) (ws : List Wr) (b : Int) (L : Nat → Int) : Prop where
  out : ∀ g, g < gs.length → portK (kindAt gs g) → L g = 0
  lt : ∀ x ∈ ws, 0 ≤ ((x.2.2.length : Nat) : Int) + L x.2.1 - L x.1
  wt : ∀ s ps e, s < gs.length → Pw ws s ps e → (∀ p ∈ ps, cntF ws L p = 0) → pwt gs ws s ps ≤ b
section
variable {gs : List Gt} {ws : List Wr}
theorem Feas.mono {b b' : Int} {L : Nat → Int} (h : Feas gs ws b L) (hb : b ≤ b') : Feas gs ws b' L :=
  ⟨h.out, h.lt, fun s ps e hs hp hz => Int.le_trans (h.wt s ps e hs hp hz) hb⟩
theorem cntF_get {L : Nat → Int} {p : Nat} {x : Wr} (h : ws[p]? = some x) : cntF ws L p = ((x.2.2.length : Nat) : Int) + L x.2.1 - L x.1 := by
  unfold cntF
  rw [svW_get h]
theorem Pw.cnts {L : Nat → Int} : ∀ {ps : List Nat} {s e : Nat}, Pw ws s ps e → (ps.map (cntF ws L)).sum = prg ws ps + L e - L s
  | [], s, e, h => by
    have h : s = e := h
    rw [h]
    show (0 : Int) = 0 + _ - _
    omega
  | p :: r, s, e, ⟨x, h1, h2, h3⟩ => by
    rw [List.map_cons, List.sum_cons, Pw.cnts h3, cntF_get h1, prg_cons h1, h2]
    omega
theorem sum_nn : ∀ {l : List Int}, (∀ y ∈ l, 0 ≤ y) → 0 ≤ l.sum ∧ (l.sum = 0 → ∀ y ∈ l, y = 0)
  | [], _ => ⟨Int.le_refl 0, fun _ y h => by cases h⟩
  | a :: l, h => by
    obtain ⟨h1, h2⟩ := sum_nn (l := l) fun y hy => h y (List.mem_cons_of_mem _ hy)
    have h3 := h a (List.mem_cons_self ..)
    rw [List.sum_cons]
    refine ⟨by omega, fun e y hy => ?_⟩
    rcases List.mem_cons.mp hy with hy | hy
    · rw [hy]
      omega
    · exact h2 (by omega) y hy
theorem Feas.nn {b : Int} {L : Nat → Int} (h : Feas gs ws b L) {ps : List Nat} {s e : Nat} (hp : Pw ws s ps e) : ∀ y ∈ ps.map (cntF ws L), 0 ≤ y := fun y hy => by
  obtain ⟨p, hp', rfl⟩ := List.mem_map.mp hy
  have hx := List.getElem?_eq_getElem (hp.places p hp')
  rw [cntF_get hx]
  exact h.lt _ (List.getElem_mem _)
theorem sum_zero : ∀ {l : List Int}, (∀ y ∈ l, y = 0) → l.sum = 0
  | [], _ => rfl
  | a :: l, h => by
    rw [List.sum_cons, sum_zero fun y hy => h y (List.mem_cons_of_mem _ hy), h a (List.mem_cons_self ..)]
    rfl
theorem zero_sum {L : Nat → Int} {ps : List Nat} {s e : Nat} (hp : Pw ws s ps e) (hz : ∀ p ∈ ps, cntF ws L p = 0) : prg ws ps = L s - L e := by
  have h1 := hp.cnts (L := L)
  have h2 : (ps.map (cntF ws L)).sum = 0 := sum_zero fun y hy => by
    obtain ⟨p, hp', rfl⟩ := List.mem_map.mp hy
    exact hz p hp'
  omega
/-- with lags for the beat the start's lag is at most the end's and the piece's room -/
theorem Feas.room {b : Int} {L : Nat → Int} (h : Feas gs ws b L) {ps : List Nat} {s e : Nat} (hs : s < gs.length) (hp : Pw ws s ps e) : L s ≤ L e + roomF gs ws b (s, ps) := by
  obtain ⟨h1, h2⟩ := sum_nn (h.nn hp)
  rw [hp.cnts] at h1 h2
  unfold roomF
  show L s ≤ L e + if b < pwt gs ws s ps then prg ws ps - 1 else prg ws ps
  split
  · rename_i hl
    rcases (by omega : L s ≤ L e + (prg ws ps - 1) ∨ prg ws ps + L e - L s = 0) with h3 | h3
    · exact h3
    · have h4 := h.wt s ps e hs hp fun p hp' => h2 h3 _ (List.mem_map.mpr ⟨p, hp', rfl⟩)
      omega
  · omega
/-! ### the bounds for a beat -/
structure BdsOk (gs : List Gt) (ws : List Wr) (b : Int) (pcs : List Pce) (bs : List Bnd) : Prop where
  al : All2 (fun (pc : Pce) (bd : Bnd) => ∃ e, pc.1 < gs.length ∧ Pw ws pc.1 pc.2 e ∧ bd = (spotF gs pc.1, spotF gs e, roomF gs ws b pc)) pcs bs
  full : ∀ s, s < gs.length → ∀ e c, best gs ws s e = some c → ∃ pc ∈ pcs, pc.1 = s ∧ Pw ws s pc.2 e ∧ c = (prg ws pc.2, -pwt gs ws s pc.2)
  bst : ∀ pc ∈ pcs, ∃ e, Pw ws pc.1 pc.2 e ∧ best gs ws pc.1 e = some (prg ws pc.2, -pwt gs ws pc.1 pc.2)
theorem spot_le (g : Nat) (h : g < gs.length) : spotF gs g < gs.length + 1 := by
  unfold spotF
  split <;> omega
theorem BdsOk.below {b : Int} {pcs : List Pce} {bs : List Bnd} (N : NetOk gs ws) (h : BdsOk gs ws b pcs bs) : ∀ bd ∈ bs, bd.1 < gs.length + 1 ∧ bd.2.1 < gs.length + 1 := fun bd hb => by
  obtain ⟨i, hi⟩ := List.getElem?_of_mem hb
  obtain ⟨pc, _, e, h1, h2, rfl⟩ := h.al.getR hi
  exact ⟨spot_le _ h1, spot_le _ (h2.lt N h1)⟩
theorem BdsOk.m1 {b : Int} {pcs : List Pce} {bs : List Bnd} (h : BdsOk gs ws b pcs bs) : ∀ bd ∈ bs, -1 ≤ bd.2.2 := fun bd hb => by
  obtain ⟨i, hi⟩ := List.getElem?_of_mem hb
  obtain ⟨pc, _, e, h1, h2, rfl⟩ := h.al.getR hi
  show -1 ≤ roomF gs ws b pc
  have := prg_nn ws pc.2
  unfold roomF
  split <;> omega
def lagsAt (gs : List Gt) (F : Nat → Int) (g : Nat) : Int := F (spotF gs g) - F gs.length
theorem BdsOk.lags {b : Int} {pcs : List Pce} {bs : List Bnd} (N : NetOk gs ws) (h : BdsOk gs ws b pcs bs) {F : Nat → Int} (S : Sat bs F) : Feas gs ws b (lagsAt gs F) := by
  have key : ∀ s, s < gs.length → ∀ e c, best gs ws s e = some c → lagsAt gs F s ≤ lagsAt gs F e + (if b < -c.2 then c.1 - 1 else c.1) := fun s hs e c hc => by
    obtain ⟨pc, hpc, h1, h2, h3⟩ := h.full s hs e c hc
    obtain ⟨i, hi⟩ := List.getElem?_of_mem hpc
    obtain ⟨bd, hbd, e', h4, h5, h6⟩ := h.al.get hi
    rw [h1] at h5
    have := Pw.fn h2 h5
    subst this
    have h7 := S bd (List.mem_of_getElem? hbd)
    rw [h6, h1] at h7
    have h7 : F (spotF gs s) ≤ F (spotF gs e) + roomF gs ws b pc := h7
    have h8 : roomF gs ws b pc = if b < -c.2 then c.1 - 1 else c.1 := by
      unfold roomF
      rw [h3, h1, Int.neg_neg]
    rw [h8] at h7
    unfold lagsAt
    omega
  have le : ∀ {b c1 c2 : Int}, (if b < c2 then c1 - 1 else c1) ≤ c1 := by
    intro b c1 c2
    split <;> omega
  refine ⟨fun g hg hp => ?_, fun x hx => ?_, fun s ps e hs hp hz => ?_⟩
  · unfold lagsAt spotF
    rw [if_pos hp]
    omega
  · obtain ⟨p, hp⟩ := List.getElem?_of_mem hx
    have W := N.wok x hx
    have hw : Pw ws x.1 [p] x.2.1 := ⟨x, hp, rfl, rfl⟩
    obtain ⟨c, hc, hl⟩ := best_le N W.s hw
    have h1 := key x.1 W.s x.2.1 c hc
    have h2 := @le b c.1 (-c.2)
    rw [leC_iff, prg_cons hp, prg_nil] at hl
    have hl : c.1 < ((x.2.2.length : Nat) : Int) + 0 ∨ (c.1 = ((x.2.2.length : Nat) : Int) + 0 ∧ _) := hl
    rcases hl with hl | ⟨hl, _⟩ <;> omega
  · have h0 := zero_sum hp hz
    obtain ⟨c, hc, hl⟩ := best_le N hs hp
    have h1 := key s hs e c hc
    rw [leC_iff] at hl
    have hl : c.1 < prg ws ps ∨ (c.1 = prg ws ps ∧ c.2 ≤ -pwt gs ws s ps) := hl
    by_cases hb : b < -c.2
    · rw [if_pos hb] at h1
      omega
    · rw [if_neg hb] at h1
      omega
/-! ### bars -/
def Jn (gs : List Gt) (ws : List Wr) : Nat → List Pce → Nat → Prop
  | s, [], e => s = e
  | s, pc :: r, e => spotF gs pc.1 = s ∧ pc.1 < gs.length ∧ ∃ m, Pw ws pc.1 pc.2 m ∧ Jn gs ws (spotF gs m) r e
def roomsF (gs : List Gt) (ws : List Wr) (b : Int) (pcs : List Pce) : Int := (pcs.map (roomF gs ws b)).sum
def IsBar (gs : List Gt) (ws : List Wr) (b : Int) (pcs : List Pce) : Prop := pcs ≠ [] ∧ ∃ v, Jn gs ws v pcs v ∧ roomsF gs ws b pcs < 0
def spotL (gs : List Gt) (L : Nat → Int) (s : Nat) : Int := if s = gs.length then 0 else L s
theorem Feas.spot {b : Int} {L : Nat → Int} (h : Feas gs ws b L) {g : Nat} (hg : g < gs.length) : spotL gs L (spotF gs g) = L g := by
  unfold spotL spotF
  by_cases hp : portK (kindAt gs g)
  · rw [if_pos hp, if_pos rfl, h.out g hg hp]
  · rw [if_neg hp, if_neg (by omega)]
theorem Feas.joined {b : Int} {L : Nat → Int} (N : NetOk gs ws) (h : Feas gs ws b L) : ∀ {pcs : List Pce} {s e : Nat}, Jn gs ws s pcs e → spotL gs L s ≤ spotL gs L e + roomsF gs ws b pcs
  | [], s, e, h' => by
    have h' : s = e := h'
    rw [h']
    show _ ≤ _ + (0 : Int)
    omega
  | pc :: r, s, e, ⟨h1, h2, m, h3, h4⟩ => by
    have h5 := Feas.joined N h h4
    have h6 := h.room h2 h3
    rw [← h1, h.spot h2]
    rw [h.spot (h3.lt N h2)] at h5
    unfold roomsF at *
    rw [List.map_cons, List.sum_cons]
    have h6 : L pc.1 ≤ L m + roomF gs ws b pc := h6
    omega
theorem IsBar.none {b : Int} {pcs : List Pce} (N : NetOk gs ws) (h : IsBar gs ws b pcs) {L : Nat → Int} : ¬ Feas gs ws b L := fun f => by
  obtain ⟨_, v, h1, h2⟩ := h
  have := f.joined N h1
  omega
def pAt (pcs : List Pce) (j : Nat) : Pce := pcs.getD j (0, [])
theorem pAt_get {pcs : List Pce} {j : Nat} {p : Pce} (h : pcs[j]? = some p) : pAt pcs j = p := by
  unfold pAt
  rw [List.getD_eq_getElem?_getD, h]
  rfl
theorem BdsOk.joined {b : Int} {pcs : List Pce} {bs : List Bnd} (h : BdsOk gs ws b pcs bs) : ∀ {js : List Nat} {s e : Nat}, PtB bs s js e → Jn gs ws s (js.map (pAt pcs)) e ∧ roomsF gs ws b (js.map (pAt pcs)) = rsum bs js
  | [], s, e, h' => ⟨h', rfl⟩
  | j :: r, s, e, ⟨bd, h1, h2, h3⟩ => by
    obtain ⟨pc, hp, m, h4, h5, h6⟩ := h.al.getR h1
    subst h6
    obtain ⟨k1, k2⟩ := BdsOk.joined h h3
    rw [List.map_cons, pAt_get hp]
    refine ⟨⟨h2, h4, m, h5, k1⟩, ?_⟩
    rw [rsum_cons h1, ← k2]
    unfold roomsF
    rw [List.map_cons, List.sum_cons]
theorem BdsOk.bar {b : Int} {pcs : List Pce} {bs : List Bnd} (h : BdsOk gs ws b pcs bs) {js : List Nat} (r : RingB bs js) : IsBar gs ws b (js.map (pAt pcs)) := by
  obtain ⟨h1, v, h2, h3⟩ := r
  obtain ⟨k1, k2⟩ := h.joined h2
  exact ⟨fun z => h1 (List.map_eq_nil_iff.mp z), v, k1, by rw [k2]; exact h3⟩
/-! ### the least beat -/
def FeasE (gs : List Gt) (ws : List Wr) (b : Int) : Prop := ∃ L, Feas gs ws b L
def IsWait (gs : List Gt) (ws : List Wr) (m : Int) : Prop := ∃ s e c, s < gs.length ∧ best gs ws s e = some c ∧ m = -c.2
theorem max_ex {P : Int → Prop} {b : Int} (hb : ∀ v, P v → v ≤ b) : ∀ (k : Nat) (v : Int), P v → (b - v).toNat ≤ k → ∃ m, P m ∧ ∀ v, P v → v ≤ m := by
  intro k
  induction k with
  | zero =>
    intro v hv hk
    refine ⟨v, hv, fun u hu => ?_⟩
    have := hb u hu
    have := hb v hv
    omega
  | succ k ih =>
    intro v hv hk
    by_cases h : ∃ u, P u ∧ v < u
    · obtain ⟨u, hu, hlt⟩ := h
      have := hb u hu
      exact ih u hu (by omega)
    · refine ⟨v, hv, fun u hu => ?_⟩
      rcases Int.lt_or_le v u with h1 | h1
      · exact absurd ⟨u, hu, h1⟩ h
      · exact h1
theorem Feas.tight {b : Int} {L : Nat → Int} (N : NetOk gs ws) (h : Feas gs ws b L) : ∃ m, m ≤ b ∧ IsWait gs ws m ∧ Feas gs ws m L := by
  have hn : 0 < gs.length := List.length_pos_iff.mpr N.ne
  obtain ⟨m, ⟨s, ps, e, hs, hp, hz, hm⟩, hle⟩ := max_ex (P := fun v => ∃ s ps e, s < gs.length ∧ Pw ws s ps e ∧ (∀ p ∈ ps, cntF ws L p = 0) ∧ v = pwt gs ws s ps) (b := b) (fun v ⟨s, ps, e, hs, hp, hz, e'⟩ => by
    rw [e']
    exact h.wt s ps e hs hp hz) _ (pwt gs ws 0 []) ⟨0, [], 0, hn, rfl, (fun p hp => nomatch hp), rfl⟩ (Nat.le_refl _)
  refine ⟨m, by rw [hm]; exact h.wt s ps e hs hp hz, ?_, h.out, h.lt, fun s ps e hs hp hz => hle _ ⟨s, ps, e, hs, hp, hz, rfl⟩⟩
  obtain ⟨c, hc, hl⟩ := best_le N hs hp
  refine ⟨s, e, c, hs, hc, ?_⟩
  obtain ⟨qs, hq, hcq⟩ := best_way hc
  have h0 := zero_sum hp hz
  obtain ⟨h1, h2⟩ := sum_nn (h.nn hq)
  rw [hq.cnts] at h1 h2
  rw [leC_iff] at hl
  have e1 : c.1 = prg ws qs := by rw [hcq]
  have e2 : c.2 = -pwt gs ws s qs := by rw [hcq]
  have hl : c.1 < prg ws ps ∨ (c.1 = prg ws ps ∧ c.2 ≤ -pwt gs ws s ps) := hl
  have h3 := hle _ ⟨s, qs, e, hs, hq, fun p hp' => h2 (by omega) _ (List.mem_map.mpr ⟨p, hp', rfl⟩), rfl⟩
  omega
theorem Feas.zero {b : Int} (N : NetOk gs ws) (hb : ∀ m, IsWait gs ws m → m ≤ b) : Feas gs ws b (fun _ => 0) := by
  refine ⟨fun _ _ _ => rfl, fun x _ => by omega, fun s ps e hs hp hz => ?_⟩
  have h0 := zero_sum hp hz
  obtain ⟨c, hc, hl⟩ := best_le N hs hp
  have h1 := hb _ ⟨s, e, c, hs, hc, rfl⟩
  have h2 := best_nn hc
  rw [leC_iff] at hl
  have hl : c.1 < prg ws ps ∨ (c.1 = prg ws ps ∧ c.2 ≤ -pwt gs ws s ps) := hl
  omega
structure IsLeast (gs : List Gt) (ws : List Wr) (B : Int) : Prop where
  ex : FeasE gs ws B
  no : ∀ b, b < B → ¬ FeasE gs ws b
theorem IsLeast.eq {B B' : Int} (h : IsLeast gs ws B) (h' : IsLeast gs ws B') : B = B' := by
  rcases Int.lt_trichotomy B B' with e | e | e
  · exact absurd h.ex (h'.no _ e)
  · exact e
  · exact absurd h'.ex (h.no _ e)
theorem IsLeast.le {B b : Int} (h : IsLeast gs ws B) (h' : FeasE gs ws b) : B ≤ b := by
  rcases Int.lt_or_le b B with e | e
  · exact absurd h' (h.no _ e)
  · exact e
end
end Lag

set_option maxRecDepth 100000
set_option maxHeartbeats 8000000
namespace Lag
open PySem PySem.Spec PyProof.Rows L2
def lasV : Option Nat → V
  | none => .non
  | some p => .int (p : Nat)
def nvs (r : List Nat) : List V := r.map fun i => V.int (i : Nat)
theorem nvs_len (r : List Nat) : (nvs r).length = r.length := List.length_map ..
/-- what is known of the gates: a table of tuples -/
structure KnD (K : PySem.W.Frag) (H : Hp) (d : Addr) (D : Dst) (kvs : List (Key × V)) (ks : List Nat) : Prop where
  at_ : H d = some (.dK kvs)
  keys : kvs.map (fun kv => kv.1) = ks.map (fun g => Sum.inl ((g : Nat) : Int))
  nd : ks.Nodup
  mem : ∀ g, g ∈ ks ↔ ∃ c, D g = some c
  some_ : ∀ g c, D g = some c → ∃ t, valV kvs (Sum.inl ((g : Nat) : Int)) = some (.ref t) ∧ SqT K H t [.int c.1, .int c.2]
  none_ : ∀ g, D g = none → valV kvs (Sum.inl ((g : Nat) : Int)) = none
theorem KnD.same {K : PySem.W.Frag} {H H' : Hp} {d : Addr} {D : Dst} {kvs : List (Key × V)} {ks : List Nat} (h : KnD K H d D kvs ks) (s : Same H H') : KnD K H' d D kvs ks :=
  ⟨s _ _ h.at_, h.keys, h.nd, h.mem, fun g c e => by
    obtain ⟨t, h1, h2⟩ := h.some_ g c e
    exact ⟨t, h1, (TK.same s).seq h2⟩, h.none_⟩
theorem KnD.get {K : PySem.W.Frag} {H : Hp} {d : Addr} {D : Dst} {kvs : List (Key × V)} {ks : List Nat} (h : KnD K H d D kvs ks) {g : Nat} {c : Cst} (e : D g = some c) : ∃ t, DGet H d (.int (g : Nat)) (some (.ref t)) ∧ SqT K H t [.int c.1, .int c.2] := by
  obtain ⟨t, h1, h2⟩ := h.some_ g c e
  refine ⟨t, ?_, h2⟩
  have := DGet.k (k := Sum.inl ((g : Nat) : Int)) h.at_
  rw [h1] at this
  exact this
theorem KnD.getN {K : PySem.W.Frag} {H : Hp} {d : Addr} {D : Dst} {kvs : List (Key × V)} {ks : List Nat} (h : KnD K H d D kvs ks) {g : Nat} (e : D g = none) : DGet H d (.int (g : Nat)) none := by
  have := DGet.k (k := Sum.inl ((g : Nat) : Int)) h.at_
  rw [h.none_ g e] at this
  exact this
theorem KnD.len {K : PySem.W.Frag} {H : Hp} {d : Addr} {D : Dst} {kvs : List (Key × V)} {ks : List Nat} (h : KnD K H d D kvs ks) : kvs.length = ks.length := by
  have := congrArg List.length h.keys
  rw [List.length_map, List.length_map] at this
  exact this
theorem has_key {kvs : List (Key × V)} {k : Key} (h : k ∈ kvs.map fun kv => kv.1) : ∃ v, valV kvs k = some v := by
  induction kvs with
  | nil => cases h
  | cons y l ih =>
    by_cases e : y.1 = k
    · exact ⟨y.2, valV_pos e⟩
    · rw [valV_neg e]
      rw [List.map_cons] at h
      rcases List.mem_cons.mp h with h | h
      · exact absurd h.symm e
      · exact ih h
theorem key_of {kvs : List (Key × V)} {k : Key} {v : V} (h : valV kvs k = some v) : k ∈ kvs.map fun kv => kv.1 := by
  induction kvs with
  | nil => cases h
  | cons y l ih =>
    rw [List.map_cons]
    by_cases e : y.1 = k
    · rw [e]
      exact List.mem_cons_self ..
    · rw [valV_neg e] at h
      exact List.mem_cons_of_mem _ (ih h)
theorem putK_old {kvs : List (Key × V)} {k : Key} {v : V} (hk : k ∈ kvs.map (fun kv => kv.1)) : (putK kvs k v).map (fun kv => kv.1) = kvs.map (fun kv => kv.1) := by
  unfold putK
  split
  · rw [List.map_map]
    refine List.map_congr_left fun y _ => ?_
    show (if y.1 = k then (y.1, v) else y).1 = y.1
    split <;> rfl
  · rename_i h
    exfalso
    apply h
    obtain ⟨y, hy, e⟩ := List.mem_map.mp hk
    rw [List.any_eq_true]
    exact ⟨y, hy, by simpa using e⟩
theorem putK_fresh {kvs : List (Key × V)} {k : Key} {v : V} (hk : k ∉ kvs.map (fun kv => kv.1)) : (putK kvs k v).map (fun kv => kv.1) = kvs.map (fun kv => kv.1) ++ [k] := by
  unfold putK
  split
  · rename_i h
    exfalso
    apply hk
    rw [List.any_eq_true] at h
    obtain ⟨y, hy, e⟩ := h
    exact List.mem_map.mpr ⟨y, hy, by simpa using e⟩
  · rw [List.map_append]
    rfl
theorem KnD.put {K : PySem.W.Frag} {H : Hp} {d t : Addr} {D : Dst} {kvs : List (Key × V)} {ks : List Nat} {e : Nat} {c : Cst} (h : KnD K H d D kvs ks) (ht : H t = some (.tup [.int c.1, .int c.2])) :
    ∃ ks', KnD K (upd H d (.dK (putK kvs (Sum.inl ((e : Nat) : Int)) (.ref t)))) d (setD D e c) (putK kvs (Sum.inl ((e : Nat) : Int)) (.ref t)) ks' := by
  have inj : ∀ {i j : Nat}, (Sum.inl ((i : Nat) : Int) : Key) = Sum.inl ((j : Nat) : Int) → i = j := fun {i j} z => by
    have := Sum.inl.inj z
    omega
  have tk : TK H (upd H d (.dK (putK kvs (Sum.inl ((e : Nat) : Int)) (.ref t)))) := fun b o to eb => by
    rw [upd_ne (fun z => by
      rw [z, h.at_] at eb
      cases eb
      exact to)]
    exact eb
  have hk : (Sum.inl ((e : Nat) : Int) : Key) ∈ kvs.map (fun kv => kv.1) ↔ e ∈ ks := by
    rw [h.keys]
    constructor
    · intro z
      obtain ⟨g, hg, e'⟩ := List.mem_map.mp z
      rw [← inj e']
      exact hg
    · intro z
      exact List.mem_map.mpr ⟨e, z, rfl⟩
  have sm : ∀ g c', setD D e c g = some c' → ∃ t', valV (putK kvs (Sum.inl ((e : Nat) : Int)) (.ref t)) (Sum.inl ((g : Nat) : Int)) = some (.ref t') ∧ SqT K (upd H d (.dK (putK kvs (Sum.inl ((e : Nat) : Int)) (.ref t)))) t' [.int c'.1, .int c'.2] := fun g c' hg => by
    rw [valV_put]
    unfold setD at hg
    by_cases z : g = e
    · rw [if_pos z] at hg
      cases hg
      rw [if_pos (by rw [z])]
      exact ⟨t, rfl, tk.seq (.inl (.inl ht))⟩
    · rw [if_neg z] at hg
      rw [if_neg fun y => z (inj y)]
      obtain ⟨t', h1, h2⟩ := h.some_ g c' hg
      exact ⟨t', h1, tk.seq h2⟩
  have sn : ∀ g, setD D e c g = none → valV (putK kvs (Sum.inl ((e : Nat) : Int)) (.ref t)) (Sum.inl ((g : Nat) : Int)) = none := fun g hg => by
    unfold setD at hg
    by_cases z : g = e
    · rw [if_pos z] at hg
      cases hg
    · rw [if_neg z] at hg
      rw [valV_put, if_neg fun y => z (inj y)]
      exact h.none_ g hg
  have dm : ∀ g, (∃ c', setD D e c g = some c') ↔ (g = e ∨ ∃ c', D g = some c') := fun g => by
    unfold setD
    by_cases z : g = e
    · rw [if_pos z]
      exact ⟨fun _ => .inl z, fun _ => ⟨c, rfl⟩⟩
    · rw [if_neg z]
      exact ⟨fun y => .inr y, fun y => y.elim (fun y => absurd y z) fun y => y⟩
  by_cases he : e ∈ ks
  · refine ⟨ks, upd_same, by rw [putK_old (hk.mpr he)]; exact h.keys, h.nd, fun g => ?_, sm, sn⟩
    rw [dm, h.mem]
    refine ⟨fun y => .inr y, fun y => y.elim (fun y => ?_) fun y => y⟩
    rw [y]
    exact (h.mem e).mp he
  · refine ⟨ks ++ [e], upd_same, by rw [putK_fresh fun z => he (hk.mp z), h.keys, List.map_append]; rfl, ?_, fun g => ?_, sm, sn⟩
    · rw [List.nodup_append]
      refine ⟨h.nd, by simp, fun a ha b hb z => ?_⟩
      rw [List.mem_singleton.mp hb] at z
      exact he (z ▸ ha)
    · rw [dm, List.mem_append, List.mem_singleton, h.mem]
      exact ⟨fun y => y.elim (fun y => .inr y) fun y => .inl y, fun y => y.elim (fun y => .inr y) fun y => .inl y⟩
theorem KnD.mut {K : PySem.W.Frag} {H : Hp} {d l : Addr} {o : HO} {xs : List V} {D : Dst} {kvs : List (Key × V)} {ks : List Nat} (h : KnD K H d D kvs ks) (hl : H l = some (.lst xs)) : KnD K (upd H l o) d D kvs ks :=
  ⟨by rw [upd_ne (fun z => by rw [← z, h.at_] at hl; cases hl)]; exact h.at_, h.keys, h.nd, h.mem, fun g c e => by
    obtain ⟨t, h1, h2⟩ := h.some_ g c e
    exact ⟨t, h1, (TK.lst hl).seq h2⟩, h.none_⟩
theorem lex_ltC (a b : Cst) : HT.lexLt [a.1, a.2] [b.1, b.2] = decide (ltC a b) := by
  obtain ⟨a1, a2⟩ := a
  obtain ⟨b1, b2⟩ := b
  show (if a1 = b1 then (if a2 = b2 then false else decide (a2 < b2)) else decide (a1 < b1)) = decide (ltC (a1, a2) (b1, b2))
  unfold ltC
  show _ = decide (a1 < b1 ∨ (a1 = b1 ∧ a2 < b2))
  by_cases e : a1 = b1
  · rw [if_pos e]
    by_cases e2 : a2 = b2
    · rw [if_pos e2]
      exact (decide_eq_false (by omega)).symm
    · rw [if_neg e2]
      by_cases e3 : a2 < b2
      · rw [decide_eq_true e3, decide_eq_true (by omega)]
      · rw [decide_eq_false e3, decide_eq_false (by omega)]
  · rw [if_neg e]
    by_cases e3 : a1 < b1
    · rw [decide_eq_true e3, decide_eq_true (by omega)]
    · rw [decide_eq_false e3, decide_eq_false (by omega)]
theorem Snd.at_s {gs : List Gt} {ws : List Wr} {s : Nat} {D : Dst} (N : NetOk gs ws) (S : Snd gs ws s D) (h : leD D (Lag.ini gs s)) : D s = some (0, -gw gs s) := by
  obtain ⟨c, hc, hle⟩ := h s (0, -gw gs s) (by unfold Lag.ini; rw [if_pos rfl])
  obtain ⟨vs, hv⟩ := S s c hc
  obtain ⟨ps, h1, h2⟩ := hv.pw
  obtain ⟨ρ, hρ⟩ := N.rank
  rw [hc]
  rw [leC_iff] at hle
  subst h2
  have h3 := prg_nn ws ps
  have h0 : prg ws ps = 0 := by
    rcases hle with h | h
    · have h : prg ws ps < 0 := h
      omega
    · exact h.1
  have h4 := ring_regs hρ h1 h0
  have h5 : ps = [] := List.length_eq_zero_iff.mp (by omega)
  subst h5
  unfold pwt
  rw [prg_nil, pws_nil, Int.add_zero]
theorem rnds_le {gs : List Gt} {ws : List Wr} {s : Nat} : ∀ k, leD (rnds gs ws s k) (Lag.ini gs s)
  | 0 => leD.refl _
  | k + 1 => (fold_le gs ws _).trans (rnds_le k)
theorem las_at {La : List (Option Nat)} {g : Nat} (h : g < La.length) : (La.map lasV)[g]? = some (lasV (La.getD g none)) := by
  rw [List.getElem?_map, List.getElem?_eq_getElem h, List.getD_eq_getElem?_getD, List.getElem?_eq_getElem h]
  rfl
def spBestFrom (K : PySem.W.Frag) (C : Addr) : Sp := fun vs H Q _ => ∃ (p ng nw : Addr) (gs : List Gt) (ws : List Wr) (s : Nat), vs = [.ref p, .int (s : Nat)] ∧ NetAt K C H p ng nw gs ws ∧ NetOk gs ws ∧ s < gs.length ∧
  ∀ (t d lL : Addr) (kvs : List (Key × V)) (ks : List Nat) (La : List (Option Nat)) (H' : Hp), Same H H' → H' t = some (.tup [.ref d, .ref lL]) → KnD K H' d (best gs ws s) kvs ks → H' lL = some (.lst (La.map lasV)) → H lL = none → LaOk gs ws s La → Q (.ref t) H'
def spWayTo (K : PySem.W.Frag) (C : Addr) : Sp := fun vs H Q _ => ∃ (p ng nw lL : Addr) (gs : List Gt) (ws : List Wr) (La : List (Option Nat)) (g s : Nat) (ps : List Nat), vs = [.ref p, .int (g : Nat), .ref lL] ∧ NetAt K C H p ng nw gs ws ∧ NetOk gs ws ∧ H lL = some (.lst (La.map lasV)) ∧ La.length = gs.length ∧ g < gs.length ∧ Bk ws La g ps s ∧ ps.length ≤ 1000 ∧
  ∀ (t lr : Addr) (H' : Hp), Same H H' → H t = none → H lr = none → H' t = some (.tup [.int (s : Nat), .ref lr]) → H' lr = some (.lst (nvs ps.reverse)) → Q (.ref t) H'
section
variable {P : Program} {w : World} {K : PySem.W.Frag} {mg : Str → Option Value} {base : Heap}
abbrev nBestFrom : List Str := ["net", "start", "known", "last", "better", "place", "here", "end", "held", "come"]
abbrev DBestFrom (P : Program) (w : World) (K : PySem.W.Frag) (mg : Str → Option Value) (base : Heap) (C : Addr) := Df P w K mg base 1 "best_from" ["net", "start"] (spBestFrom K C)
end
end Lag

set_option maxRecDepth 100000
set_option maxHeartbeats 8000000
namespace Lag
open PySem PySem.Spec PyProof.Rows L2
/-! ### xs[::-1] of a list -/
theorem rev_range : ∀ (xs : List Value), (List.range xs.length).filterMap (fun k => xs[xs.length - 1 - k]?) = xs.reverse := fun xs => by
  refine List.ext_getElem? fun i => ?_
  have h0 : ((List.range xs.length).filterMap fun k => xs[xs.length - 1 - k]?) = (List.range xs.length).map fun k => xs.getD (xs.length - 1 - k) .none := by
    have : ∀ l : List Nat, (∀ k ∈ l, k < xs.length) → (l.filterMap fun k => xs[xs.length - 1 - k]?) = l.map fun k => xs.getD (xs.length - 1 - k) .none := fun l hl => by
      induction l with
      | nil => rfl
      | cons k l ih =>
        have hk := hl k (by simp)
        rw [List.filterMap_cons, List.map_cons, ih fun j hj => hl j (List.mem_cons_of_mem _ hj), List.getElem?_eq_getElem (by omega), List.getD_eq_getElem?_getD, List.getElem?_eq_getElem (by omega)]
        rfl
    exact this _ fun k hk => List.mem_range.mp hk
  rw [h0, List.getElem?_map]
  by_cases hi : i < xs.length
  · rw [List.getElem?_eq_getElem (by simpa using hi), List.getElem_range, List.getElem?_reverse hi, List.getElem?_eq_getElem (by omega)]
    show some (xs.getD _ _) = _
    rw [List.getD_eq_getElem?_getD, List.getElem?_eq_getElem (by omega)]
    rfl
  · rw [List.getElem?_eq_none (by simpa using hi), List.getElem?_eq_none (by simpa using hi)]
    rfl
theorem slicePick_rev (its : List Value) : slicePick its.toArray none none (some (-1)) = its.reverse.toArray := by
  have hb : sliceBounds none none (some (-1)) its.toArray.size = ((its.length : Int) - 1, -1, -1) := by
    rw [List.size_toArray]
    rfl
  unfold slicePick
  rw [hb]
  have hr : PySem.sliceRange ((its.length : Int) - 1) (-1) (-1) = (List.range its.length).map fun k => its.length - 1 - k := by
    unfold PySem.sliceRange
    have hc : (if (-1 : Int) > 0 then (if (its.length : Int) - 1 < -1 then (-1 - ((its.length : Int) - 1) + -1 - 1) / -1 else 0) else (if (its.length : Int) - 1 > -1 then ((its.length : Int) - 1 - -1 - -1 - 1) / -(-1) else 0)).toNat = its.length := by
      rw [if_neg (by decide)]
      split
      · have : ((its.length : Int) - 1 - -1 - -1 - 1) / -(-1) = its.length := by
          rw [show (-(-1) : Int) = 1 from rfl, Int.ediv_one]
          omega
        rw [this, Int.toNat_natCast]
      · omega
    show (List.range (if (-1 : Int) > 0 then (if (its.length : Int) - 1 < -1 then (-1 - ((its.length : Int) - 1) + -1 - 1) / -1 else 0) else (if (its.length : Int) - 1 > -1 then ((its.length : Int) - 1 - -1 - -1 - 1) / -(-1) else 0)).toNat).map _ = _
    rw [hc]
    refine List.map_congr_left fun k hk => ?_
    have := List.mem_range.mp hk
    omega
  show ((PySem.sliceRange ((its.length : Int) - 1) (-1) (-1)).filterMap (its.toArray[·]?)).toArray = _
  rw [hr, List.filterMap_map]
  congr 1
  refine Eq.trans ?_ (rev_range its)
  congr 1
  funext k
  show its.toArray[its.length - 1 - k]? = its[its.length - 1 - k]?
  simp
section
variable {X : Cx} {e : Expr} {te ts : TE} {p1 p2 p3 pos : Pos}
/-- xs[::-1] -/
def tRevL (K : PySem.W.Frag) (te ts : TE) : TE := fun σ H Q => te σ H fun x H1 => ts σ H1 fun y H2 => ∃ (a : Addr) (xs : List V), x = .ref a ∧ y = .int (-1) ∧ SqL K H2 a xs ∧ ∀ b, H2 b = none → Q (.ref b) (upd H2 b (.lst xs.reverse))
theorem pe_revL {st : Expr} (he : PE X e te) (hs : PE X st ts) : PE X (.Subscript e (.Slice none none (some st) p2) pos) (tRevL X.K te ts) := by
  refine ⟨fun pins s σ H Q I h => ?_⟩
  refine Subscript_ (thn (he.run pins s σ H _ I h) fun v s1 ⟨x, H1, I1, r1, q1⟩ => ?_)
  refine wpAny_Slice (thn (po_none.run pins s1 σ H1 (fun o H3 => o = none ∧ H3 = H1) I1 ⟨rfl, rfl⟩) fun vl s2 ⟨u, H2, I2, pl, eu, e2⟩ => ?_)
  subst eu e2
  refine thn (po_none.run pins s2 σ H2 (fun o H3 => o = none ∧ H3 = H2) I2 ⟨rfl, rfl⟩) fun vu s3 ⟨u, H3, I3, pu, eu, e3⟩ => ?_
  subst eu e3
  refine thn (hs.run pins s3 σ H3 _ I3 q1) fun vs s4 ⟨z, H4, I4, r4, q4⟩ => ?_
  obtain ⟨a, xs, rfl, rfl, hx, q⟩ := q4
  have e1 : v = Value.ref a := r1
  obtain ⟨t4, e4⟩ : ∃ t, vs = Value.int (-1) t := r4
  subst e1 e4
  cases pl
  cases pu
  have I5 : Inv X pins σ H4 { s4 with heap := s4.heap.push { cls := .type "slice", data := .fields #[.none, .none, .int (-1) t4] } } := I4.kept (t' := s4.toks) fun b ob q => Heap.get?_push_of_some _ q
  obtain ⟨its, r, ht, hz⟩ := I5.list hx
  have hlen := r.length
  show wpAny (model X.prog X.w) X.A (subscriptTail e (.Slice none none (some st) p2) (.ref a) (.ref s4.heap.objs.size)) (EP X pins σ Q) X.xe { s4 with heap := s4.heap.push { cls := .type "slice", data := .fields #[.none, .none, .int (-1) t4] } }
  refine tail_any (ops := [.ref a, .ref s4.heap.objs.size]) ht.isList.typeIs slot_list_getitem.lookup ?_ (by with_unfolding_all rfl)
  refine wpAny_getItem_list_slice ht.isList (Heap.IsSliceOf.new ..) .none .none (.int _ _) (by decide) ?_ (by rw [List.size_toArray]; omega)
  rw [slicePick_rev]
  have rr : Vals xs.reverse its.reverse := r.reverse
  refine ⟨.ref _, _, I5.laid (t' := s4.toks) (o := .lst xs.reverse) (fun b ob q => Heap.get?_push_of_some _ q) (Nat.le_refl _) ?_, rfl, q _ (I5.hok.fresh (Nat.le_refl _))⟩
  exact ⟨by rw [List.length_reverse]; omega, _, 0, rr, Heap.get?_push_size _ rfl⟩
end
section
variable {P : Program} {w : World} {K : PySem.W.Frag} {mg : Str → Option Value} {base : Heap}
abbrev nWayTo : List Str := ["net", "gate", "last", "wires"]
abbrev DWayTo (P : Program) (w : World) (K : PySem.W.Frag) (mg : Str → Option Value) (base : Heap) (C : Addr) := Df P w K mg base 1 "way_to" ["net", "gate", "last"] (spWayTo K C)
end
end Lag

set_option maxRecDepth 100000
set_option maxHeartbeats 8000000
namespace Lag
open PySem PySem.Spec PyProof.Rows L2
/-- a piece -/
def PceV (K : PySem.W.Frag) (H : Hp) (v : V) (pc : Pce) : Prop := ∃ a l, v = .ref a ∧ SqT K H a [.int (pc.1 : Nat), .ref l] ∧ SqL K H l (nvs pc.2)
theorem PceV.same {K : PySem.W.Frag} {H H' : Hp} {v : V} {pc : Pce} (s : Same H H') (h : PceV K H v pc) : PceV K H' v pc := by
  obtain ⟨a, l, e, h1, h2⟩ := h
  exact ⟨a, l, e, (TK.same s).seq h1, s.seq h2⟩
theorem nvs_at {r : List Nat} {i k : Nat} (h : r[i]? = some k) : (nvs r)[i]? = some (.int (k : Nat)) := by
  unfold nvs
  rw [List.getElem?_map, h]
  rfl
theorem nvs_of {r : List Nat} {i : Nat} {v : V} (h : (nvs r)[i]? = some v) : ∃ k, r[i]? = some k ∧ v = .int (k : Nat) := by
  unfold nvs at h
  rw [List.getElem?_map] at h
  cases e : r[i]? with
  | none => rw [e] at h; cases h
  | some k => rw [e] at h; cases h; exact ⟨k, rfl, rfl⟩
def PceOk (gs : List Gt) (ws : List Wr) (pc : Pce) : Prop := pc.1 < gs.length ∧ ∃ e, Pw ws pc.1 pc.2 e
def spWaitOf (K : PySem.W.Frag) (C : Addr) : Sp := fun vs H Q _ => ∃ (p ng nw : Addr) (gs : List Gt) (ws : List Wr) (v : V) (pc : Pce), vs = [.ref p, v] ∧ NetAt K C H p ng nw gs ws ∧ NetOk gs ws ∧ PceV K H v pc ∧ PceOk gs ws pc ∧ pc.2.length ≤ 1000 ∧ ∀ H', Same H H' → Q (.int (pwt gs ws pc.1 pc.2)) H'
def spRoomOf (K : PySem.W.Frag) (C : Addr) : Sp := fun vs H Q _ => ∃ (p ng nw : Addr) (gs : List Gt) (ws : List Wr) (b : Int) (v : V) (pc : Pce), vs = [.ref p, .int b, v] ∧ NetAt K C H p ng nw gs ws ∧ NetOk gs ws ∧ PceV K H v pc ∧ PceOk gs ws pc ∧ pc.2.length ≤ 1000 ∧ ∀ H', Same H H' → Q (.int (roomF gs ws b pc)) H'
def spSpotsIn (K : PySem.W.Frag) (C : Addr) : Sp := fun vs H Q _ => ∃ (p ng nw : Addr) (gs : List Gt) (ws : List Wr), vs = [.ref p] ∧ NetAt K C H p ng nw gs ws ∧ Q (.int ((gs.length + 1 : Nat) : Int)) H
def spotsL (gs : List Gt) : List Nat := (List.range gs.length).map (spotF gs)
def spSpotsOf (K : PySem.W.Frag) (C : Addr) : Sp := fun vs H Q _ => ∃ (p ng nw : Addr) (gs : List Gt) (ws : List Wr), vs = [.ref p] ∧ NetAt K C H p ng nw gs ws ∧ NetOk gs ws ∧ ∀ l H', Same H H' → H l = none → H' l = some (.lst (nvs (spotsL gs))) → Q (.ref l) H'
def spLagsAt (K : PySem.W.Frag) (C : Addr) : Sp := fun vs H Q _ => ∃ (p ng nw lf : Addr) (gs : List Gt) (ws : List Wr) (F : List Int), vs = [.ref p, .ref lf] ∧ NetAt K C H p ng nw gs ws ∧ NetOk gs ws ∧ SqL K H lf (F.map V.int) ∧ gs.length < F.length ∧
  ∀ l H', Same H H' → H l = none → H' l = some (.lst (((List.range gs.length).map (lagsAt gs fun v => F.getD v 0)).map V.int)) → Q (.ref l) H'
theorem spots_at {gs : List Gt} {g : Nat} (h : g < gs.length) : (nvs (spotsL gs))[g]? = some (.int ((spotF gs g : Nat) : Int)) := by
  refine nvs_at ?_
  unfold spotsL
  rw [List.getElem?_map, List.getElem?_range h]
  rfl
theorem sgetD_at {ts : List Int} {g : Nat} (h : g < ts.length) : (ts.map V.int)[g]? = some (.int (ts.getD g 0)) := by
  rw [List.getElem?_map, List.getElem?_eq_getElem h, List.getD_eq_getElem?_getD, List.getElem?_eq_getElem h]
  rfl
theorem skind_get {gs : List Gt} {i : Nat} {g : Gt} (h : gs[i]? = some g) : kindAt gs i = g.1 := by
  unfold kindAt
  rw [List.getD_eq_getElem?_getD, h]
  rfl
section
variable {P : Program} {w : World} {K : PySem.W.Frag} {mg : Str → Option Value} {base : Heap}
abbrev nWaitOf : List Str := ["net", "piece", "gate", "wires", "place"]
abbrev DWaitOf (P : Program) (w : World) (K : PySem.W.Frag) (mg : Str → Option Value) (base : Heap) (C : Addr) := Df P w K mg base 1 "wait_of" ["net", "piece"] (spWaitOf K C)
abbrev nRoomOf : List Str := ["net", "beat", "piece", "gate", "wires", "place", "many"]
abbrev DRoomOf (P : Program) (w : World) (K : PySem.W.Frag) (mg : Str → Option Value) (base : Heap) (C : Addr) := Df P w K mg base 2 "room_of" ["net", "beat", "piece"] (spRoomOf K C)
abbrev DSpotsIn (P : Program) (w : World) (K : PySem.W.Frag) (mg : Str → Option Value) (base : Heap) (C : Addr) := Df P w K mg base 1 "spots_in" ["net"] (spSpotsIn K C)
abbrev nSpotsIn : List Str := ["net"]
abbrev DSpotsOf (P : Program) (w : World) (K : PySem.W.Frag) (mg : Str → Option Value) (base : Heap) (C : Addr) := Df P w K mg base 2 "spots_of" ["net"] (spSpotsOf K C)
abbrev nSpotsOf : List Str := ["net", "number", "gate"]
abbrev DLagsAt (P : Program) (w : World) (K : PySem.W.Frag) (mg : Str → Option Value) (base : Heap) (C : Addr) := Df P w K mg base 3 "lags_at" ["net", "found"] (spLagsAt K C)
abbrev nLagsAt : List Str := ["net", "found", "spot"]
end
end Lag

set_option maxRecDepth 100000
set_option maxHeartbeats 8000000
namespace Lag
open PySem PySem.Spec PyProof.Rows L2
/-- a bound with its piece, apart from the list lt -/
def BpV (K : PySem.W.Frag) (Z : Addr → Prop) (H : Hp) (lt : Addr) (v : V) (bp : Bnd × Pce) : Prop := ∃ a pa l, v = .ref a ∧ SqT K H a [.int ((bp.1.1 : Nat) : Int), .int ((bp.1.2.1 : Nat) : Int), .int bp.1.2.2, .ref pa] ∧ SqT K H pa [.int ((bp.2.1 : Nat) : Int), .ref l] ∧ H l = some (.lst (nvs bp.2.2)) ∧ l ≠ lt ∧ ¬ Z l
theorem BpV.same {K : PySem.W.Frag} {Z : Addr → Prop} {H H' : Hp} {lt : Addr} {v : V} {bp : Bnd × Pce} (s : Same H H') (h : BpV K Z H lt v bp) : BpV K Z H' lt v bp := by
  obtain ⟨a, pa, l, e, h1, h2, h3, h4⟩ := h
  exact ⟨a, pa, l, e, (TK.same s).seq h1, (TK.same s).seq h2, s _ _ h3, h4⟩
theorem BpV.weak {K : PySem.W.Frag} {Z Z' : Addr → Prop} {H : Hp} {lt : Addr} {v : V} {bp : Bnd × Pce} (z : ∀ l, Z' l → Z l) (h : BpV K Z H lt v bp) : BpV K Z' H lt v bp := by
  obtain ⟨a, pa, l, e, h1, h2, h3, h4, h5⟩ := h
  exact ⟨a, pa, l, e, h1, h2, h3, h4, fun k => h5 (z l k)⟩
theorem BpV.mut {K : PySem.W.Frag} {Z : Addr → Prop} {H : Hp} {lt : Addr} {xs : List V} {o : HO} {v : V} {bp : Bnd × Pce} (e : H lt = some (.lst xs)) (h : BpV K Z H lt v bp) : BpV K Z (upd H lt o) lt v bp := by
  obtain ⟨a, pa, l, e', h1, h2, h3, h4⟩ := h
  exact ⟨a, pa, l, e', (TK.lst e).seq h1, (TK.lst e).seq h2, (upd_ne h4.1).trans h3, h4⟩
theorem nat_sorted {ns : List Int} {ks : List Nat} (hp : ns.Perm (ks.map fun i => ((i : Nat) : Int))) (hs : ns.Pairwise (· ≤ ·)) : ∃ es : List Nat, ns = es.map (fun i => ((i : Nat) : Int)) ∧ es.Perm ks ∧ es.Pairwise (· ≤ ·) := by
  have hm : ∀ x ∈ ns, ∃ k : Nat, x = (k : Int) := fun x hx => by
    obtain ⟨k, _, rfl⟩ := List.mem_map.mp (hp.mem_iff.mp hx)
    exact ⟨k, rfl⟩
  have e : ns = (ns.map Int.toNat).map fun i => ((i : Nat) : Int) := by
    rw [List.map_map]
    have : ∀ l : List Int, (∀ x ∈ l, ∃ k : Nat, x = (k : Int)) → l = l.map ((fun i => ((i : Nat) : Int)) ∘ Int.toNat) := fun l hl => by
      induction l with
      | nil => rfl
      | cons x l ih =>
        obtain ⟨k, rfl⟩ := hl x (List.mem_cons_self ..)
        rw [List.map_cons, ← ih fun y hy => hl y (List.mem_cons_of_mem _ hy)]
        rfl
    exact this ns hm
  refine ⟨ns.map Int.toNat, e, ?_, ?_⟩
  · have h1 := hp.map Int.toNat
    rw [List.map_map] at h1
    have h2 : ks.map (Int.toNat ∘ fun i => ((i : Nat) : Int)) = ks := by
      have : (Int.toNat ∘ fun i : Nat => ((i : Nat) : Int)) = id := by
        funext i
        exact Int.toNat_natCast i
      rw [this, List.map_id]
    rw [h2] at h1
    exact h1
  · rw [List.pairwise_map]
    refine hs.imp_of_mem fun {a b} ha hb h => ?_
    obtain ⟨i, rfl⟩ := hm a ha
    obtain ⟨j, rfl⟩ := hm b hb
    omega
theorem KnD.list {K : PySem.W.Frag} {H : Hp} {d : Addr} {D : Dst} {kvs : List (Key × V)} {ks : List Nat} (h : KnD K H d D kvs ks) : (kvs.map fun kv => kV kv.1) = ((ks.map fun i => ((i : Nat) : Int)).map V.int) := by
  have e : (kvs.map fun kv => kV kv.1) = (kvs.map fun kv => kv.1).map kV := by rw [List.map_map]; rfl
  rw [e, h.keys, List.map_map, List.map_map]
  rfl
/-- the bounds made so far -/
structure PB (gs : List Gt) (ws : List Wr) (b : Int) (i : Nat) (es : List Nat) (bps : List (Bnd × Pce)) : Prop where
  ok : ∀ bp ∈ bps, ∃ e, bp.2.1 < gs.length ∧ Pw ws bp.2.1 bp.2.2 e ∧ bp.1 = (spotF gs bp.2.1, spotF gs e, roomF gs ws b bp.2) ∧ bp.2.2.length ≤ 1000 ∧ best gs ws bp.2.1 e = some (prg ws bp.2.2, -pwt gs ws bp.2.1 bp.2.2)
  full : ∀ s, s < i → ∀ e c, best gs ws s e = some c → ∃ bp ∈ bps, bp.2.1 = s ∧ Pw ws s bp.2.2 e ∧ c = (prg ws bp.2.2, -pwt gs ws s bp.2.2)
  here : ∀ e ∈ es, ∀ c, best gs ws i e = some c → ∃ bp ∈ bps, bp.2.1 = i ∧ Pw ws i bp.2.2 e ∧ c = (prg ws bp.2.2, -pwt gs ws i bp.2.2)
  len : bps.length ≤ i * gs.length + es.length
theorem PB.push {gs : List Gt} {ws : List Wr} {b : Int} {i e : Nat} {es ps : List Nat} {bps : List (Bnd × Pce)} {c : Cst} (h : PB gs ws b i es bps) (hi : i < gs.length) (hp : Pw ws i ps e) (hb : best gs ws i e = some c) (hc : c = (prg ws ps, -pwt gs ws i ps)) (hl : ps.length ≤ 1000) :
    PB gs ws b i (es ++ [e]) (bps ++ [((spotF gs i, spotF gs e, roomF gs ws b (i, ps)), (i, ps))]) := by
  refine ⟨fun bp hbp => ?_, fun s hs e' c' hc' => ?_, fun e' he' c' hc' => ?_, ?_⟩
  · rcases List.mem_append.mp hbp with hbp | hbp
    · exact h.ok bp hbp
    · rw [List.mem_singleton.mp hbp]
      exact ⟨e, hi, hp, rfl, hl, by rw [hb, hc]⟩
  · obtain ⟨bp, h1, h2⟩ := h.full s hs e' c' hc'
    exact ⟨bp, List.mem_append_left _ h1, h2⟩
  · rcases List.mem_append.mp he' with he' | he'
    · obtain ⟨bp, h1, h2⟩ := h.here e' he' c' hc'
      exact ⟨bp, List.mem_append_left _ h1, h2⟩
    · rw [List.mem_singleton.mp he'] at hc' ⊢
      rw [hb] at hc'
      cases hc'
      exact ⟨_, List.mem_append_right _ (List.mem_singleton.mpr rfl), rfl, hp, hc⟩
  · have := h.len
    rw [List.length_append, List.length_append, List.length_singleton, List.length_singleton]
    omega
theorem PB.next {gs : List Gt} {ws : List Wr} {b : Int} {i : Nat} {es : List Nat} {bps : List (Bnd × Pce)} (h : PB gs ws b i es bps) (hes : ∀ e c, best gs ws i e = some c → e ∈ es) (hl : es.length ≤ gs.length) : PB gs ws b (i + 1) [] bps := by
  refine ⟨h.ok, fun s hs e c hc => ?_, fun e he => (nomatch he), ?_⟩
  · by_cases z : s = i
    · subst z
      exact h.here e (hes e c hc) c hc
    · exact h.full s (by omega) e c hc
  · have := h.len
    rw [Nat.add_mul, Nat.one_mul]
    show _ ≤ _ + _ + 0
    omega
theorem PB.fin {gs : List Gt} {ws : List Wr} {b : Int} {es : List Nat} {bps : List (Bnd × Pce)} (h : PB gs ws b gs.length es bps) : BdsOk gs ws b (bps.map fun bp => bp.2) (bps.map fun bp => bp.1) := by
  refine ⟨⟨by rw [List.length_map, List.length_map], fun i pc bd h1 h2 => ?_⟩, fun s hs e c hc => ?_, fun pc hpc => ?_⟩
  · rw [List.getElem?_map] at h1 h2
    cases e : bps[i]? with
    | none => rw [e] at h1; cases h1
    | some bp =>
      rw [e] at h1 h2
      cases h1
      cases h2
      obtain ⟨e', k1, k2, k3, _⟩ := h.ok bp (List.mem_of_getElem? e)
      exact ⟨e', k1, k2, k3⟩
  · obtain ⟨bp, h1, h2⟩ := h.full s hs e c hc
    exact ⟨bp.2, List.mem_map.mpr ⟨bp, h1, rfl⟩, h2⟩
  · obtain ⟨bp, hbp, rfl⟩ := List.mem_map.mp hpc
    obtain ⟨e, k1, k2, _, _, k5⟩ := h.ok bp hbp
    exact ⟨e, k2, k5⟩
theorem PB.pce {gs : List Gt} {ws : List Wr} {b : Int} {i : Nat} {es : List Nat} {bps : List (Bnd × Pce)} (h : PB gs ws b i es bps) : ∀ bp ∈ bps, PceOk gs ws bp.2 ∧ bp.2.2.length ≤ 1000 := fun bp hbp => by
  obtain ⟨e, k1, k2, _, k4, _⟩ := h.ok bp hbp
  exact ⟨⟨k1, e, k2⟩, k4⟩
theorem small11k {n : Nat} (h : n ≤ 11000) : n < sizeLine := Nat.lt_of_le_of_lt h (by decide)
def spBoundsFor (K : PySem.W.Frag) (C : Addr) : Sp := fun vs H Q _ => ∃ (p ng nw : Addr) (gs : List Gt) (ws : List Wr) (b : Int), vs = [.ref p, .int b] ∧ NetAt K C H p ng nw gs ws ∧ NetOk gs ws ∧
  ∀ (lb : Addr) (bv : List V) (bps : List (Bnd × Pce)) (H' : Hp), Same H H' → H lb = none → H' lb = some (.lst bv) → All2 (BpV K (fun l => H l ≠ none) H' lb) bv bps → BdsOk gs ws b (bps.map fun bp => bp.2) (bps.map fun bp => bp.1) → bps.length ≤ 10000 → (∀ bp ∈ bps, PceOk gs ws bp.2 ∧ bp.2.2.length ≤ 1000) → Q (.ref lb) H'
section
variable {P : Program} {w : World} {K : PySem.W.Frag} {mg : Str → Option Value} {base : Heap}
abbrev nBoundsFor : List Str := ["net", "beat", "spots", "told", "start", "known", "last", "end", "piece"]
abbrev DBoundsFor (P : Program) (w : World) (K : PySem.W.Frag) (mg : Str → Option Value) (base : Heap) (C : Addr) := Df P w K mg base 3 "bounds_for" ["net", "beat"] (spBoundsFor K C)
end
end Lag

set_option maxRecDepth 100000
set_option maxHeartbeats 8000000
namespace Lag
open PySem PySem.Spec PyProof.Rows L2
abbrev sRingFrom : Stmt := topS 18 -- @ring_from
def BndV (K : PySem.W.Frag) (H : Hp) (v : V) (bd : Bnd) : Prop := ∃ a th, v = .ref a ∧ SqT K H a [.int ((bd.1 : Nat) : Int), .int ((bd.2.1 : Nat) : Int), .int bd.2.2, th]
theorem BndV.tk {K : PySem.W.Frag} {H H' : Hp} {v : V} {bd : Bnd} (t : TK H H') (h : BndV K H v bd) : BndV K H' v bd := by
  obtain ⟨a, th, e, s⟩ := h
  exact ⟨a, th, e, t.seq s⟩
/-- what of each place is come by next -/
structure OnD (K : PySem.W.Frag) (H : Hp) (d : Addr) (kvs : List (Key × V)) (bv : List V) (bs : List Bnd) (O : Nat → Option Nat) (n : Nat) : Prop where
  at_ : H d = some (.dK kvs)
  keys : ∃ ks : List Nat, kvs.map (fun kv => kv.1) = ks.map (fun g => Sum.inl ((g : Nat) : Int)) ∧ ks.Nodup ∧ ∀ g ∈ ks, g < n
  on : ∀ v j, O v = some j → ∃ t z b, valV kvs (Sum.inl ((v : Nat) : Int)) = some (.ref t) ∧ SqT K H t [z, .int ((b.2.1 : Nat) : Int)] ∧ bv[j]? = some z ∧ bs[j]? = some b ∧ b.1 = v
theorem OnD.tk {K : PySem.W.Frag} {H H' : Hp} {d : Addr} {kvs : List (Key × V)} {bv : List V} {bs : List Bnd} {O : Nat → Option Nat} {n : Nat} (h : OnD K H d kvs bv bs O n) (t : TK H H') (e : H' d = some (.dK kvs)) : OnD K H' d kvs bv bs O n :=
  ⟨e, h.keys, fun v j hv => by
    obtain ⟨t', z, b, h1, h2, h3⟩ := h.on v j hv
    exact ⟨t', z, b, h1, t.seq h2, h3⟩⟩
theorem OnD.same {K : PySem.W.Frag} {H H' : Hp} {d : Addr} {kvs : List (Key × V)} {bv : List V} {bs : List Bnd} {O : Nat → Option Nat} {n : Nat} (h : OnD K H d kvs bv bs O n) (s : Same H H') : OnD K H' d kvs bv bs O n := h.tk (TK.same s) (s _ _ h.at_)
theorem OnD.len {K : PySem.W.Frag} {H : Hp} {d : Addr} {kvs : List (Key × V)} {bv : List V} {bs : List Bnd} {O : Nat → Option Nat} {n : Nat} (h : OnD K H d kvs bv bs O n) : kvs.length ≤ n := by
  obtain ⟨ks, h1, h2, h3⟩ := h.keys
  have := congrArg List.length h1
  rw [List.length_map, List.length_map] at this
  rw [this]
  exact svNodup_le h2 h3
theorem OnD.put {K : PySem.W.Frag} {H : Hp} {d t a : Addr} {kvs : List (Key × V)} {bv : List V} {bs : List Bnd} {O : Nat → Option Nat} {n j : Nat} {b : Bnd} (h : OnD K H d kvs bv bs O n) (ht : H t = some (.tup [.ref a, .int ((b.2.1 : Nat) : Int)])) (hz : bv[j]? = some (.ref a)) (hb : bs[j]? = some b) (hn : b.1 < n) :
    OnD K (upd H d (.dK (putK kvs (Sum.inl ((b.1 : Nat) : Int)) (.ref t)))) d (putK kvs (Sum.inl ((b.1 : Nat) : Int)) (.ref t)) bv bs (updO O b.1 j) n := by
  have inj : ∀ {i j : Nat}, (Sum.inl ((i : Nat) : Int) : Key) = Sum.inl ((j : Nat) : Int) → i = j := fun {i j} z => by
    have := Sum.inl.inj z
    omega
  have tk : TK H (upd H d (.dK (putK kvs (Sum.inl ((b.1 : Nat) : Int)) (.ref t)))) := fun c o to eb => by
    rw [upd_ne (fun z => by
      rw [z, h.at_] at eb
      cases eb
      exact to)]
    exact eb
  refine ⟨upd_same, ?_, fun v i hv => ?_⟩
  · obtain ⟨ks, h1, h2, h3⟩ := h.keys
    have hk : (Sum.inl ((b.1 : Nat) : Int) : Key) ∈ kvs.map (fun kv => kv.1) ↔ b.1 ∈ ks := by
      rw [h1]
      constructor
      · intro z
        obtain ⟨g, hg, e'⟩ := List.mem_map.mp z
        rw [← inj e']
        exact hg
      · intro z
        exact List.mem_map.mpr ⟨b.1, z, rfl⟩
    by_cases he : b.1 ∈ ks
    · exact ⟨ks, by rw [putK_old (hk.mpr he)]; exact h1, h2, h3⟩
    · refine ⟨ks ++ [b.1], by rw [putK_fresh fun z => he (hk.mp z), h1, List.map_append]; rfl, ?_, fun g hg => ?_⟩
      · rw [List.nodup_append]
        refine ⟨h2, by simp, fun x hx y hy z => ?_⟩
        rw [List.mem_singleton.mp hy] at z
        exact he (z ▸ hx)
      · rcases List.mem_append.mp hg with hg | hg
        · exact h3 g hg
        · rw [List.mem_singleton.mp hg]
          exact hn
  · unfold updO at hv
    rw [valV_put]
    by_cases z : v = b.1
    · rw [if_pos z] at hv
      cases hv
      rw [if_pos (by rw [z])]
      exact ⟨t, _, b, rfl, tk.seq (.inl (.inl ht)), hz, hb, z.symm⟩
    · rw [if_neg z] at hv
      rw [if_neg fun y => z (inj y)]
      obtain ⟨t', z', b', k1, k2, k3⟩ := h.on v i hv
      exact ⟨t', z', b', k1, tk.seq k2, k3⟩
/-- what was seen, with its place -/
def SvSeen (H : Hp) (D : Addr) (es : List Nat) : Prop := ∃ kvs : List (Key × V), H D = some (.dK kvs) ∧ kvs.length ≤ es.length ∧ ∀ g : Nat, valV kvs (Sum.inl (g : Int)) = if g ∈ es then some (.int ((es.idxOf g : Nat) : Int)) else none
theorem SvSeen.get {H : Hp} {D : Addr} {es : List Nat} (h : SvSeen H D es) (g : Nat) : DGet H D (.int (g : Nat)) (if g ∈ es then some (.int ((es.idxOf g : Nat) : Int)) else none) := by
  obtain ⟨kvs, e, _, hv⟩ := h
  have := DGet.k (k := Sum.inl (g : Int)) e
  rw [hv g] at this
  exact this
theorem SvSeen.put {H : Hp} {D : Addr} {es : List Nat} (h : SvSeen H D es) (hm : es.length < sizeLine) {c : Nat} (hc : c ∉ es) : ∃ o, DPut H D (.int (c : Nat)) (.int ((es.length : Nat) : Int)) (upd H D o) ∧ SvSeen (upd H D o) D (es ++ [c]) := by
  obtain ⟨kvs, e, hl, hv⟩ := h
  refine ⟨.dK (putK kvs (Sum.inl (c : Int)) (.int ((es.length : Nat) : Int))), DPut.k (k := Sum.inl (c : Int)) e (by omega), _, upd_same, by have := length_putK kvs (Sum.inl (c : Int)) (.int ((es.length : Nat) : Int)); rw [List.length_append]; show _ ≤ es.length + 1; omega, fun j => ?_⟩
  rw [valV_put]
  by_cases hj : j = c
  · subst hj
    rw [if_pos rfl, if_pos (by simp), List.idxOf_append, if_neg hc]
    simp
  · rw [if_neg (fun z => hj (by have := Sum.inl.inj z; omega)), hv j]
    by_cases hm : j ∈ es
    · rw [if_pos hm, if_pos (List.mem_append_left _ hm), List.idxOf_append, if_pos hm]
    · rw [if_neg hm, if_neg (fun z => by
        rcases List.mem_append.mp z with z | z
        · exact hm z
        · exact hj (List.mem_singleton.mp z))]
theorem ring_starts {bs : List Bnd} {O : Nat → Option Nat} {es js : List Nat} {cur : Nat} (hl : es.length = js.length) (h : ∀ i v, es[i]? = some v → PtO bs O v (js.drop i) cur) : js.map (fun j => (bAt bs j).1) = es := by
  refine List.ext_getElem? fun i => ?_
  rw [List.getElem?_map]
  by_cases hi : i < js.length
  · have he : i < es.length := by omega
    have := h i es[i] (List.getElem?_eq_getElem he)
    rw [List.drop_eq_getElem_cons hi] at this
    obtain ⟨_, b, h1, h2, _⟩ := this
    rw [List.getElem?_eq_getElem hi, List.getElem?_eq_getElem he]
    show some (bAt bs js[i]).1 = _
    rw [bAt_get h1, h2]
  · rw [List.getElem?_eq_none (by omega), List.getElem?_eq_none (by omega)]
    rfl
def ringVs (bv : List V) (js : List Nat) : List V := js.map fun j => bv.getD j .non
def spRingF (K : PySem.W.Frag) : Sp := fun vs H Q _ => ∃ (e0 n : Nat) (d : Addr) (kvs : List (Key × V)) (bv : List V) (bs : List Bnd) (O : Nat → Option Nat), vs = [.int (e0 : Nat), .ref d] ∧ OnD K H d kvs bv bs O n ∧ n ≤ 1000 ∧ e0 < n ∧ (∀ b ∈ bs, b.2.1 < n) ∧ (∀ js v, PtO bs O e0 js v → js.length < n → O v ≠ none) ∧
  ∀ (js : List Nat) (l : Addr) (H' : Hp), js ≠ [] → js.length ≤ n → (∃ v, PtO bs O v js v) → (js.map fun j => (bAt bs j).1).Nodup → Same H H' → H l = none → H' l = some (.lst (ringVs bv js)) → Q (.ref l) H'
def SvTold (K : PySem.W.Frag) (H : Hp) (bv : List V) (bs : List Bnd) (n : Nat) (t : Addr) (H' : Hp) : Prop :=
  (∃ (lf : Addr) (F : List Int), H' t = some (.tup [.ref lf, .non]) ∧ H lf = none ∧ H' lf = some (.lst (F.map V.int)) ∧ F.length = n ∧ Sat bs (fun v => F.getD v 0) ∧ (∀ v, F.getD v 0 ≤ 0) ∧ (∀ R : Int, 0 ≤ R → (∀ b ∈ bs, -R ≤ b.2.2) → ∀ v, v < n → -((n : Int) * R) ≤ F.getD v 0)) ∨
  ∃ (lr : Addr) (js : List Nat), H' t = some (.tup [.non, .ref lr]) ∧ H lr = none ∧ H' lr = some (.lst (ringVs bv js)) ∧ js.length ≤ n ∧ RingB bs js ∧ (js.map fun j => (bAt bs j).1).Nodup
def spSettle (K : PySem.W.Frag) : Sp := fun vs H Q _ => ∃ (n : Nat) (lb : Addr) (bv : List V) (bs : List Bnd), vs = [.int (n : Nat), .ref lb] ∧ 1 ≤ n ∧ n ≤ 1000 ∧ H lb = some (.lst bv) ∧ All2 (BndV K H) bv bs ∧ (∀ b ∈ bs, b.1 < n ∧ b.2.1 < n) ∧
  ∀ (t : Addr) (H' : Hp), Same H H' → H t = none → SvTold K H bv bs n t H' → Q (.ref t) H'
section
variable {P : Program} {w : World} {K : PySem.W.Frag} {mg : Str → Option Value} {base : Heap}
abbrev nRingFrom : List Str := ["place", "onward", "seen", "path", "passed"]
theorem scRingFrom : FnScope nRingFrom ["place", "onward"] (defScope sRingFrom) := ⟨rfl, rfl, rfl, by decide +kernel, rfl, by decide +kernel, by decide +kernel⟩
abbrev DRingF (P : Program) (w : World) (K : PySem.W.Frag) (mg : Str → Option Value) (base : Heap) := Df P w K mg base 1 "ring_from" ["place", "onward"] (spRingF K)
theorem ok_ringF {f : Addr} {fd : FuncData} (F : Fun K "ring_from" "ring_from" sRingFrom f fd) (hm : mg "ring_from" = some (.ref f)) (B : Bt mg) : DRingF P w K mg base f fd := by
  refine ⟨?_, hm, F.kp, F.binds fun _ _ _ _ _ _ us hl => match us, hl with | [_, _], _ => rfl⟩
  refine F.ok scRingFrom (fun vs H Q E h => ?_) (fun cdv A outer s H vs Q E hr h => ?_)
  · obtain ⟨e0, n, d, kvs, bv, bs, O, rfl, _⟩ := h
    rfl
  · obtain ⟨e0, n, d, kvs, bv, bs, O, rfl, od, hn, he0, hbn, hmore, q⟩ := h
    have nd := scRingFrom.nd
    refine ⟨_, pss_cons (ps_set (i := 2) nd rfl (.inl rfl) pe_dnewK) <|
        pss_cons (ps_set (i := 3) nd rfl (.inl rfl) (pe_lst pa_nil)) <|
        pss_cons (ps_while PassesOwn.never (pt_cmp (pc_dnotin (hu_of hr) (pv 0) (pv 2))) (pss_cons (ps_dput (hu_of hr) (pv 2) (pv 0) (pe_callB call_len_seq (by rfl) B.len PySem.boot_len (pa_cons (pv 3) pa_nil)) rfl) <|
        pss_cons (ps_asg (pe_dget (hu_of hr) (pv 1) (pv 0) (fun _ _ => rfl)) (pg_tup rfl (pgs_cons (pg_name (i := 4) nd rfl (.inl rfl)) (pgs_cons (pg_name (i := 0) nd rfl (.inl rfl)) pgs_nil)))) <|
        pss_one (ps_expr (pe_bm PySem.F.plainAttrs_list PySem.F.slot_list_append PySem.F.type_list_append mt_append (pv 3) (pa_cons (pv 4) pa_nil))))) <|
        pss_one (ps_ret (pe_slice sl_list (pv 3) (po_some (pe_dget (hu_of hr) (pv 2) (pv 0) (fun _ _ => rfl))) po_none)), ?_⟩
    intro ls hls
    have s1 : Same H (upd H ls (.dK [])) := same_new hls
    refine ⟨(by show 0 ≤ sizeLine; decide), fun lp hlp => ?_⟩
    have hlp0 : H lp = none := s1.free hlp
    have nsp : ls ≠ lp := ne_of_none (upd_same (H := H) (a := ls) (o := .dK [])) hlp
    refine ⟨fun m σ H6 => ∃ (es js : List Nat) (cur : Nat) (s4 : Option V), σ = [some (.int (cur : Nat)), some (.ref d), some (.ref ls), some (.ref lp), s4] ∧ es.Nodup ∧ (∀ e ∈ es, e < n) ∧ cur < n ∧ es.length = js.length ∧ PtO bs O e0 js cur ∧ (∀ i v, es[i]? = some v → PtO bs O v (js.drop i) cur) ∧ SvSeen H6 ls es ∧ H6 lp = some (.lst (ringVs bv js)) ∧ Same H H6 ∧ m = n - es.length, ?_, ?_⟩
    · refine ⟨_, [], [], e0, none, rfl, List.nodup_nil, (fun e h => nomatch h), he0, rfl, rfl, (fun i v h => by simp at h), ⟨[], ?_, Nat.le_refl _, fun g => by rw [if_neg (by simp)]; exact valV_nil⟩, upd_same, s1.trans (same_new hlp), rfl⟩
      rw [upd_ne nsp]
      exact upd_same
    · rintro m σ H6 ⟨es, js, cur, s4, rfl, hnd, hes, hcur, hlen, hpt, hdr, sd, hp6, sm, rfl⟩
      refine ⟨_, rfl, _, rfl, ls, _, rfl, sd.get cur, ?_⟩
      by_cases hc : cur ∈ es
      · rw [if_pos hc]
        refine ⟨_, rfl, iteF ?_⟩
        have hg := sd.get cur
        rw [if_pos hc] at hg
        refine ⟨_, rfl, _, rfl, _, rfl, ls, _, rfl, hg, _, rfl, lp, _, rfl, SqL.of hp6, fun p hp => ?_⟩
        have h5 : es.idxOf cur < es.length := List.idxOf_lt_length_iff.mpr hc
        have hj : es[es.idxOf cur]? = some cur := by
          rw [List.getElem?_eq_getElem h5, List.getElem_idxOf h5]
        refine q (js.drop (es.idxOf cur)) p _ (fun z => ?_) (by have := svNodup_le hnd hes; rw [List.length_drop]; omega) ⟨cur, hdr _ _ hj⟩ (by rw [List.map_drop, ring_starts hlen hdr]; exact hnd.sublist (List.drop_sublist _ _)) (sm.trans (same_new hp)) (sm.free hp) ?_
        · have := congrArg List.length z
          rw [List.length_drop] at this
          simp at this
          omega
        · rw [upd_same, cut_from]
          unfold ringVs
          rw [List.map_drop]
      · rw [if_neg hc]
        refine ⟨_, rfl, iteT ?_⟩
        have hlt : es.length < n := by
          have h2 := svNodup_le (n := n) (l := es ++ [cur]) (by
            rw [List.nodup_append]
            refine ⟨hnd, by simp, fun a ha c hc2 => ?_⟩
            rw [List.mem_singleton.mp hc2]
            intro z
            exact hc (by rw [← z]; exact ha)) (fun a ha => by
            rcases List.mem_append.mp ha with ha | ha
            · exact hes a ha
            · rw [List.mem_singleton.mp ha]
              exact hcur)
          rw [List.length_append, List.length_singleton] at h2
          omega
        have hpl : (ringVs bv js).length = es.length := by
          unfold ringVs
          rw [List.length_map, hlen]
        obtain ⟨o, dp, sd2⟩ := sd.put (small1000 (by omega)) hc
        refine ⟨fun σ H7 => ∃ (es' js' : List Nat) (cur' : Nat) (s4 : Option V), σ = [some (.int (cur' : Nat)), some (.ref d), some (.ref ls), some (.ref lp), s4] ∧ es'.Nodup ∧ (∀ e ∈ es', e < n) ∧ cur' < n ∧ es'.length = js'.length ∧ PtO bs O e0 js' cur' ∧ (∀ i v, es'[i]? = some v → PtO bs O v (js'.drop i) cur') ∧ SvSeen H7 ls es' ∧ H7 lp = some (.lst (ringVs bv js')) ∧ Same H H7 ∧ es'.length = es.length + 1, ?_, ?_⟩
        · rintro σ' H' ⟨es', js', cur', t4, rfl, h1, h2, h3, h4, h5, h6, h7, h8, h9, h10⟩
          exact ⟨n - (es.length + 1), by omega, es', js', cur', t4, rfl, h1, h2, h3, h4, h5, h6, h7, h8, h9, by rw [h10]⟩
        refine ⟨_, rfl, lp, _, rfl, .inl (SqL.of hp6), _, rfl, _, rfl, ls, _, rfl, (by rw [hpl]; exact dp), ?_⟩
        have sm7 : Same H (upd H6 ls o) := same_mut sm hls
        have od7 := od.same sm7
        cases ho : O cur with
        | none => exact absurd ho (hmore js cur hpt (by omega))
        | some j =>
        obtain ⟨t, z, b, hv, sq, hz, hb, hb1⟩ := od7.on cur j ho
        have hg : DGet (upd H6 ls o) d (.int (cur : Nat)) (some (.ref t)) := by
          have := DGet.k (k := Sum.inl ((cur : Nat) : Int)) od7.at_
          rw [hv] at this
          exact this
        have hp7 : (upd H6 ls o) lp = some (.lst (ringVs bv js)) := by
          rw [upd_ne nsp.symm]
          exact hp6
        generalize upd H6 ls o = H7 at sm7 od7 hg sq hp7 sd2
        refine ⟨_, rfl, _, rfl, d, _, rfl, hg, t, _, rfl, sq, rfl, _, _, rfl, _, _, rfl, rfl, ?_⟩
        have sd3 : SvSeen (upd H7 lp (.lst (ringVs bv js ++ [z]))) ls (es ++ [cur]) := by
          obtain ⟨kv, h1, h2⟩ := sd2
          exact ⟨kv, by rw [upd_ne nsp]; exact h1, h2⟩
        refine ⟨_, rfl, .inl ⟨rfl, _, SqL.of hp7⟩, _, rfl, lp, _, _, rfl, rfl, hp7, small1000 (by omega), ?_⟩
        refine ⟨es ++ [cur], js ++ [j], b.2.1, _, rfl, ?_, fun e he => ?_, hbn b (List.mem_of_getElem? hb), by rw [List.length_append, List.length_append, hlen]; rfl, hpt.snoc ho hb hb1, fun i v hi => ?_, sd3, ?_, same_mut sm7 hlp0, by rw [List.length_append]; rfl⟩
        · rw [List.nodup_append]
          refine ⟨hnd, by simp, fun a ha c hc2 => ?_⟩
          rw [List.mem_singleton.mp hc2]
          intro z
          exact hc (by rw [← z]; exact ha)
        · rcases List.mem_append.mp he with he | he
          · exact hes e he
          · rw [List.mem_singleton.mp he]
            exact hcur
        · by_cases hil : i < es.length
          · rw [List.getElem?_append_left hil] at hi
            rw [List.drop_append_of_le_length (by omega)]
            exact (hdr i v hi).snoc ho hb hb1
          · have hie : i = es.length := by
              have := (List.getElem?_eq_some_iff.mp hi).1
              rw [List.length_append, List.length_singleton] at this
              omega
            subst hie
            rw [List.getElem?_append_right (Nat.le_refl _), Nat.sub_self] at hi
            cases hi
            rw [hlen, List.drop_left]
            exact ⟨ho, b, hb, hb1, rfl⟩
        · rw [upd_same]
          unfold ringVs
          rw [List.map_append]
          show _ = some (HO.lst (_ ++ [bv.getD j V.non]))
          rw [List.getD_eq_getElem?_getD, hz]
          rfl
abbrev nSettle : List Str := ["many", "bounds", "found", "onward", "changed", "turn", "bound", "start", "end", "room", "thing"]
abbrev DSettle (P : Program) (w : World) (K : PySem.W.Frag) (mg : Str → Option Value) (base : Heap) := Df P w K mg base 2 "settle" ["many", "bounds"] (spSettle K)
end
end Lag

set_option maxRecDepth 100000
set_option maxHeartbeats 8000000
namespace Lag
open PySem PySem.Spec PyProof.Rows L2
def spChkB : Sp := fun vs H Q _ => ∃ b : Int, vs = [.int b] ∧ 0 ≤ b ∧ Q .non H
def lagsL (gs : List Gt) (L : Nat → Int) : List Int := (List.range gs.length).map L
theorem lagsL_at {gs : List Gt} {L : Nat → Int} {g : Nat} (h : g < gs.length) : (lagsL gs L).getD g 0 = L g := by
  unfold lagsL
  rw [List.getD_eq_getElem?_getD, List.getElem?_map, List.getElem?_range h]
  rfl
theorem lagsL_len (gs : List Gt) (L : Nat → Int) : (lagsL gs L).length = gs.length := by
  unfold lagsL
  rw [List.length_map, List.length_range]
/-- a list of pieces -/
def BarV (K : PySem.W.Frag) (H : Hp) (l : Addr) (pcs : List Pce) : Prop := ∃ pv, H l = some (.lst pv) ∧ All2 (PceV K H) pv pcs
/-- what for_beat tells -/
def FbR (K : PySem.W.Frag) (gs : List Gt) (ws : List Wr) (b : Int) (H H' : Hp) (t : Addr) : Prop :=
  (∃ (l : Addr) (L : Nat → Int), H' t = some (.tup [.str "lags", .ref l]) ∧ H l = none ∧ H' l = some (.lst ((lagsL gs L).map V.int)) ∧ Feas gs ws b L ∧ (∀ g, g < gs.length → -101 ≤ L g ∧ L g ≤ 101)) ∨
  ∃ (l : Addr) (pcs : List Pce), H' t = some (.tup [.str "bar", .ref l]) ∧ H l = none ∧ BarV K H' l pcs ∧ IsBar gs ws b pcs ∧ (∀ pc ∈ pcs, PceOk gs ws pc ∧ pc.2.length ≤ 1000) ∧ pcs.length ≤ 200
theorem FbR.lags {K : PySem.W.Frag} {gs : List Gt} {ws : List Wr} {b : Int} {H H' : Hp} {t : Addr} (N : NetOk gs ws) (h : FbR K gs ws b H H' t) : ∃ (w : Str) (l : Addr), H' t = some (.tup [.str w, .ref l]) ∧ (w = "lags" ∨ w = "bar") ∧ (w = "lags" ↔ FeasE gs ws b) := by
  rcases h with ⟨l, L, h1, h2, h3, h4, h5⟩ | ⟨l, pcs, h1, h2, h3, h4, h5⟩
  · exact ⟨_, l, h1, .inl rfl, fun _ => ⟨L, h4⟩, fun _ => rfl⟩
  · exact ⟨_, l, h1, .inr rfl, fun z => (by cases z), fun ⟨L, hL⟩ => absurd hL (h4.none N)⟩
def spForBeat (K : PySem.W.Frag) (C : Addr) : Sp := fun vs H Q _ => ∃ (p ng nw : Addr) (gs : List Gt) (ws : List Wr) (b : Int), vs = [.ref p, .int b] ∧ NetAt K C H p ng nw gs ws ∧ NetOk gs ws ∧ 0 ≤ b ∧
  ∀ (t : Addr) (H' : Hp), Same H H' → H t = none → FbR K gs ws b H H' t → Q (.ref t) H'
section
variable {P : Program} {w : World} {K : PySem.W.Frag} {mg : Str → Option Value} {base : Heap}
abbrev nChkBeat : List Str := ["thing"]
abbrev DChkB (P : Program) (w : World) (K : PySem.W.Frag) (mg : Str → Option Value) (base : Heap) := Df P w K mg base 2 "check_beat" ["thing"] spChkB
abbrev nForBeat : List Str := ["net", "beat", "found", "ring", "start", "end", "room", "piece"]
abbrev DForBeat (P : Program) (w : World) (K : PySem.W.Frag) (mg : Str → Option Value) (base : Heap) (C : Addr) := Df P w K mg base 4 "for_beat" ["net", "beat"] (spForBeat K C)
end
end Lag

set_option maxRecDepth 100000
set_option maxHeartbeats 8000000
/-! ### sorted(set(xs)), whole numbers, any number of them -/
namespace Lag
open PySem PySem.Spec PyProof.Rows L2
/-- a set as it is made -/
abbrev svE (w : World) : Obj := { cls := .type "set", dict := none, data := .set #[] 0 (.fresh 0 0 (!w.params.followText "set-order")) }
section
variable {P : Program} {w : World} {A : Around} {E : Value → Shared → Prop} {s : Shared}
/-- what a call of set tells: the new address, a set of these numbers -/
abbrev SvMade (w : World) (s : Shared) (ns : List Int) (h' : Heap) (c : Nat) : Prop := SetR w h' s.heap.objs.size (fun j => decide (j ∈ ns)) c ∧ c ≤ ns.length ∧ ∀ b o, s.heap.get? b = some o → h'.get? b = some o
theorem sv_init {l : Addr} {items : Array Value} (ns : List Int) (hh : A.handled = none) (hl : s.heap.IsList l items) (hit : IntsAre items.toList ns) (hb : ns.length + 1 < scanBound) :
    codeAny (model P w) A (.call (.builtin "set.__init__") ⟨[.ref s.heap.objs.size, .ref l], []⟩) (wants (fun r s₂ => r = .none ∧ ∃ h' tk c, s₂ = { s with heap := h', toks := tk } ∧ SvMade w s ns h' c) E) { s with heap := s.heap.push (svE w) } := by
  have hisz : items.size = ns.length := by have q := IntsAre.length hit; rwa [Array.length_toList] at q
  have g0 : (s.heap.push (svE w)).get? s.heap.objs.size = some (svE w) := Heap.get?_push_size _ rfl
  refine codeAny_call_builtin F.called_set.init.plain F.entry_set_init (check_set_init_1 ⟨_, g0, rfl⟩ ?_)
  obtain ⟨⟨oc, od, odt, os⟩, hol, hcl, nl, hdl⟩ := hl
  simp only at hcl hdl; subst hcl; subst hdl
  have hol' : (s.heap.push (svE w)).get? l = some { cls := .type "list", dict := od, data := .seq items nl, slots := os } := Heap.get?_push_of_some _ hol
  have k1 := F.sub_list_set; have k2 := F.sub_list_frozenset; have k3 : (Value.type "list" == Value.type "dict") = false := by decide
  have hl1 : (s.heap.push (svE w)).IsList l items := ⟨_, hol', rfl, nl, rfl⟩
  unfold Builtin.«set.__init__» noKeywords Builtin.Frozenset.updateFrom; generalize hPI : pyIter = PI; wp_walk; subst hPI
  refine wpAny_pyIter_list hl1 (wpAny_bind (wpAny_runValue ?_))
  have lt : l < s.heap.objs.size := Heap.lt_size hol
  have hz : (s.heap.push (svE w)).objs.size = s.heap.objs.size + 1 := Heap.size_push ..
  have n1 : l ≠ (s.heap.push (svE w)).objs.size := by rw [hz]; exact Nat.ne_of_lt (Nat.lt_succ_of_lt lt)
  have n3 : ∀ b, b < s.heap.objs.size → b ≠ s.heap.objs.size ∧ b ≠ (s.heap.push (svE w)).objs.size := fun b hb => ⟨Nat.ne_of_lt hb, by rw [hz]; exact Nat.ne_of_lt (Nat.lt_succ_of_lt hb)⟩
  have n2 : s.heap.objs.size ∉ [(s.heap.push (svE w)).objs.size, l] := fun z => by
    rcases List.mem_cons.mp z with z | z
    · rw [hz] at z
      exact Nat.ne_of_lt (Nat.lt_succ_self _) z
    · exact (Nat.ne_of_lt lt) (List.mem_singleton.mp z).symm
  have hval : ∀ (i : Nat) (v : Value), items[i]? = some v → ∃ k t, ns[i]? = some k ∧ v = .int k t := fun i v hv => by
    have hi : i < ns.length := by rw [← hisz]; exact (Array.getElem?_eq_some_iff.mp hv).1
    obtain ⟨t, e⟩ := IntsAre.int_at hit i v (by rwa [Array.getElem?_toList])
    rw [List.getD_eq_getElem?_getD, List.getElem?_eq_getElem hi] at e
    exact ⟨ns[i], t, List.getElem?_eq_getElem hi, e⟩
  refine set_update_ints ((Walks.list (by simp [hh]) _ l n1 items).toS) s.heap.objs.size n2 ns hisz hb hval (items.size - 0) 0 _ (by omega) (Nat.zero_le _) ⟨⟨_, Heap.get?_push_size _ rfl, rfl, rfl⟩, hl1.push _⟩ ⟨0, Nat.le_refl 0, setR_new_at (Heap.get?_push_of_some _ g0)⟩ fun s' c' hm hc' hS' => ?_
  obtain ⟨h', g2, d', tk', o'⟩ := s'
  have eg : g2 = s.gens := hm.gens; have ed : d' = s.drawn := hm.drawn; have eo : o' = s.os := hm.os
  subst eg; subst ed; subst eo
  show wpAny _ _ _ _ _ _; refine wpAny_pure ?_; show wpAny _ _ (ret Value.none) _ _ _
  rw [hisz] at hc'
  refine wpAny_pure ⟨rfl, h', tk', c', rfl, hS', hc', fun b o e => ?_⟩
  have b0 : b < s.heap.objs.size := Heap.lt_size e
  refine hm.heap b o (fun z => ?_) (Heap.get?_push_of_some _ (Heap.get?_push_of_some _ e))
  rcases List.mem_cons.mp z with z | z
  · exact (n3 b b0).1 z
  · exact (n3 b b0).2 (List.mem_singleton.mp z)
theorem sv_set {l : Addr} {items : Array Value} (ns : List Int) {Q : Value → Shared → Prop} (hh : A.handled = none) (hl : s.heap.IsList l items) (hit : IntsAre items.toList ns) (hb : ns.length + 1 < scanBound)
    (h : ∀ (h' : Heap) (tk c : Nat), SvMade w s ns h' c → Q (.ref s.heap.objs.size) { s with heap := h', toks := tk }) : wpAny (model P w) A (call (.type "set") [.ref l]) Q E s := by
  obtain ⟨c0, tl0, hm1⟩ := F.called_set.mro; have hm2 := F.called_set.made; have hm3 := F.called_set.sub
  refine wpAny_call (codeAny_of_tree ?_); show wpAny _ _ (callAny (.type "set") _) _ _ _
  refine wpAny_pure ⟨Code.quiet_builtin _ (by decide +kernel), codeAny_builtin F.entry_type_call ?_⟩; rw [Around.under_plain (weight_type_call_type "set" [.ref l] []) rfl]
  have q1 := F.called_set.notType; have q2 := F.called_set.canCreate; have q3 := F.typeCall_set_1 (.ref l)
  repeat (any_goals (first | wp_step | assumption))
  refine codeAny_mono (code_set_led1 (.ref l) (E := E) (Q₁ := fun obj s₁ => obj = .ref s.heap.objs.size ∧ s₁ = { s with heap := s.heap.push (svE w) }) ⟨rfl, rfl⟩) fun r s₁ hr => ?_
  match r, hr with
  | .error _, hr => exact hr
  | .ok (.ret obj), hr =>
    obtain ⟨rfl, rfl⟩ := hr
    have hT : Shared.TypeIs { s with heap := s.heap.push (svE w) } (.ref s.heap.objs.size) "set" := ⟨_, Heap.get?_push_size _ rfl, rfl⟩
    have q4 := F.called_set.init.lookup; have q5 := F.called_set.init.bind (.ref s.heap.objs.size)
    repeat (any_goals (first | wp_step | assumption))
    refine codeAny_mono (sv_init (A := _) (E := E) ns (by simp [hh]) hl hit hb) fun r₂ s₂ hr₂ => ?_
    match r₂, hr₂ with
    | .error _, hr₂ => exact hr₂
    | .ok (.ret r), hr₂ =>
      obtain ⟨rfl, h', tk, c', rfl, hm⟩ := hr₂
      repeat (any_goals (first | wp_step | assumption))
      exact h _ _ _ hm
end
end Lag

set_option maxRecDepth 100000
set_option maxHeartbeats 8000000
namespace Lag
open PySem PySem.Spec PyProof.Rows L2 SrtO
section
variable {P : Program} {w : World} {A : Around} {E : Value → Shared → Prop} {s : Shared} {a : Addr}
/-- sorted of a set of whole numbers, any number of them -/
theorem sv_sorted {S : Int → Bool} {n : Nat} {Q : Value → Shared → Prop} (R : SetR w s.heap a S n) (hh : A.handled = none)
    (hQ : ∀ s' p (out : Array Value) (c : Nat) (ns : List Int), (∀ b o, s.heap.get? b = some o → s'.heap.get? b = some o) ∧ s'.gens = s.gens ∧ s'.os = s.os ∧ s.heap.objs.size ≤ p ∧
      s'.heap.get? p = some (seqObj "list" out c) ∧ IntsAre out.toList ns ∧ ns.Pairwise (· < ·) ∧ (∀ k, k ∈ ns ↔ S k = true) ∧ ns.length = n → Q (.ref p) s') : wpAny (model P w) A (call (.builtin "sorted") [.ref a]) Q E s := by
  obtain ⟨o, es, ep, t, ho, hex, hd, g, nd, hm, hb, hf, hn, hr, hl⟩ := R
  refine Calls.call_function_entry kind_sorted plain_sorted entry_sorted (args_sorted1 _) ?_; unfold Builtin.«sorted»
  refine wpAny_bind (m := checkCount "sorted" 1 1 _) (wpAny_pure (wpAny_bind (collect_set (A := A.in1) hh ⟨o, ho, hex.1, hd⟩ hf hb hr hl fun s1 vs k1 hz g1 o1 pm => ?_)))
  have vl : vs.length = n := by rw [pm.length_eq, List.length_map, Array.length_toList, hn]
  have vz : vs.length ≤ sizeLine := by rw [vl, ← hn, sizeLine_eq]; unfold scanBound at hb; omega
  have hI : IntsAre vs (vs.map iv) := ints_iv fun v hv => by
    obtain ⟨e, he, q⟩ := List.mem_map.mp (pm.mem_iff.mp hv); obtain ⟨k, tk, h1, _⟩ := g e he
    exact ⟨k, tk, by rw [← q]; exact h1⟩
  have pk : (vs.map iv).Perm (es.toList.map keyOf) := by
    have q := pm.map iv; rw [List.map_map] at q
    refine q.trans (List.Perm.of_eq (List.map_congr_left fun e he => ?_)); obtain ⟨k, tk, h1, _⟩ := g e he
    show iv e.2 = keyOf e
    unfold keyOf; rw [h1]; rfl
  refine wpAny_bind (wpAny_newList ?_ vz)
  have hoL : (s1.heap.push (seqObj "list" vs.toArray 0)).get? s1.heap.objs.size = some (seqObj "list" vs.toArray 0) := Heap.get?_push_size _ rfl
  refine wpAny_bind (wpAny_holding (wpAny_call_entry slot_list_sort ⟨_, hoL, rfl⟩ entry_list_sort (list_sort_ord swo_int hoL vz (fun h2 => ints_sortable hI h2) fun out hs hb2 => ⟨_, rfl, wpAny_pure ⟨_, rfl, ?_⟩⟩) (args_list_sort _)))
  obtain ⟨j1, j2, j3⟩ := ints_out hI hs hb2
  obtain ⟨c, hc⟩ := sortedHeap_at (vs := vs) (out := out.toArray) hoL
  have pn : (out.map iv).Perm (es.toList.map keyOf) := j2.trans pk
  refine hQ _ s1.heap.objs.size out.toArray c (out.map iv) ⟨fun b u e => ?_, g1, o1, hz, hc, j1, lt_of_le_nodup _ j3 (pn.nodup_iff.mpr nd), fun k => by rw [pn.mem_iff, ← hm k], by rw [pn.length_eq, List.length_map, Array.length_toList]; exact hn⟩
  have q := k1 b u e; have lt := Heap.lt_size q
  show (sortedHeap (s1.heap.push (seqObj "list" vs.toArray 0)) s1.heap.objs.size vs out.toArray).get? b = some u
  rw [sortedHeap_old (Nat.ne_of_lt lt) (by rw [size_push']; exact Nat.lt_succ_of_lt lt)]
  exact Heap.get?_push_of_some _ q
end
/-- sorted(set(xs)) -/
def tSortSet (K : PySem.W.Frag) (ta : TE) : TE := fun σ H Q => ta σ H fun x H1 => ∃ (l : Addr) (ns : List Int), x = .ref l ∧ SqL K H1 l (ns.map V.int) ∧ ns.length ≤ 4000 ∧
  ∀ (ns' : List Int) (p : Addr), ns'.Pairwise (· < ·) → (∀ k, k ∈ ns' ↔ k ∈ ns) → H1 p = none → Q (.ref p) (upd H1 p (.lst (ns'.map V.int)))
theorem pe_sortSet {X : Cx} {a : Expr} {ta : TE} {p p2 q pos : Pos} (g1 : Gl X "sorted") (m1 : X.mg "sorted" = none) (g2 : Gl X "set") (m2 : X.mg "set" = none) (ha : PE X a ta) (bs : bootBuiltins "sorted" = some (.builtin "sorted")) (hc : X.calm = true := by rfl)
    (na : starEach [a] X.env = (false, eval a X.env) :: starEach [] X.env := by rfl) : PE X (.Call (.Name "sorted" p) [.Call (.Name "set" p2) [a] [] q] [] pos) (tSortSet X.K ta) := by
  refine ⟨fun pins s σ H Q I h => Call_ (ld_blt I g1 m1 bs (callWith_builtin1 (args_cons (Call_ (ld_blt I g2 m2 boot_set (callWith_type1 (args_cons (thn (ha.run pins s σ H _ I h) fun v s1 ⟨x, H1, I1, r1, q1⟩ => args_nil ?_) na) na rfl))) rfl) rfl rfl))⟩
  obtain ⟨l, ns, rfl, hq, hl, q1⟩ := q1
  cases r1
  obtain ⟨its, r, pl, hz⟩ := I1.list hq
  refine sv_set ns (I1.ok.hd hc) pl.isList (by simpa using RZ.intsAre_vals r) (by unfold scanBound; omega) fun h' tk c ⟨R, hcn, hk⟩ => args_nil ?_
  have I2 : Inv X pins σ H1 { s1 with heap := h', toks := tk } := I1.kept fun b o e => hk b o e
  have R2 : SetR X.w ({ s1 with heap := h', toks := tk } : Shared).heap s1.heap.objs.size (fun j => decide (j ∈ ns)) c := R
  have hlt := R.lt
  show wpAny _ _ _ _ _ ({ s1 with heap := h', toks := tk } : Shared)
  generalize ({ s1 with heap := h', toks := tk } : Shared) = s2 at I2 R2
  refine sv_sorted R2 (I2.ok.hd hc) fun s' p out c ns' ⟨k, g, o, hp, hg, hi, hs, hm, hln⟩ => ?_
  have hlen : (ns'.map V.int).length ≤ sizeLine := by rw [List.length_map, hln, sizeLine_eq]; omega
  have hn : H1 p = none := I2.hok.fresh hp
  have J : Inv X pins σ (upd H1 p (.lst (ns'.map V.int))) { s2 with heap := s'.heap, gens := s'.gens, drawn := s'.drawn, toks := s'.toks } :=
    I2.call (ch := []) (Un.laid k hp hn) (I2.hok.laid k hp ⟨hlen, out.toList, c, vals_of_ints hi, hg⟩) (by rw [g]; exact I2.bare) (fun _ z => nomatch z)
  have e : s' = { s2 with heap := s'.heap, gens := s'.gens, drawn := s'.drawn, toks := s'.toks } := by
    cases s'; cases s2; cases o; rfl
  rw [e]
  exact ⟨.ref p, _, J, rfl, q1 ns' p hs (fun k => by rw [hm k, decide_eq_true_eq]) hn⟩
end Lag

set_option maxRecDepth 100000
set_option maxHeartbeats 8000000
namespace Lag
open PySem PySem.Spec PyProof.Rows L2
def endsB (gs : List Gt) (ws : List Wr) (s : Nat) : List Nat := (List.range gs.length).filter fun e => (best gs ws s e).isSome
def rowB (gs : List Gt) (ws : List Wr) (s e : Nat) : List Int := [((s : Nat) : Int), ((e : Nat) : Int), ((best gs ws s e).getD (0, 0)).1, -((best gs ws s e).getD (0, 0)).2]
def rowsB (gs : List Gt) (ws : List Wr) (s : Nat) : List (List Int) := (endsB gs ws s).map (rowB gs ws s)
def betL (gs : List Gt) (ws : List Wr) (n : Nat) : List (List Int) := (List.range n).flatMap (rowsB gs ws)
theorem betL_succ (gs : List Gt) (ws : List Wr) (n : Nat) : betL gs ws (n + 1) = betL gs ws n ++ rowsB gs ws n := by
  unfold betL
  rw [List.range_succ, List.flatMap_append, List.flatMap_cons, List.flatMap_nil, List.append_nil]
theorem betL_len (gs : List Gt) (ws : List Wr) : ∀ n, (betL gs ws n).length ≤ n * gs.length
  | 0 => Nat.zero_le _
  | n + 1 => by
    rw [betL_succ, List.length_append, Nat.add_mul, Nat.one_mul]
    have h1 := betL_len gs ws n
    have h2 : (rowsB gs ws n).length ≤ gs.length := by
      unfold rowsB endsB
      rw [List.length_map]
      have := List.length_filter_le (fun e => (best gs ws n e).isSome) (List.range gs.length)
      rw [List.length_range] at this
      exact this
    omega
theorem all2_app' {α β : Type} {R : α → β → Prop} {xs xs' : List α} {ys ys' : List β} (h : All2 R xs ys) (h' : All2 R xs' ys') : All2 R (xs ++ xs') (ys ++ ys') := by
  refine ⟨by rw [List.length_append, List.length_append, h.1, h'.1], fun i x y hx hy => ?_⟩
  by_cases hi : i < xs.length
  · rw [List.getElem?_append_left hi] at hx
    rw [List.getElem?_append_left (by rw [← h.1]; exact hi)] at hy
    exact h.2 i x y hx hy
  · rw [List.getElem?_append_right (by omega)] at hx
    rw [List.getElem?_append_right (by rw [← h.1]; omega), ← h.1] at hy
    exact h'.2 _ x y hx hy
/-- a tuple of numbers -/
def RowT (K : PySem.W.Frag) (H : Hp) (v : V) (r : List Int) : Prop := ∃ a, v = .ref a ∧ SqT K H a (r.map V.int)
theorem RowT.tk {K : PySem.W.Frag} {H H' : Hp} {v : V} {r : List Int} (t : TK H H') (h : RowT K H v r) : RowT K H' v r := by
  obtain ⟨a, e, s⟩ := h
  exact ⟨a, e, t.seq s⟩
theorem sorted_uniq : ∀ {l l' : List Nat}, l.Perm l' → l.Pairwise (· ≤ ·) → l'.Pairwise (· ≤ ·) → l = l'
  | [], l', p, _, _ => (List.nil_perm.mp p).symm
  | a :: l, [], p, _, _ => absurd (List.perm_nil.mp p) (by simp)
  | a :: l, b :: l', p, h, h' => by
    obtain ⟨h1, h2⟩ := List.pairwise_cons.mp h
    obtain ⟨k1, k2⟩ := List.pairwise_cons.mp h'
    have e : a = b := by
      have m1 := p.mem_iff.mp (List.mem_cons_self (a := a) (l := l))
      have m2 := p.mem_iff.mpr (List.mem_cons_self (a := b) (l := l'))
      rcases List.mem_cons.mp m1 with m1 | m1
      · exact m1
      · rcases List.mem_cons.mp m2 with m2 | m2
        · exact m2.symm
        · have := h1 b m2
          have := k1 a m1
          omega
    subst e
    rw [sorted_uniq ((List.perm_cons a).mp p) h2 k2]
theorem range_sorted : ∀ n, (List.range n).Pairwise (· ≤ ·) := fun n => by
  rw [List.pairwise_iff_getElem]
  intro i j hi hj hij
  rw [List.getElem_range, List.getElem_range]
  omega
theorem ends_uniq {gs : List Gt} {ws : List Wr} {s : Nat} {es ks : List Nat} (N : NetOk gs ws) (hs : s < gs.length) (hp : es.Perm ks) (hnd : ks.Nodup) (hmem : ∀ g, g ∈ ks ↔ ∃ c, best gs ws s g = some c) (hso : es.Pairwise (· ≤ ·)) : es = endsB gs ws s := by
  refine sorted_uniq ?_ hso (by unfold endsB; exact (range_sorted _).filter _)
  unfold endsB
  rw [List.perm_ext_iff_of_nodup (hp.nodup_iff.mpr hnd) (List.nodup_range.filter _)]
  intro g
  rw [hp.mem_iff, hmem, List.mem_filter, List.mem_range]
  constructor
  · rintro ⟨c, hc⟩
    exact ⟨best_lt N hs hc, by rw [hc]; rfl⟩
  · rintro ⟨_, h⟩
    cases e : best gs ws s g with
    | none => rw [e] at h; cases h
    | some c => exact ⟨c, rfl⟩
theorem mem_betL {gs : List Gt} {ws : List Wr} {r : List Int} : ∀ {n : Nat}, r ∈ betL gs ws n ↔ ∃ s e c, s < n ∧ e < gs.length ∧ best gs ws s e = some c ∧ r = [((s : Nat) : Int), ((e : Nat) : Int), c.1, -c.2] := fun {n} => by
  unfold betL
  rw [List.mem_flatMap]
  constructor
  · rintro ⟨s, hs, hr⟩
    unfold rowsB at hr
    obtain ⟨e, he, rfl⟩ := List.mem_map.mp hr
    unfold endsB at he
    obtain ⟨h1, h2⟩ := List.mem_filter.mp he
    cases hc : best gs ws s e with
    | none => rw [hc] at h2; cases h2
    | some c => exact ⟨s, e, c, List.mem_range.mp hs, List.mem_range.mp h1, hc, by unfold rowB; rw [hc]; rfl⟩
  · rintro ⟨s, e, c, h1, h2, h3, rfl⟩
    refine ⟨s, List.mem_range.mpr h1, List.mem_map.mpr ⟨e, List.mem_filter.mpr ⟨List.mem_range.mpr h2, by rw [h3]; rfl⟩, ?_⟩⟩
    unfold rowB
    rw [h3]
    rfl
theorem IsWait.nn {gs : List Gt} {ws : List Wr} {m : Int} (N : NetOk gs ws) (h : IsWait gs ws m) : 0 ≤ m := by
  obtain ⟨s, e, c, hs, hc, rfl⟩ := h
  obtain ⟨ps, _, h2⟩ := best_way hc
  rw [h2]
  have := gw_nn N s
  have := pws_nn N ps
  show 0 ≤ - -pwt gs ws s ps
  unfold pwt
  omega
def spBetween (K : PySem.W.Frag) (C : Addr) : Sp := fun vs H Q _ => ∃ (p ng nw : Addr) (gs : List Gt) (ws : List Wr), vs = [.ref p] ∧ NetAt K C H p ng nw gs ws ∧ NetOk gs ws ∧
  ∀ (l : Addr) (tv : List V) (H' : Hp), Same H H' → H l = none → H' l = some (.lst tv) → All2 (RowT K H') tv (betL gs ws gs.length) → Q (.ref l) H'
def spLeastBeat (K : PySem.W.Frag) (C : Addr) : Sp := fun vs H Q _ => ∃ (p ng nw : Addr) (gs : List Gt) (ws : List Wr), vs = [.ref p] ∧ NetAt K C H p ng nw gs ws ∧ NetOk gs ws ∧ gs.length ≤ 60 ∧
  ∀ (t l : Addr) (B : Int) (L : Nat → Int) (H' : Hp), Same H H' → H' t = some (.tup [.int B, .ref l]) → H l = none → H' l = some (.lst ((lagsL gs L).map V.int)) → IsLeast gs ws B → Feas gs ws B L → (∀ g, g < gs.length → -101 ≤ L g ∧ L g ≤ 101) → 0 ≤ B → Q (.ref t) H'
section
variable {P : Program} {w : World} {K : PySem.W.Frag} {mg : Str → Option Value} {base : Heap}
abbrev nBetween : List Str := ["net", "told", "start", "known", "last", "end"]
abbrev DBetween (P : Program) (w : World) (K : PySem.W.Frag) (mg : Str → Option Value) (base : Heap) (C : Addr) := Df P w K mg base 2 "between" ["net"] (spBetween K C)
abbrev nLeastBeat : List Str := ["net", "start", "end", "many", "wait", "waits", "low", "high", "middle"]
abbrev DLeastBeat (P : Program) (w : World) (K : PySem.W.Frag) (mg : Str → Option Value) (base : Heap) (C : Addr) := Df P w K mg base 5 "least_beat" ["net"] (spLeastBeat K C)
end
end Lag

set_option maxRecDepth 100000
set_option maxHeartbeats 8000000
namespace Lag
open PySem PySem.Spec PyProof.Rows L2
/-! ### how great a least beat is; a ring bounds the beat (as in drafts/k84/U1) -/
theorem Wk.bd {gs : List Gt} {ws : List Wr} {s : Nat} (N : NetOk gs ws) {vs : List Nat} {g : Nat} {c : Cst} (h : Wk gs ws s vs g c) : -c.2 ≤ 100 * (vs.length : Int) := by
  have w : ∀ g, gw gs g ≤ 100 := fun g => by
    unfold gw
    rw [List.getD_eq_getElem?_getD]
    cases e : gs[g]? with
    | none => show (0 : Int) ≤ 100; decide
    | some x => exact (N.gok x (List.mem_of_getElem? e)).2.2.1
  induction h with
  | nil =>
    have := w s
    show - -gw gs s ≤ 100 * 1
    omega
  | @cons vs v c x _ _ _ ih =>
    have := w x.2.1
    rw [List.length_cons]
    show -(c.2 - gw gs x.2.1) ≤ _
    omega
theorem best_bd {gs : List Gt} {ws : List Wr} {s g : Nat} {c : Cst} (N : NetOk gs ws) (hs : s < gs.length) (h : best gs ws s g = some c) : -c.2 ≤ 10000 := by
  obtain ⟨ρ, hρ⟩ := N.rank
  obtain ⟨vs, hv⟩ := Snd.rnds (gs := gs) (ws := ws) (s := s) gs.length g c h
  obtain ⟨vs', c', h1, h2, h3⟩ := hv.simple hρ
  have hl := svNodup_le h2 (h1.lows N hs)
  obtain ⟨o, ho, h4⟩ := h1.comp gs.length (by omega)
  have e : o = c := by
    have : best gs ws s g = some o := ho
    rw [h] at this
    exact (Option.some.inj this).symm
  subst e
  have e := leC.anti h4 h3
  subst e
  have := h1.bd N
  have := N.gl
  omega
theorem IsLeast.bd {gs : List Gt} {ws : List Wr} {B : Int} (N : NetOk gs ws) (h : IsLeast gs ws B) : B ≤ 10000 := by
  obtain ⟨L, hL⟩ := h.ex
  obtain ⟨m, hm, ⟨s, e, c, hs, hc, rfl⟩, hf⟩ := hL.tight N
  have := h.le ⟨L, hf⟩
  have := best_bd N hs hc
  omega
/-- the wait of a ring, by its registers -/
theorem Feas.ring {gs : List Gt} {ws : List Wr} {b : Int} {L : Nat → Int} (N : NetOk gs ws) (h : Feas gs ws b L) {r : List Nat} {g : Nat} (hr : Pw ws g r g) (hg : g < gs.length) : pws gs ws r ≤ b * prg ws r := by
  have ex : ∀ g, ∃ m : Int, g < gs.length → (∃ s ps, s < gs.length ∧ Pw ws s ps g ∧ (∀ p ∈ ps, cntF ws L p = 0) ∧ m = pwt gs ws s ps) ∧ ∀ s ps, s < gs.length → Pw ws s ps g → (∀ p ∈ ps, cntF ws L p = 0) → pwt gs ws s ps ≤ m := fun g => by
    by_cases hg : g < gs.length
    · obtain ⟨m, h1, h2⟩ := max_ex (P := fun v => ∃ s ps, s < gs.length ∧ Pw ws s ps g ∧ (∀ p ∈ ps, cntF ws L p = 0) ∧ v = pwt gs ws s ps) (b := b) (fun v ⟨s, ps, hs, hp, hz, e⟩ => by rw [e]; exact h.wt s ps g hs hp hz) _ (pwt gs ws g []) ⟨g, [], hg, rfl, (fun p hp => nomatch hp), rfl⟩ (Nat.le_refl _)
      exact ⟨m, fun _ => ⟨h1, fun s ps hs hp hz => h2 _ ⟨s, ps, hs, hp, hz, rfl⟩⟩⟩
    · exact ⟨0, fun z => absurd z hg⟩
  obtain ⟨A, hA⟩ := Classical.axiomOfChoice ex
  have ge : ∀ g, g < gs.length → gw gs g ≤ A g := fun g hg => by
    have := (hA g hg).2 g [] hg rfl (fun p hp => nomatch hp)
    unfold pwt at this
    rw [pws_nil] at this
    omega
  have le : ∀ g, g < gs.length → A g ≤ b := fun g hg => by
    obtain ⟨s, ps, hs, hp, hz, e⟩ := (hA g hg).1
    rw [e]
    exact h.wt s ps g hs hp hz
  have hb : 0 ≤ b := by
    have := gw_nn N g
    have := ge g hg
    have := le g hg
    omega
  have one : ∀ x ∈ ws, gw gs x.2.1 ≤ A x.2.1 - A x.1 + b * (((x.2.2.length : Nat) : Int) + L x.2.1 - L x.1) := fun x hx => by
    have W := N.wok x hx
    obtain ⟨p, hp⟩ := List.getElem?_of_mem hx
    have h0 := h.lt x hx
    rcases Int.lt_or_le 0 (((x.2.2.length : Nat) : Int) + L x.2.1 - L x.1) with h1 | h1
    · have h2 := ge _ W.e
      have h3 := le _ W.s
      have h4 := Int.mul_le_mul_of_nonneg_left (show (1 : Int) ≤ ((x.2.2.length : Nat) : Int) + L x.2.1 - L x.1 by omega) hb
      omega
    · have e : ((x.2.2.length : Nat) : Int) + L x.2.1 - L x.1 = 0 := by omega
      rw [e, Int.mul_zero]
      obtain ⟨s, ps, hs, hpw, hz, eA⟩ := (hA _ W.s).1
      have h2 := (hA _ W.e).2 s (ps ++ [p]) hs (hpw.snoc hp rfl) fun q hq => by
        rcases List.mem_append.mp hq with hq | hq
        · exact hz q hq
        · rw [List.mem_singleton.mp hq, cntF_get hp]
          exact e
      unfold pwt at h2 eA
      rw [pws_snoc hp] at h2
      omega
  have all : ∀ {r : List Nat} {s e : Nat}, Pw ws s r e → pws gs ws r ≤ A e - A s + b * (prg ws r + L e - L s) := by
    intro r
    induction r with
    | nil =>
      intro s e h
      have h : s = e := h
      rw [h, pws_nil, prg_nil]
      have : b * (0 + L e - L e) = 0 := by
        have : 0 + L e - L e = 0 := by omega
        rw [this, Int.mul_zero]
      omega
    | cons p r ih =>
      intro s e ⟨x, h1, h2, h3⟩
      have h4 := ih h3
      have h5 := one x (List.mem_of_getElem? h1)
      rw [pws_cons h1, prg_cons h1, ← h2]
      have e1 : b * (((x.2.2.length : Nat) : Int) + prg ws r + L e - L x.1) = b * (((x.2.2.length : Nat) : Int) + L x.2.1 - L x.1) + b * (prg ws r + L e - L x.2.1) := by
        rw [← Int.mul_add]
        congr 1
        omega
      omega
  have h1 := all hr
  have e : prg ws r + L g - L g = prg ws r := by omega
  rw [e] at h1
  omega
end Lag

set_option maxRecDepth 100000
set_option maxHeartbeats 8000000
namespace Lag
open PySem PySem.Spec PyProof.Rows L2
/-! ### pieces and their ends -/
def endW (ws : List Wr) (s : Nat) (ps : List Nat) : Nat := ps.foldl (fun _ p => (svW ws p).2.1) s
theorem endW_of {ws : List Wr} : ∀ {ps : List Nat} {s e : Nat}, Pw ws s ps e → endW ws s ps = e
  | [], s, e, h => h
  | p :: r, s, e, ⟨x, hx, hs, h3⟩ => by
    show endW ws (svW ws p).2.1 r = e
    rw [svW_get hx]
    exact endW_of h3
abbrev endsF (ws : List Wr) (pc : Pce) : Nat × Nat := (pc.1, endW ws pc.1 pc.2)
theorem jn_at {gs : List Gt} {ws : List Wr} : ∀ {pcs : List Pce} {s e : Nat}, Jn gs ws s pcs e → ∀ k pc, pcs[k]? = some pc → (k = 0 → spotF gs pc.1 = s) ∧ (∀ pc', pcs[k + 1]? = some pc' → spotF gs (endW ws pc.1 pc.2) = spotF gs pc'.1) ∧ (pcs[k + 1]? = none → spotF gs (endW ws pc.1 pc.2) = e)
  | [], s, e, _, k, pc, h => by cases h
  | qc :: r, s, e, ⟨h1, h2, m, h3, h4⟩, k, pc, h => by
    cases k with
    | zero =>
      cases h
      rw [endW_of h3]
      refine ⟨fun _ => h1, fun pc' h' => ?_, fun h' => ?_⟩
      · have h' : r[0]? = some pc' := h'
        exact ((jn_at h4 0 pc' h').1 rfl).symm
      · have h' : r[0]? = none := h'
        have : r = [] := List.length_eq_zero_iff.mp (by have := List.getElem?_eq_none_iff.mp h'; omega)
        subst this
        exact h4
    | succ k =>
      obtain ⟨a, b, c⟩ := jn_at h4 k pc h
      exact ⟨fun z => (by cases z), b, c⟩
/-- pieces in a ring: each ends at the spot where the next one begins -/
def Ringed (gs : List Gt) (es : List (Nat × Nat)) : Prop := ∀ k e, es[k]? = some e → ∃ e', es[(k + 1) % es.length]? = some e' ∧ spotF gs e.2 = spotF gs e'.1
theorem jn_ringed {gs : List Gt} {ws : List Wr} {pcs : List Pce} {v : Nat} (h : Jn gs ws v pcs v) : Ringed gs (pcs.map (endsF ws)) := by
  intro k e hk
  rw [List.getElem?_map] at hk
  cases hp : pcs[k]? with
  | none => rw [hp] at hk; cases hk
  | some pc =>
    rw [hp] at hk
    cases hk
    have hkl : k < pcs.length := (List.getElem?_eq_some_iff.mp hp).1
    obtain ⟨_, h2, h3⟩ := jn_at h k pc hp
    rw [List.length_map, List.getElem?_map]
    by_cases hl : k + 1 < pcs.length
    · rw [Nat.mod_eq_of_lt hl, List.getElem?_eq_getElem hl]
      exact ⟨_, rfl, h2 _ (List.getElem?_eq_getElem hl)⟩
    · have e1 : k + 1 = pcs.length := by omega
      have h0 : 0 < pcs.length := by omega
      rw [e1, Nat.mod_self, List.getElem?_eq_getElem h0]
      refine ⟨_, rfl, ?_⟩
      have z1 := h3 (List.getElem?_eq_none (by omega))
      have z2 := (jn_at h 0 _ (List.getElem?_eq_getElem h0)).1 rfl
      show spotF gs (endW ws pc.1 pc.2) = spotF gs pcs[0].1
      rw [z1, z2]
theorem at_last {xs : List V} {v : V} {j : Nat} (h : xs.length = j + 1) (hv : xs[j]? = some v) : atI xs (-1) = some v := by
  unfold atI ixN
  rw [if_neg (by decide), if_pos (by omega)]
  show xs[(-1 + (xs.length : Int)).toNat]? = some v
  rw [show (-1 + (xs.length : Int)).toNat = j by omega]
  exact hv
def NatsV (K : PySem.W.Frag) (H : Hp) (v : V) (e : Nat × Nat) : Prop := ∃ a, v = .ref a ∧ SqT K H a [.int ((e.1 : Nat) : Int), .int ((e.2 : Nat) : Int)]
theorem NatsV.tk {K : PySem.W.Frag} {H H' : Hp} {v : V} {e : Nat × Nat} (t : TK H H') (h : NatsV K H v e) : NatsV K H' v e := by
  obtain ⟨a, e', s⟩ := h
  exact ⟨a, e', t.seq s⟩
def spIsPiece (K : PySem.W.Frag) (C : Addr) : Sp := fun vs H Q _ => ∃ (p ng nw : Addr) (gs : List Gt) (ws : List Wr) (v : V) (pc : Pce), vs = [.ref p, v] ∧ NetAt K C H p ng nw gs ws ∧ NetOk gs ws ∧ PceV K H v pc ∧ PceOk gs ws pc ∧ ∀ H', Same H H' → Q (.bl true) H'
def spEndOf (K : PySem.W.Frag) (C : Addr) : Sp := fun vs H Q _ => ∃ (p ng nw : Addr) (gs : List Gt) (ws : List Wr) (v : V) (pc : Pce), vs = [.ref p, v] ∧ NetAt K C H p ng nw gs ws ∧ NetOk gs ws ∧ PceV K H v pc ∧ PceOk gs ws pc ∧ Q (.int ((endW ws pc.1 pc.2 : Nat) : Int)) H
def spEndsOf (K : PySem.W.Frag) (C : Addr) : Sp := fun vs H Q _ => ∃ (p ng nw : Addr) (gs : List Gt) (ws : List Wr) (v : V) (pc : Pce), vs = [.ref p, v] ∧ NetAt K C H p ng nw gs ws ∧ NetOk gs ws ∧ PceV K H v pc ∧ PceOk gs ws pc ∧ ∀ t H', Same H H' → H t = none → H' t = some (.tup [.int ((pc.1 : Nat) : Int), .int ((endW ws pc.1 pc.2 : Nat) : Int)]) → Q (.ref t) H'
def spFirstGap (K : PySem.W.Frag) (C : Addr) : Sp := fun vs H Q _ => ∃ (p ng nw le : Addr) (gs : List Gt) (ws : List Wr) (ev : List V) (es : List (Nat × Nat)), vs = [.ref p, .ref le] ∧ NetAt K C H p ng nw gs ws ∧ NetOk gs ws ∧ H le = some (.lst ev) ∧ All2 (NatsV K H) ev es ∧ (∀ e ∈ es, e.1 < gs.length ∧ e.2 < gs.length) ∧ Ringed gs es ∧ ∀ H', Same H H' → Q .non H'
/-- pieces that are a ring: told a fault only where their rooms are no less than nothing -/
def spBarFault (K : PySem.W.Frag) (C : Addr) : Sp := fun vs H Q _ => ∃ (p ng nw l : Addr) (gs : List Gt) (ws : List Wr) (b : Int) (pcs : List Pce), vs = [.ref p, .int b, .ref l] ∧ NetAt K C H p ng nw gs ws ∧ NetOk gs ws ∧ 0 ≤ b ∧ BarV K H l pcs ∧ pcs ≠ [] ∧ pcs.length ≤ 200 ∧ (∀ pc ∈ pcs, PceOk gs ws pc ∧ pc.2.length ≤ 1000) ∧ (∃ v, Jn gs ws v pcs v) ∧
  (roomsF gs ws b pcs < 0 → ∀ H', Same H H' → Q .non H') ∧ (0 ≤ roomsF gs ws b pcs → ∀ t H', Same H H' → H' t = some (.tup [.str "sum", .int (roomsF gs ws b pcs)]) → Q (.ref t) H')
theorem BarV.same {K : PySem.W.Frag} {H H' : Hp} {l : Addr} {pcs : List Pce} (s : Same H H') (h : BarV K H l pcs) : BarV K H' l pcs := by
  obtain ⟨pv, h1, h2⟩ := h
  exact ⟨pv, s _ _ h1, h2.imp fun _ _ r => r.same s⟩
section
variable {P : Program} {w : World} {K : PySem.W.Frag} {mg : Str → Option Value} {base : Heap}
abbrev nIsPiece : List Str := ["net", "thing", "gate", "wires", "place"]
abbrev DIsPiece (P : Program) (w : World) (K : PySem.W.Frag) (mg : Str → Option Value) (base : Heap) (C : Addr) := Df P w K mg base 3 "is_piece" ["net", "thing"] (spIsPiece K C)
abbrev nEndOf : List Str := ["net", "piece", "gate", "wires"]
abbrev DEndOf (P : Program) (w : World) (K : PySem.W.Frag) (mg : Str → Option Value) (base : Heap) (C : Addr) := Df P w K mg base 1 "end_of" ["net", "piece"] (spEndOf K C)
abbrev nEndsOf : List Str := ["net", "piece"]
abbrev DEndsOf (P : Program) (w : World) (K : PySem.W.Frag) (mg : Str → Option Value) (base : Heap) (C : Addr) := Df P w K mg base 2 "ends_of" ["net", "piece"] (spEndsOf K C)
end
end Lag

set_option maxRecDepth 100000
set_option maxHeartbeats 8000000
namespace Lag
open PySem PySem.Spec PyProof.Rows L2
/-! ### numbers for bounds: the mathematics of flows -/
def wsum (c : Bnd → Int) : List Bnd → List Int → Int
  | b :: bs, x :: f => c b * x + wsum c bs f
  | _, _ => 0
theorem wsum_nil (c : Bnd → Int) (f : List Int) : wsum c [] f = 0 := by cases f <;> rfl
theorem wsum_add (c : Bnd → Int) {b : Bnd} {d x : Int} : ∀ {bs : List Bnd} {f : List Int} {j : Nat}, bs[j]? = some b → f[j]? = some x → wsum c bs (f.set j (x + d)) = wsum c bs f + c b * d
  | [], f, j, h, _ => by cases h
  | b' :: bs, [], j, _, h => by cases h
  | b' :: bs, y :: f, 0, h1, h2 => by
    cases h1
    cases h2
    show c b * (x + d) + wsum c bs f = c b * x + wsum c bs f + c b * d
    rw [Int.mul_add]
    omega
  | b' :: bs, y :: f, j + 1, h1, h2 => by
    have ih := wsum_add c (d := d) (bs := bs) (f := f) (j := j) h1 h2
    show c b' * y + wsum c bs (f.set j (x + d)) = c b' * y + wsum c bs f + c b * d
    rw [ih]
    omega
theorem wsum_le {c c' : Bnd → Int} : ∀ {bs : List Bnd} {f : List Int}, (∀ b ∈ bs, c b ≤ c' b) → (∀ x ∈ f, 0 ≤ x) → wsum c bs f ≤ wsum c' bs f
  | [], f, _, _ => by rw [wsum_nil, wsum_nil]; exact Int.le_refl 0
  | b :: bs, [], _, _ => Int.le_refl 0
  | b :: bs, x :: f, h1, h2 => by
    have ih := wsum_le (bs := bs) (f := f) (fun y hy => h1 y (List.mem_cons_of_mem _ hy)) (fun y hy => h2 y (List.mem_cons_of_mem _ hy))
    have := Int.mul_le_mul_of_nonneg_right (h1 b (List.mem_cons_self ..)) (h2 x (List.mem_cons_self ..))
    show c b * x + wsum c bs f ≤ c' b * x + wsum c' bs f
    omega
theorem wsum_eq {c c' : Bnd → Int} : ∀ {bs : List Bnd} {f : List Int}, (∀ (j : Nat) (b : Bnd) (x : Int), bs[j]? = some b → f[j]? = some x → x = 0 ∨ c b = c' b) → wsum c bs f = wsum c' bs f
  | [], f, _ => by rw [wsum_nil, wsum_nil]
  | b :: bs, [], _ => rfl
  | b :: bs, x :: f, h => by
    have ih := wsum_eq (bs := bs) (f := f) (fun j b' x' h1 h2 => h (j + 1) b' x' h1 h2)
    show c b * x + wsum c bs f = c' b * x + wsum c' bs f
    rw [ih]
    rcases h 0 b x rfl rfl with e | e
    · rw [e, Int.mul_zero, Int.mul_zero]
    · rw [e]
def dF (F : Nat → Int) (b : Bnd) : Int := F b.1 - F b.2.1
def revB (b : Bnd) : Bnd := (b.2.1, b.1, -b.2.2)
/-- a function of bounds that a bound turned about has with the other sign -/
def Anti (c : Bnd → Int) : Prop := ∀ b, c (revB b) = -c b
theorem anti_dF (F : Nat → Int) : Anti (dF F) := fun b => by
  show F b.2.1 - F b.1 = -(F b.1 - F b.2.1)
  omega
theorem anti_room : Anti (fun b => b.2.2) := fun b => rfl
theorem PtB.tele {bs : List Bnd} (F : Nat → Int) : ∀ {js : List Nat} {s e : Nat}, PtB bs s js e → (js.map fun j => dF F (bAt bs j)).sum = F s - F e
  | [], s, e, h => by
    have h : s = e := h
    rw [h]
    show (0 : Int) = F e - F e
    omega
  | j :: r, s, e, ⟨b, h1, h2, h3⟩ => by
    rw [List.map_cons, List.sum_cons, bAt_get h1, PtB.tele F h3]
    show F b.1 - F b.2.1 + _ = _
    rw [h2]
    omega
/-! ### the bounds, and those with a number above 0 the other way round -/
abbrev Kpt := Bnd × Nat × Int
def KOk (bs : List Bnd) (f : List Int) (e : Kpt) : Prop := ∃ b, bs[e.2.1]? = some b ∧ ((e.2.2 = 1 ∧ e.1 = b) ∨ (e.2.2 = -1 ∧ e.1 = revB b ∧ 0 < f.getD e.2.1 0))
structure Kept (bs : List Bnd) (f : List Int) (ks : List Kpt) : Prop where
  ok : ∀ e ∈ ks, KOk bs f e
  fwd : ∀ j b, bs[j]? = some b → (b, j, 1) ∈ ks
  bwd : ∀ j b, bs[j]? = some b → 0 < f.getD j 0 → (revB b, j, -1) ∈ ks
theorem KOk.sign {bs : List Bnd} {f : List Int} {e : Kpt} (h : KOk bs f e) {c : Bnd → Int} (hc : Anti c) {b : Bnd} (hb : bs[e.2.1]? = some b) : c b * e.2.2 = c e.1 := by
  obtain ⟨b', h1, h2⟩ := h
  rw [hb] at h1
  cases h1
  rcases h2 with ⟨h3, h4⟩ | ⟨h3, h4, _⟩
  · rw [h3, h4, Int.mul_one]
  · rw [h3, h4, hc b]
    omega
theorem Kept.below {bs : List Bnd} {f : List Int} {ks : List Kpt} {n : Nat} (h : Kept bs f ks) (hb : ∀ b ∈ bs, b.1 < n ∧ b.2.1 < n) : ∀ b ∈ ks.map (fun e => e.1), b.1 < n ∧ b.2.1 < n := fun b hm => by
  obtain ⟨e, he, rfl⟩ := List.mem_map.mp hm
  obtain ⟨b, h1, h2⟩ := h.ok e he
  have := hb b (List.mem_of_getElem? h1)
  rcases h2 with ⟨_, h4⟩ | ⟨_, h4, _⟩
  · rw [h4]
    exact this
  · rw [h4]
    exact ⟨this.2, this.1⟩
theorem Kept.sat {bs : List Bnd} {f : List Int} {ks : List Kpt} (h : Kept bs f ks) {F : Nat → Int} (S : Sat (ks.map fun e => e.1) F) : Sat bs F ∧ ∀ j b, bs[j]? = some b → 0 < f.getD j 0 → F b.1 = F b.2.1 + b.2.2 := by
  have h1 : Sat bs F := fun b hb => by
    obtain ⟨j, hj⟩ := List.getElem?_of_mem hb
    exact S b (List.mem_map.mpr ⟨_, h.fwd j b hj, rfl⟩)
  refine ⟨h1, fun j b hb hp => ?_⟩
  have h2 := h1 b (List.mem_of_getElem? hb)
  have h3 := S (revB b) (List.mem_map.mpr ⟨_, h.bwd j b hb hp, rfl⟩)
  have h3 : F b.2.1 ≤ F b.1 + -b.2.2 := h3
  omega
/-- with numbers that fit: the room that the flow takes is what it leads down -/
theorem Kept.tight {bs : List Bnd} {f : List Int} {ks : List Kpt} (h : Kept bs f ks) (hf : ∀ x ∈ f, 0 ≤ x) {F : Nat → Int} (S : Sat (ks.map fun e => e.1) F) : wsum (dF F) bs f = wsum (fun b => b.2.2) bs f := by
  obtain ⟨_, h2⟩ := h.sat S
  refine wsum_eq fun j b x hb hx => ?_
  have hx0 := hf x (List.mem_of_getElem? hx)
  by_cases e : x = 0
  · exact .inl e
  · right
    have hg : f.getD j 0 = x := by rw [List.getD_eq_getElem?_getD, hx]; rfl
    have := h2 j b hb (by omega)
    show F b.1 - F b.2.1 = b.2.2
    omega
theorem Sat.cost {bs : List Bnd} {f : List Int} {F : Nat → Int} (S : Sat bs F) (hf : ∀ x ∈ f, 0 ≤ x) : wsum (dF F) bs f ≤ wsum (fun b => b.2.2) bs f := wsum_le (fun b hb => by
  have := S b hb
  show F b.1 - F b.2.1 ≤ b.2.2
  omega) hf
/-! ### a flow changed along a ring -/
def kAt (ks : List Kpt) (j : Nat) : Kpt := ks.getD j ((0, 0, 0), 0, 0)
theorem kAt_get {ks : List Kpt} {j : Nat} {e : Kpt} (h : ks[j]? = some e) : kAt ks j = e := by
  unfold kAt
  rw [List.getD_eq_getElem?_getD, h]
  rfl
theorem kAt_b {ks : List Kpt} {j : Nat} {e : Kpt} (h : ks[j]? = some e) : bAt (ks.map fun e => e.1) j = e.1 := bAt_get (by rw [List.getElem?_map, h]; rfl)
theorem PtB.js_lt {bs : List Bnd} : ∀ {js : List Nat} {s e : Nat}, PtB bs s js e → ∀ j ∈ js, j < bs.length
  | [], _, _, _, j, h => by cases h
  | i :: r, s, e, ⟨b, h1, _, h3⟩, j, h => by
    rcases List.mem_cons.mp h with e | h
    · rw [e]
      exact (List.getElem?_eq_some_iff.mp h1).1
    · exact h3.js_lt j h
/-- a ring of bounds kept -/
structure RingK (bs : List Bnd) (f : List Int) (ks : List Kpt) (js : List Nat) : Prop where
  ring : RingB (ks.map fun e => e.1) js
  nd : (js.map fun j => (bAt (ks.map fun e => e.1) j).1).Nodup
  k : Kept bs f ks
def backs (es : List Kpt) : List Kpt := es.filter fun e => decide (e.2.2 < 0)
/-- half way: after some of the ring's turns -/
structure Chg (bs : List Bnd) (f : List Int) (m : Int) (es : List Kpt) (g : List Int) : Prop where
  len : g.length = f.length
  sum : ∀ c, Anti c → wsum c bs g = wsum c bs f + m * (es.map fun e => c e.1).sum
  low : ∀ p, f.getD p 0 ≤ g.getD p 0 ∨ (f.getD p 0 - m ≤ g.getD p 0 ∧ ∃ e ∈ es, e.2.1 = p ∧ e.2.2 = -1)
theorem Chg.ini (bs : List Bnd) (f : List Int) (m : Int) : Chg bs f m [] f := ⟨rfl, fun c _ => by show _ = _ + m * 0; rw [Int.mul_zero]; omega, fun p => .inl (Int.le_refl _)⟩
theorem fgetD_set {ts : List Int} {i j : Nat} {v : Int} (h : i < ts.length) : (ts.set i v).getD j 0 = if i = j then v else ts.getD j 0 := by
  rw [List.getD_eq_getElem?_getD, List.getD_eq_getElem?_getD, List.getElem?_set]
  by_cases e : i = j
  · rw [if_pos e, if_pos e, if_pos h]
    rfl
  · rw [if_neg e, if_neg e]
theorem Chg.step {bs : List Bnd} {f g : List Int} {m : Int} {es : List Kpt} {e : Kpt} (h : Chg bs f m es g) (hm : 0 ≤ m) (hl : f.length = bs.length) (ho : KOk bs f e) (hn : e.2.2 = -1 → ∀ e' ∈ es, e'.2.1 = e.2.1 → e'.2.2 ≠ -1) : Chg bs f m (es ++ [e]) (g.set e.2.1 (g.getD e.2.1 0 + e.2.2 * m)) := by
  obtain ⟨b, hb, hd⟩ := id ho
  have hp : e.2.1 < g.length := by
    rw [h.len, hl]
    exact (List.getElem?_eq_some_iff.mp hb).1
  have hg : g[e.2.1]? = some (g.getD e.2.1 0) := by
    rw [List.getD_eq_getElem?_getD, List.getElem?_eq_getElem hp]
    rfl
  refine ⟨by rw [List.length_set]; exact h.len, fun c hc => ?_, fun p => ?_⟩
  · rw [wsum_add c hb hg, h.sum c hc, List.map_append, List.sum_append]
    have := ho.sign hc hb
    show _ + c b * (e.2.2 * m) = _ + m * (_ + (c e.1 + 0))
    rw [← this, Int.add_zero, Int.mul_add, ← Int.mul_assoc, Int.mul_comm (c b * e.2.2) m]
    omega
  · rw [fgetD_set hp]
    by_cases ep : e.2.1 = p
    · rw [if_pos ep]
      rw [ep]
      rcases hd with ⟨h1, _⟩ | ⟨h1, _, _⟩
      · rw [h1, Int.one_mul]
        rcases h.low p with h2 | ⟨h2, e', h3, h4⟩
        · exact .inl (by omega)
        · exact .inr ⟨by omega, e', List.mem_append.mpr (.inl h3), h4⟩
      · rw [h1]
        rcases h.low p with h2 | ⟨_, e', h3, h4, h5⟩
        · exact .inr ⟨by omega, e, List.mem_append.mpr (.inr (List.mem_singleton.mpr rfl)), ep, h1⟩
        · exact absurd h5 (hn h1 e' h3 (by rw [h4, ep]))
    · rw [if_neg ep]
      rcases h.low p with h2 | ⟨h2, e', h3, h4⟩
      · exact .inl h2
      · exact .inr ⟨h2, e', List.mem_append.mpr (.inl h3), h4⟩
theorem RingK.entry {bs : List Bnd} {f : List Int} {ks : List Kpt} {js : List Nat} (h : RingK bs f ks js) {j : Nat} (hj : j ∈ js) : ks[j]? = some (kAt ks j) ∧ KOk bs f (kAt ks j) := by
  obtain ⟨_, v, hp, _⟩ := h.ring
  have hl := hp.js_lt j hj
  rw [List.length_map] at hl
  have e := List.getElem?_eq_getElem hl
  rw [kAt_get e]
  exact ⟨e, h.k.ok _ (List.getElem_mem _)⟩
theorem nd_inj {α β : Type} {g : α → β} : ∀ {l : List α}, (l.map g).Nodup → ∀ {i j : Nat} {a b : α}, l[i]? = some a → l[j]? = some b → g a = g b → i = j := by
  intro l h i j a b hi hj e
  have h1 : (l.map g)[i]? = some (g a) := by rw [List.getElem?_map, hi]; rfl
  have h2 : (l.map g)[j]? = some (g a) := by rw [List.getElem?_map, hj, e]; rfl
  have li := (List.getElem?_eq_some_iff.mp h1).1
  have lj := (List.getElem?_eq_some_iff.mp h2).1
  exact (List.getElem?_inj li h).mp (h1.trans h2.symm)
/-- no bound is come by twice the other way round -/
theorem RingK.once {bs : List Bnd} {f : List Int} {ks : List Kpt} {js : List Nat} (h : RingK bs f ks js) {i j : Nat} {a b : Nat} (hi : js[i]? = some a) (hj : js[j]? = some b) (h1 : (kAt ks a).2.2 = -1) (h2 : (kAt ks b).2.2 = -1) (hp : (kAt ks a).2.1 = (kAt ks b).2.1) : i = j := by
  refine nd_inj h.nd hi hj ?_
  obtain ⟨ea, b1, g1, d1⟩ := h.entry (List.mem_of_getElem? hi)
  obtain ⟨eb, b2, g2, d2⟩ := h.entry (List.mem_of_getElem? hj)
  rw [kAt_b ea, kAt_b eb]
  rw [hp, g2] at g1
  cases g1
  rcases d1 with ⟨z, _⟩ | ⟨_, z1, _⟩
  · rw [h1] at z
    exact absurd z (by decide)
  · rcases d2 with ⟨z, _⟩ | ⟨_, z2, _⟩
    · rw [h2] at z
      exact absurd z (by decide)
    · rw [z1, z2]
theorem RingK.back {bs : List Bnd} {f : List Int} {ks : List Kpt} {js : List Nat} (h : RingK bs f ks js) {F : Nat → Int} (S : Sat bs F) : backs (js.map (kAt ks)) ≠ [] := by
  intro hb
  unfold backs at hb
  rw [List.filter_eq_nil_iff] at hb
  obtain ⟨hne, v, hp, hr⟩ := h.ring
  have all : ∀ {js' : List Nat} {s e : Nat}, (∀ j ∈ js', j ∈ js) → PtB (ks.map fun e => e.1) s js' e → F s ≤ F e + rsum (ks.map fun e => e.1) js' := by
    intro js'
    induction js' with
    | nil =>
      intro s e _ h
      have h : s = e := h
      rw [h]
      show F e ≤ F e + 0
      omega
    | cons j r ih =>
      intro s e hm ⟨bd, h1, h2, h3⟩
      have h4 := ih (fun k hk => hm k (List.mem_cons_of_mem _ hk)) h3
      have hj := hm j (List.mem_cons_self ..)
      obtain ⟨ea, b1, g1, d1⟩ := h.entry hj
      have hnb := hb (kAt ks j) (List.mem_map.mpr ⟨j, hj, rfl⟩)
      rw [rsum_cons h1]
      rw [List.getElem?_map, ea] at h1
      cases h1
      have h2 : (kAt ks j).1.1 = s := h2
      have h4 : F (kAt ks j).1.2.1 ≤ _ := h4
      show F s ≤ F e + ((kAt ks j).1.2.2 + rsum _ r)
      rcases d1 with ⟨_, z⟩ | ⟨z, _, _⟩
      · have := S b1 (List.mem_of_getElem? g1)
        rw [← z] at this
        rw [h2] at this
        omega
      · exact absurd (by rw [decide_eq_true_iff, z]; decide) hnb
  have := all (fun _ h => h) hp
  omega
theorem RingK.ksum {bs : List Bnd} {f : List Int} {ks : List Kpt} {js : List Nat} (h : RingK bs f ks js) (c : Bnd → Int) : ((js.map (kAt ks)).map fun e => c e.1).sum = (js.map fun j => c (bAt (ks.map fun e => e.1) j)).sum := by
  rw [List.map_map]
  refine congrArg List.sum (List.map_congr_left fun j hj => ?_)
  obtain ⟨ea, _⟩ := h.entry hj
  rw [kAt_b ea]
  rfl
/-- what a change along a ring does -/
structure Chgd (bs : List Bnd) (f g : List Int) : Prop where
  len : g.length = f.length
  nn : ∀ x ∈ g, 0 ≤ x
  tot : ∀ F, wsum (dF F) bs g = wsum (dF F) bs f
  cost : wsum (fun b => b.2.2) bs g < wsum (fun b => b.2.2) bs f
theorem Chg.fin {bs : List Bnd} {f g : List Int} {ks : List Kpt} {js : List Nat} {m : Int} (r : RingK bs f ks js) (hf : ∀ x ∈ f, 0 ≤ x) (hm : 0 < m) (hle : ∀ e ∈ backs (js.map (kAt ks)), m ≤ f.getD e.2.1 0) (h : Chg bs f m (js.map (kAt ks)) g) : Chgd bs f g := by
  obtain ⟨hne, v, hp, hr⟩ := r.ring
  refine ⟨h.len, fun x hx => ?_, fun F => ?_, ?_⟩
  · obtain ⟨p, hx⟩ := List.getElem?_of_mem hx
    have hg : g.getD p 0 = x := by rw [List.getD_eq_getElem?_getD, hx]; rfl
    have hpl : p < f.length := by rw [← h.len]; exact (List.getElem?_eq_some_iff.mp hx).1
    have h0 : 0 ≤ f.getD p 0 := by
      rw [List.getD_eq_getElem?_getD, List.getElem?_eq_getElem hpl]
      exact hf _ (List.getElem_mem _)
    rcases h.low p with h1 | ⟨h1, e, he, h2, h3⟩
    · omega
    · have := hle e (List.mem_filter.mpr ⟨he, by rw [decide_eq_true_iff, h3]; decide⟩)
      rw [h2] at this
      omega
  · rw [h.sum _ (anti_dF F), r.ksum, hp.tele F, Int.sub_self, Int.mul_zero, Int.add_zero]
  · have e : ((js.map (kAt ks)).map fun e => e.1.2.2).sum = (js.map fun j => (bAt (ks.map fun e => e.1) j).2.2).sum := r.ksum fun b => b.2.2
    rw [h.sum _ anti_room, e]
    have : m * (js.map fun j => (bAt (ks.map fun e => e.1) j).2.2).sum < 0 := Int.mul_neg_of_pos_of_neg hm hr
    omega
theorem Chgd.trans {bs : List Bnd} {f g k : List Int} (a : Chgd bs f g) (b : Chgd bs g k) : Chgd bs f k := ⟨b.len.trans a.len, b.nn, fun F => (b.tot F).trans (a.tot F), Int.lt_trans b.cost a.cost⟩
end Lag

set_option maxRecDepth 100000
set_option maxHeartbeats 8000000
namespace Lag
open PySem PySem.Spec PyProof.Rows L2
def KptV (K : PySem.W.Frag) (H : Hp) (v : V) (e : Kpt) : Prop := ∃ a th, v = .ref a ∧ SqT K H a [.int ((e.1.1 : Nat) : Int), .int ((e.1.2.1 : Nat) : Int), .int e.1.2.2, .ref th] ∧ SqT K H th [.int ((e.2.1 : Nat) : Int), .int e.2.2]
theorem KptV.tk {K : PySem.W.Frag} {H H' : Hp} {v : V} {e : Kpt} (t : TK H H') (h : KptV K H v e) : KptV K H' v e := by
  obtain ⟨a, th, e', h1, h2⟩ := h
  exact ⟨a, th, e', t.seq h1, t.seq h2⟩
theorem KptV.bnd {K : PySem.W.Frag} {H : Hp} {v : V} {e : Kpt} (h : KptV K H v e) : BndV K H v e.1 := by
  obtain ⟨a, th, e', h1, _⟩ := h
  exact ⟨a, _, e', h1⟩
theorem kpt_bnd {K : PySem.W.Frag} {H : Hp} {kv : List V} {ks : List Kpt} (h : All2 (KptV K H) kv ks) : All2 (BndV K H) kv (ks.map fun e => e.1) := by
  refine ⟨by rw [List.length_map]; exact h.1, fun i v b hv hb => ?_⟩
  rw [List.getElem?_map] at hb
  cases e : ks[i]? with
  | none => rw [e] at hb; cases hb
  | some k =>
    rw [e] at hb
    cases hb
    exact (h.2 i v k hv e).bnd
/-- half way: the bounds ahead of i -/
structure KeptI (bs : List Bnd) (f : List Int) (i : Nat) (ks : List Kpt) : Prop where
  ok : ∀ e ∈ ks, KOk bs f e
  fwd : ∀ j b, j < i → bs[j]? = some b → (b, j, 1) ∈ ks
  bwd : ∀ j b, j < i → bs[j]? = some b → 0 < f.getD j 0 → (revB b, j, -1) ∈ ks
  len : ks.length ≤ 2 * i
theorem KeptI.one {bs : List Bnd} {f : List Int} {i : Nat} {ks : List Kpt} {b : Bnd} (h : KeptI bs f i ks) (hb : bs[i]? = some b) (h0 : ¬ 0 < f.getD i 0) : KeptI bs f (i + 1) (ks ++ [(b, i, 1)]) := by
  refine ⟨fun e he => ?_, fun j b' hj hb' => ?_, fun j b' hj hb' hp => ?_, by rw [List.length_append]; have := h.len; show _ + 1 ≤ _; omega⟩
  · rcases List.mem_append.mp he with he | he
    · exact h.ok e he
    · rw [List.mem_singleton.mp he]
      exact ⟨b, hb, .inl ⟨rfl, rfl⟩⟩
  · by_cases e : j = i
    · subst e
      rw [hb] at hb'
      cases hb'
      exact List.mem_append.mpr (.inr (List.mem_singleton.mpr rfl))
    · exact List.mem_append.mpr (.inl (h.fwd j b' (by omega) hb'))
  · by_cases e : j = i
    · subst e
      exact absurd hp h0
    · exact List.mem_append.mpr (.inl (h.bwd j b' (by omega) hb' hp))
theorem KeptI.two {bs : List Bnd} {f : List Int} {i : Nat} {ks : List Kpt} {b : Bnd} (h : KeptI bs f i ks) (hb : bs[i]? = some b) (h0 : 0 < f.getD i 0) : KeptI bs f (i + 1) (ks ++ [(b, i, 1)] ++ [(revB b, i, -1)]) := by
  refine ⟨fun e he => ?_, fun j b' hj hb' => ?_, fun j b' hj hb' hp => ?_, by rw [List.length_append, List.length_append]; have := h.len; show _ + 1 + 1 ≤ _; omega⟩
  · rcases List.mem_append.mp he with he | he
    · rcases List.mem_append.mp he with he | he
      · exact h.ok e he
      · rw [List.mem_singleton.mp he]
        exact ⟨b, hb, .inl ⟨rfl, rfl⟩⟩
    · rw [List.mem_singleton.mp he]
      exact ⟨b, hb, .inr ⟨rfl, rfl, h0⟩⟩
  · by_cases e : j = i
    · subst e
      rw [hb] at hb'
      cases hb'
      exact List.mem_append.mpr (.inl (List.mem_append.mpr (.inr (List.mem_singleton.mpr rfl))))
    · exact List.mem_append.mpr (.inl (List.mem_append.mpr (.inl (h.fwd j b' (by omega) hb'))))
  · by_cases e : j = i
    · subst e
      rw [hb] at hb'
      cases hb'
      exact List.mem_append.mpr (.inr (List.mem_singleton.mpr rfl))
    · exact List.mem_append.mpr (.inl (List.mem_append.mpr (.inl (h.bwd j b' (by omega) hb' hp))))
theorem KeptI.fin {bs : List Bnd} {f : List Int} {ks : List Kpt} (h : KeptI bs f bs.length ks) : Kept bs f ks :=
  ⟨h.ok, fun j b hb => h.fwd j b (List.getElem?_eq_some_iff.mp hb).1 hb, fun j b hb hp => h.bwd j b (List.getElem?_eq_some_iff.mp hb).1 hb hp⟩
def spBothWays (K : PySem.W.Frag) : Sp := fun vs H Q _ => ∃ (lb lf : Addr) (bv : List V) (bs : List Bnd) (f : List Int), vs = [.ref lb, .ref lf] ∧ H lb = some (.lst bv) ∧ All2 (BndV K H) bv bs ∧ H lf = some (.lst (f.map V.int)) ∧ f.length = bs.length ∧ bs.length ≤ 11000 ∧
  ∀ lk kv ks H', Same H H' → H lk = none → H' lk = some (.lst kv) → All2 (KptV K H') kv ks → Kept bs f ks → ks.length ≤ 22000 → Q (.ref lk) H'
/-- the ring's bounds, told as settle tells them: the flow's list is changed, all else stands -/
def spChange (K : PySem.W.Frag) : Sp := fun vs H Q _ => ∃ (lr lf : Addr) (kv : List V) (ks : List Kpt) (js : List Nat) (bs : List Bnd) (f : List Int), vs = [.ref lr, .ref lf] ∧ H lr = some (.lst (ringVs kv js)) ∧ lr ≠ lf ∧ All2 (KptV K H) kv ks ∧ RingK bs f ks js ∧ js.length ≤ 1000 ∧ H lf = some (.lst (f.map V.int)) ∧ f.length = bs.length ∧ (∀ x ∈ f, 0 ≤ x) ∧ (∃ F, Sat bs F) ∧
  ∀ g H', But lf H H' → TK H H' → H' lf = some (.lst (g.map V.int)) → Chgd bs f g → Q .non H'
/-- so many places, bounds that some numbers keep to, a flow -/
def spLeastFlow (K : PySem.W.Frag) : Sp := fun vs H Q _ => ∃ (n : Nat) (lb lf : Addr) (bv : List V) (bs : List Bnd) (f : List Int), vs = [.int (n : Nat), .ref lb, .ref lf] ∧ 1 ≤ n ∧ n ≤ 1000 ∧ H lb = some (.lst bv) ∧ All2 (BndV K H) bv bs ∧ (∀ b ∈ bs, b.1 < n ∧ b.2.1 < n) ∧ bs.length ≤ 11000 ∧ SqL K H lf (f.map V.int) ∧ f.length = bs.length ∧ (∀ x ∈ f, 0 ≤ x) ∧ (∃ F, Sat bs F) ∧
  ∀ t lg lk kv ks g (F : List Int) H', Same H H' → H' t = some (.tup [.ref lg, .ref lk]) → H' lg = some (.lst (g.map V.int)) → H' lk = some (.lst kv) → H lk = none → All2 (KptV K H') kv ks → Kept bs g ks → ks.length ≤ 22000 → g.length = bs.length → (∀ x ∈ g, 0 ≤ x) → (∀ F, wsum (dF F) bs g = wsum (dF F) bs f) →
    Sat (ks.map fun e => e.1) (fun v => F.getD v 0) → (∀ v, F.getD v 0 ≤ 0) → (∀ R : Int, 0 ≤ R → (∀ b ∈ ks.map (fun e => e.1), -R ≤ b.2.2) → ∀ v, v < n → -((n : Int) * R) ≤ F.getD v 0) → Q (.ref t) H'
def LfR (H' : Hp) (n : Nat) (lg : Addr) (kv : List V) (ks : List Kpt) (bs : List Bnd) (g : List Int) (r : V) : Prop :=
  (r = .non ∧ ∃ F : List Int, Sat (ks.map fun e => e.1) (fun v => F.getD v 0) ∧ (∀ v, F.getD v 0 ≤ 0) ∧ ∀ R : Int, 0 ≤ R → (∀ b ∈ ks.map (fun e => e.1), -R ≤ b.2.2) → ∀ v, v < n → -((n : Int) * R) ≤ F.getD v 0) ∨
  ∃ lr js, r = .ref lr ∧ H' lr = some (.lst (ringVs kv js)) ∧ lr ≠ lg ∧ js.length ≤ 1000 ∧ RingK bs g ks js
def LfI (K : PySem.W.Frag) (H : Hp) (n : Nat) (lb lf lg : Addr) (bs : List Bnd) (f : List Int) (c0 : Int) (m : Nat) (σ : L2.St) (H' : Hp) : Prop := ∃ (lk : Addr) (kv : List V) (ks : List Kpt) (g : List Int) (r : V), σ = [some (.int (n : Nat)), some (.ref lb), some (.ref lf), some (.ref lg), some (.ref lk), some r] ∧ Same H H' ∧ H' lg = some (.lst (g.map V.int)) ∧ g.length = bs.length ∧ (∀ x ∈ g, 0 ≤ x) ∧ (∀ F, wsum (dF F) bs g = wsum (dF F) bs f) ∧
  H lk = none ∧ H' lk = some (.lst kv) ∧ All2 (KptV K H') kv ks ∧ Kept bs g ks ∧ ks.length ≤ 22000 ∧ LfR H' n lg kv ks bs g r ∧ m = (wsum (fun b => b.2.2) bs g - c0).toNat
section
variable {P : Program} {w : World} {K : PySem.W.Frag} {mg : Str → Option Value} {base : Heap}
abbrev nBothWays : List Str := ["bounds", "flow", "told", "place", "start", "end", "room", "thing"]
abbrev DBothWays (P : Program) (w : World) (K : PySem.W.Frag) (mg : Str → Option Value) (base : Heap) := Df P w K mg base 1 "both_ways" ["bounds", "flow"] (spBothWays K)
abbrev nChange : List Str := ["ring", "flow", "start", "end", "room", "thing", "turns", "place", "way", "most"]
abbrev DChange (P : Program) (w : World) (K : PySem.W.Frag) (mg : Str → Option Value) (base : Heap) := Df P w K mg base 1 "change_along" ["ring", "flow"] (spChange K)
abbrev nLeastFlow : List Str := ["many", "bounds", "flow", "told", "kept", "ring"]
abbrev DLeastFlow (P : Program) (w : World) (K : PySem.W.Frag) (mg : Str → Option Value) (base : Heap) := Df P w K mg base 3 "least_flow" ["many", "bounds", "flow"] (spLeastFlow K)
end
end Lag

set_option maxRecDepth 100000
set_option maxHeartbeats 8000000
namespace Lag
open PySem PySem.Spec PyProof.Rows L2
/-! ### lags that fit, from -500 to 500 where there are such: the mathematics -/
def limF (n i : Nat) : List Bnd := (List.range i).flatMap fun s => [(s, n, 500), (n, s, 500)]
theorem limF_succ (n i : Nat) : limF n (i + 1) = limF n i ++ [(i, n, 500)] ++ [(n, i, 500)] := by
  unfold limF
  rw [List.range_succ, List.flatMap_append, List.append_assoc]
  rfl
theorem limF_len (n i : Nat) : (limF n i).length = 2 * i := by
  induction i with
  | zero => rfl
  | succ i ih =>
    rw [limF_succ, List.length_append, List.length_append, ih]
    show 2 * i + 1 + 1 = _
    omega
theorem mem_limF {n i : Nat} {b : Bnd} : b ∈ limF n i ↔ ∃ s, s < i ∧ (b = (s, n, 500) ∨ b = (n, s, 500)) := by
  unfold limF
  rw [List.mem_flatMap]
  constructor
  · rintro ⟨s, hs, hb⟩
    refine ⟨s, List.mem_range.mp hs, ?_⟩
    rcases List.mem_cons.mp hb with h | h
    · exact .inl h
    · exact .inr (List.mem_singleton.mp h)
  · rintro ⟨s, hs, hb⟩
    refine ⟨s, List.mem_range.mpr hs, ?_⟩
    rcases hb with h | h
    · rw [h]
      exact List.mem_cons_self ..
    · rw [h]
      exact List.mem_cons_of_mem _ (List.mem_cons_self ..)
theorem sat_ring {bs : List Bnd} {F : Nat → Int} (S : Sat bs F) {js : List Nat} : ¬ RingB bs js := fun ⟨_, v, hp, hr⟩ => by
  have := S.along hp
  omega
theorem sat_app {bs cs : List Bnd} {F : Nat → Int} : Sat (bs ++ cs) F ↔ Sat bs F ∧ Sat cs F :=
  ⟨fun h => ⟨fun b hb => h b (List.mem_append.mpr (.inl hb)), fun b hb => h b (List.mem_append.mpr (.inr hb))⟩, fun h b hb => by
    rcases List.mem_append.mp hb with hb | hb
    · exact h.1 b hb
    · exact h.2 b hb⟩
/-! ### papers: the mathematics -/
abbrev Ent := Pce × Int
def psum (c : Pce → Int) (es : List Ent) : Int := (es.map fun e => c e.1 * e.2).sum
theorem psum_cons (c : Pce → Int) (e : Ent) (r : List Ent) : psum c (e :: r) = c e.1 * e.2 + psum c r := by
  unfold psum
  rw [List.map_cons, List.sum_cons]
theorem psum_snoc (c : Pce → Int) (es : List Ent) (e : Ent) : psum c (es ++ [e]) = psum c es + c e.1 * e.2 := by
  unfold psum
  rw [List.map_append, List.sum_append]
  show _ + (c e.1 * e.2 + 0) = _
  omega
def dl (g x : Nat) : Int := if x = g then 1 else 0
def dlP (ws : List Wr) (g : Nat) (pc : Pce) : Int := dl g pc.1 - dl g (endW ws pc.1 pc.2)
def wdl (F : Nat → Int) (ws : List Wr) : Int := (ws.map fun x => F x.1 - F x.2.1).sum
theorem wdl_cons (F : Nat → Int) (x : Wr) (r : List Wr) : wdl F (x :: r) = F x.1 - F x.2.1 + wdl F r := by
  unfold wdl
  rw [List.map_cons, List.sum_cons]
theorem wdl_snoc (F : Nat → Int) (ws : List Wr) (x : Wr) : wdl F (ws ++ [x]) = wdl F ws + (F x.1 - F x.2.1) := by
  unfold wdl
  rw [List.map_append, List.sum_append]
  show _ + (F x.1 - F x.2.1 + 0) = _
  omega
/-- each gate that is no port has its balance -/
def Bal (gs : List Gt) (ws : List Wr) (es : List Ent) : Prop := ∀ g, g < gs.length → ¬ portK (kindAt gs g) → psum (dlP ws g) es = wdl (dl g) ws
def EntOk (gs : List Gt) (ws : List Wr) (e : Ent) : Prop := PceOk gs ws e.1 ∧ e.1.2.length ≤ 1000 ∧ 1 ≤ e.2
def regsum (ws : List Wr) : Int := (ws.map fun x => ((x.2.2.length : Nat) : Int)).sum
def cntsum (ws : List Wr) (L : Nat → Int) : Int := (ws.map fun x => ((x.2.2.length : Nat) : Int) + L x.2.1 - L x.1).sum
theorem cntsum_eq (ws : List Wr) (L : Nat → Int) : cntsum ws L = regsum ws - wdl L ws := by
  unfold cntsum regsum wdl
  induction ws with
  | nil => rfl
  | cons x r ih =>
    rw [List.map_cons, List.map_cons, List.map_cons, List.sum_cons, List.sum_cons, List.sum_cons, ih]
    omega
theorem getD_add {ms : List Int} {i g : Nat} {d : Int} (h : i < ms.length) : (ms.set i (ms.getD i 0 + d)).getD g 0 = ms.getD g 0 + dl g i * d := by
  rw [fgetD_set h]
  unfold dl
  by_cases e : i = g
  · rw [if_pos e, if_pos e, Int.one_mul, e]
  · rw [if_neg e, if_neg e, Int.zero_mul, Int.add_zero]
def papF (bps : List (Bnd × Pce)) (f : List Int) : List Ent := ((bps.zip f).filter fun p => decide (0 < p.2)).map fun p => (p.1.2, p.2)
theorem papF_snoc {bps : List (Bnd × Pce)} {f : List Int} (h : bps.length = f.length) (bp : Bnd × Pce) (x : Int) : papF (bps ++ [bp]) (f ++ [x]) = papF bps f ++ if 0 < x then [(bp.2, x)] else [] := by
  unfold papF
  rw [List.zip_append h, List.filter_append, List.map_append]
  congr 1
  show ((List.filter _ [(bp, x)]).map _) = _
  by_cases e : 0 < x
  · rw [if_pos e, List.filter_cons_of_pos (by rw [decide_eq_true_iff]; exact e)]
    rfl
  · rw [if_neg e, List.filter_cons_of_neg (by rw [decide_eq_true_iff]; exact e)]
    rfl
theorem papF_mem {bps : List (Bnd × Pce)} {f : List Int} {e : Ent} (h : e ∈ papF bps f) : (∃ bp ∈ bps, e.1 = bp.2) ∧ 1 ≤ e.2 := by
  unfold papF at h
  obtain ⟨p, hp, rfl⟩ := List.mem_map.mp h
  obtain ⟨h1, h2⟩ := List.mem_filter.mp hp
  rw [decide_eq_true_iff] at h2
  exact ⟨⟨p.1, (List.of_mem_zip h1).1, rfl⟩, h2⟩
theorem papF_sum {c : Pce → Int} {c' : Bnd → Int} : ∀ {bps : List (Bnd × Pce)} {f : List Int}, (∀ bp ∈ bps, c bp.2 = c' bp.1) → (∀ x ∈ f, 0 ≤ x) → psum c (papF bps f) = wsum c' (bps.map fun bp => bp.1) f
  | [], f, _, _ => by
    show (0 : Int) = wsum c' [] f
    rw [wsum_nil]
  | bp :: bps, [], _, _ => rfl
  | bp :: bps, x :: f, h1, h2 => by
    have ih := papF_sum (bps := bps) (f := f) (fun y hy => h1 y (List.mem_cons_of_mem _ hy)) (fun y hy => h2 y (List.mem_cons_of_mem _ hy))
    have hx := h2 x (List.mem_cons_self ..)
    show psum c (((bp, x) :: bps.zip f).filter (fun p => decide (0 < p.2)) |>.map fun p => (p.1.2, p.2)) = c' bp.1 * x + wsum c' (bps.map fun bp => bp.1) f
    rw [← h1 bp (List.mem_cons_self ..), ← ih]
    by_cases e : 0 < x
    · rw [List.filter_cons_of_pos (by rw [decide_eq_true_iff]; exact e)]
      rfl
    · rw [List.filter_cons_of_neg (by rw [decide_eq_true_iff]; exact e)]
      have : x = 0 := by omega
      rw [this, Int.mul_zero, Int.zero_add]
      rfl
theorem dl_spot {gs : List Gt} {g x : Nat} (hg : g < gs.length) (hp : ¬ portK (kindAt gs g)) : dl g (spotF gs x) = dl g x := by
  unfold spotF
  by_cases e : portK (kindAt gs x)
  · rw [if_pos e]
    unfold dl
    rw [if_neg (by omega), if_neg fun z => hp (by rw [← z]; exact e)]
  · rw [if_neg e]
/-- the bound of a piece -/
def BpOk (gs : List Gt) (ws : List Wr) (b : Int) (bp : Bnd × Pce) : Prop := bp.1 = (spotF gs bp.2.1, spotF gs (endW ws bp.2.1 bp.2.2), roomF gs ws b bp.2)
theorem BdsOk.bp {gs : List Gt} {ws : List Wr} {b : Int} {bps : List (Bnd × Pce)} (h : BdsOk gs ws b (bps.map fun bp => bp.2) (bps.map fun bp => bp.1)) : ∀ bp ∈ bps, BpOk gs ws b bp := fun bp hbp => by
  obtain ⟨i, hi⟩ := List.getElem?_of_mem hbp
  obtain ⟨e, _, h2, h3⟩ := h.al.2 i bp.2 bp.1 (by rw [List.getElem?_map, hi]; rfl) (by rw [List.getElem?_map, hi]; rfl)
  unfold BpOk
  rw [endW_of h2]
  exact h3
theorem pap_bal {gs : List Gt} {ws : List Wr} {b : Int} {bps : List (Bnd × Pce)} {f : List Int} (h : ∀ bp ∈ bps, BpOk gs ws b bp) (hf : ∀ x ∈ f, 0 ≤ x) (ht : ∀ F, wsum (dF F) (bps.map fun bp => bp.1) f = wdl (fun x => F (spotF gs x)) ws) : Bal gs ws (papF bps f) := fun g hg hp => by
  rw [papF_sum (c' := dF (dl g)) (fun bp hbp => ?_) hf, ht]
  · congr 1
    funext x
    exact dl_spot hg hp
  · rw [h bp hbp]
    show dl g _ - dl g _ = dl g _ - dl g _
    rw [dl_spot hg hp, dl_spot hg hp]
theorem pap_room {gs : List Gt} {ws : List Wr} {b : Int} {bps : List (Bnd × Pce)} {f : List Int} (h : ∀ bp ∈ bps, BpOk gs ws b bp) (hf : ∀ x ∈ f, 0 ≤ x) : psum (roomF gs ws b) (papF bps f) = wsum (fun b => b.2.2) (bps.map fun bp => bp.1) f :=
  papF_sum (fun bp hbp => by rw [h bp hbp]) hf
/-- a paper tells how few there may be -/
theorem pap_le {gs : List Gt} {ws : List Wr} {b : Int} {es : List Ent} {L : Nat → Int} (N : NetOk gs ws) (hb : Bal gs ws es) (ho : ∀ e ∈ es, EntOk gs ws e) (f : Feas gs ws b L) : regsum ws - psum (roomF gs ws b) es ≤ cntsum ws L := by
  have h1 : psum (fun pc => L pc.1 - L (endW ws pc.1 pc.2)) es ≤ psum (roomF gs ws b) es := by
    clear hb
    induction es with
    | nil => exact Int.le_refl 0
    | cons e r ih =>
      have ih := ih fun x hx => ho x (List.mem_cons_of_mem _ hx)
      obtain ⟨⟨k1, m, k2⟩, k3, k4⟩ := ho e (List.mem_cons_self ..)
      have k5 := f.room k1 k2
      have k6 : L e.1.1 - L (endW ws e.1.1 e.1.2) ≤ roomF gs ws b e.1 := by
        rw [endW_of k2]
        have k5 : L e.1.1 ≤ L m + roomF gs ws b e.1 := k5
        omega
      have k7 := Int.mul_le_mul_of_nonneg_right k6 (show 0 ≤ e.2 by omega)
      rw [psum_cons, psum_cons]
      omega
  have key : ∀ (G : Nat → Int) (n : Nat), n ≤ gs.length → (∀ g, g < n → portK (kindAt gs g) → G g = 0) → (∀ g, n ≤ g → G g = 0) → psum (fun pc => G pc.1 - G (endW ws pc.1 pc.2)) es = wdl G ws := by
    intro G n
    induction n generalizing G with
    | zero =>
      intro _ _ h2
      have z : ∀ x, G x = 0 := fun x => h2 x (Nat.zero_le _)
      have a1 : psum (fun pc => G pc.1 - G (endW ws pc.1 pc.2)) es = 0 := by
        clear h1 hb ho
        induction es with
        | nil => rfl
        | cons e r ih =>
          rw [psum_cons, ih, z, z]
          simp
      have gen : ∀ r : List Wr, wdl G r = 0 := fun r => by
        induction r with
        | nil => rfl
        | cons x r ih => rw [wdl_cons, z, z, ih]; rfl
      have a2 := gen ws
      rw [a1, a2]
    | succ n ih =>
      intro hn hp h2
      have ih := ih (fun x => if x = n then 0 else G x) (by omega) (fun g hg hk => by
        show (if g = n then 0 else G g) = 0
        rw [if_neg (by omega)]
        exact hp g (by omega) hk) (fun g hg => by
        show (if g = n then 0 else G g) = 0
        by_cases e : g = n
        · rw [if_pos e]
        · rw [if_neg e]
          exact h2 g (by omega))
      have sp : ∀ x, G x = (if x = n then 0 else G x) + G n * dl n x := fun x => by
        unfold dl
        by_cases e : x = n
        · rw [if_pos e, if_pos e, e]
          omega
        · rw [if_neg e, if_neg e]
          omega
      have gen2 : ∀ r : List Ent, psum (fun pc => G pc.1 - G (endW ws pc.1 pc.2)) r = psum (fun pc => (if pc.1 = n then 0 else G pc.1) - (if endW ws pc.1 pc.2 = n then 0 else G (endW ws pc.1 pc.2))) r + G n * psum (dlP ws n) r := fun r => by
        induction r with
        | nil =>
          show (0 : Int) = 0 + G n * 0
          omega
        | cons e r ih2 =>
          rw [psum_cons, psum_cons, psum_cons, ih2]
          have a := sp e.1.1
          have b' := sp (endW ws e.1.1 e.1.2)
          generalize (if e.1.1 = n then (0 : Int) else G e.1.1) = u at a ⊢
          generalize (if endW ws e.1.1 e.1.2 = n then (0 : Int) else G (endW ws e.1.1 e.1.2)) = v at b' ⊢
          unfold dlP
          rw [a, b', Int.mul_add, ← Int.mul_assoc, Int.mul_sub, show u + G n * dl n e.1.1 - (v + G n * dl n (endW ws e.1.1 e.1.2)) = (u - v) + (G n * dl n e.1.1 - G n * dl n (endW ws e.1.1 e.1.2)) by omega, Int.add_mul]
          omega
      have a1 := gen2 es
      have gen : ∀ r : List Wr, wdl G r = wdl (fun x => if x = n then 0 else G x) r + G n * wdl (dl n) r := fun r => by
        induction r with
        | nil =>
          show (0 : Int) = 0 + G n * 0
          omega
        | cons x r ih3 =>
          rw [wdl_cons, wdl_cons, wdl_cons, ih3]
          have a := sp x.1
          have b' := sp x.2.1
          generalize (if x.1 = n then (0 : Int) else G x.1) = u at a ⊢
          generalize (if x.2.1 = n then (0 : Int) else G x.2.1) = v at b' ⊢
          rw [a, b', Int.mul_add, Int.mul_sub]
          omega
      have a2 := gen ws
      rw [a1, a2, ih]
      by_cases hk : portK (kindAt gs n)
      · rw [hp n (Nat.lt_succ_self _) hk, Int.zero_mul, Int.zero_mul]
      · rw [hb n (by omega) hk]
  have h2 := key (fun x => if x < gs.length then L x else 0) gs.length (Nat.le_refl _) (fun g hg hk => by
    show (if g < gs.length then L g else 0) = 0
    rw [if_pos hg]
    exact f.out g hg hk) (fun g hg => by
    show (if g < gs.length then L g else 0) = 0
    rw [if_neg (by omega)])
  have h3 : wdl (fun x => if x < gs.length then L x else 0) ws = wdl L ws := by
    unfold wdl
    refine congrArg List.sum (List.map_congr_left fun x hx => ?_)
    have WX := N.wok x hx
    show (if x.1 < gs.length then L x.1 else 0) - (if x.2.1 < gs.length then L x.2.1 else 0) = _
    rw [if_pos WX.s, if_pos WX.e]
  have h4 : psum (fun pc => (if pc.1 < gs.length then L pc.1 else 0) - (if endW ws pc.1 pc.2 < gs.length then L (endW ws pc.1 pc.2) else 0)) es = psum (fun pc => L pc.1 - L (endW ws pc.1 pc.2)) es := by
    unfold psum
    refine congrArg List.sum (List.map_congr_left fun e he => ?_)
    obtain ⟨⟨k1, m, k2⟩, _⟩ := ho e he
    have k3 := k2.lt N k1
    dsimp only
    rw [endW_of k2, if_pos k1, if_pos k3]
  rw [cntsum_eq, ← h3, ← h2, h4]
  omega
def spNearLags (K : PySem.W.Frag) (C : Addr) : Sp := fun vs H Q _ => ∃ (p ng nw lk : Addr) (n : Nat) (gs : List Gt) (ws : List Wr) (kv : List V) (ks : List Bnd) (F : Nat → Int), vs = [.ref p, .int ((n : Nat) : Int), .ref lk] ∧ gs.length + 1 ≤ n ∧ n ≤ 1000 ∧ NetAt K C H p ng nw gs ws ∧ NetOk gs ws ∧ H lk = some (.lst kv) ∧ All2 (BndV K H) kv ks ∧ (∀ b ∈ ks, b.1 < n ∧ b.2.1 < n) ∧ ks.length ≤ 22000 ∧ Sat ks F ∧
  ∀ l (G : Nat → Int) H', Same H H' → H l = none → H' l = some (.lst ((lagsL gs (lagsAt gs G)).map V.int)) → Sat ks G → ((∀ v, v < gs.length → F v - F gs.length ≤ 500 ∧ -500 ≤ F v - F gs.length) → ∀ g, g < gs.length → -500 ≤ lagsAt gs G g ∧ lagsAt gs G g ≤ 500) → Q (.ref l) H'
section
variable {P : Program} {w : World} {K : PySem.W.Frag} {mg : Str → Option Value} {base : Heap}
abbrev nNearLags : List Str := ["net", "many", "bounds", "outer", "limits", "spot", "found", "ring"]
abbrev DNearLags (P : Program) (w : World) (K : PySem.W.Frag) (mg : Str → Option Value) (base : Heap) (C : Addr) := Df P w K mg base 4 "near_lags" ["net", "many", "bounds"] (spNearLags K C)
end
end Lag

set_option maxRecDepth 100000
set_option maxHeartbeats 8000000
namespace Lag
open PySem PySem.Spec PyProof.Rows L2
theorem hu65_of {k : Nat} {A : Around} (r : Room k A) : A.units + 65 < cLine := by have := r.un; omega
theorem prg_leF {gs : List Gt} {ws : List Wr} (N : NetOk gs ws) : ∀ {ps : List Nat} {s e : Nat}, Pw ws s ps e → prg ws ps ≤ 100 * (ps.length : Int)
  | [], _, _, _ => Int.le_refl 0
  | p :: r, s, e, ⟨x, hx, hs, h3⟩ => by
    have h1 := prg_leF N h3
    have h2 := (N.wok x (List.mem_of_getElem? hx)).rl
    rw [prg_cons hx, List.length_cons]
    omega
theorem room_bd {gs : List Gt} {ws : List Wr} {b : Int} {pc : Pce} (N : NetOk gs ws) (h : PceOk gs ws pc) (hl : pc.2.length ≤ 1000) : -1 ≤ roomF gs ws b pc ∧ roomF gs ws b pc ≤ 100000 := by
  obtain ⟨_, e, hp⟩ := h
  have h1 := prg_leF N hp
  have h2 := prg_nn ws pc.2
  unfold roomF
  split <;> omega
theorem first_ix {α : Type} [DecidableEq α] : ∀ {l : List α} {x : α}, x ∈ l → ∃ j : Nat, l[j]? = some x ∧ ∀ (m : Nat) (z : α), m < j → l[m]? = some z → z ≠ x
  | y :: r, x, h => by
    by_cases e : y = x
    · exact ⟨0, by rw [e]; rfl, fun m z hm => absurd hm (Nat.not_lt_zero _)⟩
    · rcases List.mem_cons.mp h with h | h
      · exact absurd h.symm e
      · obtain ⟨j, h1, h2⟩ := first_ix h
        refine ⟨j + 1, h1, fun m z hm hz => ?_⟩
        cases m with
        | zero =>
          cases hz
          exact e
        | succ m => exact h2 m z (by omega) hz
def natsD (e : Nat × Nat) : PyData := .tuple [.int ((e.1 : Nat) : Int), .int ((e.2 : Nat) : Int)]
theorem natsD_eq (a b : Nat × Nat) : PyData.eqv (natsD a) (natsD b) = decide (a = b) := by
  show ((((a.1 : Nat) : Int) == ((b.1 : Nat) : Int)) && ((((a.2 : Nat) : Int) == ((b.2 : Nat) : Int)) && true)) = _
  rw [Bool.eq_iff_iff]
  simp only [Bool.and_eq_true, beq_iff_eq, decide_eq_true_eq, and_true]
  constructor
  · rintro ⟨h1, h2⟩
    exact Prod.ext (by omega) (by omega)
  · rintro rfl
    exact ⟨rfl, rfl⟩
theorem sh_nats {k : Nat} (e : Nat × Nat) : Sh (k + 1) (natsD e) := sh_tuple fun d hd => by
  rcases List.mem_cons.mp hd with rfl | hd
  · exact sh_int _
  · rw [List.mem_singleton.mp hd]
    exact sh_int _
theorem dp_natsV {K : PySem.W.Frag} {H : Hp} {v : V} {e : Nat × Nat} (h : NatsV K H v e) : Dp K H v (natsD e) := by
  obtain ⟨a, rfl, s⟩ := h
  exact .tup s (.cons (.int _) (.cons (.int _) .nil))
theorem dpall_nats {K : PySem.W.Frag} {H : Hp} : ∀ {vs : List V} {es : List (Nat × Nat)}, All2 (NatsV K H) vs es → DpAll K H vs (es.map natsD)
  | [], [], _ => .nil
  | [], _ :: _, h => by have := h.1; cases this
  | _ :: _, [], h => by have := h.1; cases this
  | v :: vs, e :: es, h => .cons (dp_natsV h.head) (dpall_nats h.tail)
def EntV (K : PySem.W.Frag) (H : Hp) (v : V) (e : Ent) : Prop := ∃ a p, v = .ref a ∧ SqT K H a [p, .int e.2] ∧ PceV K H p e.1
theorem EntV.same {K : PySem.W.Frag} {H H' : Hp} {v : V} {e : Ent} (s : Same H H') (h : EntV K H v e) : EntV K H' v e := by
  obtain ⟨a, p, e', h1, h2⟩ := h
  exact ⟨a, p, e', (TK.same s).seq h1, h2.same s⟩
/-- an entry whose list is none of Z -/
def EntZ (K : PySem.W.Frag) (Z : Addr → Prop) (H : Hp) (v : V) (e : Ent) : Prop := ∃ a t l, v = .ref a ∧ SqT K H a [.ref t, .int e.2] ∧ SqT K H t [.int ((e.1.1 : Nat) : Int), .ref l] ∧ H l = some (.lst (nvs e.1.2)) ∧ ¬ Z l
theorem EntZ.ent {K : PySem.W.Frag} {Z : Addr → Prop} {H : Hp} {v : V} {e : Ent} (h : EntZ K Z H v e) : EntV K H v e := by
  obtain ⟨a, t, l, h1, h2, h3, h4, _⟩ := h
  exact ⟨a, .ref t, h1, h2, t, l, rfl, h3, SqL.of h4⟩
theorem EntZ.same {K : PySem.W.Frag} {Z : Addr → Prop} {H H' : Hp} {v : V} {e : Ent} (s : Same H H') (h : EntZ K Z H v e) : EntZ K Z H' v e := by
  obtain ⟨a, t, l, h1, h2, h3, h4, h5⟩ := h
  exact ⟨a, t, l, h1, (TK.same s).seq h2, (TK.same s).seq h3, s _ _ h4, h5⟩
theorem EntZ.weak {K : PySem.W.Frag} {Z Z' : Addr → Prop} {H : Hp} {v : V} {e : Ent} (z : ∀ l, Z' l → Z l) (h : EntZ K Z H v e) : EntZ K Z' H v e := by
  obtain ⟨a, t, l, h1, h2, h3, h4, h5⟩ := h
  exact ⟨a, t, l, h1, h2, h3, h4, fun k => h5 (z l k)⟩
theorem BpV.pce {K : PySem.W.Frag} {Z : Addr → Prop} {H : Hp} {lb : Addr} {v : V} {bp : Bnd × Pce} (h : BpV K Z H lb v bp) : ∃ a pa, v = .ref a ∧ SqT K H a [.int ((bp.1.1 : Nat) : Int), .int ((bp.1.2.1 : Nat) : Int), .int bp.1.2.2, pa] ∧ PceV K H pa bp.2 := by
  obtain ⟨a, pa, l, e, h1, h2, h3, _⟩ := h
  exact ⟨a, .ref pa, e, h1, pa, l, rfl, h2, SqL.of h3⟩
theorem bpv_bnd {K : PySem.W.Frag} {Z : Addr → Prop} {H : Hp} {lb : Addr} {bv : List V} {bps : List (Bnd × Pce)} (h : All2 (BpV K Z H lb) bv bps) : All2 (BndV K H) bv (bps.map fun bp => bp.1) := by
  refine ⟨by rw [List.length_map]; exact h.1, fun i v bd hv hbd => ?_⟩
  rw [List.getElem?_map] at hbd
  cases e : bps[i]? with
  | none => rw [e] at hbd; cases hbd
  | some bp =>
    rw [e] at hbd
    cases hbd
    obtain ⟨a, pa, e1, e2, _⟩ := (h.2 i v bp hv e).pce
    exact ⟨a, pa, e1, e2⟩
theorem range_all2 (ws : List Wr) : All2 (fun (p : Nat) (x : Wr) => ws[p]? = some x) (List.range ws.length) ws := by
  refine ⟨List.length_range, fun i p x hp hx => ?_⟩
  have hi : i < ws.length := (List.getElem?_eq_some_iff.mp hx).1
  rw [List.getElem?_range hi] at hp
  cases hp
  exact hx
theorem plain_step {gs : List Gt} {ws us : List Wr} {b : Int} {bps : List (Bnd × Pce)} {f : List Int} {i j : Nat} {x : Wr} {bp : Bnd × Pce} (hx : us[i]? = some x) (hj : bps[j]? = some bp) (ho : BpOk gs ws b bp) (he : endsF ws bp.2 = (x.1, x.2.1)) (hl : f.length = bps.length)
    (ht : ∀ F, wsum (dF F) (bps.map fun bp => bp.1) f = wdl (fun x => F (spotF gs x)) (us.take i)) : ∀ F, wsum (dF F) (bps.map fun bp => bp.1) (f.set j (f.getD j 0 + 1)) = wdl (fun x => F (spotF gs x)) (us.take (i + 1)) := fun F => by
  have hjl : j < f.length := by rw [hl]; exact (List.getElem?_eq_some_iff.mp hj).1
  have hf : f[j]? = some (f.getD j 0) := by rw [List.getD_eq_getElem?_getD, List.getElem?_eq_getElem hjl]; rfl
  have e1 : bp.2.1 = x.1 := congrArg Prod.fst he
  have e2 : endW ws bp.2.1 bp.2.2 = x.2.1 := congrArg Prod.snd he
  rw [wsum_add (dF F) (b := bp.1) (by rw [List.getElem?_map, hj]; rfl) hf, ht F, List.take_add_one, hx, Int.mul_one]
  show _ = wdl _ (us.take i ++ [x])
  rw [wdl_snoc, ho]
  show _ + (F (spotF gs bp.2.1) - F (spotF gs (endW ws bp.2.1 bp.2.2))) = _
  rw [e2, e1]
theorem wsum_zero (c : Bnd → Int) : ∀ (bs : List Bnd) (n : Nat), wsum c bs (List.replicate n 0) = 0
  | [], n => wsum_nil c _
  | b :: bs, 0 => rfl
  | b :: bs, n + 1 => by
    rw [List.replicate_succ]
    show c b * 0 + wsum c bs (List.replicate n 0) = 0
    rw [wsum_zero c bs n, Int.mul_zero]
    rfl
theorem rep0 (n : Nat) : (List.replicate n [V.int 0]).flatten = (List.replicate n (0 : Int)).map V.int := by
  rw [List.map_replicate]
  exact List.flatten_replicate_singleton
def spRegisters (K : PySem.W.Frag) (C : Addr) : Sp := fun vs H Q _ => ∃ (p ng nw : Addr) (gs : List Gt) (ws : List Wr), vs = [.ref p] ∧ NetAt K C H p ng nw gs ws ∧ NetOk gs ws ∧ ∀ H', Same H H' → Q (.int (regsum ws)) H'
def spPlainFlow (K : PySem.W.Frag) (C : Addr) : Sp := fun vs H Q _ => ∃ (p ng nw lb lq : Addr) (qs : List Nat) (gs : List Gt) (ws us : List Wr) (b : Int) (bv : List V) (bps : List (Bnd × Pce)), vs = [.ref p, .ref lb, .ref lq] ∧ NetAt K C H p ng nw gs ws ∧ NetOk gs ws ∧ H lb = some (.lst bv) ∧ (∃ Z, All2 (BpV K Z H lb) bv bps) ∧ BdsOk gs ws b (bps.map fun bp => bp.2) (bps.map fun bp => bp.1) ∧ bps.length ≤ 11000 ∧ (∀ bp ∈ bps, PceOk gs ws bp.2 ∧ bp.2.2.length ≤ 1000) ∧ All2 (fun (p : Nat) (x : Wr) => ws[p]? = some x) qs us ∧ SqL K H lq (nvs qs) ∧
  ∀ l f H', Same H H' → H l = none → H' l = some (.lst (f.map V.int)) → f.length = bps.length → (∀ x ∈ f, 0 ≤ x) → (∀ F, wsum (dF F) (bps.map fun bp => bp.1) f = wdl (fun x => F (spotF gs x)) us) → Q (.ref l) H'
def spPaperOf (K : PySem.W.Frag) : Sp := fun vs H Q _ => ∃ (lb lf lt : Addr) (bv : List V) (bps : List (Bnd × Pce)) (f : List Int) (Z : Addr → Prop), vs = [.ref lb, .ref lf] ∧ H lb = some (.lst bv) ∧ All2 (BpV K Z H lt) bv bps ∧ SqL K H lf (f.map V.int) ∧ f.length = bps.length ∧ bps.length ≤ 11000 ∧
  ∀ l ev H', Same H H' → H l = none → H' l = some (.lst ev) → All2 (EntZ K Z H') ev (papF bps f) → Q (.ref l) H'
def spRoomIn (K : PySem.W.Frag) (C : Addr) : Sp := fun vs H Q _ => ∃ (p ng nw lp : Addr) (gs : List Gt) (ws : List Wr) (b : Int) (ev : List V) (es : List Ent), vs = [.ref p, .int b, .ref lp] ∧ NetAt K C H p ng nw gs ws ∧ NetOk gs ws ∧ SqL K H lp ev ∧ All2 (EntV K H) ev es ∧ (∀ e ∈ es, EntOk gs ws e) ∧ es.length ≤ 11000 ∧ ∀ H', Same H H' → Q (.int (psum (roomF gs ws b) es)) H'
def spNumPiece (K : PySem.W.Frag) (C : Addr) : Sp := fun vs H Q _ => ∃ (p ng nw : Addr) (gs : List Gt) (ws : List Wr) (v : V) (e : Ent), vs = [.ref p, v] ∧ NetAt K C H p ng nw gs ws ∧ NetOk gs ws ∧ EntV K H v e ∧ EntOk gs ws e ∧ ∀ H', Same H H' → Q (.bl true) H'
def spIsPaper (K : PySem.W.Frag) (C : Addr) : Sp := fun vs H Q _ => ∃ (p ng nw lp : Addr) (gs : List Gt) (ws : List Wr) (ev : List V) (es : List Ent), vs = [.ref p, .ref lp] ∧ NetAt K C H p ng nw gs ws ∧ NetOk gs ws ∧ SqL K H lp ev ∧ All2 (EntV K H) ev es ∧ (∀ e ∈ es, EntOk gs ws e) ∧ es.length ≤ 11000 ∧ ∀ H', Same H H' → Q (.bl true) H'
/-- balanced: no fault -/
def BalP (gs : List Gt) (ws us : List Wr) (es : List Ent) : Prop := ∀ g, g < gs.length → ¬ portK (kindAt gs g) → psum (dlP ws g) es = wdl (dl g) us
def spGateFault (K : PySem.W.Frag) (C : Addr) : Sp := fun vs H Q _ => ∃ (p ng nw lp lq : Addr) (qs : List Nat) (gs : List Gt) (ws us : List Wr) (ev : List V) (es : List Ent), vs = [.ref p, .ref lp, .ref lq] ∧ NetAt K C H p ng nw gs ws ∧ NetOk gs ws ∧ SqL K H lp ev ∧ All2 (EntV K H) ev es ∧ (∀ e ∈ es, EntOk gs ws e) ∧ BalP gs ws us es ∧ All2 (fun (p : Nat) (x : Wr) => ws[p]? = some x) qs us ∧ SqL K H lq (nvs qs) ∧ ∀ H', Same H H' → Q .non H'
def spPaperFault (K : PySem.W.Frag) (C : Addr) : Sp := fun vs H Q _ => ∃ (p ng nw lp : Addr) (gs : List Gt) (ws : List Wr) (b : Int) (ev : List V) (es : List Ent), vs = [.ref p, .int b, .ref lp] ∧ NetAt K C H p ng nw gs ws ∧ NetOk gs ws ∧ 0 ≤ b ∧ SqL K H lp ev ∧ All2 (EntV K H) ev es ∧ (∀ e ∈ es, EntOk gs ws e) ∧ es.length ≤ 11000 ∧ Bal gs ws es ∧ ∀ H', Same H H' → Q .non H'
def spBoundOf (K : PySem.W.Frag) (C : Addr) : Sp := fun vs H Q _ => ∃ (p ng nw lp : Addr) (gs : List Gt) (ws : List Wr) (b : Int) (ev : List V) (es : List Ent), vs = [.ref p, .ref lp, .int b] ∧ NetAt K C H p ng nw gs ws ∧ NetOk gs ws ∧ 0 ≤ b ∧ SqL K H lp ev ∧ All2 (EntV K H) ev es ∧ (∀ e ∈ es, EntOk gs ws e) ∧ es.length ≤ 11000 ∧ Bal gs ws es ∧ ∀ H', Same H H' → Q (.int (regsum ws - psum (roomF gs ws b) es)) H'
def spLetBounds (K : PySem.W.Frag) (C : Addr) : Sp := fun vs H Q _ => ∃ (p ng nw : Addr) (gs : List Gt) (ws : List Wr) (b : Int), vs = [.ref p, .int b] ∧ NetAt K C H p ng nw gs ws ∧ NetOk gs ws ∧ 0 ≤ b ∧ FeasE gs ws b ∧
  ∀ (lb : Addr) (bv : List V) (bps : List (Bnd × Pce)) (H' : Hp), Same H H' → H lb = none → H' lb = some (.lst bv) → All2 (BpV K (fun l => H l ≠ none) H' lb) bv bps → BdsOk gs ws b (bps.map fun bp => bp.2) (bps.map fun bp => bp.1) → bps.length ≤ 10000 → (∀ bp ∈ bps, PceOk gs ws bp.2 ∧ bp.2.2.length ≤ 1000) → Q (.ref lb) H'
/-- the fewest registers of lags for b, such lags, a paper -/
def spFewest (K : PySem.W.Frag) (C : Addr) : Sp := fun vs H Q _ => ∃ (p ng nw : Addr) (gs : List Gt) (ws : List Wr) (b : Int), vs = [.ref p, .int b] ∧ NetAt K C H p ng nw gs ws ∧ NetOk gs ws ∧ 0 ≤ b ∧ FeasE gs ws b ∧
  ∀ (t ll lp : Addr) (m : Int) (L : Nat → Int) (ev : List V) (es : List Ent) (H' : Hp), Same H H' → H' t = some (.tup [.int m, .ref ll, .ref lp]) → H ll = none → H' ll = some (.lst ((lagsL gs L).map V.int)) → H lp = none → H' lp = some (.lst ev) → All2 (EntZ K (fun l => H l ≠ none) H') ev es → (∀ e ∈ es, EntOk gs ws e) → es.length ≤ 11000 → Bal gs ws es →
    Feas gs ws b L → m = cntsum ws L → m = regsum ws - psum (roomF gs ws b) es → (∀ R : Int, 1 ≤ R → ((gs.length : Int) + 1) * R ≤ 500 → (∀ s e c, s < gs.length → best gs ws s e = some c → c.1 ≤ R) → ∀ g, g < gs.length → -500 ≤ L g ∧ L g ≤ 500) → Q (.ref t) H'
section
variable {P : Program} {w : World} {K : PySem.W.Frag} {mg : Str → Option Value} {base : Heap}
abbrev nRegisters : List Str := ["net", "start", "end", "held"]
abbrev DRegisters (P : Program) (w : World) (K : PySem.W.Frag) (mg : Str → Option Value) (base : Heap) (C : Addr) := Df P w K mg base 1 "registers" ["net"] (spRegisters K C)
abbrev nPlainFlow : List Str := ["net", "bounds", "places", "start", "end", "room", "piece", "ends", "told", "place"]
abbrev DPlainFlow (P : Program) (w : World) (K : PySem.W.Frag) (mg : Str → Option Value) (base : Heap) (C : Addr) := Df P w K mg base 3 "plain_flow" ["net", "bounds", "places"] (spPlainFlow K C)
end
end Lag

set_option maxRecDepth 100000
set_option maxHeartbeats 8000000
namespace Lag
open PySem PySem.Spec PyProof.Rows L2
theorem ent_len {K : PySem.W.Frag} {H : Hp} {ev : List V} {es : List Ent} (h : All2 (EntV K H) ev es) : ev.length = es.length := h.1
theorem dlP_eq {gs : List Gt} {ws : List Wr} {pc : Pce} {e : Nat} (g : Nat) (h : Pw ws pc.1 pc.2 e) : dlP ws g pc = dl g pc.1 - dl g e := by
  unfold dlP
  rw [endW_of h]
/-- an entry whose piece's list is not D -/
def EntD (K : PySem.W.Frag) (Z : Addr → Prop) (D : Addr) (H : Hp) (v : V) (e : Ent) : Prop := ∃ a b l, v = .ref a ∧ SqT K H a [.ref b, .int e.2] ∧ SqT K H b [.int ((e.1.1 : Nat) : Int), .ref l] ∧ H l = some (.lst (nvs e.1.2)) ∧ l ≠ D ∧ ¬ Z l
theorem EntD.same {K : PySem.W.Frag} {Z : Addr → Prop} {D : Addr} {H H' : Hp} {v : V} {e : Ent} (s : Same H H') (h : EntD K Z D H v e) : EntD K Z D H' v e := by
  obtain ⟨a, b, l, e', h1, h2, h3, h4⟩ := h
  exact ⟨a, b, l, e', (TK.same s).seq h1, (TK.same s).seq h2, s _ _ h3, h4⟩
theorem EntD.mut {K : PySem.W.Frag} {Z : Addr → Prop} {D : Addr} {H : Hp} {xs : List V} {o : HO} {v : V} {e : Ent} (hD : H D = some (.lst xs)) (h : EntD K Z D H v e) : EntD K Z D (upd H D o) v e := by
  obtain ⟨a, b, l, e', h1, h2, h3, h4⟩ := h
  exact ⟨a, b, l, e', (TK.lst hD).seq h1, (TK.lst hD).seq h2, (upd_ne h4.1).trans h3, h4⟩
theorem EntD.entz {K : PySem.W.Frag} {Z : Addr → Prop} {D : Addr} {H : Hp} {v : V} {e : Ent} (h : EntD K Z D H v e) : EntZ K Z H v e := by
  obtain ⟨a, b, l, e', h1, h2, h3, _, h4⟩ := h
  exact ⟨a, b, l, e', h1, h2, h3, h4⟩
theorem int_atF {l : List Int} {i : Nat} {x : V} (h : (l.map V.int)[i]? = some x) : ∃ z, l[i]? = some z ∧ x = V.int z := by
  rw [List.getElem?_map] at h
  cases e : l[i]? with
  | none =>
    rw [e] at h
    cases h
  | some z =>
    rw [e] at h
    cases h
    exact ⟨z, rfl, rfl⟩
section
variable {P : Program} {w : World} {K : PySem.W.Frag} {mg : Str → Option Value} {base : Heap}
abbrev nPaperOf : List Str := ["bounds", "flow", "start", "end", "room", "piece", "many"]
abbrev DPaperOf (P : Program) (w : World) (K : PySem.W.Frag) (mg : Str → Option Value) (base : Heap) := Df P w K mg base 1 "paper_of" ["bounds", "flow"] (spPaperOf K)
abbrev nRoomIn : List Str := ["net", "beat", "paper", "piece", "many"]
abbrev DRoomIn (P : Program) (w : World) (K : PySem.W.Frag) (mg : Str → Option Value) (base : Heap) (C : Addr) := Df P w K mg base 4 "room_in" ["net", "beat", "paper"] (spRoomIn K C)
abbrev nNumPiece : List Str := ["net", "thing", "piece", "many"]
abbrev DNumPiece (P : Program) (w : World) (K : PySem.W.Frag) (mg : Str → Option Value) (base : Heap) (C : Addr) := Df P w K mg base 4 "is_numbered_piece" ["net", "thing"] (spNumPiece K C)
abbrev nIsPaper : List Str := ["net", "thing", "entry"]
abbrev DIsPaper (P : Program) (w : World) (K : PySem.W.Frag) (mg : Str → Option Value) (base : Heap) (C : Addr) := Df P w K mg base 5 "is_paper" ["net", "thing"] (spIsPaper K C)
abbrev nGateFault : List Str := ["net", "paper", "places", "more", "piece", "many", "place", "number", "gate"]
abbrev DGateFault (P : Program) (w : World) (K : PySem.W.Frag) (mg : Str → Option Value) (base : Heap) (C : Addr) := Df P w K mg base 2 "gate_fault" ["net", "paper", "places"] (spGateFault K C)
abbrev nPaperFault : List Str := ["net", "beat", "thing"]
abbrev DPaperFault (P : Program) (w : World) (K : PySem.W.Frag) (mg : Str → Option Value) (base : Heap) (C : Addr) := Df P w K mg base 6 "paper_fault" ["net", "beat", "thing"] (spPaperFault K C)
abbrev nBoundOf : List Str := ["net", "thing", "beat"]
abbrev DBoundOf (P : Program) (w : World) (K : PySem.W.Frag) (mg : Str → Option Value) (base : Heap) (C : Addr) := Df P w K mg base 7 "bound_of" ["net", "thing", "beat"] (spBoundOf K C)
abbrev nLetBounds : List Str := ["net", "beat", "kind", "told"]
abbrev DLetBounds (P : Program) (w : World) (K : PySem.W.Frag) (mg : Str → Option Value) (base : Heap) (C : Addr) := Df P w K mg base 5 "let_bounds" ["net", "beat"] (spLetBounds K C)
end
end Lag

set_option maxRecDepth 100000
set_option maxHeartbeats 8000000
namespace Lag
open PySem PySem.Spec PyProof.Rows L2
theorem papF_len {bps : List (Bnd × Pce)} {f : List Int} : (papF bps f).length ≤ bps.length := by
  unfold papF
  rw [List.length_map]
  refine Nat.le_trans (List.length_filter_le _ _) ?_
  rw [List.length_zip]
  exact Nat.min_le_left _ _
theorem BdsOk.satL {gs : List Gt} {ws : List Wr} {b : Int} {bps : List (Bnd × Pce)} {L : Nat → Int} (N : NetOk gs ws) (h : BdsOk gs ws b (bps.map fun bp => bp.2) (bps.map fun bp => bp.1)) (f : Feas gs ws b L) : Sat (bps.map fun bp => bp.1) (spotL gs L) := fun bd hb => by
  obtain ⟨i, hi⟩ := List.getElem?_of_mem hb
  obtain ⟨pc, _, e, h1, h2, rfl⟩ := h.al.getR hi
  show spotL gs L (spotF gs pc.1) ≤ spotL gs L (spotF gs e) + roomF gs ws b pc
  rw [f.spot h1, f.spot (h2.lt N h1)]
  exact f.room h1 h2
theorem lagsAt_wdl (gs : List Gt) (ws : List Wr) (G : Nat → Int) : wdl (lagsAt gs G) ws = wdl (fun x => G (spotF gs x)) ws := by
  unfold wdl
  refine congrArg List.sum (List.map_congr_left fun x _ => ?_)
  show G (spotF gs x.1) - G gs.length - (G (spotF gs x.2.1) - G gs.length) = G (spotF gs x.1) - G (spotF gs x.2.1)
  omega
theorem kept_room {gs : List Gt} {ws : List Wr} {b R : Int} {bps : List (Bnd × Pce)} {g : List Int} {ks : List Kpt} (h : BdsOk gs ws b (bps.map fun bp => bp.2) (bps.map fun bp => bp.1)) (hpce : ∀ bp ∈ bps, PceOk gs ws bp.2 ∧ bp.2.2.length ≤ 1000) (hR : 1 ≤ R) (hb : ∀ s e c, s < gs.length → best gs ws s e = some c → c.1 ≤ R) (k : Kept (bps.map fun bp => bp.1) g ks) : ∀ b ∈ ks.map (fun e => e.1), -R ≤ b.2.2 := fun bd hm => by
  obtain ⟨e, he, rfl⟩ := List.mem_map.mp hm
  obtain ⟨b0, h1, h2⟩ := k.ok e he
  obtain ⟨bp, hbp, rfl⟩ := List.mem_map.mp (List.mem_of_getElem? h1)
  have h3 := h.bp bp hbp
  obtain ⟨e', h4, h5⟩ := h.bst bp.2 (List.mem_map.mpr ⟨bp, hbp, rfl⟩)
  have h6 := hb _ _ _ (hpce bp hbp).1.1 h5
  have h6 : prg ws bp.2.2 ≤ R := h6
  have h7 := prg_nn ws bp.2.2
  have h8 : -1 ≤ bp.1.2.2 ∧ bp.1.2.2 ≤ R := by
    rw [h3]
    show -1 ≤ roomF gs ws b bp.2 ∧ roomF gs ws b bp.2 ≤ R
    unfold roomF
    split <;> omega
  rcases h2 with ⟨_, h9⟩ | ⟨_, h9, _⟩
  · rw [h9]
    omega
  · rw [h9]
    show -R ≤ -bp.1.2.2
    omega
section
variable {P : Program} {w : World} {K : PySem.W.Frag} {mg : Str → Option Value} {base : Heap}
abbrev nFewest : List Str := ["net", "beat", "bounds", "flow", "kept", "paper"]
abbrev DFewest (P : Program) (w : World) (K : PySem.W.Frag) (mg : Str → Option Value) (base : Heap) (C : Addr) := Df P w K mg base 8 "fewest" ["net", "beat"] (spFewest K C)
end
end Lag

set_option maxRecDepth 100000
set_option maxHeartbeats 8000000
namespace Lag
open PySem PySem.Spec PyProof.Rows L2
/-! ### shared registers: the mathematics -/
def cntW (L : Nat → Int) (x : Wr) : Int := ((x.2.2.length : Nat) : Int) + L x.2.1 - L x.1
/-- the greatest of the numbers, or 0 -/
def mx0 : List Int → Int
  | [] => 0
  | a :: l => if a < mx0 l then mx0 l else a
theorem mx0_le {l : List Int} {m : Int} (h0 : 0 ≤ m) (h : ∀ y ∈ l, y ≤ m) : mx0 l ≤ m := by
  induction l with
  | nil => exact h0
  | cons a l ih =>
    have h1 := h a (List.mem_cons_self ..)
    have h2 := ih fun y hy => h y (List.mem_cons_of_mem _ hy)
    unfold mx0
    split <;> omega
theorem le_mx0 {l : List Int} {y : Int} (h : y ∈ l) : y ≤ mx0 l := by
  induction l with
  | nil => cases h
  | cons a l ih =>
    unfold mx0
    rcases List.mem_cons.mp h with h | h
    · rw [h]
      split <;> omega
    · have := ih h
      split <;> omega
/-- the greatest number of a list of numbers from 0 on, told by its bounds -/
theorem mx0_eq {l : List Int} {m : Int} (hm : m ∈ l) (h : ∀ y ∈ l, y ≤ m) (h0 : ∀ y ∈ l, 0 ≤ y) : mx0 l = m := by
  have h1 := mx0_le (h0 m hm) h
  have h2 := le_mx0 hm
  omega
def givB (ws : List Wr) (g : Nat) : Bool := ws.any fun x => x.1 == g
theorem givB_iff {ws : List Wr} {g : Nat} : givB ws g = true ↔ ∃ x ∈ ws, x.1 = g := by
  unfold givB
  rw [List.any_eq_true]
  constructor
  · rintro ⟨x, hx, h⟩
    exact ⟨x, hx, beq_iff_eq.mp h⟩
  · rintro ⟨x, hx, h⟩
    exact ⟨x, hx, beq_iff_eq.mpr h⟩
/-- the gates out of which a wire leads -/
def givL (n : Nat) (ws : List Wr) : List Nat := (List.range n).filter (givB ws)
theorem givL_nd (n : Nat) (ws : List Wr) : (givL n ws).Nodup := List.Pairwise.filter _ List.nodup_range
theorem mem_givL {n : Nat} {ws : List Wr} {g : Nat} : g ∈ givL n ws ↔ g < n ∧ ∃ x ∈ ws, x.1 = g := by
  unfold givL
  rw [List.mem_filter, List.mem_range, givB_iff]
/-- the counts of the wires out of a gate -/
def outC (ws : List Wr) (L : Nat → Int) (g : Nat) : List Int := (ws.filter fun x => x.1 == g).map (cntW L)
theorem mem_outC {ws : List Wr} {L : Nat → Int} {g : Nat} {c : Int} : c ∈ outC ws L g ↔ ∃ x ∈ ws, x.1 = g ∧ cntW L x = c := by
  unfold outC
  rw [List.mem_map]
  constructor
  · rintro ⟨x, hx, h⟩
    obtain ⟨h1, h2⟩ := List.mem_filter.mp hx
    exact ⟨x, h1, beq_iff_eq.mp h2, h⟩
  · rintro ⟨x, hx, h1, h2⟩
    exact ⟨x, List.mem_filter.mpr ⟨hx, beq_iff_eq.mpr h1⟩, h2⟩
/-- the shared registers with these lags -/
def sharedF (n : Nat) (ws : List Wr) (L : Nat → Int) : Int := ((givL n ws).map fun g => mx0 (outC ws L g)).sum
theorem map_sum_le {α : Type} {f g : α → Int} {l : List α} (h : ∀ x ∈ l, f x ≤ g x) : (l.map f).sum ≤ (l.map g).sum := by
  induction l with
  | nil => exact Int.le_refl _
  | cons a l ih =>
    have h1 := h a (List.mem_cons_self ..)
    have h2 := ih fun y hy => h y (List.mem_cons_of_mem _ hy)
    rw [List.map_cons, List.map_cons, List.sum_cons, List.sum_cons]
    omega
theorem perm_sumI {l l' : List Int} (h : l.Perm l') : l.sum = l'.sum := by
  induction h with
  | nil => rfl
  | cons x _ ih => rw [List.sum_cons, List.sum_cons, ih]
  | swap x y l =>
    rw [List.sum_cons, List.sum_cons, List.sum_cons, List.sum_cons]
    omega
  | trans _ _ h1 h2 => exact h1.trans h2
/-- a wire picked out of each gate out of which one leads -/
def PickW (n : Nat) (ws us : List Wr) : Prop := (∀ x ∈ us, x ∈ ws) ∧ (us.map fun x => x.1).Perm (givL n ws)
theorem PickW.sum {n : Nat} {ws us : List Wr} (h : PickW n ws us) (φ : Nat → Int) : (us.map fun x => φ x.1).sum = ((givL n ws).map φ).sum := by
  have := perm_sumI (h.2.map φ)
  rw [List.map_map] at this
  exact this
theorem psum_lin {gs : List Gt} {ws us : List Wr} {es : List Ent} (hu : ∀ x ∈ us, x ∈ ws) (N : NetOk gs ws) (hb : BalP gs ws us es) (ho : ∀ e ∈ es, EntOk gs ws e) (L : Nat → Int) (hL : ∀ g, g < gs.length → portK (kindAt gs g) → L g = 0) : psum (fun pc => L pc.1 - L (endW ws pc.1 pc.2)) es = wdl L us := by
  have key : ∀ (G : Nat → Int) (n : Nat), n ≤ gs.length → (∀ g, g < n → portK (kindAt gs g) → G g = 0) → (∀ g, n ≤ g → G g = 0) → psum (fun pc => G pc.1 - G (endW ws pc.1 pc.2)) es = wdl G us := by
    intro G n
    induction n generalizing G with
    | zero =>
      intro _ _ h2
      have z : ∀ x, G x = 0 := fun x => h2 x (Nat.zero_le _)
      have a1 : psum (fun pc => G pc.1 - G (endW ws pc.1 pc.2)) es = 0 := by
        clear hb ho
        induction es with
        | nil => rfl
        | cons e r ih =>
          rw [psum_cons, ih, z, z]
          simp
      have gen : ∀ r : List Wr, wdl G r = 0 := fun r => by
        induction r with
        | nil => rfl
        | cons x r ih => rw [wdl_cons, z, z, ih]; rfl
      have a2 := gen us
      rw [a1, a2]
    | succ n ih =>
      intro hn hp h2
      have ih := ih (fun x => if x = n then 0 else G x) (by omega) (fun g hg hk => by
        show (if g = n then 0 else G g) = 0
        rw [if_neg (by omega)]
        exact hp g (by omega) hk) (fun g hg => by
        show (if g = n then 0 else G g) = 0
        by_cases e : g = n
        · rw [if_pos e]
        · rw [if_neg e]
          exact h2 g (by omega))
      have sp : ∀ x, G x = (if x = n then 0 else G x) + G n * dl n x := fun x => by
        unfold dl
        by_cases e : x = n
        · rw [if_pos e, if_pos e, e]
          omega
        · rw [if_neg e, if_neg e]
          omega
      have gen2 : ∀ r : List Ent, psum (fun pc => G pc.1 - G (endW ws pc.1 pc.2)) r = psum (fun pc => (if pc.1 = n then 0 else G pc.1) - (if endW ws pc.1 pc.2 = n then 0 else G (endW ws pc.1 pc.2))) r + G n * psum (dlP ws n) r := fun r => by
        induction r with
        | nil =>
          show (0 : Int) = 0 + G n * 0
          omega
        | cons e r ih2 =>
          rw [psum_cons, psum_cons, psum_cons, ih2]
          have a := sp e.1.1
          have b' := sp (endW ws e.1.1 e.1.2)
          generalize (if e.1.1 = n then (0 : Int) else G e.1.1) = u at a ⊢
          generalize (if endW ws e.1.1 e.1.2 = n then (0 : Int) else G (endW ws e.1.1 e.1.2)) = v at b' ⊢
          unfold dlP
          rw [a, b', Int.mul_add, ← Int.mul_assoc, Int.mul_sub, show u + G n * dl n e.1.1 - (v + G n * dl n (endW ws e.1.1 e.1.2)) = (u - v) + (G n * dl n e.1.1 - G n * dl n (endW ws e.1.1 e.1.2)) by omega, Int.add_mul]
          omega
      have a1 := gen2 es
      have gen : ∀ r : List Wr, wdl G r = wdl (fun x => if x = n then 0 else G x) r + G n * wdl (dl n) r := fun r => by
        induction r with
        | nil =>
          show (0 : Int) = 0 + G n * 0
          omega
        | cons x r ih3 =>
          rw [wdl_cons, wdl_cons, wdl_cons, ih3]
          have a := sp x.1
          have b' := sp x.2.1
          generalize (if x.1 = n then (0 : Int) else G x.1) = u at a ⊢
          generalize (if x.2.1 = n then (0 : Int) else G x.2.1) = v at b' ⊢
          rw [a, b', Int.mul_add, Int.mul_sub]
          omega
      have a2 := gen us
      rw [a1, a2, ih]
      by_cases hk : portK (kindAt gs n)
      · rw [hp n (Nat.lt_succ_self _) hk, Int.zero_mul, Int.zero_mul]
      · rw [hb n (by omega) hk]
  have h2 := key (fun x => if x < gs.length then L x else 0) gs.length (Nat.le_refl _) (fun g hg hk => by
    show (if g < gs.length then L g else 0) = 0
    rw [if_pos hg]
    exact hL g hg hk) (fun g hg => by
    show (if g < gs.length then L g else 0) = 0
    rw [if_neg (by omega)])
  have h3 : wdl (fun x => if x < gs.length then L x else 0) us = wdl L us := by
    unfold wdl
    refine congrArg List.sum (List.map_congr_left fun x hx => ?_)
    have WX := N.wok x (hu x hx)
    show (if x.1 < gs.length then L x.1 else 0) - (if x.2.1 < gs.length then L x.2.1 else 0) = _
    rw [if_pos WX.s, if_pos WX.e]
  have h4 : psum (fun pc => (if pc.1 < gs.length then L pc.1 else 0) - (if endW ws pc.1 pc.2 < gs.length then L (endW ws pc.1 pc.2) else 0)) es = psum (fun pc => L pc.1 - L (endW ws pc.1 pc.2)) es := by
    unfold psum
    refine congrArg List.sum (List.map_congr_left fun e he => ?_)
    obtain ⟨⟨k1, m, k2⟩, _⟩ := ho e he
    have k3 := k2.lt N k1
    dsimp only
    rw [endW_of k2, if_pos k1, if_pos k3]
  rw [← h4, h2, h3]
/-- a shared paper tells how few there may be -/
theorem shp_le {gs : List Gt} {ws us : List Wr} {b : Int} {es : List Ent} {L : Nat → Int} (N : NetOk gs ws) (hp : PickW gs.length ws us) (hb : BalP gs ws us es) (ho : ∀ e ∈ es, EntOk gs ws e) (f : Feas gs ws b L) : regsum us - psum (roomF gs ws b) es ≤ sharedF gs.length ws L := by
  have h1 : psum (fun pc => L pc.1 - L (endW ws pc.1 pc.2)) es ≤ psum (roomF gs ws b) es := by
    clear hb
    induction es with
    | nil => exact Int.le_refl 0
    | cons e r ih =>
      have ih := ih fun x hx => ho x (List.mem_cons_of_mem _ hx)
      obtain ⟨⟨k1, m, k2⟩, k3, k4⟩ := ho e (List.mem_cons_self ..)
      have k5 := f.room k1 k2
      have k6 : L e.1.1 - L (endW ws e.1.1 e.1.2) ≤ roomF gs ws b e.1 := by
        rw [endW_of k2]
        have k5 : L e.1.1 ≤ L m + roomF gs ws b e.1 := k5
        omega
      have k7 := Int.mul_le_mul_of_nonneg_right k6 (show 0 ≤ e.2 by omega)
      rw [psum_cons, psum_cons]
      omega
  rw [psum_lin hp.1 N hb ho L f.out] at h1
  have h2 := cntsum_eq us L
  have h3 : cntsum us L ≤ sharedF gs.length ws L := by
    unfold sharedF
    rw [← hp.sum fun g => mx0 (outC ws L g)]
    unfold cntsum
    exact map_sum_le fun x hx => le_mx0 (mem_outC.mpr ⟨x, hp.1 x hx, rfl, rfl⟩)
  omega
/-! ### the flow's tails -/
def tailB (gs : List Gt) (x : Wr) : Bnd := (spotF gs x.2.1, gs.length + 1 + x.1, -((x.2.2.length : Nat) : Int))
def tailsF (gs : List Gt) (ws : List Wr) : List Bnd := ws.map (tailB gs)
theorem wsum_app (c : Bnd → Int) : ∀ {A B : List Bnd} {f : List Int}, A.length ≤ f.length → wsum c (A ++ B) f = wsum c A (f.take A.length) + wsum c B (f.drop A.length)
  | [], B, f, _ => by
    rw [wsum_nil]
    show wsum c B f = 0 + wsum c B (f.drop 0)
    rw [List.drop_zero]
    omega
  | a :: A, B, [], h => by cases h
  | a :: A, B, x :: f, h => by
    have ih := wsum_app c (A := A) (B := B) (f := f) (Nat.le_of_succ_le_succ h)
    show c a * x + wsum c (A ++ B) f = c a * x + wsum c A (f.take A.length) + wsum c B (f.drop A.length)
    rw [ih]
    omega
/-- the wires at places where the number is above 0 -/
def posW (ws : List Wr) (f : List Int) : List Wr := ((ws.zip f).filter fun p => decide (0 < p.2)).map fun p => p.1
theorem posW_cons {x : Wr} {ws : List Wr} {y : Int} {f : List Int} : posW (x :: ws) (y :: f) = (if 0 < y then [x] else []) ++ posW ws f := by
  unfold posW
  by_cases e : 0 < y
  · rw [if_pos e]
    show List.map _ (List.filter _ ((x, y) :: ws.zip f)) = _
    rw [List.filter_cons_of_pos (by rw [decide_eq_true_iff]; exact e)]
    rfl
  · rw [if_neg e]
    show List.map _ (List.filter _ ((x, y) :: ws.zip f)) = _
    rw [List.filter_cons_of_neg (by rw [decide_eq_true_iff]; exact e)]
    rfl
theorem posW_sub {ws : List Wr} {f : List Int} {x : Wr} (h : x ∈ posW ws f) : x ∈ ws := by
  unfold posW at h
  obtain ⟨p, hp, rfl⟩ := List.mem_map.mp h
  exact (List.of_mem_zip (List.mem_filter.mp hp).1).1
/-- of a list of numbers 0 and 1 -/
theorem tails01 {gs : List Gt} (c : Bnd → Int) : ∀ {ws : List Wr} {f : List Int}, ws.length = f.length → (∀ y ∈ f, y = 0 ∨ y = 1) → wsum c (tailsF gs ws) f = ((posW ws f).map fun x => c (tailB gs x)).sum
  | [], [], _, _ => rfl
  | [], _ :: _, h, _ => by cases h
  | _ :: _, [], h, _ => by cases h
  | x :: ws, y :: f, h, h01 => by
    have ih := tails01 c (gs := gs) (ws := ws) (f := f) (by simpa using h) fun z hz => h01 z (List.mem_cons_of_mem _ hz)
    show c (tailB gs x) * y + wsum c (tailsF gs ws) f = _
    rw [ih, posW_cons, List.map_append, List.sum_append]
    rcases h01 y (List.mem_cons_self ..) with e | e
    · rw [e, Int.mul_zero, if_neg (by decide)]
      rfl
    · rw [e, Int.mul_one, if_pos (by decide)]
      show _ = (c (tailB gs x) + 0) + _
      omega
def atG (s : Nat) (x : Wr) : Int := if x.1 = s then 1 else 0
/-- how much leads out of a gate -/
def outF (ws : List Wr) (f : List Int) (s : Nat) : Int := ((ws.zip f).map fun p => atG s p.1 * p.2).sum
theorem outF_cons (x : Wr) (ws : List Wr) (y : Int) (f : List Int) (s : Nat) : outF (x :: ws) (y :: f) s = atG s x * y + outF ws f s := by
  unfold outF
  rw [List.zip_cons_cons, List.map_cons, List.sum_cons]
theorem outF_nn : ∀ {ws : List Wr} {f : List Int} (s : Nat), (∀ y ∈ f, 0 ≤ y) → 0 ≤ outF ws f s
  | [], _, _, _ => Int.le_refl 0
  | _ :: _, [], _, _ => Int.le_refl 0
  | x :: ws, y :: f, s, h => by
    have ih := outF_nn (ws := ws) (f := f) s fun z hz => h z (List.mem_cons_of_mem _ hz)
    have hy := h y (List.mem_cons_self ..)
    rw [outF_cons]
    unfold atG
    split
    · rw [Int.one_mul]; omega
    · rw [Int.zero_mul]; omega
theorem outF_le : ∀ {ws : List Wr} {f : List Int} {x : Wr} {y : Int} {i : Nat}, (∀ y ∈ f, 0 ≤ y) → ws[i]? = some x → f[i]? = some y → y ≤ outF ws f x.1
  | [], _, _, _, i, _, h, _ => by cases h
  | _ :: _, [], _, _, i, _, _, h => by cases h
  | x' :: ws, y' :: f, x, y, 0, h, h1, h2 => by
    cases h1
    cases h2
    have := outF_nn (ws := ws) (f := f) x'.1 fun z hz => h z (List.mem_cons_of_mem _ hz)
    rw [outF_cons]
    unfold atG
    rw [if_pos rfl, Int.one_mul]
    omega
  | x' :: ws, y' :: f, x, y, i + 1, h, h1, h2 => by
    have ih := outF_le (ws := ws) (f := f) (x := x) (y := y) (i := i) (fun z hz => h z (List.mem_cons_of_mem _ hz)) h1 h2
    have hy := h y' (List.mem_cons_self ..)
    rw [outF_cons]
    unfold atG
    split
    · rw [Int.one_mul]; omega
    · rw [Int.zero_mul]; omega
theorem outF_count : ∀ {ws : List Wr} {f : List Int} (s : Nat), (∀ y ∈ f, y = 0 ∨ y = 1) → outF ws f s = ((((posW ws f).map fun x => x.1).count s : Nat) : Int)
  | [], _, _, _ => rfl
  | _ :: _, [], _, _ => rfl
  | x :: ws, y :: f, s, h => by
    have ih := outF_count (ws := ws) (f := f) s fun z hz => h z (List.mem_cons_of_mem _ hz)
    rw [outF_cons, ih, posW_cons, List.map_append, List.count_append]
    unfold atG
    rcases h y (List.mem_cons_self ..) with e | e
    · rw [e, Int.mul_zero, show (if (0 : Int) < 0 then [x] else []) = [] from rfl]
      show _ = (((0 : Nat) + _ : Nat) : Int)
      omega
    · rw [e, Int.mul_one, show (if (0 : Int) < 1 then [x] else []) = [x] from rfl, List.map_cons, List.map_nil, List.count_singleton]
      by_cases z : x.1 = s
      · rw [if_pos z, if_pos (by rw [beq_iff_eq]; exact z)]
        omega
      · rw [if_neg z, if_neg (by rw [beq_iff_eq]; exact z)]
        omega
theorem outF_tails {gs : List Gt} : ∀ {ws : List Wr} {f : List Int} (s : Nat), (∀ x ∈ ws, x.2.1 < gs.length) → wsum (dF fun v => if v = gs.length + 1 + s then (1 : Int) else 0) (tailsF gs ws) f = -outF ws f s
  | [], f, s, _ => by
    show wsum _ [] f = _
    rw [wsum_nil]
    rfl
  | x :: ws, [], s, _ => rfl
  | x :: ws, y :: f, s, h => by
    have ih := outF_tails (ws := ws) (f := f) s fun z hz => h z (List.mem_cons_of_mem _ hz)
    have hx := spot_le (gs := gs) x.2.1 (h x (List.mem_cons_self ..))
    show dF (fun v => if v = gs.length + 1 + s then (1 : Int) else 0) (tailB gs x) * y + wsum _ (tailsF gs ws) f = _
    rw [ih, outF_cons]
    have : dF (fun v => if v = gs.length + 1 + s then (1 : Int) else 0) (tailB gs x) = -atG s x := by
      show (if spotF gs x.2.1 = gs.length + 1 + s then (1 : Int) else 0) - (if gs.length + 1 + x.1 = gs.length + 1 + s then (1 : Int) else 0) = -atG s x
      unfold atG
      rw [if_neg (by omega)]
      by_cases e : x.1 = s
      · rw [if_pos (by omega), if_pos e]; rfl
      · rw [if_neg (by omega), if_neg e]; rfl
    rw [this, Int.neg_mul]
    omega
theorem wsum_none {c : Bnd → Int} {A : List Bnd} {f : List Int} (h : ∀ b ∈ A, c b = 0) : wsum c A f = 0 := by
  rw [wsum_eq (c' := fun _ => 0) fun j b x h1 _ => .inr (h b (List.mem_of_getElem? h1))]
  induction A generalizing f with
  | nil => exact wsum_nil _ _
  | cons a A ih =>
    cases f with
    | nil => rfl
    | cons x f =>
      show 0 * x + wsum _ A f = 0
      rw [ih fun b hb => h b (List.mem_cons_of_mem _ hb), Int.zero_mul]
      rfl
theorem count_givL {n : Nat} {ws : List Wr} (s : Nat) : (givL n ws).count s ≤ 1 := List.nodup_iff_count.mp (givL_nd n ws) s
theorem sum_sub {α : Type} (f g : α → Int) (l : List α) : (l.map fun x => f x - g x).sum = (l.map f).sum - (l.map g).sum := by
  induction l with
  | nil => rfl
  | cons a l ih =>
    rw [List.map_cons, List.map_cons, List.map_cons, List.sum_cons, List.sum_cons, List.sum_cons, ih]
    omega
theorem sum_neg {α : Type} (f : α → Int) (l : List α) : (l.map fun x => -f x).sum = -(l.map f).sum := by
  induction l with
  | nil => rfl
  | cons a l ih =>
    rw [List.map_cons, List.map_cons, List.sum_cons, List.sum_cons, ih]
    omega
theorem sum_ind (s : Nat) : ∀ l : List Wr, (l.map fun x => if x.1 = s then (1 : Int) else 0).sum = (((l.map fun x => x.1).count s : Nat) : Int)
  | [] => rfl
  | x :: l => by
    rw [List.map_cons, List.sum_cons, sum_ind s l, List.map_cons, List.count_cons]
    by_cases e : x.1 = s
    · rw [if_pos e, if_pos (by rw [beq_iff_eq]; exact e)]
      push_cast
      omega
    · rw [if_neg e, if_neg (by rw [beq_iff_eq]; exact e)]
      omega
theorem outsum_eq {n : Nat} {ws us fus : List Wr} (h1 : PickW n ws us) (h2 : PickW n ws fus) (φ : Nat → Int) : (us.map fun x => φ x.1).sum = (fus.map fun x => φ x.1).sum := by
  rw [h1.sum, h2.sum]
/-- what the least flow tells: a pick, balanced pieces, lags, and that the numbers meet -/
theorem share_main {gs : List Gt} {ws fus : List Wr} {b : Int} {bps : List (Bnd × Pce)} {g : List Int} {ks : List Kpt} {G : Nat → Int} (N : NetOk gs ws) (bok : BdsOk gs ws b (bps.map fun bp => bp.2) (bps.map fun bp => bp.1)) (hgl : g.length = bps.length + ws.length) (hg0 : ∀ x ∈ g, 0 ≤ x)
    (hf : PickW gs.length ws fus) (gt : ∀ F, wsum (dF F) ((bps.map fun bp => bp.1) ++ tailsF gs ws) g = (fus.map fun x => F (spotF gs x.1) - F (gs.length + 1 + x.1)).sum) (kp : Kept ((bps.map fun bp => bp.1) ++ tailsF gs ws) g ks) (S : Sat (ks.map fun e => e.1) G) (eok : ∀ e ∈ papF bps (g.take bps.length), EntOk gs ws e) :
    PickW gs.length ws (posW ws (g.drop bps.length)) ∧ BalP gs ws (posW ws (g.drop bps.length)) (papF bps (g.take bps.length)) ∧ Feas gs ws b (lagsAt gs G) ∧ (∀ y ∈ g.drop bps.length, y = 0 ∨ y = 1) ∧
      regsum (posW ws (g.drop bps.length)) - psum (roomF gs ws b) (papF bps (g.take bps.length)) = sharedF gs.length ws (lagsAt gs G) := by
  have hAl : (bps.map fun bp => bp.1).length ≤ g.length := by rw [List.length_map]; omega
  have sp : ∀ c, wsum c ((bps.map fun bp => bp.1) ++ tailsF gs ws) g = wsum c (bps.map fun bp => bp.1) (g.take bps.length) + wsum c (tailsF gs ws) (g.drop bps.length) := fun c => by
    rw [wsum_app c hAl, List.length_map]
  have h1n : ∀ x ∈ g.take bps.length, 0 ≤ x := fun x hx => hg0 x (List.mem_of_mem_take hx)
  have h2n : ∀ x ∈ g.drop bps.length, 0 ≤ x := fun x hx => hg0 x (List.mem_of_mem_drop hx)
  have h2l : (g.drop bps.length).length = ws.length := by rw [List.length_drop]; omega
  have we : ∀ x ∈ ws, x.2.1 < gs.length := fun x hx => (N.wok x hx).e
  have wS : ∀ x ∈ ws, x.1 < gs.length := fun x hx => (N.wok x hx).s
  generalize g.take bps.length = g1 at *
  generalize g.drop bps.length = g2 at *
  -- out of each gate 1 in all, where a wire leads
  have out1 : ∀ s, outF ws g2 s = (((givL gs.length ws).count s : Nat) : Int) := fun s => by
    have e := gt fun v => if v = gs.length + 1 + s then (1 : Int) else 0
    rw [sp, outF_tails s we, wsum_none fun bd hb => ?_] at e
    · have e2 : (fus.map fun x => (if spotF gs x.1 = gs.length + 1 + s then (1 : Int) else 0) - (if gs.length + 1 + x.1 = gs.length + 1 + s then (1 : Int) else 0)) = fus.map fun x => -(if x.1 = s then (1 : Int) else 0) := List.map_congr_left fun x hx => by
        have h3 := spot_le (gs := gs) x.1 (wS x (hf.1 x hx))
        rw [if_neg (by omega)]
        by_cases z : x.1 = s
        · rw [if_pos (by omega), if_pos z]; rfl
        · rw [if_neg (by omega), if_neg z]; rfl
      rw [e2, sum_neg, sum_ind, hf.2.count_eq s] at e
      omega
    · have := bok.below N bd hb
      show (if bd.1 = gs.length + 1 + s then (1 : Int) else 0) - (if bd.2.1 = gs.length + 1 + s then (1 : Int) else 0) = 0
      rw [if_neg (by omega), if_neg (by omega)]
      rfl
  have h01 : ∀ y ∈ g2, y = 0 ∨ y = 1 := fun y hy => by
    obtain ⟨i, hi⟩ := List.getElem?_of_mem hy
    have hil : i < ws.length := by rw [← h2l]; exact (List.getElem?_eq_some_iff.mp hi).1
    have h3 := outF_le h2n (List.getElem?_eq_getElem hil) hi
    rw [out1] at h3
    have h4 := count_givL (n := gs.length) (ws := ws) ws[i].1
    have h5 := h2n y hy
    omega
  have PW : PickW gs.length ws (posW ws g2) := by
    refine ⟨fun x hx => posW_sub hx, List.perm_iff_count.mpr fun s => ?_⟩
    have e1 := outF_count (ws := ws) s h01
    rw [out1] at e1
    omega
  have tl : ∀ c, wsum c (tailsF gs ws) g2 = ((posW ws g2).map fun x => c (tailB gs x)).sum := fun c => tails01 c h2l.symm h01
  have hbp := bok.bp
  have BAL : BalP gs ws (posW ws g2) (papF bps g1) := fun q hq hp => by
    rw [papF_sum (c' := dF (dl q)) (fun bp hbp' => ?_) h1n]
    · have e := gt (dl q)
      rw [sp, tl] at e
      have e1 : ((posW ws g2).map fun x => dF (dl q) (tailB gs x)) = (posW ws g2).map fun x => dl q x.2.1 := List.map_congr_left fun x hx => by
        show dl q (spotF gs x.2.1) - dl q (gs.length + 1 + x.1) = _
        rw [dl_spot hq hp]
        unfold dl
        rw [if_neg (show ¬ gs.length + 1 + x.1 = q by omega)]
        omega
      have e2 : (fus.map fun x => dl q (spotF gs x.1) - dl q (gs.length + 1 + x.1)) = fus.map fun x => dl q x.1 := List.map_congr_left fun x hx => by
        rw [dl_spot hq hp]
        unfold dl
        rw [if_neg (show ¬ gs.length + 1 + x.1 = q by omega)]
        omega
      rw [e1, e2, ← outsum_eq PW hf (dl q)] at e
      unfold wdl
      rw [sum_sub]
      omega
    · rw [hbp bp hbp']
      show dl q _ - dl q _ = dl q _ - dl q _
      rw [dl_spot hq hp, dl_spot hq hp]
  obtain ⟨satAll, _⟩ := kp.sat S
  obtain ⟨satA, satT⟩ := sat_app.mp satAll
  have FE := bok.lags N satA
  have val : regsum (posW ws g2) - psum (roomF gs ws b) (papF bps g1) = ((givL gs.length ws).map fun s => G (gs.length + 1 + s) - G (spotF gs s)).sum := by
    have t := kp.tight hg0 S
    rw [gt G, sp, tl, ← pap_room hbp h1n] at t
    have e1 : ((posW ws g2).map fun x => (tailB gs x).2.2) = (posW ws g2).map fun x => -((x.2.2.length : Nat) : Int) := rfl
    rw [e1, sum_neg] at t
    have e2 := hf.sum fun s => G (gs.length + 1 + s) - G (spotF gs s)
    rw [← e2]
    have e3 : (fus.map fun x => G (spotF gs x.1) - G (gs.length + 1 + x.1)) = fus.map fun x => -(G (gs.length + 1 + x.1) - G (spotF gs x.1)) := List.map_congr_left fun x _ => by omega
    rw [e3, sum_neg] at t
    unfold regsum
    omega
  refine ⟨PW, BAL, FE, h01, ?_⟩
  have low := shp_le N PW BAL eok FE
  have up : sharedF gs.length ws (lagsAt gs G) ≤ ((givL gs.length ws).map fun s => G (gs.length + 1 + s) - G (spotF gs s)).sum := by
    unfold sharedF
    refine map_sum_le fun s hs => ?_
    obtain ⟨hs1, x, hx, hxs⟩ := mem_givL.mp hs
    have cle : ∀ c ∈ outC ws (lagsAt gs G) s, c ≤ G (gs.length + 1 + s) - G (spotF gs s) := fun c hc => by
      obtain ⟨y, hy, e1, rfl⟩ := mem_outC.mp hc
      have := satT (tailB gs y) (List.mem_map.mpr ⟨y, hy, rfl⟩)
      have this : G (spotF gs y.2.1) ≤ G (gs.length + 1 + y.1) + -((y.2.2.length : Nat) : Int) := this
      rw [e1] at this
      unfold cntW lagsAt
      rw [e1]
      omega
    refine mx0_le ?_ cle
    have h1 := FE.lt x hx
    have h2 := cle (cntW (lagsAt gs G) x) (mem_outC.mpr ⟨x, hx, hxs, rfl⟩)
    unfold cntW at h2
    omega
  omega
end Lag

set_option maxRecDepth 100000
set_option maxHeartbeats 8000000
namespace Lag
open PySem PySem.Spec PyProof.Rows L2
def firstI (ws : List Wr) (i : Nat) : List Nat := (List.range i).filter fun k => decide ((svW ws k).1 ∉ (ws.take k).map fun x => x.1)
/-- the places of the first wires out of the gates -/
def firstL (ws : List Wr) : List Nat := firstI ws ws.length
theorem nvs_in {k : Nat} {r : List Nat} : inV (.int (k : Nat)) (nvs r) = decide (k ∈ r) := by
  rw [Bool.eq_iff_iff, decide_eq_true_eq]
  unfold inV nvs
  rw [List.any_eq_true]
  constructor
  · rintro ⟨v, hv, h⟩
    obtain ⟨a, ha, rfl⟩ := List.mem_map.mp hv
    have h2 : (a : Int) = (k : Int) := by simpa [eqV] using h
    have : k = a := by omega
    exact this ▸ ha
  · intro h
    exact ⟨.int (k : Nat), List.mem_map.mpr ⟨k, h, rfl⟩, by simp [eqV]⟩
theorem nvs_flat (r : List Nat) : (nvs r).all flatV = true := by
  unfold nvs
  rw [List.all_eq_true]
  intro v hv
  obtain ⟨a, _, rfl⟩ := List.mem_map.mp hv
  rfl
theorem hcut_to {xs : List V} (k : Nat) : cutV xs none (some (k : Int)) = xs.take k := by
  unfold cutV
  rw [HT.sIx_none, HT.sIx_nat, List.drop_zero, Nat.sub_zero, take_min]
theorem hcut_from {xs : List V} (k : Nat) : cutV xs (some (k : Int)) none = xs.drop k := by
  unfold cutV
  rw [HT.sIx_none, HT.sIx_nat, drop_min]
  exact List.take_of_length_le (by rw [List.length_drop]; omega)
theorem firstI_succ (ws : List Wr) (i : Nat) : firstI ws (i + 1) = firstI ws i ++ if (svW ws i).1 ∈ (ws.take i).map (fun x => x.1) then [] else [i] := by
  unfold firstI
  rw [List.range_succ, List.filter_append]
  congr 1
  by_cases e : (svW ws i).1 ∈ (ws.take i).map fun x => x.1
  · rw [if_pos e, List.filter_cons_of_neg (by rw [decide_eq_true_iff]; exact fun z => z e)]
    rfl
  · rw [if_neg e, List.filter_cons_of_pos (by rw [decide_eq_true_iff]; exact e)]
    rfl
theorem firstI_len (ws : List Wr) (i : Nat) : (firstI ws i).length ≤ i := by
  have := List.length_filter_le (fun k => decide ((svW ws k).1 ∉ (ws.take k).map fun x => x.1)) (List.range i)
  rw [List.length_range] at this
  exact this
def spFirstWires (K : PySem.W.Frag) (C : Addr) : Sp := fun vs H Q _ => ∃ (p ng nw : Addr) (gs : List Gt) (ws : List Wr), vs = [.ref p] ∧ NetAt K C H p ng nw gs ws ∧ NetOk gs ws ∧ ∀ l H', Same H H' → H l = none → H' l = some (.lst (nvs (firstL ws))) → Q (.ref l) H'
def spTailBounds (K : PySem.W.Frag) (C : Addr) : Sp := fun vs H Q _ => ∃ (p ng nw : Addr) (gs : List Gt) (ws : List Wr), vs = [.ref p] ∧ NetAt K C H p ng nw gs ws ∧ NetOk gs ws ∧ ∀ l tv H', Same H H' → H l = none → H' l = some (.lst tv) → All2 (BndV K H') tv (tailsF gs ws) → Q (.ref l) H'
section
variable {P : Program} {w : World} {K : PySem.W.Frag} {mg : Str → Option Value} {base : Heap}
abbrev nFirstWires : List Str := ["net", "wire", "starts", "place", "start"]
abbrev DFirstWires (P : Program) (w : World) (K : PySem.W.Frag) (mg : Str → Option Value) (base : Heap) (C : Addr) := Df P w K mg base 1 "first_wires" ["net"] (spFirstWires K C)
abbrev nTailBounds : List Str := ["net", "spots", "told", "place", "start", "end", "held"]
abbrev DTailBounds (P : Program) (w : World) (K : PySem.W.Frag) (mg : Str → Option Value) (base : Heap) (C : Addr) := Df P w K mg base 3 "tail_bounds" ["net"] (spTailBounds K C)
end
end Lag

set_option maxRecDepth 100000
set_option maxHeartbeats 8000000
namespace Lag
open PySem PySem.Spec PyProof.Rows L2
/-! ### places picked -/
def pickI (f : List Int) (i : Nat) : List Nat := (List.range i).filter fun k => decide (0 < f.getD k 0)
def pickL (f : List Int) : List Nat := pickI f f.length
theorem pickI_succ (f : List Int) (i : Nat) : pickI f (i + 1) = pickI f i ++ if 0 < f.getD i 0 then [i] else [] := by
  unfold pickI
  rw [List.range_succ, List.filter_append]
  congr 1
  by_cases e : 0 < f.getD i 0
  · rw [if_pos e, List.filter_cons_of_pos (by rw [decide_eq_true_iff]; exact e)]
    rfl
  · rw [if_neg e, List.filter_cons_of_neg (by rw [decide_eq_true_iff]; exact e)]
    rfl
theorem pickI_len (f : List Int) (i : Nat) : (pickI f i).length ≤ i := by
  have := List.length_filter_le (fun k => decide (0 < f.getD k 0)) (List.range i)
  rw [List.length_range] at this
  exact this
theorem pickI_lt (f : List Int) (i : Nat) : ∀ k ∈ pickI f i, k < i := fun k hk => List.mem_range.mp (List.mem_filter.mp hk).1
theorem pickL_sort (f : List Int) : (pickL f).Pairwise (· < ·) := List.Pairwise.filter _ List.pairwise_lt_range
theorem posW_snoc {ws : List Wr} {f : List Int} (h : ws.length = f.length) (x : Wr) (y : Int) : posW (ws ++ [x]) (f ++ [y]) = posW ws f ++ if 0 < y then [x] else [] := by
  unfold posW
  rw [List.zip_append h, List.filter_append, List.map_append]
  congr 1
  show ((List.filter _ [(x, y)]).map _) = _
  by_cases e : 0 < y
  · rw [if_pos e, List.filter_cons_of_pos (by rw [decide_eq_true_iff]; exact e)]
    rfl
  · rw [if_neg e, List.filter_cons_of_neg (by rw [decide_eq_true_iff]; exact e)]
    rfl
theorem posW_pick {ws : List Wr} {f : List Int} (h : ws.length = f.length) : posW ws f = (pickL f).map (svW ws) := by
  have key : ∀ n, n ≤ ws.length → posW (ws.take n) (f.take n) = (pickI f n).map (svW ws) := by
    intro n
    induction n with
    | zero => intro _; rfl
    | succ n ih =>
      intro hn
      have hx : ws[n]? = some ws[n] := List.getElem?_eq_getElem (by omega)
      have hy : f[n]? = some f[n] := List.getElem?_eq_getElem (by omega)
      have hg : f.getD n 0 = f[n] := by rw [List.getD_eq_getElem?_getD, hy]; rfl
      have l : (ws.take n).length = (f.take n).length := by rw [List.length_take, List.length_take, h]
      rw [List.take_add_one, List.take_add_one, hx, hy]
      show posW (_ ++ [ws[n]]) (_ ++ [f[n]]) = _
      rw [posW_snoc l, ih (by omega), pickI_succ, List.map_append, hg]
      congr 1
      split
      · show [ws[n]] = [svW ws n]
        rw [svW_get hx]
      · rfl
  have := key ws.length (Nat.le_refl _)
  rw [List.take_length, h, List.take_length] at this
  exact this
theorem pick_all2 {ws : List Wr} {f : List Int} (h : ws.length = f.length) : All2 (fun (p : Nat) (x : Wr) => ws[p]? = some x) (pickL f) (posW ws f) := by
  rw [posW_pick h]
  refine ⟨(List.length_map _).symm, fun i p x hp hx => ?_⟩
  rw [List.getElem?_map, hp] at hx
  cases hx
  have hl := pickI_lt f _ p (List.mem_of_getElem? hp)
  have hx : ws[p]? = some ws[p] := List.getElem?_eq_getElem (by omega)
  rw [hx, svW_get hx]
def indI (ws : List Wr) (i : Nat) : List Int := (List.range i).map fun k => if k ∈ firstL ws then (1 : Int) else 0
theorem indI_len (ws : List Wr) (i : Nat) : (indI ws i).length = i := by unfold indI; rw [List.length_map, List.length_range]
theorem indI_succ (ws : List Wr) (i : Nat) : indI ws (i + 1) = indI ws i ++ [if i ∈ firstL ws then (1 : Int) else 0] := by
  unfold indI
  rw [List.range_succ, List.map_append]
  rfl
theorem indI_01 (ws : List Wr) (i : Nat) : ∀ y ∈ indI ws i, y = 0 ∨ y = 1 := fun y hy => by
  obtain ⟨k, _, rfl⟩ := List.mem_map.mp hy
  split
  · exact .inr rfl
  · exact .inl rfl
theorem pick_first (ws : List Wr) : pickL (indI ws ws.length) = firstL ws := by
  unfold pickL pickI
  rw [indI_len]
  have : firstL ws = (List.range ws.length).filter fun k => decide ((svW ws k).1 ∉ (ws.take k).map fun x => x.1) := rfl
  rw [this]
  refine List.filter_congr fun k hk => ?_
  have hk := List.mem_range.mp hk
  have e : (indI ws ws.length).getD k 0 = if k ∈ firstL ws then (1 : Int) else 0 := by
    unfold indI
    rw [List.getD_eq_getElem?_getD, List.getElem?_map, List.getElem?_range hk]
    rfl
  rw [e, this]
  by_cases h : (svW ws k).1 ∉ (ws.take k).map fun x => x.1
  · rw [if_pos (List.mem_filter.mpr ⟨List.mem_range.mpr hk, by rw [decide_eq_true_iff]; exact h⟩), decide_eq_true h]
    rfl
  · rw [if_neg fun z => h (by have := (List.mem_filter.mp z).2; rw [decide_eq_true_iff] at this; exact this), decide_eq_false h]
    rfl
theorem first_all2 (ws : List Wr) : All2 (fun (p : Nat) (x : Wr) => ws[p]? = some x) (firstL ws) (posW ws (indI ws ws.length)) := by
  have := pick_all2 (ws := ws) (f := indI ws ws.length) (indI_len ws _).symm
  rw [pick_first] at this
  exact this
theorem firstI_starts (ws : List Wr) : ∀ i, i ≤ ws.length → ((firstI ws i).map fun k => (svW ws k).1).Nodup ∧ ∀ s, s ∈ (firstI ws i).map (fun k => (svW ws k).1) ↔ s ∈ (ws.take i).map fun x => x.1 := by
  intro i
  induction i with
  | zero => intro _; exact ⟨List.nodup_nil, fun s => Iff.rfl⟩
  | succ i ih =>
    intro hi
    obtain ⟨h1, h2⟩ := ih (by omega)
    have hx : ws[i]? = some ws[i] := List.getElem?_eq_getElem (by omega)
    rw [firstI_succ, List.take_add_one, hx, List.map_append, List.map_append]
    rw [svW_get hx]
    by_cases e : ws[i].1 ∈ (ws.take i).map fun x => x.1
    · rw [if_pos e]
      refine ⟨by simpa using h1, fun s => ?_⟩
      show s ∈ _ ++ [] ↔ s ∈ _ ++ [ws[i].1]
      rw [List.append_nil, h2, List.mem_append, List.mem_singleton]
      constructor
      · exact .inl
      · rintro (h | h)
        · exact h
        · rw [h]; exact e
    · rw [if_neg e]
      have e3 : ([i].map fun k => (svW ws k).1) = [ws[i].1] := by show [(svW ws i).1] = _; rw [svW_get hx]
      rw [e3]
      refine ⟨List.nodup_append.mpr ⟨h1, (List.nodup_cons.mpr ⟨(fun h => nomatch h), List.nodup_nil⟩), fun a ha b hb => ?_⟩, fun s => ?_⟩
      · rw [List.mem_singleton.mp hb]
        exact fun z => e ((h2 _).mp (z ▸ ha))
      · rw [List.mem_append, h2]
        show _ ↔ s ∈ _ ++ [ws[i].1]
        rw [List.mem_append]
theorem first_pick {gs : List Gt} {ws : List Wr} (N : NetOk gs ws) : PickW gs.length ws (posW ws (indI ws ws.length)) := by
  refine ⟨fun x hx => posW_sub hx, ?_⟩
  obtain ⟨h1, h2⟩ := firstI_starts ws ws.length (Nat.le_refl _)
  rw [posW_pick (indI_len ws _).symm, pick_first, List.map_map]
  refine (List.perm_ext_iff_of_nodup h1 (givL_nd _ _)).mpr fun s => ?_
  rw [h2, List.take_length, mem_givL]
  constructor
  · intro h
    obtain ⟨x, hx, rfl⟩ := List.mem_map.mp h
    exact ⟨(N.wok x hx).s, x, hx, rfl⟩
  · rintro ⟨_, x, hx, rfl⟩
    exact List.mem_map.mpr ⟨x, hx, rfl⟩
/-! ### shared papers -/
structure ShAt (K : PySem.W.Frag) (H : Hp) (t lq lp : Addr) (gs : List Gt) (ws us : List Wr) (ps : List Nat) (ev : List V) (es : List Ent) : Prop where
  t : SqT K H t [.ref lq, .ref lp]
  q : SqL K H lq (nvs ps)
  g : All2 (fun (p : Nat) (x : Wr) => ws[p]? = some x) ps us
  s : ps.Pairwise (· < ·)
  w : PickW gs.length ws us
  p : SqL K H lp ev
  a : All2 (EntV K H) ev es
  o : ∀ e ∈ es, EntOk gs ws e
  l : es.length ≤ 11000
  b : BalP gs ws us es
theorem ShAt.same {K : PySem.W.Frag} {H H' : Hp} {t lq lp : Addr} {gs : List Gt} {ws us : List Wr} {ps : List Nat} {ev : List V} {es : List Ent} (s : Same H H') (h : ShAt K H t lq lp gs ws us ps ev es) : ShAt K H' t lq lp gs ws us ps ev es :=
  ⟨(TK.same s).seq h.t, s.seq h.q, h.g, h.s, h.w, s.seq h.p, h.a.imp fun _ _ r => EntV.same s r, h.o, h.l, h.b⟩
theorem all2_len {gs : List Gt} {ws us : List Wr} {ps : List Nat} (N : NetOk gs ws) (h : All2 (fun (p : Nat) (x : Wr) => ws[p]? = some x) ps us) (s : ps.Pairwise (· < ·)) : ps.length ≤ 1000 := by
  have nd : ps.Nodup := s.imp fun h => Nat.ne_of_lt h
  have hlt : ∀ p ∈ ps, p < ws.length := fun p hp => by
    obtain ⟨i, hi⟩ := List.getElem?_of_mem hp
    obtain ⟨x, _, hx⟩ := h.get hi
    exact (List.getElem?_eq_some_iff.mp hx).1
  have := List.Nodup.length_le_of_subset nd (l₂ := List.range ws.length) (fun a ha => List.mem_range.mpr (hlt a ha))
  rw [List.length_range] at this
  have := N.wl
  omega
theorem nvs_ints (r : List Nat) : nvs r = (r.map fun k => ((k : Nat) : Int)).map V.int := by
  unfold nvs
  rw [List.map_map]
  rfl
theorem sorted_eq {xs ys : List Int} (h : xs.Perm ys) (h1 : xs.Pairwise (· ≤ ·)) (h2 : ys.Pairwise (· ≤ ·)) : xs = ys :=
  h.eq_of_pairwise (fun a b _ _ h1 h2 => Int.le_antisymm h1 h2) h1 h2
theorem pw_int {r : List Nat} (h : r.Pairwise (· < ·)) : (r.map fun k => ((k : Nat) : Int)).Pairwise (· < ·) := List.pairwise_map.mpr (h.imp fun h => by omega)
theorem givL_sort (n : Nat) (ws : List Wr) : (givL n ws).Pairwise (· < ·) := List.Pairwise.filter _ List.pairwise_lt_range
def spIsPick (K : PySem.W.Frag) (C : Addr) : Sp := fun vs H Q _ => ∃ (p ng nw lq : Addr) (gs : List Gt) (ws us : List Wr) (ps : List Nat), vs = [.ref p, .ref lq] ∧ NetAt K C H p ng nw gs ws ∧ NetOk gs ws ∧ SqL K H lq (nvs ps) ∧ All2 (fun (p : Nat) (x : Wr) => ws[p]? = some x) ps us ∧ ps.Pairwise (· < ·) ∧ PickW gs.length ws us ∧ ∀ H', Same H H' → Q (.bl true) H'
def spSharedFault (K : PySem.W.Frag) (C : Addr) : Sp := fun vs H Q _ => ∃ (p ng nw t lq lp : Addr) (gs : List Gt) (ws us : List Wr) (ps : List Nat) (b : Int) (ev : List V) (es : List Ent), vs = [.ref p, .int b, .ref t] ∧ NetAt K C H p ng nw gs ws ∧ NetOk gs ws ∧ 0 ≤ b ∧ ShAt K H t lq lp gs ws us ps ev es ∧ ∀ H', Same H H' → Q .non H'
def spSharedBound (K : PySem.W.Frag) (C : Addr) : Sp := fun vs H Q _ => ∃ (p ng nw t lq lp : Addr) (gs : List Gt) (ws us : List Wr) (ps : List Nat) (b : Int) (ev : List V) (es : List Ent), vs = [.ref p, .ref t, .int b] ∧ NetAt K C H p ng nw gs ws ∧ NetOk gs ws ∧ 0 ≤ b ∧ ShAt K H t lq lp gs ws us ps ev es ∧ ∀ H', Same H H' → Q (.int (regsum us - psum (roomF gs ws b) es)) H'
/-- the fewest shared registers of lags for b, such lags, a shared paper -/
def spFewestShared (K : PySem.W.Frag) (C : Addr) : Sp := fun vs H Q _ => ∃ (p ng nw : Addr) (gs : List Gt) (ws : List Wr) (b : Int), vs = [.ref p, .int b] ∧ NetAt K C H p ng nw gs ws ∧ NetOk gs ws ∧ 0 ≤ b ∧ FeasE gs ws b ∧
  ∀ (tt ll th lq lp : Addr) (m : Int) (L : Nat → Int) (us : List Wr) (ps : List Nat) (ev : List V) (es : List Ent) (H' : Hp), Same H H' → H' tt = some (.tup [.int m, .ref ll, .ref th]) → H ll = none → H' ll = some (.lst ((lagsL gs L).map V.int)) → H lq = none → H' lq = some (.lst (nvs ps)) → H lp = none → H' lp = some (.lst ev) → All2 (EntZ K (fun l => H l ≠ none) H') ev es → ShAt K H' th lq lp gs ws us ps ev es →
    Feas gs ws b L → m = sharedF gs.length ws L → m = regsum us - psum (roomF gs ws b) es → (∀ R : Int, 1 ≤ R → (2 * (gs.length : Int) + 1) * R ≤ 500 → (∀ x ∈ ws, ((x.2.2.length : Nat) : Int) ≤ R) → (∀ s e c, s < gs.length → best gs ws s e = some c → c.1 ≤ R) → ∀ g, g < gs.length → -500 ≤ L g ∧ L g ≤ 500) → Q (.ref tt) H'
theorem tails_below {gs : List Gt} {ws : List Wr} (N : NetOk gs ws) : ∀ bd ∈ tailsF gs ws, bd.1 < gs.length + 1 + gs.length ∧ bd.2.1 < gs.length + 1 + gs.length := fun bd hb => by
  obtain ⟨x, hx, rfl⟩ := List.mem_map.mp hb
  have W := N.wok x hx
  have h1 := spot_le (gs := gs) x.2.1 W.e
  have h2 := W.s
  refine ⟨?_, ?_⟩
  · show spotF gs x.2.1 < _
    omega
  · show gs.length + 1 + x.1 < _
    omega
theorem tails_sat {gs : List Gt} {ws : List Wr} (N : NetOk gs ws) {A : List Bnd} {F : Nat → Int} (hA : ∀ bd ∈ A, bd.1 < gs.length + 1 ∧ bd.2.1 < gs.length + 1) (S : Sat A F) : ∃ F', Sat (A ++ tailsF gs ws) F' := by
  refine ⟨fun v => if v < gs.length + 1 then F v else mx0 (ws.map fun x => F (spotF gs x.2.1) + ((x.2.2.length : Nat) : Int)), sat_app.mpr ⟨fun bd hb => ?_, fun bd hb => ?_⟩⟩
  · obtain ⟨h1, h2⟩ := hA bd hb
    show (if bd.1 < _ then _ else _) ≤ (if bd.2.1 < _ then _ else _) + _
    rw [if_pos h1, if_pos h2]
    exact S bd hb
  · obtain ⟨x, hx, rfl⟩ := List.mem_map.mp hb
    have h1 := spot_le (gs := gs) x.2.1 (N.wok x hx).e
    show (if spotF gs x.2.1 < _ then _ else _) ≤ (if gs.length + 1 + x.1 < _ then _ else _) + -((x.2.2.length : Nat) : Int)
    rw [if_pos h1, if_neg (by omega)]
    have := le_mx0 (l := ws.map fun x => F (spotF gs x.2.1) + ((x.2.2.length : Nat) : Int)) (List.mem_map.mpr ⟨x, hx, rfl⟩)
    show F (spotF gs x.2.1) ≤ _
    omega
theorem share_gt {gs : List Gt} {ws fus : List Wr} {A : List Bnd} {f0 f2 : List Int} (hl : A.length = f0.length) (hw : ws.length = f2.length) (h01 : ∀ y ∈ f2, y = 0 ∨ y = 1) (hu : posW ws f2 = fus) (hft : ∀ F, wsum (dF F) A f0 = wdl (fun x => F (spotF gs x)) fus) : ∀ F, wsum (dF F) (A ++ tailsF gs ws) (f0 ++ f2) = (fus.map fun x => F (spotF gs x.1) - F (gs.length + 1 + x.1)).sum := fun F => by
  rw [wsum_app _ (by rw [List.length_append]; omega), List.take_append_of_le_length (by omega), List.take_of_length_le (by omega), List.drop_left' hl.symm, hft, tails01 _ hw h01, hu]
  unfold wdl
  have gen : ∀ r : List Wr, (r.map fun x => F (spotF gs x.1) - F (spotF gs x.2.1)).sum + (r.map fun x => dF F (tailB gs x)).sum = (r.map fun x => F (spotF gs x.1) - F (gs.length + 1 + x.1)).sum := by
    intro r
    induction r with
    | nil => rfl
    | cons x r ih =>
      simp only [List.map_cons, List.sum_cons]
      have e : dF F (tailB gs x) = F (spotF gs x.2.1) - F (gs.length + 1 + x.1) := rfl
      rw [e]
      omega
  exact gen fus
theorem share_room {gs : List Gt} {ws : List Wr} {b R : Int} {bps : List (Bnd × Pce)} {g : List Int} {ks : List Kpt} (h : BdsOk gs ws b (bps.map fun bp => bp.2) (bps.map fun bp => bp.1)) (hpce : ∀ bp ∈ bps, PceOk gs ws bp.2 ∧ bp.2.2.length ≤ 1000) (hR : 1 ≤ R) (hb : ∀ s e c, s < gs.length → best gs ws s e = some c → c.1 ≤ R) (hw : ∀ x ∈ ws, ((x.2.2.length : Nat) : Int) ≤ R) (k : Kept ((bps.map fun bp => bp.1) ++ tailsF gs ws) g ks) : ∀ b ∈ ks.map (fun e => e.1), -R ≤ b.2.2 := fun bd hm => by
  obtain ⟨e, he, rfl⟩ := List.mem_map.mp hm
  obtain ⟨b0, h1, h2⟩ := k.ok e he
  have h8 : -R ≤ b0.2.2 ∧ b0.2.2 ≤ R := by
    rcases List.mem_append.mp (List.mem_of_getElem? h1) with hm | hm
    · obtain ⟨bp, hbp, rfl⟩ := List.mem_map.mp hm
      have h3 := h.bp bp hbp
      obtain ⟨e', h4, h5⟩ := h.bst bp.2 (List.mem_map.mpr ⟨bp, hbp, rfl⟩)
      have h6 := hb _ _ _ (hpce bp hbp).1.1 h5
      have h6 : prg ws bp.2.2 ≤ R := h6
      have h7 := prg_nn ws bp.2.2
      rw [h3]
      show -R ≤ roomF gs ws b bp.2 ∧ roomF gs ws b bp.2 ≤ R
      unfold roomF
      split <;> omega
    · obtain ⟨x, hx, rfl⟩ := List.mem_map.mp hm
      have := hw x hx
      show -R ≤ -((x.2.2.length : Nat) : Int) ∧ -((x.2.2.length : Nat) : Int) ≤ R
      omega
  rcases h2 with ⟨_, h9⟩ | ⟨_, h9, _⟩
  · rw [h9]
    omega
  · rw [h9]
    show -R ≤ -b0.2.2
    omega
section
variable {P : Program} {w : World} {K : PySem.W.Frag} {mg : Str → Option Value} {base : Heap}
abbrev nIsPick : List Str := ["net", "thing", "place", "starts", "wire"]
abbrev DIsPick (P : Program) (w : World) (K : PySem.W.Frag) (mg : Str → Option Value) (base : Heap) (C : Addr) := Df P w K mg base 3 "is_pick" ["net", "thing"] (spIsPick K C)
abbrev nSharedFault : List Str := ["net", "beat", "thing", "pick", "paper"]
abbrev DSharedFault (P : Program) (w : World) (K : PySem.W.Frag) (mg : Str → Option Value) (base : Heap) (C : Addr) := Df P w K mg base 6 "shared_fault" ["net", "beat", "thing"] (spSharedFault K C)
abbrev nSharedBound : List Str := ["net", "thing", "beat", "pick", "paper", "place"]
abbrev DSharedBound (P : Program) (w : World) (K : PySem.W.Frag) (mg : Str → Option Value) (base : Heap) (C : Addr) := Df P w K mg base 7 "shared_bound" ["net", "thing", "beat"] (spSharedBound K C)
abbrev nFewestShared : List Str := ["net", "beat", "bounds", "first", "place", "flow", "many", "kept", "number", "pick", "thing"]
abbrev DFewestShared (P : Program) (w : World) (K : PySem.W.Frag) (mg : Str → Option Value) (base : Heap) (C : Addr) := Df P w K mg base 8 "fewest_shared" ["net", "beat"] (spFewestShared K C)
end
end Lag

set_option maxRecDepth 100000
set_option maxHeartbeats 8000000
namespace Lag
open PySem PySem.Spec PyProof.Rows L2
/-- list(d.values()) -/
def tListVals (td : TE) : TE := fun σ H Q => td σ H fun x H1 => ∃ d kvs, x = .ref d ∧ H1 d = some (.dK kvs) ∧ ∀ q, H1 q = none → Q (.ref q) (upd H1 q (.lst (kvs.map fun kv => kv.2)))
theorem pe_listVals {X : Cx} {e : Expr} {td : TE} {p apos cpos pos : Pos} (hc : X.calm = true) (hg : Gl X "list") (hm : X.mg "list" = none) (he : PE X e td) (hbase : attributeBase e "values" X.env (eval e X.env) = eval e X.env := by rfl) (hline : (apos.endLine == cpos.line) = true := by rfl)
    (na : starEach [Expr.Call (.Attribute e "values" apos) [] [] cpos] X.env = (false, eval (Expr.Call (.Attribute e "values" apos) [] [] cpos) X.env) :: starEach [] X.env := by rfl) : PE X (.Call (.Name "list" p) [.Call (.Attribute e "values" apos) [] [] cpos] [] pos) (tListVals td) := by
  refine ⟨fun pins s σ H Q I h => ?_⟩
  refine Call_ (ld_blt I hg hm boot_list (callWith_type1 (args_cons ?_ na) na))
  refine wpAny_Call_method (T := "dict") (id := "dict.values") hbase rfl hline PySem.F.plainAttrs_dict PySem.F.slot_dict_values PySem.F.type_dict_values (thn (he.run pins s σ H _ I h) fun u s1 ⟨x, H1, I1, rx, d, kvs, ex, hd, q⟩ => ?_)
  subst ex
  obtain rfl : u = Value.ref d := rx
  obtain ⟨z, lo, vs, rk, hdo⟩ := (show ObjOk X.prog X.w H1 s1.heap d (.dK kvs) from I1.hok d _ hd)
  have hl : kvs.length = vs.length := Paired.length rk
  refine ⟨hdo.typeIs, hdo.mapOf.noDict, ?_⟩
  have I2 : Inv X pins σ H1 { s1 with heap := s1.heap.push { cls := .type "dict_values", data := .fields #[.ref d] } } := I1.kept (t' := s1.toks) fun b ob q => Heap.get?_push_of_some _ q
  obtain ⟨z2, lo2, vs2, rk2, hd2⟩ := (show ObjOk X.prog X.w H1 (s1.heap.push { cls := .type "dict_values", data := .fields #[.ref d] }) d (.dK kvs) from I2.hok d _ hd)
  obtain ⟨ep, hat⟩ := hd2.dictAt
  have hl2 : kvs.length = vs2.length := Paired.length rk2
  show wpAny _ _ (callWith cpos (.builtin "dict.values") [.ref d] [] []) _ X.xe s1
  refine method_meetsIn PySem.F.slot_dict_values PySem.F.entry_dict_values rfl (PySem.evalArgs_none ⟨rfl, hdo.typeIs, PySem.F.args_dict_values_1 _, _, meets_dict_values (mixKind X.prog X.w) d lo, ⟨vs, hdo⟩, ?_⟩)
  refine args_nil ?_
  refine PySem.W.kdl_call (PySem.W.kdl_values (knd := mixKind X.prog X.w) (kvs := vs2) (ep := ep)) (I2.ok.hd hc) ⟨⟨_, Heap.get?_push_size _ rfl, rfl, rfl⟩, hat⟩ (by rw [← hl2]; exact z2) fun h' tk acc' c' hkeep hS hacc => ?_
  refine ⟨.ref _, upd H1 _ (.lst (kvs.map fun kv => kv.2)), I2.laid hkeep (Nat.le_refl _) (show ObjOk X.prog X.w _ _ _ (.lst (kvs.map fun kv => kv.2)) from ⟨?_, acc'.toList, c', ?_, ?_⟩), rfl, q _ (I2.hok.fresh (Nat.le_refl _))⟩
  · rw [List.length_map]; exact z2
  · have el : acc'.toList.length = acc'.size := by simp
    refine vals_of_at (by rw [List.length_map, el, hacc.1, hl2]) fun j x w h1 h2 => ?_
    obtain ⟨k, hky⟩ := hacc.2 j w (by rw [← Array.getElem?_toList]; exact h2)
    rw [List.getElem?_map] at h1
    cases hk : kvs[j]? with
    | none => rw [hk] at h1; cases h1
    | some kv =>
      rw [hk] at h1
      cases h1
      obtain ⟨k', v'⟩ := kv
      obtain ⟨u, hu, ru⟩ := kv_get rk2 hk
      rw [hky] at hu
      cases hu
      exact ru
  · rw [Array.toArray_toList]; exact hS
end Lag

set_option maxRecDepth 100000
set_option maxHeartbeats 8000000
namespace Lag
open PySem PySem.Spec PyProof.Rows L2
abbrev sCounts : Stmt := topS 36 -- @counts
abbrev sChkLags : Stmt := topS 38 -- @check_lags
abbrev sCountsBy : Stmt := topS 37 -- @counts_by
abbrev sLetCounts : Stmt := topS 39 -- @let_counts
theorem lgetD_at {ts : List Int} {g : Nat} (h : g < ts.length) : (ts.map V.int)[g]? = some (.int (ts.getD g 0)) := by
  rw [List.getElem?_map, List.getElem?_eq_getElem h, List.getD_eq_getElem?_getD, List.getElem?_eq_getElem h]
  rfl
structure LagOk (gs : List Gt) (ls : List Int) : Prop where
  len : ls.length = gs.length
  ok : ∀ (i : Nat) (g : Gt) (l : Int), gs[i]? = some g → ls[i]? = some l → -500 ≤ l ∧ l ≤ 500 ∧ (portK g.1 → l = 0)
def cntsL (ws : List Wr) (ls : List Int) : List Int := ws.map fun x => ((x.2.2.length : Nat) : Int) + ls.getD x.2.1 0 - ls.getD x.1 0
def spChkLags (K : PySem.W.Frag) (C : Addr) : Sp := fun vs H Q _ => ∃ (p ng nw ll : Addr) (gs : List Gt) (ws : List Wr) (ls : List Int), vs = [.ref p, .ref ll] ∧ NetAt K C H p ng nw gs ws ∧ gs.length ≤ 1000 ∧ SqL K H ll (ls.map V.int) ∧ LagOk gs ls ∧ ∀ H', Same H H' → Q .non H'
def spCounts (K : PySem.W.Frag) (C : Addr) : Sp := fun vs H Q _ => ∃ (p ng nw ll : Addr) (gs : List Gt) (ws : List Wr) (ls : List Int), vs = [.ref p, .ref ll] ∧ NetAt K C H p ng nw gs ws ∧ NetOk gs ws ∧ SqL K H ll (ls.map V.int) ∧ LagOk gs ls ∧ ∀ l H', Same H H' → H l = none → H' l = some (.lst ((cntsL ws ls).map V.int)) → Q (.ref l) H'
def spCountsBy (K : PySem.W.Frag) (C : Addr) : Sp := fun vs H Q _ => ∃ (p ng nw ll : Addr) (gs : List Gt) (ws : List Wr) (ls : List Int), vs = [.ref p, .ref ll] ∧ NetAt K C H p ng nw gs ws ∧ NetOk gs ws ∧ SqL K H ll (ls.map V.int) ∧ ls.length = gs.length ∧ ∀ l H', Same H H' → H l = none → H' l = some (.lst ((cntsL ws ls).map V.int)) → Q (.ref l) H'
def lagF (ls : List Int) (g : Nat) : Int := ls.getD g 0
def LetOk (ws : List Wr) (ls : List Int) : Prop := ∀ y ∈ cntsL ws ls, 0 ≤ y
def spLetCounts (K : PySem.W.Frag) (C : Addr) : Sp := fun vs H Q _ => ∃ (p ng nw ll : Addr) (gs : List Gt) (ws : List Wr) (ls : List Int), vs = [.ref p, .ref ll] ∧ NetAt K C H p ng nw gs ws ∧ NetOk gs ws ∧ SqL K H ll (ls.map V.int) ∧ LagOk gs ls ∧ LetOk ws ls ∧ ∀ l H', Same H H' → H l = none → H' l = some (.lst ((cntsL ws ls).map V.int)) → Q (.ref l) H'
section
variable {P : Program} {w : World} {K : PySem.W.Frag} {mg : Str → Option Value} {base : Heap}
theorem scChkLags : FnScope ["net", "lags", "gate", "lag", "greatest"] ["net", "lags"] (defScope sChkLags) := ⟨rfl, rfl, rfl, by decide +kernel, rfl, by decide +kernel, by decide +kernel⟩
abbrev DChkLags (P : Program) (w : World) (K : PySem.W.Frag) (mg : Str → Option Value) (base : Heap) (C : Addr) := Df P w K mg base 3 "check_lags" ["net", "lags"] (spChkLags K C)
theorem ok_chkLags {f fO fF C : Addr} {fd fdO fdF : FuncData} (F : Fun K "check_lags" "check_lags" sChkLags f fd) (hm : mg "check_lags" = some (.ref f)) (B : Bt mg) (T : NT K mg C) (gl : ∃ t, mg "GREATEST_LAG" = some (.int 500 t)) (DO : DOuter P w K mg base fO fdO) (DF : DFromTo P w K mg base fF fdF) : DChkLags P w K mg base C f fd := by
  obtain ⟨tg, hgl⟩ := gl
  refine ⟨?_, hm, F.kp, F.binds fun _ _ _ _ _ _ us hl => match us, hl with | [_, _], _ => rfl⟩
  refine F.ok scChkLags (fun vs H Q E h => ?_) (fun cdv A outer s H vs Q E hr h => ?_)
  · obtain ⟨p, ng, nw, ll, gs, ws, ls, rfl, _⟩ := h
    rfl
  · obtain ⟨p, ng, nw, ll, gs, ws, ls, rfl, NA, hgl1, sl, lok, q⟩ := h
    have nd := scChkLags.nd
    have hr1 : Room 1 _ := hr.mono (by decide)
    refine ⟨_, pss_cons (ps_if (PW.pt (pw_or (pt_not (pt_val (pe_callB call_isi (by rfl) B.isi (by decide +kernel) (pa_cons (pv 1) (pa_cons (pe_bltn (v := .ty "list") (by rfl) B.list (by decide +kernel) rfl) pa_nil)))))
          (pw_or1 (pt_cmpR op_ne (pe_callB call_len_seq (by rfl) B.len PySem.boot_len (pa_cons (pv 1) pa_nil)) (pe_callB call_len_seq (by rfl) B.len PySem.boot_len (pa_cons (pe_fld (pv 0) rfl) pa_nil)) (nomark _))))) (pss_one ps_never) pss_nil) <|
      pss_one <| ps_for PassesOwn.never rfl (pi_zip (by rfl) B.zip (pa_cons (pe_fld (pv 0) rfl) (pa_cons (pv 1) pa_nil))) (pg_tup rfl (pgs_cons (pg_name (i := 2) nd rfl (.inl rfl)) (pgs_cons (pg_name (i := 3) nd rfl (.inl rfl)) pgs_nil))) <|
        pss_cons (ps_set (i := 4) nd rfl (.inl rfl) (pe_ifExp (pt_val (pe_call DO.ok hr1 (by rfl) DO.mg DO.kp DO.bd .nil pass0 (pa_cons (pv 2) pa_nil))) pe_int (pe_glob (v := .int 500) (by rfl) hgl ⟨_, rfl⟩))) <|
        pss_one <| ps_if (pt_not (pt_val (pe_call DF.ok hr (by rfl) DF.mg DF.kp DF.bd .nil pass0 (pa_cons (pv 3) (pa_cons (pe_un un_neg (pv 4)) (pa_cons (pv 4) pa_nil)))))) (pss_one ps_never) pss_nil, ?_⟩
    obtain ⟨dx, ob⟩ := id NA.ob
    obtain ⟨gv, hgv, ga⟩ := id NA.g
    have hlg : gv.length = gs.length := ga.1
    have hll := lok.len
    refine ⟨_, rfl, _, _, _, _, true, rfl, .ty "list", ty_lst sl, kit_ty (by decide +kernel), true, rfl, iteF ?_⟩
    refine ⟨_, rfl, ll, _, rfl, .inl sl, _, rfl, p, C, dx, _, _, rfl, ob, T.cl, T.nG, nf_gates _ _, ng, gv, rfl, .inl (SqL.of hgv), rfl, false, ?_, iteF ?_⟩
    · rw [List.length_map, hlg, hll, decide_eq_true rfl]
      rfl
    refine ⟨_, rfl, p, C, dx, _, _, rfl, ob, T.cl, T.nG, nf_gates _ _, _, rfl, ng, ll, gv, _, rfl, SqL.of hgv, sl, RZ.for_zipL (K := K) (a := ng) (b := ll) (xs := gv) (ys := ls.map V.int) (by rw [List.length_map, hlg, hll]) (fun i σ H' => ∃ s2 s3 s4 : Option V, σ = [some (.ref p), some (.ref ll), s2, s3, s4] ∧ Same H H') ⟨_, _, _, rfl, Same.refl _⟩ (fun i σ H' ⟨_, _, _, _, sm⟩ => ⟨SqL.of (sm _ _ hgv), sm.seq sl⟩) ?_ ?_⟩
    · rintro i x y T' σ H1 hx hy ⟨s2, s3, s4, rfl, sm⟩ hT
      obtain ⟨g, hg, gv'⟩ := ga.get hx
      obtain ⟨l, hl, rfl⟩ := int_atF hy
      obtain ⟨l0, l1, lp⟩ := lok.ok i g l hg hl
      have sT := sm.trans (same_new (o := .tup [x, .int l]) hT)
      refine ⟨T', _, rfl, .inl (.inl upd_same), rfl, _, _, rfl, _, _, rfl, rfl, ?_⟩
      refine ⟨_, rfl, x, g, rfl, gv'.tk (TK.same sT), fun b hb => ⟨b, rfl, ite2 (fun e => ?_) (fun e => ?_)⟩⟩
      · have h0 := lp (hb.mp e)
        refine ⟨_, rfl, _, rfl, _, rfl, _, rfl, l, 0, 0, rfl, true, ?_, iteF ⟨_, _, _, rfl, sT⟩⟩
        rw [h0]
        rfl
      · refine ⟨_, rfl, _, rfl, _, rfl, _, rfl, l, -500, 500, rfl, true, ?_, iteF ⟨_, _, _, rfl, sT⟩⟩
        rw [decide_eq_true l0, decide_eq_true l1]
        rfl
    · rintro σ H1 ⟨s2, s3, s4, rfl, sm⟩
      exact q H1 sm
abbrev nCountsBy : List Str := ["net", "numbers", "start", "end", "held"]
theorem scCountsBy : FnScope nCountsBy ["net", "numbers"] (defScope sCountsBy) := ⟨rfl, rfl, rfl, by decide +kernel, rfl, by decide +kernel, by decide +kernel⟩
abbrev DCountsBy (P : Program) (w : World) (K : PySem.W.Frag) (mg : Str → Option Value) (base : Heap) (C : Addr) := Df P w K mg base 1 "counts_by" ["net", "numbers"] (spCountsBy K C)
theorem ok_countsBy {f C : Addr} {fd : FuncData} (F : Fun K "counts_by" "counts_by" sCountsBy f fd) (hm : mg "counts_by" = some (.ref f)) (B : Bt mg) (T : NT K mg C) : DCountsBy P w K mg base C f fd := by
  refine ⟨?_, hm, F.kp, F.binds fun _ _ _ _ _ _ us hl => match us, hl with | [_, _], _ => rfl⟩
  refine F.ok scCountsBy (fun vs H Q E h => ?_) (fun cdv A outer s H vs Q E hr h => ?_)
  · obtain ⟨p, ng, nw, ll, gs, ws, ls, rfl, _⟩ := h
    rfl
  · obtain ⟨p, ng, nw, ll, gs, ws, ls, rfl, NA, N, sl, lok, q⟩ := h
    have nd := scCountsBy.nd
    refine ⟨_, pss_one <| ps_ret <| pe_lc (own := [("start", 2), ("end", 3), ("held", 4)]) (g := gTup K 3 (gCons (gName 2) (gCons (gName 3) (gCons (gName 4) gNil)))) (tt := tYes) (te := tOp (rI0 fun i j => .int (i - j)) (tOp (rI0 fun i j => .int (i + j)) (tCB (Evl.rLenS K) (tCons (tVar 4) tNil)) (tOp (rIxL K) (tVar 1) (tVar 3))) (tOp (rIxL K) (tVar 1) (tVar 2))) rfl nd
        (pi_list (pe_fld (pv 0) rfl)) (blkOk_by (N := nCountsBy) (sc := defScope sCountsBy) (own := [("start", 2), ("end", 3), ("held", 4)]) (by decide +kernel))
        (fun _ _ _ _ _ => pg_tup rfl (pgs_cons (pg_name (i := 2) nd rfl (.inl rfl)) (pgs_cons (pg_name (i := 3) nd rfl (.inl rfl)) (pgs_cons (pg_name (i := 4) nd rfl (.inl rfl)) pgs_nil)))) (fun _ _ _ _ _ => pts_nil)
        (fun _ _ _ _ _ => pe_op op_sub (pe_op op_add (pe_callB call_len_seq (by rfl) B.len PySem.boot_len (pa_cons (pv 4) pa_nil)) (pe_ix ix_list (pv 1) (pv 3) (fun _ _ => rfl))) (pe_ix ix_list (pv 1) (pv 2) (fun _ _ => rfl))), ?_⟩
    have hgl := N.gl
    have hwl := N.wl
    obtain ⟨dx, ob⟩ := id NA.ob
    obtain ⟨wv, hwv, wa⟩ := id NA.w
    have hlw : wv.length = ws.length := wa.1
    have hll := lok
    refine ⟨_, rfl, p, C, dx, _, _, rfl, ob, T.cl, T.nW, nf_wires _ _, nw, rfl, ⟨_, SqL.of hwv⟩, fun D hD => ?_⟩
    refine lc_list (K := K) (a := nw) (xs := wv) (fun i Hc => Hc D = some (.lst ((cntsL (ws.take i) ls).map V.int)) ∧ Same H Hc) ⟨by rw [upd_same]; rfl, same_new hD⟩ (fun i Hc _ ⟨_, sm⟩ => SqL.of (sm _ _ hwv)) ?_ ?_
    · rintro i v Hc hv ⟨hc, sm⟩
      obtain ⟨x, hx, a, b, rfl, sq1, sq2⟩ := wa.get hv
      have hi : i < ws.length := (List.getElem?_eq_some_iff.mp hx).1
      have WX := N.wok x (List.mem_of_getElem? hx)
      have tk := TK.same sm
      refine ⟨a, _, rfl, tk.seq sq1, rfl, _, _, rfl, _, _, rfl, _, _, rfl, rfl, rfl, tyes ?_⟩
      refine ⟨_, rfl, b, _, rfl, .inr (tk.seq sq2), _, rfl, _, rfl, ll, _, _, _, rfl, rfl, sm.seq sl, atI_nat (lgetD_at (by rw [hll]; exact WX.e)), _, _, rfl, rfl, ?_⟩
      refine ⟨_, rfl, _, rfl, ll, _, _, _, rfl, rfl, sm.seq sl, atI_nat (lgetD_at (by rw [hll]; exact WX.s)), _, _, rfl, rfl, _, hc, ?_, ?_, same_mut sm hD⟩
      · unfold cntsL
        rw [List.length_map, List.length_map, List.length_take]
        exact small1000 (by omega)
      · rw [upd_same, List.take_add_one, hx]
        unfold cntsL
        rw [List.map_append, List.map_append, List.length_map]
        rfl
    · rintro H2 ⟨hc, sm⟩
      rw [hlw, List.take_length] at hc
      exact q D H2 sm hD hc
theorem scCounts : FnScope ["net", "lags"] ["net", "lags"] (defScope sCounts) := ⟨rfl, rfl, rfl, by decide +kernel, rfl, by decide +kernel, by decide +kernel⟩
abbrev DCounts (P : Program) (w : World) (K : PySem.W.Frag) (mg : Str → Option Value) (base : Heap) (C : Addr) := Df P w K mg base 4 "counts" ["net", "lags"] (spCounts K C)
theorem ok_counts {f fC fB C : Addr} {fd fdC fdB : FuncData} (F : Fun K "counts" "counts" sCounts f fd) (hm : mg "counts" = some (.ref f)) (DC : DChkLags P w K mg base C fC fdC) (DB : DCountsBy P w K mg base C fB fdB) : DCounts P w K mg base C f fd := by
  refine ⟨?_, hm, F.kp, F.binds fun _ _ _ _ _ _ us hl => match us, hl with | [_, _], _ => rfl⟩
  refine F.ok scCounts (fun vs H Q E h => ?_) (fun cdv A outer s H vs Q E hr h => ?_)
  · obtain ⟨p, ng, nw, ll, gs, ws, ls, rfl, _⟩ := h
    rfl
  · obtain ⟨p, ng, nw, ll, gs, ws, ls, rfl, NA, N, sl, lok, q⟩ := h
    have hr1 : Room 1 _ := hr.mono (by decide)
    refine ⟨_, pss_cons (ps_expr (pe_call DC.ok hr (by rfl) DC.mg DC.kp DC.bd .nil pass0 (pa_cons (pv 0) (pa_cons (pv 1) pa_nil)))) <|
      pss_one <| ps_ret (pe_call DB.ok hr1 (by rfl) DB.mg DB.kp DB.bd .nil pass0 (pa_cons (pv 0) (pa_cons (pv 1) pa_nil))), ?_⟩
    have hgl := N.gl
    refine ⟨_, rfl, _, rfl, p, ng, nw, ll, gs, ws, ls, rfl, NA, by omega, sl, lok, fun H1 s1 => ?_⟩
    exact ⟨_, rfl, _, rfl, p, ng, nw, ll, gs, ws, ls, rfl, NA.same s1, N, s1.seq sl, lok.len, fun l H2 s2 hl el => q l H2 (s1.trans s2) (s1.free hl) el⟩
theorem scLetCounts : FnScope ["net", "lags", "told", "place", "many"] ["net", "lags"] (defScope sLetCounts) := ⟨rfl, rfl, rfl, by decide +kernel, rfl, by decide +kernel, by decide +kernel⟩
abbrev DLetCounts (P : Program) (w : World) (K : PySem.W.Frag) (mg : Str → Option Value) (base : Heap) (C : Addr) := Df P w K mg base 5 "let_counts" ["net", "lags"] (spLetCounts K C)
theorem ok_letCounts {f fC C : Addr} {fd fdC : FuncData} (F : Fun K "let_counts" "let_counts" sLetCounts f fd) (hm : mg "let_counts" = some (.ref f)) (B : Bt mg) (DC : DCounts P w K mg base C fC fdC) : DLetCounts P w K mg base C f fd := by
  refine ⟨?_, hm, F.kp, F.binds fun _ _ _ _ _ _ us hl => match us, hl with | [_, _], _ => rfl⟩
  refine F.ok scLetCounts (fun vs H Q E h => ?_) (fun cdv A outer s H vs Q E hr h => ?_)
  · obtain ⟨p, ng, nw, ll, gs, ws, ls, rfl, _⟩ := h
    rfl
  · obtain ⟨p, ng, nw, ll, gs, ws, ls, rfl, NA, N, sl, lok, lt, q⟩ := h
    have nd := scLetCounts.nd
    refine ⟨_, pss_cons (ps_set (i := 2) nd rfl (.inl rfl) (pe_call DC.ok hr (by rfl) DC.mg DC.kp DC.bd .nil pass0 (pa_cons (pv 0) (pa_cons (pv 1) pa_nil)))) <|
      pss_cons (ps_for PassesOwn.never rfl (pi_enum (by rfl) B.enum (pa_cons (pv 2) pa_nil)) (pg_tup rfl (pgs_cons (pg_name (i := 3) nd rfl (.inl rfl)) (pgs_cons (pg_name (i := 4) nd rfl (.inl rfl)) pgs_nil))) <|
        pss_one <| ps_if (pt_cmpR op_lt (pv 4) pe_int (nomark _)) (pss_one ps_never) pss_nil) <|
      pss_one <| ps_ret (pv 2), ?_⟩
    refine ⟨_, rfl, _, rfl, p, ng, nw, ll, gs, ws, ls, rfl, NA, N, sl, lok, fun l H1 s1 hl el => ?_⟩
    refine ⟨_, rfl, l, _, rfl, SqL.of el, for_it (walk_enum (K := K) (a := l) (xs := (cntsL ws ls).map V.int)) (fun i σ H2 => ∃ s3 s4 : Option V, σ = [some (.ref p), some (.ref ll), some (.ref l), s3, s4] ∧ Same H1 H2) ⟨_, _, rfl, Same.refl _⟩ (fun i σ H2 _ ⟨_, _, _, sm⟩ => SqL.of (sm _ _ el)) ?_ ?_⟩
    · rintro i x σ H2 H2' hi ⟨s3, s4, rfl, sm⟩ ⟨T', x1, y, rfl, hT, rfl, ex, ey⟩
      cases ex
      obtain ⟨z, hz, rfl⟩ := int_atF ey
      have h0 := lt z (List.mem_of_getElem? hz)
      refine ⟨T', _, rfl, .inl (.inl upd_same), rfl, _, _, rfl, _, _, rfl, rfl, ?_⟩
      refine ⟨_, rfl, _, _, rfl, rfl, _, rfl, ite2 (fun e => ?_) (fun _ => ⟨_, _, rfl, sm.trans (same_new hT)⟩)⟩
      exfalso
      have : z < 0 := of_decide_eq_true e
      omega
    · rintro σ H2 ⟨s3, s4, rfl, sm⟩
      exact ⟨_, rfl, q l H2 (s1.trans sm) hl (sm _ _ el)⟩
end
end Lag

set_option maxRecDepth 100000
set_option maxHeartbeats 8000000
namespace Lag
open PySem PySem.Spec PyProof.Rows L2
abbrev sShared : Stmt := topS 41 -- @shared
theorem cntsL_cntW (ws : List Wr) (ls : List Int) : cntsL ws ls = ws.map (cntW (lagF ls)) := rfl
theorem mx0_snoc {l : List Int} {c : Int} (hc : 0 ≤ c) : mx0 (l ++ [c]) = if mx0 l < c then c else mx0 l := by
  induction l with
  | nil =>
    show (if c < 0 then 0 else c) = if 0 < c then c else 0
    split <;> split <;> omega
  | cons a l ih =>
    show (if a < mx0 (l ++ [c]) then mx0 (l ++ [c]) else a) = if (if a < mx0 l then mx0 l else a) < c then c else (if a < mx0 l then mx0 l else a)
    rw [ih]
    repeat' split
    all_goals omega
theorem outC_snoc {ws : List Wr} {x : Wr} {L : Nat → Int} {s : Nat} : outC (ws ++ [x]) L s = outC ws L s ++ if x.1 = s then [cntW L x] else [] := by
  unfold outC
  rw [List.filter_append, List.map_append]
  congr 1
  by_cases e : x.1 = s
  · rw [if_pos e, List.filter_cons_of_pos (by rw [beq_iff_eq]; exact e)]
    rfl
  · rw [if_neg e, List.filter_cons_of_neg (by rw [beq_iff_eq]; exact e)]
    rfl
/-- the dict of the most registers out of each gate -/
structure SInv (ws : List Wr) (L : Nat → Int) (kvs : List (Key × V)) (ks : List Nat) : Prop where
  ky : kvs.map (fun kv => kv.1) = ks.map fun s => (Sum.inl ((s : Nat) : Int) : Key)
  nd : ks.Nodup
  me : ∀ s, s ∈ ks ↔ s ∈ ws.map fun x => x.1
  vl : ∀ s ∈ ks, valV kvs (Sum.inl ((s : Nat) : Int)) = some (.int (mx0 (outC ws L s)))
theorem SInv.len {ws : List Wr} {L : Nat → Int} {kvs : List (Key × V)} {ks : List Nat} (h : SInv ws L kvs ks) : kvs.length = ks.length := by
  have := congrArg List.length h.ky
  rw [List.length_map, List.length_map] at this
  exact this
theorem valV_noneS {kvs : List (Key × V)} {ks : List Nat} (h : kvs.map (fun kv => kv.1) = ks.map fun s => (Sum.inl ((s : Nat) : Int) : Key)) {v : Nat} (hv : v ∉ ks) : valV kvs (Sum.inl ((v : Nat) : Int)) = none := by
  induction kvs generalizing ks with
  | nil => rfl
  | cons p r ih =>
    cases ks with
    | nil => exact nomatch congrArg List.length h
    | cons k t =>
      rw [List.map_cons, List.map_cons] at h
      obtain ⟨h1, h2⟩ := List.cons.inj h
      rw [valV_neg, ih h2 fun hm => hv (List.mem_cons_of_mem _ hm)]
      intro e
      rw [h1] at e
      have e := Sum.inl.inj e
      have : k = v := by omega
      exact hv (by rw [← this]; exact List.mem_cons_self ..)
theorem SInv.get {ws : List Wr} {L : Nat → Int} {kvs : List (Key × V)} {ks : List Nat} (h : SInv ws L kvs ks) (s : Nat) : (valV kvs (Sum.inl ((s : Nat) : Int))).getD (.int 0) = .int (mx0 (outC ws L s)) := by
  by_cases hm : s ∈ ks
  · rw [h.vl s hm]
    rfl
  · rw [valV_noneS h.ky hm]
    have : outC ws L s = [] := by
      cases e : outC ws L s with
      | nil => rfl
      | cons c r =>
        obtain ⟨x, hx, h1, _⟩ := mem_outC.mp (show c ∈ outC ws L s by rw [e]; exact List.mem_cons_self ..)
        exact absurd ((h.me s).mpr (List.mem_map.mpr ⟨x, hx, h1⟩)) hm
    rw [this]
    rfl
theorem SInv.put {ws : List Wr} {L : Nat → Int} {kvs : List (Key × V)} {ks : List Nat} {x : Wr} (h : SInv ws L kvs ks) (hc : 0 ≤ cntW L x) : ∃ ks', SInv (ws ++ [x]) L (putK kvs (Sum.inl ((x.1 : Nat) : Int)) (.int (if mx0 (outC ws L x.1) < cntW L x then cntW L x else mx0 (outC ws L x.1)))) ks' := by
  have vals : ∀ u, (u ∈ ks ∨ u = x.1) → valV (putK kvs (Sum.inl ((x.1 : Nat) : Int)) (.int (if mx0 (outC ws L x.1) < cntW L x then cntW L x else mx0 (outC ws L x.1)))) (Sum.inl ((u : Nat) : Int)) = some (.int (mx0 (outC (ws ++ [x]) L u))) := fun u hu => by
    rw [valV_put, outC_snoc]
    by_cases e : u = x.1
    · rw [e, if_pos rfl, if_pos rfl, mx0_snoc hc]
    · rw [if_neg (fun z => e (by have := Sum.inl.inj z; omega)), if_neg (fun z => e z.symm), List.append_nil]
      exact h.vl u (hu.resolve_right e)
  have mem : ∀ s, (s ∈ ks ∨ s = x.1) ↔ s ∈ (ws ++ [x]).map fun x => x.1 := fun s => by
    rw [List.map_append, List.mem_append, h.me s]
    show _ ↔ _ ∨ s ∈ [x.1]
    rw [List.mem_singleton]
  by_cases hm : x.1 ∈ ks
  · refine ⟨ks, ?_, h.nd, fun s => ?_, fun u hu => vals u (.inl hu)⟩
    · rw [putK_old (by rw [h.ky]; exact List.mem_map.mpr ⟨x.1, hm, rfl⟩)]
      exact h.ky
    · rw [← mem]
      constructor
      · exact .inl
      · rintro (z | z)
        · exact z
        · rw [z]; exact hm
  · refine ⟨ks ++ [x.1], ?_, ?_, fun s => ?_, fun u hu => vals u ?_⟩
    · rw [putK_fresh, h.ky, List.map_append]
      · rfl
      · rw [h.ky]
        intro z
        obtain ⟨u, hu, e⟩ := List.mem_map.mp z
        have e := Sum.inl.inj e
        have : u = x.1 := by omega
        exact hm (this ▸ hu)
    · refine List.nodup_append.mpr ⟨h.nd, List.nodup_cons.mpr ⟨(fun h => nomatch h), List.nodup_nil⟩, fun a ha b hb => ?_⟩
      rw [List.mem_singleton.mp hb]
      exact fun e => hm (e ▸ ha)
    · rw [← mem, List.mem_append, List.mem_singleton]
    · rcases List.mem_append.mp hu with z | z
      · exact .inl z
      · exact .inr (List.mem_singleton.mp z)
theorem valV_head {k : Key} {v : V} {r : List (Key × V)} : valV ((k, v) :: r) k = some v := valV_pos rfl
theorem vals_list : ∀ {kvs : List (Key × V)} {ks : List Nat} {φ : Nat → Int}, kvs.map (fun kv => kv.1) = ks.map (fun s => (Sum.inl ((s : Nat) : Int) : Key)) → ks.Nodup → (∀ s ∈ ks, valV kvs (Sum.inl ((s : Nat) : Int)) = some (.int (φ s))) → (kvs.map fun kv => kv.2) = (ks.map φ).map V.int
  | [], [], φ, _, _, _ => rfl
  | [], _ :: _, φ, h, _, _ => nomatch congrArg List.length h
  | _ :: _, [], φ, h, _, _ => nomatch congrArg List.length h
  | (k, v) :: r, s :: t, φ, h, nd, hv => by
    rw [List.map_cons, List.map_cons] at h
    obtain ⟨h1, h2⟩ := List.cons.inj h
    have h1 : k = Sum.inl ((s : Nat) : Int) := h1
    obtain ⟨n1, n2⟩ := List.nodup_cons.mp nd
    have e1 := hv s (List.mem_cons_self ..)
    rw [h1, valV_head] at e1
    have ih := vals_list h2 n2 (φ := φ) fun u hu => by
      have := hv u (List.mem_cons_of_mem _ hu)
      rw [valV_neg] at this
      · exact this
      · intro e
        rw [h1] at e
        have e := Sum.inl.inj e
        have : s = u := by omega
        exact n1 (this ▸ hu)
    rw [List.map_cons, ih, Option.some.inj e1]
    rfl
theorem SInv.sum {n : Nat} {ws : List Wr} {L : Nat → Int} {kvs : List (Key × V)} {ks : List Nat} (h : SInv ws L kvs ks) (hs : ∀ x ∈ ws, x.1 < n) : (kvs.map fun kv => kv.2) = (ks.map fun s => mx0 (outC ws L s)).map V.int ∧ (ks.map fun s => mx0 (outC ws L s)).sum = sharedF n ws L := by
  refine ⟨vals_list h.ky h.nd h.vl, ?_⟩
  unfold sharedF
  refine perm_sumI (((List.perm_ext_iff_of_nodup h.nd (givL_nd n ws)).mpr fun s => ?_).map _)
  rw [h.me, mem_givL]
  constructor
  · intro z
    obtain ⟨x, hx, rfl⟩ := List.mem_map.mp z
    exact ⟨hs x hx, x, hx, rfl⟩
  · rintro ⟨_, x, hx, rfl⟩
    exact List.mem_map.mpr ⟨x, hx, rfl⟩
def spShared (K : PySem.W.Frag) (C : Addr) : Sp := fun vs H Q _ => ∃ (p ng nw ll : Addr) (gs : List Gt) (ws : List Wr) (ls : List Int), vs = [.ref p, .ref ll] ∧ NetAt K C H p ng nw gs ws ∧ NetOk gs ws ∧ SqL K H ll (ls.map V.int) ∧ LagOk gs ls ∧ LetOk ws ls ∧ ∀ H', Same H H' → Q (.int (sharedF gs.length ws (lagF ls))) H'
section
variable {P : Program} {w : World} {K : PySem.W.Frag} {mg : Str → Option Value} {base : Heap}
abbrev nShared : List Str := ["net", "lags", "most", "start", "end", "held", "many"]
theorem scShared : FnScope nShared ["net", "lags"] (defScope sShared) := ⟨rfl, rfl, rfl, by decide +kernel, rfl, by decide +kernel, by decide +kernel⟩
abbrev DShared (P : Program) (w : World) (K : PySem.W.Frag) (mg : Str → Option Value) (base : Heap) (C : Addr) := Df P w K mg base 6 "shared" ["net", "lags"] (spShared K C)
theorem ok_shared {f fC C : Addr} {fd fdC : FuncData} (F : Fun K "shared" "shared" sShared f fd) (hm : mg "shared" = some (.ref f)) (B : Bt mg) (T : NT K mg C) (ms : mg "sum" = none) (DLc : DLetCounts P w K mg base C fC fdC) : DShared P w K mg base C f fd := by
  refine ⟨?_, hm, F.kp, F.binds fun _ _ _ _ _ _ us hl => match us, hl with | [_, _], _ => rfl⟩
  refine F.ok scShared (fun vs H Q E h => ?_) (fun cdv A outer s H vs Q E hr h => ?_)
  · obtain ⟨p, ng, nw, ll, gs, ws, ls, rfl, _⟩ := h
    rfl
  · obtain ⟨p, ng, nw, ll, gs, ws, ls, rfl, NA, N, sl, lok, lt, q⟩ := h
    have nd := scShared.nd
    refine ⟨_, pss_cons (ps_set (i := 2) nd rfl (.inl rfl) pe_dnewK) <|
        pss_cons (ps_for PassesOwn.never rfl (pi_zip (by rfl) B.zip (pa_cons (pe_fld (pv 0) rfl) (pa_cons (pe_call DLc.ok (hr.mono (by decide)) (by rfl) DLc.mg DLc.kp DLc.bd .nil pass0 (pa_cons (pv 0) (pa_cons (pv 1) pa_nil))) pa_nil))) (pg_tup rfl (pgs_cons (pg_tup rfl (pgs_cons (pg_name (i := 3) nd rfl (.inl rfl)) (pgs_cons (pg_name (i := 4) nd rfl (.inl rfl)) (pgs_cons (pg_name (i := 5) nd rfl (.inl rfl)) pgs_nil)))) (pgs_cons (pg_name (i := 6) nd rfl (.inl rfl)) pgs_nil))) (pss_one (ps_dput (hu_of hr) (pv 2) (pv 3) (pe_callB (call_max2 rfl) (by rfl) B.max (by decide +kernel) (pa_cons (pe_dget2 (hu_of hr) (pv 2) (pv 3) pe_int ⟨rfl, rfl, rfl, rfl⟩) (pa_cons (pv 6) pa_nil))) rfl))) <|
        pss_one (ps_ret (pe_callB (cr_sum rfl) (by rfl) ms (by decide +kernel) (pa_cons (pe_listVals rfl (by rfl) B.list (pv 2)) pa_nil))), ?_⟩
    obtain ⟨dx, ob⟩ := id NA.ob
    obtain ⟨gv, hgv, ga⟩ := id NA.g
    obtain ⟨wv, hwv, wa⟩ := id NA.w
    have hlg : gv.length = gs.length := ga.1
    have hlw : wv.length = ws.length := wa.1
    have hgl := N.gl
    have hwl := N.wl
    refine fun dd hdd => ?_
    have ed : (upd H dd (.dK [])) dd = some (.dK []) := upd_same
    have s1 : Same H (upd H dd (.dK [])) := same_new hdd
    obtain ⟨H1, hH1⟩ : ∃ H1, H1 = upd H dd (.dK []) := ⟨_, rfl⟩
    rw [← hH1] at ed s1
    refine gn_normH (σ' := [some (.ref p), some (.ref ll), some (.ref dd), none, none, none, none]) (H' := H1) rfl hH1.symm ?_
    refine ⟨_, rfl, p, C, dx, _, _, rfl, s1 _ _ ob, T.cl, T.nW, nf_wires _ _, _, rfl, _, rfl, p, ng, nw, ll, gs, ws, ls, rfl, NA.same s1, N, s1.seq sl, lok, lt, fun lc H2 s2 hlc elc => ?_⟩
    have s12 := s1.trans s2
    have hcl : (cntsL ws ls).length = ws.length := List.length_map ..
    refine ⟨nw, lc, wv, _, rfl, SqL.of (s12 _ _ hwv), SqL.of elc, for_it (walk_zip (K := K) (a := nw) (b := lc) (xs := wv) (ys := (cntsL ws ls).map V.int) (n := ws.length) (by rw [List.length_map]; omega)) (fun i σ H' => ∃ (u3 u4 u5 u6 : Option V) (kvs : List (Key × V)) (ks : List Nat), σ = [some (.ref p), some (.ref ll), some (.ref dd), u3, u4, u5, u6] ∧ H' dd = some (.dK kvs) ∧ SInv (ws.take i) (lagF ls) kvs ks ∧ Same H H' ∧ H' lc = some (.lst ((cntsL ws ls).map V.int)))
      ⟨_, _, _, _, [], [], rfl, s2 _ _ ed, ⟨rfl, List.nodup_nil, (fun s => Iff.rfl), (fun s hs => nomatch hs)⟩, s12, elc⟩ (fun i σ H' _ ⟨_, _, _, _, _, _, _, _, _, sm, sc⟩ => ⟨SqL.of (sm _ _ hwv), SqL.of sc⟩) ?_ ?_⟩
    · rintro i v σ H3 H3' hi ⟨u3, u4, u5, u6, kvs, ks, rfl, hd3, SI, sm, sc⟩ ⟨T', x1, y, rfl, hT, rfl, ex, ey⟩
      obtain ⟨x, hx, a, b, rfl, sq1, sq2⟩ := wa.get ex
      have hiw : i < ws.length := (List.getElem?_eq_some_iff.mp hx).1
      obtain ⟨c, hc, rfl⟩ := int_atF ey
      have hcx : c = cntW (lagF ls) x := by
        rw [cntsL_cntW, List.getElem?_map, hx] at hc
        exact (Option.some.inj hc).symm
      have hc0 : 0 ≤ c := lt c (List.mem_of_getElem? hc)
      have sT := same_new (o := .tup [.ref a, .int c]) hT
      have eT : (upd H3 T' (.tup [.ref a, .int c])) T' = some (.tup [.ref a, .int c]) := upd_same
      have smT := sm.trans sT
      have hd4 := sT _ _ hd3
      have sc4 := sT _ _ sc
      generalize upd H3 T' (.tup [.ref a, .int c]) = H4 at sT eT smT hd4 sc4
      refine ⟨T', _, rfl, .inl (.inl eT), rfl, _, _, rfl, a, _, rfl, (TK.same smT).seq sq1, rfl, _, _, rfl, _, _, rfl, _, _, rfl, rfl, _, _, rfl, rfl, ?_⟩
      have hkl := SI.len
      have hkb : ks.length ≤ 1000 := by
        have := List.Nodup.length_le_of_subset SI.nd (l₂ := (ws.take i).map fun x => x.1) (fun a ha => (SI.me a).mp ha)
        rw [List.length_map, List.length_take] at this
        omega
      refine ⟨_, rfl, dd, rfl, .inl ⟨_, .inl hd4⟩, _, rfl, _, DGet.k (k := Sum.inl ((x.1 : Nat) : Int)) hd4, ?_⟩
      refine ⟨_, rfl, _, c, congrArg (fun z => [z, V.int c]) (SI.get x.1), ?_⟩
      refine ⟨_, rfl, _, rfl, dd, _, rfl, DPut.k (k := Sum.inl ((x.1 : Nat) : Int)) hd4 (small1000 (by omega)), ?_⟩
      rw [hcx] at hc0 ⊢
      obtain ⟨ks', SI'⟩ := SI.put hc0
      refine ⟨_, _, _, _, _, ks', rfl, upd_same, ?_, same_mut smT hdd, ?_⟩
      · rw [List.take_add_one, hx]
        exact SI'
      · have nd : lc ≠ dd := fun e => by
          rw [e, s2 _ _ ed] at elc
          cases elc
        exact (upd_ne nd).trans sc4
    rintro σ H3 ⟨u3, u4, u5, u6, kvs, ks, rfl, hd3, SI, sm, sc⟩
    rw [List.take_length] at SI
    obtain ⟨e1, e2⟩ := SI.sum fun x hx => (N.wok x hx).s
    refine ⟨_, rfl, dd, kvs, rfl, hd3, fun lv hlv => ?_⟩
    have s4 := same_new (o := .lst (kvs.map fun kv => kv.2)) hlv
    refine ⟨lv, _, rfl, SqL.of (by rw [upd_same, e1]), ?_⟩
    rw [e2]
    exact q _ (sm.trans s4)
end
end Lag

set_option maxRecDepth 100000
set_option maxHeartbeats 8000000
namespace Lag
open PySem PySem.Spec PyProof.Rows L2
theorem exm_self {K : PySem.W.Frag} {S : Addr} (h1 : PySem.W.subIn K (.ref S) (.type "BaseException") = some true) (h2 : PySem.W.isClsIn K S = true) (h3 : PySem.W.typeIn K (.ref S) = some (.type "type")) (h4 : PySem.W.subIn K (.ref S) (.ref S) = some true) :
    PySem.W.exmOne K (.ref S) (.ref S) = some true := by
  have e1 : (PySem.W.subIn K (.ref S) (.type "BaseException") == some true) = true := by rw [h1] <;> rfl
  have e2 : ((PySem.W.clsIn K S).isSome && PySem.W.typeIn K (.ref S) == some (.type "type")) = true := by
    have h2' : (PySem.W.clsIn K S).isSome = true := h2
    rw [h2', h3] <;> rfl
  show (if (PySem.W.subIn K (.ref S) (.type "BaseException") == some true) = true then (if ((PySem.W.clsIn K S).isSome && PySem.W.typeIn K (.ref S) == some (.type "type")) = true then PySem.W.subIn K (.ref S) (.ref S) else none) else none) = some true
  rw [if_pos e1, if_pos e2]
  exact h4
/-- what the top tells of a class under LagError that has nothing of its own -/
structure PEx (K : PySem.W.Frag) (mg : Str → Option Value) (x : Str) (C : Addr) : Prop where
  g : mg x = some (.ref C)
  q : PySem.W.excIn K C [.type "ValueError", .type "Exception", .type "BaseException", .type "object"] "ValueError.__new__" = true
  k : PySem.W.keepIn K (.ref C) = true
  e : PySem.W.subIn K (.ref C) (.type "BaseException") = some true
  t : PySem.W.typeIn K (.ref C) = some (.type "type")
  te : PySem.W.exmOne K (.ref C) (.ref C) = some true
/-! ### things that may stand where a number is asked -/
inductive OdV (H : Hp) : V → Option Int → Prop where
  | int (n : Int) : OdV H (.int n) (some n)
  | bl (b : Bool) : OdV H (.bl b) none
  | non : OdV H .non none
  | str (x : Str) : OdV H (.str x) none
  | tup {a : Addr} {xs : List V} (e : H a = some (.tup xs)) : OdV H (.ref a) none
  | lst {a : Addr} {xs : List V} (e : H a = some (.lst xs)) : OdV H (.ref a) none
theorem OdV.same {H H' : Hp} {v : V} {o : Option Int} (h : OdV H v o) (s : Same H H') : OdV H' v o := by
  cases h with
  | int n => exact .int n
  | bl b => exact .bl b
  | non => exact .non
  | str x => exact .str x
  | tup e => exact .tup (s _ _ e)
  | lst e => exact .lst (s _ _ e)
theorem OdV.ty {K : PySem.W.Frag} {H : Hp} {v : V} {o : Option Int} (h : OdV H v o) : ∃ (t : String) (b1 b2 : Bool), TyX K H v (.type t) ∧ kitB t "int" = some b1 ∧ kitB t "bool" = some b2 ∧ (b1 && !b2) = o.isSome := by
  cases h with
  | int n => exact ⟨"int", true, false, .base (.int n), by decide +kernel, by decide +kernel, rfl⟩
  | bl b => exact ⟨"bool", true, true, .base (.bl b), by decide +kernel, by decide +kernel, rfl⟩
  | non => exact ⟨"NoneType", false, false, .base .non, by decide +kernel, by decide +kernel, rfl⟩
  | str x => exact ⟨"str", false, false, .base (.str x), by decide +kernel, by decide +kernel, rfl⟩
  | tup e => exact ⟨"tuple", false, false, .base (.tup e), by decide +kernel, by decide +kernel, rfl⟩
  | lst e => exact ⟨"list", false, false, .base (.lst e), by decide +kernel, by decide +kernel, rfl⟩
/-- from .. to .., of any thing -/
def fromO (o : Option Int) (a b : Int) : Bool := match o with
  | some n => decide (a ≤ n) && decide (n ≤ b)
  | none => false
def spWholeX : Sp := fun vs H Q _ => ∃ (v : V) (o : Option Int), vs = [v] ∧ OdV H v o ∧ Q (.bl o.isSome) H
def spFromToX : Sp := fun vs H Q _ => ∃ (v : V) (o : Option Int) (a b : Int), vs = [v, .int a, .int b] ∧ OdV H v o ∧ Q (.bl (fromO o a b)) H
/-- lags, or what else stands there -/
def GoodL (gs : List Gt) (os : List (Option Int)) : Prop := os.length = gs.length ∧ ∀ (i : Nat) (g : Gt) (o : Option Int), gs[i]? = some g → os[i]? = some o → ∃ n, o = some n ∧ -500 ≤ n ∧ n ≤ 500 ∧ (portK g.1 → n = 0)
theorem GoodL.ints {gs : List Gt} {os : List (Option Int)} (h : GoodL gs os) : ∃ ls : List Int, os = ls.map some ∧ LagOk gs ls := by
  have hs : ∀ o ∈ os, ∃ n, o = some n := fun o ho => by
    obtain ⟨i, hi⟩ := List.getElem?_of_mem ho
    have hl : i < gs.length := by
      rw [← h.1]
      exact (List.getElem?_eq_some_iff.mp hi).1
    obtain ⟨n, e, _⟩ := h.2 i _ o (List.getElem?_eq_getElem hl) hi
    exact ⟨n, e⟩
  have ex : os = (os.map fun o => o.getD 0).map some := by
    rw [List.map_map]
    refine (List.map_id' os).symm.trans (List.map_congr_left fun o ho => ?_)
    obtain ⟨n, rfl⟩ := hs o ho
    rfl
  refine ⟨_, ex, by rw [List.length_map]; exact h.1, fun i g l hg hl => ?_⟩
  have hl' : os[i]? = some (some l) := by
    rw [ex, List.getElem?_map, hl]
    rfl
  obtain ⟨n, e, h1, h2, h3⟩ := h.2 i g _ hg hl'
  cases e
  exact ⟨h1, h2, h3⟩
theorem LagOk.good {gs : List Gt} {ls : List Int} (h : LagOk gs ls) : GoodL gs (ls.map some) := by
  refine ⟨by rw [List.length_map]; exact h.len, fun i g o hg ho => ?_⟩
  rw [List.getElem?_map] at ho
  cases e : ls[i]? with
  | none =>
    rw [e] at ho
    cases ho
  | some l =>
    rw [e] at ho
    cases ho
    obtain ⟨h1, h2, h3⟩ := h.ok i g l hg e
    exact ⟨l, rfl, h1, h2, h3⟩
/-- what is handed in as lags: a list, or something else -/
inductive LagsV (K : PySem.W.Frag) (H : Hp) (gs : List Gt) : V → Option (List (Option Int)) → Prop where
  | lst {a : Addr} {vs : List V} {os : List (Option Int)} (e : H a = some (.lst vs)) (al : All2 (OdV H) vs os) : LagsV K H gs (.ref a) (some os)
  | odd {v : V} {t : String} (h : TyX K H v (.type t)) (n : kitB t "list" = some false) : LagsV K H gs v none
def GoodT (gs : List Gt) (t : Option (List (Option Int))) : Prop := ∃ os, t = some os ∧ GoodL gs os
def spChkX (K : PySem.W.Frag) (C CL : Addr) : Sp := fun vs H Q E => ∃ (p ng nw : Addr) (v : V) (gs : List Gt) (ws : List Wr) (t : Option (List (Option Int))), vs = [.ref p, v] ∧ NetAt K C H p ng nw gs ws ∧ gs.length ≤ 1000 ∧ LagsV K H gs v t ∧
  (∀ os, t = some os → os.length ≤ 1000) ∧ (GoodT gs t → ∀ H', Same H H' → Q .non H') ∧ (¬ GoodT gs t → ∀ H', Same H H' → E (.ref CL) none H')
section
variable {P : Program} {w : World} {K : PySem.W.Frag} {mg : Str → Option Value} {base : Heap}
theorem ok_wholeX {f : Addr} {fd : FuncData} (F : Fun K "is_whole" "is_whole" sWhole f fd) (B : Bt mg) : FnOk P w K mg base CX0 1 f fd ["thing"] spWholeX := by
  refine F.ok scWhole (fun vs H Q E h => ?_) (fun cdv A outer s H vs Q E hr h => ?_)
  · obtain ⟨v, o, rfl, _⟩ := h
    rfl
  · obtain ⟨v, o, rfl, ho, q⟩ := h
    refine ⟨_, pss_one <| ps_ret <| pe_and (pe_callB call_isi (by rfl) B.isi (by decide +kernel) (pa_cons (pv 0) (pa_cons (pe_bltn (v := .ty "int") (by rfl) B.int (by decide +kernel) rfl) pa_nil)))
      (pe_one (pe_not (pe_callB call_isi (by rfl) B.isi (by decide +kernel) (pa_cons (pv 0) (pa_cons (pe_bltn (v := .ty "bool") (by rfl) B.bool (by decide +kernel) rfl) pa_nil))))), ?_⟩
    obtain ⟨t, b1, b2, ty, k1, k2, e⟩ := ho.ty (K := K)
    refine ⟨_, rfl, _, _, _, _, b1, rfl, .ty "int", ty, kit_ty k1, b1, rfl, ite2 (fun e1 => ?_) (fun e1 => ?_)⟩
    · subst e1
      refine ⟨_, rfl, _, _, _, _, b2, rfl, .ty "bool", ty, kit_ty k2, b2, rfl, ?_⟩
      rw [← e] at q
      exact q
    · have e2 : b1 = false := by simpa using e1
      subst e2
      rw [← e] at q
      exact q
theorem ok_fromToX {f fW : Addr} {fd fdW : FuncData} (F : Fun K "is_whole_from_to" "is_whole_from_to" sFromTo f fd) (DW : DWhole P w K mg base fW fdW) (DX : FnOk P w K mg base CX0 1 fW fdW ["thing"] spWholeX) : FnOk P w K mg base CX0 2 f fd ["thing", "least", "greatest"] spFromToX := by
  refine F.ok scFromTo (fun vs H Q E h => ?_) (fun cdv A outer s H vs Q E hr h => ?_)
  · obtain ⟨v, o, a, b, rfl, _⟩ := h
    rfl
  · obtain ⟨v, o, a, b, rfl, ho, q⟩ := h
    have hr1 : Room 1 _ := hr.mono (by decide)
    refine ⟨_, pss_one <| ps_ret <| pe_and (pe_call DX hr1 (by rfl) DW.mg DW.kp DW.bd .nil pass0 (pa_cons (pv 0) pa_nil)) (pe_one (pe_chain op_le op_le (pv 1) (pv 0) (pv 2))), ?_⟩
    refine ⟨_, rfl, v, o, rfl, ho, o.isSome, rfl, ?_⟩
    cases ho with
    | int n =>
      refine iteT ?_
      refine ⟨_, rfl, _, rfl, _, _, rfl, rfl, _, rfl, ?_⟩
      have q : Q (.bl (decide (a ≤ n) && decide (n ≤ b))) H := q
      cases e : decide (a ≤ n) with
      | false =>
        rw [e] at q
        exact iteF q
      | true =>
        rw [e] at q
        exact iteT ⟨_, rfl, _, _, rfl, rfl, q⟩
    | bl b' => exact iteF q
    | non => exact iteF q
    | str x => exact iteF q
    | tup e => exact iteF q
    | lst e => exact iteF q
theorem ok_chkX {f fO fF C CL : Addr} {fd fdO fdF : FuncData} (F : Fun K "check_lags" "check_lags" sChkLags f fd) (B : Bt mg) (T : NT K mg C) (gl : ∃ t, mg "GREATEST_LAG" = some (.int 500 t)) (DO : DOuter P w K mg base fO fdO) (DF : DFromTo P w K mg base fF fdF) (DFX : FnOk P w K mg base CX0 2 fF fdF ["thing", "least", "greatest"] spFromToX) (NL : PEx K mg "NoLags" CL) : FnOk P w K mg base (L2.CX P w) 3 f fd ["net", "lags"] (spChkX K C CL) := by
  obtain ⟨tg, hgl⟩ := gl
  refine F.okX scChkLags (fun vs H Q E h => ?_) (fun cdv A outer s H vs Q E hr h => ?_)
  · obtain ⟨p, ng, nw, v, gs, ws, t, rfl, _⟩ := h
    rfl
  · obtain ⟨p, ng, nw, v, gs, ws, t, rfl, NA, hgl1, hv, hbig, qy, qn⟩ := h
    have nd := scChkLags.nd
    have hr1 : Room 1 _ := hr.mono (by decide)
    refine ⟨_, pss_cons (ps_if (PW.pt (pw_or (pt_not (pt_val (pe_callB call_isi (by rfl) B.isi (by decide +kernel) (pa_cons (pv 1) (pa_cons (pe_bltn (v := .ty "list") (by rfl) B.list (by decide +kernel) rfl) pa_nil)))))
          (pw_or1 (pt_cmpR op_ne (pe_callB call_len_seq (by rfl) B.len PySem.boot_len (pa_cons (pv 1) pa_nil)) (pe_callB call_len_seq (by rfl) B.len PySem.boot_len (pa_cons (pe_fld (pv 0) rfl) pa_nil)) (nomark _))))) (pss_one (ps_raise rfl (takes_of rfl rfl rfl rfl) (pmk_own PySem.F.excBase_ValueError NL.q NL.g NL.k (raises_own NL.e NL.t) (by rfl)))) pss_nil) <|
      pss_one <| ps_for (passes_of rfl) rfl (pi_zip (by rfl) B.zip (pa_cons (pe_fld (pv 0) rfl) (pa_cons (pv 1) pa_nil))) (pg_tup rfl (pgs_cons (pg_name (i := 2) nd rfl (.inl rfl)) (pgs_cons (pg_name (i := 3) nd rfl (.inl rfl)) pgs_nil))) <|
        pss_cons (ps_set (i := 4) nd rfl (.inl rfl) (pe_ifExp (pt_val (pe_call DO.ok hr1 (by rfl) DO.mg DO.kp DO.bd .nil pass0 (pa_cons (pv 2) pa_nil))) pe_int (pe_glob (v := .int 500) (by rfl) hgl ⟨_, rfl⟩))) <|
        pss_one <| ps_if (pt_not (pt_val (pe_call DFX hr (by rfl) DF.mg DF.kp DF.bd .nil pass0 (pa_cons (pv 3) (pa_cons (pe_un un_neg (pv 4)) (pa_cons (pv 4) pa_nil)))))) (pss_one (ps_raise rfl (takes_of rfl rfl rfl rfl) (pmk_own PySem.F.excBase_ValueError NL.q NL.g NL.k (raises_own NL.e NL.t) (by rfl)))) pss_nil, ?_⟩
    obtain ⟨dx, ob⟩ := id NA.ob
    obtain ⟨gv, hgv, ga⟩ := id NA.g
    have hlg : gv.length = gs.length := ga.1
    cases hv with
    | odd ty nl =>
      refine ⟨_, rfl, _, _, _, _, false, rfl, .ty "list", ty, kit_ty nl, false, rfl, iteT ?_⟩
      exact qn (fun ⟨os, e, _⟩ => by cases e) H (Same.refl H)
    | @lst ll vs os e al =>
      have hlo : vs.length = os.length := al.1
      have sl : SqL K H ll vs := SqL.of e
      refine ⟨_, rfl, _, _, _, _, true, rfl, .ty "list", ty_lst sl, kit_ty (by decide +kernel), true, rfl, iteF ?_⟩
      by_cases hne : os.length = gs.length
      · refine ⟨_, rfl, ll, _, rfl, .inl sl, _, rfl, p, C, dx, _, _, rfl, ob, T.cl, T.nG, nf_gates _ _, ng, gv, rfl, .inl (SqL.of hgv), rfl, false, ?_, iteF ?_⟩
        · rw [hlo, hlg, hne, decide_eq_true rfl]
          rfl
        refine ⟨_, rfl, p, C, dx, _, _, rfl, ob, T.cl, T.nG, nf_gates _ _, _, rfl, ng, ll, gv, _, rfl, SqL.of hgv, sl, RZ.for_zipL (K := K) (a := ng) (b := ll) (xs := gv) (ys := vs) (by rw [hlg, hlo, hne]) (fun i σ H' => ∃ s2 s3 s4 : Option V, σ = [some (.ref p), some (.ref ll), s2, s3, s4] ∧ Same H H' ∧ ∀ (j : Nat) (g : Gt) (o : Option Int), j < i → gs[j]? = some g → os[j]? = some o → ∃ n, o = some n ∧ -500 ≤ n ∧ n ≤ 500 ∧ (portK g.1 → n = 0)) ⟨_, _, _, rfl, Same.refl _, fun j g o h => absurd h (by omega)⟩ (fun i σ H' ⟨_, _, _, _, sm, _⟩ => ⟨SqL.of (sm _ _ hgv), sm.seq sl⟩) ?_ ?_⟩
        · rintro i x y T' σ H1 hx hy ⟨s2, s3, s4, rfl, sm, ok⟩ hT
          obtain ⟨g, hg, gv'⟩ := ga.get hx
          obtain ⟨o, ho, ov⟩ := al.get hy
          have sT := sm.trans (same_new (o := .tup [x, y]) hT)
          have ov' := ov.same sT
          refine ⟨T', _, rfl, .inl (.inl upd_same), rfl, _, _, rfl, _, _, rfl, rfl, ?_⟩
          have nx : ∀ n : Int, o = some n → -500 ≤ n → n ≤ 500 → (portK g.1 → n = 0) → ∀ (j : Nat) (g : Gt) (o : Option Int), j < i + 1 → gs[j]? = some g → os[j]? = some o → ∃ n, o = some n ∧ -500 ≤ n ∧ n ≤ 500 ∧ (portK g.1 → n = 0) := fun n e n0 n1 np j g' o' hj hg' ho' => by
            by_cases hji : j = i
            · subst hji
              rw [hg] at hg'
              rw [ho] at ho'
              cases hg'
              cases ho'
              exact ⟨n, e, n0, n1, np⟩
            · exact ok j g' o' (by omega) hg' ho'
          have bad : ∀ lo hi : Int, fromO o lo hi = false → (∀ n, o = some n → -500 ≤ n → n ≤ 500 → (portK g.1 → n = 0) → lo ≤ n ∧ n ≤ hi) → ¬ GoodT gs (some os) := fun lo hi hf hb ⟨os', e', hg'⟩ => by
            cases e'
            obtain ⟨n, e, n0, n1, np⟩ := hg'.2 i g o hg ho
            obtain ⟨k1, k2⟩ := hb n e n0 n1 np
            subst e
            have : (decide (lo ≤ n) && decide (n ≤ hi)) = false := hf
            rw [decide_eq_true k1, decide_eq_true k2] at this
            cases this
          have yes : ∀ lo hi : Int, fromO o lo hi = true → ∃ n, o = some n ∧ lo ≤ n ∧ n ≤ hi := fun lo hi hf => by
            cases o with
            | none => cases hf
            | some n =>
              have h : (decide (lo ≤ n) && decide (n ≤ hi)) = true := hf
              rw [Bool.and_eq_true, decide_eq_true_eq, decide_eq_true_eq] at h
              exact ⟨n, rfl, h.1, h.2⟩
          refine ⟨_, rfl, x, g, rfl, gv'.tk (TK.same sT), fun b hb => ⟨b, rfl, ite2 (fun e => ?_) (fun e => ?_)⟩⟩
          · refine ⟨_, rfl, _, rfl, _, rfl, _, rfl, y, o, 0, 0, rfl, ov', fromO o 0 0, rfl, ?_⟩
            cases ef : fromO o 0 0 with
            | false => exact iteT (qn (bad 0 0 ef fun n _ _ _ np => by have := np (hb.mp e); omega) _ sT)
            | true =>
              obtain ⟨n, e1, e2, e3⟩ := yes 0 0 ef
              exact iteF ⟨_, _, _, rfl, sT, nx n e1 (by omega) (by omega) fun _ => by omega⟩
          · refine ⟨_, rfl, _, rfl, _, rfl, _, rfl, y, o, -500, 500, rfl, ov', fromO o (-500) 500, rfl, ?_⟩
            cases ef : fromO o (-500) 500 with
            | false => exact iteT (qn (bad _ _ ef fun n _ n0 n1 _ => ⟨n0, n1⟩) _ sT)
            | true =>
              obtain ⟨n, e1, e2, e3⟩ := yes _ _ ef
              exact iteF ⟨_, _, _, rfl, sT, nx n e1 e2 e3 fun hp => absurd (hb.mpr hp) e⟩
        · rintro σ H1 ⟨s2, s3, s4, rfl, sm, ok⟩
          refine qy ⟨os, rfl, hne, fun i g o hg ho => ok i g o ?_ hg ho⟩ H1 sm
          rw [hlg]
          exact (List.getElem?_eq_some_iff.mp hg).1
      · refine ⟨_, rfl, ll, _, rfl, .inl sl, _, rfl, p, C, dx, _, _, rfl, ob, T.cl, T.nG, nf_gates _ _, ng, gv, rfl, .inl (SqL.of hgv), rfl, true, ?_, iteT ?_⟩
        · rw [hlo, hlg]
          show V.bl (!decide (V.int (os.length : Nat) = V.int (gs.length : Nat))) = V.bl true
          rw [decide_eq_false fun z => hne (by have := V.int.inj z; omega)]
          rfl
        exact qn (fun ⟨os', e', h⟩ => by cases e'; exact hne h.1) H (Same.refl H)
end
end Lag

set_option maxRecDepth 100000
set_option maxHeartbeats 8000000
namespace Lag
open PySem PySem.Spec PyProof.Rows L2
theorem OdV.num {H : Hp} {v : V} {n : Int} (h : OdV H v (some n)) : v = .int n := by
  cases h
  rfl
theorem odd_ints {H : Hp} {vs : List V} {ls : List Int} (h : All2 (OdV H) vs (ls.map some)) : vs = ls.map V.int := by
  have hl : vs.length = ls.length := by rw [h.1, List.length_map]
  refine List.ext_getElem? fun i => ?_
  by_cases hi : i < vs.length
  · obtain ⟨o, ho, ov⟩ := h.get (List.getElem?_eq_getElem hi)
    rw [List.getElem?_map, List.getElem?_eq_getElem (by omega)] at ho
    cases ho
    rw [List.getElem?_eq_getElem hi, List.getElem?_map, List.getElem?_eq_getElem (by omega), ov.num]
    rfl
  · rw [List.getElem?_eq_none (by omega), List.getElem?_eq_none (by rw [List.length_map]; omega)]
/-- asked with anything: told, or refused -/
def spAskX (K : PySem.W.Frag) (C CL : Addr) : Sp := fun vs H Q E => ∃ (p ng nw : Addr) (v : V) (gs : List Gt) (ws : List Wr) (t : Option (List (Option Int))), vs = [.ref p, v] ∧ NetAt K C H p ng nw gs ws ∧ NetOk gs ws ∧ LagsV K H gs v t ∧
  (∀ os, t = some os → os.length ≤ 1000) ∧ (GoodT gs t → ∀ y H', Same H H' → Q y H') ∧ (¬ GoodT gs t → ∀ H', Same H H' → E (.ref CL) none H')
theorem LagsV.good {K : PySem.W.Frag} {H : Hp} {gs : List Gt} {v : V} {t : Option (List (Option Int))} (h : LagsV K H gs v t) (g : GoodT gs t) : ∃ (a : Addr) (ls : List Int), v = .ref a ∧ H a = some (.lst (ls.map V.int)) ∧ LagOk gs ls := by
  obtain ⟨os, rfl, go⟩ := g
  obtain ⟨ls, rfl, lok⟩ := go.ints
  cases h with
  | lst e al =>
    rw [odd_ints al] at e
    exact ⟨_, ls, rfl, e, lok⟩
section
variable {P : Program} {w : World} {K : PySem.W.Frag} {mg : Str → Option Value} {base : Heap}
theorem ok_countsX {f fC fB C CL : Addr} {fd fdC fdB : FuncData} (F : Fun K "counts" "counts" sCounts f fd) (DX : FnOk P w K mg base (L2.CX P w) 3 fC fdC ["net", "lags"] (spChkX K C CL)) (DC : DChkLags P w K mg base C fC fdC) (DB : DCountsBy P w K mg base C fB fdB) : FnOk P w K mg base (L2.CX P w) 4 f fd ["net", "lags"] (spAskX K C CL) := by
  refine F.okX scCounts (fun vs H Q E h => ?_) (fun cdv A outer s H vs Q E hr h => ?_)
  · obtain ⟨p, ng, nw, v, gs, ws, t, rfl, _⟩ := h
    rfl
  · obtain ⟨p, ng, nw, v, gs, ws, t, rfl, NA, N, hv, hbig, qy, qn⟩ := h
    have hr1 : Room 1 _ := hr.mono (by decide)
    have hr3 : Room 3 _ := hr.mono (by decide)
    have hgl := N.gl
    refine ⟨_, pss_cons (ps_expr (pe_callS DX hr3 (by rfl) DC.mg DC.kp DC.bd (fun σ => passAt (takes_of rfl rfl rfl rfl) σ) (pa_cons (pv 0) (pa_cons (pv 1) pa_nil)))) <|
      pss_one <| ps_ret (pe_call DB.ok hr1 (by rfl) DB.mg DB.kp DB.bd .nil pass0 (pa_cons (pv 0) (pa_cons (pv 1) pa_nil))), ?_⟩
    refine ⟨_, rfl, _, rfl, p, ng, nw, v, gs, ws, t, rfl, NA, by omega, hv, hbig, fun g H1 s1 => ?_, fun b H1 s1 => qn b H1 s1⟩
    obtain ⟨a, ls, rfl, e, lok⟩ := hv.good g
    exact ⟨_, rfl, _, rfl, p, ng, nw, a, gs, ws, ls, rfl, NA.same s1, N, SqL.of (s1 _ _ e), lok.len, fun l H2 s2 _ _ => qy g _ H2 (s1.trans s2)⟩
end
end Lag

set_option maxRecDepth 100000
set_option maxHeartbeats 8000000
namespace Lag
open PySem PySem.Spec PyProof.Rows L2
def lcntX (Ls : List Int) (x : Wr) : Int := ((x.2.2.length : Nat) : Int) + Ls.getD x.2.1 0 - Ls.getD x.1 0
def lcntL (ws : List Wr) (Ls : List Int) : List Int := ws.map (lcntX Ls)
def regsI (ws : List Wr) : List Int := ws.map fun x => ((x.2.2.length : Nat) : Int)
theorem lcntL_at {ws : List Wr} {Ls : List Int} {p : Nat} {x : Wr} (h : ws[p]? = some x) : (lcntL ws Ls).getD p 0 = lcntX Ls x := by
  unfold lcntL
  rw [List.getD_eq_getElem?_getD, List.getElem?_map, h]
  rfl
def spLCounts (K : PySem.W.Frag) : Sp := fun vs H Q _ => ∃ (lw ls : Addr) (gs : List Gt) (ws : List Wr) (Ls : List Int), vs = [.ref lw, .ref ls] ∧ LW K H lw ws ∧ NetOk gs ws ∧ H ls = some (.lst (Ls.map V.int)) ∧ Ls.length = gs.length ∧
  ∀ l H', Same H H' → H l = none → H' l = some (.lst ((lcntL ws Ls).map V.int)) → Q (.ref l) H'
def spFixed (K : PySem.W.Frag) : Sp := fun vs H Q _ => ∃ (lg : Addr) (g : Nat) (gs : List Gt), vs = [.ref lg, .int (g : Nat)] ∧ LG K H lg gs ∧ g < gs.length ∧ ∀ b H', (b = true ↔ portK (kindAt gs g)) → Same H H' → Q (.bl b) H'
theorem getD_set {ts : List Int} {i j : Nat} {v : Int} (h : i < ts.length) : (ts.set i v).getD j 0 = if i = j then v else ts.getD j 0 := by
  rw [List.getD_eq_getElem?_getD, List.getD_eq_getElem?_getD, List.getElem?_set]
  by_cases e : i = j
  · subst e
    rw [if_pos rfl, if_pos h, if_pos rfl]
    rfl
  · rw [if_neg e, if_neg e]
abbrev sFixed : Stmt := topS 49 -- @_law_fixed
abbrev sLCounts : Stmt := topS 50 -- @_law_counts
abbrev sLShifts : Stmt := topS 53 -- @_law_shifts
theorem rep_getD (n g : Nat) : (List.replicate n (0 : Int)).getD g 0 = 0 := by
  rw [List.getD_eq_getElem?_getD, List.getElem?_replicate]
  split <;> rfl
def spLShifts (K : PySem.W.Frag) : Sp := fun vs H Q _ => ∃ (wl lg lw : Addr) (gs : List Gt) (ws : List Wr), vs = [.ref wl, .ref lg, .ref lw] ∧ WellAt wl H ∧ lg ≠ wl ∧ lw ≠ wl ∧ LG K H lg gs ∧ LW K H lw ws ∧ NetOk gs ws ∧
  ∀ (l : Addr) (Ls : List Int) (H' : Hp), Dr wl H H' → l ≠ wl → H' l = some (.lst (Ls.map V.int)) → Ls.length = gs.length → (∀ z ∈ Ls, -40 ≤ z ∧ z ≤ 40) → (∀ g, g < gs.length → portK (kindAt gs g) → Ls.getD g 0 = 0) → (∀ y ∈ lcntL ws Ls, 0 ≤ y) → Q (.ref l) H'
abbrev sGivers : Stmt := topS 51 -- @_law_givers
abbrev sLShared : Stmt := topS 52 -- @_law_shared
theorem atI_d {xs : List V} {d : Int} {v : V} (h0 : 0 ≤ d) (hv : xs[d.toNat]? = some v) : atI xs d = some v := by
  obtain ⟨k, rfl⟩ : ∃ k : Nat, d = (k : Int) := ⟨d.toNat, by omega⟩
  exact atI_nat hv
theorem giv_sorted {n : Nat} {ws : List Wr} {W : List Int} (hs : ∀ x ∈ ws, x.1 < n) (hW : W.Pairwise (· < ·)) (hmem : ∀ k, k ∈ W ↔ k ∈ (ws.map fun x => x.1).map fun k => ((k : Nat) : Int)) : W = (givL n ws).map fun k => ((k : Nat) : Int) := by
  have h1 := pw_int (givL_sort n ws)
  refine sorted_eq ((List.perm_ext_iff_of_nodup (hW.imp fun h => Int.ne_of_lt h) (h1.imp fun h => Int.ne_of_lt h)).mpr fun k => ?_) (hW.imp fun h => Int.le_of_lt h) (h1.imp fun h => Int.le_of_lt h)
  rw [hmem, List.mem_map, List.mem_map]
  constructor
  · rintro ⟨s, hs', rfl⟩
    obtain ⟨x, hx, rfl⟩ := List.mem_map.mp hs'
    exact ⟨x.1, mem_givL.mpr ⟨hs x hx, x, hx, rfl⟩, rfl⟩
  · rintro ⟨s, hs', rfl⟩
    obtain ⟨_, x, hx, rfl⟩ := mem_givL.mp hs'
    exact ⟨x.1, List.mem_map.mpr ⟨x, hx, rfl⟩, rfl⟩
theorem givL_len {n : Nat} {ws : List Wr} (h : ws.length ≤ 1000) : (givL n ws).length ≤ 1000 := by
  have := List.Nodup.length_le_of_subset (givL_nd n ws) (l₂ := ws.map fun x => x.1) fun g hg => by
    obtain ⟨_, x, hx, rfl⟩ := mem_givL.mp hg
    exact List.mem_map.mpr ⟨x, hx, rfl⟩
  rw [List.length_map] at this
  omega
def spGivers (K : PySem.W.Frag) : Sp := fun vs H Q _ => ∃ (lw : Addr) (ws : List Wr) (n : Nat), vs = [.ref lw] ∧ LW K H lw ws ∧ ws.length ≤ 1000 ∧ (∀ x ∈ ws, x.1 < n) ∧ ∀ l H', Same H H' → H l = none → H' l = some (.lst (nvs (givL n ws))) → Q (.ref l) H'
/-- the places of the wires out of a gate -/
def outP (ws : List Wr) (g : Nat) (i : Nat) : List Nat := (List.range i).filter fun k => decide ((svW ws k).1 = g)
theorem outP_succ (ws : List Wr) (g i : Nat) : outP ws g (i + 1) = outP ws g i ++ if (svW ws i).1 = g then [i] else [] := by
  unfold outP
  rw [List.range_succ, List.filter_append]
  congr 1
  by_cases e : (svW ws i).1 = g
  · rw [if_pos e, List.filter_cons_of_pos (by rw [decide_eq_true_iff]; exact e)]
    rfl
  · rw [if_neg e, List.filter_cons_of_neg (by rw [decide_eq_true_iff]; exact e)]
    rfl
theorem outP_len (ws : List Wr) (g i : Nat) : (outP ws g i).length ≤ i := by
  have := List.length_filter_le (fun k => decide ((svW ws k).1 = g)) (List.range i)
  rw [List.length_range] at this
  exact this
theorem mem_outP {ws : List Wr} {g i k : Nat} : k ∈ outP ws g i ↔ k < i ∧ (svW ws k).1 = g := by
  unfold outP
  rw [List.mem_filter, List.mem_range, decide_eq_true_iff]
theorem outP_ne {ws : List Wr} {g : Nat} (h : ∃ x ∈ ws, x.1 = g) : outP ws g ws.length ≠ [] := by
  obtain ⟨x, hx, rfl⟩ := h
  obtain ⟨k, hk⟩ := List.getElem?_of_mem hx
  have : k ∈ outP ws x.1 ws.length := mem_outP.mpr ⟨(List.getElem?_eq_some_iff.mp hk).1, by rw [svW_get hk]⟩
  exact fun e => by rw [e] at this; cases this
theorem mx_out {ws : List Wr} {L : Nat → Int} {g : Nat} {mm : Int} (hm : mm ∈ (outP ws g ws.length).map fun k => (ws.map (cntW L)).getD k 0) (hle : ∀ y ∈ (outP ws g ws.length).map (fun k => (ws.map (cntW L)).getD k 0), y ≤ mm) (h0 : ∀ y ∈ ws.map (cntW L), 0 ≤ y) : mm = mx0 (outC ws L g) := by
  have at' : ∀ k x, ws[k]? = some x → (ws.map (cntW L)).getD k 0 = cntW L x := fun k x hx => by
    rw [List.getD_eq_getElem?_getD, List.getElem?_map, hx]
    rfl
  symm
  refine mx0_eq ?_ (fun y hy => ?_) (fun y hy => ?_)
  · obtain ⟨k, hk, rfl⟩ := List.mem_map.mp hm
    obtain ⟨h1, h2⟩ := mem_outP.mp hk
    have hx := List.getElem?_eq_getElem h1
    rw [at' k _ hx]
    rw [svW_get hx] at h2
    exact mem_outC.mpr ⟨_, List.getElem_mem h1, h2, rfl⟩
  · obtain ⟨x, hx, e1, rfl⟩ := mem_outC.mp hy
    obtain ⟨k, hk⟩ := List.getElem?_of_mem hx
    refine hle _ (List.mem_map.mpr ⟨k, mem_outP.mpr ⟨(List.getElem?_eq_some_iff.mp hk).1, by rw [svW_get hk]; exact e1⟩, at' k x hk⟩)
  · obtain ⟨x, hx, e1, rfl⟩ := mem_outC.mp hy
    exact h0 _ (List.mem_map.mpr ⟨x, hx, rfl⟩)
/-- the shared registers, where the numbers are those of lags, none below 0 -/
def spLShared (K : PySem.W.Frag) : Sp := fun vs H Q _ => ∃ (lw lm : Addr) (ws : List Wr) (ms : List Int) (n : Nat), vs = [.ref lw, .ref lm] ∧ LW K H lw ws ∧ SqL K H lm (ms.map V.int) ∧ ms.length = ws.length ∧ ws.length ≤ 1000 ∧ (∀ x ∈ ws, x.1 < n) ∧ ∀ (z : Int) H', Same H H' → (∀ L, ms = ws.map (cntW L) → (∀ y ∈ ms, 0 ≤ y) → z = sharedF n ws L) → Q (.int z) H'
section
variable {P : Program} {w : World} {K : PySem.W.Frag} {mg : Str → Option Value} {base : Heap}
abbrev nFixed : List Str := ["_law_gates_here", "_law_gate"]
theorem scFixed : FnScope nFixed ["_law_gates_here", "_law_gate"] (defScope sFixed) := ⟨rfl, rfl, rfl, by decide +kernel, rfl, by decide +kernel, by decide +kernel⟩
abbrev DFixed (P : Program) (w : World) (K : PySem.W.Frag) (mg : Str → Option Value) (base : Heap) := Df P w K mg base 1 "_law_fixed" ["_law_gates_here", "_law_gate"] (spFixed K)
theorem ok_fixed {f : Addr} {fd : FuncData} (F : Fun K "_law_fixed" "_law_fixed" sFixed f fd) (hm : mg "_law_fixed" = some (.ref f)) : DFixed P w K mg base f fd := by
  refine ⟨?_, hm, F.kp, F.binds fun _ _ _ _ _ _ us hl => match us, hl with | [_, _], _ => rfl⟩
  refine F.ok scFixed (fun vs H Q E h => ?_) (fun cdv A outer s H vs Q E hr h => ?_)
  · obtain ⟨lg, g, gs, rfl, _⟩ := h
    rfl
  · obtain ⟨lg, g, gs, rfl, G, hg, q⟩ := h
    have nd := scFixed.nd
    refine ⟨_, pss_one (ps_ret (pe_cmpR op_in_seq (pe_ix ix_tup (pe_ix ix_list (pv 0) (pv 1) (fun _ _ => rfl)) pe_int (fun _ _ => rfl)) (pe_lst (pa_cons pe_str (pa_cons pe_str pa_nil))) (by rfl))), ?_⟩
    obtain ⟨gv, hgv, ga⟩ := id G
    obtain ⟨_, hv, a, rfl, sq⟩ := ga.getR (List.getElem?_eq_getElem hg)
    refine ⟨_, rfl, _, rfl, lg, gv, g, _, rfl, rfl, SqL.of hgv, atI_nat hv, a, _, 0, _, rfl, rfl, sq, atI_nat (j := 0) rfl, (by show 2 ≤ sizeLine; decide), fun l2 hl2 => ?_⟩
    refine ⟨l2, _, rfl, .inl (SqL.of upd_same), rfl, rfl, q _ _ ?_ (same_new hl2)⟩
    rw [kindAt_get (List.getElem?_eq_getElem hg)]
    exact port_in
abbrev nLCounts : List Str := ["_law_wires_here", "_law_shifts_here", "_law_start", "_law_end", "_law_some"]
theorem scLCounts : FnScope nLCounts ["_law_wires_here", "_law_shifts_here"] (defScope sLCounts) := ⟨rfl, rfl, rfl, by decide +kernel, rfl, by decide +kernel, by decide +kernel⟩
abbrev DLCounts (P : Program) (w : World) (K : PySem.W.Frag) (mg : Str → Option Value) (base : Heap) := Df P w K mg base 1 "_law_counts" ["_law_wires_here", "_law_shifts_here"] (spLCounts K)
theorem ok_lcounts {f : Addr} {fd : FuncData} (F : Fun K "_law_counts" "_law_counts" sLCounts f fd) (hm : mg "_law_counts" = some (.ref f)) (B : Bt mg) : DLCounts P w K mg base f fd := by
  refine ⟨?_, hm, F.kp, F.binds fun _ _ _ _ _ _ us hl => match us, hl with | [_, _], _ => rfl⟩
  refine F.ok scLCounts (fun vs H Q E h => ?_) (fun cdv A outer s H vs Q E hr h => ?_)
  · obtain ⟨lw, ls, gs, ws, Ls, rfl, _⟩ := h
    rfl
  · obtain ⟨lw, ls, gs, ws, Ls, rfl, W, N, hls, hll, q⟩ := h
    have nd := scLCounts.nd
    have hwl := N.wl
    refine ⟨_, pss_one (ps_ret (pe_lc (own := [("_law_start", 2), ("_law_end", 3), ("_law_some", 4)]) (g := (gTup K 3 (gCons (gName 2) (gCons (gName 3) (gCons (gName 4) gNil))))) (tt := tYes) (te := (tOp (rI0 fun i j => .int (i - j)) (tOp (rI0 fun i j => .int (i + j)) (tCB (Evl.rLenS K) (tCons (tVar 4) tNil)) (tOp (rIxL K) (tVar 1) (tVar 3))) (tOp (rIxL K) (tVar 1) (tVar 2)))) rfl nd (pi_list (pv 0)) (blkOk_by (N := nLCounts) (sc := defScope sLCounts) (own := [("_law_start", 2), ("_law_end", 3), ("_law_some", 4)]) (by decide +kernel)) (fun _ _ _ _ _ => (pg_tup rfl (pgs_cons (pg_name (i := 2) nd rfl (.inl rfl)) (pgs_cons (pg_name (i := 3) nd rfl (.inl rfl)) (pgs_cons (pg_name (i := 4) nd rfl (.inl rfl)) pgs_nil))))) (fun _ _ _ _ _ => pts_nil) (fun _ _ _ _ _ => (pe_op op_sub (pe_op op_add (pe_callB call_len_seq (by rfl) B.len PySem.boot_len (pa_cons (pv 4) pa_nil)) (pe_ix ix_list (pv 1) (pv 3) (fun _ _ => rfl))) (pe_ix ix_list (pv 1) (pv 2) (fun _ _ => rfl)))))), ?_⟩
    obtain ⟨wv, hwv, wa⟩ := id W
    have hlw : wv.length = ws.length := wa.1
    refine ⟨_, rfl, lw, rfl, ⟨_, SqL.of hwv⟩, fun D hD => ?_⟩
    refine lc_list (K := K) (a := lw) (xs := wv) (fun i Hc => Hc D = some (.lst ((lcntL (ws.take i) Ls).map V.int)) ∧ Same H Hc) ⟨upd_same, same_new hD⟩ (fun i Hc _ ⟨_, sm⟩ => SqL.of (sm _ _ hwv)) ?_ ?_
    · rintro i v Hc hv ⟨hc, sm⟩
      obtain ⟨x, hx, a, b, rfl, sq1, sq2⟩ := wa.get hv
      have hi : i < ws.length := (List.getElem?_eq_some_iff.mp hx).1
      have WX := N.wok x (List.mem_of_getElem? hx)
      have tk := TK.same sm
      refine ⟨a, _, rfl, tk.seq sq1, rfl, _, _, rfl, _, _, rfl, _, _, rfl, rfl, rfl, tyes ?_⟩
      refine ⟨_, rfl, b, _, rfl, .inr (tk.seq sq2), _, rfl, _, rfl, ls, _, _, _, rfl, rfl, SqL.of (sm _ _ hls), atI_nat (sgetD_at (by rw [hll]; exact WX.e)), _, _, rfl, rfl, ?_⟩
      refine ⟨_, rfl, _, rfl, ls, _, _, _, rfl, rfl, SqL.of (sm _ _ hls), atI_nat (sgetD_at (by rw [hll]; exact WX.s)), _, _, rfl, rfl, _, hc, ?_, ?_, same_mut sm hD⟩
      · unfold lcntL
        rw [List.length_map, List.length_map, List.length_take]
        exact Nat.lt_of_le_of_lt (Nat.le_trans (Nat.min_le_right _ _) hwl) (by decide)
      · rw [upd_same, List.take_add_one, hx]
        unfold lcntL
        rw [List.map_append, List.map_append, List.length_map]
        rfl
    · rintro H2 ⟨hc, sm⟩
      rw [hlw, List.take_length] at hc
      exact q D H2 sm hD hc
abbrev nGivers : List Str := ["_law_wires_here", "_law_wire"]
theorem scGivers : FnScope nGivers ["_law_wires_here"] (defScope sGivers) := ⟨rfl, rfl, rfl, by decide +kernel, rfl, by decide +kernel, by decide +kernel⟩
abbrev DGivers (P : Program) (w : World) (K : PySem.W.Frag) (mg : Str → Option Value) (base : Heap) := Df P w K mg base 1 "_law_givers" ["_law_wires_here"] (spGivers K)
theorem ok_givers {f : Addr} {fd : FuncData} (F : Fun K "_law_givers" "_law_givers" sGivers f fd) (hm : mg "_law_givers" = some (.ref f)) (B : Bt mg) (mso : mg "sorted" = none) (mse : mg "set" = none) : DGivers P w K mg base f fd := by
  refine ⟨?_, hm, F.kp, F.binds fun _ _ _ _ _ _ us hl => match us, hl with | [_], _ => rfl⟩
  refine F.ok scGivers (fun vs H Q E h => ?_) (fun cdv A outer s H vs Q E hr h => ?_)
  · obtain ⟨lw, ws, n, rfl, _⟩ := h
    rfl
  · obtain ⟨lw, ws, n, rfl, W, hwl, hs, q⟩ := h
    have nd := scGivers.nd
    refine ⟨_, pss_one (ps_ret (pe_sortSet (by rfl) mso (by rfl) mse (pe_lc (own := [("_law_wire", 1)]) (g := (gName 1)) (tt := tYes) (te := (tOp (rIxT K) (tVar 1) (tC (.int 0)))) rfl nd (pi_list (pv 0)) (blkOk_by (N := nGivers) (sc := defScope sGivers) (own := [("_law_wire", 1)]) (by decide +kernel)) (fun _ _ _ _ _ => (pg_name (i := 1) nd rfl (.inl rfl))) (fun _ _ _ _ _ => pts_nil) (fun _ _ _ _ _ => (pe_ix ix_tup (pv 1) pe_int (fun _ _ => rfl)))) (by decide +kernel))), ?_⟩
    obtain ⟨wv, hwv, wa⟩ := id W
    have hlw : wv.length = ws.length := wa.1
    refine ⟨_, rfl, lw, rfl, ⟨_, SqL.of hwv⟩, fun D hD => ?_⟩
    refine lc_list (K := K) (a := lw) (xs := wv) (fun i Hc => Hc D = some (.lst (nvs ((ws.take i).map fun x => x.1))) ∧ Same H Hc) ⟨upd_same, same_new hD⟩ (fun i Hc _ ⟨_, sm⟩ => SqL.of (sm _ _ hwv)) ?_ ?_
    · rintro i v Hc hv ⟨hc, sm⟩
      obtain ⟨x, hx, a, b, rfl, sq1, sq2⟩ := wa.get hv
      have hi : i < ws.length := (List.getElem?_eq_some_iff.mp hx).1
      refine ⟨rfl, tyes ?_⟩
      refine ⟨_, rfl, a, _, 0, _, rfl, rfl, (TK.same sm).seq sq1, atI_nat (j := 0) rfl, _, hc, ?_, ?_, same_mut sm hD⟩
      · rw [nvs_len, List.length_map, List.length_take]
        exact small1000 (by omega)
      · rw [upd_same, List.take_add_one, hx, List.map_append]
        show _ = some (HO.lst (List.map _ (_ ++ _)))
        rw [List.map_append]
        rfl
    rintro H1 ⟨h1, s1⟩
    rw [hlw, List.take_length, nvs_ints] at h1
    refine ⟨D, _, rfl, SqL.of h1, by rw [List.length_map, List.length_map]; omega, fun W l6 hW hmem hl6 => ?_⟩
    have e := giv_sorted hs hW hmem
    have s6 := same_new (o := .lst (W.map V.int)) hl6
    exact q l6 _ (s1.trans s6) (s1.free hl6) (by rw [upd_same, e, nvs_ints])
abbrev nLShared : List Str := ["_law_wires_here", "_law_many", "_law_gate", "_law_k"]
theorem scLShared : FnScope nLShared ["_law_wires_here", "_law_many"] (defScope sLShared) := ⟨rfl, rfl, rfl, by decide +kernel, rfl, by decide +kernel, by decide +kernel⟩
abbrev DLShared (P : Program) (w : World) (K : PySem.W.Frag) (mg : Str → Option Value) (base : Heap) := Df P w K mg base 2 "_law_shared" ["_law_wires_here", "_law_many"] (spLShared K)
theorem ok_lshared {f fG : Addr} {fd fdG : FuncData} (F : Fun K "_law_shared" "_law_shared" sLShared f fd) (hm : mg "_law_shared" = some (.ref f)) (B : Bt mg) (ms : mg "sum" = none) (DGi : DGivers P w K mg base fG fdG) : DLShared P w K mg base f fd := by
  refine ⟨?_, hm, F.kp, F.binds fun _ _ _ _ _ _ us hl => match us, hl with | [_, _], _ => rfl⟩
  refine F.ok scLShared (fun vs H Q E h => ?_) (fun cdv A outer s H vs Q E hr h => ?_)
  · obtain ⟨lw, lm, ws, mv, n, rfl, _⟩ := h
    rfl
  · obtain ⟨lw, lm, ws, mv, n, rfl, W, hlm, hml, hwl, hs, q⟩ := h
    have nd := scLShared.nd
    refine ⟨_, pss_one (ps_ret (pe_callB (cr_sum rfl) (by rfl) ms (by decide +kernel) (pa_cons (pe_lc (own := [("_law_gate", 2)]) (g := (gName 2)) (tt := tYes) (te := (tCB (rMax K) (tCons (tLc (iRng1 (tCons (tCB (Evl.rLenS K) (tCons (tVar 0) tNil)) tNil)) (gName 3) (tTest (tOp rEq (tOp (rIxT K) (tOp (rIxL K) (tVar 0) (tVar 3)) (tC (.int 0))) (tVar 2))) (tOp (rIxL K) (tVar 1) (tVar 3)) [3]) tNil))) rfl nd (pi_list (pe_call DGi.ok (hr.mono (by decide)) (by rfl) DGi.mg DGi.kp DGi.bd .nil pass0 (pa_cons (pv 0) pa_nil))) (blkOk_by (N := nLShared) (sc := defScope sLShared) (own := [("_law_gate", 2)]) (by decide +kernel)) (fun _ _ _ _ _ => (pg_name (i := 2) nd rfl (.inr rfl))) (fun _ _ _ _ _ => pts_nil) (fun _ _ _ _ _ => (pe_callB (cr_max rfl) (by rfl) B.max (by decide +kernel) (pa_cons (pe_lc (own := [("_law_k", 3)]) (g := (gName 3)) (tt := (tTest (tOp rEq (tOp (rIxT K) (tOp (rIxL K) (tVar 0) (tVar 3)) (tC (.int 0))) (tVar 2)))) (te := (tOp (rIxL K) (tVar 1) (tVar 3))) rfl nd (pi_range1 (by rfl) B.range (pa_cons (pe_callB call_len_seq (by rfl) B.len PySem.boot_len (pa_cons (pv 0) pa_nil)) pa_nil)) (blkOk_by (N := nLShared) (sc := { kind := .function, names := [(".0", .local), ("_law_gate", .cell), ("max", .globalImplicit), ("range", .globalImplicit), ("len", .globalImplicit), ("_law_many", .cell), ("_law_wires_here", .cell)], isGenerator := false, isCoroutine := false }) (own := [("_law_k", 3)]) (by decide +kernel)) (fun _ _ _ _ _ => (pg_name (i := 3) nd rfl (.inl rfl))) (fun _ _ _ _ _ => pts_one (pt_cmpR op_eq (pe_ix ix_tup (pe_ix ix_list (pv 0) (pv 3) (fun _ _ => rfl)) pe_int (fun _ _ => rfl)) (pv 2) (nomark _))) (fun _ _ _ _ _ => (pe_ix ix_list (pv 1) (pv 3) (fun _ _ => rfl)))) pa_nil)))) pa_nil))), ?_⟩
    obtain ⟨wv, hwv, wa⟩ := id W
    have hlw : wv.length = ws.length := wa.1
    refine ⟨_, rfl, lw, ws, n, rfl, W, hwl, hs, fun lv H1 s1 hlv elv => ?_⟩
    have hgl := givL_len (n := n) hwl
    refine ⟨lv, rfl, ⟨_, SqL.of elv⟩, fun D hD => ?_⟩
    refine lc_list (K := K) (a := lv) (xs := nvs (givL n ws)) (fun i Hc => ∃ zs : List Int, Hc D = some (.lst (zs.map V.int)) ∧ zs.length = i ∧ (∀ L, mv = ws.map (cntW L) → (∀ y ∈ mv, 0 ≤ y) → zs = ((givL n ws).take i).map fun g => mx0 (outC ws L g)) ∧ Same H1 Hc) ⟨[], upd_same, rfl, (fun L _ _ => rfl), same_new hD⟩ (fun i Hc _ ⟨_, _, _, _, sm⟩ => SqL.of (sm _ _ elv)) ?_ ?_
    · rintro i v Hc hv ⟨zs, hc, hzl, hz, sm⟩
      obtain ⟨g, hg, rfl⟩ := nvs_of hv
      have hgi : i < (givL n ws).length := (List.getElem?_eq_some_iff.mp hg).1
      obtain ⟨_, hgw⟩ := mem_givL.mp (List.mem_of_getElem? hg)
      have smm := s1.trans sm
      refine ⟨rfl, tyes ?_⟩
      refine ⟨_, rfl, lw, wv, rfl, .inl (SqL.of (smm _ _ hwv)), _, rfl, by omega, by omega, fun D2 hD2 => ?_⟩
      rw [Int.toNat_natCast, hlw]
      refine lc_range (lo := 0) (n := ws.length) (fun j Hd => Hd D2 = some (.lst (((outP ws g j).map fun k => mv.getD k 0).map V.int)) ∧ Same Hc Hd) ⟨upd_same, same_new hD2⟩ ?_ ?_
      · rintro j Hd hj ⟨hd, sd⟩
        have ei : (0 : Int) + ((j : Nat) : Int) = ((j : Nat) : Int) := Int.zero_add _
        rw [ei]
        have hx := List.getElem?_eq_getElem hj
        generalize ws[j] = x at hx
        obtain ⟨_, hwvj, a, b, rfl, sq1, sq2⟩ := wa.getR hx
        have smd := smm.trans sd
        refine ⟨rfl, _, rfl, _, rfl, lw, _, j, _, rfl, rfl, SqL.of (smd _ _ hwv), atI_nat hwvj, a, _, 0, _, rfl, rfl, (TK.same smd).seq sq1, atI_nat (j := 0) rfl, _, rfl, rfl, _, rfl, ?_⟩
        rw [outP_succ, svW_get hx]
        by_cases e : x.1 = g
        · rw [if_pos e, decide_eq_true (by rw [e])]
          refine iteT ⟨_, rfl, _, rfl, lm, _, j, _, rfl, rfl, smd.seq hlm, atI_nat (sgetD_at (by omega)), _, hd, ?_, ?_, same_mut sd hD2⟩
          · rw [List.length_map, List.length_map]
            have := outP_len ws g j
            exact small1000 (by omega)
          · rw [upd_same, List.map_append, List.map_append]
            rfl
        · rw [if_neg e, decide_eq_false (fun z => e (by have := V.int.inj z; omega)), List.append_nil]
          exact iteF ⟨hd, sd⟩
      rintro H4 ⟨h4, s4⟩
      refine ⟨D2, _, rfl, SqL.of h4, ?_, fun mm hmm hmm2 => ?_⟩
      · rw [List.length_map]
        exact List.length_pos_iff.mpr (outP_ne hgw)
      refine ⟨_, s4 _ _ hc, ?_, zs ++ [mm], ?_, by rw [List.length_append, hzl]; rfl, fun L e h0 => ?_, same_mut (sm.trans s4) hD⟩
      · rw [List.length_map]
        exact small1000 (by omega)
      · rw [upd_same, List.map_append]
        rfl
      · rw [hz L e h0, List.take_add_one, hg, List.map_append]
        subst e
        rw [mx_out hmm hmm2 h0]
        rfl
    rintro H2 ⟨zs, h2, hzl, hz, s2⟩
    rw [nvs_len, List.take_length] at hz
    refine ⟨D, zs, rfl, SqL.of h2, q _ H2 (s1.trans s2) fun L e h0 => ?_⟩
    rw [hz L e h0]
    rfl
abbrev nLShifts : List Str := ["_law_well_here", "_law_gates_here", "_law_wires_here", "_law_found", "_law_turn", "_law_k", "_law_step", "_law_other", "_law_one"]
theorem scLShifts : FnScope nLShifts ["_law_well_here", "_law_gates_here", "_law_wires_here"] (defScope sLShifts) := ⟨rfl, rfl, rfl, by decide +kernel, rfl, by decide +kernel, by decide +kernel⟩
abbrev DLShifts (P : Program) (w : World) (K : PySem.W.Frag) (mg : Str → Option Value) (base : Heap) := Df P w K mg base 3 "_law_shifts" ["_law_well_here", "_law_gates_here", "_law_wires_here"] (spLShifts K)
theorem ok_lshifts {f fD fF fC : Addr} {fd fdD fdF fdC : FuncData} (F : Fun K "_law_shifts" "_law_shifts" sLShifts f fd) (hm : mg "_law_shifts" = some (.ref f)) (B : Bt mg) (DD : DDraw P w K mg base fD fdD) (DFx : DFixed P w K mg base fF fdF) (DCn : DLCounts P w K mg base fC fdC) : DLShifts P w K mg base f fd := by
  refine ⟨?_, hm, F.kp, F.binds fun _ _ _ _ _ _ us hl => match us, hl with | [_, _, _], _ => rfl⟩
  refine F.ok scLShifts (fun vs H Q E h => ?_) (fun cdv A outer s H vs Q E hr h => ?_)
  · obtain ⟨wl, lg, lw, gs, ws, rfl, _⟩ := h
    rfl
  · obtain ⟨wl, lg, lw, gs, ws, rfl, hw, nlg, nlw, G, W, N, q⟩ := h
    have nd := scLShifts.nd
    refine ⟨_, pss_cons (ps_set (i := 3) nd rfl (.inl rfl) (pe_op op_rep (pe_lst (pa_cons pe_int pa_nil)) (pe_callB call_len_seq (by rfl) B.len PySem.boot_len (pa_cons (pv 1) pa_nil)))) <|
        pss_cons (ps_for PassesOwn.never rfl (pi_range1 (by rfl) B.range (pa_cons (pe_call DD.ok (hr.mono (by decide)) (by rfl) DD.mg DD.kp DD.bd .nil pass0 (pa_cons (pv 0) (pa_cons pe_int pa_nil))) pa_nil)) (pg_name (i := 4) nd rfl (.inl rfl)) (pss_cons (ps_set (i := 5) nd rfl (.inl rfl) (pe_call DD.ok (hr.mono (by decide)) (by rfl) DD.mg DD.kp DD.bd .nil pass0 (pa_cons (pv 0) (pa_cons (pe_callB call_len_seq (by rfl) B.len PySem.boot_len (pa_cons (pv 1) pa_nil)) pa_nil)))) <|
        pss_cons (ps_set (i := 6) nd rfl (.inl rfl) (pe_ix ix_list (pe_lst (pa_cons pe_int (pa_cons (pe_un un_neg pe_int) pa_nil))) (pe_call DD.ok (hr.mono (by decide)) (by rfl) DD.mg DD.kp DD.bd .nil pass0 (pa_cons (pv 0) (pa_cons pe_int pa_nil))) (fun _ _ => rfl))) <|
        pss_cons (ps_set (i := 7) nd rfl (.inl rfl) (pe_op op_cat (pe_op op_cat (pe_slice sl_list (pv 3) po_none (po_some (pv 5))) (pe_lst (pa_cons (pe_op op_add (pe_ix ix_list (pv 3) (pv 5) (fun _ _ => rfl)) (pv 6)) pa_nil))) (pe_slice sl_list (pv 3) (po_some (pe_op op_add (pv 5) pe_int)) po_none))) <|
        pss_one (ps_if (PW.pt (pw_and (pt_not (pt_val (pe_call DFx.ok (hr.mono (by decide)) (by rfl) DFx.mg DFx.kp DFx.bd .nil pass0 (pa_cons (pv 1) (pa_cons (pv 5) pa_nil))))) (pw_and1 (pt_cmpR (op_eqD hr.units) (pe_lc (own := [("_law_one", 8)]) (g := (gName 8)) (tt := (tTest (tOp (rI0 fun i j => .bl (decide (i < j))) (tVar 8) (tC (.int 0))))) (te := (tVar 8)) rfl nd (pi_list (pe_call DCn.ok (hr.mono (by decide)) (by rfl) DCn.mg DCn.kp DCn.bd .nil pass0 (pa_cons (pv 2) (pa_cons (pv 7) pa_nil)))) (blkOk_by (N := nLShifts) (sc := defScope sLShifts) (own := [("_law_one", 8)]) (by decide +kernel)) (fun _ _ _ _ _ => (pg_name (i := 8) nd rfl (.inl rfl))) (fun _ _ _ _ _ => pts_one (pt_cmpR op_lt (pv 8) pe_int (nomark _))) (fun _ _ _ _ _ => (pv 8))) (pe_lst pa_nil) (nomark _))))) (pss_one (ps_set (i := 3) nd rfl (.inl rfl) (pv 7))) pss_nil))) <|
        pss_one (ps_ret (pv 3)), ?_⟩
    obtain ⟨gv, hgv, ga⟩ := id G
    have hlg : gv.length = gs.length := ga.1
    have hgl := N.gl
    have hpos := List.length_pos_iff.mpr N.ne
    refine ⟨(by show 1 ≤ sizeLine; decide), fun l0 hl0 => ?_⟩
    have e0 : (upd H l0 (.lst [.int 0])) l0 = some (.lst [.int 0]) := upd_same
    have D2 := Dr.new (o := .lst [.int 0]) hw hl0
    obtain ⟨H2, hH2⟩ : ∃ H2, H2 = upd H l0 (.lst [.int 0]) := ⟨_, rfl⟩
    rw [← hH2] at e0 D2
    rw [← hH2]
    refine ⟨_, rfl, lg, gv, rfl, .inl (SqL.of (D2.but _ _ nlg hgv)), l0, _, [.int 0], rfl, rfl, e0, by omega, by omega, ?_, fun lc hlc => ?_⟩
    · have : 1 * ((gv.length : Nat) : Int).toNat ≤ sizeLine := Nat.le_of_lt (small1000 (by omega))
      exact this
    have hrep : (List.replicate ((gv.length : Nat) : Int).toNat [V.int 0]).flatten = (List.replicate gs.length (0 : Int)).map V.int := by
      rw [Int.toNat_natCast, hlg, List.map_replicate]
      exact List.flatten_replicate_singleton
    rw [hrep]
    have nlc : lc ≠ wl := (D2.well.ne hlc).symm
    have D3 := D2.trans (Dr.new (o := .lst ((List.replicate gs.length (0 : Int)).map V.int)) D2.well hlc)
    have elc : (upd H2 lc (.lst ((List.replicate gs.length (0 : Int)).map V.int))) lc = some (.lst ((List.replicate gs.length (0 : Int)).map V.int)) := upd_same
    obtain ⟨H3, hH3⟩ : ∃ H3, H3 = upd H2 lc (.lst ((List.replicate gs.length (0 : Int)).map V.int)) := ⟨_, rfl⟩
    rw [← hH3] at D3 elc
    refine gn_normH (σ' := [some (.ref wl), some (.ref lg), some (.ref lw), some (.ref lc), none, none, none, none, none]) (H' := H3) rfl hH3.symm ?_
    refine ⟨_, rfl, wl, 40, rfl, by decide, by decide, D3.well, fun dn H3' dn0 dn1 E3' => ?_⟩
    have D3' := D3.trans E3'
    refine ⟨_, rfl, by omega, by omega, for_range (lo := 0) (n := dn.toNat) (fun i σ H' => ∃ (u4 u5 u6 u7 : Option V) (lc : Addr) (cur : List Int), σ = [some (.ref wl), some (.ref lg), some (.ref lw), some (.ref lc), u4, u5, u6, u7, none] ∧ H' lc = some (.lst (cur.map V.int)) ∧ lc ≠ wl ∧ cur.length = gs.length ∧ (∀ z ∈ cur, -(i : Int) ≤ z ∧ z ≤ (i : Int)) ∧ (∀ g, g < gs.length → portK (kindAt gs g) → cur.getD g 0 = 0) ∧ (∀ y ∈ lcntL ws cur, 0 ≤ y) ∧ Dr wl H H')
      ⟨_, _, _, _, lc, _, rfl, E3'.but _ _ nlc elc, nlc, List.length_replicate, (fun z hz => by rw [List.eq_of_mem_replicate hz]; decide), (fun g _ _ => rep_getD _ g), (fun y hy => by
        obtain ⟨x, _, rfl⟩ := List.mem_map.mp hy
        unfold lcntX
        rw [rep_getD, rep_getD]
        omega), D3'⟩ ?_ ?_⟩
    · rintro i σ H4 hi ⟨u4, u5, u6, u7, lc, cur, rfl, hlc4, nlc, hcl, hcb, hcz, hcn, D4⟩
      have hi : i < 40 := by omega
      refine gn_norm (σ' := [some (.ref wl), some (.ref lg), some (.ref lw), some (.ref lc), some (.int (0 + (i : Nat))), u5, u6, u7, none]) rfl ?_
      refine ⟨_, rfl, _, rfl, lg, gv, rfl, .inl (SqL.of (D4.but _ _ nlg hgv)), wl, _, rfl, by omega, by omega, D4.well, fun d H5 d0 d1 E5 => ?_⟩
      obtain ⟨k, rfl⟩ : ∃ k : Nat, d = (k : Int) := ⟨d.toNat, by omega⟩
      have hk : k < gs.length := by omega
      have D5 := D4.trans E5
      refine gn_norm (σ' := [some (.ref wl), some (.ref lg), some (.ref lw), some (.ref lc), some (.int (0 + (i : Nat))), some (.int (k : Nat)), u6, u7, none]) rfl ?_
      -- the step
      refine ⟨_, rfl, (by show 2 ≤ sizeLine; decide), fun l2 hl2 => ?_⟩
      have n2 : l2 ≠ wl := (D5.well.ne hl2).symm
      have e2 : (upd H5 l2 (.lst [.int 1, .int (-1)])) l2 = some (.lst [.int 1, .int (-1)]) := upd_same
      have E6 := Dr.new (o := .lst [.int 1, .int (-1)]) D5.well hl2
      obtain ⟨H6, hH6⟩ : ∃ H6, H6 = upd H5 l2 (.lst [.int 1, .int (-1)]) := ⟨_, rfl⟩
      rw [← hH6] at e2 E6
      rw [← hH6]
      refine ⟨_, rfl, wl, 2, rfl, by decide, by decide, E6.well, fun d H7 e0 e1 E7 => ?_⟩
      obtain ⟨st, hst, hst1⟩ : ∃ st : Int, ([.int 1, .int (-1)] : List V)[d.toNat]? = some (.int st) ∧ -1 ≤ st ∧ st ≤ 1 := by
        rcases (by omega : d.toNat = 0 ∨ d.toNat = 1) with e | e
        · exact ⟨1, by rw [e]; rfl, by decide⟩
        · exact ⟨-1, by rw [e]; rfl, by decide⟩
      refine ⟨l2, _, d, _, rfl, rfl, SqL.of (E7.but _ _ n2 e2), at_of (j := d.toNat) (by omega) hst, ?_⟩
      have E47 := E5.trans (E6.trans E7)
      have D7 := D4.trans E47
      have hlc7 := E47.but _ _ nlc hlc4
      refine gn_norm (σ' := [some (.ref wl), some (.ref lg), some (.ref lw), some (.ref lc), some (.int (0 + (i : Nat))), some (.int (k : Nat)), some (.int st), u7, none]) rfl ?_
      -- the other
      have hkc : k < cur.length := by omega
      refine ⟨_, rfl, _, rfl, _, rfl, lc, _, rfl, SqL.of hlc7, fun l3 hl3 => ?_⟩
      have s3 : Same H7 (upd H7 l3 (.lst (cutV (cur.map V.int) none (some ((k : Nat) : Int))))) := same_new hl3
      have e3 : (upd H7 l3 (.lst (cutV (cur.map V.int) none (some ((k : Nat) : Int))))) l3 = some (.lst ((cur.map V.int).take k)) := by rw [upd_same, cut_to]
      generalize upd H7 l3 (.lst (cutV (cur.map V.int) none (some ((k : Nat) : Int)))) = H8 at s3 e3
      refine ⟨_, rfl, _, rfl, lc, _, k, _, rfl, rfl, SqL.of (s3 _ _ hlc7), atI_nat (lgetD_at hkc), _, rfl, _, _, rfl, rfl, (by show 1 ≤ sizeLine; decide), fun l4 hl4 => ?_⟩
      have s4 : Same H8 (upd H8 l4 (.lst [.int (cur.getD k 0 + st)])) := same_new hl4
      have e4 : (upd H8 l4 (.lst [.int (cur.getD k 0 + st)])) l4 = some (.lst [.int (cur.getD k 0 + st)]) := upd_same
      generalize upd H8 l4 (.lst [.int (cur.getD k 0 + st)]) = H9 at s4 e4
      refine ⟨l3, l4, _, _, rfl, rfl, s4 _ _ e3, e4, ?_, fun l5 hl5 => ?_⟩
      · rw [List.length_take, List.length_map]
        show _ + 1 ≤ _
        exact Nat.le_of_lt (small1000 (by omega))
      have s5 : Same H9 (upd H9 l5 (.lst ((cur.map V.int).take k ++ [.int (cur.getD k 0 + st)]))) := same_new hl5
      have e5 : (upd H9 l5 (.lst ((cur.map V.int).take k ++ [.int (cur.getD k 0 + st)]))) l5 = some (.lst ((cur.map V.int).take k ++ [.int (cur.getD k 0 + st)])) := upd_same
      generalize upd H9 l5 (.lst ((cur.map V.int).take k ++ [.int (cur.getD k 0 + st)])) = H10 at s5 e5
      refine ⟨_, rfl, _, rfl, _, _, rfl, rfl, _, rfl, lc, _, rfl, SqL.of ((s3.trans (s4.trans s5)) _ _ hlc7), fun l6 hl6 => ?_⟩
      have ek : (((k : Nat) : Int) + 1) = ((k + 1 : Nat) : Int) := rfl
      rw [ek, cut_from]
      have s6 : Same H10 (upd H10 l6 (.lst ((cur.map V.int).drop (k + 1)))) := same_new hl6
      have e6 : (upd H10 l6 (.lst ((cur.map V.int).drop (k + 1)))) l6 = some (.lst ((cur.map V.int).drop (k + 1))) := upd_same
      generalize upd H10 l6 (.lst ((cur.map V.int).drop (k + 1))) = H11 at s6 e6
      refine ⟨l5, l6, _, _, rfl, rfl, s6 _ _ e5, e6, ?_, fun lo hlo => ?_⟩
      · rw [List.length_append, List.length_take, List.length_drop, List.length_map]
        show _ + 1 + _ ≤ _
        exact Nat.le_of_lt (small1000 (by omega))
      have eo : (cur.map V.int).take k ++ [.int (cur.getD k 0 + st)] ++ (cur.map V.int).drop (k + 1) = (cur.set k (cur.getD k 0 + st)).map V.int := by
        rw [set_cut (by rw [List.length_map]; exact hkc), List.map_set]
      rw [eo]
      have s36 := s3.trans (s4.trans (s5.trans s6))
      have nlo : lo ≠ wl := ((D7.well.same s36).ne hlo).symm
      generalize hOT : cur.set k (cur.getD k 0 + st) = ot
      have otl : ot.length = gs.length := by rw [← hOT, List.length_set]; exact hcl
      have otb : ∀ z ∈ ot, -((i + 1 : Nat) : Int) ≤ z ∧ z ≤ ((i + 1 : Nat) : Int) := fun z hz => by
        rw [← hOT] at hz
        rcases List.mem_or_eq_of_mem_set hz with h | h
        · have := hcb z h
          omega
        · have h0 : cur.getD k 0 ∈ cur := by
            rw [List.getD_eq_getElem?_getD, List.getElem?_eq_getElem hkc]
            exact List.getElem_mem _
          have := hcb _ h0
          omega
      have s7 : Same H11 (upd H11 lo (.lst (ot.map V.int))) := same_new hlo
      have eot : (upd H11 lo (.lst (ot.map V.int))) lo = some (.lst (ot.map V.int)) := upd_same
      obtain ⟨H12, hH12⟩ : ∃ H12, H12 = upd H11 lo (.lst (ot.map V.int)) := ⟨_, rfl⟩
      rw [← hH12] at s7 eot
      refine gn_normH (σ' := [some (.ref wl), some (.ref lg), some (.ref lw), some (.ref lc), some (.int (0 + (i : Nat))), some (.int (k : Nat)), some (.int st), some (.ref lo), none]) (H' := H12) rfl hH12.symm ?_
      have s37 := s36.trans s7
      have D12 := D7.trans (Dr.ofSame D7.well s37)
      have hlc12 := s37 _ _ hlc7
      -- taken or not
      have hold : ∀ H', Same H12 H' → ∃ (v4 v5 v6 v7 : Option V) (lc' : Addr) (cur' : List Int), ([some (.ref wl), some (.ref lg), some (.ref lw), some (.ref lc), some (.int (0 + (i : Nat))), some (.int (k : Nat)), some (.int st), some (.ref lo), none] : L2.St) = [some (.ref wl), some (.ref lg), some (.ref lw), some (.ref lc'), v4, v5, v6, v7, none] ∧ H' lc' = some (.lst (cur'.map V.int)) ∧ lc' ≠ wl ∧ cur'.length = gs.length ∧ (∀ z ∈ cur', -((i + 1 : Nat) : Int) ≤ z ∧ z ≤ ((i + 1 : Nat) : Int)) ∧ (∀ g, g < gs.length → portK (kindAt gs g) → cur'.getD g 0 = 0) ∧ (∀ y ∈ lcntL ws cur', 0 ≤ y) ∧ Dr wl H H' := fun H' s => ⟨_, _, _, _, lc, cur, rfl, s _ _ hlc12, nlc, hcl, (fun z hz => by have := hcb z hz; omega), hcz, hcn, D12.trans (Dr.ofSame D12.well s)⟩
      refine ⟨_, rfl, _, rfl, lg, k, gs, rfl, G.dr nlg hw D12, hk, fun b H13 hb s13 => ⟨b, rfl, ?_⟩⟩
      cases b with
      | true => exact iteF (hold H13 s13)
      | false =>
        have npk : ¬ portK (kindAt gs k) := fun h => by have := hb.mpr h; cases this
        have otz : ∀ g, g < gs.length → portK (kindAt gs g) → ot.getD g 0 = 0 := fun g hg hp => by
          rw [← hOT, getD_set hkc]
          split
          · rename_i e
            exact absurd (e ▸ hp) npk
          · exact hcz g hg hp
        refine iteT ?_
        refine ⟨_, rfl, _, rfl, lw, lo, gs, ws, ot, rfl, (W.dr nlw hw D12).same' s13, N, s13 _ _ eot, otl, fun ln H14 s14 hln eln => ?_⟩
        refine ⟨ln, rfl, ⟨_, SqL.of eln⟩, fun D hD => ?_⟩
        refine lc_list (K := K) (a := ln) (xs := (lcntL ws ot).map V.int) (fun i Hc => Hc D = some (.lst ((((lcntL ws ot).take i).filter fun z => decide (z < 0)).map V.int)) ∧ Same H14 Hc) ⟨upd_same, same_new hD⟩ (fun i Hc _ ⟨_, sm⟩ => SqL.of (sm _ _ eln)) ?_ ?_
        · rintro j v Hc hv ⟨hc, sm⟩
          obtain ⟨z, hz, rfl⟩ := int_atF hv
          refine ⟨rfl, _, rfl, _, _, rfl, rfl, _, rfl, ?_⟩
          have hj : j < (lcntL ws ot).length := (List.getElem?_eq_some_iff.mp hz).1
          have hwl := N.wl
          have hll : (lcntL ws ot).length = ws.length := by unfold lcntL; rw [List.length_map]
          rw [List.take_add_one, hz, List.filter_append]
          by_cases hz0 : z < 0
          · rw [decide_eq_true hz0]
            refine iteT ⟨_, rfl, _, hc, ?_, ?_, same_mut sm hD⟩
            · rw [List.length_map]
              have := List.length_filter_le (fun z => decide (z < 0)) ((lcntL ws ot).take j)
              rw [List.length_take] at this
              exact small1000 (by omega)
            · rw [upd_same, List.map_append]
              show _ = some (HO.lst (_ ++ ((List.filter _ [z]).map V.int)))
              rw [List.filter_cons_of_pos (by rw [decide_eq_true hz0])]
              rfl
          · rw [decide_eq_false hz0]
            refine iteF ⟨?_, sm⟩
            show _ = some (HO.lst ((_ ++ (List.filter _ [z])).map V.int))
            rw [List.filter_cons_of_neg (by rw [decide_eq_false hz0]; decide), List.filter_nil, List.append_nil]
            exact hc
        rintro H15 ⟨h15, s15⟩
        rw [List.length_map, List.take_length] at h15
        refine ⟨(by show 0 ≤ sizeLine; decide), fun l9 hl9 => ?_⟩
        have s16 : Same H15 (upd H15 l9 (.lst [])) := same_new hl9
        have e16 : (upd H15 l9 (.lst [])) l9 = some (.lst []) := upd_same
        have h16 := s16 _ _ h15
        generalize upd H15 l9 (.lst []) = H16 at s16 e16 h16
        have s1216 := s13.trans (s14.trans (s15.trans s16))
        have dpS : Dp K H16 (.ref D) (numsD ((lcntL ws ot).filter fun z => decide (z < 0))) := dp_nums (SqL.of h16)
        have dp5 : Dp K H16 (.ref l9) (numsD []) := dp_nums (SqL.of e16)
        refine ⟨_, _, dpS, dp5, Sh.ok (sh_nums _) (by decide), Sh.ok (sh_nums _) (by decide), _, rfl, ?_⟩
        refine ite2 (fun hfe => ?_) (fun _ => hold H16 s1216)
        have hfe : (lcntL ws ot).filter (fun z => decide (z < 0)) = [] := by
          rw [numsD_eq] at hfe
          exact of_decide_eq_true hfe
        refine ⟨_, rfl, _, _, _, _, lo, ot, rfl, s1216 _ _ eot, nlo, otl, otb, otz, (fun y hy => ?_), D12.trans (Dr.ofSame D12.well s1216)⟩
        have := List.filter_eq_nil_iff.mp hfe y hy
        rw [decide_eq_true_iff] at this
        omega
    rintro σ H4 ⟨u4, u5, u6, u7, lc, cur, rfl, hlc4, nlc, hcl, hcb, hcz, hcn, D4⟩
    exact ⟨_, rfl, q lc cur H4 D4 nlc hlc4 hcl (fun z hz => by have := hcb z hz; omega) hcz hcn⟩
end
end Lag

set_option maxRecDepth 100000
set_option maxHeartbeats 8000000
namespace Lag
open PySem PySem.Spec PyProof.Rows L2
abbrev sLOdd : Stmt := topS 54 -- @_law_odd
inductive OdL (H : Hp) : V → Option (List (Option Int)) → Prop where
  | lst {a : Addr} {vs : List V} {os : List (Option Int)} (e : H a = some (.lst vs)) (al : All2 (OdV H) vs os) : OdL H (.ref a) (some os)
  | tup {a : Addr} {xs : List V} (e : H a = some (.tup xs)) : OdL H (.ref a) none
  | non : OdL H .non none
theorem OdL.same {H H' : Hp} {v : V} {t : Option (List (Option Int))} (h : OdL H v t) (s : Same H H') : OdL H' v t := by
  cases h with
  | lst e al => exact .lst (s _ _ e) (al.imp fun _ _ r => r.same s)
  | tup e => exact .tup (s _ _ e)
  | non => exact .non
theorem OdL.lags {K : PySem.W.Frag} {H : Hp} {gs : List Gt} {v : V} {t : Option (List (Option Int))} (h : OdL H v t) : LagsV K H gs v t := by
  cases h with
  | lst e al => exact .lst e al
  | tup e => exact .odd (ty_tup (.inl (.inl e))) (by decide +kernel)
  | non => exact .odd (t := "NoneType") (.base .non) (by decide +kernel)
theorem odv_ints (H : Hp) (Ls : List Int) : All2 (OdV H) (Ls.map V.int) (Ls.map some) := by
  refine ⟨by rw [List.length_map, List.length_map], fun i v o hv ho => ?_⟩
  obtain ⟨z, hz, rfl⟩ := int_atF hv
  rw [List.getElem?_map, hz] at ho
  cases ho
  exact .int z
theorem some_inj : ∀ {a b : List Int}, a.map some = b.map some → a = b
  | [], [], _ => rfl
  | [], _ :: _, h => nomatch h
  | _ :: _, [], h => nomatch h
  | x :: a, y :: b, h => by
    obtain ⟨h1, h2⟩ := List.cons.inj h
    rw [Option.some.inj h1, some_inj h2]
theorem good_ints {gs : List Gt} {ls : List Int} (h : GoodT gs (some (ls.map some))) : LagOk gs ls := by
  obtain ⟨os, e, g⟩ := h
  cases e
  obtain ⟨ls', e, lok⟩ := g.ints
  have : ls = ls' := some_inj e
  rw [this]
  exact lok
/-- what is asked of shared: lags or none -/
def OddAt (H : Hp) (gs : List Gt) (v : V) (b : Bool) : Prop := ∃ t, OdL H v t ∧ (∀ os, t = some os → os.length ≤ 1000) ∧ (b = true → ∃ (a : Addr) (Ls : List Int), v = .ref a ∧ t = some (Ls.map some) ∧ H a = some (.lst (Ls.map V.int)) ∧ LagOk gs Ls) ∧ (b = false → ¬ GoodT gs t)
theorem OddAt.same {H H' : Hp} {gs : List Gt} {v : V} {b : Bool} (h : OddAt H gs v b) (s : Same H H') : OddAt H' gs v b := by
  obtain ⟨t, h1, h2, h3, h4⟩ := h
  refine ⟨t, h1.same s, h2, fun e => ?_, h4⟩
  obtain ⟨a, Ls, k1, k2, k3, k4⟩ := h3 e
  exact ⟨a, Ls, k1, k2, s _ _ k3, k4⟩
def spLOdd (K : PySem.W.Frag) : Sp := fun vs H Q _ => ∃ (wl lg lc : Addr) (gs : List Gt) (ws : List Wr) (cur : List Int), vs = [.ref wl, .ref lg, .ref lc] ∧ WellAt wl H ∧ lg ≠ wl ∧ lc ≠ wl ∧ LG K H lg gs ∧ NetOk gs ws ∧ H lc = some (.lst (cur.map V.int)) ∧ cur.length = gs.length ∧ (∀ z ∈ cur, -40 ≤ z ∧ z ≤ 40) ∧ (∀ g, g < gs.length → portK (kindAt gs g) → cur.getD g 0 = 0) ∧
  ∀ (tt : Addr) (v : V) (b : Bool) (H' : Hp), Dr wl H H' → H' tt = some (.tup [v, .bl b]) → OddAt H' gs v b → Q (.ref tt) H'
section
variable {P : Program} {w : World} {K : PySem.W.Frag} {mg : Str → Option Value} {base : Heap}
abbrev nLOdd : List Str := ["_law_well_here", "_law_gates_here", "_law_shifts_here", "_law_way", "_law_k", "_law_step", "_law_other", "_law_odd_here"]
theorem scLOdd : FnScope nLOdd ["_law_well_here", "_law_gates_here", "_law_shifts_here"] (defScope sLOdd) := ⟨rfl, rfl, rfl, by decide +kernel, rfl, by decide +kernel, by decide +kernel⟩
abbrev DLOdd (P : Program) (w : World) (K : PySem.W.Frag) (mg : Str → Option Value) (base : Heap) := Df P w K mg base 3 "_law_odd" ["_law_well_here", "_law_gates_here", "_law_shifts_here"] (spLOdd K)
theorem ok_lodd {f fD fF : Addr} {fd fdD fdF : FuncData} (F : Fun K "_law_odd" "_law_odd" sLOdd f fd) (hm : mg "_law_odd" = some (.ref f)) (B : Bt mg) (ma : mg "abs" = none) (DD : DDraw P w K mg base fD fdD) (DFx : DFixed P w K mg base fF fdF) : DLOdd P w K mg base f fd := by
  refine ⟨?_, hm, F.kp, F.binds fun _ _ _ _ _ _ us hl => match us, hl with | [_, _, _], _ => rfl⟩
  refine F.ok scLOdd (fun vs H Q E h => ?_) (fun cdv A outer s H vs Q E hr h => ?_)
  · obtain ⟨wl, lg, lc, gs, ws, cur, rfl, _⟩ := h
    rfl
  · obtain ⟨wl, lg, lc, gs, ws, cur, rfl, hw, nlg, nlc, G, N, hlc, hcl, hcb, hcz, q⟩ := h
    have nd := scLOdd.nd
    refine ⟨_, pss_cons (ps_set (i := 3) nd rfl (.inl rfl) (pe_call DD.ok (hr.mono (by decide)) (by rfl) DD.mg DD.kp DD.bd .nil pass0 (pa_cons (pv 0) (pa_cons pe_int pa_nil)))) <|
        pss_cons (ps_set (i := 4) nd rfl (.inl rfl) (pe_call DD.ok (hr.mono (by decide)) (by rfl) DD.mg DD.kp DD.bd .nil pass0 (pa_cons (pv 0) (pa_cons (pe_callB call_len_seq (by rfl) B.len PySem.boot_len (pa_cons (pv 1) pa_nil)) pa_nil)))) <|
        pss_cons (ps_if (pt_cmpR op_gt (pv 3) pe_int (nomark _)) (pss_cons (ps_set (i := 5) nd rfl (.inl rfl) (pe_ix ix_list (pe_lst (pa_cons pe_int (pa_cons (pe_un un_neg pe_int) (pa_cons pe_int (pa_cons (pe_un un_neg pe_int) (pa_cons pe_int pa_nil)))))) (pe_op op_sub (pv 3) pe_int) (fun _ _ => rfl))) <|
        pss_cons (ps_set (i := 6) nd rfl (.inl rfl) (pe_op op_cat (pe_op op_cat (pe_slice sl_list (pv 2) po_none (po_some (pv 4))) (pe_lst (pa_cons (pe_op op_add (pe_ix ix_list (pv 2) (pv 4) (fun _ _ => rfl)) (pv 5)) pa_nil))) (pe_slice sl_list (pv 2) (po_some (pe_op op_add (pv 4) pe_int)) po_none))) <|
        pss_one (ps_ret (pe_tup (pa_cons (pv 6) (pa_cons (pe_and (pe_not (pe_call DFx.ok (hr.mono (by decide)) (by rfl) DFx.mg DFx.kp DFx.bd .nil pass0 (pa_cons (pv 1) (pa_cons (pv 4) pa_nil)))) (pe_one (pe_cmpR op_le (pe_callB call_abs (by rfl) ma (by decide +kernel) (pa_cons (pe_ix ix_list (pv 6) (pv 4) (fun _ _ => rfl)) pa_nil)) pe_int (nomark _)))) pa_nil))))) pss_nil) <|
        pss_cons (ps_set (i := 7) nd rfl (.inl rfl) (pe_lst (pa_cons (pe_callTy call_tuple_of (by rfl) B.tuple (by decide +kernel) (pa_cons (pv 2) pa_nil)) (pa_cons (pe_op op_cat (pv 2) (pe_lst (pa_cons pe_int pa_nil))) (pa_cons (pe_slice sl_list (pv 2) (po_some pe_int) po_none) (pa_cons pe_non (pa_cons (pe_op op_cat (pe_op op_cat (pe_slice sl_list (pv 2) po_none (po_some (pv 4))) (pe_lst (pa_cons (pe_ix ix_list (pe_lst (pa_cons pe_bl (pa_cons pe_str (pa_cons pe_non pa_nil)))) (pe_op op_mod (pv 4) pe_int) (fun _ _ => rfl)) pa_nil))) (pe_slice sl_list (pv 2) (po_some (pe_op op_add (pv 4) pe_int)) po_none)) pa_nil))))))) <|
        pss_one (ps_ret (pe_tup (pa_cons (pe_ix ix_list (pv 7) (pv 3) (fun _ _ => rfl)) (pa_cons pe_bl pa_nil)))), ?_⟩
    obtain ⟨gv, hgv, ga⟩ := id G
    have hlg : gv.length = gs.length := ga.1
    have hgl := N.gl
    have hpos := List.length_pos_iff.mpr N.ne
    refine ⟨_, rfl, wl, 10, rfl, by decide, by decide, hw, fun dw H1 w0 w1 E1 => ?_⟩
    refine gn_norm (σ' := [some (.ref wl), some (.ref lg), some (.ref lc), some (.int dw), none, none, none, none]) rfl ?_
    refine ⟨_, rfl, _, rfl, lg, gv, rfl, .inl (SqL.of (E1.but _ _ nlg hgv)), wl, _, rfl, by omega, by omega, E1.well, fun d H5 d0 d1 E5 => ?_⟩
    obtain ⟨k, rfl⟩ : ∃ k : Nat, d = (k : Int) := ⟨d.toNat, by omega⟩
    have hk : k < gs.length := by omega
    have D5 := E1.trans E5
    have hlc5 := D5.but _ _ nlc hlc
    have G5 := G.dr nlg hw D5
    refine gn_norm (σ' := [some (.ref wl), some (.ref lg), some (.ref lc), some (.int dw), some (.int (k : Nat)), none, none, none]) rfl ?_
    have hkc : k < cur.length := by omega
    refine ⟨_, rfl, _, _, rfl, rfl, decide (4 < dw), rfl, ?_⟩
    by_cases h4 : 4 < dw
    · rw [decide_eq_true h4]
      refine iteT ?_
      -- the step
      refine ⟨_, rfl, _, rfl, (by show 5 ≤ sizeLine; decide), fun l2 hl2 => ?_⟩
      have s2 : Same H5 (upd H5 l2 (.lst [.int 1, .int (-1), .int 9, .int (-9), .int 500])) := same_new hl2
      have e2 : (upd H5 l2 (.lst [.int 1, .int (-1), .int 9, .int (-9), .int 500])) l2 = some (.lst [.int 1, .int (-1), .int 9, .int (-9), .int 500]) := upd_same
      generalize upd H5 l2 (.lst [.int 1, .int (-1), .int 9, .int (-9), .int 500]) = H7 at s2 e2
      obtain ⟨st, hst, hst0, hst1⟩ : ∃ st : Int, ([.int 1, .int (-1), .int 9, .int (-9), .int 500] : List V)[(dw - 5).toNat]? = some (.int st) ∧ st ≠ 0 ∧ -500 ≤ st ∧ st ≤ 500 := by
        rcases (by omega : (dw - 5).toNat = 0 ∨ (dw - 5).toNat = 1 ∨ (dw - 5).toNat = 2 ∨ (dw - 5).toNat = 3 ∨ (dw - 5).toNat = 4) with e | e | e | e | e
        · exact ⟨1, by rw [e]; rfl, by decide⟩
        · exact ⟨-1, by rw [e]; rfl, by decide⟩
        · exact ⟨9, by rw [e]; rfl, by decide⟩
        · exact ⟨-9, by rw [e]; rfl, by decide⟩
        · exact ⟨500, by rw [e]; rfl, by decide⟩
      refine ⟨_, rfl, _, _, rfl, rfl, l2, _, dw - 5, _, rfl, rfl, SqL.of e2, at_of (j := (dw - 5).toNat) (by omega) hst, ?_⟩
      refine gn_norm (σ' := [some (.ref wl), some (.ref lg), some (.ref lc), some (.int dw), some (.int (k : Nat)), some (.int st), none, none]) rfl ?_
      have D7 := D5.trans (Dr.ofSame D5.well s2)
      have hlc7 := s2 _ _ hlc5
      -- the other
      have hkc : k < cur.length := by omega
      refine ⟨_, rfl, _, rfl, _, rfl, lc, _, rfl, SqL.of hlc7, fun l3 hl3 => ?_⟩
      have s3 : Same H7 (upd H7 l3 (.lst (cutV (cur.map V.int) none (some ((k : Nat) : Int))))) := same_new hl3
      have e3 : (upd H7 l3 (.lst (cutV (cur.map V.int) none (some ((k : Nat) : Int))))) l3 = some (.lst ((cur.map V.int).take k)) := by rw [upd_same, cut_to]
      generalize upd H7 l3 (.lst (cutV (cur.map V.int) none (some ((k : Nat) : Int)))) = H8 at s3 e3
      refine ⟨_, rfl, _, rfl, lc, _, k, _, rfl, rfl, SqL.of (s3 _ _ hlc7), atI_nat (lgetD_at hkc), _, rfl, _, _, rfl, rfl, (by show 1 ≤ sizeLine; decide), fun l4 hl4 => ?_⟩
      have s4 : Same H8 (upd H8 l4 (.lst [.int (cur.getD k 0 + st)])) := same_new hl4
      have e4 : (upd H8 l4 (.lst [.int (cur.getD k 0 + st)])) l4 = some (.lst [.int (cur.getD k 0 + st)]) := upd_same
      generalize upd H8 l4 (.lst [.int (cur.getD k 0 + st)]) = H9 at s4 e4
      refine ⟨l3, l4, _, _, rfl, rfl, s4 _ _ e3, e4, ?_, fun l5 hl5 => ?_⟩
      · rw [List.length_take, List.length_map]
        show _ + 1 ≤ _
        exact Nat.le_of_lt (small1000 (by omega))
      have s5 : Same H9 (upd H9 l5 (.lst ((cur.map V.int).take k ++ [.int (cur.getD k 0 + st)]))) := same_new hl5
      have e5 : (upd H9 l5 (.lst ((cur.map V.int).take k ++ [.int (cur.getD k 0 + st)]))) l5 = some (.lst ((cur.map V.int).take k ++ [.int (cur.getD k 0 + st)])) := upd_same
      generalize upd H9 l5 (.lst ((cur.map V.int).take k ++ [.int (cur.getD k 0 + st)])) = H10 at s5 e5
      refine ⟨_, rfl, _, rfl, _, _, rfl, rfl, _, rfl, lc, _, rfl, SqL.of ((s3.trans (s4.trans s5)) _ _ hlc7), fun l6 hl6 => ?_⟩
      have ek : (((k : Nat) : Int) + 1) = ((k + 1 : Nat) : Int) := rfl
      rw [ek, cut_from]
      have s6 : Same H10 (upd H10 l6 (.lst ((cur.map V.int).drop (k + 1)))) := same_new hl6
      have e6 : (upd H10 l6 (.lst ((cur.map V.int).drop (k + 1)))) l6 = some (.lst ((cur.map V.int).drop (k + 1))) := upd_same
      generalize upd H10 l6 (.lst ((cur.map V.int).drop (k + 1))) = H11 at s6 e6
      refine ⟨l5, l6, _, _, rfl, rfl, s6 _ _ e5, e6, ?_, fun lo hlo => ?_⟩
      · rw [List.length_append, List.length_take, List.length_drop, List.length_map]
        show _ + 1 + _ ≤ _
        exact Nat.le_of_lt (small1000 (by omega))
      have eo : (cur.map V.int).take k ++ [.int (cur.getD k 0 + st)] ++ (cur.map V.int).drop (k + 1) = (cur.set k (cur.getD k 0 + st)).map V.int := by
        rw [set_cut (by rw [List.length_map]; exact hkc), List.map_set]
      rw [eo]
      have s36 := s3.trans (s4.trans (s5.trans s6))
      have nlo : lo ≠ wl := ((D7.well.same s36).ne hlo).symm
      generalize hOT : cur.set k (cur.getD k 0 + st) = ot
      have otl : ot.length = gs.length := by rw [← hOT, List.length_set]; exact hcl
      have s7 : Same H11 (upd H11 lo (.lst (ot.map V.int))) := same_new hlo
      have eot : (upd H11 lo (.lst (ot.map V.int))) lo = some (.lst (ot.map V.int)) := upd_same
      obtain ⟨H12, hH12⟩ : ∃ H12, H12 = upd H11 lo (.lst (ot.map V.int)) := ⟨_, rfl⟩
      rw [← hH12] at s7 eot
      refine gn_normH (σ' := [some (.ref wl), some (.ref lg), some (.ref lc), some (.int dw), some (.int (k : Nat)), some (.int st), some (.ref lo), none]) (H' := H12) rfl hH12.symm ?_
      have s37 := s36.trans s7
      have s57 := s2.trans s37
      have D12 := D7.trans (Dr.ofSame D7.well s37)
      have G12 := G5.same' s57
      have otk : ot.getD k 0 = cur.getD k 0 + st := by rw [← hOT, getD_set hkc, if_pos rfl]
      -- good or not
      refine ⟨_, rfl, _, rfl, _, rfl, lg, k, gs, rfl, G12, hk, fun pb H13 hpb s13 => ?_⟩
      have D13 := D12.trans (Dr.ofSame D12.well s13)
      have eot13 := s13 _ _ eot
      have fin : ∀ (b : Bool) H', Same H13 H' → (b = true → LagOk gs ot) → (b = false → ¬ GoodT gs (some (ot.map some))) → ∀ tt, H' tt = none → Q (.ref tt) (upd H' tt (.tup [.ref lo, .bl b])) := fun b H' s h1 h2 tt htt => by
        have st' := same_new (o := .tup [.ref lo, .bl b]) htt
        have eo' := st' _ _ (s _ _ eot13)
        have D' := D13.trans (Dr.ofSame D13.well (s.trans st'))
        exact q tt (.ref lo) b _ D' upd_same ⟨some (ot.map some), .lst eo' (odv_ints _ ot), (fun os e => by cases e; rw [List.length_map]; omega), fun e => ⟨lo, ot, rfl, rfl, eo', h1 e⟩, h2⟩
      cases pb with
      | true =>
        have hp := hpb.mp rfl
        refine ⟨true, rfl, _, rfl, iteF ⟨(by show 2 ≤ sizeLine; decide), fin false H13 (Same.refl _) (fun z => nomatch z) (fun _ g => ?_)⟩⟩
        have lok := good_ints g
        have hg := List.getElem?_eq_getElem hk
        have ho : ot[k]? = some (ot.getD k 0) := by rw [List.getD_eq_getElem?_getD, List.getElem?_eq_getElem (by omega)]; rfl
        have h3 := (lok.ok k _ _ hg ho).2.2 (by rw [kindAt_get hg] at hp; exact hp)
        rw [otk, hcz k hk hp] at h3
        omega
      | false =>
        have npk : ¬ portK (kindAt gs k) := fun h => by have := hpb.mpr h; cases this
        refine ⟨false, rfl, _, rfl, iteT ⟨_, rfl, _, rfl, lo, _, k, _, rfl, rfl, SqL.of eot13, atI_nat (lgetD_at (by omega)), _, rfl, _, _, rfl, rfl, (by show 2 ≤ sizeLine; decide), ?_⟩⟩
        have hk0 := hcb (cur.getD k 0) (by
          rw [List.getD_eq_getElem?_getD, List.getElem?_eq_getElem hkc]
          exact List.getElem_mem _)
        refine fin (decide ((if ot.getD k 0 < 0 then -ot.getD k 0 else ot.getD k 0) ≤ 500)) H13 (Same.refl _) (fun h => ?_) (fun h g => ?_)
        · have h := of_decide_eq_true h
          have h500 : -500 ≤ ot.getD k 0 ∧ ot.getD k 0 ≤ 500 := by split at h <;> omega
          refine ⟨otl, fun i g l hg hl => ?_⟩
          have hi := (List.getElem?_eq_some_iff.mp hg).1
          have el : l = ot.getD i 0 := by rw [List.getD_eq_getElem?_getD, hl]; rfl
          by_cases ei : k = i
          · subst ei
            rw [el]
            exact ⟨h500.1, h500.2, fun hp => absurd (by rw [kindAt_get hg]; exact hp) npk⟩
          · have e2 : ot.getD i 0 = cur.getD i 0 := by rw [← hOT, getD_set hkc, if_neg ei]
            have hb := hcb (cur.getD i 0) (by
              rw [List.getD_eq_getElem?_getD, List.getElem?_eq_getElem (by omega)]
              exact List.getElem_mem _)
            refine ⟨by omega, by omega, fun hp => ?_⟩
            rw [el, e2]
            exact hcz i hi (by rw [kindAt_get hg]; exact hp)
        · have h := of_decide_eq_false h
          have lok := good_ints g
          have ho : ot[k]? = some (ot.getD k 0) := by rw [List.getD_eq_getElem?_getD, List.getElem?_eq_getElem (by omega)]; rfl
          have h3 := lok.ok k _ _ (List.getElem?_eq_getElem hk) ho
          apply h
          split <;> omega
    · rw [decide_eq_false h4]
      refine iteF ?_
      refine ⟨_, rfl, lc, _, rfl, .inl ⟨SqL.of hlc5, fun a1 ha1 => ?_⟩⟩
      have r1 : Same H5 (upd H5 a1 (.tup (cur.map V.int))) := same_new ha1
      have ea1 : (upd H5 a1 (.tup (cur.map V.int))) a1 = some (.tup (cur.map V.int)) := upd_same
      generalize upd H5 a1 (.tup (cur.map V.int)) = K1 at r1 ea1
      have c1 := r1 _ _ hlc5
      refine ⟨_, rfl, (by show 1 ≤ sizeLine; decide), fun a2 ha2 => ?_⟩
      have r2 : Same K1 (upd K1 a2 (.lst [.int 0])) := same_new ha2
      have ea2 : (upd K1 a2 (.lst [.int 0])) a2 = some (.lst [.int 0]) := upd_same
      generalize upd K1 a2 (.lst [.int 0]) = K2 at r2 ea2
      have c2 := r2 _ _ c1
      refine ⟨lc, a2, _, _, rfl, rfl, c2, ea2, ?_, fun a3 ha3 => ?_⟩
      · rw [List.length_map]
        show _ + 1 ≤ _
        exact Nat.le_of_lt (small1000 (by omega))
      have r3 : Same K2 (upd K2 a3 (.lst ((cur.map V.int) ++ [.int 0]))) := same_new ha3
      have ea3 : (upd K2 a3 (.lst ((cur.map V.int) ++ [.int 0]))) a3 = some (.lst ((cur.map V.int) ++ [.int 0])) := upd_same
      generalize upd K2 a3 (.lst ((cur.map V.int) ++ [.int 0])) = K3 at r3 ea3
      have c3 := r3 _ _ c2
      refine ⟨_, rfl, _, rfl, lc, _, rfl, SqL.of c3, fun a4 ha4 => ?_⟩
      have ec1 : cutV (cur.map V.int) (some 1) none = (cur.map V.int).drop 1 := cut_from (xs := cur.map V.int) 1
      rw [ec1]
      have r4 : Same K3 (upd K3 a4 (.lst ((cur.map V.int).drop 1))) := same_new ha4
      have ea4 : (upd K3 a4 (.lst ((cur.map V.int).drop 1))) a4 = some (.lst ((cur.map V.int).drop 1)) := upd_same
      generalize upd K3 a4 (.lst ((cur.map V.int).drop 1)) = K4 at r4 ea4
      have c4 := r4 _ _ c3
      refine ⟨_, rfl, _, rfl, _, rfl, lc, _, rfl, SqL.of c4, fun a5 ha5 => ?_⟩
      rw [cut_to]
      have r5 : Same K4 (upd K4 a5 (.lst ((cur.map V.int).take k))) := same_new ha5
      have ea5 : (upd K4 a5 (.lst ((cur.map V.int).take k))) a5 = some (.lst ((cur.map V.int).take k)) := upd_same
      generalize upd K4 a5 (.lst ((cur.map V.int).take k)) = K5 at r5 ea5
      have c5 := r5 _ _ c4
      refine ⟨(by show 3 ≤ sizeLine; decide), fun a6 ha6 => ?_⟩
      have r6 : Same K5 (upd K5 a6 (.lst [.bl true, .str "0", .non])) := same_new ha6
      have ea6 : (upd K5 a6 (.lst [.bl true, .str "0", .non])) a6 = some (.lst [.bl true, .str "0", .non]) := upd_same
      generalize upd K5 a6 (.lst [.bl true, .str "0", .non]) = K6 at r6 ea6
      have c6 := r6 _ _ c5
      obtain ⟨ov, hov, odv⟩ : ∃ ov : V, ([.bl true, .str "0", .non] : List V)[k % 3]? = some ov ∧ ∀ Hx, OdV Hx ov none := by
        rcases (by omega : k % 3 = 0 ∨ k % 3 = 1 ∨ k % 3 = 2) with e | e | e
        · exact ⟨.bl true, by rw [e]; rfl, fun _ => .bl true⟩
        · exact ⟨.str "0", by rw [e]; rfl, fun _ => .str "0"⟩
        · exact ⟨.non, by rw [e]; rfl, fun _ => .non⟩
      refine ⟨_, rfl, _, _, rfl, rfl, (by show (0 : Int) < 3; decide), a6, _, ((k : Nat) : Int) % 3, _, rfl, rfl, SqL.of ea6, at_of (j := k % 3) (by omega) hov, ?_⟩
      refine ⟨(by show 1 ≤ sizeLine; decide), fun a7 ha7 => ?_⟩
      have r7 : Same K6 (upd K6 a7 (.lst [ov])) := same_new ha7
      have ea7 : (upd K6 a7 (.lst [ov])) a7 = some (.lst [ov]) := upd_same
      generalize upd K6 a7 (.lst [ov]) = K7 at r7 ea7
      have c7 := r7 _ _ c6
      refine ⟨a5, a7, _, _, rfl, rfl, (r6.trans r7) _ _ ea5, ea7, ?_, fun a8 ha8 => ?_⟩
      · rw [List.length_take, List.length_map]
        show _ + 1 ≤ _
        exact Nat.le_of_lt (small1000 (by omega))
      have r8 : Same K7 (upd K7 a8 (.lst ((cur.map V.int).take k ++ [ov]))) := same_new ha8
      have ea8 : (upd K7 a8 (.lst ((cur.map V.int).take k ++ [ov]))) a8 = some (.lst ((cur.map V.int).take k ++ [ov])) := upd_same
      generalize upd K7 a8 (.lst ((cur.map V.int).take k ++ [ov])) = K8 at r8 ea8
      have c8 := r8 _ _ c7
      refine ⟨_, rfl, _, rfl, _, _, rfl, rfl, _, rfl, lc, _, rfl, SqL.of c8, fun a9 ha9 => ?_⟩
      have ek : (((k : Nat) : Int) + 1) = ((k + 1 : Nat) : Int) := rfl
      rw [ek, cut_from]
      have r9 : Same K8 (upd K8 a9 (.lst ((cur.map V.int).drop (k + 1)))) := same_new ha9
      have ea9 : (upd K8 a9 (.lst ((cur.map V.int).drop (k + 1)))) a9 = some (.lst ((cur.map V.int).drop (k + 1))) := upd_same
      generalize upd K8 a9 (.lst ((cur.map V.int).drop (k + 1))) = K9 at r9 ea9
      refine ⟨a8, a9, _, _, rfl, rfl, r9 _ _ ea8, ea9, ?_, fun b1 hb1 => ?_⟩
      · rw [List.length_append, List.length_take, List.length_drop, List.length_map]
        show _ + 1 + _ ≤ _
        exact Nat.le_of_lt (small1000 (by omega))
      have eo : (cur.map V.int).take k ++ [ov] ++ (cur.map V.int).drop (k + 1) = (cur.map V.int).set k ov := set_cut (by rw [List.length_map]; exact hkc)
      rw [eo]
      have ra : Same K9 (upd K9 b1 (.lst ((cur.map V.int).set k ov))) := same_new hb1
      have eb1 : (upd K9 b1 (.lst ((cur.map V.int).set k ov))) b1 = some (.lst ((cur.map V.int).set k ov)) := upd_same
      generalize upd K9 b1 (.lst ((cur.map V.int).set k ov)) = KA at ra eb1
      refine ⟨(by show 5 ≤ sizeLine; decide), fun b2 hb2 => ?_⟩
      have rb : Same KA (upd KA b2 (.lst [.ref a1, .ref a3, .ref a4, .non, .ref b1])) := same_new hb2
      have eb2 : (upd KA b2 (.lst [.ref a1, .ref a3, .ref a4, .non, .ref b1])) b2 = some (.lst [.ref a1, .ref a3, .ref a4, .non, .ref b1]) := upd_same
      obtain ⟨KB, hKB⟩ : ∃ KB, KB = upd KA b2 (.lst [.ref a1, .ref a3, .ref a4, .non, .ref b1]) := ⟨_, rfl⟩
      rw [← hKB] at rb eb2
      refine gn_normH (σ' := [some (.ref wl), some (.ref lg), some (.ref lc), some (.int dw), some (.int (k : Nat)), none, none, some (.ref b2)]) (H' := KB) rfl hKB.symm ?_
      have r9b := (r9.trans ra).trans rb
      have r4b := r5.trans (r6.trans (r7.trans (r8.trans r9b)))
      have r3b := r4.trans r4b
      have r1b := r2.trans (r3.trans r3b)
      have r5b := r1.trans r1b
      have DB := D5.trans (Dr.ofSame D5.well r5b)
      have no : ∀ os : List (Option Int), os.length ≠ gs.length → ¬ GoodT gs (some os) := fun os h ⟨os', e, g⟩ => by
        cases e
        exact h g.1
      obtain ⟨v, hv, t, od, hbig, bad⟩ : ∃ v : V, ([.ref a1, .ref a3, .ref a4, .non, .ref b1] : List V)[dw.toNat]? = some v ∧ ∃ t, OdL KB v t ∧ (∀ os, t = some os → os.length ≤ 1000) ∧ ¬ GoodT gs t := by
        rcases (by omega : dw.toNat = 0 ∨ dw.toNat = 1 ∨ dw.toNat = 2 ∨ dw.toNat = 3 ∨ dw.toNat = 4) with e | e | e | e | e
        · exact ⟨.ref a1, by rw [e]; rfl, none, .tup (r1b _ _ ea1), (fun os z => nomatch z), fun ⟨_, z, _⟩ => nomatch z⟩
        · refine ⟨.ref a3, by rw [e]; rfl, some ((cur ++ [0]).map some), .lst (vs := (cur ++ [0]).map V.int) (by rw [List.map_append]; exact r3b _ _ ea3) (odv_ints _ _), (fun os z => by cases z; rw [List.length_map, List.length_append]; show _ + 1 ≤ _; omega), no _ ?_⟩
          rw [List.length_map, List.length_append]
          show _ + 1 ≠ _
          omega
        · refine ⟨.ref a4, by rw [e]; rfl, some ((cur.drop 1).map some), .lst (vs := (cur.drop 1).map V.int) (by rw [List.map_drop]; exact r4b _ _ ea4) (odv_ints _ _), (fun os z => by cases z; rw [List.length_map, List.length_drop]; omega), no _ ?_⟩
          rw [List.length_map, List.length_drop]
          omega
        · exact ⟨.non, by rw [e]; rfl, none, .non, (fun os z => nomatch z), fun ⟨_, z, _⟩ => nomatch z⟩
        · refine ⟨.ref b1, by rw [e]; rfl, some ((cur.map some).set k none), .lst (rb _ _ eb1) ?_, (fun os z => by cases z; rw [List.length_set, List.length_map]; omega), ?_⟩
          · refine ⟨by rw [List.length_set, List.length_set, List.length_map, List.length_map], fun i v o hv ho => ?_⟩
            rw [List.getElem?_set] at hv ho
            by_cases ei : k = i
            · rw [if_pos ei, if_pos (by rw [List.length_map]; omega)] at hv ho
              cases hv
              cases ho
              exact odv _
            · rw [if_neg ei] at hv ho
              obtain ⟨z, hz, rfl⟩ := int_atF hv
              rw [List.getElem?_map, hz] at ho
              cases ho
              exact .int z
          · rintro ⟨os, z, g⟩
            cases z
            obtain ⟨n, hn, _⟩ := g.2 k _ none (List.getElem?_eq_getElem hk) (by rw [List.getElem?_set, if_pos rfl, if_pos (by rw [List.length_map]; omega)])
            cases hn
      refine ⟨_, rfl, _, rfl, b2, _, dw, _, rfl, rfl, SqL.of eb2, at_of (j := dw.toNat) (by omega) hv, (by show 2 ≤ sizeLine; decide), fun tt htt => ?_⟩
      have rt := same_new (o := .tup [v, .bl false]) htt
      exact q tt v false _ (DB.trans (Dr.ofSame DB.well rt)) upd_same ⟨t, od.same rt, hbig, (fun z => nomatch z), fun _ => bad⟩
end
end Lag

set_option maxRecDepth 100000
set_option maxHeartbeats 4000000
/-! ### try with several except clauses, each with a name or without -/
namespace L2
open PySem PySem.Spec PyProof.Rows
/-- a clause: the class that it names, the slot of its own name, what its suite does -/
structure Cl where
  c : Value
  i : Option Nat
  ts : Addr → Value → Option Addr → TS
/-- behind the suite the clause's own name is gone -/
def Cl.ends (k : Cl) (D : Ends) : Ends := match k.i with
  | none => D
  | some i => ⟨fun s h => D.nx (s.set i none) h, D.rt, fun s h => D.bk (s.set i none) h, fun s h => D.ct (s.set i none) h⟩
def Cl.in_ (k : Cl) (a : Addr) (σ : St) : St := match k.i with
  | none => σ
  | some i => σ.set i (some (.ref a))
def wCls (K : PySem.W.Frag) (Wo : WX) (D : Ends) : List Cl → WX
  | [] => Wo
  | k :: l => fun cls d σ H => ∃ b : Bool, PySem.W.exmOne K cls k.c = some b ∧ (b = true → ∀ a, H a = none → k.ts a cls d (k.ends D) (k.in_ a σ) H) ∧ (b = false → wCls K Wo D l cls d σ H)
inductive ClsOk (X : Cx) : List ExceptHandler → List Cl → Prop
  | nil : ClsOk X [] []
  | bare {x : Str} {c : Value} {ts : Addr → Value → Option Addr → TS} {b1 : Stmt} {ss : List Stmt} {p1 p2 : Pos} {hs : List ExceptHandler} {l : List Cl} (hc : Names X x c)
      (su : ∀ (a : Addr) (oe : Obj) (cls : Value) (d : Option Addr) (pn : List (Addr × Obj)), Zc cls d oe → (∃ vs, oe.data = .fields vs) → PSs (X.suite a ((a, oe) :: pn)) (b1 :: ss) (ts a cls d)) (r : ClsOk X hs l) :
      ClsOk X (.ExceptHandler (some (.Name x p1)) none (b1 :: ss) p2 :: hs) (⟨c, none, ts⟩ :: l)
  | named {x n : Str} {c : Value} {i : Nat} {ts : Addr → Value → Option Addr → TS} {b1 : Stmt} {ss : List Stmt} {p1 p2 : Pos} {hs : List ExceptHandler} {l : List Cl} (hi : X.N[i]? = some n) (hl : X.env.kindOf n = some .local) (hc : Names X x c)
      (su : ∀ (a : Addr) (oe : Obj) (cls : Value) (d : Option Addr) (pn : List (Addr × Obj)), Zc cls d oe → (∃ vs, oe.data = .fields vs) → PSs (X.suite a ((a, oe) :: pn)) (b1 :: ss) (ts a cls d)) (r : ClsOk X hs l) :
      ClsOk X (.ExceptHandler (some (.Name x p1)) (some n) (b1 :: ss) p2 :: hs) (⟨c, some i, ts⟩ :: l)
section
variable {X : Cx} {body : List Stmt} {h0 : ExceptHandler} {hs : List ExceptHandler} {l : List Cl} {pos : Pos} {tb : WX → TS} {Wo : WX}
theorem ps_try_cls (hst : X.stack = X.env :: X.outer) (hfr : X.env.frame = some X.env.locals) (hN : X.N.Nodup) (tk : Takes X Wo)
    (hb : ∀ (W : WX) (pn : List (Addr × Obj)) (xe : Value → Shared → Prop), Takes (X.tr pn xe) W → PassesOwn (model X.prog X.w) X.A X.env xe → PSs (X.tr pn xe) body (tb W))
    (hh : ClsOk X (h0 :: hs) l) : PS X (.Try body (h0 :: hs) [] [] pos) (fun D σ H => tb (wCls X.K Wo D l) D σ H) := by
  constructor
  intro pins s σ H D I h
  have ok := I.ok
  have frs0 : X.A.frames = some (X.env :: X.outer) := hst ▸ ok.frames
  refine wpAny_Try_except (wpAny_mono ((hb (wCls X.K Wo D l) (X.pn ++ pins)
    (fun e t1 => wpAny (model X.prog X.w) X.A (noteFrame e X.env)
      (fun _ t2 => wpAny (model X.prog X.w) X.A (setFlight e none)
        (fun _ t3 => wpAny (model X.prog X.w) X.A (handleBy e X.env (h0 :: hs)) (SP X pins D) X.xe t3) X.xe t2) X.xe t1)
    ?_ PassesOwn.looking).run [] s σ H D (I.toTry _) h) ?_ fun e t1 he => he)
  · intro u t xx
    have goal : wpAny (model X.prog X.w) X.A (noteFrame u X.env) (fun _ t2 => wpAny (model X.prog X.w) X.A (setFlight u none) (fun _ t3 => wpAny (model X.prog X.w) X.A (handleBy u X.env (h0 :: hs)) (SP X pins D) X.xe t3) X.xe t2) X.xe t := by
      obtain ⟨a, B, sI, pins', σ', H', cls, d, rfl, J0, nb, up, sky0, na, os, ag, w⟩ := xx
      have J : Inv X pins σ' H' sI := J0.ofTry ok
      have sky : Sky B (X.env :: X.outer) a (Zc cls d) X.env.locals t.heap := hst ▸ sky0
      refine Sky.land Zc.steady frs0 hfr sky fun h3 fl3 up3 => ?_
      have J3 : Inv X pins σ' H' { t with heap := h3 } := J.landed nb fl3.1 (up.trans up3) os ag
      obtain ⟨oe, vs, he, hz, hd⟩ := fl3.there
      have off : a ∉ frs (X.env :: X.outer) := fun hm => by
        obtain ⟨_, o', e', no⟩ := fl3.2.2.1.mem hm
        rw [he] at e'
        cases e'
        exact no _ hd
      have offL : a ≠ X.env.locals := fun z => off (List.mem_filterMap.mpr ⟨X.env, by simp, by rw [hfr, z]⟩)
      have offF : a ∉ X.fs := fun hm => by
        obtain ⟨e, hm2, q⟩ := List.mem_filterMap.mp hm
        exact off (List.mem_filterMap.mpr ⟨e, List.mem_cons_of_mem _ hm2, q⟩)
      have S3 := J3.suite he hd na offL offF
      -- is it of the class that is named
      suffices go : ∀ {hs' : List ExceptHandler} {l' : List Cl}, ClsOk X hs' l' → wCls X.K Wo D l' cls d σ' H' → wpAny (model X.prog X.w) X.A (handleBy (.ref a) X.env hs') (SP X pins D) X.xe { t with heap := h3 } from go hh w
      have typ : PySem.W.Looks (model X.prog X.w) h3 (typeOf (.ref a)) cls := by
        intro A Q E s k q
        exact wpAny_typeOf_ref (k _ _ he) (by rw [hz.1]; exact q)
      have nm : ∀ {x : Str} {c : Value} {p1 : Pos} {Q E : Value → Shared → Prop}, Names X x c → Q c { t with heap := h3 } → wpAny (model X.prog X.w) (X.A.mark (some (.ref a))) (eval (.Name x p1) X.env) Q E { t with heap := h3 } := by
        intro x c p1 Q E hc q
        rcases hc with ⟨g1, g2, g3 | ⟨g3, g4, g5⟩⟩
        · exact ld_glob (X := X.suite a ((a, oe) :: (X.pn ++ pins))) S3 g1 g3 q g2
        · exact ld_blt (X := X.suite a ((a, oe) :: (X.pn ++ pins))) S3 g1 g3 g4 q g5 g2
      intro hs' l' ck
      induction ck with
      | nil =>
        intro w
        apply wpAny_handleBy_nil
        obtain ⟨_, _, _, ob, us, T, oT, ts', g1, _, g3, g4, _⟩ := id fl3
        unfold PySem.passOn
        refine wpAny_bind (wpAny_field g1 g3 g4 ?_)
        have nn : ¬ ((Value.ref T == Value.none) = true) := by simp
        rw [if_neg nn]
        have out : wpAny (model X.prog X.w) X.A (setFlight (.ref a) X.env.frame) (fun _ t4 => wpAny (model X.prog X.w) X.A (throw (.ref a) : Sem Flow) (SP X pins D) X.xe t4) X.xe { t with heap := h3 } := by
          rw [hfr]
          refine HandSPX.setFlight_upZ fl3 fun h4 hh4 up4 => wpAny_throw (tk _ _ ?_)
          exact ⟨a, B, sI, pins, σ', H', cls, d, rfl, J, nb, (up.trans up3).trans up4, .inr (.inr (hst ▸ hh4)), na, os, ag, w⟩
        first
          | exact wpAny_bind (wpAny_pure (wpAny_bind out))
          | exact wpAny_bind out
      | bare hc su r ih =>
        rintro ⟨b, eb, yes, no⟩
        refine wpAny_handleBy_cons (codeAny_handlers_test (nm hc ((PySem.W.exm_one (M := model X.prog X.w) J3.kIn typ eb).here ?_))) (fun q => by cases q)
        cases b
        · exact ih (no rfl)
        · refine codeAny_handlers_suite (HandSPX.lands_againZ fl3 fun h4 fl4 up4 => ?_)
          have J4 : Inv X pins σ' H' { t with heap := h4 } := J.landed nb fl4.1 ((up.trans up3).trans up4) os ag
          obtain ⟨o4, v4, he4, hz4, hd4⟩ := fl4.there
          have S4 := J4.suite he4 hd4 na offL offF
          refine wpAny_mono ((su a o4 cls d (X.pn ++ pins) hz4 ⟨_, hd4⟩).run [] _ _ H' _ S4 (yes rfl a na)) (fun f t6 hp => ?_) (fun _ _ z => False.elim z)
          cases f
          case next => exact ⟨_, _, hp.choose_spec.choose_spec.1.unsuite ok, hp.choose_spec.choose_spec.2⟩
          case brk => exact ⟨_, _, hp.choose_spec.choose_spec.1.unsuite ok, hp.choose_spec.choose_spec.2⟩
          case cont => exact ⟨_, _, hp.choose_spec.choose_spec.1.unsuite ok, hp.choose_spec.choose_spec.2⟩
          case ret u =>
            obtain ⟨v6, σ6, H6, S6, r6, q6⟩ := hp
            exact ⟨v6, σ6, H6, S6.unsuite ok, r6, q6⟩
      | @named x n c i ts b1 ss p1 p2 hs2 l2 hi hl hc su r ih =>
        rintro ⟨b, eb, yes, no⟩
        refine wpAny_handleBy_cons (codeAny_handlers_test (nm hc ((PySem.W.exm_one (M := model X.prog X.w) J3.kIn typ eb).here ?_))) (fun q => by cases q)
        cases b
        · exact ih (no rfl)
        · refine codeAny_handlers_suite_as (HandSPX.lands_againZ fl3 fun h4 fl4 up4 => ?_)
          have J4 : Inv X pins σ' H' { t with heap := h4 } := J.landed nb fl4.1 ((up.trans up3).trans up4) os ag
          obtain ⟨o4, v4, he4, hz4, hd4⟩ := fl4.there
          have S4 := J4.suite he4 hd4 na offL offF
          refine store_ok (X := X.suite a ((a, o4) :: (X.pn ++ pins))) (v := .ref a) S4 hN hi (.inl hl) rfl (fun t5 S5 => ?_) (.inr hl)
          refine wpAny_mono ((su a o4 cls d (X.pn ++ pins) hz4 ⟨_, hd4⟩).run [] t5 _ H' _ S5 (yes rfl a na)) (fun f t6 hp => ?_) (fun _ _ z => False.elim z)
          have gone : ∀ {σ6 : St} {H6 : Hp} {Q : Shared → Prop}, Inv (X.suite a ((a, o4) :: (X.pn ++ pins))) [] σ6 H6 t6 → (∀ t7, Inv X pins (σ6.set i none) H6 t7 → Q t7) →
              wpAny (model X.prog X.w) X.A (do bindName X.env n .none; unbindBehindTheSuite X.env n p2) (fun _ t7 => Q t7) X.xe t6 := by
            intro σ6 H6 Q S6 hq
            exact gone_ok (S6.unsuite ok) hN hi hl hq
          cases f
          case next =>
            obtain ⟨σ6, H6, S6, q6⟩ := hp
            exact gone S6 fun t7 J7 => ⟨_, _, J7, q6⟩
          case brk =>
            obtain ⟨σ6, H6, S6, q6⟩ := hp
            exact gone S6 fun t7 J7 => ⟨_, _, J7, q6⟩
          case cont =>
            obtain ⟨σ6, H6, S6, q6⟩ := hp
            exact gone S6 fun t7 J7 => ⟨_, _, J7, q6⟩
          case ret u =>
            obtain ⟨v6, σ6, H6, S6, r6, q6⟩ := hp
            exact gone S6 fun t7 J7 => ⟨_, _, _, J7, r6, q6⟩
    exact goal
  · intro f t1 hp
    cases f
    case next =>
      obtain ⟨σ', H', J', q⟩ := hp
      exact wpAny_execs_nil ⟨σ', H', J'.ofTry ok, q⟩
    case brk =>
      obtain ⟨σ', H', J', q⟩ := hp
      exact ⟨σ', H', J'.ofTry ok, q⟩
    case cont =>
      obtain ⟨σ', H', J', q⟩ := hp
      exact ⟨σ', H', J'.ofTry ok, q⟩
    case ret u =>
      obtain ⟨v, σ', H', J', r, q⟩ := hp
      exact ⟨v, σ', H', J'.ofTry ok, r, q⟩
end
end L2

set_option maxRecDepth 100000
set_option maxHeartbeats 4000000
/-! ### isinstance of a caught error that has fields of its own, and of several classes at once -/
namespace PySem.W
open PySem PySem.Spec PySem.Calls PyProof.Rows
section
variable {prog : Program} {w : World} {A : Around} {E : Value → Shared → Prop} {s : Shared} {K : Frag} {x D : Addr} {ox : Obj} {od : Option Obj}
theorem cls_found {D : Addr} {a g : Value} {n : Str} (hd : hasDictIn K D = true) (h1 : findIn K (.ref D) n = some (some a)) (h2 : specialIn K a "__get__" = some (some g)) (h3 : takesIn K a = some true) : findObj K D od n = some (.bind g a) := by
  obtain ⟨cd, hc, _⟩ := any_some hd
  unfold findObj
  rw [hc, Option.bind_some, h1, Option.bind_some]
  simp [h2, h3]
theorem cls_of_exc {Q : Option Value → Shared → Prop} (C1 : findIn K (.ref D) "__getattribute__" = some (some (.builtin "BaseException.__getattribute__"))) (C2 : findIn K (.ref D) "__getattr__" = some none) (C3 : subIn K (.ref D) (.type "BaseException") = some true)
    (C4 : hasDictIn K D = true) (C5 : findIn K (.ref D) "__class__" = some (some (.builtin "object.__class__"))) (C6 : specialIn K (.builtin "object.__class__") "__get__" = some (some (.builtin "getset_descriptor.__get__"))) (C7 : takesIn K (.builtin "object.__class__") = some true) (C8 : mroIn K D (.type "object") = some true)
    (X : K.In s.heap) (I : InstAt s.heap x ox D od) (h : Q (some (.ref D)) { s with toks := s.toks + 1 }) : wpAny (model prog w) A (getAttr? (.ref x) "__class__") Q E s := by
  have fnd := cls_found (od := od) C4 C5 C6 C7
  obtain ⟨hp, g, d, t, os⟩ := s
  have t0 := I.type (M := model prog w)
  have t1 := looks_findIn (M := model prog w) X C1
  have t2 := looks_findIn (M := model prog w) X C2
  have t3 := looks_find (M := model prog w) X I fnd
  have isE : Looks (model prog w) hp (isInstance (.ref x) (.type "BaseException")) true := t0.andThen (looks_subIn X C3)
  have own : (Value.builtin "BaseException.__getattribute__" == Value.builtin "object.__getattribute__") = false := by decide +kernel
  have q1 : (onTheHeap (Value.ref D) && Value.builtin "BaseException.__getattribute__" == Value.builtin "object.__getattribute__") = false := by rw [own]; rfl
  unfold getAttr? getAttrBy? getAttrBy
  refine wpAny_bind (wpAny_mkText (wpAny_bind (wpAny_attempt (wpAny_holding (wpAny_bind (t0.at (wpAny_bind (t1.at ?_))))))))
  show wpAny _ _ (if (onTheHeap (Value.ref D) && Value.builtin "BaseException.__getattribute__" == Value.builtin "object.__getattribute__") = true then _ else _) _ _ _
  rw [q1, if_neg Bool.false_ne_true]
  unfold getAttrByItsOwn hookBefore
  refine wpAny_bind ?_
  rw [if_pos (show onTheHeap (Value.ref D) = true from rfl)]
  refine t2.at (wpAny_bind (wpAny_attempt (wpAny_holding ?_)))
  unfold callGetattribute
  rw [show (false && onTheHeap (Value.builtin "BaseException.__getattribute__")) = false from rfl, if_neg Bool.false_ne_true]
  unfold boundAndCalled
  rw [PySem.F.excAttr_ValueError.ga.bind (.ref x)]
  refine wpAny_bind (wpAny_pure ?_)
  show wpAny _ _ (call (.builtin "BaseException.__getattribute__") [.ref x, .str "__class__" t]) _ _ _
  refine wpAny_call (codeAny_call_builtin PySem.F.excAttr_ValueError.ga.plain PySem.F.entry_bexc_ga ?_)
  refine @check_slot (model prog w) _ _ ⟨hp, g, d, t + 1, os⟩ "BaseException.__getattribute__" "BaseException" "__getattribute__" (.ref x) [.str "__class__" t] [] _ (by decide +kernel) (by decide +kernel) isE (PySem.F.args_bexc_ga (.ref x) (.str "__class__" t)) ?_
  unfold Builtin.«object.__getattribute__»
  refine wpAny_bind (wpAny_of_eq (a := ((Value.ref x : Value), [Value.str "__class__" t])) (by first | rfl | (simp only [slotArgs]; rfl)) ?_)
  refine wpAny_bind (wpAny_pure (wpAny_bind (t0.at (wpAny_bind (t3.at ?_)))))
  show wpAny _ _ (holding [Value.builtin "object.__class__"] (call (.builtin "getset_descriptor.__get__") [.builtin "object.__class__", .ref x, .ref D]) >>= ret) _ _ _
  refine wpAny_bind (wpAny_holding (wpAny_call (class_get (s := ⟨hp, g, d, t + 1, os⟩) (ox := ox) (od := od) X I C8 ?_)))
  refine wpAny_pure ?_
  show wpAny _ _ (handedOut (.ref D)) _ _ _
  rw [handedOut_of (v := .ref D) rfl]
  first
    | exact wpAny_pure (wpAny_pure h)
    | exact wpAny_pure h
    | exact wpAny_pure (wpAny_bind (wpAny_pure (wpAny_pure h)))
theorem kitD (C1 : findIn K (.ref D) "__getattribute__" = some (some (.builtin "BaseException.__getattribute__"))) (C2 : findIn K (.ref D) "__getattr__" = some none) (C3 : subIn K (.ref D) (.type "BaseException") = some true)
    (C4 : hasDictIn K D = true) (C5 : findIn K (.ref D) "__class__" = some (some (.builtin "object.__class__"))) (C6 : specialIn K (.builtin "object.__class__") "__get__" = some (some (.builtin "getset_descriptor.__get__"))) (C7 : takesIn K (.builtin "object.__class__") = some true) (C8 : mroIn K D (.type "object") = some true) :
    KitX K (.ref x) (.ref D) (fun h => InstAt h x ox D od) := by
  have isC : ∃ c d cd sl, K.lookup D = some ⟨c, d, .cls cd, sl⟩ := by
    obtain ⟨cd, hc, _⟩ := any_some C4
    unfold clsIn at hc
    split at hc
    · exact ⟨_, _, _, _, by assumption⟩
    · cases hc
  obtain ⟨c, d, cd, sl, ho⟩ := isC
  refine ⟨fun _ _ _ I => I.type, fun M h X _ => ?_, fun h tp dd its n sl' X htp => ?_, fun X I k => cls_of_exc C1 C2 C3 C4 C5 C6 C7 C8 X I k⟩
  · intro A' Q' E' s' k q
    unfold isType loadHead
    exact wpAny_bind (wpAny_loadPart (k _ _ (X _ _ ho)) (wpAny_pure q))
  · refine Bool.eq_false_iff.mpr fun q => ?_
    have e : D = tp := Value.ref.inj (beq_iff_eq.mp q)
    rw [← e, X _ _ ho] at htp
    cases htp
end
end PySem.W
namespace L2
open PySem PySem.Spec PyProof.Rows
/-- the fields of the error, where it has some -/
def XdAt (d : Option Addr) (H : Hp) : Prop := d = none ∨ ∃ (dd : Addr) (fs : List (Str × V)), d = some dd ∧ H dd = some (.xd fs)
def rIs1 (K : PySem.W.Frag) (D a : Addr) (d : Option Addr) : List V → Hp → VK → Prop := fun xs H Q => ∃ (c : V) (cv : Value) (b : Bool), xs = [.ref a, c] ∧ XdAt d H ∧ (∀ u, RelV c u → u = cv) ∧ PySem.W.kitOne K (.ref D) cv = some b ∧ Q (.bl b) H
def rIsN (K : PySem.W.Frag) (D a : Addr) (d : Option Addr) : List V → Hp → VK → Prop := fun xs H Q => ∃ (t : Addr) (cs : List V) (cvs : List Value) (b : Bool), xs = [.ref a, .ref t] ∧ XdAt d H ∧ SqT K H t cs ∧ (∀ us, Vals cs us → us = cvs) ∧ PySem.W.kitAny K (.ref D) cvs = some b ∧ Q (.bl b) H
section
variable {X : Cx} {a D : Addr} {oe : Obj} {d : Option Addr} {pn pins : List (Addr × Obj)} {σ : St} {H : Hp} {s : Shared}
theorem inst_suite (I : Inv (X.suite a ((a, oe) :: pn)) pins σ H s) (hz : Zc (.ref D) d oe) (hf : ∃ vs, oe.data = .fields vs) (hx : XdAt d H) : ∃ od, PySem.W.InstAt s.heap a oe D od := by
  obtain ⟨hget, _⟩ := I.pin (a, oe) (List.mem_append.mpr (.inl List.mem_cons_self))
  obtain ⟨vs, hv⟩ := hf
  rcases hx with rfl | ⟨dd, fs, rfl, ea⟩
  · exact ⟨none, hget, hz.1, by unfold PySem.W.notCls; rw [hv] <;> rfl, by rw [hz.2]; trivial⟩
  · have hx : ObjOk X.prog X.w H s.heap dd (.xd fs) := I.hok dd _ ea
    obtain ⟨mA, hns, _⟩ := hx
    obtain ⟨od, ho, _⟩ := lookIn_ns hns
    exact ⟨some od, hget, hz.1, by unfold PySem.W.notCls; rw [hv] <;> rfl, by rw [hz.2]; exact ho⟩
theorem call_is1 (C : ExcC X.K D) (hz : Zc (.ref D) d oe) (hf : ∃ vs, oe.data = .fields vs) : CallR (X.suite a ((a, oe) :: pn)) (.builtin "isinstance") (rIs1 X.K D a d) := by
  intro pins s σ H xs us Q I r h
  obtain ⟨c, cv, b, rfl, hx, hcv, e, q⟩ := h
  obtain ⟨u1, u2, rfl, rx, rt⟩ := vals2 r
  cases rx
  have ec := hcv _ rt
  subst ec
  obtain ⟨od, J⟩ := inst_suite I hz hf hx
  exact PySem.W.kia_one (PySem.W.kitD C.hg C.hk C.hs C.hd C.ha C.hn C.ht C.hm) I.kIn J e (fun z => nomatch z) fun tk => ⟨.bl b, H, I.kept (t' := tk) fun _ _ z => z, rfl, q⟩
theorem call_isN (C : ExcC X.K D) (hz : Zc (.ref D) d oe) (hf : ∃ vs, oe.data = .fields vs) : CallR (X.suite a ((a, oe) :: pn)) (.builtin "isinstance") (rIsN X.K D a d) := by
  intro pins s σ H xs us Q I r h
  obtain ⟨t, cs, cvs, b, rfl, hx, sq, hcv, e, q⟩ := h
  obtain ⟨u1, u2, rfl, rx, rt⟩ := vals2 r
  cases rx
  cases rt
  obtain ⟨od, J⟩ := inst_suite I hz hf hx
  obtain ⟨its, rv, ⟨o, ho, hc, n, hd⟩, _⟩ := I.tuple sq
  have ei := hcv _ rv
  subst ei
  obtain ⟨o1, o2, o3, o4⟩ := o
  dsimp only at hc hd
  subst hc hd
  exact PySem.W.kia_tup (PySem.W.kitD C.hg C.hk C.hs C.hd C.ha C.hn C.ht C.hm) I.kIn J ho e (fun z => nomatch z) fun tk => ⟨.bl b, H, I.kept (t' := tk) fun _ _ z => z, rfl, q⟩
end
end L2

set_option maxRecDepth 100000
set_option maxHeartbeats 8000000
namespace Lag
open PySem PySem.Spec PyProof.Rows L2
abbrev sNLinit : Stmt := inClass (topS 7 /- @NotLet -/) 0
/-! ### an exception with its own __init__, which calls that of LagError -/
section
variable {X : Cx} {e : Expr} {es : List Expr} {ta : TA} {p1 p2 pos : Pos}
theorem pe_leinit {x : Str} {C0 : Addr} {pl : Sem Bool} (hg : Gl X x) (hm : X.mg x = some (.ref C0)) (gA : PySem.W.specialIn X.K (.ref C0) "__getattribute__" = some (some (.builtin "type.__getattribute__"))) (tC : PySem.W.typeIn X.K (.ref C0) = some (.type "type")) (rC : PySem.W.readsIn X.K C0 (.type "type") = true)
    (vV : PySem.W.findCls X.K (.ref C0) (.type "type") "__init__" = some (.val (.builtin "ValueError.__init__"))) (ha : PA X (e :: es) ta) (hdb : (x == ("__debug__" : Str)) = false := by decide)
    (hc : eval (.Call (.Attribute (.Name x p1) "__init__" p2) (e :: es) [] pos) X.env = (do
      let ov ← eval (.Name x p1) X.env
      standAt p2.atName
      let (f, first) ← holding [ov] (getMethod ov "__init__" pl)
      callWith pos f first (backTo pos (starEach (e :: es) X.env)) (backToKw pos (keywordEach [] X.env))) := by rfl)
    (he : starEach (e :: es) X.env = (false, eval e X.env) :: starEach es X.env := by rfl) (hpl : (backTo pos (starEach es X.env)).any (·.1) = false := by rfl) :
    PE X (.Call (.Attribute (.Name x p1) "__init__" p2) (e :: es) [] pos) (tVeI X.K ta) := by
  refine ⟨fun pins s σ H Q I h => ?_⟩
  refine PySem.W.methodCall_KW (ld_glob I hg hm ?_ hdb) hc
  obtain ⟨m, fr⟩ := I.fr
  refine PySem.W.method_of_cls fr I.ok.mod.kin gA (PySem.W.cls_val fr I.ok.mod.kin tC rC vV (by decide +kernel) ?_)
  show wpAny _ _ (callWith pos (Value.builtin "ValueError.__init__") [] (backTo pos (starEach (e :: es) X.env)) []) _ _ _
  refine PyProof.Rows.callWith_method1 (thn (ha.run pos pins _ σ H _ (I.tok _) h) fun us s1 ⟨vs, H1, I1, r1, a, C, ws, ev, hl, T, ea, q⟩ => ?_) he hpl
  subst ev
  cases r1 with
  | @cons _ u0 _ ur ra rw' =>
    obtain rfl : u0 = Value.ref a := ra
    have hlen : ur.length ≤ sizeLine := by
      rw [← Paired.length rw', sizeLine_eq]
      omega
    exact oinit_ok T I1 ea hlen fun s' J => ⟨.non, H1, J, rfl, q⟩
end
/-- what the top tells of LagError -/
structure LEx (K : PySem.W.Frag) (mg : Str → Option Value) (C0 : Addr) : Prop where
  g : mg "LagError" = some (.ref C0)
  gA : PySem.W.specialIn K (.ref C0) "__getattribute__" = some (some (.builtin "type.__getattribute__"))
  tC : PySem.W.typeIn K (.ref C0) = some (.type "type")
  rC : PySem.W.readsIn K C0 (.type "type") = true
  vV : PySem.W.findCls K (.ref C0) (.type "type") "__init__" = some (.val (.builtin "ValueError.__init__"))
/-- .. and of a class under it with a field of its own -/
structure TEx (K : PySem.W.Frag) (mg : Str → Option Value) (x f : Str) (C fI : Addr) : Prop where
  g : mg x = some (.ref C)
  T : OexC K C
  iC : PySem.W.findIn K (.ref C) "__init__" = some (some (.ref fI))
  tI : PySem.W.typeIn K (.ref fI) = some (.type "function")
  no : PySem.W.findIn K (.ref C) f = some none
  xf : XfC K C
  te : PySem.W.exmOne K (.ref C) (.ref C) = some true
def spXI (f : Str) (C : Addr) : Sp := fun vs H Q _ => ∃ (a : Addr) (v : V), vs = [.ref a, v] ∧ H a = some (exo a C none) ∧ ∀ dx, H dx = none → dx ≠ a → Q .non (upd (upd H dx (exd dx [(f, v)])) a (exo a C (some dx)))
theorem mk_heap {H : Hp} {a d : Addr} {o1 o2 o3 o : HO} (ha : H a = none) (hd : d ≠ a) : upd (del (upd (upd (upd H a o1) d o2) a o3) a) d o = upd H d o := by
  funext b
  by_cases hb : b = d
  · rw [hb, upd_same, upd_same]
  · rw [upd_ne hb, upd_ne hb]
    by_cases hba : b = a
    · rw [hba, del_same, ha]
    · rw [del_ne hba, upd_ne hba, upd_ne hb, upd_ne hba]
theorem ints_inj {a b : List Int} (h : a.map V.int = b.map V.int) : a = b := by
  have := congrArg (List.map fun v : V => match v with | .int i => i | _ => 0) h
  rw [List.map_map, List.map_map] at this
  have e : ∀ l : List Int, List.map ((fun v : V => match v with | .int i => i | _ => 0) ∘ V.int) l = l := fun l => by
    induction l with
    | nil => rfl
    | cons x l ih => rw [List.map_cons, ih] <;> rfl
  rwa [e, e] at this

theorem fn_cx0 {P : Program} {w : World} {K : PySem.W.Frag} {mg : Str → Option Value} {base : Heap} {CX : CXT} {k : Nat} {f : Addr} {fd : FuncData} {ps : List Str} {sp : Sp} (F : FnOk P w K mg base CX0 k f fd ps sp) : FnOk P w K mg base CX k f fd ps sp :=
  ⟨F.len, fun A outer s H args us vs Q E hr he hb hv hs => codeAny_mono (F.run A outer s H args us vs Q E hr he hb hv hs) fun r s' h => by
    cases r with
    | error e => exact False.elim h
    | ok fl =>
      cases fl with
      | ret u => exact h
      | next => exact False.elim h
      | brk => exact False.elim h
      | cont => exact False.elim h⟩
theorem fn_or {P : Program} {w : World} {K : PySem.W.Frag} {mg : Str → Option Value} {base : Heap} {CX : CXT} {k : Nat} {f : Addr} {fd : FuncData} {ps : List Str} {sp sp' : Sp} (F : FnOk P w K mg base CX k f fd ps sp) (F' : FnOk P w K mg base CX k f fd ps sp') : FnOk P w K mg base CX k f fd ps (fun vs H Q E => sp vs H Q E ∨ sp' vs H Q E) :=
  ⟨fun vs H Q E h => h.elim (F.len vs H Q E) (F'.len vs H Q E), fun A outer s H args us vs Q E hr he hb hv hs => hs.elim (F.run A outer s H args us vs Q E hr he hb hv) (F'.run A outer s H args us vs Q E hr he hb hv)⟩
/-- the first of these that is below 0 -/
def FirstNeg (cs : List Int) (pl : Nat) : Prop := ∃ c, cs[pl]? = some c ∧ c < 0 ∧ ∀ (j : Nat) (c' : Int), j < pl → cs[j]? = some c' → 0 ≤ c'
/-- lags that are refused: no lags, or not let -/
def Refd (K : PySem.W.Frag) (C CL CN : Addr) (p : Addr) (v : V) (H : Hp) (E : XK) : Prop := ∃ (ng nw : Addr) (gs : List Gt) (ws : List Wr) (t : Option (List (Option Int))), NetAt K C H p ng nw gs ws ∧ NetOk gs ws ∧ LagsV K H gs v t ∧ (∀ os, t = some os → os.length ≤ 1000) ∧
  ((¬ GoodT gs t ∧ ∀ H', Same H H' → E (.ref CL) none H') ∨ ∃ ls : List Int, t = some (ls.map some) ∧ LagOk gs ls ∧ ¬ LetOk ws ls ∧ ∀ (pl : Nat) (d : Addr) (H' : Hp), FirstNeg (cntsL ws ls) pl → Same H H' → H' d = none → E (.ref CN) (some d) (upd H' d (.xd [(("wire" : Str), .int (pl : Nat))])))
theorem Refd.imp {K : PySem.W.Frag} {C CL CN p : Addr} {v : V} {H : Hp} {E E' : XK} (h : Refd K C CL CN p v H E) (i : ∀ cls d H', E cls d H' → E' cls d H') : Refd K C CL CN p v H E' := by
  obtain ⟨ng, nw, gs, ws, t, a, b, c, d, e⟩ := h
  refine ⟨ng, nw, gs, ws, t, a, b, c, d, ?_⟩
  rcases e with ⟨e1, e2⟩ | ⟨ls, e1, e2, e3, e4⟩
  · exact .inl ⟨e1, fun H' s => i _ _ _ (e2 H' s)⟩
  · exact .inr ⟨ls, e1, e2, e3, fun pl d H' f s n => i _ _ _ (e4 pl d H' f s n)⟩
def spRef2 (K : PySem.W.Frag) (C CL CN : Addr) : Sp := fun vs H Q E => ∃ (p : Addr) (v : V), vs = [.ref p, v] ∧ Refd K C CL CN p v H E
section
variable {P : Program} {w : World} {K : PySem.W.Frag} {mg : Str → Option Value} {base : Heap}
theorem scNLinit : FnScope ["self", "wire"] ["self", "wire"] (defScope sNLinit) := ⟨rfl, rfl, rfl, by decide +kernel, rfl, by decide +kernel, by decide +kernel⟩
theorem ok_nlInit {f C0 C fI : Addr} {fd : FuncData} (F : Fun K "__init__" "NotLet.__init__" sNLinit f fd) (L : LEx K mg C0) (TE : TEx K mg "NotLet" "wire" C fI) : FnOk P w K mg base CX0 1 f fd ["self", "wire"] (spXI "wire" C) := by
  refine F.ok scNLinit (fun vs H Q E h => ?_) (fun cdv A outer s H vs Q E hr h => ?_)
  · obtain ⟨a, v, rfl, _⟩ := h
    rfl
  · obtain ⟨a, v, rfl, ha, q⟩ := h
    refine ⟨_, pss_cons (ps_expr (pe_leinit (by rfl) L.g L.gA L.tC L.rC L.vV (pa_cons (pv 0) (pa_cons pe_str pa_nil)))) <| pss_one (ps_ost (pv 0) (pv 1)), ?_⟩
    exact ⟨_, rfl, a, C, _, rfl, (by show 1 ≤ 1000; decide), TE.T, ha, _, rfl, _, rfl, a, C, rfl, TE.T, TE.no, .inl ⟨ha, fun dx hdx ne => q dx hdx ne⟩⟩
theorem ok_letX {f fC C CL CN fN : Addr} {fd fdC fdN : FuncData} (F : Fun K "let_counts" "let_counts" sLetCounts f fd) (B : Bt mg) (DC : DCounts P w K mg base C fC fdC) (DCX : FnOk P w K mg base (L2.CX P w) 4 fC fdC ["net", "lags"] (spAskX K C CL)) (TE : TEx K mg "NotLet" "wire" CN fN) (nlI : FnOk P w K mg base CX0 1 fN fdN ["self", "wire"] (spXI "wire" CN)) (bT : Binds K fdN ["self", "wire"] []) : FnOk P w K mg base (L2.CX P w) 5 f fd ["net", "lags"] (spRef2 K C CL CN) := by
  refine F.okX scLetCounts (fun vs H Q E h => ?_) (fun cdv A outer s H vs Q E hr h => ?_)
  · obtain ⟨p, v, rfl, _⟩ := h
    rfl
  · obtain ⟨p, v, rfl, ng, nw, gs, ws, t, NA, N, hv, hbig, h⟩ := h
    have nd := scLetCounts.nd
    refine ⟨_, pss_cons (ps_set (i := 2) nd rfl (.inl rfl) (pe_callS (fn_or (fn_cx0 DC.ok) DCX) (hr.mono (by decide)) (by rfl) DC.mg DC.kp DC.bd (fun σ => passAt (takes_of rfl rfl rfl rfl) σ) (pa_cons (pv 0) (pa_cons (pv 1) pa_nil)))) <|
        pss_cons (ps_for (passes_of rfl) rfl (pi_enum (by rfl) B.enum (pa_cons (pv 2) pa_nil)) (pg_tup rfl (pgs_cons (pg_name (i := 3) nd rfl (.inl rfl)) (pgs_cons (pg_name (i := 4) nd rfl (.inl rfl)) pgs_nil))) (pss_one (ps_if (pt_cmpR op_lt (pv 4) pe_int (nomark _)) (pss_one ((ps_raise rfl (takes_of rfl rfl rfl rfl) (pmk_oex TE.T TE.iC TE.tI nlI (hr.mono (by decide)) bT .nil pass0 (by rfl) TE.g (pa_cons (pv 3) pa_nil))))) pss_nil))) <|
        pss_one (ps_ret (pv 2)), ?_⟩
    rcases h with ⟨bad, q⟩ | ⟨ls, rfl, lok, nlet, q⟩
    · exact ⟨_, rfl, _, rfl, .inr ⟨p, ng, nw, v, gs, ws, t, rfl, NA, N, hv, hbig, fun g => absurd g bad, fun _ H1 s1 => q H1 s1⟩⟩
    · obtain ⟨a, ls2, rfl, e, lok2⟩ := hv.good ⟨_, rfl, lok.good⟩
      have e2 : ls2 = ls := by
        cases hv with
        | @lst _ vs _ e3 al =>
          rw [e] at e3
          have e4 := odd_ints al
          rw [← Option.some.inj e3 |> HO.lst.inj] at e4
          exact ints_inj e4
      subst e2
      refine ⟨_, rfl, _, rfl, .inl ⟨p, ng, nw, a, gs, ws, ls2, rfl, NA, N, SqL.of e, lok2, fun l H1 s1 hl el => ?_⟩⟩
      refine ⟨_, rfl, l, _, rfl, SqL.of el, for_it (walk_enum (K := K) (a := l) (xs := (cntsL ws ls2).map V.int)) (fun i σ H2 => ∃ s3 s4 : Option V, σ = [some (.ref p), some (.ref a), some (.ref l), s3, s4] ∧ Same H1 H2 ∧ ∀ (j : Nat) (c' : Int), j < i → (cntsL ws ls2)[j]? = some c' → 0 ≤ c') ⟨_, _, rfl, Same.refl _, fun j c' h => absurd h (by omega)⟩ (fun i σ H2 _ ⟨_, _, _, sm, _⟩ => SqL.of (sm _ _ el)) ?_ ?_⟩
      · rintro i x σ H2 H2' hi ⟨s3, s4, rfl, sm, all⟩ ⟨T', x1, y, rfl, hT, rfl, ex, ey⟩
        cases ex
        obtain ⟨z, hz, rfl⟩ := int_atF ey
        refine ⟨T', _, rfl, .inl (.inl upd_same), rfl, _, _, rfl, _, _, rfl, rfl, ?_⟩
        refine ⟨_, rfl, _, _, rfl, rfl, _, rfl, ite2 (fun e => ?_) (fun e => ⟨_, _, rfl, sm.trans (same_new hT), fun j c' hj hc => ?_⟩)⟩
        · have hz0 : z < 0 := of_decide_eq_true e
          have sT := s1.trans (sm.trans (same_new (o := .tup [.int (i : Nat), .int z]) hT))
          refine ⟨_, rfl, (by show 1 ≤ 1000; decide), fun a ha => ⟨a, _, rfl, upd_same, fun dx hdx ne => ⟨rfl, dx, _, upd_same, by rw [upd_ne ne, upd_same], ?_, ?_⟩⟩⟩
          · rw [upd_ne ne] at hdx
            exact hdx
          · rw [mk_heap ha ne]
            refine q i dx _ ⟨z, hz, hz0, all⟩ sT ?_
            rw [upd_ne ne] at hdx
            exact hdx
        · by_cases hji : j = i
          · subst hji
            rw [hz] at hc
            cases hc
            have : ¬ (z < 0) := fun h => e (decide_eq_true h)
            omega
          · exact all j c' (by omega) hc
      · rintro σ H2 ⟨s3, s4, rfl, sm, all⟩
        exfalso
        refine nlet fun y hy => ?_
        obtain ⟨j, hj⟩ := List.getElem?_of_mem hy
        refine all j y ?_ hj
        rw [List.length_map]
        exact (List.getElem?_eq_some_iff.mp hj).1
end
end Lag

set_option maxRecDepth 100000
set_option maxHeartbeats 8000000
namespace Lag
open PySem PySem.Spec PyProof.Rows L2
abbrev sLTold : Stmt := topS 55 -- @_law_told
theorem LagsV.cases' {K : PySem.W.Frag} {H : Hp} {gs : List Gt} {v : V} {t : Option (List (Option Int))} (h : OdL H v t) : LagsV K H gs v t := h.lags
/-- lags that are refused, told by what they are -/
def RefO (K : PySem.W.Frag) (C CL CN : Addr) (p : Addr) (v : V) (H : Hp) (E : XK) : Prop := ∃ (ng nw : Addr) (gs : List Gt) (ws : List Wr) (t : Option (List (Option Int))), NetAt K C H p ng nw gs ws ∧ NetOk gs ws ∧ OdL H v t ∧ (∀ os, t = some os → os.length ≤ 1000) ∧
  ((¬ GoodT gs t ∧ ∀ H', Same H H' → E (.ref CL) none H') ∨ ∃ ls : List Int, t = some (ls.map some) ∧ LagOk gs ls ∧ ¬ LetOk ws ls ∧ ∀ (pl : Nat) (d : Addr) (H' : Hp), FirstNeg (cntsL ws ls) pl → Same H H' → H' d = none → E (.ref CN) (some d) (upd H' d (.xd [(("wire" : Str), .int (pl : Nat))])))
def spRefO (K : PySem.W.Frag) (C CL CN : Addr) : Sp := fun vs H Q E => ∃ (p : Addr) (v : V), vs = [.ref p, v] ∧ RefO K C CL CN p v H E
theorem RefO.ref {K : PySem.W.Frag} {C CL CN p : Addr} {v : V} {H H1 : Hp} {E : XK} (h : RefO K C CL CN p v H E) (s : Same H H1) : Refd K C CL CN p v H1 E := by
  obtain ⟨ng, nw, gs, ws, t, a, b, c, d, e⟩ := h
  refine ⟨ng, nw, gs, ws, t, a.same s, b, (c.same s).lags, d, ?_⟩
  rcases e with ⟨e1, e2⟩ | ⟨ls, e1, e2, e3, e4⟩
  · exact .inl ⟨e1, fun H' s' => e2 H' (s.trans s')⟩
  · exact .inr ⟨ls, e1, e2, e3, fun pl d H' f s' n => e4 pl d H' f (s.trans s') n⟩
def spSh2 (K : PySem.W.Frag) (C CL CN : Addr) : Sp := fun vs H Q E => spShared K C vs H Q E ∨ spRefO K C CL CN vs H Q E
theorem pss_or {X : Cx} {ss : List Stmt} {p p' : Prop} {t t' : TS} (h : p → PSs X ss t) (h' : p' → PSs X ss t') : PSs X ss (fun D σ H => (p ∧ (σ.length = X.N.length → t D σ H)) ∨ (p' ∧ (σ.length = X.N.length → t' D σ H))) := ⟨fun pins s σ H D I hh => hh.elim (fun hh => (h hh.1).run pins s σ H D I (hh.2 I.len)) (fun hh => (h' hh.1).run pins s σ H D I (hh.2 I.len))⟩
theorem vals_refs : ∀ (l : List Addr) (us : List Value), Vals (l.map V.ref) us → us = l.map Value.ref
  | [], us, r => by
    cases r
    rfl
  | a :: l, us, r => by
    cases r with
    | cons r1 r2 =>
      cases r1
      rw [vals_refs l _ r2]
      rfl
/-- the classes that _law_told asks for -/
structure TldC (K : PySem.W.Frag) (mg : Str → Option Value) (C0 CL CN CB CT CP fN : Addr) : Prop where
  g0 : mg "LagError" = some (.ref C0)
  gL : mg "NoLags" = some (.ref CL)
  gB : mg "NoBeat" = some (.ref CB)
  gT : mg "NoLagsThere" = some (.ref CT)
  gP : mg "NoPaper" = some (.ref CP)
  TN : TEx K mg "NotLet" "wire" CN fN
  mI : mg "isinstance" = none
  eL0 : PySem.W.exmOne K (.ref CL) (.ref C0) = some true
  eN0 : PySem.W.exmOne K (.ref CN) (.ref C0) = some true
  kNN : PySem.W.kitOne K (.ref CN) (.ref CN) = some true
  kNL : PySem.W.kitOne K (.ref CN) (.ref CL) = some false
  kLN : PySem.W.kitOne K (.ref CL) (.ref CN) = some false
  kLL : PySem.W.kitOne K (.ref CL) (.ref CL) = some true
  aN : PySem.W.kitAny K (.ref CN) [.ref CB, .ref CT, .ref CP] = some false
  aL : PySem.W.kitAny K (.ref CL) [.ref CB, .ref CT, .ref CP] = some false
  xN : ExcC K CN
  xL : ExcC K CL
def spLTold (K : PySem.W.Frag) (C : Addr) : Sp := fun vs H Q _ => ∃ (p : Addr) (v : V) (ng nw : Addr) (gs : List Gt) (ws : List Wr) (t : Option (List (Option Int))), vs = [.ref p, v] ∧ NetAt K C H p ng nw gs ws ∧ NetOk gs ws ∧ OdL H v t ∧ (∀ os, t = some os → os.length ≤ 1000) ∧
  (¬ GoodT gs t → ∀ H', Same H H' → Q (.str "lags") H') ∧
  (∀ ls : List Int, t = some (ls.map some) → LagOk gs ls → ¬ LetOk ws ls → ∀ (pl : Nat) (tt : Addr) (H' : Hp), FirstNeg (cntsL ws ls) pl → Same H H' → H' tt = some (.tup [.str "let", .int (pl : Nat)]) → Q (.ref tt) H') ∧
  (∀ ls : List Int, t = some (ls.map some) → LagOk gs ls → LetOk ws ls → ∀ H', Same H H' → Q (.int (sharedF gs.length ws (lagF ls))) H')
section
variable {P : Program} {w : World} {K : PySem.W.Frag} {mg : Str → Option Value} {base : Heap}
theorem ok_sharedX {f fC C CL CN : Addr} {fd fdC : FuncData} (F : Fun K "shared" "shared" sShared f fd) (B : Bt mg) (T : NT K mg C) (DLc : DLetCounts P w K mg base C fC fdC) (DLX : FnOk P w K mg base (L2.CX P w) 5 fC fdC ["net", "lags"] (spRef2 K C CL CN)) : FnOk P w K mg base (L2.CX P w) 6 f fd ["net", "lags"] (spRefO K C CL CN) := by
  refine F.okX scShared (fun vs H Q E h => ?_) (fun cdv A outer s H vs Q E hr h => ?_)
  · obtain ⟨p, v, rfl, _⟩ := h
    rfl
  · obtain ⟨p, v, rfl, h⟩ := h
    have nd := scShared.nd
    refine ⟨_, pss_cons (ps_set (i := 2) nd rfl (.inl rfl) pe_dnewK) <|
        pss_cons (ps_for (passes_of rfl) rfl (pi_zip (by rfl) B.zip (pa_cons (pe_fld (pv 0) rfl) (pa_cons (pe_callS DLX (hr.mono (by decide)) (by rfl) DLc.mg DLc.kp DLc.bd (fun σ => passAt (takes_of rfl rfl rfl rfl) σ) (pa_cons (pv 0) (pa_cons (pv 1) pa_nil))) pa_nil))) (pg_tup rfl (pgs_cons (pg_tup rfl (pgs_cons (pg_name (i := 3) nd rfl (.inl rfl)) (pgs_cons (pg_name (i := 4) nd rfl (.inl rfl)) (pgs_cons (pg_name (i := 5) nd rfl (.inl rfl)) pgs_nil)))) (pgs_cons (pg_name (i := 6) nd rfl (.inl rfl)) pgs_nil))) (pss_one ps_never)) <|
        pss_one ps_never, ?_⟩
    obtain ⟨ng, nw, gs, ws, t, NA, _⟩ := id h
    obtain ⟨dx, ob⟩ := id NA.ob
    refine fun dd hdd => ?_
    have s1 : Same H (upd H dd (.dK [])) := same_new hdd
    obtain ⟨H1, hH1⟩ : ∃ H1, H1 = upd H dd (.dK []) := ⟨_, rfl⟩
    rw [← hH1] at s1
    refine gn_normH (σ' := [some (.ref p), some v, some (.ref dd), none, none, none, none]) (H' := H1) rfl hH1.symm ?_
    exact ⟨_, rfl, p, C, dx, _, _, rfl, s1 _ _ ob, T.cl, T.nW, nf_wires _ _, _, rfl, _, rfl, p, v, rfl, h.ref s1⟩
abbrev nLTold : List Str := ["_law_net", "_law_shifts_here", "_law_found", "e"]
theorem scLTold : FnScope nLTold ["_law_net", "_law_shifts_here"] (defScope sLTold) := ⟨rfl, rfl, rfl, by decide +kernel, rfl, by decide +kernel, by decide +kernel⟩
abbrev DLTold (P : Program) (w : World) (K : PySem.W.Frag) (mg : Str → Option Value) (base : Heap) (C : Addr) := Df P w K mg base 7 "_law_told" ["_law_net", "_law_shifts_here"] (spLTold K C)
theorem ok_ltold {f fS C C0 CL CN CB CT CP fN : Addr} {fd fdS : FuncData} (F : Fun K "_law_told" "_law_told" sLTold f fd) (hm : mg "_law_told" = some (.ref f)) (R : TldC K mg C0 CL CN CB CT CP fN) (DSh : DShared P w K mg base C fS fdS) (DX : FnOk P w K mg base (L2.CX P w) 6 fS fdS ["net", "lags"] (spSh2 K C CL CN)) : DLTold P w K mg base C f fd := by
  refine ⟨?_, hm, F.kp, F.binds fun _ _ _ _ _ _ us hl => match us, hl with | [_, _], _ => rfl⟩
  refine F.ok scLTold (fun vs H Q E h => ?_) (fun cdv A outer s H vs Q E hr h => ?_)
  · obtain ⟨p, v, ng, nw, gs, ws, t, rfl, _⟩ := h
    rfl
  · obtain ⟨p, v, ng, nw, gs, ws, t, rfl, NA, N, od, hbig, q1, q2, q3⟩ := h
    have nd := scLTold.nd
    refine ⟨_, pss_cons (ps_try_cls (tb := fun W => tAsg (tCallS (spSh2 K C CL CN) (WE W) (tCons (tVar 0) (tCons (tVar 1) tNil))) (gName 2)) (Wo := fun _ _ _ _ => False)
        (l := [⟨.ref C0, some 3, fun a cls d D σ H => (cls = .ref CN ∧ (σ.length = 4 → tSeq (tAsg (tC (.str "other")) (gName 2)) (tSeq (tIfS (tB (tCB (rIs1 K CN a d) (tCons (tVar 3) (tCons (tC (.ref CN)) tNil)))) (tAsg (tTup (tCons (tC (.str "let")) (tCons (tXf a (.ref CN) d CN "wire" (tVar 3)) tNil))) (gName 2)) tNext) (tSeq (tIfS (tB (tCB (rIs1 K CN a d) (tCons (tVar 3) (tCons (tC (.ref CL)) tNil)))) (tAsg (tC (.str "lags")) (gName 2)) tNext) (tIfS (tB (tCB (rIsN K CN a d) (tCons (tVar 3) (tCons (tTup (tCons (tC (.ref CB)) (tCons (tC (.ref CT)) (tCons (tC (.ref CP)) tNil)))) tNil)))) (tAsg (tC (.str "other")) (gName 2)) tNext))) D σ H)) ∨ ((cls = .ref CL ∧ d = none) ∧ (σ.length = 4 → tSeq (tAsg (tC (.str "other")) (gName 2)) (tSeq (tIfS (tB (tCB (rIs1 K CL a none) (tCons (tVar 3) (tCons (tC (.ref CN)) tNil)))) tNever tNext) (tSeq (tIfS (tB (tCB (rIs1 K CL a none) (tCons (tVar 3) (tCons (tC (.ref CL)) tNil)))) (tAsg (tC (.str "lags")) (gName 2)) tNext) (tIfS (tB (tCB (rIsN K CL a none) (tCons (tVar 3) (tCons (tTup (tCons (tC (.ref CB)) (tCons (tC (.ref CT)) (tCons (tC (.ref CP)) tNil)))) tNil)))) (tAsg (tC (.str "other")) (gName 2)) tNext))) D σ H))⟩])
        rfl rfl nd takes0 (fun W pn xe tk _ => pss_one (ps_set (i := 2) nd rfl (.inl rfl) (pe_callS DX (hr.mono (by decide)) (by rfl) DSh.mg DSh.kp DSh.bd (fun σ => passAt tk σ) (pa_cons (pv 0) (pa_cons (pv 1) pa_nil)))))
        (ClsOk.named rfl rfl ⟨rfl, by decide, .inl R.g0⟩ (fun a oe cls d pn hz hf => pss_or (fun e1 => by
          subst e1
          exact pss_cons (ps_set (i := 2) nd rfl (.inl rfl) pe_str) <| pss_cons (ps_if (pt_val (pe_callB (call_is1 R.xN hz hf) (by rfl) R.mI (by decide +kernel) (pa_cons (pv 3) (pa_cons (pe_glob (v := .ref CN) (by rfl) R.TN.g rfl) pa_nil)))) (pss_one (ps_set (i := 2) nd rfl (.inl rfl) (pe_tup (pa_cons pe_str (pa_cons (pe_xf R.TN.xf R.TN.no hz hf (pv 3)) pa_nil))))) pss_nil) <| pss_cons (ps_if (pt_val (pe_callB (call_is1 R.xN hz hf) (by rfl) R.mI (by decide +kernel) (pa_cons (pv 3) (pa_cons (pe_glob (v := .ref CL) (by rfl) R.gL rfl) pa_nil)))) (pss_one (ps_set (i := 2) nd rfl (.inl rfl) pe_str)) pss_nil) <| pss_one (ps_if (pt_val (pe_callB (call_isN R.xN hz hf) (by rfl) R.mI (by decide +kernel) (pa_cons (pv 3) (pa_cons (pe_tup (pa_cons (pe_glob (v := .ref CB) (by rfl) R.gB rfl) (pa_cons (pe_glob (v := .ref CT) (by rfl) R.gT rfl) (pa_cons (pe_glob (v := .ref CP) (by rfl) R.gP rfl) pa_nil)))) pa_nil)))) (pss_one (ps_set (i := 2) nd rfl (.inl rfl) pe_str)) pss_nil)) (fun ⟨e1, e2⟩ => by
          subst e1 e2
          exact pss_cons (ps_set (i := 2) nd rfl (.inl rfl) pe_str) <| pss_cons (ps_if (pt_val (pe_callB (call_is1 R.xL hz hf) (by rfl) R.mI (by decide +kernel) (pa_cons (pv 3) (pa_cons (pe_glob (v := .ref CN) (by rfl) R.TN.g rfl) pa_nil)))) (pss_one (ps_never)) pss_nil) <| pss_cons (ps_if (pt_val (pe_callB (call_is1 R.xL hz hf) (by rfl) R.mI (by decide +kernel) (pa_cons (pv 3) (pa_cons (pe_glob (v := .ref CL) (by rfl) R.gL rfl) pa_nil)))) (pss_one (ps_set (i := 2) nd rfl (.inl rfl) pe_str)) pss_nil) <| pss_one (ps_if (pt_val (pe_callB (call_isN R.xL hz hf) (by rfl) R.mI (by decide +kernel) (pa_cons (pv 3) (pa_cons (pe_tup (pa_cons (pe_glob (v := .ref CB) (by rfl) R.gB rfl) (pa_cons (pe_glob (v := .ref CT) (by rfl) R.gT rfl) (pa_cons (pe_glob (v := .ref CP) (by rfl) R.gP rfl) pa_nil)))) pa_nil)))) (pss_one (ps_set (i := 2) nd rfl (.inl rfl) pe_str)) pss_nil))) .nil)) <|
      pss_one (ps_ret (pv 2)), ?_⟩
    by_cases gd : GoodT gs t
    · obtain ⟨os, et, g⟩ := id gd
      obtain ⟨ls, eo, lok⟩ := g.ints
      subst eo
      subst et
      by_cases lt : LetOk ws ls
      · obtain ⟨a, ls', ev, ea, _⟩ := (od.lags (K := K) (gs := gs)).good gd
        subst ev
        have e2 : ls' = ls := by
          cases od with
          | lst e3 al =>
            rw [ea] at e3
            have e4 := odd_ints al
            rw [← Option.some.inj e3 |> HO.lst.inj] at e4
            exact ints_inj e4
        subst e2
        refine ⟨_, rfl, _, rfl, .inl ⟨p, ng, nw, a, gs, ws, ls', rfl, NA, N, SqL.of ea, lok, lt, fun H1 s1 => ?_⟩⟩
        exact ⟨_, rfl, q3 ls' rfl lok lt H1 s1⟩
      · refine ⟨_, rfl, _, rfl, .inr ⟨p, v, rfl, ng, nw, gs, ws, _, NA, N, od, hbig, .inr ⟨ls, rfl, lok, lt, fun pl d H' fn s hd => ?_⟩⟩⟩
        refine ⟨true, R.eN0, fun _ a ha => .inl ⟨rfl, fun _ => ?_⟩, fun z => by cases z⟩
        have s' : Same H (upd H' d (.xd [(("wire" : Str), .int (pl : Nat))])) := s.trans (same_new hd)
        have ex : (upd H' d (.xd [(("wire" : Str), .int (pl : Nat))])) d = some (.xd [(("wire" : Str), .int (pl : Nat))]) := upd_same
        generalize upd H' d (.xd [(("wire" : Str), .int (pl : Nat))]) = H2 at s' ex
        have xd : ∀ {Hz : Hp}, Same H2 Hz → XdAt (some d) Hz := fun sz => .inr ⟨_, _, rfl, sz _ _ ex⟩
        refine ⟨_, rfl, .ref CN, .ref CN, true, rfl, xd (Same.refl _), (fun u hu => hu), R.kNN, true, rfl, iteT ?_⟩
        refine ⟨_, rfl, rfl, rfl, d, _, .int (pl : Nat), rfl, ex, rfl, (by show 2 ≤ sizeLine; decide), fun t1 ht1 => ?_⟩
        have s3 : Same H2 (upd H2 t1 (.tup [.str "let", .int (pl : Nat)])) := same_new ht1
        have e3 : (upd H2 t1 (.tup [.str "let", .int (pl : Nat)])) t1 = some (.tup [.str "let", .int (pl : Nat)]) := upd_same
        generalize upd H2 t1 (.tup [.str "let", .int (pl : Nat)]) = H3 at s3 e3
        refine ⟨_, rfl, .ref CL, .ref CL, false, rfl, xd s3, (fun u hu => hu), R.kNL, false, rfl, iteF ?_⟩
        refine ⟨_, rfl, (by show 3 ≤ sizeLine; decide), fun t2 ht2 => ?_⟩
        have s4 := same_new (o := .tup [.ref CB, .ref CT, .ref CP]) ht2
        refine ⟨t2, _, _, false, rfl, xd (s3.trans s4), SqT.of upd_same, vals_refs [CB, CT, CP], R.aN, false, rfl, iteF ?_⟩
        exact ⟨_, rfl, q2 ls rfl lok lt pl t1 _ fn (s'.trans (s3.trans s4)) (s4 _ _ e3)⟩
    · refine ⟨_, rfl, _, rfl, .inr ⟨p, v, rfl, ng, nw, gs, ws, t, NA, N, od, hbig, .inl ⟨gd, fun H' s => ?_⟩⟩⟩
      refine ⟨true, R.eL0, fun _ a ha => .inr ⟨⟨rfl, rfl⟩, fun _ => ?_⟩, fun z => by cases z⟩
      refine ⟨_, rfl, .ref CN, .ref CN, false, rfl, .inl rfl, (fun u hu => hu), R.kLN, false, rfl, iteF ?_⟩
      refine ⟨_, rfl, .ref CL, .ref CL, true, rfl, .inl rfl, (fun u hu => hu), R.kLL, true, rfl, iteT ?_⟩
      refine ⟨_, rfl, (by show 3 ≤ sizeLine; decide), fun t2 ht2 => ?_⟩
      have s4 := same_new (o := .tup [.ref CB, .ref CT, .ref CP]) ht2
      refine ⟨t2, _, _, false, rfl, .inl rfl, SqT.of upd_same, vals_refs [CB, CT, CP], R.aL, false, rfl, iteF ?_⟩
      exact ⟨_, rfl, q1 gd _ (s.trans s4)⟩
end
end Lag

set_option maxRecDepth 100000
set_option maxHeartbeats 8000000
namespace Lag
open PySem PySem.Spec PyProof.Rows L2
abbrev sLaw : Stmt := topS 56 -- @law
theorem mem_cutK {xs : List V} {lo hi : Option Int} {v : V} (h : v ∈ cutV xs lo hi) : v ∈ xs := by
  unfold cutV at h
  exact List.mem_of_mem_drop (List.mem_of_mem_take h)
theorem NetAt.drW {K : PySem.W.Frag} {C wl p ng nw : Addr} {H H' : Hp} {gs : List Gt} {ws : List Wr} (n : NetAt K C H p ng nw gs ws) (W : WellAt wl H) (n3 : p ≠ wl) (n4 : ng ≠ wl) (n5 : nw ≠ wl) (d : Dr wl H H') : NetAt K C H' p ng nw gs ws := by
  obtain ⟨dx, h⟩ := n.ob
  exact ⟨⟨dx, d.but _ _ n3 h⟩, n.g.dr n4 W d, n.w.dr n5 W d, n.ne⟩
theorem mx0_nn (l : List Int) : 0 ≤ mx0 l := by
  induction l with
  | nil => exact Int.le_refl 0
  | cons a l ih =>
    unfold mx0
    split <;> omega
theorem shr_nn (n : Nat) (ws : List Wr) (L : Nat → Int) : 0 ≤ sharedF n ws L := by
  unfold sharedF
  generalize givL n ws = l
  induction l with
  | nil => exact Int.le_refl 0
  | cons g l ih =>
    rw [List.map_cons, List.sum_cons]
    have := mx0_nn (outC ws L g)
    omega
theorem ind_le {c : Int} (hc : 0 ≤ c) (k : Nat) : ∀ {l : List Nat}, l.Nodup → 0 ≤ (l.map fun g => if k = g then c else 0).sum ∧ (l.map fun g => if k = g then c else 0).sum ≤ c ∧ (k ∉ l → (l.map fun g => if k = g then c else 0).sum = 0)
  | [], _ => ⟨Int.le_refl 0, hc, fun _ => rfl⟩
  | g :: l, h => by
    obtain ⟨h1, h2⟩ := List.nodup_cons.mp h
    obtain ⟨k1, k2, k3⟩ := ind_le hc k h2
    rw [List.map_cons, List.sum_cons]
    by_cases e : k = g
    · rw [if_pos e]
      have := k3 (by rw [e]; exact h1)
      exact ⟨by omega, by omega, fun z => absurd (by rw [e]; exact List.mem_cons_self ..) z⟩
    · rw [if_neg e]
      exact ⟨by omega, by omega, fun z => by have := k3 fun y => z (List.mem_cons_of_mem _ y); omega⟩
theorem shr_le_cnt {ws : List Wr} {L : Nat → Int} (n : Nat) (h : ∀ x ∈ ws, 0 ≤ cntW L x) : sharedF n ws L ≤ (ws.map (cntW L)).sum := by
  unfold sharedF
  have nd := givL_nd n ws
  generalize givL n ws = l at nd
  induction ws with
  | nil =>
    have : ∀ l : List Nat, (l.map fun g => mx0 (outC [] L g)).sum = 0 := fun l => by
      induction l with
      | nil => rfl
      | cons g l ih =>
        rw [List.map_cons, List.sum_cons, ih]
        rfl
    rw [this]
    exact Int.le_refl 0
  | cons x r ih =>
    have ihx := ih fun y hy => h y (List.mem_cons_of_mem _ hy)
    clear ih
    have hc := h x (List.mem_cons_self ..)
    have h1 : (l.map fun g => mx0 (outC (x :: r) L g)).sum ≤ (l.map fun g => mx0 (outC r L g)).sum + (l.map fun g => if x.1 = g then cntW L x else 0).sum := by
      clear ihx nd
      induction l with
      | nil => exact Int.le_refl 0
      | cons g l ih2 =>
        simp only [List.map_cons, List.sum_cons]
        have h2 : mx0 (outC (x :: r) L g) ≤ mx0 (outC r L g) + if x.1 = g then cntW L x else 0 := by
          unfold outC
          by_cases e : x.1 = g
          · rw [if_pos e, List.filter_cons_of_pos (p := fun y : Wr => y.1 == g) (beq_iff_eq.mpr e), List.map_cons]
            have h3 := mx0_nn ((r.filter fun x => x.1 == g).map (cntW L))
            show (if cntW L x < mx0 _ then mx0 _ else cntW L x) ≤ _
            split <;> omega
          · rw [if_neg e, List.filter_cons_of_neg (p := fun y : Wr => y.1 == g) (fun z => e (beq_iff_eq.mp z))]
            omega
        omega
    have h2 := (ind_le hc x.1 nd).2.1
    rw [List.map_cons, List.sum_cons]
    omega
def negL (cs : List Int) (n : Nat) : List Nat := (List.range n).filter fun p => decide (cs.getD p 0 < 0)
theorem negL_succ (cs : List Int) (n : Nat) : negL cs (n + 1) = negL cs n ++ if cs.getD n 0 < 0 then [n] else [] := by
  unfold negL
  rw [List.range_succ, List.filter_append]
  congr 1
  by_cases e : cs.getD n 0 < 0
  · rw [if_pos e, List.filter_cons_of_pos (by rw [decide_eq_true_iff]; exact e)]
    rfl
  · rw [if_neg e, List.filter_cons_of_neg (by rw [decide_eq_true_iff]; exact e)]
    rfl
theorem negL_len (cs : List Int) (n : Nat) : (negL cs n).length ≤ n := by
  have := List.length_filter_le (fun p => decide (cs.getD p 0 < 0)) (List.range n)
  rw [List.length_range] at this
  exact this
theorem neg_nil {cs : List Int} (h : negL cs cs.length = []) : ∀ y ∈ cs, 0 ≤ y := fun y hy => by
  obtain ⟨i, hi⟩ := List.getElem?_of_mem hy
  have hl := (List.getElem?_eq_some_iff.mp hi).1
  have := List.filter_eq_nil_iff.mp h i (List.mem_range.mpr hl)
  rw [decide_eq_true_iff, List.getD_eq_getElem?_getD, hi] at this
  have this : ¬ y < 0 := this
  omega
theorem neg_ok {cs : List Int} (h : ∀ y ∈ cs, 0 ≤ y) : negL cs cs.length = [] := by
  refine List.filter_eq_nil_iff.mpr fun i hi => ?_
  have hl := List.mem_range.mp hi
  rw [decide_eq_true_iff, List.getD_eq_getElem?_getD, List.getElem?_eq_getElem hl]
  have := h _ (List.getElem_mem hl)
  show ¬ cs[i] < 0
  omega
theorem neg_first {cs : List Int} {pl : Nat} (h : FirstNeg cs pl) : (negL cs cs.length)[0]? = some pl := by
  obtain ⟨c, hc, h0, hj⟩ := h
  have key : ∀ n, n ≤ cs.length → (n ≤ pl → negL cs n = []) ∧ (pl < n → (negL cs n)[0]? = some pl) := by
    intro n
    induction n with
    | zero => exact fun _ => ⟨fun _ => rfl, fun z => absurd z (Nat.not_lt_zero _)⟩
    | succ n ih =>
      intro hn
      obtain ⟨k1, k2⟩ := ih (by omega)
      rw [negL_succ]
      refine ⟨fun hle => ?_, fun hlt => ?_⟩
      · rw [k1 (by omega)]
        have hx : cs[n]? = some cs[n] := List.getElem?_eq_getElem (by omega)
        have := hj n cs[n] (by omega) hx
        rw [if_neg (by rw [List.getD_eq_getElem?_getD, hx]; show ¬ cs[n] < 0; omega)]
        rfl
      · by_cases e : pl < n
        · have := k2 e
          rw [List.getElem?_append_left (by have := (List.getElem?_eq_some_iff.mp this).1; exact this)]
          exact this
        · have e2 : n = pl := by omega
          subst e2
          rw [k1 (Nat.le_refl _), if_pos (by rw [List.getD_eq_getElem?_getD, hc]; exact h0)]
          rfl
  exact (key _ (Nat.le_refl _)).2 (List.getElem?_eq_some_iff.mp hc).1
/-- what is due, by what the lags are -/
def DueD (gs : List Gt) (ws : List Wr) (t : Option (List (Option Int))) (d : PyData) : Prop := (¬ GoodT gs t → d = .str "lags") ∧ (∀ ls : List Int, t = some (ls.map some) → LagOk gs ls → LetOk ws ls → d = .int (sharedF gs.length ws (lagF ls))) ∧ ∀ ls : List Int, t = some (ls.map some) → LagOk gs ls → ¬ LetOk ws ls → ∀ pl : Nat, FirstNeg (cntsL ws ls) pl → d = .tuple [.str "let", .int (pl : Nat)]
theorem let_eqv (pl : Nat) : PyData.eqv (.tuple [.str "let", .int (pl : Nat)]) (.tuple [.str "let", .int (pl : Nat)]) = true := by
  show (PyData.eqv (.str "let") (.str "let") && (PyData.eqv (.int (pl : Nat)) (.int (pl : Nat)) && true)) = true
  rw [intD_eq, decide_eq_true rfl]
  rfl
theorem dpd_let {K : PySem.W.Frag} {H H' : Hp} {v : V} {x : Str} {i : Int} (s : Same H H') (h : Dp K H v (.tuple [.str x, .int i])) : Dp K H' v (.tuple [.str x, .int i]) := by
  cases h with
  | tup sq al =>
    cases al with
    | cons d1 al =>
      cases d1
      cases al with
      | cons d2 al =>
        cases d2
        cases al
        exact .tup ((TK.same s).seq sq) (.cons (.str _) (.cons (.int _) .nil))
theorem let_sh (pl : Nat) : Sh 2 (.tuple [.str "let", .int (pl : Nat)]) := sh_tuple fun d hd => by
  simp only [List.mem_cons, List.not_mem_nil, or_false] at hd
  rcases hd with rfl | rfl
  · exact ⟨by decide +kernel, Nat.zero_le _⟩
  · exact sh_int _
def spLaw (K : PySem.W.Frag) : Sp := fun vs H Q _ => ∃ (a : Addr) (ns : List Int), vs = [.ref a] ∧ SqL K H a (ns.map V.int) ∧ ns.length ≤ 63 ∧ ∀ H', Q (.bl true) H'
section
variable {P : Program} {w : World} {K : PySem.W.Frag} {mg : Str → Option Value} {base : Heap}
abbrev nLaw : List Str := ["_law_script", "_law_cell", "_law_well_here", "_law_gates_here", "_law_wires_here", "_law_net", "_law_shifts_here", "_law_due", "_law_k", "_law_other", "_law_good", "_law_many", "_law_place", "_law_low"]
theorem scLaw : FnScope nLaw ["_law_script"] (defScope sLaw) := ⟨rfl, rfl, rfl, by decide +kernel, rfl, by decide +kernel, by decide +kernel⟩
theorem ok_law {f fWl fP fI fSi fC fSh fTo fPc fOd C : Addr} {fd fdWl fdP fdI fdSi fdC fdSh fdTo fdPc fdOd : FuncData} (F : Fun K "law" "law" sLaw f fd) (B : Bt mg) (T : NT K mg C) (ms : mg "sum" = none) (DWl : DWell P w K mg base fWl fdWl) (DP : DLParts P w K mg base fP fdP)
    (MK : Mk K C fI) (init : FnOk P w K mg base CX0 6 fI fdI ["self", "gates", "wires"] (spInit K C)) (bI : Binds K fdI ["self", "gates", "wires"] []) (DSi : DLShifts P w K mg base fSi fdSi) (DCn : DLCounts P w K mg base fC fdC) (DSh : DLShared P w K mg base fSh fdSh) (DTo : DLTold P w K mg base C fTo fdTo) (DPc : DCounts P w K mg base C fPc fdPc) (DOd : DLOdd P w K mg base fOd fdOd) :
    FnOk P w K mg base CX0 14 f fd ["_law_script"] (spLaw K) := by
  refine F.ok scLaw (fun vs H Q E h => ?_) (fun cdv A outer s H vs Q E hr h => ?_)
  · obtain ⟨a, ns, rfl, _⟩ := h
    rfl
  · obtain ⟨a, ns, rfl, hS, hlen, q⟩ := h
    have nd := scLaw.nd
    refine ⟨_, pss_cons (ps_for PassesOwn.never rfl (pi_list (pe_op op_cat (pe_lst (pa_cons pe_int (pa_cons pe_int pa_nil))) (pe_slice sl_list (pv 0) po_none (po_some pe_int)))) (pg_name (i := 1) nd rfl (.inl rfl)) (pss_cons (ps_set (i := 2) nd rfl (.inl rfl) (pe_call DWl.ok (hr.mono (by decide)) (by rfl) DWl.mg DWl.kp DWl.bd .nil pass0 (pa_cons (pv 1) pa_nil))) <|
        pss_cons (ps_asg (pe_call DP.ok (hr.mono (by decide)) (by rfl) DP.mg DP.kp DP.bd .nil pass0 (pa_cons (pv 2) pa_nil)) (pg_tup rfl (pgs_cons (pg_name (i := 3) nd rfl (.inl rfl)) (pgs_cons (pg_name (i := 4) nd rfl (.inl rfl)) pgs_nil)))) <|
        pss_cons (ps_set (i := 5) nd rfl (.inl rfl) (pe_make MK init (hr.mono (by decide)) (by rfl) T.mg bI .nil pass0 (pa_cons (pe_callTy call_list_of (by rfl) B.list (by decide +kernel) (pa_cons (pv 3) pa_nil)) (pa_cons (pe_callTy call_list_of (by rfl) B.list (by decide +kernel) (pa_cons (pv 4) pa_nil)) pa_nil)))) <|
        pss_cons (ps_set (i := 6) nd rfl (.inl rfl) (pe_call DSi.ok (hr.mono (by decide)) (by rfl) DSi.mg DSi.kp DSi.bd .nil pass0 (pa_cons (pv 2) (pa_cons (pv 3) (pa_cons (pv 4) pa_nil))))) <|
        pss_cons (ps_set (i := 7) nd rfl (.inl rfl) (pe_call DSh.ok (hr.mono (by decide)) (by rfl) DSh.mg DSh.kp DSh.bd .nil pass0 (pa_cons (pv 4) (pa_cons (pe_call DCn.ok (hr.mono (by decide)) (by rfl) DCn.mg DCn.kp DCn.bd .nil pass0 (pa_cons (pv 4) (pa_cons (pv 6) pa_nil))) pa_nil)))) <|
        pss_cons (ps_if (PW.pt (pw_or (pt_cmpR (op_neD hr.units) (pe_call DTo.ok (hr.mono (by decide)) (by rfl) DTo.mg DTo.kp DTo.bd .nil pass0 (pa_cons (pv 5) (pa_cons (pv 6) pa_nil))) (pv 7) (nomark _)) (pw_or1 (pt_cmpR op_gt (pv 7) (pe_callB (cr_sum rfl) (by rfl) ms (by decide +kernel) (pa_cons (pe_call DPc.ok (hr.mono (by decide)) (by rfl) DPc.mg DPc.kp DPc.bd .nil pass0 (pa_cons (pv 5) (pa_cons (pv 6) pa_nil))) pa_nil)) (nomark _))))) (pss_one (ps_ret pe_bl)) pss_nil) <|
        pss_one (ps_for PassesOwn.never rfl (pi_range1 (by rfl) B.range (pa_cons pe_int pa_nil)) (pg_name (i := 8) nd rfl (.inl rfl)) (pss_cons (ps_asg (pe_call DOd.ok (hr.mono (by decide)) (by rfl) DOd.mg DOd.kp DOd.bd .nil pass0 (pa_cons (pv 2) (pa_cons (pv 3) (pa_cons (pv 6) pa_nil)))) (pg_tup rfl (pgs_cons (pg_name (i := 9) nd rfl (.inl rfl)) (pgs_cons (pg_name (i := 10) nd rfl (.inl rfl)) pgs_nil)))) <|
        pss_cons (ps_set (i := 7) nd rfl (.inl rfl) pe_str) <|
        Evl.pss_cut (ps_if (pt_val (pv 10)) (pss_cons (ps_set (i := 11) nd rfl (.inr rfl) (pe_call DCn.ok (hr.mono (by decide)) (by rfl) DCn.mg DCn.kp DCn.bd .nil pass0 (pa_cons (pv 4) (pa_cons (pv 9) pa_nil)))) <|
        pss_cons (ps_setLc (i := 13) (own := [("_law_place", 12)]) (g := (gName 12)) (tt := (tTest (tOp (rI0 fun i j => .bl (decide (i < j))) (tOp (rIxL K) (tVar 11) (tVar 12)) (tC (.int 0))))) (te := (tVar 12)) rfl nd rfl rfl (sw_true rfl rfl rfl (by decide +kernel)) (pi_range1 (by rfl) B.range (pa_cons (pe_callB call_len_seq (by rfl) B.len PySem.boot_len (pa_cons (pv 4) pa_nil)) pa_nil)) (blkOk_by (N := nLaw) (sc := defScope sLaw) (own := [("_law_place", 12)]) (by decide +kernel)) (fun _ _ _ _ _ => (pg_name (i := 12) nd rfl (.inl rfl))) (fun _ _ _ _ _ => pts_one (pt_cmpR op_lt (pe_ix ix_list (pv 11) (pv 12) (fun _ _ => rfl)) pe_int (nomark _))) (fun _ _ _ _ _ => (pv 12))) <|
        pss_cons (ps_set (i := 7) nd rfl (.inl rfl) (pe_call DSh.ok (hr.mono (by decide)) (by rfl) DSh.mg DSh.kp DSh.bd .nil pass0 (pa_cons (pv 4) (pa_cons (pv 11) pa_nil)))) <|
        pss_one (ps_if (pt_cmpR (op_neD hr.units) (pv 13) (pe_lst pa_nil) (nomark _)) (pss_one (ps_set (i := 7) nd rfl (.inl rfl) (pe_tup (pa_cons pe_str (pa_cons (pe_ix ix_list (pv 13) pe_int (fun _ _ => rfl)) pa_nil))))) pss_nil)) pss_nil) <|
        pss_one (ps_if (pt_cmpR (op_neD hr.units) (pe_call DTo.ok (hr.mono (by decide)) (by rfl) DTo.mg DTo.kp DTo.bd .nil pass0 (pa_cons (pv 5) (pa_cons (pv 9) pa_nil))) (pv 7) (nomark _)) (pss_one (ps_ret pe_bl)) pss_nil))))) <|
        pss_one (ps_ret pe_bl), ?_⟩
    refine ⟨(by show 2 ≤ sizeLine; decide), fun l1 hl1 => ?_⟩
    have s1 : Same H (upd H l1 (.lst [.int 0, .int 3])) := same_new hl1
    have e1 : (upd H l1 (.lst [.int 0, .int 3])) l1 = some (.lst [.int 0, .int 3]) := upd_same
    generalize upd H l1 (.lst [.int 0, .int 3]) = H1 at s1 e1
    refine ⟨_, rfl, _, rfl, a, _, rfl, s1.seq hS, fun l2 hl2 => ?_⟩
    have hcl : (cutV (ns.map V.int) none (some 8)).length ≤ 63 := by
      have := cutV_length (ns.map V.int) none (some 8)
      rw [List.length_map] at this
      omega
    refine ⟨l1, l2, _, _, rfl, rfl, same_new hl2 _ _ e1, upd_same, ?_, fun l3 hl3 => ?_⟩
    · show 2 + _ ≤ sizeLine
      exact Nat.le_of_lt (small1000 (by omega))
    refine ⟨l3, rfl, ⟨_, SqL.of upd_same⟩, for_list (K := K) (a := l3) (xs := [.int 0, .int 3] ++ cutV (ns.map V.int) none (some 8)) (fun i σ H' => ∃ t1 t2 t3 t4 t5 t6 t7 t8 t9 t10 t11 t12 t13 : Option V, σ = [some (.ref a), t1, t2, t3, t4, t5, t6, t7, t8, t9, t10, t11, t12, t13] ∧ H' l3 = some (.lst ([.int 0, .int 3] ++ cutV (ns.map V.int) none (some 8))))
      ⟨_, _, _, _, _, _, _, _, _, _, _, _, _, rfl, upd_same⟩ (fun i σ H' _ ⟨_, _, _, _, _, _, _, _, _, _, _, _, _, _, e⟩ => SqL.of e) ?_ ?_⟩
    · rintro i x σ H0 hx ⟨t1, t2, t3, t4, t5, t6, t7, t8, t9, t10, t11, t12, t13, rfl, e3⟩
      obtain ⟨c, rfl⟩ : ∃ c, x = V.int c := by
        rcases List.mem_append.mp (List.mem_of_getElem? hx) with hm | hm
        · rcases List.mem_cons.mp hm with hm | hm
          · exact ⟨0, hm⟩
          · rcases List.mem_cons.mp hm with hm | hm
            · exact ⟨3, hm⟩
            · cases hm
        · obtain ⟨c, _, rfl⟩ := List.mem_map.mp (mem_cutK hm)
          exact ⟨c, rfl⟩
      refine gn_norm (σ' := [some (.ref a), some (.int c), t2, t3, t4, t5, t6, t7, t8, t9, t10, t11, t12, t13]) rfl ?_
      refine ⟨_, rfl, c, rfl, fun wl H1 hwl sw W1 => ?_⟩
      have n3 := ne_of_none e3 hwl
      refine gn_norm (σ' := [some (.ref a), some (.int c), some (.ref wl), t3, t4, t5, t6, t7, t8, t9, t10, t11, t12, t13]) rfl ?_
      refine ⟨_, rfl, wl, rfl, W1, fun gs ws lg lw pp H2 N gl7 wl21 rl4 D2 hlg hlw nlgw G2 Wr2 ep => ?_⟩
      have nlg : lg ≠ wl := (W1.ne hlg).symm
      have nlw : lw ≠ wl := (W1.ne hlw).symm
      refine ⟨pp, _, rfl, .inl (.inl ep), rfl, _, _, rfl, _, _, rfl, rfl, ?_⟩
      refine gn_norm (σ' := [some (.ref a), some (.int c), some (.ref wl), some (.ref lg), some (.ref lw), t5, t6, t7, t8, t9, t10, t11, t12, t13]) rfl ?_
      obtain ⟨gv5, hgv5, ga5⟩ := id (G2)
      obtain ⟨wv5, hwv5, wa5⟩ := id (Wr2)
      refine ⟨_, rfl, lg, gv5, rfl, .inl (SqL.of hgv5), fun lga5 hlga5 => ?_⟩
      have sa5 : Same H2 (upd H2 lga5 (.lst gv5)) := same_new hlga5
      have ea5 : (upd H2 lga5 (.lst gv5)) lga5 = some (.lst gv5) := upd_same
      generalize upd H2 lga5 (.lst gv5) = Ha5 at sa5 ea5
      refine ⟨_, rfl, lw, wv5, rfl, .inl (SqL.of (sa5 _ _ hwv5)), fun lwa5 hlwa5 => ?_⟩
      have sb5 : Same Ha5 (upd Ha5 lwa5 (.lst wv5)) := same_new hlwa5
      have eb5 : (upd Ha5 lwa5 (.lst wv5)) lwa5 = some (.lst wv5) := upd_same
      generalize upd Ha5 lwa5 (.lst wv5) = Hb5 at sb5 eb5
      have sab5 := sa5.trans sb5
      have Gb5 : LG K Hb5 lga5 gs := ⟨gv5, sb5 _ _ ea5, ga5.imp fun _ _ r => r.tk (TK.same sab5)⟩
      have Wb5 : LW K Hb5 lwa5 ws := ⟨wv5, eb5, wa5.imp fun _ _ r => r.tk (TK.same sab5)⟩
      refine net_in Gb5.rg Wb5.rw N fun p1 ng nw H5 NA5 sn5 hp5 hng5 hnw5 => ?_
      have s5 := sab5.trans sn5
      have np5 : p1 ≠ wl := ((D2.well).same sab5 |>.ne hp5).symm
      have nng5 : ng ≠ wl := ((D2.well).same sab5 |>.ne hng5).symm
      have nnw5 : nw ≠ wl := ((D2.well).same sab5 |>.ne hnw5).symm
      have D5 := D2.trans (Dr.ofSame D2.well s5)
      have G5 := G2.same' s5
      have W5 := Wr2.same' s5
      have hsw : ∀ x ∈ ws, x.1 < gs.length := fun x hx => (N.wok x hx).s
      have hwl := N.wl
      have hgl := N.gl
      refine gn_norm (σ' := [some (.ref a), some (.int c), some (.ref wl), some (.ref lg), some (.ref lw), some (.ref p1), t6, t7, t8, t9, t10, t11, t12, t13]) rfl ?_
      refine ⟨_, rfl, _, rfl, _, rfl, wl, lg, lw, gs, ws, rfl, D5.well, nlg, nlw, G5, W5, N, fun l6 Ls H6 E6 nl6 e6 hl hb hz hn => ?_⟩
      have D6 := D5.trans E6
      have G6 := G5.dr nlg D5.well E6
      have W6 := W5.dr nlw D5.well E6
      have NA6 := NA5.drW D5.well np5 nng5 nnw5 E6
      have lokL : LagOk gs Ls := ⟨hl, fun i g l hg hl' => by
        have hi := (List.getElem?_eq_some_iff.mp hg).1
        have el : l = Ls.getD i 0 := by rw [List.getD_eq_getElem?_getD, hl']; rfl
        have hb' := hb l (List.mem_of_getElem? hl')
        exact ⟨by omega, by omega, fun hp => by rw [el]; exact hz i hi (by rw [kindAt_get hg]; exact hp)⟩⟩
      refine gn_norm (σ' := [some (.ref a), some (.int c), some (.ref wl), some (.ref lg), some (.ref lw), some (.ref p1), some (.ref l6), t7, t8, t9, t10, t11, t12, t13]) rfl ?_
      -- what is due
      refine ⟨_, rfl, _, rfl, _, rfl, lw, l6, gs, ws, Ls, rfl, W6, N, e6, hl, fun lc Hc sc hlc ec => ?_⟩
      refine ⟨lw, lc, ws, _, gs.length, rfl, W6.same' sc, SqL.of ec, by unfold lcntL; rw [List.length_map], hwl, hsw, fun z H7 s7 hz7 => ?_⟩
      have ez : z = sharedF gs.length ws (lagF Ls) := hz7 (lagF Ls) rfl hn
      have s67 := sc.trans s7
      have NA7 := NA6.same s67
      have e7 := s67 _ _ e6
      refine gn_norm (σ' := [some (.ref a), some (.int c), some (.ref wl), some (.ref lg), some (.ref lw), some (.ref p1), some (.ref l6), some (.int z), t8, t9, t10, t11, t12, t13]) rfl ?_
      -- told
      refine ⟨_, rfl, _, rfl, p1, .ref l6, ng, nw, gs, ws, some (Ls.map some), rfl, NA7, N, .lst e7 (odv_ints _ _), (fun os e => by cases e; rw [List.length_map]; omega), (fun h => absurd ⟨_, rfl, lokL.good⟩ h), (fun ls e _ h => absurd (by rw [← some_inj (Option.some.inj e)]; exact hn) h), fun ls e _ _ H8 s8 => ?_⟩
      have els := some_inj (Option.some.inj e)
      subst els
      refine ⟨_, rfl, _, _, Dp.int _, Dp.int _, Sh.ok (sh_int (k := 1) _) (by decide), Sh.ok (sh_int (k := 1) _) (by decide), false, ?_, iteF ?_⟩
      · rw [intD_eq, ez, decide_eq_true rfl]
        rfl
      have s68 := s67.trans s8
      refine ⟨_, rfl, _, rfl, _, rfl, p1, ng, nw, l6, gs, ws, Ls, rfl, NA6.same s68, N, SqL.of (s68 _ _ e6), lokL, fun l9 H9 s9 hl9 e9 => ?_⟩
      have hle : z ≤ (cntsL ws Ls).sum := by
        rw [ez]
        exact shr_le_cnt gs.length (fun x hx => hn _ (List.mem_map.mpr ⟨x, hx, rfl⟩))
      refine ⟨l9, _, rfl, SqL.of e9, _, _, rfl, rfl, false, congrArg V.bl (decide_eq_false (by omega)), iteF ?_⟩
      have s69 := s68.trans s9
      have D9 := D6.trans (Dr.ofSame D6.well s69)
      have NA9 := NA6.same s69
      have G9 := G6.same' s69
      have W9 := W6.same' s69
      have e69 := s69 _ _ e6
      -- odd lags
      refine ⟨4, rfl, by decide, by decide, for_range (lo := 0) (n := (4 : Int).toNat) (fun j σ H' => ∃ (u7 u8 u9 u10 u11 u13 : Option V), σ = [some (.ref a), some (.int c), some (.ref wl), some (.ref lg), some (.ref lw), some (.ref p1), some (.ref l6), u7, u8, u9, u10, u11, t12, u13] ∧ Dr wl H9 H') ⟨_, _, _, _, _, _, rfl, ⟨fun a o _ h => h, D9.well⟩⟩ ?_ ?_⟩
      · rintro j σ Ha hj ⟨u7, u8, u9, u10, u11, u13, rfl, Ea⟩
        have Da := D9.trans Ea
        have NAa := NA9.drW D9.well np5 nng5 nnw5 Ea
        have Ga := G9.dr nlg D9.well Ea
        have Wa := W9.dr nlw D9.well Ea
        have e6a := Ea.but _ _ nl6 e69
        refine gn_norm (σ' := [some (.ref a), some (.int c), some (.ref wl), some (.ref lg), some (.ref lw), some (.ref p1), some (.ref l6), u7, some (.int (0 + (j : Nat))), u9, u10, u11, t12, u13]) rfl ?_
        refine ⟨_, rfl, _, rfl, _, rfl, wl, lg, l6, gs, ws, Ls, rfl, Da.well, nlg, nl6, Ga, N, e6a, hl, hb, hz, fun tt v b Hb Eb ett oda => ?_⟩
        have NAb := NAa.drW Da.well np5 nng5 nnw5 Eb
        have Gb := Ga.dr nlg Da.well Eb
        have Wb := Wa.dr nlw Da.well Eb
        refine ⟨tt, _, rfl, .inl (.inl ett), rfl, _, _, rfl, _, _, rfl, rfl, ?_⟩
        refine gn_norm (σ' := [some (.ref a), some (.int c), some (.ref wl), some (.ref lg), some (.ref lw), some (.ref p1), some (.ref l6), u7, some (.int (0 + (j : Nat))), some v, some (.bl b), u11, t12, u13]) rfl ?_
        obtain ⟨t, od, hbig, hgood, hbad⟩ := id oda
        refine ⟨fun σ H' => ∃ (due : V) (dd : PyData) (w11 w13 : Option V), σ = [some (.ref a), some (.int c), some (.ref wl), some (.ref lg), some (.ref lw), some (.ref p1), some (.ref l6), some due, some (.int (0 + (j : Nat))), some v, some (.bl b), w11, t12, w13] ∧ Same Hb H' ∧ Dp K H' due dd ∧ Sh 2 dd ∧ DueD gs ws t dd, ?_, ?_⟩
        · refine ⟨_, rfl, b, rfl, ite2 (fun hb' => ?_) (fun hb' => ?_)⟩
          rotate_left
          · have bad := hbad (Bool.eq_false_iff.mpr hb')
            exact ⟨.str "lags", .str "lags", _, _, rfl, Same.refl _, Dp.str _, ⟨by decide +kernel, Nat.zero_le _⟩, fun _ => rfl, (fun ls e lok _ => absurd ⟨_, e, lok.good⟩ bad), fun ls e lok _ _ _ => absurd ⟨_, e, lok.good⟩ bad⟩
          · obtain ⟨lo, Lo, ev, et, eo, lok⟩ := hgood hb'
            subst ev
            subst et
            have gd : GoodT gs (some (Lo.map some)) := ⟨_, rfl, lok.good⟩
            have only : ∀ {ls : List Int}, some (Lo.map some) = some (ls.map some) → Lo = ls := fun e => some_inj (Option.some.inj e)
            obtain ⟨wv, hwv, wa⟩ := id Wb
            have hlw : wv.length = ws.length := wa.1
            refine ⟨_, rfl, _, rfl, lw, lo, gs, ws, Lo, rfl, Wb, N, eo, lok.len, fun lm Hm sm hlm em => ?_⟩
            refine gn_norm (σ' := [some (.ref a), some (.int c), some (.ref wl), some (.ref lg), some (.ref lw), some (.ref p1), some (.ref l6), some (.str "lags"), some (.int (0 + (j : Nat))), some (.ref lo), some (.bl b), some (.ref lm), t12, u13]) rfl ?_
            have cl : (lcntL ws Lo).length = ws.length := by unfold lcntL; rw [List.length_map]
            refine ⟨_, rfl, lw, wv, rfl, .inl (SqL.of (sm _ _ hwv)), _, rfl, by omega, by omega, fun D hD => ?_⟩
            rw [Int.toNat_natCast, hlw]
            refine lc_range (lo := 0) (n := ws.length) (fun i Hc => Hc D = some (.lst (nvs (negL (lcntL ws Lo) i))) ∧ Same Hm Hc) ⟨upd_same, same_new hD⟩ ?_ ?_
            · rintro i Hc hi ⟨hc, sc'⟩
              have ei : (0 : Int) + ((i : Nat) : Int) = ((i : Nat) : Int) := Int.zero_add _
              rw [ei]
              refine ⟨rfl, _, rfl, _, rfl, lm, _, i, _, rfl, rfl, SqL.of (sc' _ _ em), atI_nat (lgetD_at (by omega)), _, _, rfl, rfl, _, rfl, ?_⟩
              rw [negL_succ]
              by_cases h0 : (lcntL ws Lo).getD i 0 < 0
              · rw [if_pos h0, decide_eq_true h0]
                refine iteT ⟨_, rfl, _, hc, ?_, ?_, same_mut sc' hD⟩
                · rw [nvs_len]
                  have := negL_len (lcntL ws Lo) i
                  exact small1000 (by omega)
                · rw [upd_same]
                  show _ = some (HO.lst (List.map _ (_ ++ _)))
                  rw [List.map_append]
                  rfl
              · rw [if_neg h0, decide_eq_false h0, List.append_nil]
                exact iteF ⟨hc, sc'⟩
            rintro Hn ⟨hDn, sn⟩
            refine gn_norm (σ' := [some (.ref a), some (.int c), some (.ref wl), some (.ref lg), some (.ref lw), some (.ref p1), some (.ref l6), some (.str "lags"), some (.int (0 + (j : Nat))), some (.ref lo), some (.bl b), some (.ref lm), t12, some (.ref D)]) rfl ?_
            refine ⟨_, rfl, _, rfl, lw, lm, ws, _, gs.length, rfl, Wb.same' (sm.trans sn), SqL.of (sn _ _ em), cl, hwl, hsw, fun z2 Hz sz hz2 => ?_⟩
            have sbz := (sm.trans sn).trans sz
            refine gn_norm (σ' := [some (.ref a), some (.int c), some (.ref wl), some (.ref lg), some (.ref lw), some (.ref p1), some (.ref l6), some (.int z2), some (.int (0 + (j : Nat))), some (.ref lo), some (.bl b), some (.ref lm), t12, some (.ref D)]) rfl ?_
            have hDz := sz _ _ hDn
            refine ⟨_, rfl, (by show 0 ≤ sizeLine; decide), fun lx hlx => ?_⟩
            have sx : Same Hz (upd Hz lx (.lst [])) := same_new hlx
            have ex : (upd Hz lx (.lst [])) lx = some (.lst []) := upd_same
            have hDx := sx _ _ hDz
            generalize upd Hz lx (.lst []) = Hx at sx ex hDx
            have sbx := sbz.trans sx
            have dp1 : Dp K Hx (.ref D) (numsD ((negL (lcntL ws Lo) ws.length).map fun k => ((k : Nat) : Int))) := dp_nums (by rw [← nvs_ints]; exact SqL.of hDx)
            have dp2 : Dp K Hx (.ref lx) (numsD []) := dp_nums (xs := []) (SqL.of ex)
            refine ⟨_, _, dp1, dp2, Sh.ok (sh_nums _) (by decide), Sh.ok (sh_nums _) (by decide), ?_⟩
            rw [numsD_eq]
            have clen : (cntsL ws Lo).length = ws.length := List.length_map ..
            by_cases e0 : negL (lcntL ws Lo) ws.length = []
            · rw [e0, List.map_nil, decide_eq_true rfl]
              refine ⟨false, rfl, iteF ?_⟩
              have nn : ∀ y ∈ lcntL ws Lo, 0 ≤ y := neg_nil (by rw [cl]; exact e0)
              have e2 := hz2 (lagF Lo) rfl nn
              refine ⟨.int z2, .int z2, _, _, rfl, sbx, Dp.int _, sh_int _, (fun h => absurd gd h), (fun ls e _ _ => by rw [← only e, e2]), fun ls e _ h => absurd (by rw [← only e]; exact nn) h⟩
            · have hpos : 0 < (negL (lcntL ws Lo) ws.length).length := List.length_pos_iff.mpr e0
              obtain ⟨p0, hp0⟩ : ∃ p0, (negL (lcntL ws Lo) ws.length)[0]? = some p0 := ⟨_, List.getElem?_eq_getElem hpos⟩
              rw [decide_eq_false (fun h => e0 (List.map_eq_nil_iff.mp h))]
              refine ⟨true, rfl, iteT ?_⟩
              refine ⟨_, rfl, D, _, 0, _, rfl, rfl, SqL.of hDx, atI_nat (j := 0) (nvs_at hp0), (by show 2 ≤ sizeLine; decide), fun tx htx => ?_⟩
              have st := same_new (o := .tup [.str "let", .int (p0 : Nat)]) htx
              refine ⟨.ref tx, .tuple [.str "let", .int (p0 : Nat)], _, _, rfl, sbx.trans st, Dp.tup (.inl (.inl upd_same)) (.cons (Dp.str _) (.cons (Dp.int _) .nil)), let_sh p0, (fun h => absurd gd h), (fun ls e _ h => absurd (neg_ok (cs := cntsL ws Lo) (by rw [only e]; exact h)) (by rw [clen]; exact e0)), fun ls e _ _ pl hpl => ?_⟩
              have := neg_first hpl
              rw [← only e, clen] at this
              have this : (negL (lcntL ws Lo) ws.length)[0]? = some pl := this
              rw [hp0] at this
              rw [Option.some.inj this]
        · rintro σ Hd ⟨due, dd, w11, w13, rfl, sd, dpd, shd, dok⟩
          have Dd := Da.trans (Eb.trans (Dr.ofSame Eb.well sd))
          have Eall := Ea.trans (Eb.trans (Dr.ofSame Eb.well sd))
          refine ⟨_, rfl, _, rfl, p1, v, ng, nw, gs, ws, t, rfl, NAb.same sd, N, od.same sd, hbig, (fun h He se => ?_), (fun ls e lok h pl ty He fn se ey => ?_), fun ls e lok h He se => ?_⟩
          · have ed := dok.1 h
            subst ed
            refine ⟨_, rfl, _, _, Dp.str _, (show Dp K He due (.str "lags") by cases dpd; exact Dp.str _), Sh.ok (k := 1) ⟨by decide +kernel, Nat.zero_le _⟩ (by decide), Sh.ok shd (by decide), false, ?_, iteF ⟨_, _, _, _, _, _, rfl, Eall.trans (Dr.ofSame Dd.well se)⟩⟩
            rfl
          · have ed := dok.2.2 ls e lok h pl fn
            subst ed
            refine ⟨_, rfl, _, _, Dp.tup (.inl (.inl ey)) (.cons (Dp.str _) (.cons (Dp.int _) .nil)), (dpd_let se dpd), Sh.ok (let_sh pl) (by decide), Sh.ok shd (by decide), false, ?_, iteF ⟨_, _, _, _, _, _, rfl, Eall.trans (Dr.ofSame Dd.well se)⟩⟩
            rw [let_eqv]
            rfl
          · have ed := dok.2.1 ls e lok h
            subst ed
            refine ⟨_, rfl, _, _, Dp.int _, (show Dp K He due (.int _) by cases dpd; exact Dp.int _), Sh.ok (sh_int (k := 1) _) (by decide), Sh.ok shd (by decide), false, ?_, iteF ⟨_, _, _, _, _, _, rfl, Eall.trans (Dr.ofSame Dd.well se)⟩⟩
            rw [intD_eq, decide_eq_true rfl]
            rfl
      rintro σ Ha ⟨u7, u8, u9, u10, u11, u13, rfl, Ea⟩
      refine ⟨_, _, _, _, _, _, _, _, _, _, _, _, _, rfl, ?_⟩
      exact (D9.trans Ea).but _ _ n3 (sw _ _ e3)
    · rintro σ H' ⟨t1, t2, t3, t4, t5, t6, t7, t8, t9, t10, t11, t12, t13, rfl, e3⟩
      exact q H'
end
end Lag

set_option maxRecDepth 100000
set_option maxHeartbeats 8000000
namespace Lag
open PySem PySem.Spec PyProof.Rows L2
theorem exm_of {K : PySem.W.Frag} {S C : Addr} (h1 : PySem.W.subIn K (.ref C) (.type "BaseException") = some true) (h2 : PySem.W.isClsIn K C = true) (h3 : PySem.W.typeIn K (.ref C) = some (.type "type")) (h4 : PySem.W.subIn K (.ref S) (.ref C) = some true) :
    PySem.W.exmOne K (.ref S) (.ref C) = some true := by
  have e1 : (PySem.W.subIn K (.ref C) (.type "BaseException") == some true) = true := by rw [h1] <;> rfl
  have e2 : ((PySem.W.clsIn K C).isSome && PySem.W.typeIn K (.ref C) == some (.type "type")) = true := by
    have h2' : (PySem.W.clsIn K C).isSome = true := h2
    rw [h2', h3] <;> rfl
  show (if (PySem.W.subIn K (.ref C) (.type "BaseException") == some true) = true then (if ((PySem.W.clsIn K C).isSome && PySem.W.typeIn K (.ref C) == some (.type "type")) = true then PySem.W.subIn K (.ref S) (.ref C) else none) else none) = some true
  rw [if_pos e1, if_pos e2]
  exact h4
theorem kit_type {K : PySem.W.Frag} {S : Addr} {T : String} {b : Bool} (h1 : PySem.W.kitMeta T = true) (h2 : PySem.W.subIn K (.ref S) (.type T) = some b) : PySem.W.kitOne K (.ref S) (.type T) = some b := by
  have e0 : ((Value.ref S) == (Value.type T)) = false := rfl
  show (if ((Value.ref S) == (Value.type T)) = true then some true else (if PySem.W.kitMeta T = true then PySem.W.subIn K (.ref S) (.type T) else none)) = some b
  rw [e0, if_neg (by decide), if_pos h1]
  exact h2
theorem kit_not {K : PySem.W.Frag} {S C : Addr} (h2 : PySem.W.isClsIn K C = true) (h3 : PySem.W.typeIn K (.ref C) = some (.type "type")) (h4 : PySem.W.subIn K (.ref S) (.ref S) = some true) (h5 : PySem.W.subIn K (.ref S) (.ref C) = some false) :
    PySem.W.kitOne K (.ref S) (.ref C) = some false := by
  have ne : ¬ (((Value.ref S) == (Value.ref C)) = true) := fun z => by
    have z' : S = C := by
      have z2 := beq_iff_eq.mp z
      cases z2
      rfl
    rw [z'] at h4 h5
    rw [h4] at h5
    cases h5
  have e2 : ((PySem.W.clsIn K C).isSome && PySem.W.typeIn K (.ref C) == some (.type "type")) = true := by
    have h2' : (PySem.W.clsIn K C).isSome = true := h2
    rw [h2', h3] <;> rfl
  show (if ((Value.ref S) == (Value.ref C)) = true then some true else (if ((PySem.W.clsIn K C).isSome && PySem.W.typeIn K (.ref C) == some (.type "type")) = true then PySem.W.subIn K (.ref S) (.ref C) else none)) = some false
  rw [if_neg ne, if_pos e2]
  exact h5
theorem exm_any {K : PySem.W.Frag} {S C : Addr} {b : Bool} (h1 : PySem.W.subIn K (.ref C) (.type "BaseException") = some true) (h2 : PySem.W.isClsIn K C = true) (h3 : PySem.W.typeIn K (.ref C) = some (.type "type")) (h4 : PySem.W.subIn K (.ref S) (.ref C) = some b) :
    PySem.W.exmOne K (.ref S) (.ref C) = some b := by
  have e1 : (PySem.W.subIn K (.ref C) (.type "BaseException") == some true) = true := by rw [h1] <;> rfl
  have e2 : ((PySem.W.clsIn K C).isSome && PySem.W.typeIn K (.ref C) == some (.type "type")) = true := by
    have h2' : (PySem.W.clsIn K C).isSome = true := h2
    rw [h2', h3] <;> rfl
  show (if (PySem.W.subIn K (.ref C) (.type "BaseException") == some true) = true then (if ((PySem.W.clsIn K C).isSome && PySem.W.typeIn K (.ref C) == some (.type "type")) = true then PySem.W.subIn K (.ref S) (.ref C) else none) else none) = some b
  rw [if_pos e1, if_pos e2]
  exact h4
theorem kitAny_cons {K : PySem.W.Frag} {t c : Value} {r : List Value} {b : Bool} (h : PySem.W.kitOne K t c = some false) (h2 : PySem.W.kitAny K t r = some b) : PySem.W.kitAny K t (c :: r) = some b := by
  unfold PySem.W.kitAny
  rw [h]
  exact h2
theorem all_mk {l : PySem.W.OpenLaw} {w : World} {K : PySem.W.Frag} {h : Heap} {mg : Str → Option Value} {fa C : Addr} (X : K.In h) (G : h.Ns mainGlobals mg) (hfa : mg "law" = some (.ref fa))
    {C0 CL CB CT CP CN fN : Addr} {nmTN qTN : Str} {NTTN : Addr} {bsTN : List Value} {snTN : List Str} {subTN : List Value} {abTN : Bool} {colTN : Option Bool} {ddTN : Option Addr} {m0TN m1TN m2TN m3TN m5TN : Option Value} {odTN anTN : Option Addr} {slTN : Array (Option Value)} {ocTN kVTN dcTN pmTN cdvTN ctTN : Value}
    {fd0 : Addr} {odd0 and0 : Option Addr} {sld0 : Array (Option Value)} {ocd0 kVd0 dcd0 pmd0 cdd0 ctd0 : Value}
    {fd1 : Addr} {odd1 and1 : Option Addr} {sld1 : Array (Option Value)} {ocd1 kVd1 dcd1 pmd1 cdd1 ctd1 : Value}
    {fd2 : Addr} {odd2 and2 : Option Addr} {sld2 : Array (Option Value)} {ocd2 kVd2 dcd2 pmd2 cdd2 ctd2 : Value}
    {fd3 : Addr} {odd3 and3 : Option Addr} {sld3 : Array (Option Value)} {ocd3 kVd3 dcd3 pmd3 cdd3 ctd3 : Value}
    {fd4 : Addr} {odd4 and4 : Option Addr} {sld4 : Array (Option Value)} {ocd4 kVd4 dcd4 pmd4 cdd4 ctd4 : Value}
    {fd5 : Addr} {odd5 and5 : Option Addr} {sld5 : Array (Option Value)} {ocd5 kVd5 dcd5 pmd5 cdd5 ctd5 : Value}
    {fd6 : Addr} {odd6 and6 : Option Addr} {sld6 : Array (Option Value)} {ocd6 kVd6 dcd6 pmd6 cdd6 ctd6 : Value}
    {fd7 : Addr} {odd7 and7 : Option Addr} {sld7 : Array (Option Value)} {ocd7 kVd7 dcd7 pmd7 cdd7 ctd7 : Value}
    {fd8 : Addr} {odd8 and8 : Option Addr} {sld8 : Array (Option Value)} {ocd8 kVd8 dcd8 pmd8 cdd8 ctd8 : Value}
    {fd9 : Addr} {odd9 and9 : Option Addr} {sld9 : Array (Option Value)} {ocd9 kVd9 dcd9 pmd9 cdd9 ctd9 : Value}
    {fd10 : Addr} {odd10 and10 : Option Addr} {sld10 : Array (Option Value)} {ocd10 kVd10 dcd10 pmd10 cdd10 ctd10 : Value}
    {fd11 : Addr} {odd11 and11 : Option Addr} {sld11 : Array (Option Value)} {ocd11 kVd11 dcd11 pmd11 cdd11 ctd11 : Value}
    {fd12 : Addr} {odd12 and12 : Option Addr} {sld12 : Array (Option Value)} {ocd12 kVd12 dcd12 pmd12 cdd12 ctd12 : Value}
    {fd13 : Addr} {odd13 and13 : Option Addr} {sld13 : Array (Option Value)} {ocd13 kVd13 dcd13 pmd13 cdd13 ctd13 : Value}
    {fd14 : Addr} {odd14 and14 : Option Addr} {sld14 : Array (Option Value)} {ocd14 kVd14 dcd14 pmd14 cdd14 ctd14 : Value}
    {fd15 : Addr} {odd15 and15 : Option Addr} {sld15 : Array (Option Value)} {ocd15 kVd15 dcd15 pmd15 cdd15 ctd15 : Value}
    {fd16 : Addr} {odd16 and16 : Option Addr} {sld16 : Array (Option Value)} {ocd16 kVd16 dcd16 pmd16 cdd16 ctd16 : Value}
    {fd17 : Addr} {odd17 and17 : Option Addr} {sld17 : Array (Option Value)} {ocd17 kVd17 dcd17 pmd17 cdd17 ctd17 : Value}
    {fd18 : Addr} {odd18 and18 : Option Addr} {sld18 : Array (Option Value)} {ocd18 kVd18 dcd18 pmd18 cdd18 ctd18 : Value}
    {fd19 : Addr} {odd19 and19 : Option Addr} {sld19 : Array (Option Value)} {ocd19 kVd19 dcd19 pmd19 cdd19 ctd19 : Value}
    {fd20 : Addr} {odd20 and20 : Option Addr} {sld20 : Array (Option Value)} {ocd20 kVd20 dcd20 pmd20 cdd20 ctd20 : Value}
    {fd21 : Addr} {odd21 and21 : Option Addr} {sld21 : Array (Option Value)} {ocd21 kVd21 dcd21 pmd21 cdd21 ctd21 : Value}
    {fd22 : Addr} {odd22 and22 : Option Addr} {sld22 : Array (Option Value)} {ocd22 kVd22 dcd22 pmd22 cdd22 ctd22 : Value}
    {fd23 : Addr} {odd23 and23 : Option Addr} {sld23 : Array (Option Value)} {ocd23 kVd23 dcd23 pmd23 cdd23 ctd23 : Value}
    {fd24 : Addr} {odd24 and24 : Option Addr} {sld24 : Array (Option Value)} {ocd24 kVd24 dcd24 pmd24 cdd24 ctd24 : Value}
    {fd25 : Addr} {odd25 and25 : Option Addr} {sld25 : Array (Option Value)} {ocd25 kVd25 dcd25 pmd25 cdd25 ctd25 : Value}
    {fd26 : Addr} {odd26 and26 : Option Addr} {sld26 : Array (Option Value)} {ocd26 kVd26 dcd26 pmd26 cdd26 ctd26 : Value}
    {fd27 : Addr} {odd27 and27 : Option Addr} {sld27 : Array (Option Value)} {ocd27 kVd27 dcd27 pmd27 cdd27 ctd27 : Value}
    {fd28 : Addr} {odd28 and28 : Option Addr} {sld28 : Array (Option Value)} {ocd28 kVd28 dcd28 pmd28 cdd28 ctd28 : Value}
    {fd29 : Addr} {odd29 and29 : Option Addr} {sld29 : Array (Option Value)} {ocd29 kVd29 dcd29 pmd29 cdd29 ctd29 : Value}
    {fd30 : Addr} {odd30 and30 : Option Addr} {sld30 : Array (Option Value)} {ocd30 kVd30 dcd30 pmd30 cdd30 ctd30 : Value}
    {fm0 : Addr} {odm0 anm0 : Option Addr} {slm0 : Array (Option Value)} {ocm0 kVm0 dcm0 pmm0 cdm0 ctm0 : Value}
    {tGW tGA tGL : Tok}
    {aK nnK : Nat} {ddK : Option Addr} {ssK : Array (Option Value)} {tK0 tK1 tK2 tK3 tK4 tK5 tK6 tK7 : Tok}
    {aW nnW : Nat} {ddW : Option Addr} {ssW : Array (Option Value)} {tW0 tW1 : Tok}
    {aF nnF : Nat} {ddF : Option Addr} {ssF : Array (Option Value)} {tF0 tF1 : Tok}
    (aC : PySem.W.nsIn K mainGlobals "Net" = some (some (.ref C)))
    (ad0 : PySem.W.nsIn K mainGlobals "is_whole" = some (some (.ref fd0)))
    (ld0 : K.lookup fd0 = some ⟨ocd0, odd0, .func (PySem.W.fnOf "is_whole" "is_whole" (defArgs sWhole) (defBody sWhole) (defScope sWhole) .none kVd0 dcd0 pmd0 and0 cdd0 ctd0), sld0⟩)
    (cd0 : PySem.W.codeIn K cdd0 "is_whole" = true)
    (kd0 : PySem.W.keepIn K (.ref fd0) = true)
    (ad1 : PySem.W.nsIn K mainGlobals "is_whole_from_to" = some (some (.ref fd1)))
    (ld1 : K.lookup fd1 = some ⟨ocd1, odd1, .func (PySem.W.fnOf "is_whole_from_to" "is_whole_from_to" (defArgs sFromTo) (defBody sFromTo) (defScope sFromTo) .none kVd1 dcd1 pmd1 and1 cdd1 ctd1), sld1⟩)
    (cd1 : PySem.W.codeIn K cdd1 "is_whole_from_to" = true)
    (kd1 : PySem.W.keepIn K (.ref fd1) = true)
    (ad2 : PySem.W.nsIn K mainGlobals "is_worth" = some (some (.ref fd2)))
    (ld2 : K.lookup fd2 = some ⟨ocd2, odd2, .func (PySem.W.fnOf "is_worth" "is_worth" (defArgs sWorth) (defBody sWorth) (defScope sWorth) .none kVd2 dcd2 pmd2 and2 cdd2 ctd2), sld2⟩)
    (cd2 : PySem.W.codeIn K cdd2 "is_worth" = true)
    (kd2 : PySem.W.keepIn K (.ref fd2) = true)
    (ad3 : PySem.W.nsIn K mainGlobals "is_gate" = some (some (.ref fd3)))
    (ld3 : K.lookup fd3 = some ⟨ocd3, odd3, .func (PySem.W.fnOf "is_gate" "is_gate" (defArgs sIsGate) (defBody sIsGate) (defScope sIsGate) .none kVd3 dcd3 pmd3 and3 cdd3 ctd3), sld3⟩)
    (cd3 : PySem.W.codeIn K cdd3 "is_gate" = true)
    (kd3 : PySem.W.keepIn K (.ref fd3) = true)
    (ad4 : PySem.W.nsIn K mainGlobals "check_gates" = some (some (.ref fd4)))
    (ld4 : K.lookup fd4 = some ⟨ocd4, odd4, .func (PySem.W.fnOf "check_gates" "check_gates" (defArgs sChkGates) (defBody sChkGates) (defScope sChkGates) .none kVd4 dcd4 pmd4 and4 cdd4 ctd4), sld4⟩)
    (cd4 : PySem.W.codeIn K cdd4 "check_gates" = true)
    (kd4 : PySem.W.keepIn K (.ref fd4) = true)
    (ad5 : PySem.W.nsIn K mainGlobals "is_wire" = some (some (.ref fd5)))
    (ld5 : K.lookup fd5 = some ⟨ocd5, odd5, .func (PySem.W.fnOf "is_wire" "is_wire" (defArgs sIsWire) (defBody sIsWire) (defScope sIsWire) .none kVd5 dcd5 pmd5 and5 cdd5 ctd5), sld5⟩)
    (cd5 : PySem.W.codeIn K cdd5 "is_wire" = true)
    (kd5 : PySem.W.keepIn K (.ref fd5) = true)
    (ad6 : PySem.W.nsIn K mainGlobals "is_taken" = some (some (.ref fd6)))
    (ld6 : K.lookup fd6 = some ⟨ocd6, odd6, .func (PySem.W.fnOf "is_taken" "is_taken" (defArgs sTaken) (defBody sTaken) (defScope sTaken) .none kVd6 dcd6 pmd6 and6 cdd6 ctd6), sld6⟩)
    (cd6 : PySem.W.codeIn K cdd6 "is_taken" = true)
    (kd6 : PySem.W.keepIn K (.ref fd6) = true)
    (ad7 : PySem.W.nsIn K mainGlobals "check_wires" = some (some (.ref fd7)))
    (ld7 : K.lookup fd7 = some ⟨ocd7, odd7, .func (PySem.W.fnOf "check_wires" "check_wires" (defArgs sChkWires) (defBody sChkWires) (defScope sChkWires) .none kVd7 dcd7 pmd7 and7 cdd7 ctd7), sld7⟩)
    (cd7 : PySem.W.codeIn K cdd7 "check_wires" = true)
    (kd7 : PySem.W.keepIn K (.ref fd7) = true)
    (ad8 : PySem.W.nsIn K mainGlobals "order_along" = some (some (.ref fd8)))
    (ld8 : K.lookup fd8 = some ⟨ocd8, odd8, .func (PySem.W.fnOf "order_along" "order_along" (defArgs sAlong) (defBody sAlong) (defScope sAlong) .none kVd8 dcd8 pmd8 and8 cdd8 ctd8), sld8⟩)
    (cd8 : PySem.W.codeIn K cdd8 "order_along" = true)
    (kd8 : PySem.W.keepIn K (.ref fd8) = true)
    (ad9 : PySem.W.nsIn K mainGlobals "bare_order" = some (some (.ref fd9)))
    (ld9 : K.lookup fd9 = some ⟨ocd9, odd9, .func (PySem.W.fnOf "bare_order" "bare_order" (defArgs sOrder) (defBody sOrder) (defScope sOrder) .none kVd9 dcd9 pmd9 and9 cdd9 ctd9), sld9⟩)
    (cd9 : PySem.W.codeIn K cdd9 "bare_order" = true)
    (kd9 : PySem.W.keepIn K (.ref fd9) = true)
    (ad10 : PySem.W.nsIn K mainGlobals "check_rings" = some (some (.ref fd10)))
    (ld10 : K.lookup fd10 = some ⟨ocd10, odd10, .func (PySem.W.fnOf "check_rings" "check_rings" (defArgs sChkRings) (defBody sChkRings) (defScope sChkRings) .none kVd10 dcd10 pmd10 and10 cdd10 ctd10), sld10⟩)
    (cd10 : PySem.W.codeIn K cdd10 "check_rings" = true)
    (kd10 : PySem.W.keepIn K (.ref fd10) = true)
    (ad11 : PySem.W.nsIn K mainGlobals "is_outer" = some (some (.ref fd11)))
    (ld11 : K.lookup fd11 = some ⟨ocd11, odd11, .func (PySem.W.fnOf "is_outer" "is_outer" (defArgs sOuter) (defBody sOuter) (defScope sOuter) .none kVd11 dcd11 pmd11 and11 cdd11 ctd11), sld11⟩)
    (cd11 : PySem.W.codeIn K cdd11 "is_outer" = true)
    (kd11 : PySem.W.keepIn K (.ref fd11) = true)
    (ad12 : PySem.W.nsIn K mainGlobals "check_lags" = some (some (.ref fd12)))
    (ld12 : K.lookup fd12 = some ⟨ocd12, odd12, .func (PySem.W.fnOf "check_lags" "check_lags" (defArgs sChkLags) (defBody sChkLags) (defScope sChkLags) .none kVd12 dcd12 pmd12 and12 cdd12 ctd12), sld12⟩)
    (cd12 : PySem.W.codeIn K cdd12 "check_lags" = true)
    (kd12 : PySem.W.keepIn K (.ref fd12) = true)
    (ad13 : PySem.W.nsIn K mainGlobals "counts_by" = some (some (.ref fd13)))
    (ld13 : K.lookup fd13 = some ⟨ocd13, odd13, .func (PySem.W.fnOf "counts_by" "counts_by" (defArgs sCountsBy) (defBody sCountsBy) (defScope sCountsBy) .none kVd13 dcd13 pmd13 and13 cdd13 ctd13), sld13⟩)
    (cd13 : PySem.W.codeIn K cdd13 "counts_by" = true)
    (kd13 : PySem.W.keepIn K (.ref fd13) = true)
    (ad14 : PySem.W.nsIn K mainGlobals "counts" = some (some (.ref fd14)))
    (ld14 : K.lookup fd14 = some ⟨ocd14, odd14, .func (PySem.W.fnOf "counts" "counts" (defArgs sCounts) (defBody sCounts) (defScope sCounts) .none kVd14 dcd14 pmd14 and14 cdd14 ctd14), sld14⟩)
    (cd14 : PySem.W.codeIn K cdd14 "counts" = true)
    (kd14 : PySem.W.keepIn K (.ref fd14) = true)
    (ad15 : PySem.W.nsIn K mainGlobals "let_counts" = some (some (.ref fd15)))
    (ld15 : K.lookup fd15 = some ⟨ocd15, odd15, .func (PySem.W.fnOf "let_counts" "let_counts" (defArgs sLetCounts) (defBody sLetCounts) (defScope sLetCounts) .none kVd15 dcd15 pmd15 and15 cdd15 ctd15), sld15⟩)
    (cd15 : PySem.W.codeIn K cdd15 "let_counts" = true)
    (kd15 : PySem.W.keepIn K (.ref fd15) = true)
    (ad16 : PySem.W.nsIn K mainGlobals "shared" = some (some (.ref fd16)))
    (ld16 : K.lookup fd16 = some ⟨ocd16, odd16, .func (PySem.W.fnOf "shared" "shared" (defArgs sShared) (defBody sShared) (defScope sShared) .none kVd16 dcd16 pmd16 and16 cdd16 ctd16), sld16⟩)
    (cd16 : PySem.W.codeIn K cdd16 "shared" = true)
    (kd16 : PySem.W.keepIn K (.ref fd16) = true)
    (ad17 : PySem.W.nsIn K mainGlobals "_law_well" = some (some (.ref fd17)))
    (ld17 : K.lookup fd17 = some ⟨ocd17, odd17, .func (PySem.W.fnOf "_law_well" "_law_well" (defArgs sWell) (defBody sWell) (defScope sWell) .none kVd17 dcd17 pmd17 and17 cdd17 ctd17), sld17⟩)
    (cd17 : PySem.W.codeIn K cdd17 "_law_well" = true)
    (kd17 : PySem.W.keepIn K (.ref fd17) = true)
    (ad18 : PySem.W.nsIn K mainGlobals "_law_draw" = some (some (.ref fd18)))
    (ld18 : K.lookup fd18 = some ⟨ocd18, odd18, .func (PySem.W.fnOf "_law_draw" "_law_draw" (defArgs sDraw) (defBody sDraw) (defScope sDraw) .none kVd18 dcd18 pmd18 and18 cdd18 ctd18), sld18⟩)
    (cd18 : PySem.W.codeIn K cdd18 "_law_draw" = true)
    (kd18 : PySem.W.keepIn K (.ref fd18) = true)
    (ad19 : PySem.W.nsIn K mainGlobals "_law_worths" = some (some (.ref fd19)))
    (ld19 : K.lookup fd19 = some ⟨ocd19, odd19, .func (PySem.W.fnOf "_law_worths" "_law_worths" (defArgs sLWorths) (defBody sLWorths) (defScope sLWorths) .none kVd19 dcd19 pmd19 and19 cdd19 ctd19), sld19⟩)
    (cd19 : PySem.W.codeIn K cdd19 "_law_worths" = true)
    (kd19 : PySem.W.keepIn K (.ref fd19) = true)
    (ad20 : PySem.W.nsIn K mainGlobals "_law_gates" = some (some (.ref fd20)))
    (ld20 : K.lookup fd20 = some ⟨ocd20, odd20, .func (PySem.W.fnOf "_law_gates" "_law_gates" (defArgs sLGates) (defBody sLGates) (defScope sLGates) .none kVd20 dcd20 pmd20 and20 cdd20 ctd20), sld20⟩)
    (cd20 : PySem.W.codeIn K cdd20 "_law_gates" = true)
    (kd20 : PySem.W.keepIn K (.ref fd20) = true)
    (ad21 : PySem.W.nsIn K mainGlobals "_law_wires" = some (some (.ref fd21)))
    (ld21 : K.lookup fd21 = some ⟨ocd21, odd21, .func (PySem.W.fnOf "_law_wires" "_law_wires" (defArgs sLWires) (defBody sLWires) (defScope sLWires) .none kVd21 dcd21 pmd21 and21 cdd21 ctd21), sld21⟩)
    (cd21 : PySem.W.codeIn K cdd21 "_law_wires" = true)
    (kd21 : PySem.W.keepIn K (.ref fd21) = true)
    (ad22 : PySem.W.nsIn K mainGlobals "_law_parts" = some (some (.ref fd22)))
    (ld22 : K.lookup fd22 = some ⟨ocd22, odd22, .func (PySem.W.fnOf "_law_parts" "_law_parts" (defArgs sLParts) (defBody sLParts) (defScope sLParts) .none kVd22 dcd22 pmd22 and22 cdd22 ctd22), sld22⟩)
    (cd22 : PySem.W.codeIn K cdd22 "_law_parts" = true)
    (kd22 : PySem.W.keepIn K (.ref fd22) = true)
    (ad23 : PySem.W.nsIn K mainGlobals "_law_fixed" = some (some (.ref fd23)))
    (ld23 : K.lookup fd23 = some ⟨ocd23, odd23, .func (PySem.W.fnOf "_law_fixed" "_law_fixed" (defArgs sFixed) (defBody sFixed) (defScope sFixed) .none kVd23 dcd23 pmd23 and23 cdd23 ctd23), sld23⟩)
    (cd23 : PySem.W.codeIn K cdd23 "_law_fixed" = true)
    (kd23 : PySem.W.keepIn K (.ref fd23) = true)
    (ad24 : PySem.W.nsIn K mainGlobals "_law_counts" = some (some (.ref fd24)))
    (ld24 : K.lookup fd24 = some ⟨ocd24, odd24, .func (PySem.W.fnOf "_law_counts" "_law_counts" (defArgs sLCounts) (defBody sLCounts) (defScope sLCounts) .none kVd24 dcd24 pmd24 and24 cdd24 ctd24), sld24⟩)
    (cd24 : PySem.W.codeIn K cdd24 "_law_counts" = true)
    (kd24 : PySem.W.keepIn K (.ref fd24) = true)
    (ad25 : PySem.W.nsIn K mainGlobals "_law_givers" = some (some (.ref fd25)))
    (ld25 : K.lookup fd25 = some ⟨ocd25, odd25, .func (PySem.W.fnOf "_law_givers" "_law_givers" (defArgs sGivers) (defBody sGivers) (defScope sGivers) .none kVd25 dcd25 pmd25 and25 cdd25 ctd25), sld25⟩)
    (cd25 : PySem.W.codeIn K cdd25 "_law_givers" = true)
    (kd25 : PySem.W.keepIn K (.ref fd25) = true)
    (ad26 : PySem.W.nsIn K mainGlobals "_law_shared" = some (some (.ref fd26)))
    (ld26 : K.lookup fd26 = some ⟨ocd26, odd26, .func (PySem.W.fnOf "_law_shared" "_law_shared" (defArgs sLShared) (defBody sLShared) (defScope sLShared) .none kVd26 dcd26 pmd26 and26 cdd26 ctd26), sld26⟩)
    (cd26 : PySem.W.codeIn K cdd26 "_law_shared" = true)
    (kd26 : PySem.W.keepIn K (.ref fd26) = true)
    (ad27 : PySem.W.nsIn K mainGlobals "_law_shifts" = some (some (.ref fd27)))
    (ld27 : K.lookup fd27 = some ⟨ocd27, odd27, .func (PySem.W.fnOf "_law_shifts" "_law_shifts" (defArgs sLShifts) (defBody sLShifts) (defScope sLShifts) .none kVd27 dcd27 pmd27 and27 cdd27 ctd27), sld27⟩)
    (cd27 : PySem.W.codeIn K cdd27 "_law_shifts" = true)
    (kd27 : PySem.W.keepIn K (.ref fd27) = true)
    (ad28 : PySem.W.nsIn K mainGlobals "_law_odd" = some (some (.ref fd28)))
    (ld28 : K.lookup fd28 = some ⟨ocd28, odd28, .func (PySem.W.fnOf "_law_odd" "_law_odd" (defArgs sLOdd) (defBody sLOdd) (defScope sLOdd) .none kVd28 dcd28 pmd28 and28 cdd28 ctd28), sld28⟩)
    (cd28 : PySem.W.codeIn K cdd28 "_law_odd" = true)
    (kd28 : PySem.W.keepIn K (.ref fd28) = true)
    (ad29 : PySem.W.nsIn K mainGlobals "_law_told" = some (some (.ref fd29)))
    (ld29 : K.lookup fd29 = some ⟨ocd29, odd29, .func (PySem.W.fnOf "_law_told" "_law_told" (defArgs sLTold) (defBody sLTold) (defScope sLTold) .none kVd29 dcd29 pmd29 and29 cdd29 ctd29), sld29⟩)
    (cd29 : PySem.W.codeIn K cdd29 "_law_told" = true)
    (kd29 : PySem.W.keepIn K (.ref fd29) = true)
    (ad30 : PySem.W.nsIn K mainGlobals "law" = some (some (.ref fd30)))
    (ld30 : K.lookup fd30 = some ⟨ocd30, odd30, .func (PySem.W.fnOf "law" "law" (defArgs sLaw) (defBody sLaw) (defScope sLaw) .none kVd30 dcd30 pmd30 and30 cdd30 ctd30), sld30⟩)
    (cd30 : PySem.W.codeIn K cdd30 "law" = true)
    (kd30 : PySem.W.keepIn K (.ref fd30) = true)
    (am0 : PySem.W.findIn K (.ref C) "__init__" = some (some (.ref fm0)))
    (im0 : PySem.W.isFn K (.ref fm0) = true)
    (lm0 : K.lookup fm0 = some ⟨ocm0, odm0, .func (PySem.W.fnOf "__init__" "Net.__init__" (defArgs sInit) (defBody sInit) (defScope sInit) .none kVm0 dcm0 pmm0 anm0 cdm0 ctm0), slm0⟩)
    (cm0 : PySem.W.codeIn K cdm0 "Net.__init__" = true)
    (km0 : PySem.W.keepIn K (.ref fm0) = true)
    (pgC : PySem.W.plainGet K C Str.empty = true)
    (hdC : PySem.W.hasDictIn K C = true)
    (poC : PySem.W.plainOver K C = true)
    (saC : PySem.W.findIn K (.ref C) "__setattr__" = some (some (.builtin "object.__setattr__")))
    (mkC : PySem.W.makesIn K C = true)
    (kcC : PySem.W.keepIn K (.ref C) = true)
    (nG : PySem.W.findIn K (.ref C) "gates" = some none)
    (nW : PySem.W.findIn K (.ref C) "wires" = some none)
    (aL0 : PySem.W.nsIn K mainGlobals "LagError" = some (some (.ref C0)))
    (gL : PySem.W.specialIn K (.ref C0) "__getattribute__" = some (some (.builtin "type.__getattribute__")))
    (rL : PySem.W.readsIn K C0 (.type "type") = true)
    (vL : PySem.W.findCls K (.ref C0) (.type "type") "__init__" = some (.val (.builtin "ValueError.__init__")))
    (eC0 : PySem.W.subIn K (.ref C0) (.type "BaseException") = some true)
    (iC0 : PySem.W.isClsIn K C0 = true)
    (tC0 : PySem.W.typeIn K (.ref C0) = some (.type "type"))
    (aNL : PySem.W.nsIn K mainGlobals "NoLags" = some (some (.ref CL)))
    (qNL : PySem.W.excIn K CL [.type "ValueError", .type "Exception", .type "BaseException", .type "object"] "ValueError.__new__" = true)
    (kkNL : PySem.W.keepIn K (.ref CL) = true)
    (eNL : PySem.W.subIn K (.ref CL) (.type "BaseException") = some true)
    (ttNL : PySem.W.typeIn K (.ref CL) = some (.type "type"))
    (ciNL : PySem.W.isClsIn K CL = true)
    (sNL : PySem.W.subIn K (.ref CL) (.ref CL) = some true)
    (aNB : PySem.W.nsIn K mainGlobals "NoBeat" = some (some (.ref CB)))
    (aNT : PySem.W.nsIn K mainGlobals "NoLagsThere" = some (some (.ref CT)))
    (aNP : PySem.W.nsIn K mainGlobals "NoPaper" = some (some (.ref CP)))
    (ttNB : PySem.W.typeIn K (.ref CB) = some (.type "type"))
    (ciNB : PySem.W.isClsIn K CB = true)
    (ttNT : PySem.W.typeIn K (.ref CT) = some (.type "type"))
    (ciNT : PySem.W.isClsIn K CT = true)
    (ttNP : PySem.W.typeIn K (.ref CP) = some (.type "type"))
    (ciNP : PySem.W.isClsIn K CP = true)
    (aTN : PySem.W.nsIn K mainGlobals "NotLet" = some (some (.ref CN)))
    (xTN : K.lookup CN = some (excClassObj nmTN qTN CN NTTN bsTN [.ref C0, .type "ValueError", .type "Exception", .type "BaseException", .type "object"] true snTN subTN abTN colTN ddTN m0TN m1TN m2TN m3TN m5TN "ValueError.__new__"))
    (saTN : PySem.W.findIn K (.ref CN) "__setattr__" = some (some (.builtin "object.__setattr__")))
    (noTN : PySem.W.findIn K (.ref CN) "wire" = some none)
    (iTN : PySem.W.findIn K (.ref CN) "__init__" = some (some (.ref fN)))
    (ftTN : PySem.W.typeIn K (.ref fN) = some (.type "function"))
    (lTN : K.lookup fN = some ⟨ocTN, odTN, .func (PySem.W.fnOf "__init__" "NotLet.__init__" (defArgs sNLinit) (defBody sNLinit) (defScope sNLinit) .none kVTN dcTN pmTN anTN cdvTN ctTN), slTN⟩)
    (cdTN : PySem.W.codeIn K cdvTN "NotLet.__init__" = true)
    (kfTN : PySem.W.keepIn K (.ref fN) = true)
    (kkTN : PySem.W.keepIn K (.ref CN) = true)
    (eTN : PySem.W.subIn K (.ref CN) (.type "BaseException") = some true)
    (ttTN : PySem.W.typeIn K (.ref CN) = some (.type "type"))
    (ciTN : PySem.W.isClsIn K CN = true)
    (sTN : PySem.W.subIn K (.ref CN) (.ref CN) = some true)
    (xgNL : PySem.W.findIn K (.ref CL) "__getattribute__" = some (some (.builtin "BaseException.__getattribute__")))
    (xkNL : PySem.W.findIn K (.ref CL) "__getattr__" = some none)
    (xdNL : PySem.W.hasDictIn K CL = true)
    (xaNL : PySem.W.findIn K (.ref CL) "__class__" = some (some (.builtin "object.__class__")))
    (xmNL : PySem.W.mroIn K CL (.type "object") = some true)
    (s0NL : PySem.W.subIn K (.ref CL) (.ref C0) = some true)
    (xgTN : PySem.W.findIn K (.ref CN) "__getattribute__" = some (some (.builtin "BaseException.__getattribute__")))
    (xkTN : PySem.W.findIn K (.ref CN) "__getattr__" = some none)
    (xdTN : PySem.W.hasDictIn K CN = true)
    (xaTN : PySem.W.findIn K (.ref CN) "__class__" = some (some (.builtin "object.__class__")))
    (xmTN : PySem.W.mroIn K CN (.type "object") = some true)
    (s0TN : PySem.W.subIn K (.ref CN) (.ref C0) = some true)
    (uTNNL : PySem.W.subIn K (.ref CN) (.ref CL) = some false)
    (uTNNB : PySem.W.subIn K (.ref CN) (.ref CB) = some false)
    (uTNNT : PySem.W.subIn K (.ref CN) (.ref CT) = some false)
    (uTNNP : PySem.W.subIn K (.ref CN) (.ref CP) = some false)
    (uNLTN : PySem.W.subIn K (.ref CL) (.ref CN) = some false)
    (uNLNB : PySem.W.subIn K (.ref CL) (.ref CB) = some false)
    (uNLNT : PySem.W.subIn K (.ref CL) (.ref CT) = some false)
    (uNLNP : PySem.W.subIn K (.ref CL) (.ref CP) = some false)
    (xn : PySem.W.specialIn K (.builtin "object.__class__") "__get__" = some (some (.builtin "getset_descriptor.__get__")))
    (xt : PySem.W.takesIn K (.builtin "object.__class__") = some true)
    (zisi : PySem.W.nsIn K mainGlobals "isinstance" = some none)
    (zint : PySem.W.nsIn K mainGlobals "int" = some none)
    (zbool : PySem.W.nsIn K mainGlobals "bool" = some none)
    (zlen : PySem.W.nsIn K mainGlobals "len" = some none)
    (ztuple : PySem.W.nsIn K mainGlobals "tuple" = some none)
    (zstr : PySem.W.nsIn K mainGlobals "str" = some none)
    (zlist : PySem.W.nsIn K mainGlobals "list" = some none)
    (zall : PySem.W.nsIn K mainGlobals "all" = some none)
    (zenum : PySem.W.nsIn K mainGlobals "enumerate" = some none)
    (zzip : PySem.W.nsIn K mainGlobals "zip" = some none)
    (zrange : PySem.W.nsIn K mainGlobals "range" = some none)
    (zmax : PySem.W.nsIn K mainGlobals "max" = some none)
    (zsum : PySem.W.nsIn K mainGlobals "sum" = some none)
    (zabs : PySem.W.nsIn K mainGlobals "abs" = some none)
    (zsorted : PySem.W.nsIn K mainGlobals "sorted" = some none)
    (zset : PySem.W.nsIn K mainGlobals "set" = some none)
    (gGW : PySem.W.nsIn K mainGlobals "GREATEST_WORTH" = some (some (.int 96 tGW)))
    (gGA : PySem.W.nsIn K mainGlobals "GREATEST_WAIT" = some (some (.int 100 tGA)))
    (gGL : PySem.W.nsIn K mainGlobals "GREATEST_LAG" = some (some (.int 500 tGL)))
    (gK : PySem.W.nsIn K mainGlobals "KINDS" = some (some (.ref aK)))
    (oK : K.lookup aK = some ⟨.type "tuple", ddK, .seq #[.str "in" tK0, .str "out" tK1, .str "sum" tK2, .str "times" tK3, .str "most" tK4, .str "least" tK5, .str "first" tK6, .str "one" tK7] nnK, ssK⟩)
    (gW : PySem.W.nsIn K mainGlobals "OUTER_KINDS" = some (some (.ref aW)))
    (oW : K.lookup aW = some ⟨.type "tuple", ddW, .seq #[.str "in" tW0, .str "out" tW1] nnW, ssW⟩)
    (gF : PySem.W.nsIn K mainGlobals "KINDS_WITH_A_WIRE" = some (some (.ref aF)))
    (oF : K.lookup aF = some ⟨.type "tuple", ddF, .seq #[.str "out" tF0, .str "first" tF1] nnF, ssF⟩) :
    ∃ fd : FuncData, (∀ (s : Shared) (v : Value), BindsTo s fd ⟨[v], []⟩ [("_law_script", v)]) ∧ ∀ base : Heap, K.In base → base.Ns mainGlobals mg → FnOk l.prog w K mg base CX0 14 fa fd ["_law_script"] (spLaw K) := by
  have e := hfa.symm.trans (PySem.W.mg_of X G ad30)
  cases e
  have Fd0 := fun_mk (st := sWhole) ld0 cd0 kd0
  have Fd1 := fun_mk (st := sFromTo) ld1 cd1 kd1
  have Fd2 := fun_mk (st := sWorth) ld2 cd2 kd2
  have Fd3 := fun_mk (st := sIsGate) ld3 cd3 kd3
  have Fd4 := fun_mk (st := sChkGates) ld4 cd4 kd4
  have Fd5 := fun_mk (st := sIsWire) ld5 cd5 kd5
  have Fd6 := fun_mk (st := sTaken) ld6 cd6 kd6
  have Fd7 := fun_mk (st := sChkWires) ld7 cd7 kd7
  have Fd8 := fun_mk (st := sAlong) ld8 cd8 kd8
  have Fd9 := fun_mk (st := sOrder) ld9 cd9 kd9
  have Fd10 := fun_mk (st := sChkRings) ld10 cd10 kd10
  have Fd11 := fun_mk (st := sOuter) ld11 cd11 kd11
  have Fd12 := fun_mk (st := sChkLags) ld12 cd12 kd12
  have Fd13 := fun_mk (st := sCountsBy) ld13 cd13 kd13
  have Fd14 := fun_mk (st := sCounts) ld14 cd14 kd14
  have Fd15 := fun_mk (st := sLetCounts) ld15 cd15 kd15
  have Fd16 := fun_mk (st := sShared) ld16 cd16 kd16
  have Fd17 := fun_mk (st := sWell) ld17 cd17 kd17
  have Fd18 := fun_mk (st := sDraw) ld18 cd18 kd18
  have Fd19 := fun_mk (st := sLWorths) ld19 cd19 kd19
  have Fd20 := fun_mk (st := sLGates) ld20 cd20 kd20
  have Fd21 := fun_mk (st := sLWires) ld21 cd21 kd21
  have Fd22 := fun_mk (st := sLParts) ld22 cd22 kd22
  have Fd23 := fun_mk (st := sFixed) ld23 cd23 kd23
  have Fd24 := fun_mk (st := sLCounts) ld24 cd24 kd24
  have Fd25 := fun_mk (st := sGivers) ld25 cd25 kd25
  have Fd26 := fun_mk (st := sLShared) ld26 cd26 kd26
  have Fd27 := fun_mk (st := sLShifts) ld27 cd27 kd27
  have Fd28 := fun_mk (st := sLOdd) ld28 cd28 kd28
  have Fd29 := fun_mk (st := sLTold) ld29 cd29 kd29
  have Fd30 := fun_mk (st := sLaw) ld30 cd30 kd30
  have Fm0 := fun_mk (st := sInit) lm0 cm0 km0
  have B : Bt mg := ⟨PySem.W.mg_none_of X G zisi, PySem.W.mg_none_of X G zint, PySem.W.mg_none_of X G zbool, PySem.W.mg_none_of X G zlen, PySem.W.mg_none_of X G ztuple, PySem.W.mg_none_of X G zstr, PySem.W.mg_none_of X G zlist, PySem.W.mg_none_of X G zall, PySem.W.mg_none_of X G zenum, PySem.W.mg_none_of X G zzip, PySem.W.mg_none_of X G zrange, PySem.W.mg_none_of X G zmax⟩
  have b_sum := PySem.W.mg_none_of X G zsum
  have b_abs := PySem.W.mg_none_of X G zabs
  have b_sorted := PySem.W.mg_none_of X G zsorted
  have b_set := PySem.W.mg_none_of X G zset
  have Cn : Cns K mg aK aW aF := ⟨⟨_, PySem.W.mg_of X G gGW⟩, ⟨_, PySem.W.mg_of X G gGA⟩, PySem.W.mg_of X G gK, fun _ => .inr ⟨_, _, _, oK, rfl, rfl, (by show 8 ≤ sizeLine; decide), .cons ⟨_, rfl⟩ (.cons ⟨_, rfl⟩ (.cons ⟨_, rfl⟩ (.cons ⟨_, rfl⟩ (.cons ⟨_, rfl⟩ (.cons ⟨_, rfl⟩ (.cons ⟨_, rfl⟩ (.cons ⟨_, rfl⟩ (.nil))))))))⟩, PySem.W.mg_of X G gW, fun _ => .inr ⟨_, _, _, oW, rfl, rfl, (by show 2 ≤ sizeLine; decide), .cons ⟨_, rfl⟩ (.cons ⟨_, rfl⟩ (.nil))⟩, PySem.W.mg_of X G gF, fun _ => .inr ⟨_, _, _, oF, rfl, rfl, (by show 2 ≤ sizeLine; decide), .cons ⟨_, rfl⟩ (.cons ⟨_, rfl⟩ (.nil))⟩⟩
  have i_GL : ∃ t, mg "GREATEST_LAG" = some (.int 500 t) := ⟨_, PySem.W.mg_of X G gGL⟩
  have T : NT K mg C := ⟨⟨pgC, hdC, poC, saC⟩, nG, nW, PySem.W.mg_of X G aC⟩
  have bm0 := Fm0.binds (ps := ["self", "gates", "wires"]) fun _ _ _ _ _ _ us hl => match us, hl with | [_, _, _], _ => rfl
  refine ⟨PySem.W.fnOf "law" "law" (defArgs sLaw) (defBody sLaw) (defScope sLaw) .none kVd30 dcd30 pmd30 and30 cdd30 ctd30, fun s v => .of_eq rfl, fun base _ _ => ?_⟩
  have whole := ok_whole (P := l.prog) (w := w) (base := base) Fd0 (PySem.W.mg_of X G ad0) B
  have ft := ok_fromTo (P := l.prog) (w := w) (base := base) Fd1 (PySem.W.mg_of X G ad1) whole
  have wo := ok_worth (P := l.prog) (w := w) (base := base) Fd2 (PySem.W.mg_of X G ad2) Cn ft
  have ig := ok_isGate (P := l.prog) (w := w) (base := base) Fd3 (PySem.W.mg_of X G ad3) B Cn ft
  have cg := ok_chkGates (P := l.prog) (w := w) (base := base) Fd4 (PySem.W.mg_of X G ad4) B ig
  have iw := ok_isWire (P := l.prog) (w := w) (base := base) Fd5 (PySem.W.mg_of X G ad5) B ft wo
  have tk := ok_taken (P := l.prog) (w := w) (base := base) Fd6 (PySem.W.mg_of X G ad6)
  have cw := ok_chkWires (P := l.prog) (w := w) (base := base) Fd7 (PySem.W.mg_of X G ad7) B Cn iw tk
  have al := ok_along (P := l.prog) (w := w) (base := base) Fd8 (PySem.W.mg_of X G ad8) B
  have od := ok_order (P := l.prog) (w := w) (base := base) Fd9 (PySem.W.mg_of X G ad9) B al
  have cr := ok_chkRings (P := l.prog) (w := w) (base := base) Fd10 (PySem.W.mg_of X G ad10) B od
  have init := ok_init (P := l.prog) (w := w) (base := base) Fm0 T B cg cw cr
  have MK : Mk K C fm0 := ⟨mkC, am0, im0, kcC⟩
  have ou := ok_outer (P := l.prog) (w := w) (base := base) Fd11 (PySem.W.mg_of X G ad11) Cn
  have cl := ok_chkLags (P := l.prog) (w := w) (base := base) Fd12 (PySem.W.mg_of X G ad12) B T i_GL ou ft
  have cb := ok_countsBy (P := l.prog) (w := w) (base := base) Fd13 (PySem.W.mg_of X G ad13) B T
  have cn := ok_counts (P := l.prog) (w := w) (base := base) Fd14 (PySem.W.mg_of X G ad14) cl cb
  have lc := ok_letCounts (P := l.prog) (w := w) (base := base) Fd15 (PySem.W.mg_of X G ad15) B cn
  have psd := ok_shared (P := l.prog) (w := w) (base := base) Fd16 (PySem.W.mg_of X G ad16) B T b_sum lc
  have wel := ok_well (P := l.prog) (w := w) (base := base) Fd17 (PySem.W.mg_of X G ad17) B
  have drw := ok_draw (P := l.prog) (w := w) (base := base) Fd18 (PySem.W.mg_of X G ad18)
  have lga := ok_lgates (P := l.prog) (w := w) (base := base) Fd20 (PySem.W.mg_of X G ad20) B drw
  have lwo := ok_lworths (P := l.prog) (w := w) (base := base) Fd19 (PySem.W.mg_of X G ad19) B drw
  have lwi := ok_lwires (P := l.prog) (w := w) (base := base) Fd21 (PySem.W.mg_of X G ad21) B drw lwo
  have lpa := ok_lparts (P := l.prog) (w := w) (base := base) Fd22 (PySem.W.mg_of X G ad22) B drw lga lwi
  have L : LEx K mg C0 := ⟨PySem.W.mg_of X G aL0, gL, tC0, rL, vL⟩
  have TN : TEx K mg "NotLet" "wire" CN fN := ⟨PySem.W.mg_of X G aTN, ⟨⟨_, _, _, _, _, _, _, _, _, _, _, _, _, _, _, xTN, by rfl⟩, saTN, eTN, ttTN, kkTN⟩, iTN, ftTN, noTN, ⟨xgTN, xkTN, eTN, xdTN⟩, exm_self eTN ciTN ttTN sTN⟩
  have NL : PEx K mg "NoLags" CL := ⟨PySem.W.mg_of X G aNL, qNL, kkNL, eNL, ttNL, exm_self eNL ciNL ttNL sNL⟩
  have FN := fun_mk (st := sNLinit) lTN cdTN kfTN
  have bN := FN.binds (ps := ["self", "wire"]) fun _ _ _ _ _ _ us hl => match us, hl with | [_, _], _ => rfl
  have nlI := ok_nlInit (P := l.prog) (w := w) (base := base) FN L TN
  have whX := ok_wholeX (P := l.prog) (w := w) (base := base) Fd0 B
  have ftX := ok_fromToX (P := l.prog) (w := w) (base := base) Fd1 whole whX
  have clX := ok_chkX (P := l.prog) (w := w) (base := base) Fd12 B T i_GL ou ft ftX NL
  have cnX := ok_countsX (P := l.prog) (w := w) (base := base) Fd14 clX cl cb
  have lcX := ok_letX (P := l.prog) (w := w) (base := base) Fd15 B cn cnX TN nlI bN
  have shX := ok_sharedX (P := l.prog) (w := w) (base := base) Fd16 B T lc lcX
  have R : TldC K mg C0 CL CN CB CT CP fN := ⟨PySem.W.mg_of X G aL0, PySem.W.mg_of X G aNL, PySem.W.mg_of X G aNB, PySem.W.mg_of X G aNT, PySem.W.mg_of X G aNP, TN, B.isi, exm_of eC0 iC0 tC0 s0NL, exm_of eC0 iC0 tC0 s0TN, if_pos (beq_self_eq_true _), (kit_not ciNL ttNL sTN uTNNL), (kit_not ciTN ttTN sNL uNLTN), if_pos (beq_self_eq_true _), (kitAny_cons (kit_not ciNB ttNB sTN uTNNB) (kitAny_cons (kit_not ciNT ttNT sTN uTNNT) (kitAny_cons (kit_not ciNP ttNP sTN uTNNP) rfl))), (kitAny_cons (kit_not ciNB ttNB sNL uNLNB) (kitAny_cons (kit_not ciNT ttNT sNL uNLNT) (kitAny_cons (kit_not ciNP ttNP sNL uNLNP) rfl))), ⟨xgTN, xkTN, eTN, xdTN, xaTN, xn, xt, xmTN⟩, ⟨xgNL, xkNL, eNL, xdNL, xaNL, xn, xt, xmNL⟩⟩
  have lfx := ok_fixed (P := l.prog) (w := w) (base := base) Fd23 (PySem.W.mg_of X G ad23)
  have lcn := ok_lcounts (P := l.prog) (w := w) (base := base) Fd24 (PySem.W.mg_of X G ad24) B
  have lgi := ok_givers (P := l.prog) (w := w) (base := base) Fd25 (PySem.W.mg_of X G ad25) B b_sorted b_set
  have lsh := ok_lshared (P := l.prog) (w := w) (base := base) Fd26 (PySem.W.mg_of X G ad26) B b_sum lgi
  have lsi := ok_lshifts (P := l.prog) (w := w) (base := base) Fd27 (PySem.W.mg_of X G ad27) B drw lfx lcn
  have lod := ok_lodd (P := l.prog) (w := w) (base := base) Fd28 (PySem.W.mg_of X G ad28) B b_abs drw lfx
  have lto := ok_ltold (P := l.prog) (w := w) (base := base) Fd29 (PySem.W.mg_of X G ad29) R psd (fn_or (fn_cx0 psd.ok) shX)
  exact ok_law Fd30 B T b_sum wel lpa MK init bm0 lsi lcn lsh lto cn lod
end Lag

set_option maxRecDepth 100000
open PySem PySem.W PyProof.Rows
set_option maxRecDepth 100000 in
set_option maxHeartbeats 0 in
theorem PySem.Challenge.cw_lagshift_k74_shared_registers_holds : PySem.Challenge.rw_lagshift_k74_shared_registers.Holds := by
  w_on; o_law; k_head; (case hw => w_witness2)
  k_fill
  refine L2.walk_of (l := PySem.Challenge.rw_lagshift_k74_shared_registers) (n := 63) (k := 14) (x := "_law_script") (CX := fun _ => L2.CX0) (sp := fun w => Lag.spLaw _) rfl (by decide) rfl ⟨rfl, by decide, by decide⟩ (fun w h Y => PySem.W.kIn_of Y) ?F (fun _ _ a ns hl _ hS => ⟨a, ns, rfl, hS, hl, fun _ => rfl⟩) (fun _ _ _ _ _ h => h)
  case F =>
    intro w mg fa h KX G hmg
    refine' Lag.all_mk KX G hmg ?aC ?ad0 ?ld0 ?cd0 ?kd0 ?ad1 ?ld1 ?cd1 ?kd1 ?ad2 ?ld2 ?cd2 ?kd2 ?ad3 ?ld3 ?cd3 ?kd3 ?ad4 ?ld4 ?cd4 ?kd4 ?ad5 ?ld5 ?cd5 ?kd5 ?ad6 ?ld6 ?cd6 ?kd6 ?ad7 ?ld7 ?cd7 ?kd7 ?ad8 ?ld8 ?cd8 ?kd8 ?ad9 ?ld9 ?cd9 ?kd9 ?ad10 ?ld10 ?cd10 ?kd10 ?ad11 ?ld11 ?cd11 ?kd11 ?ad12 ?ld12 ?cd12 ?kd12 ?ad13 ?ld13 ?cd13 ?kd13 ?ad14 ?ld14 ?cd14 ?kd14 ?ad15 ?ld15 ?cd15 ?kd15 ?ad16 ?ld16 ?cd16 ?kd16 ?ad17 ?ld17 ?cd17 ?kd17 ?ad18 ?ld18 ?cd18 ?kd18 ?ad19 ?ld19 ?cd19 ?kd19 ?ad20 ?ld20 ?cd20 ?kd20 ?ad21 ?ld21 ?cd21 ?kd21 ?ad22 ?ld22 ?cd22 ?kd22 ?ad23 ?ld23 ?cd23 ?kd23 ?ad24 ?ld24 ?cd24 ?kd24 ?ad25 ?ld25 ?cd25 ?kd25 ?ad26 ?ld26 ?cd26 ?kd26 ?ad27 ?ld27 ?cd27 ?kd27 ?ad28 ?ld28 ?cd28 ?kd28 ?ad29 ?ld29 ?cd29 ?kd29 ?ad30 ?ld30 ?cd30 ?kd30 ?am0 ?im0 ?lm0 ?cm0 ?km0 ?pgC ?hdC ?poC ?saC ?mkC ?kcC ?nG ?nW ?aL0 ?gL ?rL ?vL ?eC0 ?iC0 ?tC0 ?aNL ?qNL ?kkNL ?eNL ?ttNL ?ciNL ?sNL ?aNB ?aNT ?aNP ?ttNB ?ciNB ?ttNT ?ciNT ?ttNP ?ciNP ?aTN ?xTN ?saTN ?noTN ?iTN ?ftTN ?lTN ?cdTN ?kfTN ?kkTN ?eTN ?ttTN ?ciTN ?sTN ?xgNL ?xkNL ?xdNL ?xaNL ?xmNL ?s0NL ?xgTN ?xkTN ?xdTN ?xaTN ?xmTN ?s0TN ?uTNNL ?uTNNB ?uTNNT ?uTNNP ?uNLTN ?uNLNB ?uNLNT ?uNLNP ?xn ?xt ?zisi ?zint ?zbool ?zlen ?ztuple ?zstr ?zlist ?zall ?zenum ?zzip ?zrange ?zmax ?zsum ?zabs ?zsorted ?zset ?gGW ?gGA ?gGL ?gK ?oK ?gW ?oW ?gF ?oF
    (case aC => k_is)
    (case ad0 => k_is)
    (case ld0 => k_is)
    (case cd0 => k_is)
    (case kd0 => k_is)
    (case ad1 => k_is)
    (case ld1 => k_is)
    (case cd1 => k_is)
    (case kd1 => k_is)
    (case ad2 => k_is)
    (case ld2 => k_is)
    (case cd2 => k_is)
    (case kd2 => k_is)
    (case ad3 => k_is)
    (case ld3 => k_is)
    (case cd3 => k_is)
    (case kd3 => k_is)
    (case ad4 => k_is)
    (case ld4 => k_is)
    (case cd4 => k_is)
    (case kd4 => k_is)
    (case ad5 => k_is)
    (case ld5 => k_is)
    (case cd5 => k_is)
    (case kd5 => k_is)
    (case ad6 => k_is)
    (case ld6 => k_is)
    (case cd6 => k_is)
    (case kd6 => k_is)
    (case ad7 => k_is)
    (case ld7 => k_is)
    (case cd7 => k_is)
    (case kd7 => k_is)
    (case ad8 => k_is)
    (case ld8 => k_is)
    (case cd8 => k_is)
    (case kd8 => k_is)
    (case ad9 => k_is)
    (case ld9 => k_is)
    (case cd9 => k_is)
    (case kd9 => k_is)
    (case ad10 => k_is)
    (case ld10 => k_is)
    (case cd10 => k_is)
    (case kd10 => k_is)
    (case ad11 => k_is)
    (case ld11 => k_is)
    (case cd11 => k_is)
    (case kd11 => k_is)
    (case ad12 => k_is)
    (case ld12 => k_is)
    (case cd12 => k_is)
    (case kd12 => k_is)
    (case ad13 => k_is)
    (case ld13 => k_is)
    (case cd13 => k_is)
    (case kd13 => k_is)
    (case ad14 => k_is)
    (case ld14 => k_is)
    (case cd14 => k_is)
    (case kd14 => k_is)
    (case ad15 => k_is)
    (case ld15 => k_is)
    (case cd15 => k_is)
    (case kd15 => k_is)
    (case ad16 => k_is)
    (case ld16 => k_is)
    (case cd16 => k_is)
    (case kd16 => k_is)
    (case ad17 => k_is)
    (case ld17 => k_is)
    (case cd17 => k_is)
    (case kd17 => k_is)
    (case ad18 => k_is)
    (case ld18 => k_is)
    (case cd18 => k_is)
    (case kd18 => k_is)
    (case ad19 => k_is)
    (case ld19 => k_is)
    (case cd19 => k_is)
    (case kd19 => k_is)
    (case ad20 => k_is)
    (case ld20 => k_is)
    (case cd20 => k_is)
    (case kd20 => k_is)
    (case ad21 => k_is)
    (case ld21 => k_is)
    (case cd21 => k_is)
    (case kd21 => k_is)
    (case ad22 => k_is)
    (case ld22 => k_is)
    (case cd22 => k_is)
    (case kd22 => k_is)
    (case ad23 => k_is)
    (case ld23 => k_is)
    (case cd23 => k_is)
    (case kd23 => k_is)
    (case ad24 => k_is)
    (case ld24 => k_is)
    (case cd24 => k_is)
    (case kd24 => k_is)
    (case ad25 => k_is)
    (case ld25 => k_is)
    (case cd25 => k_is)
    (case kd25 => k_is)
    (case ad26 => k_is)
    (case ld26 => k_is)
    (case cd26 => k_is)
    (case kd26 => k_is)
    (case ad27 => k_is)
    (case ld27 => k_is)
    (case cd27 => k_is)
    (case kd27 => k_is)
    (case ad28 => k_is)
    (case ld28 => k_is)
    (case cd28 => k_is)
    (case kd28 => k_is)
    (case ad29 => k_is)
    (case ld29 => k_is)
    (case cd29 => k_is)
    (case kd29 => k_is)
    (case ad30 => k_is)
    (case ld30 => k_is)
    (case cd30 => k_is)
    (case kd30 => k_is)
    (case am0 => k_is)
    (case im0 => k_is)
    (case lm0 => k_is)
    (case cm0 => k_is)
    (case km0 => k_is)
    (case pgC => k_is)
    (case hdC => k_is)
    (case poC => k_is)
    (case saC => k_is)
    (case mkC => k_is)
    (case kcC => k_is)
    (case nG => k_is)
    (case nW => k_is)
    (case aL0 => k_is)
    (case gL => k_is)
    (case rL => k_is)
    (case vL => k_is)
    (case eC0 => k_is)
    (case iC0 => k_is)
    (case tC0 => k_is)
    (case aNL => k_is)
    (case qNL => k_exc)
    (case kkNL => k_is)
    (case eNL => k_is)
    (case ttNL => k_is)
    (case ciNL => k_is)
    (case sNL => first | rfl | k_is)
    (case aNB => k_is)
    (case aNT => k_is)
    (case aNP => k_is)
    (case ttNB => k_is)
    (case ciNB => k_is)
    (case ttNT => k_is)
    (case ciNT => k_is)
    (case ttNP => k_is)
    (case ciNP => k_is)
    (case aTN => k_is)
    (case xTN => k_is)
    (case saTN => k_is)
    (case noTN => k_is)
    (case iTN => k_is)
    (case ftTN => k_is)
    (case lTN => k_is)
    (case cdTN => k_is)
    (case kfTN => k_is)
    (case kkTN => k_is)
    (case eTN => k_is)
    (case ttTN => k_is)
    (case ciTN => k_is)
    (case sTN => first | rfl | k_is)
    (case xgNL => k_is)
    (case xkNL => k_is)
    (case xdNL => k_is)
    (case xaNL => k_is)
    (case xmNL => k_is)
    (case s0NL => k_is)
    (case xgTN => k_is)
    (case xkTN => k_is)
    (case xdTN => k_is)
    (case xaTN => k_is)
    (case xmTN => k_is)
    (case s0TN => k_is)
    (case uTNNL => k_is)
    (case uTNNB => k_is)
    (case uTNNT => k_is)
    (case uTNNP => k_is)
    (case uNLTN => k_is)
    (case uNLNB => k_is)
    (case uNLNT => k_is)
    (case uNLNP => k_is)
    (case xn => k_is)
    (case xt => k_is)
    (case zisi => k_is)
    (case zint => k_is)
    (case zbool => k_is)
    (case zlen => k_is)
    (case ztuple => k_is)
    (case zstr => k_is)
    (case zlist => k_is)
    (case zall => k_is)
    (case zenum => k_is)
    (case zzip => k_is)
    (case zrange => k_is)
    (case zmax => k_is)
    (case zsum => k_is)
    (case zabs => k_is)
    (case zsorted => k_is)
    (case zset => k_is)
    (case gGW => k_is)
    (case gGA => k_is)
    (case gGL => k_is)
    (case gK => k_is)
    (case oK => k_is)
    (case gW => k_is)
    (case oW => k_is)
    (case gF => k_is)
    (case oF => k_is)

