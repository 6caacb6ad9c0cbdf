import PyProof.Rows.All
import Wide.All
import OpenK.AllK
import Wide.FinOn
import HandS.ForMost
import HandS.IsInst
import HandS.Evl
import HandS.Flow
import HandS.Conv
import HandS.Wide
import HandS.Walk
import HandS.Zip
import HandS.OwnEq
import HandS.Style
import HandS.TupAny
import HandS.More
import HandS.SortInts
import HandS.SetFor
import HandS.TupSets
import HandS.Deep
import PyProof.ReprRoads
import PyProof.Rows.NestShow
import HandS.WordsExc
import HandS.ExcOwn
import HandS.ExcField
import HandS.TryOnly
import HandS.ExcIs
import HandS.ExcInit
import HandS.TryMany
import KE.KNestM
import PySem.Challenge.RW_lagshift_k71_papers_judged
set_option Elab.async false
set_option linter.all false
set_option maxRecDepth 100000
set_option maxHeartbeats 4000000
namespace Lag
open PySem PySem.Spec PyProof.Rows L2
/-! ### the text by its places -/
def topS (i : Nat) : Stmt := PySem.Challenge.pw_lagshift_k71_papers_judged.main.body.getD i (.Pass ⟨0, 0, 0, 0⟩)
/-! ### heaps -/
/-- all stands as it stood but at w -/
def But (w : Addr) (H H' : Hp) : Prop := ∀ b o, b ≠ w → H b = some o → H' b = some o
theorem But.refl (w : Addr) (H : Hp) : But w H H := fun _ _ _ h => h
theorem But.trans {w : Addr} {H H1 H2 : Hp} (a : But w H H1) (b : But w H1 H2) : But w H H2 := fun c o n h => b c o n (a c o n h)
theorem But.same {w : Addr} {H H1 : Hp} (a : Same H H1) : But w H H1 := fun c o _ h => a c o h
theorem But.upd {w : Addr} {H : Hp} {o : HO} : But w H (upd H w o) := fun c u n h => by rw [upd_ne n]; exact h
theorem But.new {w p : Addr} {H : Hp} {o : HO} (h : H p = none) : But w H (L2.upd H p o) := fun c u n e => by rw [upd_ne (ne_of_none e h)]; exact e
theorem same_new {H : Hp} {p : Addr} {o : HO} (h : H p = none) : Same H (upd H p o) := fun b x e => by rw [upd_ne (ne_of_none e h)]; exact e
/-- an object that H does not know may be changed -/
theorem same_mut {H H' : Hp} {p : Addr} {o : HO} (e : Same H H') (h : H p = none) : Same H (upd H' p o) := fun a u ha => by rw [upd_ne (ne_of_none ha h)]; exact e a u ha
theorem But.mut {w p : Addr} {H H' : Hp} {o : HO} (e : But w H H') (h : H p = none) : But w H (L2.upd H' p o) := fun a u n ha => by rw [upd_ne (ne_of_none ha h)]; exact e a u n ha
theorem But.seq {K : PySem.W.Frag} {w a : Addr} {H H' : Hp} {xs : List V} (e : But w H H') (n : a ≠ w) (h : SqL K H a xs) : SqL K H' a xs := by
  rcases h with (h | ⟨o, h⟩) | h
  · exact .inl (.inl (e _ _ n h))
  · exact .inl (.inr ⟨o, e _ _ n h⟩)
  · exact .inr h
/-- at w the well: three numbers -/
def StOk (xs : List V) : Prop := ∃ a b c : Int, xs = [.int a, .int b, .int c]
def WellAt (w : Addr) (H : Hp) : Prop := ∃ xs : List V, H w = some (.lst xs) ∧ StOk xs
theorem WellAt.new {w p : Addr} {H : Hp} {o : HO} (W : WellAt w H) (h : H p = none) : WellAt w (upd H p o) := by
  obtain ⟨xs, e, k⟩ := W
  exact ⟨xs, by rw [upd_ne (ne_of_none e h)]; exact e, k⟩
theorem WellAt.same {w : Addr} {H H' : Hp} (W : WellAt w H) (s : Same H H') : WellAt w H' := by
  obtain ⟨xs, e, k⟩ := W
  exact ⟨xs, s _ _ e, k⟩
theorem WellAt.ne {w p : Addr} {H : Hp} (W : WellAt w H) (h : H p = none) : w ≠ p := by
  obtain ⟨xs, e, k⟩ := W
  exact ne_of_none e h
/-- a draw of the well: what stood stands, the well is one -/
structure Dr (w : Addr) (H H' : Hp) : Prop where
  but : But w H H'
  well : WellAt w H'
theorem Dr.trans {w : Addr} {H H1 H2 : Hp} (a : Dr w H H1) (b : Dr w H1 H2) : Dr w H H2 := ⟨a.but.trans b.but, b.well⟩
theorem Dr.free {w p : Addr} {H H' : Hp} (d : Dr w H H') (W : WellAt w H) (h : H' p = none) : H p = none := by
  cases q : H p with
  | none => rfl
  | some o =>
    have n : p ≠ w := (d.well.ne h).symm
    rw [d.but _ _ n q] at h
    cases h
/-! ### the promises of the draws -/
def spCellAt (K : PySem.W.Frag) : Sp := fun vs H Q _ => ∃ (a : Addr) (ns : List Int) (k : Int), vs = [.ref a, .int k] ∧ 0 ≤ k ∧ SqL K H a (ns.map V.int) ∧ ∀ z : Int, Q (.int z) H
section
variable {P : Program} {w : World} {K : PySem.W.Frag} {mg : Str → Option Value} {base : Heap}
/-- a def at its name: it keeps its promise, its name holds it, its arguments bind -/
structure Df (P : Program) (w : World) (K : PySem.W.Frag) (mg : Str → Option Value) (base : Heap) (k : Nat) (name : Str) (ps : List Str) (sp : Sp) (f : Addr) (fd : FuncData) : Prop where
  ok : FnOk P w K mg base CX0 k f fd ps sp
  mg : mg name = some (.ref f)
  kp : PySem.W.keepIn K (.ref f) = true
  bd : Binds K fd ps []
/-! ### _law_cell_at -/
abbrev DCellAt (P : Program) (w : World) (K : PySem.W.Frag) (mg : Str → Option Value) (base : Heap) := Df P w K mg base 1 "_law_cell_at" ["_law_script", "_law_k"] (spCellAt K)
end
/-! ### what is kept of tuples -/
def isT : HO → Prop
  | .tup _ => True
  | .frz _ _ => True
  | _ => False
/-- tuples, and what is locked, stand as they stood -/
def TK (H H' : Hp) : Prop := ∀ a o, isT o → H a = some o → H' a = some o
theorem TK.refl (H : Hp) : TK H H := fun _ _ _ h => h
theorem TK.trans {H H1 H2 : Hp} (a : TK H H1) (b : TK H1 H2) : TK H H2 := fun c o t h => b c o t (a c o t h)
theorem TK.same {H H1 : Hp} (a : Same H H1) : TK H H1 := fun c o _ h => a c o h
theorem TK.new {p : Addr} {H : Hp} {o : HO} (h : H p = none) : TK H (upd H p o) := TK.same (same_new h)
theorem TK.lst {l : Addr} {H : Hp} {xs : List V} {o : HO} (h : H l = some (.lst xs)) : TK H (upd H l o) := fun c u t e => by
  have n : c ≠ l := fun z => by
    rw [z, h] at e
    cases e
    exact t
  rw [upd_ne n]
  exact e
theorem TK.dr {w : Addr} {H H' : Hp} (W : WellAt w H) (d : But w H H') : TK H H' := fun c u t e => by
  obtain ⟨xs, h, _⟩ := W
  have n : c ≠ w := fun z => by
    rw [z, h] at e
    cases e
    exact t
  exact d _ _ n e
theorem TK.seq {K : PySem.W.Frag} {H H' : Hp} {a : Addr} {xs : List V} (t : TK H H') (h : SqT K H a xs) : SqT K H' a xs := by
  rcases h with (h | ⟨o, h⟩) | h
  · exact .inl (.inl (t _ _ trivial h))
  · exact .inl (.inr ⟨o, t _ _ trivial h⟩)
  · exact .inr h
/-! ### gates and wires as data -/
abbrev Gt := Str × Int
abbrev Wr := Nat × Nat × List Int
def kinds : List Str := ["in", "out", "sum", "times", "most", "least", "first", "one"]
def portK (k : Str) : Prop := k = "in" ∨ k = "out"
/-- a gate -/
def GOk (g : Gt) : Prop := g.1 ∈ kinds ∧ 0 ≤ g.2 ∧ g.2 ≤ 100 ∧ (portK g.1 → g.2 = 0)
def GateV (K : PySem.W.Frag) (H : Hp) (v : V) (g : Gt) : Prop := ∃ a, v = .ref a ∧ SqT K H a [.str g.1, .int g.2]
def WireV (K : PySem.W.Frag) (H : Hp) (v : V) (x : Wr) : Prop := ∃ a b, v = .ref a ∧ SqT K H a [.int x.1, .int x.2.1, .ref b] ∧ SqT K H b (x.2.2.map V.int)
theorem GateV.tk {K : PySem.W.Frag} {H H' : Hp} {v : V} {g : Gt} (t : TK H H') (h : GateV K H v g) : GateV K H' v g := by
  obtain ⟨a, e, s⟩ := h
  exact ⟨a, e, t.seq s⟩
theorem WireV.tk {K : PySem.W.Frag} {H H' : Hp} {v : V} {x : Wr} (t : TK H H') (h : WireV K H v x) : WireV K H' v x := by
  obtain ⟨a, b, e, s, s2⟩ := h
  exact ⟨a, b, e, t.seq s, t.seq s2⟩
theorem Dr.new {wl p : Addr} {H : Hp} {o : HO} (W : WellAt wl H) (h : H p = none) : Dr wl H (upd H p o) := ⟨But.new h, W.new h⟩
def ROk (r : List Int) : Prop := ∀ x ∈ r, 0 ≤ x ∧ x ≤ 96
theorem tyes {σ : L2.St} {H : Hp} {A B : Hp → Prop} (h : A H) : tYes σ H (fun b H3 => if b = true then A H3 else B H3) := by
  show if true = true then A H else B H
  rw [if_pos rfl]
  exact h
/-! ### two lists, place by place -/
def All2 {α β : Type} (R : α → β → Prop) (xs : List α) (ys : List β) : Prop := xs.length = ys.length ∧ ∀ (i : Nat) (x : α) (y : β), xs[i]? = some x → ys[i]? = some y → R x y
section
variable {α β : Type} {R S : α → β → Prop} {xs : List α} {ys : List β} {x : α} {y : β}
theorem All2.nil : All2 R [] [] := ⟨rfl, fun i x y h => by simp at h⟩
theorem All2.imp (h : All2 R xs ys) (f : ∀ x y, R x y → S x y) : All2 S xs ys := ⟨h.1, fun i x y a b => f x y (h.2 i x y a b)⟩
theorem All2.snoc (h : All2 R xs ys) (r : R x y) : All2 R (xs ++ [x]) (ys ++ [y]) := by
  refine ⟨by simp [h.1], fun i a b ha hb => ?_⟩
  by_cases hi : i < xs.length
  · rw [List.getElem?_append_left hi] at ha
    rw [List.getElem?_append_left (by rw [← h.1]; exact hi)] at hb
    exact h.2 i a b ha hb
  · rw [List.getElem?_append_right (by omega)] at ha
    rw [List.getElem?_append_right (by rw [← h.1]; omega), ← h.1] at hb
    cases e : i - xs.length with
    | zero =>
      rw [e] at ha hb
      simp at ha hb
      subst ha hb
      exact r
    | succ n =>
      rw [e] at ha
      simp at ha
theorem All2.cons (r : R x y) (h : All2 R xs ys) : All2 R (x :: xs) (y :: ys) := by
  refine ⟨by simp [h.1], fun i a b ha hb => ?_⟩
  cases i with
  | zero =>
    simp at ha hb
    subst ha hb
    exact r
  | succ n => exact h.2 n a b (by simpa using ha) (by simpa using hb)
theorem All2.head {x : α} {y : β} (h : All2 R (x :: xs) (y :: ys)) : R x y := h.2 0 x y rfl rfl
theorem All2.tail {x : α} {y : β} (h : All2 R (x :: xs) (y :: ys)) : All2 R xs ys := ⟨by have := h.1; simp at this; exact this, fun i a b ha hb => h.2 (i + 1) a b (by simpa using ha) (by simpa using hb)⟩
theorem All2.get (h : All2 R xs ys) {i : Nat} {x : α} (e : xs[i]? = some x) : ∃ y, ys[i]? = some y ∧ R x y := by
  have hi := (List.getElem?_eq_some_iff.mp e).1
  have hj : i < ys.length := by rw [← h.1]; exact hi
  exact ⟨ys[i], List.getElem?_eq_getElem hj, h.2 i x _ e (List.getElem?_eq_getElem hj)⟩
theorem All2.getR (h : All2 R xs ys) {i : Nat} {y : β} (e : ys[i]? = some y) : ∃ x, xs[i]? = some x ∧ R x y := by
  have hi := (List.getElem?_eq_some_iff.mp e).1
  have hj : i < xs.length := by rw [h.1]; exact hi
  exact ⟨xs[i], List.getElem?_eq_getElem hj, h.2 i _ y (List.getElem?_eq_getElem hj) e⟩
theorem All2.perm {xs' : List α} (p : xs'.Perm xs) : ∀ {ys : List β}, All2 R xs ys → ∃ ys', ys'.Perm ys ∧ All2 R xs' ys' := by
  induction p with
  | nil => intro ys h; exact ⟨ys, .refl _, h⟩
  | @cons a l1 l2 p ih =>
    intro ys h
    cases ys with
    | nil => have := h.1; simp at this
    | cons y ys =>
      obtain ⟨ys', p', h'⟩ := ih h.tail
      exact ⟨y :: ys', p'.cons y, h'.cons h.head⟩
  | swap a b l =>
    intro ys h
    match ys, h with
    | [], h => have := h.1; simp at this
    | [_], h => have := h.1; simp at this
    | y :: z :: ys, h => exact ⟨z :: y :: ys, .swap _ _ _, All2.cons h.tail.head (All2.cons h.head h.tail.tail)⟩
  | trans p1 p2 ih1 ih2 =>
    intro ys h
    obtain ⟨ys1, q1, h1⟩ := ih2 h
    obtain ⟨ys2, q2, h2⟩ := ih1 h1
    exact ⟨ys2, q2.trans q1, h2⟩
end
/-! ### nets as data -/
def kindAt (gs : List Gt) (i : Nat) : Str := (gs.getD i ("", 0)).1
def cnt (ws : List Wr) (e : Nat) : Nat := ws.countP (fun x => x.2.1 == e)
/-- a wire between these gates -/
structure WOk (gs : List Gt) (x : Wr) : Prop where
  s : x.1 < gs.length
  e : x.2.1 < gs.length
  ks : kindAt gs x.1 ≠ "out"
  ke : kindAt gs x.2.1 ≠ "in"
  r : ROk x.2.2
  rl : x.2.2.length ≤ 100
structure NetOk (gs : List Gt) (ws : List Wr) : Prop where
  ne : gs ≠ []
  gl : gs.length ≤ 100
  wl : ws.length ≤ 1000
  gok : ∀ g ∈ gs, GOk g
  wok : ∀ x ∈ ws, WOk gs x
  one : ∀ e, e < gs.length → kindAt gs e = "out" → cnt ws e = 1
  some : ∀ e, e < gs.length → kindAt gs e = "first" → 1 ≤ cnt ws e
  rank : ∃ ρ : Nat → Nat, ∀ x ∈ ws, x.2.2 = [] → ρ x.1 < ρ x.2.1
/-- numbered anew: the gate k is the old gate at left's place k -/
theorem NetOk.anew {gs : List Gt} {ws : List Wr} {left : List Nat} (N : NetOk gs ws) (p : left.Perm (List.range gs.length)) {ws' : List Wr} (pw : ws'.Perm ws) :
    NetOk (left.map fun k => gs.getD k ("", 0)) (ws'.map fun x => (left.idxOf x.1, left.idxOf x.2.1, x.2.2)) := by
  have hl : left.length = gs.length := by rw [p.length_eq, List.length_range]
  have nd : left.Nodup := p.nodup_iff.mpr List.nodup_range
  have mem : ∀ i, i < gs.length → i ∈ left := fun i hi => p.mem_iff.mpr (List.mem_range.mpr hi)
  have memb : ∀ i, i ∈ left → i < gs.length := fun i hi => List.mem_range.mp (p.mem_iff.mp hi)
  have il : ∀ i, i < gs.length → left.idxOf i < left.length := fun i hi => List.idxOf_lt_length_iff.mpr (mem i hi)
  have ge : ∀ i (h : i < gs.length), left[left.idxOf i]? = Option.some i := fun i h => by
    rw [List.getElem?_eq_getElem (il i h), List.getElem_idxOf]
  have kk : ∀ i, i < gs.length → kindAt (left.map fun k => gs.getD k ("", 0)) (left.idxOf i) = kindAt gs i := fun i h => by
    unfold kindAt
    rw [List.getD_eq_getElem?_getD, List.getElem?_map, ge i h]
    rfl
  have inj : ∀ i j, i < gs.length → j < gs.length → left.idxOf i = left.idxOf j → i = j := fun i j hi hj e => by
    have h1 := ge i hi
    rw [e, ge j hj] at h1
    exact (Option.some.inj h1).symm
  have cc : ∀ e, e < gs.length → cnt (ws'.map fun x => (left.idxOf x.1, left.idxOf x.2.1, x.2.2)) (left.idxOf e) = cnt ws e := fun e he => by
    unfold cnt
    rw [List.countP_map, ← pw.countP_eq]
    refine List.countP_congr fun x hx => ?_
    have := (N.wok x (pw.mem_iff.mp hx)).e
    simp only [Function.comp, beq_iff_eq]
    exact ⟨fun z => inj _ _ this he z, fun z => by rw [z]⟩
  have back : ∀ e, e < left.length → ∃ i, i < gs.length ∧ left.idxOf i = e := fun e he => by
    refine ⟨left[e], memb _ (List.getElem_mem he), ?_⟩
    exact List.Nodup.idxOf_getElem nd e he
  obtain ⟨ρ, hρ⟩ := N.rank
  refine ⟨?_, by simpa [hl] using N.gl, by simpa [pw.length_eq] using N.wl, ?_, ?_, ?_, ?_, ?_⟩
  · intro z
    have := congrArg List.length z
    simp [hl] at this
    exact N.ne this
  · intro g hg
    obtain ⟨k, hk, rfl⟩ := List.mem_map.mp hg
    refine N.gok _ ?_
    rw [List.getD_eq_getElem?_getD, List.getElem?_eq_getElem (memb k hk)]
    exact List.getElem_mem _
  · intro y hy
    obtain ⟨x, hx, rfl⟩ := List.mem_map.mp hy
    have W := N.wok x (pw.mem_iff.mp hx)
    refine ⟨by simpa using il _ W.s, by simpa using il _ W.e, ?_, ?_, W.r, W.rl⟩
    · show kindAt _ (left.idxOf x.1) ≠ _
      rw [kk _ W.s]
      exact W.ks
    · show kindAt _ (left.idxOf x.2.1) ≠ _
      rw [kk _ W.e]
      exact W.ke
  · intro e he hk
    obtain ⟨i, hi, rfl⟩ := back e (by simpa using he)
    rw [kk i hi] at hk
    rw [cc i hi]
    exact N.one i hi hk
  · intro e he hk
    obtain ⟨i, hi, rfl⟩ := back e (by simpa using he)
    rw [kk i hi] at hk
    rw [cc i hi]
    exact N.some i hi hk
  · refine ⟨fun k => ρ (left.getD k 0), fun y hy h => ?_⟩
    obtain ⟨x, hx, rfl⟩ := List.mem_map.mp hy
    have W := N.wok x (pw.mem_iff.mp hx)
    have := hρ x (pw.mem_iff.mp hx) h
    simp only [List.getD_eq_getElem?_getD, ge _ W.s, ge _ W.e, Option.getD_some]
    exact this
theorem set_well {wl D : Addr} {H0 H : Hp} {o : HO} (d : Dr wl H0 H) (h0 : H0 D = none) (n : D ≠ wl) : Dr wl H0 (upd H D o) := by
  refine ⟨fun c u nc e => ?_, ?_⟩
  · rw [upd_ne (ne_of_none e h0)]
    exact d.but c u nc e
  · obtain ⟨xs, hx, k⟩ := d.well
    exact ⟨xs, by rw [upd_ne n.symm]; exact hx, k⟩
def tLen (K : PySem.W.Frag) (i : Nat) : TE := tCB (Evl.rLenS K) (tCons (tVar i) tNil)
/-- the wires into the gates ahead of i -/
structure WInv (gs : List Gt) (ws : List Wr) (i : Nat) : Prop where
  ok : ∀ x ∈ ws, WOk gs x ∧ (x.2.2 = [] → x.1 < x.2.1) ∧ x.2.1 < i
  one : ∀ e, e < i → kindAt gs e = "out" → cnt ws e = 1
  some : ∀ e, e < i → kindAt gs e = "first" → 1 ≤ cnt ws e
  len : ws.length ≤ 3 * i
  r2 : ∀ x ∈ ws, x.2.2.length ≤ 3
/-- .. and j wires into the gate i -/
structure WInv2 (gs : List Gt) (ws : List Wr) (i j : Nat) : Prop where
  ok : ∀ x ∈ ws, WOk gs x ∧ (x.2.2 = [] → x.1 < x.2.1) ∧ x.2.1 < i + 1
  one : ∀ e, e < i → kindAt gs e = "out" → cnt ws e = 1
  some : ∀ e, e < i → kindAt gs e = "first" → 1 ≤ cnt ws e
  here : cnt ws i = j
  len : ws.length ≤ 3 * i + j
  r2 : ∀ x ∈ ws, x.2.2.length ≤ 3
theorem WInv.go {gs : List Gt} {ws : List Wr} {i : Nat} (h : WInv gs ws i) : WInv2 gs ws i 0 := by
  refine ⟨fun x hx => ⟨(h.ok x hx).1, (h.ok x hx).2.1, by have := (h.ok x hx).2.2; omega⟩, h.one, h.some, ?_, h.len, h.r2⟩
  unfold cnt
  rw [List.countP_eq_zero]
  intro x hx z
  have := (h.ok x hx).2.2
  simp at z
  omega
theorem WInv2.app {gs : List Gt} {ws : List Wr} {i j : Nat} {x : Wr} (h : WInv2 gs ws i j) (hx : WOk gs x) (hr : x.2.2 = [] → x.1 < x.2.1) (he : x.2.1 = i) (h2 : x.2.2.length ≤ 3) : WInv2 gs (ws ++ [x]) i (j + 1) := by
  have c : ∀ e, e < i → cnt (ws ++ [x]) e = cnt ws e := fun e he' => by
    unfold cnt
    rw [List.countP_append]
    have : (x.2.1 == e) = false := by simp; omega
    simp [List.countP_cons, this]
  refine ⟨fun y hy => ?_, fun e h1 h2 => by rw [c e h1]; exact h.one e h1 h2, fun e h1 h2 => by rw [c e h1]; exact h.some e h1 h2, ?_, by have := h.len; simp; omega, fun y hy => ?_⟩
  · rcases List.mem_append.mp hy with hy | hy
    · exact h.ok y hy
    · simp at hy
      subst hy
      exact ⟨hx, hr, by omega⟩
  · have := h.here
    unfold cnt at this ⊢
    rw [List.countP_append, this]
    simp [List.countP_cons, he]
  · rcases List.mem_append.mp hy with hy | hy
    · exact h.r2 y hy
    · simp at hy
      subst hy
      exact h2
theorem WInv2.done {gs : List Gt} {ws : List Wr} {i j : Nat} (h : WInv2 gs ws i j) (h1 : kindAt gs i = "out" → j = 1) (h2 : kindAt gs i = "first" → 1 ≤ j) (hj : j ≤ 3) : WInv gs ws (i + 1) := by
  refine ⟨fun x hx => h.ok x hx, fun e he hk => ?_, fun e he hk => ?_, by have := h.len; omega, h.r2⟩
  · by_cases hi : e = i
    · subst hi
      rw [h.here]
      exact h1 hk
    · exact h.one e (by omega) hk
  · by_cases hi : e = i
    · subst hi
      rw [h.here]
      exact h2 hk
    · exact h.some e (by omega) hk
theorem WInv.net {gs : List Gt} {ws : List Wr} (h : WInv gs ws gs.length) (ne : gs ≠ []) (gl : gs.length ≤ 100) (gok : ∀ g ∈ gs, GOk g) : NetOk gs ws :=
  ⟨ne, gl, by have := h.len; omega, gok, fun x hx => (h.ok x hx).1, h.one, h.some, id, fun x hx hr => (h.ok x hx).2.1 hr⟩
/-- lists of gates, of wires, that stand tracked -/
def LG (K : PySem.W.Frag) (H : Hp) (l : Addr) (gs : List Gt) : Prop := ∃ vs, H l = some (.lst vs) ∧ All2 (GateV K H) vs gs
def LW (K : PySem.W.Frag) (H : Hp) (l : Addr) (ws : List Wr) : Prop := ∃ vs, H l = some (.lst vs) ∧ All2 (WireV K H) vs ws
theorem kindAt_get {gs : List Gt} {i : Nat} {g : Gt} (h : gs[i]? = some g) : kindAt gs i = g.1 := by
  unfold kindAt
  rw [List.getD_eq_getElem?_getD, h]
  rfl
theorem all2_eq {α β : Type} {f : β → α} : ∀ {xs : List α} {ys : List β}, All2 (fun x y => x = f y) xs ys → xs = ys.map f
  | [], [], _ => rfl
  | [], _ :: _, h => by have := h.1; simp at this
  | _ :: _, [], h => by have := h.1; simp at this
  | x :: xs, y :: ys, h => by rw [List.map_cons, ← all2_eq h.tail, ← h.head]
theorem eq_all2 {α β : Type} {f : β → α} (ys : List β) : All2 (fun x y => x = f y) (ys.map f) ys := ⟨by simp, fun i x y h1 h2 => by
  rw [List.getElem?_map, h2] at h1
  exact (Option.some.inj h1).symm⟩
theorem rgV_nat (n : Nat) : rgV 0 (n : Int) = (List.range n).map fun i => V.int (i : Nat) := by
  unfold rgV
  have : ((n : Int) - 0).toNat = n := by omega
  rw [this]
  refine List.map_congr_left fun i _ => ?_
  rw [Int.zero_add]
theorem flat_ints (l : List Nat) : (l.map fun i => V.int (i : Nat)).all flatV = true := by
  rw [List.all_eq_true]
  intro x hx
  obtain ⟨i, _, rfl⟩ := List.mem_map.mp hx
  rfl
/-- where a number stands among numbers without two alike -/
theorem idx_at {left : List Nat} {a : Nat} (h : a ∈ left) : (left.map fun i => V.int (i : Nat))[left.idxOf a]? = some (V.int (a : Nat)) := by
  rw [List.getElem?_map, List.getElem?_eq_getElem (List.idxOf_lt_length_iff.mpr h), List.getElem_idxOf]
  rfl
theorem eqV_int (a b : Int) : eqV (V.int a) (V.int b) = decide (a = b) := rfl
theorem idx_no {left : List Nat} {a m : Nat} {z : V} (nd : left.Nodup) (hm : m < left.idxOf a) (h : (left.map fun i => V.int (i : Nat))[m]? = some z) : eqV z (V.int (a : Nat)) = false := by
  rw [List.getElem?_map] at h
  cases e : left[m]? with
  | none =>
    rw [e] at h
    cases h
  | some b =>
    rw [e] at h
    cases h
    rw [eqV_int]
    refine decide_eq_false fun z => ?_
    have z : b = a := by omega
    obtain ⟨hm', eb⟩ := List.getElem?_eq_some_iff.mp e
    have := List.Nodup.idxOf_getElem nd m hm'
    rw [eb, z] at this
    omega
end Lag


set_option maxRecDepth 100000
set_option maxHeartbeats 4000000
namespace Lag
open PySem PySem.Spec PyProof.Rows L2
abbrev sWhole : Stmt := topS 11
abbrev sFromTo : Stmt := topS 12
abbrev sWorth : Stmt := topS 13
abbrev sIsGate : Stmt := topS 33
abbrev sChkGates : Stmt := topS 32
/-! ### o[i] of a list, by values -/
def rGetL (K : PySem.W.Frag) : V → V → Hp → VK → Prop := fun o i H Q => ∃ (p : Addr) (xs : List V) (j : Nat) (v : V), o = .ref p ∧ i = .int (j : Nat) ∧ SqL K H p xs ∧ xs[j]? = some v ∧ Q v H
theorem get_list {X : Cx} : PGet X (rGetL X.K) := by
  intro pins s σ H o i ov iv Q I ro ri h
  obtain ⟨p, xs, j, v, rfl, rfl, hq, he, q⟩ := h
  cases ro
  obtain ⟨t, rfl⟩ := ri
  obtain ⟨its, r, pl, hz⟩ := I.list hq
  obtain ⟨w, ew, rw'⟩ := r.get he
  have hl := r.length
  have hn := line63
  have hj : j < its.length := (List.getElem?_eq_some_iff.mp ew).1
  exact wpAny_getItem_list pl.isList (by omega) (by omega) (by simpa using ew) ⟨v, H, I, rw', q⟩
/-! ### names of built-ins, constants of the text -/
structure Bt (mg : Str → Option Value) : Prop where
  isi : mg "isinstance" = none
  int : mg "int" = none
  bool : mg "bool" = none
  len : mg "len" = none
  tuple : mg "tuple" = none
  str : mg "str" = none
  list : mg "list" = none
  all : mg "all" = none
  enum : mg "enumerate" = none
  zip : mg "zip" = none
  range : mg "range" = none
  max : mg "max" = none
structure Cns (K : PySem.W.Frag) (mg : Str → Option Value) (aK aW aF : Addr) : Prop where
  gw : ∃ t, mg "GREATEST_WORTH" = some (.int 96 t)
  ga : ∃ t, mg "GREATEST_WAIT" = some (.int 100 t)
  mK : mg "KINDS" = some (.ref aK)
  sK : ∀ H, SqT K H aK (kinds.map V.str)
  mW : mg "OUTER_KINDS" = some (.ref aW)
  sW : ∀ H, SqT K H aW [.str "in", .str "out"]
  mF : mg "KINDS_WITH_A_WIRE" = some (.ref aF)
  sF : ∀ H, SqT K H aF [.str "out", .str "first"]
theorem ty_tup {K : PySem.W.Frag} {H : Hp} {a : Addr} {xs : List V} (h : SqT K H a xs) : TyX K H (.ref a) (.type "tuple") := by
  rcases h with (h | ⟨o, h⟩) | ⟨o, its, n, hk, hc, _⟩
  · exact .base (.tup h)
  · exact .fTuple h
  · exact .kTuple hk hc
theorem ty_lst {K : PySem.W.Frag} {H : Hp} {a : Addr} {xs : List V} (h : SqL K H a xs) : TyX K H (.ref a) (.type "list") := by
  rcases h with (h | ⟨o, h⟩) | ⟨o, its, n, hk, hc, _⟩
  · exact .base (.lst h)
  · exact .base (.frz h)
  · exact .kList hk hc
/-! ### promises -/
def spWhole : Sp := fun vs H Q _ => ∃ n : Int, vs = [.int n] ∧ Q (.bl true) H
def spFromTo : Sp := fun vs H Q _ => ∃ n a b : Int, vs = [.int n, .int a, .int b] ∧ Q (.bl (decide (a ≤ n) && decide (n ≤ b))) H
def spWorth : Sp := fun vs H Q _ => ∃ n : Int, vs = [.int n] ∧ Q (.bl (decide (0 ≤ n) && decide (n ≤ 96))) H
def spIsGate (K : PySem.W.Frag) : Sp := fun vs H Q _ => ∃ (v : V) (g : Gt), vs = [v] ∧ GateV K H v g ∧ GOk g ∧ ∀ H', Same H H' → Q (.bl true) H'
/-- lists that are read -/
def RG (K : PySem.W.Frag) (H : Hp) (l : Addr) (gs : List Gt) : Prop := ∃ vs, SqL K H l vs ∧ All2 (GateV K H) vs gs
def RW (K : PySem.W.Frag) (H : Hp) (l : Addr) (ws : List Wr) : Prop := ∃ vs, SqL K H l vs ∧ All2 (WireV K H) vs ws
theorem RG.same {K : PySem.W.Frag} {H H' : Hp} {l : Addr} {gs : List Gt} (h : RG K H l gs) (s : Same H H') : RG K H' l gs := by
  obtain ⟨vs, q, a⟩ := h
  exact ⟨vs, s.seq q, a.imp fun _ _ r => r.tk (TK.same s)⟩
theorem RW.same {K : PySem.W.Frag} {H H' : Hp} {l : Addr} {ws : List Wr} (h : RW K H l ws) (s : Same H H') : RW K H' l ws := by
  obtain ⟨vs, q, a⟩ := h
  exact ⟨vs, s.seq q, a.imp fun _ _ r => r.tk (TK.same s)⟩
def spChkGates (K : PySem.W.Frag) : Sp := fun vs H Q _ => ∃ (l : Addr) (gs : List Gt), vs = [.ref l] ∧ RG K H l gs ∧ gs ≠ [] ∧ (∀ g ∈ gs, GOk g) ∧ ∀ H', Same H H' → Q .non H'
section
variable {P : Program} {w : World} {K : PySem.W.Frag} {mg : Str → Option Value} {base : Heap}
/-! ### is_whole, is_whole_from_to, is_worth -/
theorem scWhole : FnScope ["thing"] ["thing"] (defScope sWhole) := ⟨rfl, rfl, rfl, by decide +kernel, rfl, by decide +kernel, by decide +kernel⟩
abbrev DWhole (P : Program) (w : World) (K : PySem.W.Frag) (mg : Str → Option Value) (base : Heap) := Df P w K mg base 1 "is_whole" ["thing"] spWhole
theorem ok_whole {f : Addr} {fd : FuncData} (F : Fun K "is_whole" "is_whole" sWhole f fd) (hm : mg "is_whole" = some (.ref f)) (B : Bt mg) : DWhole P w K mg base f fd := by
  refine ⟨?_, hm, F.kp, F.binds fun _ _ _ _ _ _ us hl => match us, hl with | [_], _ => rfl⟩
  refine F.ok scWhole (fun vs H Q E h => ?_) (fun cdv A outer s H vs Q E hr h => ?_)
  · obtain ⟨n, rfl, _⟩ := h
    rfl
  · obtain ⟨n, rfl, q⟩ := h
    refine ⟨_, pss_one <| ps_ret <| pe_and (pe_callB call_isi (by rfl) B.isi (by decide +kernel) (pa_cons (pv 0) (pa_cons (pe_bltn (v := .ty "int") (by rfl) B.int (by decide +kernel) rfl) pa_nil)))
      (pe_one (pe_not (pe_callB call_isi (by rfl) B.isi (by decide +kernel) (pa_cons (pv 0) (pa_cons (pe_bltn (v := .ty "bool") (by rfl) B.bool (by decide +kernel) rfl) pa_nil))))), ?_⟩
    refine ⟨_, rfl, _, _, _, _, true, rfl, .ty "int", .base (.int n), kit_ty (by decide +kernel), true, rfl, iteT ?_⟩
    exact ⟨_, rfl, _, _, _, _, false, rfl, .ty "bool", .base (.int n), kit_ty (by decide +kernel), false, rfl, q⟩
theorem scFromTo : FnScope ["thing", "least", "greatest"] ["thing", "least", "greatest"] (defScope sFromTo) := ⟨rfl, rfl, rfl, by decide +kernel, rfl, by decide +kernel, by decide +kernel⟩
abbrev DFromTo (P : Program) (w : World) (K : PySem.W.Frag) (mg : Str → Option Value) (base : Heap) := Df P w K mg base 2 "is_whole_from_to" ["thing", "least", "greatest"] spFromTo
theorem ok_fromTo {f fW : Addr} {fd fdW : FuncData} (F : Fun K "is_whole_from_to" "is_whole_from_to" sFromTo f fd) (hm : mg "is_whole_from_to" = some (.ref f)) (DW : DWhole P w K mg base fW fdW) : DFromTo P w K mg base f fd := by
  refine ⟨?_, hm, F.kp, F.binds fun _ _ _ _ _ _ us hl => match us, hl with | [_, _, _], _ => rfl⟩
  refine F.ok scFromTo (fun vs H Q E h => ?_) (fun cdv A outer s H vs Q E hr h => ?_)
  · obtain ⟨n, a, b, rfl, _⟩ := h
    rfl
  · obtain ⟨n, a, b, rfl, q⟩ := h
    refine ⟨_, pss_one <| ps_ret <| pe_and (pe_call DW.ok hr (by rfl) DW.mg DW.kp DW.bd .nil pass0 (pa_cons (pv 0) pa_nil)) (pe_one (pe_chain op_le op_le (pv 1) (pv 0) (pv 2))), ?_⟩
    refine ⟨_, rfl, n, rfl, true, rfl, iteT ?_⟩
    refine ⟨_, rfl, _, rfl, _, _, rfl, rfl, _, rfl, ?_⟩
    cases e : decide (a ≤ n) with
    | false =>
      rw [e] at q
      exact iteF q
    | true =>
      rw [e] at q
      exact iteT ⟨_, rfl, _, _, rfl, rfl, q⟩
theorem scWorth : FnScope ["thing"] ["thing"] (defScope sWorth) := ⟨rfl, rfl, rfl, by decide +kernel, rfl, by decide +kernel, by decide +kernel⟩
abbrev DWorth (P : Program) (w : World) (K : PySem.W.Frag) (mg : Str → Option Value) (base : Heap) := Df P w K mg base 3 "is_worth" ["thing"] spWorth
theorem ok_worth {f fF aK aW aF : Addr} {fd fdF : FuncData} (F : Fun K "is_worth" "is_worth" sWorth f fd) (hm : mg "is_worth" = some (.ref f)) (C : Cns K mg aK aW aF) (DF : DFromTo P w K mg base fF fdF) : DWorth P w K mg base f fd := by
  obtain ⟨tg, hgw⟩ := C.gw
  refine ⟨?_, hm, F.kp, F.binds fun _ _ _ _ _ _ us hl => match us, hl with | [_], _ => rfl⟩
  refine F.ok scWorth (fun vs H Q E h => ?_) (fun cdv A outer s H vs Q E hr h => ?_)
  · obtain ⟨n, rfl, _⟩ := h
    rfl
  · obtain ⟨n, rfl, q⟩ := h
    refine ⟨_, pss_one <| ps_ret <| pe_call DF.ok hr (by rfl) DF.mg DF.kp DF.bd .nil pass0 <| pa_cons (pv 0) <| pa_cons pe_int <| pa_cons (pe_glob (v := .int 96) (by rfl) hgw ⟨_, rfl⟩) pa_nil, ?_⟩
    exact ⟨_, rfl, n, 0, 96, rfl, q⟩
/-! ### is_gate -/
theorem scIsGate : FnScope ["thing", "kind", "wait"] ["thing"] (defScope sIsGate) := ⟨rfl, rfl, rfl, by decide +kernel, rfl, by decide +kernel, by decide +kernel⟩
abbrev DIsGate (P : Program) (w : World) (K : PySem.W.Frag) (mg : Str → Option Value) (base : Heap) := Df P w K mg base 3 "is_gate" ["thing"] (spIsGate K)
theorem kinds_in {k : Str} (h : k ∈ kinds) : inV (.str k) (kinds.map V.str) = true := by
  unfold inV
  rw [List.any_eq_true]
  exact ⟨.str k, List.mem_map.mpr ⟨k, h, rfl⟩, beq_self_eq_true k⟩
theorem flat_strs (l : List Str) : (l.map V.str).all flatV = true := by
  rw [List.all_eq_true]
  intro x hx
  obtain ⟨i, _, rfl⟩ := List.mem_map.mp hx
  rfl
theorem ok_isGate {f fF aK aW aF : Addr} {fd fdF : FuncData} (F : Fun K "is_gate" "is_gate" sIsGate f fd) (hm : mg "is_gate" = some (.ref f)) (B : Bt mg) (C : Cns K mg aK aW aF) (DF : DFromTo P w K mg base fF fdF) : DIsGate P w K mg base f fd := by
  obtain ⟨tg, hga⟩ := C.ga
  refine ⟨?_, hm, F.kp, F.binds fun _ _ _ _ _ _ us hl => match us, hl with | [_], _ => rfl⟩
  refine F.ok scIsGate (fun vs H Q E h => ?_) (fun cdv A outer s H vs Q E hr h => ?_)
  · obtain ⟨v, g, rfl, _⟩ := h
    rfl
  · obtain ⟨v, g, rfl, ⟨a, rfl, sq⟩, gok, q⟩ := h
    have nd := scIsGate.nd
    refine ⟨_, pss_cons (ps_if (PW.pt (pw_or (pt_not (pt_val (pe_callB call_isi (by rfl) B.isi (by decide +kernel) (pa_cons (pv 0) (pa_cons (pe_bltn (v := .ty "tuple") (by rfl) B.tuple (by decide +kernel) rfl) pa_nil)))))
          (pw_or1 (pt_cmpR op_ne (pe_callB call_len_seq (by rfl) B.len PySem.boot_len (pa_cons (pv 0) pa_nil)) pe_int (nomark _))))) (pss_one (ps_ret pe_bl)) pss_nil) <|
      pss_cons (ps_asg (pv 0) (pg_tup (by rfl) (pgs_cons (pg_name (i := 1) nd rfl (.inl rfl)) (pgs_cons (pg_name (i := 2) nd rfl (.inl rfl)) pgs_nil)))) <|
      pss_cons (ps_if (PW.pt (pw_or (pt_not (pt_val (pe_callB call_isi (by rfl) B.isi (by decide +kernel) (pa_cons (pv 1) (pa_cons (pe_bltn (v := .ty "str") (by rfl) B.str (by decide +kernel) rfl) pa_nil)))))
          (pw_or1 (pt_cmpR op_notIn_seq (pv 1) (pe_glob (v := .ref aK) (by rfl) C.mK rfl) (by rfl))))) (pss_one (ps_ret pe_bl)) pss_nil) <|
      pss_one <| ps_ret <| pe_call DF.ok hr (by rfl) DF.mg DF.kp DF.bd .nil pass0 <| pa_cons (pv 2) <| pa_cons pe_int <| (pa_cons · pa_nil) <|
        pe_ifExp (pt_cmpR op_in_seq (pv 1) (pe_glob (v := .ref aW) (by rfl) C.mW rfl) (by rfl)) pe_int (pe_glob (v := .int 100) (by rfl) hga ⟨_, rfl⟩), ?_⟩
    refine ⟨_, rfl, _, _, _, _, true, rfl, .ty "tuple", ty_tup sq, kit_ty (by decide +kernel), true, rfl, ?_⟩
    refine iteF ⟨_, rfl, a, _, rfl, .inr sq, rfl, _, rfl, iteF ?_⟩
    refine ⟨_, rfl, a, _, rfl, sq, rfl, _, _, rfl, _, _, rfl, rfl, ?_⟩
    refine ⟨_, rfl, _, _, _, _, true, rfl, .ty "str", .base (.str g.1), kit_ty (by decide +kernel), true, rfl, ?_⟩
    refine iteF ⟨_, rfl, aK, _, rfl, .inr (C.sK H), rfl, flat_strs _, false, ?_, iteF ?_⟩
    · show V.bl (!inV (V.str g.1) (kinds.map V.str)) = V.bl false
      rw [kinds_in gok.1]
      rfl
    refine ⟨_, rfl, _, rfl, aW, _, rfl, .inr (C.sW H), rfl, rfl, _, rfl, ite2 (fun e => ?_) (fun e => ?_)⟩
    · have hp : portK g.1 := by
        have e' : inV (V.str g.1) [V.str "in", V.str "out"] = true := e
        unfold inV at e'
        rw [List.any_eq_true] at e'
        obtain ⟨x, hx, hxe⟩ := e'
        simp only [List.mem_cons, List.not_mem_nil, or_false] at hx
        rcases hx with rfl | rfl
        · exact .inl (eq_of_beq hxe).symm
        · exact .inr (eq_of_beq hxe).symm
      have h0 := gok.2.2.2 hp
      refine ⟨g.2, 0, 0, rfl, ?_⟩
      rw [h0]
      exact q H (Same.refl H)
    · refine ⟨g.2, 0, 100, rfl, ?_⟩
      rw [decide_eq_true gok.2.1, decide_eq_true gok.2.2.1]
      exact q H (Same.refl H)
end
end Lag


set_option maxRecDepth 100000
set_option maxHeartbeats 4000000
namespace Lag
open PySem PySem.Spec PyProof.Rows L2
abbrev sIsWire : Stmt := topS 35
abbrev sTaken : Stmt := topS 36
def spIsWire (K : PySem.W.Frag) : Sp := fun vs H Q _ => ∃ (v : V) (x : Wr) (n : Nat), vs = [v, .int (n : Nat)] ∧ WireV K H v x ∧ x.1 < n ∧ x.2.1 < n ∧ ROk x.2.2 ∧ x.2.2.length ≤ 1000 ∧ ∀ H', Same H H' → Q (.bl true) H'
def spTaken (K : PySem.W.Frag) : Sp := fun vs H Q _ => ∃ (v : V) (x : Wr) (lg lc : Addr) (gs : List Gt) (cs : List Nat), vs = [v, .ref lg, .ref lc] ∧ WireV K H v x ∧ RG K H lg gs ∧ SqL K H lc (cs.map fun i => V.int (i : Nat)) ∧ WOk gs x ∧ cs.length = gs.length ∧
  (kindAt gs x.2.1 = "out" → cs[x.2.1]? = some 0) ∧ Q (.bl true) H
section
variable {P : Program} {w : World} {K : PySem.W.Frag} {mg : Str → Option Value} {base : Heap}
/-! ### check_gates -/
theorem scChkGates : FnScope ["gates", "thing"] ["gates"] (defScope sChkGates) := ⟨rfl, rfl, rfl, by decide +kernel, rfl, by decide +kernel, by decide +kernel⟩
abbrev DChkGates (P : Program) (w : World) (K : PySem.W.Frag) (mg : Str → Option Value) (base : Heap) := Df P w K mg base 4 "check_gates" ["gates"] (spChkGates K)
theorem ok_chkGates {f fG : Addr} {fd fdG : FuncData} (F : Fun K "check_gates" "check_gates" sChkGates f fd) (hm : mg "check_gates" = some (.ref f)) (B : Bt mg) (DG : DIsGate P w K mg base fG fdG) : DChkGates P w K mg base f fd := by
  refine ⟨?_, hm, F.kp, F.binds fun _ _ _ _ _ _ us hl => match us, hl with | [_], _ => rfl⟩
  refine F.ok scChkGates (fun vs H Q E h => ?_) (fun cdv A outer s H vs Q E hr h => ?_)
  · obtain ⟨l, gs, rfl, _⟩ := h
    rfl
  · obtain ⟨l, gs, rfl, R, hne, gok, q⟩ := h
    have nd := scChkGates.nd
    refine ⟨_, pss_cons (ps_if (PW.pt (pw_or (pt_not (pt_val (pe_callB call_isi (by rfl) B.isi (by decide +kernel) (pa_cons (pv 0) (pa_cons (pe_bltn (v := .ty "list") (by rfl) B.list (by decide +kernel) rfl) pa_nil)))))
          (pw_or1 (pt_cmpR op_eq (pe_callB call_len_seq (by rfl) B.len PySem.boot_len (pa_cons (pv 0) pa_nil)) pe_int (nomark _))))) (pss_one ps_never) pss_nil) <|
      pss_one <| ps_for PassesOwn.never rfl (pi_list (pv 0)) (pg_name (i := 1) nd rfl (.inl rfl)) <|
        pss_one <| ps_if (pt_not (pt_val (pe_call DG.ok hr (by rfl) DG.mg DG.kp DG.bd .nil pass0 (pa_cons (pv 1) pa_nil)))) (pss_one ps_never) pss_nil, ?_⟩
    obtain ⟨gv, sg, ga⟩ := R
    have hl : gv.length = gs.length := ga.1
    have hpos : 0 < gs.length := by
      cases gs with
      | nil => exact absurd rfl hne
      | cons _ _ => simp
    refine ⟨_, rfl, _, _, _, _, true, rfl, .ty "list", ty_lst sg, kit_ty (by decide +kernel), true, rfl, ?_⟩
    refine iteF ⟨_, rfl, l, gv, rfl, .inl sg, rfl, false, ?_, iteF ?_⟩
    · show V.bl (decide (V.int (gv.length : Int) = V.int 0)) = V.bl false
      rw [decide_eq_false]
      intro z
      have := V.int.inj z
      omega
    refine ⟨_, rfl, l, rfl, ⟨_, sg⟩, for_list (K := K) (a := l) (xs := gv) (fun i σ H2 => ∃ y, σ = [some (.ref l), y] ∧ Same H H2) ⟨_, rfl, Same.refl H⟩ (fun i σ H2 _ ⟨_, _, sm⟩ => sm.seq sg) ?_ ?_⟩
    · rintro i x σ H2 hx ⟨y, rfl, sm⟩
      obtain ⟨g, hg, gv⟩ := ga.get hx
      refine ⟨_, rfl, x, g, rfl, gv.tk (TK.same sm), gok g (List.mem_of_getElem? hg), fun H3 sm3 => ⟨true, rfl, iteF ⟨_, rfl, sm.trans sm3⟩⟩⟩
    · rintro σ H2 ⟨y, rfl, sm⟩
      exact q H2 sm
/-! ### is_wire -/
abbrev nIsWire : List Str := ["thing", "many_gates", "start", "end", "held", "worth"]
theorem scIsWire : FnScope nIsWire ["thing", "many_gates"] (defScope sIsWire) := ⟨rfl, rfl, rfl, by decide +kernel, rfl, by decide +kernel, by decide +kernel⟩
abbrev DIsWire (P : Program) (w : World) (K : PySem.W.Frag) (mg : Str → Option Value) (base : Heap) := Df P w K mg base 4 "is_wire" ["thing", "many_gates"] (spIsWire K)
theorem ok_isWire {f fF fW : Addr} {fd fdF fdW : FuncData} (F : Fun K "is_wire" "is_wire" sIsWire f fd) (hm : mg "is_wire" = some (.ref f)) (B : Bt mg) (DF : DFromTo P w K mg base fF fdF) (DW : DWorth P w K mg base fW fdW) : DIsWire P w K mg base f fd := by
  refine ⟨?_, hm, F.kp, F.binds fun _ _ _ _ _ _ us hl => match us, hl with | [_, _], _ => rfl⟩
  refine F.ok scIsWire (fun vs H Q E h => ?_) (fun cdv A outer s H vs Q E hr h => ?_)
  · obtain ⟨v, x, n, rfl, _⟩ := h
    rfl
  · obtain ⟨v, x, n, rfl, ⟨a, b, rfl, sq1, sq2⟩, hs, he, rok, rl, q⟩ := h
    have nd := scIsWire.nd
    have hr2 : Room 2 _ := hr.mono (by decide)
    refine ⟨_, pss_cons (ps_if (PW.pt (pw_or (pt_not (pt_val (pe_callB call_isi (by rfl) B.isi (by decide +kernel) (pa_cons (pv 0) (pa_cons (pe_bltn (v := .ty "tuple") (by rfl) B.tuple (by decide +kernel) rfl) pa_nil)))))
          (pw_or1 (pt_cmpR op_ne (pe_callB call_len_seq (by rfl) B.len PySem.boot_len (pa_cons (pv 0) pa_nil)) pe_int (nomark _))))) (pss_one (ps_ret pe_bl)) pss_nil) <|
      pss_cons (ps_asg (pv 0) (pg_tup (by rfl) (pgs_cons (pg_name (i := 2) nd rfl (.inl rfl)) (pgs_cons (pg_name (i := 3) nd rfl (.inl rfl)) (pgs_cons (pg_name (i := 4) nd rfl (.inl rfl)) pgs_nil))))) <|
      pss_cons (ps_if (PW.pt (pw_or (pt_not (pt_val (pe_call DF.ok hr2 (by rfl) DF.mg DF.kp DF.bd .nil pass0 (pa_cons (pv 2) (pa_cons pe_int (pa_cons (pe_op op_sub (pv 1) pe_int) pa_nil))))))
          (pw_or1 (pt_not (pt_val (pe_call DF.ok hr2 (by rfl) DF.mg DF.kp DF.bd .nil pass0 (pa_cons (pv 3) (pa_cons pe_int (pa_cons (pe_op op_sub (pv 1) pe_int) pa_nil))))))))) (pss_one (ps_ret pe_bl)) pss_nil) <|
      pss_one <| ps_ret <| pe_and (pe_callB call_isi (by rfl) B.isi (by decide +kernel) (pa_cons (pv 4) (pa_cons (pe_bltn (v := .ty "tuple") (by rfl) B.tuple (by decide +kernel) rfl) pa_nil))) <| pe_one <|
        pe_callB (cr_all rfl) (by rfl) B.all (by decide +kernel) <| (pa_cons · pa_nil) <| pe_lc (own := [("worth", 5)]) (g := gName 5) (tt := tYes) (te := tCall spWorth [] E0 (tCons (tVar 5) tNil)) rfl nd (pi_tup (pv 4)) (blkOk_by (N := nIsWire) (sc := defScope sIsWire) (own := [("worth", 5)]) (by decide +kernel))
          (fun _ _ _ _ _ => pg_name (i := 5) nd rfl (.inl rfl)) (fun _ _ _ _ _ => pts_nil) (fun _ _ _ _ _ => pe_call DW.ok hr (by rfl) DW.mg DW.kp DW.bd .nil pass0 (pa_cons (pv 5) pa_nil)), ?_⟩
    refine ⟨_, rfl, _, _, _, _, true, rfl, .ty "tuple", ty_tup sq1, kit_ty (by decide +kernel), true, rfl, ?_⟩
    refine iteF ⟨_, rfl, a, _, rfl, .inr sq1, rfl, _, rfl, iteF ?_⟩
    refine ⟨_, rfl, a, _, rfl, sq1, rfl, _, _, rfl, _, _, rfl, _, _, rfl, rfl, ?_⟩
    refine ⟨_, rfl, _, rfl, _, _, rfl, rfl, _, _, _, rfl, true, ?_, iteF ?_⟩
    · rw [decide_eq_true (by omega), decide_eq_true (by omega)]
      rfl
    refine ⟨_, rfl, _, rfl, _, _, rfl, rfl, _, _, _, rfl, true, ?_, iteF ?_⟩
    · rw [decide_eq_true (by omega), decide_eq_true (by omega)]
      rfl
    refine ⟨_, rfl, _, _, _, _, true, rfl, .ty "tuple", ty_tup sq2, kit_ty (by decide +kernel), true, rfl, iteT ?_⟩
    refine ⟨_, rfl, b, rfl, ⟨_, sq2⟩, fun D hD => ?_⟩
    refine lc_tup (K := K) (a := b) (xs := x.2.2.map V.int) (fun i Hc => Hc D = some (.lst ((List.replicate i true).map V.bl)) ∧ Same H Hc) ⟨upd_same, same_new hD⟩ (fun i Hc _ ⟨_, sm⟩ => (TK.same sm).seq sq2) ?_ ?_
    · rintro i y Hc hy ⟨hc, sm⟩
      rw [List.getElem?_map] at hy
      cases ey : x.2.2[i]? with
      | none =>
        rw [ey] at hy
        cases hy
      | some z =>
      rw [ey] at hy
      cases hy
      have hz := rok z (List.mem_of_getElem? ey)
      have hi : i < x.2.2.length := (List.getElem?_eq_some_iff.mp ey).1
      refine ⟨rfl, tyes ?_⟩
      refine ⟨_, rfl, z, rfl, _, hc, by rw [List.length_map, List.length_replicate]; exact small1000 (by omega), ?_, same_mut sm hD⟩
      rw [upd_same, decide_eq_true hz.1, decide_eq_true hz.2, List.replicate_succ', List.map_append]
      rfl
    · rintro Hc ⟨hc, sm⟩
      refine ⟨D, _, rfl, SqL.of hc, ?_⟩
      have e : (List.replicate (x.2.2.map V.int).length true).all id = true := by
        rw [List.all_eq_true]
        intro y hy
        rw [List.mem_replicate] at hy
        rw [hy.2]
        rfl
      rw [e]
      exact q Hc sm
/-! ### is_taken -/
theorem scTaken : FnScope ["wire", "gates", "come", "start", "end"] ["wire", "gates", "come"] (defScope sTaken) := ⟨rfl, rfl, rfl, by decide +kernel, rfl, by decide +kernel, by decide +kernel⟩
abbrev DTaken (P : Program) (w : World) (K : PySem.W.Frag) (mg : Str → Option Value) (base : Heap) := Df P w K mg base 1 "is_taken" ["wire", "gates", "come"] (spTaken K)
theorem ok_taken {f : Addr} {fd : FuncData} (F : Fun K "is_taken" "is_taken" sTaken f fd) (hm : mg "is_taken" = some (.ref f)) : DTaken P w K mg base f fd := by
  refine ⟨?_, hm, F.kp, F.binds fun _ _ _ _ _ _ us hl => match us, hl with | [_, _, _], _ => rfl⟩
  refine F.ok scTaken (fun vs H Q E h => ?_) (fun cdv A outer s H vs Q E hr h => ?_)
  · obtain ⟨v, x, lg, lc, gs, cs, rfl, _⟩ := h
    rfl
  · obtain ⟨v, x, lg, lc, gs, cs, rfl, ⟨a, b, rfl, sq1, sq2⟩, ⟨gv, sg, ga⟩, sc, W, hcl, h0, q⟩ := h
    have nd := scTaken.nd
    refine ⟨_, pss_cons (ps_par (i := 3) (j := 4) (by rfl) nd rfl rfl (by decide) rfl rfl (pa_cons (pe_ix ix_tup (pv 0) pe_int (fun _ _ => rfl)) (pa_cons (pe_ix ix_tup (pv 0) pe_int (fun _ _ => rfl)) pa_nil)) (by rfl)) <|
      pss_cons (ps_if (PW.pt (pw_or (pt_cmpR op_eq (pe_ix ix_tup (pe_ix ix_list (pv 1) (pv 3) (fun _ _ => rfl)) pe_int (fun _ _ => rfl)) pe_str (nomark _)) (pw_or1 (pt_cmpR op_eq (pe_ix ix_tup (pe_ix ix_list (pv 1) (pv 4) (fun _ _ => rfl)) pe_int (fun _ _ => rfl)) pe_str (nomark _))))) (pss_one (ps_ret pe_bl)) pss_nil) <|
      pss_one <| ps_ret <| pe_or (pe_cmpR op_ne (pe_ix ix_tup (pe_ix ix_list (pv 1) (pv 4) (fun _ _ => rfl)) pe_int (fun _ _ => rfl)) pe_str (nomark _)) (pe_one (pe_cmpR op_eq (pe_ix ix_list (pv 2) (pv 4) (fun _ _ => rfl)) pe_int (nomark _))), ?_⟩
    have hl : gv.length = gs.length := ga.1
    obtain ⟨vs1, g1, e1, f1, a1, rfl, s1⟩ : ∃ vs1 g1, gv[x.1]? = some vs1 ∧ gs[x.1]? = some g1 ∧ GateV K H vs1 g1 := by
      have e1 : gs[x.1]? = some (gs[x.1]'W.s) := List.getElem?_eq_getElem W.s
      obtain ⟨y, hy, r⟩ := ga.getR e1
      exact ⟨y, _, hy, e1, r⟩
    obtain ⟨vs2, g2, e2, f2, a2, rfl, s2⟩ : ∃ vs2 g2, gv[x.2.1]? = some vs2 ∧ gs[x.2.1]? = some g2 ∧ GateV K H vs2 g2 := by
      have e1 : gs[x.2.1]? = some (gs[x.2.1]'W.e) := List.getElem?_eq_getElem W.e
      obtain ⟨y, hy, r⟩ := ga.getR e1
      exact ⟨y, _, hy, e1, r⟩
    have k1 := kindAt_get f1
    have k2 := kindAt_get f2
    refine ⟨_, rfl, a, _, 0, _, rfl, rfl, sq1, atI_nat (j := 0) rfl, _, rfl, a, _, 1, _, rfl, rfl, sq1, atI_nat (j := 1) rfl, _, _, rfl, ?_⟩
    refine ⟨_, rfl, _, rfl, lg, gv, _, _, rfl, rfl, sg, atI_nat e1, a1, _, 0, _, rfl, rfl, s1, atI_nat (j := 0) rfl, rfl, false, ?_, iteF ?_⟩
    · show V.bl (decide (V.str g1.1 = V.str "out")) = V.bl false
      rw [decide_eq_false]
      intro z
      exact W.ks (by rw [k1]; exact V.str.inj z)
    refine ⟨_, rfl, _, rfl, lg, gv, _, _, rfl, rfl, sg, atI_nat e2, a2, _, 0, _, rfl, rfl, s2, atI_nat (j := 0) rfl, rfl, false, ?_, iteF ?_⟩
    · show V.bl (decide (V.str g2.1 = V.str "in")) = V.bl false
      rw [decide_eq_false]
      intro z
      exact W.ke (by rw [k2]; exact V.str.inj z)
    refine ⟨_, rfl, _, rfl, lg, gv, _, _, rfl, rfl, sg, atI_nat e2, a2, _, 0, _, rfl, rfl, s2, atI_nat (j := 0) rfl, rfl, _, rfl, ite2 (fun e => ?_) (fun e => ?_)⟩
    · exact q
    · have hk : kindAt gs x.2.1 = "out" := by
        rw [k2]
        refine Classical.byContradiction fun z => e ?_
        show (!decide (V.str g2.1 = V.str "out")) = true
        rw [decide_eq_false (fun y => z (V.str.inj y))]
        rfl
      have hc := h0 hk
      refine ⟨_, rfl, _, rfl, lc, _, _, .int 0, rfl, rfl, sc, atI_nat (by rw [List.getElem?_map, hc]; rfl), rfl, q⟩
end
end Lag


set_option maxRecDepth 100000
set_option maxHeartbeats 4000000
namespace Lag
open PySem PySem.Spec PyProof.Rows L2
abbrev sChkWires : Stmt := topS 34
def cntL (n : Nat) (ws : List Wr) : List Nat := (List.range n).map (cnt ws)
theorem cntL_len (n : Nat) (ws : List Wr) : (cntL n ws).length = n := by simp [cntL]
theorem cntL_get {n e : Nat} {ws : List Wr} (h : e < n) : (cntL n ws)[e]? = some (cnt ws e) := by
  unfold cntL
  rw [List.getElem?_map, List.getElem?_range h]
  rfl
theorem cntL_nil (n : Nat) : cntL n [] = List.replicate n 0 := by
  refine List.ext_getElem? fun i => ?_
  by_cases h : i < n
  · rw [cntL_get h, List.getElem?_replicate, if_pos h]
    rfl
  · rw [List.getElem?_eq_none (by rw [cntL_len]; omega), List.getElem?_eq_none (by simp; omega)]
theorem cnt_app (ws : List Wr) (x : Wr) (e : Nat) : cnt (ws ++ [x]) e = cnt ws e + if x.2.1 = e then 1 else 0 := by
  unfold cnt
  rw [List.countP_append, List.countP_cons, List.countP_nil]
  by_cases h : x.2.1 = e <;> simp [h]
theorem cntL_app {n : Nat} {ws : List Wr} {x : Wr} (h : x.2.1 < n) : (cntL n ws).set x.2.1 (cnt ws x.2.1 + 1) = cntL n (ws ++ [x]) := by
  refine List.ext_getElem? fun i => ?_
  by_cases hi : i < n
  · rw [cntL_get hi, cnt_app, List.getElem?_set]
    by_cases e : x.2.1 = i
    · rw [if_pos e, if_pos e, if_pos (by rw [cntL_len]; exact h), e]
    · rw [if_neg e, if_neg e, cntL_get hi]
      rfl
  · rw [List.getElem?_eq_none (by rw [List.length_set, cntL_len]; omega), List.getElem?_eq_none (by rw [cntL_len]; omega)]
theorem cnt_take_lt {ws : List Wr} {i : Nat} {x : Wr} (h : ws[i]? = some x) : cnt (ws.take i) x.2.1 + 1 ≤ cnt ws x.2.1 := by
  have e : ws.take (i + 1) = ws.take i ++ [x] := by rw [List.take_add_one, h]; rfl
  have h1 : cnt (ws.take (i + 1)) x.2.1 ≤ cnt ws x.2.1 := by
    unfold cnt
    exact List.Sublist.countP_le (List.take_sublist _ _)
  rw [e, cnt_app, if_pos rfl] at h1
  exact h1
def spChkWires (K : PySem.W.Frag) : Sp := fun vs H Q _ => ∃ (lg lw : Addr) (gs : List Gt) (ws : List Wr), vs = [.ref lg, .ref lw] ∧ RG K H lg gs ∧ RW K H lw ws ∧ NetOk gs ws ∧ ∀ H', Same H H' → Q .non H'
theorem map_set' {α β : Type} (f : α → β) (l : List α) (i : Nat) (a : α) : (l.map f).set i (f a) = (l.set i a).map f := by simp [List.map_set]
section
variable {P : Program} {w : World} {K : PySem.W.Frag} {mg : Str → Option Value} {base : Heap}
theorem scChkWires : FnScope ["gates", "wires", "come", "place", "thing", "gate", "many"] ["gates", "wires"] (defScope sChkWires) := ⟨rfl, rfl, rfl, by decide +kernel, rfl, by decide +kernel, by decide +kernel⟩
abbrev DChkWires (P : Program) (w : World) (K : PySem.W.Frag) (mg : Str → Option Value) (base : Heap) := Df P w K mg base 5 "check_wires" ["gates", "wires"] (spChkWires K)
theorem ok_chkWires {f fW fT aK aW aF : Addr} {fd fdW fdT : FuncData} (F : Fun K "check_wires" "check_wires" sChkWires f fd) (hm : mg "check_wires" = some (.ref f)) (B : Bt mg) (C : Cns K mg aK aW aF) (DW : DIsWire P w K mg base fW fdW) (DT : DTaken P w K mg base fT fdT) : DChkWires P w K mg base f fd := by
  refine ⟨?_, hm, F.kp, F.binds fun _ _ _ _ _ _ us hl => match us, hl with | [_, _], _ => rfl⟩
  refine F.ok scChkWires (fun vs H Q E h => ?_) (fun cdv A outer s H vs Q E hr h => ?_)
  · obtain ⟨lg, lw, gs, ws, rfl, _⟩ := h
    rfl
  · obtain ⟨lg, lw, gs, ws, rfl, RGs, ⟨wv, sw, wa⟩, N, q⟩ := h
    have nd := scChkWires.nd
    have hr1 : Room 1 _ := hr.mono (by decide)
    refine ⟨_, pss_cons (ps_if (pt_not (pt_val (pe_callB call_isi (by rfl) B.isi (by decide +kernel) (pa_cons (pv 1) (pa_cons (pe_bltn (v := .ty "list") (by rfl) B.list (by decide +kernel) rfl) pa_nil))))) (pss_one ps_never) pss_nil) <|
      pss_cons (ps_set (i := 2) nd rfl (Or.inl rfl) (pe_op op_rep (pe_lst (pa_cons pe_int pa_nil)) (pe_callB call_len_seq (by rfl) B.len PySem.boot_len (pa_cons (pv 0) pa_nil)))) <|
      pss_cons (ps_for PassesOwn.never rfl (pi_enum (by rfl) B.enum (pa_cons (pv 1) pa_nil)) (pg_tup rfl (pgs_cons (pg_name (i := 3) nd rfl (Or.inl rfl)) (pgs_cons (pg_name (i := 4) nd rfl (Or.inl rfl)) pgs_nil))) <|
        pss_cons (ps_if (PW.pt (pw_or (pt_not (pt_val (pe_call DW.ok hr (by rfl) DW.mg DW.kp DW.bd .nil pass0 (pa_cons (pv 4) (pa_cons (pe_callB call_len_seq (by rfl) B.len PySem.boot_len (pa_cons (pv 0) pa_nil)) pa_nil)))))
            (pw_or1 (pt_not (pt_val (pe_call DT.ok hr1 (by rfl) DT.mg DT.kp DT.bd .nil pass0 (pa_cons (pv 4) (pa_cons (pv 0) (pa_cons (pv 2) pa_nil))))))))) (pss_one ps_never) pss_nil) <|
        pss_one <| ps_augS (pv 2) (pe_ix ix_tup (pv 4) pe_int (fun _ _ => rfl)) get_list pe_int ip_add set_list) <|
      pss_one <| ps_for PassesOwn.never rfl (pi_zip (by rfl) B.zip (pa_cons (pv 0) (pa_cons (pv 2) pa_nil))) (pg_tup rfl (pgs_cons (pg_name (i := 5) nd rfl (Or.inl rfl)) (pgs_cons (pg_name (i := 6) nd rfl (Or.inl rfl)) pgs_nil))) <|
        pss_one <| ps_if (PW.pt (pw_and (pt_cmpR op_in_seq (pe_ix ix_tup (pv 5) pe_int (fun _ _ => rfl)) (pe_glob (v := .ref aF) (by rfl) C.mF rfl) (by rfl)) (pw_and1 (pt_cmpR op_eq (pv 6) pe_int (nomark _))))) (pss_one ps_never) pss_nil, ?_⟩
    obtain ⟨gv, sg, ga⟩ := id RGs
    have hlg : gv.length = gs.length := ga.1
    have hlw : wv.length = ws.length := wa.1
    have hgl := N.gl
    refine ⟨_, rfl, _, _, _, _, true, rfl, .ty "list", ty_lst sw, kit_ty (by decide +kernel), true, rfl, iteF ?_⟩
    refine ⟨(by show 1 ≤ sizeLine; decide), fun l0 hl0 => ?_⟩
    refine ⟨_, rfl, lg, gv, rfl, .inl ((same_new hl0).seq sg), ?_⟩
    refine ⟨l0, _, _, rfl, rfl, upd_same, by omega, by omega, ?_, fun lc hlc => ?_⟩
    · show 1 * _ ≤ sizeLine
      have : 1 * ((gv.length : Int)).toNat ≤ 1000 := by omega
      exact Nat.le_of_lt (small1000 this)
    have sm0 : Same H (upd H l0 (.lst [.int 0])) := same_new hl0
    have hlc0 : H lc = none := sm0.free hlc
    have e0 : (List.replicate ((gv.length : Int)).toNat [V.int 0]).flatten = (cntL gs.length (ws.take 0)).map fun i => V.int (i : Nat) := by
      rw [List.take_zero, cntL_nil, List.map_replicate, ← hlg, Int.toNat_natCast]
      generalize gv.length = n
      induction n with
      | zero => rfl
      | succ n ih =>
        rw [List.replicate_succ, List.flatten_cons, ih, List.replicate_succ]
        rfl
    rw [e0]
    -- for place, thing in enumerate(wires)
    refine ⟨_, rfl, lw, wv, rfl, (sm0.trans (same_new hlc)).seq sw, for_it (walk_enum (K := K) (a := lw) (xs := wv)) (fun i σ H2 => ∃ s3 s4 : Option V, σ = [some (.ref lg), some (.ref lw), some (.ref lc), s3, s4, none, none] ∧
        H2 lc = some (.lst ((cntL gs.length (ws.take i)).map fun i => V.int (i : Nat))) ∧ Same H H2)
      ⟨_, _, rfl, upd_same, sm0.trans (same_new hlc)⟩ (fun i σ H2 _ ⟨_, _, _, _, sm⟩ => sm.seq sw) ?_ ?_⟩
    · rintro i v σ H2 H2' hi ⟨s3, s4, rfl, hc, sm⟩ ⟨T, x1, y, rfl, hT, rfl, ex, ey⟩
      cases ex
      obtain ⟨x, hx, wx⟩ := wa.get ey
      have W := N.wok x (List.mem_of_getElem? hx)
      have hxi : i < ws.length := (List.getElem?_eq_some_iff.mp hx).1
      have smT : Same H2 (upd H2 T (.tup [.int (i : Nat), y])) := same_new hT
      have sm2 := sm.trans smT
      refine ⟨T, _, rfl, .inl (.inl upd_same), rfl, _, _, rfl, _, _, rfl, rfl, ?_⟩
      refine ⟨_, rfl, _, rfl, lg, gv, rfl, .inl (sm2.seq sg), y, x, gv.length, rfl, wx.tk (TK.same sm2), by rw [hlg]; exact W.s, by rw [hlg]; exact W.e, W.r, by have := W.rl; omega, fun H3 sm3 => ⟨true, rfl, iteF ?_⟩⟩
      have sm4 := sm2.trans sm3
      have hc3 := sm3 _ _ (smT _ _ hc)
      refine ⟨_, rfl, _, rfl, _, rfl, y, x, lg, lc, gs, cntL gs.length (ws.take i), rfl, wx.tk (TK.same sm4), RGs.same sm4, SqL.of hc3, W, cntL_len _ _, fun hk => ?_, true, rfl, iteF ?_⟩
      · rw [cntL_get W.e]
        have h1 := N.one _ W.e hk
        have h2 := cnt_take_lt hx
        congr 1
        omega
      obtain ⟨a, b, rfl, sq1, sq2⟩ := wx
      have hlen : x.2.1 < (cntL gs.length (ws.take i)).length := by rw [cntL_len]; exact W.e
      refine ⟨_, rfl, _, rfl, a, _, 1, _, rfl, rfl, (TK.same sm4).seq sq1, atI_nat (j := 1) rfl, lc, _, x.2.1, .int (cnt (ws.take i) x.2.1 : Nat), rfl, rfl, SqL.of hc3, by rw [List.getElem?_map, cntL_get W.e]; rfl, _, _, rfl, rfl, lc, _, _, x.2.1, rfl, rfl, hc3, Evl.ixN_nat (by rw [List.length_map]; exact hlen), ?_⟩
      refine ⟨_, _, rfl, ?_, same_mut sm4 hlc0⟩
      have et : ws.take (i + 1) = ws.take i ++ [x] := by rw [List.take_add_one, hx]; rfl
      rw [upd_same, et, ← cntL_app W.e, ← map_set']
      rfl
    · rintro σ H2 ⟨s3, s4, rfl, hc, sm⟩
      rw [hlw, List.take_length] at hc
      -- for gate, many in zip(gates, come)
      refine ⟨_, rfl, _, rfl, lg, lc, gv, _, rfl, sm.seq sg, SqL.of hc, RZ.for_zipL (K := K) (a := lg) (b := lc) (xs := gv) (by rw [List.length_map, cntL_len]; exact hlg) (fun i σ H3 => ∃ s5 s6 : Option V, σ = [some (.ref lg), some (.ref lw), some (.ref lc), s3, s4, s5, s6] ∧ Same H2 H3)
        ⟨_, _, rfl, Same.refl H2⟩ (fun i σ H3 ⟨_, _, _, sm3⟩ => ⟨(sm.trans sm3).seq sg, SqL.of (sm3 _ _ hc)⟩) ?_ ?_⟩
      · rintro i x y T σ H3 hx hy ⟨s5, s6, rfl, sm3⟩ hT
        obtain ⟨g, hg, a, rfl, sq⟩ := ga.get hx
        have hgi : i < gs.length := (List.getElem?_eq_some_iff.mp hg).1
        rw [List.getElem?_map, cntL_get hgi] at hy
        cases hy
        have sm4 : Same H (upd H3 T (.tup [.ref a, .int (cnt ws i : Nat)])) := (sm.trans sm3).trans (same_new hT)
        refine ⟨T, _, rfl, .inl (.inl upd_same), rfl, _, _, rfl, _, _, rfl, rfl, ?_⟩
        refine ⟨_, rfl, a, _, 0, _, rfl, rfl, (TK.same sm4).seq sq, atI_nat (j := 0) rfl, aF, _, rfl, .inr (C.sF _), rfl, rfl, _, rfl, ite2 (fun e => ?_) (fun e => ?_)⟩
        · have e' : inV (V.str g.1) [V.str "out", V.str "first"] = true := e
          have hpos : 1 ≤ cnt ws i := by
            unfold inV at e'
            rw [List.any_eq_true] at e'
            obtain ⟨x, hx, hxe⟩ := e'
            simp only [List.mem_cons, List.not_mem_nil, or_false] at hx
            rcases hx with rfl | rfl
            · have := N.one i hgi (by rw [kindAt_get hg]; exact (eq_of_beq hxe).symm)
              omega
            · exact N.some i hgi (by rw [kindAt_get hg]; exact (eq_of_beq hxe).symm)
          refine ⟨_, rfl, rfl, false, ?_, iteF ⟨_, _, rfl, sm3.trans (same_new hT)⟩⟩
          show V.bl (decide (V.int (cnt ws i : Int) = V.int 0)) = V.bl false
          rw [decide_eq_false]
          intro z
          have := V.int.inj z
          omega
        · exact iteF ⟨_, _, rfl, sm3.trans (same_new hT)⟩
      · rintro σ H3 ⟨s5, s6, rfl, sm3⟩
        exact q H3 (sm.trans sm3)
end
end Lag


set_option maxRecDepth 100000
set_option maxHeartbeats 4000000
namespace Lag
open PySem PySem.Spec PyProof.Rows L2
/-! ### the order of gates along wires without registers: the mathematics -/
def bare (ws : List Wr) : List (Nat × Nat) := (ws.filter fun x => x.2.2.isEmpty).map fun x => (x.1, x.2.1)
/-- how many wires of B lead into e from gates that are not in dn -/
def mis (B : List (Nat × Nat)) (dn : List Nat) (e : Nat) : Nat := B.countP fun b => b.2 == e && !dn.contains b.1
def frm (B : List (Nat × Nat)) (g e : Nat) : Nat := B.countP fun b => b.1 == g && b.2 == e
theorem mis_split {B : List (Nat × Nat)} {dn : List Nat} {g : Nat} (h : g ∉ dn) (e : Nat) : mis B dn e = mis B (dn ++ [g]) e + frm B g e := by
  unfold mis frm
  induction B with
  | nil => rfl
  | cons b B ih =>
    rw [List.countP_cons, List.countP_cons, List.countP_cons, ih]
    by_cases h1 : b.2 = e
    · by_cases h2 : b.1 = g
      · have : b.1 ∉ dn := by rw [h2]; exact h
        simp [h1, h2, h]
        omega
      · by_cases h3 : b.1 ∈ dn
        · simp [h1, h2, h3]
        · simp [h1, h2, h3]
          omega
    · simp [h1]
theorem mis_zero {B : List (Nat × Nat)} {dn : List Nat} {e : Nat} (h : mis B dn e = 0) {b : Nat × Nat} (hb : b ∈ B) (he : b.2 = e) : b.1 ∈ dn := by
  unfold mis at h
  rw [List.countP_eq_zero] at h
  have := h b hb
  simp [he] at this
  exact this
theorem frm_drop {B : List (Nat × Nat)} {j : Nat} {b : Nat × Nat} (h : B[j]? = some b) (g e : Nat) : frm (B.drop j) g e = frm (B.drop (j + 1)) g e + if b.1 = g ∧ b.2 = e then 1 else 0 := by
  obtain ⟨hj, rfl⟩ := List.getElem?_eq_some_iff.mp h
  rw [List.drop_eq_getElem_cons hj]
  unfold frm
  rw [List.countP_cons]
  by_cases h1 : B[j].1 = g <;> by_cases h2 : B[j].2 = e <;> simp [h1, h2]
structure KI (B : List (Nat × Nat)) (n : Nat) (placed : List Nat) (d : Nat) : Prop where
  nd : placed.Nodup
  lt : ∀ e ∈ placed, e < n
  le : d ≤ placed.length
  iff : ∀ e, e < n → (e ∈ placed ↔ mis B (placed.take d) e = 0)
  top : ∀ (j e : Nat), placed[j]? = some e → ∀ b ∈ B, b.2 = e → b.1 ∈ placed.take j
structure KJ (B : List (Nat × Nat)) (n : Nat) (placed : List Nat) (d g j : Nat) : Prop where
  nd : placed.Nodup
  lt : ∀ e ∈ placed, e < n
  at_ : placed[d]? = some g
  iff : ∀ e, e < n → (e ∈ placed ↔ mis B (placed.take (d + 1)) e + frm (B.drop j) g e = 0)
  top : ∀ (j e : Nat), placed[j]? = some e → ∀ b ∈ B, b.2 = e → b.1 ∈ placed.take j
theorem take_add {l : List Nat} {d g : Nat} (h : l[d]? = some g) : l.take (d + 1) = l.take d ++ [g] := by rw [List.take_add_one, h]; rfl
theorem nodup_take {l : List Nat} {d g : Nat} (nd : l.Nodup) (h : l[d]? = some g) : g ∉ l.take d := by
  intro hm
  obtain ⟨i, hi⟩ := List.getElem?_of_mem hm
  have h1 : i < d := by
    have := (List.getElem?_eq_some_iff.mp hi).1
    rw [List.length_take] at this
    omega
  rw [List.getElem?_take_of_lt h1] at hi
  have := nd_ix nd hi h
  omega
theorem KI.go {B : List (Nat × Nat)} {n : Nat} {placed : List Nat} {d g : Nat} (h : KI B n placed d) (hg : placed[d]? = some g) : KJ B n placed d g 0 :=
  ⟨h.nd, h.lt, hg, fun e he => by rw [h.iff e he, take_add hg, mis_split (nodup_take h.nd hg), List.drop_zero], h.top⟩
theorem KJ.done {B : List (Nat × Nat)} {n : Nat} {placed : List Nat} {d g : Nat} (h : KJ B n placed d g B.length) : KI B n placed (d + 1) := by
  have hd : d < placed.length := (List.getElem?_eq_some_iff.mp h.at_).1
  refine ⟨h.nd, h.lt, hd, fun e he => ?_, h.top⟩
  rw [h.iff e he, List.drop_length]
  rfl
theorem KJ.skip {B : List (Nat × Nat)} {n : Nat} {placed : List Nat} {d g j : Nat} {b : Nat × Nat} (h : KJ B n placed d g j) (hb : B[j]? = some b) (hg : b.1 ≠ g) : KJ B n placed d g (j + 1) :=
  ⟨h.nd, h.lt, h.at_, fun e he => by rw [h.iff e he, frm_drop hb, if_neg (fun z => hg z.1)]; rfl, h.top⟩
theorem KJ.not {B : List (Nat × Nat)} {n : Nat} {placed : List Nat} {d g j : Nat} {b : Nat × Nat} (h : KJ B n placed d g j) (hb : B[j]? = some b) (hg : b.1 = g) (hn : mis B (placed.take (d + 1)) b.2 + frm (B.drop (j + 1)) g b.2 ≠ 0) : KJ B n placed d g (j + 1) := by
  refine ⟨h.nd, h.lt, h.at_, fun e he => ?_, h.top⟩
  rw [h.iff e he, frm_drop hb]
  by_cases h2 : b.2 = e
  · subst h2
    rw [if_pos ⟨hg, rfl⟩]
    omega
  · rw [if_neg (fun z => h2 z.2)]
    rfl
theorem KJ.put {B : List (Nat × Nat)} {n : Nat} {placed : List Nat} {d g j : Nat} {b : Nat × Nat} (h : KJ B n placed d g j) (hb : B[j]? = some b) (hg : b.1 = g) (hlt : b.2 < n) (hn : mis B (placed.take (d + 1)) b.2 + frm (B.drop (j + 1)) g b.2 = 0) : KJ B n (placed ++ [b.2]) d g (j + 1) := by
  have hd : d < placed.length := (List.getElem?_eq_some_iff.mp h.at_).1
  have hnot : b.2 ∉ placed := fun z => by
    have := (h.iff _ hlt).mp z
    rw [frm_drop hb, if_pos ⟨hg, rfl⟩] at this
    omega
  have et : (placed ++ [b.2]).take (d + 1) = placed.take (d + 1) := List.take_append_of_le_length (by omega)
  refine ⟨?_, ?_, ?_, ?_, ?_⟩
  · rw [List.nodup_append]
    refine ⟨h.nd, by simp, fun a ha c hc => ?_⟩
    simp at hc
    subst hc
    intro z
    exact hnot (by rw [← z]; exact ha)
  · intro e he
    rcases List.mem_append.mp he with he | he
    · exact h.lt e he
    · simp at he
      subst he
      exact hlt
  · rw [List.getElem?_append_left hd]
    exact h.at_
  · intro e he
    rw [et, List.mem_append]
    by_cases h2 : b.2 = e
    · subst h2
      simp [hn]
    · have := h.iff e he
      rw [frm_drop hb, if_neg (fun z => h2 z.2)] at this
      rw [this]
      simp
      intro z
      exact absurd z.symm h2
  · intro k e hk c hc hce
    by_cases hk' : k < placed.length
    · rw [List.getElem?_append_left hk'] at hk
      rw [List.take_append_of_le_length (by omega)]
      exact h.top k e hk c hc hce
    · have hkl : k = placed.length := by
        have := (List.getElem?_eq_some_iff.mp hk).1
        simp at this
        omega
      subst hkl
      rw [List.getElem?_append_right (by omega)] at hk
      simp at hk
      subst hk
      rw [List.take_left']
      · have := mis_zero (show mis B (placed.take (d + 1)) b.2 = 0 by omega) hc hce
        exact List.mem_of_mem_take this
      · rfl
/-- what the order is: gates without two alike, each behind those it hangs on; all whose wires come from such -/
def Ord (n : Nat) (ws : List Wr) (ord : List Nat) : Prop := KI (bare ws) n ord ord.length
theorem Ord.full {n : Nat} {ws : List Wr} {ord : List Nat} (h : Ord n ws ord) (hw : ∀ x ∈ ws, x.1 < n ∧ x.2.1 < n) (rk : ∃ ρ : Nat → Nat, ∀ x ∈ ws, x.2.2 = [] → ρ x.1 < ρ x.2.1) : ord.Perm (List.range n) := by
  obtain ⟨ρ, hρ⟩ := rk
  have all : ∀ r e, e < n → ρ e = r → e ∈ ord := by
    intro r
    induction r using Nat.strongRecOn with
    | ind r ih =>
      intro e he hr
      rw [h.iff e he, List.take_length]
      unfold mis
      rw [List.countP_eq_zero]
      intro b hb
      obtain ⟨x, hx, rfl⟩ := List.mem_map.mp hb
      rw [List.mem_filter] at hx
      have hr0 : x.2.2 = [] := by simpa using hx.2
      have := hρ x hx.1 hr0
      simp
      intro z
      exact ih (ρ x.1) (by rw [← hr, ← z]; exact this) x.1 (hw x hx.1).1 rfl
  rw [List.perm_iff_count]
  intro a
  rw [h.nd.count, List.nodup_range.count]
  by_cases ha : a < n
  · rw [if_pos (all _ a ha rfl), if_pos (List.mem_range.mpr ha)]
  · rw [if_neg (fun z => ha (h.lt a z)), if_neg (fun z => ha (List.mem_range.mp z))]
end Lag


set_option maxRecDepth 100000
set_option maxHeartbeats 8000000
namespace Lag
open PySem PySem.Spec PyProof.Rows L2
abbrev sAlong : Stmt := topS 16
abbrev sOrder : Stmt := topS 38
def PairV (K : PySem.W.Frag) (H : Hp) (v : V) (b : Nat × Nat) : Prop := ∃ a, v = .ref a ∧ SqT K H a [.int (b.1 : Nat), .int (b.2 : Nat)]
theorem PairV.tk {K : PySem.W.Frag} {H H' : Hp} {v : V} {b : Nat × Nat} (t : TK H H') (h : PairV K H v b) : PairV K H' v b := by
  obtain ⟨a, e, s⟩ := h
  exact ⟨a, e, t.seq s⟩
/-- numbers by a function of the place -/
def fnL (n : Nat) (f : Nat → Nat) : List V := (List.range n).map fun e => V.int (f e : Nat)
theorem fnL_len (n : Nat) (f : Nat → Nat) : (fnL n f).length = n := by simp [fnL]
theorem fnL_get {n e : Nat} {f : Nat → Nat} (h : e < n) : (fnL n f)[e]? = some (V.int (f e : Nat)) := by
  unfold fnL
  rw [List.getElem?_map, List.getElem?_range h]
  rfl
theorem fnL_set {n e : Nat} {f f' : Nat → Nat} {z : Int} (h : e < n) (he : (f' e : Int) = z) (ho : ∀ i, i ≠ e → f' i = f i) : (fnL n f).set e (V.int z) = fnL n f' := by
  refine List.ext_getElem? fun i => ?_
  by_cases hi : i < n
  · rw [fnL_get hi, List.getElem?_set]
    by_cases ei : e = i
    · subst ei
      rw [if_pos rfl, if_pos (by rw [fnL_len]; exact h), he]
    · rw [if_neg ei, fnL_get hi, ho i (fun z => ei z.symm)]
  · rw [List.getElem?_eq_none (by rw [List.length_set, fnL_len]; omega), List.getElem?_eq_none (by rw [fnL_len]; omega)]
theorem fnL_zero (n : Nat) (f : Nat → Nat) (h : ∀ e, f e = 0) : (List.replicate n [V.int 0]).flatten = fnL n f := by
  have e : f = fun _ => 0 := funext h
  subst e
  unfold fnL
  induction n with
  | zero => rfl
  | succ n ih =>
    rw [List.replicate_succ', List.flatten_append, ih, List.range_succ, List.map_append]
    rfl
def spOrder (K : PySem.W.Frag) : Sp := fun vs H Q _ => ∃ (n : Nat) (lw : Addr) (ws : List Wr), vs = [.int (n : Nat), .ref lw] ∧ RW K H lw ws ∧ (∀ x ∈ ws, x.1 < n ∧ x.2.1 < n) ∧ n ≤ 1000 ∧ ws.length ≤ 1000 ∧
  ∀ (ord : List Nat) (p : Addr) (H' : Hp), Ord n ws ord → Same H H' → H p = none → H' p = some (.lst (ord.map fun i => V.int (i : Nat))) → Q (.ref p) H'
def spAlong (K : PySem.W.Frag) : Sp := fun vs H Q _ => ∃ (n : Nat) (lb : Addr) (bv : List V) (B : List (Nat × Nat)), vs = [.int (n : Nat), .ref lb] ∧ SqL K H lb bv ∧ All2 (PairV K H) bv B ∧ (∀ b ∈ B, b.1 < n ∧ b.2 < n) ∧ n ≤ 1000 ∧ B.length ≤ 1000 ∧
  ∀ (ord : List Nat) (p : Addr) (H' : Hp), KI B n ord ord.length → Same H H' → H p = none → H' p = some (.lst (ord.map fun i => V.int (i : Nat))) → Q (.ref p) H'
abbrev nAlong : List Str := ["many", "pairs", "missing", "start", "end", "placed", "done", "place"]
theorem scAlong : FnScope nAlong ["many", "pairs"] (defScope sAlong) := ⟨rfl, rfl, rfl, by decide +kernel, rfl, by decide +kernel, by decide +kernel⟩
abbrev nOrder : List Str := ["many_gates", "wires", "start", "end", "held"]
theorem scOrder : FnScope nOrder ["many_gates", "wires"] (defScope sOrder) := ⟨rfl, rfl, rfl, by decide +kernel, rfl, by decide +kernel, by decide +kernel⟩
theorem bare_take {ws : List Wr} {i : Nat} {x : Wr} (h : ws[i]? = some x) : bare (ws.take (i + 1)) = if x.2.2.isEmpty then bare (ws.take i) ++ [(x.1, x.2.1)] else bare (ws.take i) := by
  unfold bare
  rw [List.take_add_one, h]
  show ((ws.take i ++ [x]).filter _).map _ = _
  rw [List.filter_append]
  by_cases e : x.2.2.isEmpty
  · rw [if_pos e, List.filter_cons, if_pos e, List.map_append]
    rfl
  · rw [if_neg e, List.filter_cons, if_neg e, List.filter_nil, List.append_nil]
theorem bare_len (ws : List Wr) : (bare ws).length ≤ ws.length := by
  unfold bare
  rw [List.length_map]
  exact List.length_filter_le _ _
theorem mis_take {B : List (Nat × Nat)} {i : Nat} {b : Nat × Nat} (h : B[i]? = some b) (e : Nat) : mis (B.take (i + 1)) [] e = mis (B.take i) [] e + if b.2 = e then 1 else 0 := by
  unfold mis
  rw [List.take_add_one, h]
  show (B.take i ++ [b]).countP _ = _
  rw [List.countP_append, List.countP_cons, List.countP_nil]
  by_cases h1 : b.2 = e <;> simp [h1]
section
variable {P : Program} {w : World} {K : PySem.W.Frag} {mg : Str → Option Value} {base : Heap}
abbrev DAlong (P : Program) (w : World) (K : PySem.W.Frag) (mg : Str → Option Value) (base : Heap) := Df P w K mg base 1 "order_along" ["many", "pairs"] (spAlong K)
theorem ok_along {f : Addr} {fd : FuncData} (F : Fun K "order_along" "order_along" sAlong f fd) (hm : mg "order_along" = some (.ref f)) (Bb : Bt mg) : DAlong P w K mg base f fd := by
  refine ⟨?_, hm, F.kp, F.binds fun _ _ _ _ _ _ us hl => match us, hl with | [_, _], _ => rfl⟩
  refine F.ok scAlong (fun vs H Q E h => ?_) (fun cdv A outer s H vs Q E hr h => ?_)
  · obtain ⟨n, lb, bv, B, rfl, _⟩ := h
    rfl
  · obtain ⟨n, lb, bv, B, rfl, sb, ba1, hBlt, hn, hwl, q⟩ := h
    have nd := scAlong.nd
    refine ⟨_, pss_cons (ps_set (i := 2) nd rfl (Or.inr rfl) (pe_op op_rep (pe_lst (pa_cons pe_int pa_nil)) (pv 0))) <|
      pss_cons (ps_for PassesOwn.never rfl (pi_list (pv 1)) (pg_tup rfl (pgs_cons (pg_name (i := 3) nd rfl (Or.inl rfl)) (pgs_cons (pg_name (i := 4) nd rfl (Or.inl rfl)) pgs_nil)))
        (pss_one (ps_augS (pv 2) (pv 4) get_list pe_int ip_add set_list))) <|
      pss_cons (ps_setLc (i := 5) (own := [("place", 7)]) (g := gName 7) (tt := tTest (tOp rEq (tOp (rIxL K) (tVar 2) (tVar 7)) (tC (.int 0)))) (te := tVar 7) rfl nd rfl rfl (sw_true rfl rfl rfl (by decide +kernel))
          (pi_range1 (by rfl) Bb.range (pa_cons (pv 0) pa_nil)) (blkOk_by (N := nAlong) (sc := defScope sAlong) (own := [("place", 7)]) (by decide +kernel)) (fun _ _ _ _ _ => pg_name (i := 7) nd rfl (Or.inl rfl))
          (fun _ _ _ _ _ => pts_one (pt_cmpR op_eq (pe_ix ix_list (pv 2) (pv 7) (fun _ _ => rfl)) pe_int (nomark _))) (fun _ _ _ _ _ => pv 7)) <|
      pss_cons (ps_set (i := 6) nd rfl (Or.inl rfl) pe_int) <|
      pss_cons (ps_while PassesOwn.never (pt_cmpR op_lt (pv 6) (pe_callB call_len_seq (by rfl) Bb.len PySem.boot_len (pa_cons (pv 5) pa_nil)) (nomark _)) <|
        pss_cons (ps_for PassesOwn.never rfl (pi_list (pv 1)) (pg_tup rfl (pgs_cons (pg_name (i := 3) nd rfl (Or.inl rfl)) (pgs_cons (pg_name (i := 4) nd rfl (Or.inl rfl)) pgs_nil))) <|
          pss_one <| ps_if (pt_cmpR op_eq (pv 3) (pe_ix ix_list (pv 5) (pv 6) (fun _ _ => rfl)) (nomark _))
            (pss_cons (ps_augS (pv 2) (pv 4) get_list pe_int ip_sub set_list) <| pss_one <| ps_if (pt_cmpR op_eq (pe_ix ix_list (pv 2) (pv 4) (fun _ _ => rfl)) pe_int (nomark _))
              (pss_one (ps_expr (pe_bm PySem.F.plainAttrs_list PySem.F.slot_list_append PySem.F.type_list_append mt_append (pv 5) (pa_cons (pv 4) pa_nil)))) pss_nil) pss_nil) <|
        pss_one <| ps_aug (i := 6) nd rfl (Or.inl rfl) pe_int ip_add) <|
      pss_one <| ps_ret (pv 5), ?_⟩
    have hbl : bv.length ≤ 1000 := by
      rw [ba1.1]
      omega
    -- missing = [0] * many_gates
    refine ⟨(by show 1 ≤ sizeLine; decide), fun l0 hl0 => ?_⟩
    have sm2 : Same H (upd H l0 (.lst [.int 0])) := same_new hl0
    refine ⟨_, rfl, l0, _, _, rfl, rfl, upd_same, by omega, by omega, ?_, fun lm hlm => ?_⟩
    · show 1 * _ ≤ sizeLine
      have : 1 * ((n : Int)).toNat ≤ 1000 := by omega
      exact Nat.le_of_lt (small1000 this)
    rw [Int.toNat_natCast, fnL_zero n (mis (B.take 0) []) (fun e => by simp [mis])]
    have sm3 : Same H (upd (upd H l0 (.lst [.int 0])) lm (.lst (fnL n (mis (B.take 0) [])))) := sm2.trans (same_new hlm)
    have hm1 : H lm = none := sm2.free hlm
    -- for start, end in bare: missing[end] += 1
    refine ⟨_, rfl, lb, rfl, ⟨_, sm3.seq sb⟩, for_list (K := K) (a := lb) (xs := bv) (fun i σ H4 => ∃ s4 s5 : Option V, σ = [some (.int (n : Nat)), some (.ref lb), some (.ref lm), s4, s5, none, none, none] ∧
        H4 lm = some (.lst (fnL n (mis (B.take i) []))) ∧ Same H H4) ⟨_, _, rfl, upd_same, sm3⟩ (fun i σ H4 _ ⟨_, _, _, _, sm⟩ => sm.seq sb) ?_ ?_⟩
    · rintro i x σ H4 hx ⟨s4, s5, rfl, hml, sm4⟩
      obtain ⟨b, hbb, a, rfl, sq⟩ := ba1.get hx
      have hlt := hBlt b (List.mem_of_getElem? hbb)
      refine ⟨a, _, rfl, (TK.same sm4).seq sq, rfl, _, _, rfl, _, _, rfl, rfl, ?_⟩
      refine ⟨_, rfl, _, rfl, lm, _, b.2, _, rfl, rfl, SqL.of hml, fnL_get hlt.2, _, _, rfl, rfl, lm, _, _, b.2, rfl, rfl, hml, Evl.ixN_nat (by rw [fnL_len]; exact hlt.2), ?_⟩
      refine ⟨_, _, rfl, ?_, same_mut sm4 hm1⟩
      rw [upd_same]
      refine congrArg (fun z => some (HO.lst z)) (fnL_set hlt.2 ?_ ?_)
      · rw [mis_take hbb, if_pos rfl]
        show ((mis (B.take i) [] b.2 + 1 : Nat) : Int) = ((mis (B.take i) [] b.2 : Nat) : Int) + 1
        omega
      · intro j hj
        rw [mis_take hbb, if_neg (fun z => hj z.symm)]
        rfl
    · rintro σ H4 ⟨s4, s5, rfl, hml, sm4⟩
      rw [ba1.1, List.take_length] at hml
      -- placed = [gate for gate in range(many_gates) if missing[gate] == 0]
      refine ⟨_, rfl, _, rfl, by omega, by omega, fun lp hlp => ?_⟩
      refine lc_range (lo := 0) (n := ((n : Int)).toNat) (fun i Hc => Hc lp = some (.lst (((List.range i).filter fun e => mis B [] e == 0).map fun i => V.int (i : Nat))) ∧ Same H4 Hc) ⟨upd_same, same_new hlp⟩ ?_ ?_
      · rintro i Hc hi ⟨hc, sm⟩
        have hi' : i < n := by omega
        have hlen : (((List.range i).filter fun e => mis B [] e == 0).map fun i => V.int (i : Nat)).length ≤ 1000 := by
          rw [List.length_map]
          have := List.length_filter_le (fun e => mis B [] e == 0) (List.range i)
          rw [List.length_range] at this
          omega
        have e0 : (0 : Int) + (i : Int) = (i : Int) := Int.zero_add _
        rw [e0]
        refine ⟨rfl, ?_⟩
        refine ⟨_, rfl, _, rfl, lm, _, _, _, rfl, rfl, SqL.of (sm _ _ hml), atI_nat (fnL_get hi'), rfl, _, rfl, ite2 (fun e => ?_) (fun e => ?_)⟩
        · have hz : mis B [] i = 0 := by
            have := V.int.inj (of_decide_eq_true e)
            omega
          refine ⟨_, rfl, _, hc, Nat.lt_of_le_of_lt hlen (small1000 (Nat.le_refl _)), ?_, same_mut sm hlp⟩
          rw [upd_same, List.range_succ, List.filter_append, List.map_append, List.filter_cons, if_pos (by rw [hz]; rfl)]
          rfl
        · have hz : ¬ (mis B [] i == 0) = true := fun z => by
            apply e
            rw [beq_iff_eq] at z
            rw [z]
            rfl
          refine ⟨?_, sm⟩
          rw [List.range_succ, List.filter_append, List.filter_cons, if_neg hz, List.filter_nil, List.append_nil]
          exact hc
      · rintro H5 ⟨hp5, sm5⟩
        rw [Int.toNat_natCast] at hp5
        have k0 : KI B n ((List.range n).filter fun e => mis B [] e == 0) 0 := by
          refine ⟨List.nodup_range.sublist List.filter_sublist, fun e he => List.mem_range.mp (List.mem_filter.mp he).1, Nat.zero_le _, fun e he => ?_, fun j e hj b hb hbe => ?_⟩
          · rw [List.mem_filter, List.take_zero]
            simp [he]
          · have hm0 := (List.mem_filter.mp (List.mem_of_getElem? hj)).2
            rw [beq_iff_eq] at hm0
            have := mis_zero hm0 hb hbe
            simp at this
        -- the while
        have hp0 : H lp = none := sm4.free hlp
        refine ⟨fun m σ H6 => ∃ (placed : List Nat) (d : Nat) (s4 s5 : Option V), σ = [some (.int (n : Nat)), some (.ref lb), some (.ref lm), s4, s5, some (.ref lp), some (.int (d : Nat)), none] ∧
          KI B n placed d ∧ H6 lp = some (.lst (placed.map fun i => V.int (i : Nat))) ∧ H6 lm = some (.lst (fnL n (mis B (placed.take d)))) ∧ Same H H6 ∧ m = n - d, ?_, ?_⟩
        · have h5m := sm5 _ _ hml
          have e0 : mis B [] = mis B (((List.range n).filter fun e => mis B [] e == 0).take 0) := by rw [List.take_zero]
          rw [e0] at h5m
          exact ⟨n, _, 0, _, _, rfl, k0, hp5, h5m, sm4.trans sm5, rfl⟩
        · rintro m σ H6 ⟨placed, d, s4, s5, rfl, ki, hp6, hm6, sm6, rfl⟩
          have hp1 : H lp = none := sm4.free hlp
          have npm : lp ≠ lm := fun z => by
            rw [z, hml] at hlp
            cases hlp
          refine ⟨_, rfl, _, rfl, lp, _, rfl, .inl (SqL.of hp6), _, _, rfl, rfl, _, rfl, ite2 (fun e => ?_) (fun e => ?_)⟩
          · have hd : d < placed.length := by
              have e' : (d : Int) < ((placed.map fun i => V.int (i : Nat)).length : Int) := of_decide_eq_true e
              rw [List.length_map] at e'
              omega
            have hpl : ∀ placed : List Nat, placed.Nodup → (∀ e ∈ placed, e < n) → placed.length ≤ n := fun l hnd hlt => by
              have h1 : l.length = (l.filter fun e => decide (e < n)).length := by
                rw [List.filter_eq_self.mpr]
                intro a ha
                exact decide_eq_true (hlt a ha)
              have h2 := List.Nodup.length_le_of_subset hnd (l₂ := List.range n) (fun a ha => List.mem_range.mpr (hlt a ha))
              rw [List.length_range] at h2
              exact h2
            have hdn := hpl placed ki.nd ki.lt
            have hg : placed[d]? = some placed[d] := List.getElem?_eq_getElem hd
            refine ⟨fun σ H7 => ∃ (placed : List Nat) (s4 s5 : Option V), σ = [some (.int (n : Nat)), some (.ref lb), some (.ref lm), s4, s5, some (.ref lp), some (.int ((d : Nat) + 1)), none] ∧
              KI B n placed (d + 1) ∧ H7 lp = some (.lst (placed.map fun i => V.int (i : Nat))) ∧ H7 lm = some (.lst (fnL n (mis B (placed.take (d + 1))))) ∧ Same H H7, ?_, ?_⟩
            · rintro σ' H' ⟨placed', t4, t5, rfl, ki', hp', hm', sm'⟩
              exact ⟨n - (d + 1), by omega, placed', d + 1, t4, t5, rfl, ki', hp', hm', sm', rfl⟩
            · have e1 : mis B (placed.take d) = fun e => mis B (placed.take (d + 1)) e + frm (B.drop 0) placed[d] e := funext fun e => by
                rw [take_add hg, List.drop_zero]
                exact mis_split (nodup_take ki.nd hg) e
              rw [e1] at hm6
              generalize placed[d] = g at hg hm6
              refine ⟨_, rfl, lb, rfl, ⟨_, sm6.seq sb⟩, for_list (K := K) (a := lb) (xs := bv) (fun j σ H7 => ∃ (placed : List Nat) (s4 s5 : Option V), σ = [some (.int (n : Nat)), some (.ref lb), some (.ref lm), s4, s5, some (.ref lp), some (.int (d : Nat)), none] ∧
                  KJ B n placed d g j ∧ H7 lp = some (.lst (placed.map fun i => V.int (i : Nat))) ∧ H7 lm = some (.lst (fnL n fun e => mis B (placed.take (d + 1)) e + frm (B.drop j) g e)) ∧ Same H H7)
                ⟨placed, _, _, rfl, ki.go hg, hp6, hm6, sm6⟩ (fun i σ H4 _ ⟨_, _, _, _, _, _, _, sm⟩ => sm.seq sb) ?_ ?_⟩
              · rintro j x σ H7 hx ⟨placed, s4, s5, rfl, kj, hp7, hm7, sm7⟩
                obtain ⟨b, hbb, a, rfl, sq⟩ := ba1.get hx
                have hlt := hBlt b (List.mem_of_getElem? hbb)
                refine ⟨a, _, rfl, (TK.same sm7).seq sq, rfl, _, _, rfl, _, _, rfl, rfl, ?_⟩
                refine ⟨_, rfl, _, rfl, _, rfl, lp, _, _, _, rfl, rfl, SqL.of hp7, atI_nat (j := d) (by rw [List.getElem?_map, kj.at_]; rfl), rfl, _, rfl, ite2 (fun e => ?_) (fun e => ?_)⟩
                · have hbg : b.1 = g := by
                    have := V.int.inj (of_decide_eq_true e)
                    omega
                  have hfd : ∀ e, frm (B.drop j) g e = frm (B.drop (j + 1)) g e + if b.1 = g ∧ b.2 = e then 1 else 0 := fun e => frm_drop hbb g e
                  refine ⟨_, rfl, _, rfl, lm, _, b.2, _, rfl, rfl, SqL.of hm7, fnL_get hlt.2, _, _, rfl, rfl, lm, _, _, b.2, rfl, rfl, hm7, Evl.ixN_nat (by rw [fnL_len]; exact hlt.2), ?_⟩
                  have e2 : (fnL n fun e => mis B (placed.take (d + 1)) e + frm (B.drop j) g e).set b.2 (V.int (((mis B (placed.take (d + 1)) b.2 + frm (B.drop j) g b.2 : Nat) : Int) - 1)) = fnL n fun e => mis B (placed.take (d + 1)) e + frm (B.drop (j + 1)) g e := by
                    refine fnL_set hlt.2 ?_ ?_
                    · rw [hfd, if_pos ⟨hbg, rfl⟩]
                      omega
                    · intro i hi
                      rw [hfd, if_neg (fun z => hi z.2.symm)]
                      rfl
                  have hm8 : (upd H7 lm (.lst (fnL n fun e => mis B (placed.take (d + 1)) e + frm (B.drop (j + 1)) g e))) lm = some (.lst (fnL n fun e => mis B (placed.take (d + 1)) e + frm (B.drop (j + 1)) g e)) := upd_same
                  rw [← e2] at hm8
                  have hp8 : (upd H7 lm (.lst ((fnL n fun e => mis B (placed.take (d + 1)) e + frm (B.drop j) g e).set b.2 (V.int (((mis B (placed.take (d + 1)) b.2 + frm (B.drop j) g b.2 : Nat) : Int) - 1))))) lp = some (.lst (placed.map fun i => V.int (i : Nat))) := by
                    rw [upd_ne npm]
                    exact hp7
                  have sm8 := same_mut (p := lm) (o := .lst ((fnL n fun e => mis B (placed.take (d + 1)) e + frm (B.drop j) g e).set b.2 (V.int (((mis B (placed.take (d + 1)) b.2 + frm (B.drop j) g b.2 : Nat) : Int) - 1)))) sm7 hm1
                  have hg8 : ((fnL n fun e => mis B (placed.take (d + 1)) e + frm (B.drop j) g e).set b.2 (V.int (((mis B (placed.take (d + 1)) b.2 + frm (B.drop j) g b.2 : Nat) : Int) - 1)))[b.2]? = some (V.int ((mis B (placed.take (d + 1)) b.2 + frm (B.drop (j + 1)) g b.2 : Nat) : Int)) := by
                    rw [e2]
                    exact fnL_get hlt.2
                  have hm9 := hm8
                  rw [e2] at hm9
                  refine ⟨_, rfl, _, rfl, lm, _, _, _, rfl, rfl, SqL.of upd_same, atI_nat hg8, rfl, _, rfl, ite2 (fun e3 => ?_) (fun e3 => ?_)⟩
                  · have hz : mis B (placed.take (d + 1)) b.2 + frm (B.drop (j + 1)) g b.2 = 0 := by
                      have := V.int.inj (of_decide_eq_true e3)
                      omega
                    have hlp1 := hpl placed kj.nd kj.lt
                    have hdl : d < placed.length := (List.getElem?_eq_some_iff.mp kj.at_).1
                    refine ⟨_, rfl, .inl ⟨rfl, _, SqL.of hp8⟩, _, rfl, lp, _, _, rfl, rfl, hp8, by rw [List.length_map]; exact small1000 (by omega), ?_⟩
                    refine ⟨placed ++ [b.2], _, _, rfl, kj.put hbb hbg hlt.2 hz, ?_, ?_, same_mut sm8 hp1⟩
                    · rw [upd_same, List.map_append]
                      rfl
                    · rw [upd_ne npm.symm, List.take_append_of_le_length (by omega), ← e2]
                      exact upd_same
                  · have hz : mis B (placed.take (d + 1)) b.2 + frm (B.drop (j + 1)) g b.2 ≠ 0 := fun z => by
                      apply e3
                      rw [z]
                      rfl
                    refine ⟨placed, _, _, rfl, kj.not hbb hbg hz, hp8, ?_, sm8⟩
                    rw [← e2]
                    exact upd_same
                · have hbg : b.1 ≠ g := fun z => by
                    apply e
                    rw [z]
                    exact decide_eq_true rfl
                  refine ⟨placed, _, _, rfl, kj.skip hbb hbg, hp7, ?_, sm7⟩
                  have : (fun e => mis B (placed.take (d + 1)) e + frm (B.drop (j + 1)) g e) = fun e => mis B (placed.take (d + 1)) e + frm (B.drop j) g e := funext fun e => by
                    rw [frm_drop hbb, if_neg (fun z => hbg z.1)]
                    rfl
                  rw [this]
                  exact hm7
              · rintro σ H7 ⟨placed, s4, s5, rfl, kj, hp7, hm7, sm7⟩
                rw [ba1.1] at kj hm7
                refine ⟨_, rfl, _, _, rfl, rfl, placed, _, _, rfl, kj.done, hp7, ?_, sm7⟩
                rw [List.drop_length] at hm7
                exact hm7
          · have hd : d = placed.length := by
              have e' : ¬ (d : Int) < ((placed.map fun i => V.int (i : Nat)).length : Int) := fun z => e (decide_eq_true z)
              rw [List.length_map] at e'
              have := ki.le
              omega
            subst hd
            exact ⟨_, rfl, q placed lp H6 ki sm6 hp0 hp6⟩
abbrev DOrder (P : Program) (w : World) (K : PySem.W.Frag) (mg : Str → Option Value) (base : Heap) := Df P w K mg base 2 "bare_order" ["many_gates", "wires"] (spOrder K)
theorem ok_order {f fA : Addr} {fd fdA : FuncData} (F : Fun K "bare_order" "bare_order" sOrder f fd) (hm : mg "bare_order" = some (.ref f)) (B : Bt mg) (DA : DAlong P w K mg base fA fdA) : DOrder P w K mg base f fd := by
  refine ⟨?_, hm, F.kp, F.binds fun _ _ _ _ _ _ us hl => match us, hl with | [_, _], _ => rfl⟩
  refine F.ok scOrder (fun vs H Q E h => ?_) (fun cdv A outer s H vs Q E hr h => ?_)
  · obtain ⟨n, lw, ws, rfl, _⟩ := h
    rfl
  · obtain ⟨n, lw, ws, rfl, ⟨wv, sw, wa⟩, hws, hn, hwl, q⟩ := h
    have nd := scOrder.nd
    refine ⟨_, pss_one <| ps_ret <| pe_call DA.ok hr (by rfl) DA.mg DA.kp DA.bd .nil pass0 <| pa_cons (pv 0) <| (pa_cons · pa_nil) <|
      pe_lc (own := [("start", 2), ("end", 3), ("held", 4)]) (g := gTup K 3 (gCons (gName 2) (gCons (gName 3) (gCons (gName 4) gNil)))) (tt := tTest (tOp rEq (tCB (Evl.rLenS K) (tCons (tVar 4) tNil)) (tC (.int 0)))) (te := tTup (tCons (tVar 2) (tCons (tVar 3) tNil))) rfl nd
        (pi_list (pv 1)) (blkOk_by (N := nOrder) (sc := defScope sOrder) (own := [("start", 2), ("end", 3), ("held", 4)]) (by decide +kernel))
        (fun _ _ _ _ _ => pg_tup rfl (pgs_cons (pg_name (i := 2) nd rfl (Or.inl rfl)) (pgs_cons (pg_name (i := 3) nd rfl (Or.inl rfl)) (pgs_cons (pg_name (i := 4) nd rfl (Or.inl rfl)) pgs_nil))))
        (fun _ _ _ _ _ => pts_one (pt_cmpR op_eq (pe_callB call_len_seq (by rfl) B.len PySem.boot_len (pa_cons (pv 4) pa_nil)) pe_int (nomark _)))
        (fun _ _ _ _ _ => pe_tup (pa_cons (pv 2) (pa_cons (pv 3) pa_nil))), ?_⟩
    have hlw : wv.length = ws.length := wa.1
    -- bare = [..]
    refine ⟨_, rfl, _, rfl, lw, rfl, ⟨_, sw⟩, fun lb hlb => ?_⟩
    refine lc_list (K := K) (a := lw) (xs := wv) (fun i Hc => ∃ bv, Hc lb = some (.lst bv) ∧ All2 (PairV K Hc) bv (bare (ws.take i)) ∧ Same H Hc) ⟨[], upd_same, by simpa [bare] using All2.nil, same_new hlb⟩ (fun i Hc _ ⟨_, _, _, sm⟩ => sm.seq sw) ?_ ?_
    · rintro i x Hc hx ⟨bv, hb, ba, sm⟩
      obtain ⟨y, hy, a, b, rfl, sq1, sq2⟩ := wa.get hx
      have hyi : i < ws.length := (List.getElem?_eq_some_iff.mp hy).1
      have t := TK.same sm
      have hbl : bv.length ≤ 1000 := by
        rw [ba.1]
        have := bare_len (ws.take i)
        rw [List.length_take] at this
        omega
      refine ⟨a, _, rfl, t.seq sq1, rfl, _, _, rfl, _, _, rfl, _, _, rfl, rfl, rfl, ?_⟩
      refine ⟨_, rfl, b, _, rfl, .inr (t.seq sq2), rfl, _, rfl, ite2 (fun e => ?_) (fun e => ?_)⟩
      · have he : y.2.2.isEmpty = true := by
          have e' : (((y.2.2.map V.int).length : Nat) : Int) = 0 := V.int.inj (of_decide_eq_true e)
          rw [List.length_map] at e'
          rw [List.isEmpty_iff, ← List.length_eq_zero_iff]
          omega
        refine ⟨_, rfl, _, rfl, (by show 2 ≤ sizeLine; decide), fun p hp => ?_⟩
        have smp : Same Hc (upd Hc p (.tup [.int (y.1 : Nat), .int (y.2.1 : Nat)])) := same_new hp
        have npb : p ≠ lb := fun z => by
          rw [z, hb] at hp
          cases hp
        have t2 : TK Hc (upd (upd Hc p (.tup [.int (y.1 : Nat), .int (y.2.1 : Nat)])) lb (.lst (bv ++ [.ref p]))) := (TK.new hp).trans (TK.lst (smp _ _ hb))
        refine ⟨bv, smp _ _ hb, Nat.lt_of_le_of_lt hbl (small1000 (Nat.le_refl _)), bv ++ [.ref p], upd_same, ?_, same_mut (sm.trans smp) hlb⟩
        rw [bare_take hy, if_pos he]
        exact (ba.imp fun _ _ r => r.tk t2).snoc ⟨p, rfl, .inl (.inl (by rw [upd_ne npb]; exact upd_same))⟩
      · have he : ¬ y.2.2.isEmpty = true := fun z => by
          apply e
          rw [List.isEmpty_iff] at z
          rw [z]
          rfl
        exact ⟨bv, hb, by rw [bare_take hy, if_neg he]; exact ba, sm⟩
    · rintro H1 ⟨bv, hb1, ba1, sm1⟩
      rw [hlw, List.take_length] at ba1
      have hbl : bv.length ≤ 1000 := by
        rw [ba1.1]
        have := bare_len ws
        omega
      have hBlt : ∀ b ∈ bare ws, b.1 < n ∧ b.2 < n := by
        intro b hb
        obtain ⟨x, hx, rfl⟩ := List.mem_map.mp hb
        rw [List.mem_filter] at hx
        exact hws x hx.1
      exact ⟨n, lb, bv, bare ws, rfl, SqL.of hb1, ba1, hBlt, hn, by have := bare_len ws; omega, fun ord p H2 ki s2 hp h2 => q ord p H2 ki (sm1.trans s2) (sm1.free hp) h2⟩
end
end Lag


set_option maxRecDepth 100000
set_option maxHeartbeats 4000000
namespace Lag
open PySem PySem.Spec PyProof.Rows L2
abbrev sChkRings : Stmt := topS 37
abbrev sInit : Stmt := inClass (topS 30) 0
abbrev sEq : Stmt := inClass (topS 30) 1
def spChkRings (K : PySem.W.Frag) : Sp := fun vs H Q _ => ∃ (n : Nat) (lw : Addr) (ws : List Wr), vs = [.int (n : Nat), .ref lw] ∧ RW K H lw ws ∧ (∀ x ∈ ws, x.1 < n ∧ x.2.1 < n) ∧ n ≤ 1000 ∧ ws.length ≤ 1000 ∧
  (∃ ρ : Nat → Nat, ∀ x ∈ ws, x.2.2 = [] → ρ x.1 < ρ x.2.1) ∧ ∀ H', Same H H' → Q .non H'
/-! ### a net's object -/
def nf (lg lw : Addr) : List (Str × V) := putF "wires" (.ref lw) (putF "gates" (.ref lg) [])
theorem gw_ne : ¬ (("gates" : Str) = "wires") := by decide +kernel
theorem nf_eq (lg lw : Addr) : nf lg lw = ([("gates", V.ref lg), ("wires", V.ref lw)] : List (Str × V)) := by
  show (if ("gates" : Str) = "wires" then [(("gates" : Str), V.ref lw)] else (("gates" : Str), V.ref lg) :: putF "wires" (V.ref lw) []) = ([("gates", V.ref lg), ("wires", V.ref lw)] : List (Str × V))
  rw [if_neg gw_ne]
  all_goals rfl
theorem nf_gates (lg lw : Addr) : (nf lg lw).lookup ("gates" : Str) = some (.ref lg) := by
  unfold nf
  rw [lookup_putF, if_neg gw_ne, lookup_putF, if_pos rfl]
theorem nf_wires (lg lw : Addr) : (nf lg lw).lookup ("wires" : Str) = some (.ref lw) := by
  unfold nf
  rw [lookup_putF, if_pos rfl]
theorem nf_no (lg lw : Addr) {m : Str} (h1 : ¬ m = "wires") (h2 : ¬ m = "gates") : (nf lg lw).lookup m = none := by
  unfold nf
  rw [lookup_putF, if_neg h1, lookup_putF, if_neg h2]
  all_goals rfl
/-- the class as the top has made it -/
structure NT (K : PySem.W.Frag) (mg : Str → Option Value) (C : Addr) : Prop where
  cl : Cls K C
  nG : NoAttr K C "gates"
  nW : NoAttr K C "wires"
  mg : mg "Net" = some (.ref C)
/-- a net at p: its own lists at lg, lw -/
structure NetAt (K : PySem.W.Frag) (C : Addr) (H : Hp) (p lg lw : Addr) (gs : List Gt) (ws : List Wr) : Prop where
  ob : ∃ dx, H p = some (.ins C dx (nf lg lw))
  g : LG K H lg gs
  w : LW K H lw ws
  ne : lg ≠ lw
theorem LG.same {K : PySem.W.Frag} {H H' : Hp} {l : Addr} {gs : List Gt} (h : LG K H l gs) (s : Same H H') : LG K H' l gs := by
  obtain ⟨vs, q, a⟩ := h
  exact ⟨vs, s _ _ q, a.imp fun _ _ r => r.tk (TK.same s)⟩
theorem LW.same {K : PySem.W.Frag} {H H' : Hp} {l : Addr} {ws : List Wr} (h : LW K H l ws) (s : Same H H') : LW K H' l ws := by
  obtain ⟨vs, q, a⟩ := h
  exact ⟨vs, s _ _ q, a.imp fun _ _ r => r.tk (TK.same s)⟩
theorem LG.rg {K : PySem.W.Frag} {H : Hp} {l : Addr} {gs : List Gt} (h : LG K H l gs) : RG K H l gs := by
  obtain ⟨vs, q, a⟩ := h
  exact ⟨vs, SqL.of q, a⟩
theorem LW.rw {K : PySem.W.Frag} {H : Hp} {l : Addr} {ws : List Wr} (h : LW K H l ws) : RW K H l ws := by
  obtain ⟨vs, q, a⟩ := h
  exact ⟨vs, SqL.of q, a⟩
theorem NetAt.same {K : PySem.W.Frag} {C : Addr} {H H' : Hp} {p lg lw : Addr} {gs : List Gt} {ws : List Wr} (n : NetAt K C H p lg lw gs ws) (s : Same H H') : NetAt K C H' p lg lw gs ws := by
  obtain ⟨dx, h⟩ := n.ob
  exact ⟨⟨dx, s _ _ h⟩, n.g.same s, n.w.same s, n.ne⟩
def spInit (K : PySem.W.Frag) (C : Addr) : Sp := fun vs H Q _ => ∃ (p dx lg lw : Addr) (gs : List Gt) (ws : List Wr), vs = [.ref p, .ref lg, .ref lw] ∧ H p = some (.ins C dx []) ∧ RG K H lg gs ∧ RW K H lw ws ∧ NetOk gs ws ∧
  ∀ (H' : Hp) (lg' lw' : Addr), NetAt K C H' p lg' lw' gs ws → H lg' = none → H lw' = none → (∀ b o, H b = some o → b ≠ p → H' b = some o) → Q .non H'
section
variable {P : Program} {w : World} {K : PySem.W.Frag} {mg : Str → Option Value} {base : Heap}
theorem scChkRings : FnScope ["many_gates", "wires", "placed"] ["many_gates", "wires"] (defScope sChkRings) := ⟨rfl, rfl, rfl, by decide +kernel, rfl, by decide +kernel, by decide +kernel⟩
abbrev DChkRings (P : Program) (w : World) (K : PySem.W.Frag) (mg : Str → Option Value) (base : Heap) := Df P w K mg base 3 "check_rings" ["many_gates", "wires"] (spChkRings K)
theorem ok_chkRings {f fO : Addr} {fd fdO : FuncData} (F : Fun K "check_rings" "check_rings" sChkRings f fd) (hm : mg "check_rings" = some (.ref f)) (B : Bt mg) (DO : DOrder P w K mg base fO fdO) : DChkRings P w K mg base f fd := by
  refine ⟨?_, hm, F.kp, F.binds fun _ _ _ _ _ _ us hl => match us, hl with | [_, _], _ => rfl⟩
  refine F.ok scChkRings (fun vs H Q E h => ?_) (fun cdv A outer s H vs Q E hr h => ?_)
  · obtain ⟨n, lw, ws, rfl, _⟩ := h
    rfl
  · obtain ⟨n, lw, ws, rfl, R, hws, hn, hwl, rk, q⟩ := h
    have nd := scChkRings.nd
    refine ⟨_, pss_cons (ps_set (i := 2) nd rfl (Or.inl rfl) (pe_call DO.ok hr (by rfl) DO.mg DO.kp DO.bd .nil pass0 (pa_cons (pv 0) (pa_cons (pv 1) pa_nil)))) <|
      pss_one <| ps_if (pt_cmpR op_lt (pe_callB call_len_seq (by rfl) B.len PySem.boot_len (pa_cons (pv 2) pa_nil)) (pv 0) (nomark _)) (pss_one ps_never) pss_nil, ?_⟩
    refine ⟨_, rfl, _, rfl, n, lw, ws, rfl, R, hws, hn, hwl, fun ord p H1 ho sm hp h1 => ?_⟩
    have hpl : ord.length = n := by rw [(ho.full hws rk).length_eq, List.length_range]
    refine ⟨_, rfl, p, _, rfl, .inl (SqL.of h1), _, rfl, _, _, rfl, rfl, false, ?_, iteF (q H1 sm)⟩
    show V.bl (decide (((ord.map fun i => V.int (i : Nat)).length : Int) < (n : Int))) = V.bl false
    rw [decide_eq_false]
    rw [List.length_map, hpl]
    omega
theorem scInit : FnScope ["self", "gates", "wires"] ["self", "gates", "wires"] (defScope sInit) := ⟨rfl, rfl, rfl, by decide +kernel, rfl, by decide +kernel, by decide +kernel⟩
theorem ok_init {f fG fW fR C : Addr} {fd fdG fdW fdR : FuncData} (F : Fun K "__init__" "Net.__init__" sInit f fd) (T : NT K mg C) (B : Bt mg) (DG : DChkGates P w K mg base fG fdG) (DW : DChkWires P w K mg base fW fdW) (DR : DChkRings P w K mg base fR fdR) :
    FnOk P w K mg base CX0 6 f fd ["self", "gates", "wires"] (spInit K C) := by
  refine F.ok scInit (fun vs H Q E h => ?_) (fun cdv A outer s H vs Q E hr h => ?_)
  · obtain ⟨p, dx, lg, lw, gs, ws, rfl, _⟩ := h
    rfl
  · obtain ⟨p, dx, lg, lw, gs, ws, rfl, hp, RGs, RWs, N, q⟩ := h
    have hr4 : Room 4 _ := hr.mono (by decide)
    have hr2 : Room 3 _ := hr.mono (by decide)
    refine ⟨_, pss_cons (ps_expr (pe_call DG.ok hr4 (by rfl) DG.mg DG.kp DG.bd .nil pass0 (pa_cons (pv 1) pa_nil))) <|
      pss_cons (ps_expr (pe_call DW.ok hr (by rfl) DW.mg DW.kp DW.bd .nil pass0 (pa_cons (pv 1) (pa_cons (pv 2) pa_nil)))) <|
      pss_cons (ps_expr (pe_call DR.ok hr2 (by rfl) DR.mg DR.kp DR.bd .nil pass0 (pa_cons (pe_callB call_len_seq (by rfl) B.len PySem.boot_len (pa_cons (pv 1) pa_nil)) (pa_cons (pv 2) pa_nil)))) <|
      pss_cons (ps_fld (pv 0) (pe_callTy call_list_of (by rfl) B.list (by decide +kernel) (pa_cons (pv 1) pa_nil)) rfl) <|
      pss_one (ps_fld (pv 0) (pe_callTy call_list_of (by rfl) B.list (by decide +kernel) (pa_cons (pv 2) pa_nil)) rfl), ?_⟩
    refine ⟨_, rfl, lg, gs, rfl, RGs, N.ne, N.gok, fun H1 sm1 => ?_⟩
    refine ⟨_, rfl, _, rfl, lg, lw, gs, ws, rfl, RGs.same sm1, RWs.same sm1, N, fun H2 sm2 => ?_⟩
    have s2 := sm1.trans sm2
    obtain ⟨gv, sg, ga⟩ := RGs.same s2
    have hlg : gv.length = gs.length := ga.1
    refine ⟨_, rfl, lg, gv, rfl, .inl sg, _, rfl, gv.length, lw, ws, rfl, RWs.same s2, fun x hx => ?_, by have := N.gl; omega, N.wl, N.rank, fun H3 sm3 => ?_⟩
    · rw [hlg]
      exact ⟨(N.wok x hx).s, (N.wok x hx).e⟩
    have s3 := s2.trans sm3
    obtain ⟨gv3, sg3, ga3⟩ := RGs.same s3
    obtain ⟨wv3, sw3, wa3⟩ := RWs.same s3
    have hp3 := s3 _ _ hp
    refine ⟨_, rfl, lg, gv3, rfl, .inl sg3, fun l1 hl1 => ?_⟩
    have np1 : p ≠ l1 := ne_of_none hp3 hl1
    have sm4 : Same H3 (upd H3 l1 (.lst gv3)) := same_new hl1
    refine ⟨_, rfl, p, C, dx, [], rfl, sm4 _ _ hp3, T.cl, T.nG, (by show 0 < 1000; decide), ?_⟩
    have hw4 : SqL K (upd (upd H3 l1 (.lst gv3)) p (.ins C dx (putF "gates" (.ref l1) []))) lw wv3 := by
      rcases sm4.seq sw3 with (h | ⟨o, h⟩) | h
      · have n : lw ≠ p := fun z => by
          rw [z, sm4 _ _ hp3] at h
          cases h
        exact .inl (.inl (by rw [upd_ne n]; exact h))
      · have n : lw ≠ p := fun z => by
          rw [z, sm4 _ _ hp3] at h
          cases h
        exact .inl (.inr ⟨o, by rw [upd_ne n]; exact h⟩)
      · exact .inr h
    refine ⟨_, rfl, lw, wv3, rfl, .inl hw4, fun l2 hl2 => ?_⟩
    have np2 : p ≠ l2 := fun z => by
      rw [← z, upd_same] at hl2
      cases hl2
    have h11 : (upd (upd H3 l1 (.lst gv3)) p (.ins C dx (putF "gates" (.ref l1) []))) l1 = some (.lst gv3) := by
      rw [upd_ne np1.symm]
      exact upd_same
    have n12 : l1 ≠ l2 := ne_of_none h11 hl2
    have hl2' : H3 l2 = none := by
      rw [upd_ne np2.symm, upd_ne n12.symm] at hl2
      exact hl2
    refine ⟨_, rfl, p, C, dx, _, rfl, (by rw [upd_ne np2]; exact upd_same), T.cl, T.nW, (by show 1 < 1000; decide), ?_⟩
    have keep : ∀ b o, b ≠ p → H3 b = some o → (upd (upd (upd (upd H3 l1 (.lst gv3)) p (.ins C dx (putF "gates" (.ref l1) []))) l2 (.lst wv3)) p (.ins C dx (putF "wires" (.ref l2) (putF "gates" (.ref l1) [])))) b = some o := fun b o nb e => by
      rw [upd_ne nb, upd_ne (ne_of_none e hl2'), upd_ne nb, upd_ne (ne_of_none e hl1)]
      exact e
    have tk : TK H3 (upd (upd (upd (upd H3 l1 (.lst gv3)) p (.ins C dx (putF "gates" (.ref l1) []))) l2 (.lst wv3)) p (.ins C dx (putF "wires" (.ref l2) (putF "gates" (.ref l1) [])))) := fun b o t e => keep b o (fun z => by
      rw [z, hp3] at e
      cases e
      exact t) e
    refine q _ l1 l2 ⟨⟨dx, upd_same⟩, ⟨gv3, ?_, ga3.imp fun _ _ r => r.tk tk⟩, ⟨wv3, ?_, wa3.imp fun _ _ r => r.tk tk⟩, n12⟩ (s3.free hl1) (s3.free hl2') fun b o e nb => keep b o nb (s3 _ _ e)
    · rw [upd_ne np1.symm, upd_ne n12, upd_ne np1.symm]
      exact upd_same
    · rw [upd_ne np2.symm]
      exact upd_same
end
end Lag


set_option maxRecDepth 100000
set_option maxHeartbeats 4000000
namespace Lag
open PySem PySem.Spec PyProof.Rows L2
/-! ### == and != by an own __eq__, whatever the other thing is -/
section
variable {X : Cx} {pins : List (Addr × Obj)} {σ : L2.St} {H : Hp} {s : Shared}
/-- what typeOf says -/
def TyL (X : Cx) (s : Shared) (v tb : Value) : Prop := PySem.W.Looks (model X.prog X.w) s.heap (typeOf v) tb
theorem ty_looks {y : V} {v tb : Value} (I : Inv X pins σ H s) (r : RelV y v) (t : TyOf X.K H y tb) : TyL X s v tb := by
  cases t with
  | non => cases r; exact .of_pure rfl
  | bl b => cases r; exact .of_pure rfl
  | int i => obtain ⟨t, rfl⟩ := r; exact .of_pure rfl
  | str x => obtain ⟨t, rfl⟩ := r; exact .of_pure rfl
  | flt x => obtain ⟨t, rfl⟩ := r; exact .of_pure rfl
  | @lst a xs ea =>
    cases r
    obtain ⟨_, _, n, _, h1⟩ := (show ObjOk X.prog X.w H s.heap a (.lst xs) from I.hok a _ ea)
    exact (PySem.W.Looks.ld h1).andThen .now
  | @frz a ob xs ea =>
    cases r
    obtain ⟨_, _, _, n, _, h1⟩ := (show ObjOk X.prog X.w H s.heap a (.frz ob (.lst xs)) from I.hok a _ ea)
    exact (PySem.W.Looks.ld h1).andThen .now
  | @tup a xs ea =>
    cases r
    obtain ⟨_, _, _, o, h1, h2, _⟩ := (show ObjOk X.prog X.w H s.heap a (.tup xs) from I.hok a _ ea)
    exact h2 ▸ (PySem.W.Looks.ld h1).andThen .now
  | @dK a kvs ea =>
    cases r
    obtain ⟨_, _, vs, _, o, es, ep, h1, h2, _⟩ := (show ObjOk X.prog X.w H s.heap a (.dK kvs) from I.hok a _ ea)
    exact h2.1 ▸ (PySem.W.Looks.ld h1).andThen .now
  | @dT a kvs ea =>
    cases r
    obtain ⟨_, _, xs, _, o, es, ep, h1, h2, _⟩ := (show ObjOk X.prog X.w H s.heap a (.dT kvs) from I.hok a _ ea)
    exact h2.1 ▸ (PySem.W.Looks.ld h1).andThen .now
  | @ins a C dx fs ea cl ha hn htk hm =>
    cases r
    obtain ⟨mA, O, _⟩ := ins_get I.hok ea
    obtain ⟨od, J, _⟩ := O.look
    exact J.type
/-- a call of a def from within -/
theorem call_own {n : Nat} {f : Addr} {fd : FuncData} {ps : List Str} {sp : Sp} {xs : List V} {us : List Value} {Q : VK} {A : Around} (F : FnOk X.prog X.w X.K X.mg X.base CX0 n f fd ps sp) (hb : Binds X.K fd ps []) (sb : Sub X n A) (I : Inv X pins σ H s) (rx : Vals xs us)
    (h : sp xs H Q E0) : wpAny (model X.prog X.w) A (call (.ref f) us) (EP X pins σ Q) X.xe s := by
  have e0 : Env0 X.prog X.w X.K X.mg X.base A X.stack s H := by
    have e := I.env0
    exact ⟨by rw [sb.fr]; exact e.frames, e.mod, e.bs, e.bsz, e.funs, e.frf, e.hok, e.bare⟩
  have hl := F.len _ _ _ _ h
  have hl' : us.length = ps.length := by rw [← rx.length, hl]
  refine wpAny_call (codeAny_mono (F.run A X.stack s H ⟨us, []⟩ us xs _ E0 sb.room e0 (by
    have := hb s us I.kIn (by simpa using hl')
    simpa using this) rx h) fun r s' hq => ?_)
  cases r with
  | error e => exact False.elim hq
  | ok fl =>
    cases fl with
    | ret w => exact I.after hq
    | next => exact False.elim hq
    | brk => exact False.elim hq
    | cont => exact False.elim hq
/-- a special method that is a built-in -/
theorem ifBound_B {M : Model} {K : PySem.W.Frag} {A : Around} {E : Value → Shared → Prop} {s : Shared} {x C : Addr} {ox : Obj} {od : Option Obj} {name : Str} {id : String} {args : List Value} {Q : Option Value → Shared → Prop} (X : K.In s.heap) (I : PySem.W.InstAt s.heap x ox C od)
    (hs : PySem.W.findIn K (.ref C) name = some (some (.builtin id))) (hb : ∀ self, bindSpecial (.builtin id) self = pure (.builtin id, [self]))
    (h : wpAny M A (call (.builtin id) (.ref x :: args)) (fun v => Q (some v)) E s) : wpAny M A (callSpecialIfBound? (.ref x) name args) Q E s := by
  simp only [callSpecialIfBound?, bindSpecialIfBound?]
  refine wpAny_holding (wpAny_bind (wpAny_bind (wpAny_bind (I.type.here ((PySem.W.looks_findIn X hs).here ?_)))))
  refine wpAny_bind (wpAny_askSetting (wpAny_ite ?_))
  have fin : wpAny M A (call (.builtin id) ([.ref x] ++ args) >>= fun v => pure (some v)) Q E s := wpAny_bind (wpAny_mono h (fun v s' h' => wpAny_pure h') fun _ _ h' => h')
  split
  · exact wpAny_bind (wpAny_of_eq (hb _) (wpAny_pure (by exact fin)))
  · exact wpAny_tryCatch (wpAny_bind (wpAny_of_eq (hb _) (wpAny_pure (by exact fin))))
theorem bind_ne (self : Value) : bindSpecial (.builtin "object.__ne__") self = pure (.builtin "object.__ne__", [self]) := PySem.F.slot_tuple_iterator_ne.bind self
theorem ne_body {K : PySem.W.Frag} {prog : Program} {w : World} {A : Around} {E : Value → Shared → Prop} {s : Shared} {x C f : Addr} {ox : Obj} {od : Option Obj} {b : Value} {Q : Fin → Shared → Prop} (X : K.In s.heap) (I : PySem.W.InstAt s.heap x ox C od)
    (hs : PySem.W.findIn K (.ref C) "__eq__" = some (some (.ref f))) (hf : PySem.W.isFn K (.ref f) = true) (hu : A.units < cLine)
    (hcall : wpAny (model prog w) A (call (.ref f) [.ref x, b]) (fun v s' => ∃ c, v = .bool c ∧ Q (.done (.ret (.bool (!c)))) s') E s) :
    wpAny (model prog w) A (Builtin.«object.__ne__» ⟨[.ref x, b], []⟩) Q E s := by
  obtain ⟨h, g, d, t, os⟩ := s
  unfold Builtin.«object.__ne__»
  repeat (first
    | with_reducible refine wpAny_cRoomFor hu ?_
    | (refine wpAny_bind (m := callSpecialIfBound? (.ref x) (Str.ofString "__eq__") [b])
        (PySem.W.ifBound_K X I hs hf (wpAny_mono hcall (fun r s' hr => by
          obtain ⟨c, rfl, hq⟩ := hr
          repeat (first | exact hq | exact wpAny_pure hq | exact wpAny_truthy_bool hq | (refine wpAny_bind (m := truthy (.bool _)) (wpAny_truthy_bool ?_)) | wp_step)) fun _ _ e => e)))
    | wp_step)
theorem op_eqO {n : Nat} {C f : Addr} {fd : FuncData} {ps : List Str} {sp : Sp} (F : FnOk X.prog X.w X.K X.mg X.base CX0 n f fd ps sp) (hs : PySem.W.findIn X.K (.ref C) "__eq__" = some (some (.ref f))) (hf : PySem.W.isFn X.K (.ref f) = true) (hb : Binds X.K fd ps []) (hr : Room n X.A) :
    OpR X (compareOp .Eq) (fun x y H Q => ∃ a dx fs tb, x = .ref a ∧ H a = some (.ins C dx fs) ∧ TyOf X.K H y tb ∧ PySem.W.notFirst X.K C tb = true ∧ sp [x, y] H (fun v H' => ∃ c, v = .bl c ∧ Q v H') E0) := by
  intro pins s σ H x y u v Q I rx ry h
  obtain ⟨a, dx, fs, tb, rfl, ha, ty, nf, q⟩ := h
  cases rx
  obtain ⟨mA, J, _⟩ := ins_get I.hok ha
  obtain ⟨od, J, _⟩ := J.look
  obtain ⟨m, hF⟩ := I.fr
  show wpAny (model X.prog X.w) X.A (richCompare .Eq (.ref a) v) (EP X pins σ Q) X.xe s
  refine PySem.W.cmp_K (op := .Eq) (tb := tb) hr.units0 hF I.ok.mod.kin J (ty_looks I ry ty) nf hs hf ?_
  refine wpAny_mono (call_own F hb ⟨hr, rfl⟩ I (.cons (show RelV (V.ref a) (Value.ref a) from rfl) (.cons ry .nil)) q) (fun r s' z => ?_) fun _ _ x => x
  obtain ⟨z, H', I', rz, c, ez, q'⟩ := z
  subst ez
  cases rz
  exact ⟨.bl c, H', I', rfl, q'⟩
theorem op_neO {n : Nat} {C f : Addr} {fd : FuncData} {ps : List Str} {sp : Sp} (F : FnOk X.prog X.w X.K X.mg X.base CX0 n f fd ps sp) (hs : PySem.W.findIn X.K (.ref C) "__eq__" = some (some (.ref f))) (hn : PySem.W.findIn X.K (.ref C) "__ne__" = some (some (.builtin "object.__ne__")))
    (ho : PySem.W.mroIn X.K C (.type "object") = some true) (hf : PySem.W.isFn X.K (.ref f) = true) (hb : Binds X.K fd ps []) (hr : Room (n + 1) X.A) :
    OpR X (compareOp .NotEq) (fun x y H Q => ∃ a dx fs tb, x = .ref a ∧ H a = some (.ins C dx fs) ∧ TyOf X.K H y tb ∧ PySem.W.notFirst X.K C tb = true ∧ sp [x, y] H (fun v H' => ∃ c, v = .bl c ∧ Q (.bl (!c)) H') E0) := by
  intro pins s σ H x y u v Q I rx ry h
  obtain ⟨a, dx, fs, tb, rfl, ha, ty, nf, q⟩ := h
  cases rx
  obtain ⟨mA, J, _⟩ := ins_get I.hok ha
  obtain ⟨od, J, _⟩ := J.look
  have hb' := ty_looks I ry ty
  have sb : Sub X (n + 1) X.A := ⟨hr, rfl⟩
  show wpAny (model X.prog X.w) X.A (richCompare .NotEq (.ref a) v) (EP X pins σ Q) X.xe s
  have one : wpAny (model X.prog X.w) X.A (tryCompare (.ref a) "__ne__" v) (fun r s' => ∃ w, r = some w ∧ EP X pins σ Q w s') X.xe s := by
    unfold tryCompare
    refine wpAny_bind (ifBound_B I.kIn J hn bind_ne (wpAny_call (codeAny_call_builtin PySem.F.slot_tuple_iterator_ne.plain PySem.F.cmpEntry_ne
      (PySem.W.check_slot PySem.F.cmpKind_ne PySem.F.cmpSplit_ne (J.type.andThen (PySem.W.looks_mroIn I.kIn ho)) (PySem.F.cmpArgs_ne _ _)
        (ne_body I.kIn J hs hf sb.in1.room.units0 (wpAny_mono (call_own F hb sb.in1 I (.cons (show RelV (V.ref a) (Value.ref a) from rfl) (.cons ry .nil)) q) (fun r s' z => ?_) fun _ _ x => x))))))
    obtain ⟨z, H', I', rz, c, ez, q'⟩ := z
    subst ez
    cases rz
    have fin : EP X pins σ Q (.bool (!c)) s' := ⟨.bl (!c), H', I', rfl, q'⟩
    first | exact ⟨c, rfl, wpAny_pure ⟨_, rfl, fin⟩⟩ | exact ⟨c, rfl, wpAny_pure (wpAny_pure ⟨_, rfl, fin⟩)⟩ | exact ⟨c, rfl, ⟨_, rfl, fin⟩⟩
  unfold richCompare
  simp only [oneThing_ref]
  refine wpAny_holding (wpAny_bind (wpAny_cRoomFor hr.units0 ?_))
  refine wpAny_bind (J.type.here (wpAny_bind (hb'.here ?_)))
  split
  · rename_i q'
    have e : PySem.W.subIn X.K tb (.ref C) = some false := by
      rcases Bool.or_eq_true_iff.mp nf with e | e
      · rw [beq_iff_eq.mp e] at q'; simp at q'
      · exact beq_iff_eq.mp e
    refine wpAny_bind ((PySem.W.looks_subIn I.kIn e).here ?_)
    simp only [Bool.false_eq_true, if_false]
    refine wpAny_bind (wpAny_mono one (fun r s' z => ?_) fun _ _ e => e)
    obtain ⟨v, rfl, hq⟩ := z
    exact wpAny_pure hq
  · refine wpAny_bind (wpAny_pure ?_)
    simp only [Bool.false_eq_true, if_false]
    refine wpAny_bind (wpAny_mono one (fun r s' z => ?_) fun _ _ e => e)
    obtain ⟨v, rfl, hq⟩ := z
    exact wpAny_pure hq
end
end Lag


set_option maxRecDepth 100000
set_option maxHeartbeats 4000000
namespace Lag
open PySem PySem.Spec PyProof.Rows L2
/-! ### nets as data that is compared -/
def gateD (g : Gt) : PyData := .tuple [.str g.1, .int g.2]
def gatesD (gs : List Gt) : PyData := .list (gs.map gateD)
def wireD (x : Wr) : PyData := .tuple [.int (x.1 : Nat), .int (x.2.1 : Nat), .tuple (x.2.2.map PyData.int)]
def wiresD (ws : List Wr) : PyData := .list (ws.map wireD)
def intsD (l : List Nat) : PyData := .list (l.map fun i => .int (i : Nat))
theorem eqvAll_map {α : Type} [DecidableEq α] {f : α → PyData} (h : ∀ x y, PyData.eqv (f x) (f y) = decide (x = y)) : ∀ xs ys : List α, PyData.eqvAll (xs.map f) (ys.map f) = decide (xs = ys)
  | [], [] => rfl
  | [], _ :: _ => rfl
  | _ :: _, [] => rfl
  | x :: xs, y :: ys => by
    show (PyData.eqv (f x) (f y) && PyData.eqvAll (xs.map f) (ys.map f)) = _
    rw [h, eqvAll_map h xs ys, Bool.eq_iff_iff]
    simp
theorem gateD_eq (a b : Gt) : PyData.eqv (gateD a) (gateD b) = decide (a = b) := by
  show ((a.1 == b.1) && ((a.2 == b.2) && true)) = _
  rw [Bool.eq_iff_iff]
  simp [Prod.ext_iff]
theorem gatesD_eq (a b : List Gt) : PyData.eqv (gatesD a) (gatesD b) = decide (a = b) := eqvAll_map gateD_eq a b
theorem intD_eq (a b : Int) : PyData.eqv (.int a) (.int b) = decide (a = b) := rfl
theorem wireD_eq (a b : Wr) : PyData.eqv (wireD a) (wireD b) = decide (a = b) := by
  show ((((a.1 : Nat) : Int) == ((b.1 : Nat) : Int)) && ((((a.2.1 : Nat) : Int) == ((b.2.1 : Nat) : Int)) && (PyData.eqvAll (a.2.2.map PyData.int) (b.2.2.map PyData.int) && true))) = _
  rw [eqvAll_map intD_eq, Bool.eq_iff_iff]
  simp only [Bool.and_eq_true, beq_iff_eq, decide_eq_true_eq, and_true]
  constructor
  · rintro ⟨h1, h2, h3⟩
    exact Prod.ext (by omega) (Prod.ext (by show a.2.1 = b.2.1; omega) h3)
  · rintro rfl
    exact ⟨rfl, rfl, rfl⟩
theorem wiresD_eq (a b : List Wr) : PyData.eqv (wiresD a) (wiresD b) = decide (a = b) := eqvAll_map wireD_eq a b
theorem natD_eq (a b : Nat) : PyData.eqv (.int (a : Nat)) (.int (b : Nat)) = decide (a = b) := by
  show (((a : Nat) : Int) == ((b : Nat) : Int)) = _
  rw [Bool.eq_iff_iff]
  simp
  omega
theorem intsD_eq (a b : List Nat) : PyData.eqv (intsD a) (intsD b) = decide (a = b) := eqvAll_map natD_eq a b
theorem lay_all {ds : List PyData} : (∀ d ∈ ds, PyData.canLay0 d = true) → PyData.canLayAll0 ds = true := by
  induction ds with
  | nil => intro _; rfl
  | cons d ds ih =>
    intro h
    show (PyData.canLay0 d && PyData.canLayAll0 ds) = true
    rw [h d (List.mem_cons_self ..), ih fun x hx => h x (List.mem_cons_of_mem _ hx)]
    rfl
theorem depth_all {ds : List PyData} {k : Nat} : (∀ d ∈ ds, PyData.depth d ≤ k) → PyData.depthAll ds ≤ k := by
  induction ds with
  | nil => intro _; exact Nat.zero_le _
  | cons d ds ih =>
    intro h
    show max (PyData.depth d) (PyData.depthAll ds) ≤ k
    have h1 := h d (List.mem_cons_self ..)
    have h2 := ih fun x hx => h x (List.mem_cons_of_mem _ hx)
    omega
/-- such data may be compared, to the depth k -/
def Sh (k : Nat) (d : PyData) : Prop := PyData.canLay0 d = true ∧ PyData.depth d ≤ k
theorem Sh.ok {k : Nat} {d : PyData} (h : Sh k d) (hk : k ≤ 64) : SeqAt.shaped d = true := by
  show (PyData.canLay0 d && decide (PyData.depth d ≤ 64)) = true
  rw [h.1, decide_eq_true (Nat.le_trans h.2 hk)]
  rfl
theorem sh_list {k : Nat} {ds : List PyData} (h : ∀ d ∈ ds, Sh k d) : Sh (k + 1) (.list ds) := ⟨lay_all fun d hd => (h d hd).1, Nat.succ_le_succ (depth_all fun d hd => (h d hd).2)⟩
theorem sh_tuple {k : Nat} {ds : List PyData} (h : ∀ d ∈ ds, Sh k d) : Sh (k + 1) (.tuple ds) := ⟨lay_all fun d hd => (h d hd).1, Nat.succ_le_succ (depth_all fun d hd => (h d hd).2)⟩
theorem sh_int {k : Nat} (i : Int) : Sh k (.int i) := ⟨rfl, Nat.zero_le _⟩
theorem kinds_str : ∀ k ∈ kinds, PyData.canLay0 (.str k) = true := by decide +kernel
theorem sh_kind {k : Nat} {z : Str} (h : z ∈ kinds) : Sh k (.str z) := ⟨kinds_str z h, Nat.zero_le _⟩
theorem sh_gates {gs : List Gt} (h : ∀ g ∈ gs, GOk g) : Sh 2 (gatesD gs) := by
  refine sh_list fun d hd => ?_
  obtain ⟨g, hg, rfl⟩ := List.mem_map.mp hd
  refine sh_tuple fun d hd => ?_
  simp only [List.mem_cons, List.not_mem_nil, or_false] at hd
  rcases hd with rfl | rfl
  · exact sh_kind (h g hg).1
  · exact sh_int _
theorem sh_wires (ws : List Wr) : Sh 3 (wiresD ws) := by
  refine sh_list fun d hd => ?_
  obtain ⟨g, hg, rfl⟩ := List.mem_map.mp hd
  refine sh_tuple fun d hd => ?_
  simp only [List.mem_cons, List.not_mem_nil, or_false] at hd
  rcases hd with rfl | rfl | rfl
  · exact sh_int _
  · exact sh_int _
  · refine sh_tuple fun d hd => ?_
    obtain ⟨i, _, rfl⟩ := List.mem_map.mp hd
    exact sh_int _
theorem sh_ints (l : List Nat) : Sh 1 (intsD l) := by
  refine sh_list fun d hd => ?_
  obtain ⟨i, _, rfl⟩ := List.mem_map.mp hd
  exact sh_int _
section
variable {K : PySem.W.Frag} {H : Hp}
theorem dp_all {α : Type} {R : V → α → Prop} {f : α → PyData} (h : ∀ v x, R v x → Dp K H v (f x)) : ∀ {vs : List V} {xs : List α}, All2 R vs xs → DpAll K H vs (xs.map f)
  | [], [], _ => .nil
  | [], _ :: _, a => by have := a.1; simp at this
  | _ :: _, [], a => by have := a.1; simp at this
  | _ :: _, _ :: _, a => .cons (h _ _ a.head) (dp_all h a.tail)
theorem GateV.dp {v : V} {g : Gt} (h : GateV K H v g) : Dp K H v (gateD g) := by
  obtain ⟨a, rfl, s⟩ := h
  exact .tup s (.cons (.str _) (.cons (.int _) .nil))
theorem ints_dp : ∀ l : List Int, DpAll K H (l.map V.int) (l.map PyData.int)
  | [] => .nil
  | i :: l => .cons (.int i) (ints_dp l)
theorem nats_dp : ∀ l : List Nat, DpAll K H (l.map fun i => V.int (i : Nat)) (l.map fun i => PyData.int (i : Nat))
  | [] => .nil
  | i :: l => .cons (.int _) (nats_dp l)
theorem WireV.dp {v : V} {x : Wr} (h : WireV K H v x) : Dp K H v (wireD x) := by
  obtain ⟨a, b, rfl, s1, s2⟩ := h
  exact .tup s1 (.cons (.int _) (.cons (.int _) (.cons (.tup s2 (ints_dp _)) .nil)))
theorem RG.dp {l : Addr} {gs : List Gt} (h : RG K H l gs) : Dp K H (.ref l) (gatesD gs) := by
  obtain ⟨vs, s, a⟩ := h
  exact .lst s (dp_all (fun _ _ r => GateV.dp r) a)
theorem RW.dp {l : Addr} {ws : List Wr} (h : RW K H l ws) : Dp K H (.ref l) (wiresD ws) := by
  obtain ⟨vs, s, a⟩ := h
  exact .lst s (dp_all (fun _ _ r => WireV.dp r) a)
theorem dp_ints {l : Addr} {xs : List Nat} (h : SqL K H l (xs.map fun i => V.int (i : Nat))) : Dp K H (.ref l) (intsD xs) := .lst h (nats_dp xs)
end
/-! ### Net.__eq__ -/
structure NTy (K : PySem.W.Frag) (C : Addr) : Prop where
  ha : PySem.W.findIn K (.ref C) "__class__" = some (some (.builtin "object.__class__"))
  hn : PySem.W.specialIn K (.builtin "object.__class__") "__get__" = some (some (.builtin "getset_descriptor.__get__"))
  htk : PySem.W.takesIn K (.builtin "object.__class__") = some true
  hm : PySem.W.mroIn K C (.type "object") = some true
theorem ty_net {K : PySem.W.Frag} {mg : Str → Option Value} {C : Addr} {H : Hp} {p dx : Addr} {fs : List (Str × V)} (T : NT K mg C) (Y : NTy K C) (h : H p = some (.ins C dx fs)) : TyOf K H (.ref p) (.ref C) := .ins h T.cl Y.ha Y.hn Y.htk Y.hm
def spEqN (K : PySem.W.Frag) (C : Addr) : Sp := fun vs H Q _ => ∃ (p lg lw : Addr) (gs : List Gt) (ws : List Wr) (y : V), vs = [.ref p, y] ∧ NetAt K C H p lg lw gs ws ∧
  ((∃ (q lg' lw' : Addr) (gs' : List Gt) (ws' : List Wr), y = .ref q ∧ NetAt K C H q lg' lw' gs' ws' ∧ (∀ g ∈ gs, GOk g) ∧ (∀ g ∈ gs', GOk g) ∧ Q (.bl (decide (gs = gs') && decide (ws = ws'))) H) ∨
    (∃ t, TyX K H y t ∧ PySem.W.kitOne K t (.ref C) = some false ∧ Q (.bl false) H))
section
variable {P : Program} {w : World} {K : PySem.W.Frag} {mg : Str → Option Value} {base : Heap}
theorem scEq : FnScope ["self", "other"] ["self", "other"] (defScope sEq) := ⟨rfl, rfl, rfl, by decide +kernel, rfl, by decide +kernel, by decide +kernel⟩
theorem kit_self {K : PySem.W.Frag} (C : Addr) : PySem.W.kitOne K (.ref C) (.ref C) = some true := by
  unfold PySem.W.kitOne
  rw [if_pos (beq_self_eq_true _)]
theorem ok_eqN {f C : Addr} {fd : FuncData} (F : Fun K "__eq__" "Net.__eq__" sEq f fd) (T : NT K mg C) (Y : NTy K C) (B : Bt mg) : FnOk P w K mg base CX0 1 f fd ["self", "other"] (spEqN K C) := by
  refine F.ok scEq (fun vs H Q E h => ?_) (fun cdv A outer s H vs Q E hr h => ?_)
  · obtain ⟨p, lg, lw, gs, ws, y, rfl, _⟩ := h
    rfl
  · obtain ⟨p, lg, lw, gs, ws, y, rfl, N, h⟩ := h
    refine ⟨_, pss_one <| ps_ret <| pe_and (pe_callB call_isi (by rfl) B.isi (by decide +kernel) (pa_cons (pv 1) (pa_cons (pe_glob (v := .ref C) (by rfl) T.mg rfl) pa_nil))) <|
      pe_and (pe_cmpR (op_eqD hr.units) (pe_fld (pv 0) rfl) (pe_fld (pv 1) rfl) (nomark _)) <| pe_one <| pe_cmpR (op_eqD hr.units) (pe_fld (pv 0) rfl) (pe_fld (pv 1) rfl) (nomark _), ?_⟩
    obtain ⟨dx, hp⟩ := N.ob
    rcases h with ⟨q, lg', lw', gs', ws', rfl, N', gok, gok', k⟩ | ⟨t, ty, kt, k⟩
    · obtain ⟨dx', hq⟩ := N'.ob
      refine ⟨_, rfl, _, _, _, _, true, rfl, .own C, .base (ty_net T Y hq), kit_self C, true, rfl, iteT ?_⟩
      refine ⟨_, rfl, p, C, dx, _, _, rfl, hp, T.cl, T.nG, nf_gates _ _, _, rfl, q, C, dx', _, _, rfl, hq, T.cl, T.nG, nf_gates _ _, _, _, N.g.rg.dp, N'.g.rg.dp, (sh_gates gok).ok (by decide), (sh_gates gok').ok (by decide), _, rfl, ?_⟩
      rw [gatesD_eq]
      cases e : decide (gs = gs') with
      | false =>
        rw [e] at k
        exact iteF k
      | true =>
        rw [e] at k
        refine iteT ⟨_, rfl, p, C, dx, _, _, rfl, hp, T.cl, T.nW, nf_wires _ _, _, rfl, q, C, dx', _, _, rfl, hq, T.cl, T.nW, nf_wires _ _, _, _, N.w.rw.dp, N'.w.rw.dp, (sh_wires _).ok (by decide), (sh_wires _).ok (by decide), ?_⟩
        rw [wiresD_eq]
        exact k
    · exact ⟨_, rfl, _, _, _, _, false, rfl, .own C, ty, kt, false, rfl, iteF k⟩
end
end Lag


set_option maxRecDepth 100000
set_option maxHeartbeats 4000000
namespace Lag
open PySem PySem.Spec PyProof.Rows L2
/-! ### what keeps a net a net -/
theorem kindAt_set {gs : List Gt} {i j : Nat} {g : Gt} (h : i < gs.length) : kindAt (gs.set i g) j = if j = i then g.1 else kindAt gs j := by
  unfold kindAt
  rw [List.getD_eq_getElem?_getD, List.getD_eq_getElem?_getD, List.getElem?_set]
  by_cases e : i = j
  · subst e
    rw [if_pos rfl, if_pos h, if_pos rfl]
    rfl
  · rw [if_neg e, if_neg (fun z => e z.symm)]
/-- another gate at a place whose gate is no port: no port, and no first where it was none -/
theorem NetOk.setG {gs : List Gt} {ws : List Wr} (N : NetOk gs ws) {i : Nat} {g : Gt} (hi : i < gs.length) (hg : GOk g) (h1 : g.1 ≠ "out") (h2 : g.1 ≠ "in") (h3 : g.1 = "first" → kindAt gs i = "first") : NetOk (gs.set i g) ws := by
  have kk := @kindAt_set gs i
  refine ⟨?_, by rw [List.length_set]; exact N.gl, N.wl, ?_, fun x hx => ?_, fun e he hk => ?_, fun e he hk => ?_, N.rank⟩
  · intro z
    have := congrArg List.length z
    rw [List.length_set] at this
    exact N.ne (List.length_eq_zero_iff.mp this)
  · intro y hy
    rcases List.mem_or_eq_of_mem_set hy with hy | hy
    · exact N.gok y hy
    · rw [hy]
      exact hg
  · have W := N.wok x hx
    refine ⟨by rw [List.length_set]; exact W.s, by rw [List.length_set]; exact W.e, ?_, ?_, W.r, W.rl⟩
    · rw [kk hi]
      split
      · exact h1
      · exact W.ks
    · rw [kk hi]
      split
      · exact h2
      · exact W.ke
  · rw [List.length_set] at he
    rw [kk hi] at hk
    split at hk
    · exact absurd hk h1
    · exact N.one e he hk
  · rw [List.length_set] at he
    rw [kk hi] at hk
    split at hk
    · rename_i hei
      subst hei
      exact N.some _ he (h3 hk)
    · exact N.some e he hk
theorem kindAt_app {gs : List Gt} {g : Gt} {j : Nat} (h : j < gs.length) : kindAt (gs ++ [g]) j = kindAt gs j := by
  unfold kindAt
  rw [List.getD_eq_getElem?_getD, List.getD_eq_getElem?_getD, List.getElem?_append_left h]
theorem NetOk.addIn {gs : List Gt} {ws : List Wr} (N : NetOk gs ws) (hl : gs.length < 100) : NetOk (gs ++ [(("in" : Str), (0 : Int))]) ws := by
  have kl : kindAt (gs ++ [(("in" : Str), (0 : Int))]) gs.length = "in" := by
    unfold kindAt
    rw [List.getD_eq_getElem?_getD, List.getElem?_append_right (Nat.le_refl _), Nat.sub_self]
    rfl
  refine ⟨by simp, by simp; omega, N.wl, ?_, fun x hx => ?_, fun e he hk => ?_, fun e he hk => ?_, N.rank⟩
  · intro y hy
    rcases List.mem_append.mp hy with hy | hy
    · exact N.gok y hy
    · simp at hy
      subst hy
      exact ⟨by show ("in" : Str) ∈ kinds; decide +kernel, Int.le_refl 0, (by show (0 : Int) ≤ 100; decide), fun _ => rfl⟩
  · have W := N.wok x hx
    exact ⟨by have := W.s; simp; omega, by have := W.e; simp; omega, by rw [kindAt_app W.s]; exact W.ks, by rw [kindAt_app W.e]; exact W.ke, W.r, W.rl⟩
  · by_cases h : e < gs.length
    · rw [kindAt_app h] at hk
      exact N.one e h hk
    · have : e = gs.length := by simp at he; omega
      subst this
      rw [kl] at hk
      exact absurd hk (by decide +kernel)
  · by_cases h : e < gs.length
    · rw [kindAt_app h] at hk
      exact N.some e h hk
    · have : e = gs.length := by simp at he; omega
      subst this
      rw [kl] at hk
      exact absurd hk (by decide +kernel)
theorem cnt_set {ws : List Wr} {i : Nat} {x y : Wr} (h : ws[i]? = some x) (he : y.2.1 = x.2.1) (e : Nat) : cnt (ws.set i y) e = cnt ws e := by
  obtain ⟨hi, rfl⟩ := List.getElem?_eq_some_iff.mp h
  have h1 : ws.set i y = ws.take i ++ y :: ws.drop (i + 1) := List.set_eq_take_append_cons_drop .. |>.trans (by rw [if_pos hi])
  have h2 : ws = ws.take i ++ ws[i] :: ws.drop (i + 1) := by rw [List.getElem_cons_drop, List.take_append_drop]
  unfold cnt
  conv => rhs; rw [h2]
  rw [h1, List.countP_append, List.countP_append, List.countP_cons, List.countP_cons, he]
/-- a wire with other registers, one at least -/
theorem NetOk.setW {gs : List Gt} {ws : List Wr} (N : NetOk gs ws) {i : Nat} {x : Wr} {r : List Int} (h : ws[i]? = Option.some x) (hr : ROk r) (hl : r.length ≤ 100) (hne : r ≠ []) : NetOk gs (ws.set i (x.1, x.2.1, r)) := by
  have W := N.wok x (List.mem_of_getElem? h)
  obtain ⟨ρ, hρ⟩ := N.rank
  refine ⟨N.ne, N.gl, by rw [List.length_set]; exact N.wl, N.gok, fun y hy => ?_, fun e he hk => ?_, fun e he hk => ?_, ρ, fun y hy hyr => ?_⟩
  · rcases List.mem_or_eq_of_mem_set hy with hy | hy
    · exact N.wok y hy
    · rw [hy]
      exact ⟨W.s, W.e, W.ks, W.ke, hr, hl⟩
  · rw [cnt_set (y := (x.1, x.2.1, r)) h rfl]
    exact N.one e he hk
  · rw [cnt_set (y := (x.1, x.2.1, r)) h rfl]
    exact N.some e he hk
  · rcases List.mem_or_eq_of_mem_set hy with hy | hy
    · exact hρ y hy hyr
    · rw [hy] at hyr
      exact absurd hyr hne
theorem NetOk.perm {gs : List Gt} {ws ws' : List Wr} (N : NetOk gs ws) (p : ws'.Perm ws) : NetOk gs ws' := by
  obtain ⟨ρ, hρ⟩ := N.rank
  have c : ∀ e, cnt ws' e = cnt ws e := fun e => p.countP_eq _
  exact ⟨N.ne, N.gl, by rw [p.length_eq]; exact N.wl, N.gok, fun x hx => N.wok x (p.mem_iff.mp hx), fun e he hk => by rw [c]; exact N.one e he hk, fun e he hk => by rw [c]; exact N.some e he hk, ρ, fun x hx h => hρ x (p.mem_iff.mp hx) h⟩
/-! ### slices -/
theorem take_min {α : Type} (l : List α) (k : Nat) : l.take (min k l.length) = l.take k := by
  by_cases h : k ≤ l.length
  · rw [Nat.min_eq_left h]
  · rw [Nat.min_eq_right (by omega), List.take_length, List.take_of_length_le (by omega)]
theorem drop_min {α : Type} (l : List α) (k : Nat) : l.drop (min k l.length) = l.drop k := by
  by_cases h : k ≤ l.length
  · rw [Nat.min_eq_left h]
  · rw [Nat.min_eq_right (by omega), List.drop_length, List.drop_of_length_le (by omega)]
theorem cut_to {xs : List V} (k : Nat) : cutV xs none (some (k : Int)) = xs.take k := by
  unfold cutV
  rw [HT.sIx_none, HT.sIx_nat, List.drop_zero, Nat.sub_zero, take_min]
theorem cut_from {xs : List V} (k : Nat) : cutV xs (some (k : Int)) none = xs.drop k := by
  unfold cutV
  rw [HT.sIx_none, HT.sIx_nat, drop_min]
  exact List.take_of_length_le (by rw [List.length_drop]; omega)
theorem cut_mid {xs : List V} (j k : Nat) : cutV xs (some (j : Int)) (some (k : Int)) = (xs.take k).drop j := by
  unfold cutV
  rw [HT.sIx_nat, HT.sIx_nat, List.drop_take, drop_min]
  by_cases h : j ≤ xs.length
  · by_cases h2 : k ≤ xs.length
    · rw [Nat.min_eq_left h, Nat.min_eq_left h2]
    · rw [List.take_of_length_le (by rw [List.length_drop]; omega), List.take_of_length_le (by rw [List.length_drop]; omega)]
  · rw [List.drop_of_length_le (by omega)]
    simp
section
variable {α β : Type} {R : α → β → Prop} {xs xs' : List α} {ys ys' : List β}
theorem All2.take (h : All2 R xs ys) (k : Nat) : All2 R (xs.take k) (ys.take k) := by
  refine ⟨by rw [List.length_take, List.length_take, h.1], fun i x y hx hy => ?_⟩
  have hi : i < k := by
    have := (List.getElem?_eq_some_iff.mp hx).1
    rw [List.length_take] at this
    omega
  rw [List.getElem?_take_of_lt hi] at hx hy
  exact h.2 i x y hx hy
theorem All2.drop (h : All2 R xs ys) (k : Nat) : All2 R (xs.drop k) (ys.drop k) := by
  refine ⟨by rw [List.length_drop, List.length_drop, h.1], fun i x y hx hy => ?_⟩
  rw [List.getElem?_drop] at hx hy
  exact h.2 _ x y hx hy
theorem All2.append (h : All2 R xs ys) (h' : All2 R xs' ys') : All2 R (xs ++ xs') (ys ++ ys') := by
  induction xs generalizing ys with
  | nil =>
    cases ys with
    | nil => exact h'
    | cons _ _ => have := h.1; simp at this
  | cons x xs ih =>
    cases ys with
    | nil => have := h.1; simp at this
    | cons y ys => exact All2.cons h.head (ih h.tail)
theorem All2.reverse (h : All2 R xs ys) : All2 R xs.reverse ys.reverse := by
  induction xs generalizing ys with
  | nil =>
    cases ys with
    | nil => exact h
    | cons _ _ => have := h.1; simp at this
  | cons x xs ih =>
    cases ys with
    | nil => have := h.1; simp at this
    | cons y ys =>
      rw [List.reverse_cons, List.reverse_cons]
      exact (ih h.tail).snoc h.head
theorem All2.one {x : α} {y : β} (r : R x y) : All2 R [x] [y] := All2.cons r All2.nil
end
theorem set_cut {α : Type} {l : List α} {i : Nat} {y : α} (h : i < l.length) : l.take i ++ [y] ++ l.drop (i + 1) = l.set i y := by
  rw [List.set_eq_take_append_cons_drop, if_pos h, List.append_assoc]
  rfl
theorem swap_perm {α : Type} (l : List α) (i : Nat) : (l.take i ++ ((l.take (i + 2)).drop i).reverse ++ l.drop (i + 2)).Perm l := by
  have e : l = l.take i ++ (l.take (i + 2)).drop i ++ l.drop (i + 2) := by
    have h1 : l.take i = (l.take (i + 2)).take i := by rw [List.take_take, Nat.min_eq_left (by omega)]
    rw [h1, List.take_append_drop, List.take_append_drop]
  conv => rhs; rw [e]
  exact ((List.Perm.refl _).append (List.reverse_perm _)).append (List.Perm.refl _)
end Lag


set_option maxRecDepth 100000
set_option maxHeartbeats 8000000
namespace Lag
open PySem PySem.Spec PyProof.Rows L2
abbrev sWell : Stmt := topS 73 -- @_law_well
abbrev sDraw : Stmt := topS 74 -- @_law_draw
abbrev sLGates : Stmt := topS 76 -- @_law_gates
abbrev sLWorths : Stmt := topS 75 -- @_law_worths
abbrev sOuter : Stmt := topS 31 -- @is_outer
theorem st_norm {f : L2.St → Hp → Prop} {σ σ' : L2.St} {H : Hp} (e : σ = σ') (h : f σ' H) : f σ H := e ▸ h
theorem gn_norm {i : Nat} {x : V} {σ σ' : L2.St} {H : Hp} {N : L2.St → Hp → Prop} (e : σ.set i (some x) = σ') (h : N σ' H) : gName i x σ H N := by
  subst e
  exact h
theorem All2.pushT {α : Type} {R : Hp → V → α → Prop} {H H2 : Hp} {D : Addr} {acc : List V} {l : List α} {v : V} {x : α} {o : HO} (mono : ∀ {H H' : Hp} {v : V} {x : α}, TK H H' → R H v x → R H' v x) (h : All2 (R H) acc l) (hD : H2 D = some (.lst acc)) (t : TK H H2) (r : R H2 v x) : All2 (R (upd H2 D o)) (acc ++ [v]) (l ++ [x]) :=
  (h.imp fun _ _ r => mono (t.trans (TK.lst hD)) r).snoc (mono (TK.lst hD) r)
theorem mod_b {x n : Int} (h : 0 < n) (hn : n ≤ 4294967296) : -(2 ^ 64) < x % n ∧ x % n < 2 ^ 64 := by
  have h1 := Int.emod_nonneg x (show n ≠ 0 by omega)
  have h2 := Int.emod_lt_of_pos x h
  constructor
  · have e : (-(2 ^ 64) : Int) = -18446744073709551616 := by decide
    omega
  · have e : (2 ^ 64 : Int) = 18446744073709551616 := by decide
    omega
theorem LG.dr {K : PySem.W.Frag} {wl l : Addr} {H H' : Hp} {gs : List Gt} (h : LG K H l gs) (n : l ≠ wl) (W : WellAt wl H) (d : Dr wl H H') : LG K H' l gs := by
  obtain ⟨vs, q, a⟩ := h
  exact ⟨vs, d.but _ _ n q, a.imp fun _ _ r => r.tk (TK.dr W d.but)⟩
theorem LW.dr {K : PySem.W.Frag} {wl l : Addr} {H H' : Hp} {ws : List Wr} (h : LW K H l ws) (n : l ≠ wl) (W : WellAt wl H) (d : Dr wl H H') : LW K H' l ws := by
  obtain ⟨vs, q, a⟩ := h
  exact ⟨vs, d.but _ _ n q, a.imp fun _ _ r => r.tk (TK.dr W d.but)⟩
theorem gn_normH {i : Nat} {x : V} {σ σ' : L2.St} {H H' : Hp} {N : L2.St → Hp → Prop} (e : σ.set i (some x) = σ') (eH : H = H') (h : N σ' H') : gName i x σ H N := by
  subst e
  subst eH
  exact h
theorem LG.same' {K : PySem.W.Frag} {l : Addr} {H H' : Hp} {gs : List Gt} (h : LG K H l gs) (s : Same H H') : LG K H' l gs := by
  obtain ⟨vs, q, a⟩ := h
  exact ⟨vs, s _ _ q, a.imp fun _ _ r => r.tk (TK.same s)⟩
theorem LW.same' {K : PySem.W.Frag} {l : Addr} {H H' : Hp} {ws : List Wr} (h : LW K H l ws) (s : Same H H') : LW K H' l ws := by
  obtain ⟨vs, q, a⟩ := h
  exact ⟨vs, s _ _ q, a.imp fun _ _ r => r.tk (TK.same s)⟩
theorem Dr.ofSame {wl : Addr} {H H' : Hp} (W : WellAt wl H) (s : Same H H') : Dr wl H H' := ⟨But.same s, W.same s⟩
section
variable {P : Program} {w : World} {K : PySem.W.Frag} {mg : Str → Option Value} {base : Heap} {C : Addr}
theorem net_in {Q : Addr → Hp → Prop} {lg lw : Addr} {gs : List Gt} {ws : List Wr} (R : RG K H lg gs) (R2 : RW K H lw ws) (N : NetOk gs ws)
    (q : ∀ p ng nw H', NetAt K C H' p ng nw gs ws → Same H H' → H p = none → H ng = none → H nw = none → Q p H') :
    ∀ x dx, H x = none → H dx = none → dx ≠ x → spInit K C (.ref x :: ([.ref lg, .ref lw] ++ [])) (upd (upd H dx (.own x)) x (.ins C dx [])) (fun v H' => v = .non ∧ Q x H') E0 := by
  intro x dx hx hdx ne
  have s0 : Same H (upd (upd H dx (.own x)) x (.ins C dx [])) := fun b o e => by
    rw [upd_ne (ne_of_none e hx), upd_ne (ne_of_none e hdx)]
    exact e
  refine ⟨x, dx, lg, lw, gs, ws, rfl, upd_same, R.same s0, R2.same s0, N, fun H' ng nw A h1 h2 k => ⟨rfl, ?_⟩⟩
  exact q x ng nw H' A (Same.made hx hdx k) hx (s0.free h1) (s0.free h2)
end
theorem port_in {k : Str} : inV (.str k) [.str "in", .str "out"] = true ↔ portK k := by
  unfold inV
  rw [List.any_eq_true]
  constructor
  · rintro ⟨v, hv, he⟩
    simp only [List.mem_cons, List.not_mem_nil, or_false] at hv
    rcases hv with rfl | rfl
    · exact .inl (eq_of_beq he).symm
    · exact .inr (eq_of_beq he).symm
  · rintro (rfl | rfl)
    · exact ⟨_, List.mem_cons_self .., beq_self_eq_true _⟩
    · exact ⟨_, List.mem_cons_of_mem _ (List.mem_cons_self ..), beq_self_eq_true _⟩
def spOuter (K : PySem.W.Frag) : Sp := fun vs H Q _ => ∃ (v : V) (g : Gt), vs = [v] ∧ GateV K H v g ∧ ∀ b : Bool, (b = true ↔ portK g.1) → Q (.bl b) H
def spWellW : Sp := fun vs H Q _ => ∃ z : Int, vs = [.int z] ∧ ∀ p H', H p = none → Same H H' → WellAt p H' → Q (.ref p) H'
def spDraw : Sp := fun vs H Q _ => ∃ (w : Addr) (n : Int), vs = [.ref w, .int n] ∧ 0 < n ∧ n < 1000000 ∧ WellAt w H ∧ ∀ d H', 0 ≤ d → d < n → Dr w H H' → Q (.int d) H'
section
variable {P : Program} {w : World} {K : PySem.W.Frag} {mg : Str → Option Value} {base : Heap}
theorem scOuter : FnScope ["gate"] ["gate"] (defScope sOuter) := ⟨rfl, rfl, rfl, by decide +kernel, rfl, by decide +kernel, by decide +kernel⟩
abbrev DOuter (P : Program) (w : World) (K : PySem.W.Frag) (mg : Str → Option Value) (base : Heap) := Df P w K mg base 1 "is_outer" ["gate"] (spOuter K)
theorem ok_outer {f aK aW aF : Addr} {fd : FuncData} (F : Fun K "is_outer" "is_outer" sOuter f fd) (hm : mg "is_outer" = some (.ref f)) (C : Cns K mg aK aW aF) : DOuter P w K mg base f fd := by
  refine ⟨?_, hm, F.kp, F.binds fun _ _ _ _ _ _ us hl => match us, hl with | [_], _ => rfl⟩
  refine F.ok scOuter (fun vs H Q E h => ?_) (fun cdv A outer s H vs Q E hr h => ?_)
  · obtain ⟨v, g, rfl, _⟩ := h
    rfl
  · obtain ⟨v, g, rfl, ⟨a, rfl, sq⟩, q⟩ := h
    refine ⟨_, pss_one <| ps_ret <| pe_cmpR op_in_seq (pe_ix ix_tup (pv 0) pe_int (fun _ _ => rfl)) (pe_glob (v := .ref aW) (by rfl) C.mW rfl) (by rfl), ?_⟩
    exact ⟨_, rfl, a, _, 0, _, rfl, rfl, sq, atI_nat (j := 0) rfl, aW, _, rfl, .inr (C.sW H), rfl, rfl, q _ port_in⟩
abbrev nWell : List Str := ["_law_cell"]
theorem scWell : FnScope nWell ["_law_cell"] (defScope sWell) := ⟨rfl, rfl, rfl, by decide +kernel, rfl, by decide +kernel, by decide +kernel⟩
abbrev DWell (P : Program) (w : World) (K : PySem.W.Frag) (mg : Str → Option Value) (base : Heap) := Df P w K mg base 1 "_law_well" ["_law_cell"] spWellW
theorem ok_well {f : Addr} {fd : FuncData} (F : Fun K "_law_well" "_law_well" sWell f fd) (hm : mg "_law_well" = some (.ref f)) (B : Bt mg) : DWell P w K mg base f fd := by
  refine ⟨?_, hm, F.kp, F.binds fun _ _ _ _ _ _ us hl => match us, hl with | [_], _ => rfl⟩
  refine F.ok scWell (fun vs H Q E h => ?_) (fun cdv A outer s H vs Q E hr h => ?_)
  · obtain ⟨z, rfl, _⟩ := h
    rfl
  · obtain ⟨z, rfl, q⟩ := h
    refine ⟨_, pss_one (ps_ret (pe_lst (pa_cons (pe_op op_mul (pv 0) (pe_callTy call_int1 (by rfl) B.int (by decide +kernel) (pa_cons (pe_cmpR op_ge (pv 0) (pe_op op_pow pe_int pe_int) (nomark _)) pa_nil))) (pa_cons (pv 0) (pa_cons pe_int pa_nil))))), ?_⟩
    refine ⟨_, rfl, _, rfl, _, _, rfl, rfl, ⟨by decide, by decide, by decide⟩, _, _, rfl, rfl, .inr ⟨_, rfl, _, _, rfl, rfl, .inr ?_, _, rfl, (by show 3 ≤ sizeLine; decide), fun p hp => q p _ hp (same_new hp) ⟨_, upd_same, _, _, _, rfl⟩⟩⟩
    split <;> exact ⟨by decide, by decide⟩
abbrev nDraw : List Str := ["_law_well_here", "_law_many", "_law_found", "_law_low"]
theorem scDraw : FnScope nDraw ["_law_well_here", "_law_many"] (defScope sDraw) := ⟨rfl, rfl, rfl, by decide +kernel, rfl, by decide +kernel, by decide +kernel⟩
abbrev DDraw (P : Program) (w : World) (K : PySem.W.Frag) (mg : Str → Option Value) (base : Heap) := Df P w K mg base 1 "_law_draw" ["_law_well_here", "_law_many"] spDraw
theorem ok_draw {f : Addr} {fd : FuncData} (F : Fun K "_law_draw" "_law_draw" sDraw f fd) (hm : mg "_law_draw" = some (.ref f)) : DDraw P w K mg base f fd := by
  refine ⟨?_, hm, F.kp, F.binds fun _ _ _ _ _ _ us hl => match us, hl with | [_, _], _ => rfl⟩
  refine F.ok scDraw (fun vs H Q E h => ?_) (fun cdv A outer s H vs Q E hr h => ?_)
  · obtain ⟨wl, n, rfl, _⟩ := h
    rfl
  · obtain ⟨wl, n, rfl, hn, hn2, ⟨_, hw, a, b, c, rfl⟩, q⟩ := h
    have nd := scDraw.nd
    refine ⟨_, pss_cons (ps_if (pt_cmpR op_gt (pe_ix ix_list (pv 0) pe_int (fun _ _ => rfl)) pe_int (nomark _)) (pss_cons (ps_set (i := 2) nd rfl (.inl rfl) (pe_op op_mod (pe_ix ix_list (pv 0) pe_int (fun _ _ => rfl)) (pv 1))) <|
        pss_cons (ps_asg (pe_op op_fdiv (pe_ix ix_list (pv 0) pe_int (fun _ _ => rfl)) (pv 1)) (pg_sub (pv 0) pe_int set_list)) <|
        pss_one (ps_ret (pv 2))) pss_nil) <|
        pss_cons (ps_asg (pe_op op_add (pe_ix ix_list (pv 0) pe_int (fun _ _ => rfl)) pe_int) (pg_sub (pv 0) pe_int set_list)) <|
        pss_cons (ps_set (i := 3) nd rfl (.inl rfl) (pe_op op_add (pe_op op_mod (pe_ix ix_list (pv 0) pe_int (fun _ _ => rfl)) pe_int) (pe_op op_mul (pe_op op_fdivW (pe_ix ix_list (pv 0) pe_int (fun _ _ => rfl)) pe_int) pe_int))) <|
        pss_cons (ps_set (i := 3) nd rfl (.inl rfl) (pe_op op_mod (pe_op op_mul (pe_op op_add (pe_op op_add (pv 3) (pe_op op_mul pe_int (pe_ix ix_list (pv 0) pe_int (fun _ _ => rfl)))) pe_int) pe_int) pe_int)) <|
        pss_cons (ps_set (i := 3) nd rfl (.inl rfl) (pe_op op_mod (pe_op op_mul (pv 3) (pe_op op_add (pe_op op_add (pe_op op_fdiv (pv 3) pe_int) pe_int) (pe_ix ix_list (pv 0) pe_int (fun _ _ => rfl)))) pe_int)) <|
        pss_one (ps_ret (pe_op op_mod (pe_op op_mod (pe_op op_mul (pv 3) (pe_op op_add (pe_op op_fdiv (pv 3) pe_int) pe_int)) pe_int) (pv 1))), ?_⟩
    refine ⟨_, rfl, wl, _, 0, .int a, rfl, rfl, SqL.of hw, atI_nat (j := 0) rfl, _, _, rfl, rfl, _, rfl, ite2 (fun e => ?_) (fun e => ?_)⟩
    · refine ⟨_, rfl, wl, _, 0, .int a, rfl, rfl, SqL.of hw, atI_nat (j := 0) rfl, _, rfl, _, _, rfl, rfl, hn, ?_⟩
      refine ⟨_, rfl, wl, _, 0, .int a, rfl, rfl, SqL.of hw, atI_nat (j := 0) rfl, _, rfl, _, _, rfl, rfl, ⟨hn, by omega⟩, ?_⟩
      refine ⟨_, rfl, wl, _, 0, 0, rfl, rfl, hw, rfl, ?_⟩
      refine ⟨_, rfl, ?_⟩
      exact q _ _ (Int.emod_nonneg _ (by omega)) (Int.emod_lt_of_pos _ hn) ⟨But.upd, ⟨_, upd_same, _, _, _, rfl⟩⟩
    · have h1 : (upd H wl (HO.lst [.int a, .int b, .int (c + 1)])) wl = some (.lst [.int a, .int b, .int (c + 1)]) := upd_same
      refine ⟨_, rfl, wl, _, 2, .int c, rfl, rfl, SqL.of hw, atI_nat (j := 2) rfl, _, _, rfl, rfl, ?_⟩
      refine ⟨_, rfl, wl, _, 2, 2, rfl, rfl, hw, rfl, ?_⟩
      refine ⟨_, rfl, wl, _, 1, .int b, rfl, rfl, SqL.of h1, atI_nat (j := 1) rfl, _, _, rfl, rfl, (by show (0 : Int) < 2147483629; decide), ?_⟩
      refine ⟨_, rfl, wl, _, 1, .int b, rfl, rfl, SqL.of h1, atI_nat (j := 1) rfl, _, _, rfl, rfl, wide_div (j := 2147483629) (b := 32) (by decide) (by decide) (by decide) (by decide), _, _, rfl, rfl, .inr ⟨by decide, by decide⟩, _, _, rfl, rfl, ?_⟩
      refine ⟨_, rfl, _, rfl, wl, _, 2, .int (c + 1), rfl, rfl, SqL.of h1, atI_nat (j := 2) rfl, _, _, rfl, rfl, .inl ⟨by decide, by decide⟩, _, _, rfl, rfl, _, _, rfl, rfl, _, _, rfl, rfl, .inr ⟨by decide, by decide⟩, _, _, rfl, rfl, (by show (0 : Int) < 2147483647; decide), ?_⟩
      refine ⟨_, rfl, _, rfl, _, _, rfl, rfl, ⟨by decide, by decide⟩, _, _, rfl, rfl, _, rfl, wl, _, 2, .int (c + 1), rfl, rfl, SqL.of h1, atI_nat (j := 2) rfl, _, _, rfl, rfl, _, _, rfl, rfl, .inl (mod_b (by decide) (by decide)), _, _, rfl, rfl, (by show (0 : Int) < 2147483629; decide), ?_⟩
      refine ⟨_, rfl, _, rfl, _, _, rfl, rfl, ⟨by decide, by decide⟩, _, _, rfl, rfl, _, _, rfl, rfl, .inl (mod_b (by decide) (by decide)), _, _, rfl, rfl, (by show (0 : Int) < 2147483399; decide), _, rfl, _, _, rfl, rfl, hn, ?_⟩
      exact q _ _ (Int.emod_nonneg _ (by omega)) (Int.emod_lt_of_pos _ hn) ⟨But.upd, ⟨_, h1, _, _, _, rfl⟩⟩
end
/-! ### _law_gates -/
def words10 : List Str := ["sum", "times", "most", "least", "first", "one", "sum", "most", "in", "out"]
theorem words10_ok : ∀ k ∈ words10, k ∈ kinds := by decide +kernel
def spLGates (K : PySem.W.Frag) : Sp := fun vs H Q _ => ∃ wl : Addr, vs = [.ref wl] ∧ WellAt wl H ∧ ∀ l gs H', Dr wl H H' → H l = none → LG K H' l gs → (∀ g ∈ gs, GOk g) → 1 ≤ gs.length → gs.length ≤ 7 → Q (.ref l) H'
section
variable {P : Program} {w : World} {K : PySem.W.Frag} {mg : Str → Option Value} {base : Heap}
abbrev nLGates : List Str := ["_law_well_here", "_law_words", "_law_found", "_law_k", "_law_word", "_law_wait"]
theorem scLGates : FnScope nLGates ["_law_well_here"] (defScope sLGates) := ⟨rfl, rfl, rfl, by decide +kernel, rfl, by decide +kernel, by decide +kernel⟩
abbrev DLGates (P : Program) (w : World) (K : PySem.W.Frag) (mg : Str → Option Value) (base : Heap) := Df P w K mg base 2 "_law_gates" ["_law_well_here"] (spLGates K)
theorem ok_lgates {f fD : Addr} {fd fdD : FuncData} (F : Fun K "_law_gates" "_law_gates" sLGates f fd) (hm : mg "_law_gates" = some (.ref f)) (B : Bt mg) (DD : DDraw P w K mg base fD fdD) : DLGates P w K mg base f fd := by
  refine ⟨?_, hm, F.kp, F.binds fun _ _ _ _ _ _ us hl => match us, hl with | [_], _ => rfl⟩
  refine F.ok scLGates (fun vs H Q E h => ?_) (fun cdv A outer s H vs Q E hr h => ?_)
  · obtain ⟨wl, rfl, _⟩ := h
    rfl
  · obtain ⟨wl, rfl, hw, q⟩ := h
    have nd := scLGates.nd
    have hr1 : Room 1 _ := hr.mono (by decide)
    refine ⟨_, pss_cons (ps_set (i := 1) nd rfl (.inl rfl) (pe_lst (pa_cons pe_str (pa_cons pe_str (pa_cons pe_str (pa_cons pe_str (pa_cons pe_str (pa_cons pe_str (pa_cons pe_str (pa_cons pe_str (pa_cons pe_str (pa_cons pe_str pa_nil)))))))))))) <|
        pss_cons (ps_set (i := 2) nd rfl (.inl rfl) (pe_lst pa_nil)) <|
        pss_cons (ps_for PassesOwn.never rfl (pi_range1 (by rfl) B.range (pa_cons (pe_op op_add pe_int (pe_call DD.ok hr1 (by rfl) DD.mg DD.kp DD.bd .nil pass0 (pa_cons (pv 0) (pa_cons pe_int pa_nil)))) pa_nil)) (pg_name (i := 3) nd rfl (.inl rfl)) (pss_cons (ps_set (i := 4) nd rfl (.inl rfl) (pe_ix ix_list (pv 1) (pe_call DD.ok hr1 (by rfl) DD.mg DD.kp DD.bd .nil pass0 (pa_cons (pv 0) (pa_cons pe_int pa_nil))) (fun _ _ => rfl))) <|
        pss_cons (ps_set (i := 5) nd rfl (.inl rfl) (pe_ix ix_list (pe_lst (pa_cons (pe_call DD.ok hr1 (by rfl) DD.mg DD.kp DD.bd .nil pass0 (pa_cons (pv 0) (pa_cons pe_int pa_nil))) (pa_cons (pe_call DD.ok hr1 (by rfl) DD.mg DD.kp DD.bd .nil pass0 (pa_cons (pv 0) (pa_cons pe_int pa_nil))) (pa_cons (pe_call DD.ok hr1 (by rfl) DD.mg DD.kp DD.bd .nil pass0 (pa_cons (pv 0) (pa_cons pe_int pa_nil))) (pa_cons pe_int pa_nil))))) (pe_call DD.ok hr1 (by rfl) DD.mg DD.kp DD.bd .nil pass0 (pa_cons (pv 0) (pa_cons pe_int pa_nil))) (fun _ _ => rfl))) <|
        pss_one (ps_expr (pe_bm PySem.F.plainAttrs_list PySem.F.slot_list_append PySem.F.type_list_append mt_append (pv 2) (pa_cons (pe_tup (pa_cons (pv 4) (pa_cons (pe_op op_mul (pv 5) (pe_callTy call_int1 (by rfl) B.int (by decide +kernel) (pa_cons (pe_cmpR op_notIn_seq (pv 4) (pe_lst (pa_cons pe_str (pa_cons pe_str pa_nil))) (by rfl)) pa_nil))) pa_nil))) pa_nil))))) <|
        pss_one (ps_ret (pv 2)), ?_⟩
    refine ⟨(by show 10 ≤ sizeLine; decide), fun lw0 hlw0 => ?_⟩
    have D1 := Dr.new (o := .lst (words10.map V.str)) hw hlw0
    have ew : (upd H lw0 (.lst (words10.map V.str))) lw0 = some (.lst (words10.map V.str)) := upd_same
    have nw0 : lw0 ≠ wl := (hw.ne hlw0).symm
    obtain ⟨H1, hH1⟩ : ∃ H1, H1 = upd H lw0 (.lst (words10.map V.str)) := ⟨_, rfl⟩
    rw [← hH1] at D1 ew
    refine gn_normH (σ' := [some (.ref wl), some (.ref lw0), none, none, none, none]) (H' := H1) rfl hH1.symm ?_
    refine ⟨(by show 0 ≤ sizeLine; decide), fun lg hlg => ?_⟩
    have D2 := D1.trans (Dr.new (o := .lst []) D1.well hlg)
    have eg : (upd H1 lg (.lst [])) lg = some (.lst []) := upd_same
    have nlg : lg ≠ wl := (D1.well.ne hlg).symm
    have hlg0 : H lg = none := D1.free hw hlg
    have nwg : lw0 ≠ lg := ne_of_none ew hlg
    have ew2 : (upd H1 lg (.lst [])) lw0 = some (.lst (words10.map V.str)) := (upd_ne nwg).trans ew
    generalize upd H1 lg (.lst []) = H2 at D2 eg ew2
    refine gn_norm (σ' := [some (.ref wl), some (.ref lw0), some (.ref lg), none, none, none]) rfl ?_
    refine ⟨_, rfl, wl, 7, rfl, by decide, by decide, D2.well, fun d H3 d0 d1 E3 => ⟨_, _, rfl, rfl, _, rfl, by omega, by omega, for_range (lo := 0) (n := (1 + d).toNat) (fun i σ H' => ∃ (s3 s4 s5 : Option V) (acc : List V) (gs : List Gt), σ = [some (.ref wl), some (.ref lw0), some (.ref lg), s3, s4, s5] ∧ H' lg = some (.lst acc) ∧ All2 (GateV K H') acc gs ∧ gs.length = i ∧ (∀ g ∈ gs, GOk g) ∧ H' lw0 = some (.lst (words10.map V.str)) ∧ Dr wl H H')
      ⟨_, _, _, [], [], rfl, E3.but _ _ nlg eg, All2.nil, rfl, (fun g h => nomatch h), E3.but _ _ nw0 ew2, D2.trans E3⟩ ?_ ?_⟩⟩
    · rintro i σ H4 hi ⟨s3, s4, s5, acc, gs, rfl, hacc, haa, hgl, hgo, ew4, D4⟩
      have hal : acc.length = i := by rw [haa.1, hgl]
      refine ⟨_, rfl, _, rfl, wl, 10, rfl, by decide, by decide, D4.well, fun k5 H5 k50 k51 E5 => ?_⟩
      have ew5 := E5.but _ _ nw0 ew4
      have hk5 : k5.toNat < (words10.map V.str).length := by show k5.toNat < 10; omega
      refine ⟨lw0, words10.map V.str, k5, (words10.map V.str)[k5.toNat], rfl, rfl, SqL.of ew5, at_of (j := k5.toNat) (by omega) (List.getElem?_eq_getElem hk5), ?_⟩
      obtain ⟨kd, hkd, ekd⟩ := List.mem_map.mp (List.getElem_mem hk5)
      rw [← ekd]
      have hk := words10_ok kd hkd
      refine gn_norm (σ' := [some (.ref wl), some (.ref lw0), some (.ref lg), some (.int (0 + (i : Nat))), some (.str kd), s5]) rfl ?_
      refine ⟨_, rfl, wl, 10, rfl, by decide, by decide, E5.well, fun z1 H6 z10 z11 E6 => ?_⟩
      refine ⟨_, rfl, wl, 4, rfl, by decide, by decide, E6.well, fun z2 H7 z20 z21 E7 => ?_⟩
      refine ⟨_, rfl, wl, 10, rfl, by decide, by decide, E7.well, fun z3 H8 z30 z31 E8 => ?_⟩
      refine ⟨(by show 4 ≤ sizeLine; decide), fun l8 hl8 => ?_⟩
      have E9 := ((E6.trans E7).trans E8).trans (Dr.new (o := .lst [.int z1, .int z2, .int z3, .int 100]) E8.well hl8)
      refine ⟨_, rfl, wl, 4, rfl, by decide, by decide, E9.well, fun j H10 j0 j1 E10 => ?_⟩
      have el8 := E10.but _ _ (E8.well.ne hl8).symm (upd_same (H := H8) (a := l8) (o := .lst [.int z1, .int z2, .int z3, .int 100]))
      obtain ⟨wt, hwt, w0, w1⟩ : ∃ wt : Int, ([.int z1, .int z2, .int z3, .int 100] : List V)[j.toNat]? = some (.int wt) ∧ 0 ≤ wt ∧ wt ≤ 100 := by
        rcases (by omega : j.toNat = 0 ∨ j.toNat = 1 ∨ j.toNat = 2 ∨ j.toNat = 3) with h | h | h | h <;> rw [h]
        · exact ⟨z1, rfl, z10, by omega⟩
        · exact ⟨z2, rfl, z20, by omega⟩
        · exact ⟨z3, rfl, z30, by omega⟩
        · exact ⟨100, rfl, by decide, by decide⟩
      refine ⟨l8, _, j, .int wt, rfl, rfl, SqL.of el8, at_of (j := j.toNat) (by omega) hwt, ?_⟩
      have E410 := (E5.trans E9).trans E10
      have D10 := D4.trans E410
      have hacc10 := E410.but _ _ nlg hacc
      have ew10 := E410.but _ _ nw0 ew4
      refine gn_norm (σ' := [some (.ref wl), some (.ref lw0), some (.ref lg), some (.int (0 + (i : Nat))), some (.str kd), some (.int wt)]) rfl ?_
      refine ⟨_, rfl, .inl ⟨rfl, _, SqL.of hacc10⟩, _, rfl, _, rfl, _, rfl, (by show 2 ≤ sizeLine; decide), fun l11 hl11 => ?_⟩
      refine ⟨l11, _, rfl, .inl (SqL.of upd_same), rfl, rfl, .inr ⟨_, rfl, _, _, rfl, rfl, .inl ?_, ?_⟩⟩
      · have e64 : (2 ^ 64 : Int) = 18446744073709551616 := by decide
        exact ⟨by omega, by omega⟩
      have E11 := E410.trans (Dr.new (o := .lst [.str "in", .str "out"]) E10.well hl11)
      have W11 := E11.well
      have hacc11 := E11.but _ _ nlg hacc
      have ew11 := E11.but _ _ nw0 ew4
      obtain ⟨g2, hg2, hg0, hg1, hgp⟩ : ∃ g2 : Int, wt * (if (!inV (.str kd) [.str "in", .str "out"]) = true then 1 else 0) = g2 ∧ 0 ≤ g2 ∧ g2 ≤ 100 ∧ (portK kd → g2 = 0) := by
        cases hin : inV (.str kd) [.str "in", .str "out"] with
        | true => exact ⟨0, by rw [if_neg (by decide), Int.mul_zero], by decide, by decide, fun _ => rfl⟩
        | false => exact ⟨wt, by rw [if_pos (by decide), Int.mul_one], w0, w1, fun z => by rw [port_in.mpr z] at hin; cases hin⟩
      refine ⟨(by show 2 ≤ sizeLine; decide), fun p hp => ?_⟩
      have E12 := E11.trans (Dr.new (o := .tup [.str kd, .int (wt * (if (!inV (.str kd) [.str "in", .str "out"]) = true then 1 else 0))]) W11 hp)
      have hacc12 := E12.but _ _ nlg hacc
      have ew12 := E12.but _ _ nw0 ew4
      refine ⟨lg, acc, _, rfl, rfl, hacc12, small1000 (by omega), ?_⟩
      refine ⟨_, _, _, acc ++ [.ref p], gs ++ [(kd, g2)], rfl, upd_same, ?_, by rw [List.length_append, hgl]; rfl, fun g hg => ?_, (upd_ne nwg).trans ew12, set_well (D4.trans E12) hlg0 nlg⟩
      · exact All2.pushT (fun t r => GateV.tk t r) haa hacc12 (TK.dr D4.well E12.but) ⟨p, rfl, .inl (.inl (by rw [← hg2]; exact upd_same))⟩
      · rcases List.mem_append.mp hg with hg | hg
        · exact hgo g hg
        · rw [List.mem_singleton.mp hg]
          exact ⟨hk, hg0, hg1, hgp⟩
    · rintro σ H4 ⟨s3, s4, s5, acc, gs, rfl, hacc, haa, hgl, hgo, ew4, D4⟩
      exact ⟨_, rfl, q lg gs H4 D4 hlg0 ⟨acc, hacc, haa⟩ hgo (by omega) (by omega)⟩
end
/-! ### _law_worths -/
def spLWorths (K : PySem.W.Frag) : Sp := fun vs H Q _ => ∃ (wl : Addr) (m : Nat), vs = [.ref wl, .int (m : Nat)] ∧ m ≤ 300 ∧ WellAt wl H ∧ ∀ p rs H', Dr wl H H' → H' p = some (.tup (rs.map V.int)) → rs.length = m → ROk rs → Q (.ref p) H'
section
variable {P : Program} {w : World} {K : PySem.W.Frag} {mg : Str → Option Value} {base : Heap}
abbrev nLWorths : List Str := ["_law_well_here", "_law_many", "_law_k"]
theorem scLWorths : FnScope nLWorths ["_law_well_here", "_law_many"] (defScope sLWorths) := ⟨rfl, rfl, rfl, by decide +kernel, rfl, by decide +kernel, by decide +kernel⟩
abbrev DLWorths (P : Program) (w : World) (K : PySem.W.Frag) (mg : Str → Option Value) (base : Heap) := Df P w K mg base 2 "_law_worths" ["_law_well_here", "_law_many"] (spLWorths K)
theorem ok_lworths {f fD : Addr} {fd fdD : FuncData} (F : Fun K "_law_worths" "_law_worths" sLWorths f fd) (hm : mg "_law_worths" = some (.ref f)) (B : Bt mg) (DD : DDraw P w K mg base fD fdD) : DLWorths P w K mg base f fd := by
  refine ⟨?_, hm, F.kp, F.binds fun _ _ _ _ _ _ us hl => match us, hl with | [_, _], _ => rfl⟩
  refine F.ok scLWorths (fun vs H Q E h => ?_) (fun cdv A outer s H vs Q E hr h => ?_)
  · obtain ⟨wl, m, rfl, _⟩ := h
    rfl
  · obtain ⟨wl, m, rfl, hm1, hw, q⟩ := h
    have nd := scLWorths.nd
    refine ⟨_, pss_one <| ps_ret <| pe_callTy call_tuple_of (by rfl) B.tuple (by decide +kernel) <| (pa_cons · pa_nil) <| pe_lc (own := [("_law_k", 2)]) (g := gName 2) (tt := tYes) (te := tCall spDraw [] E0 (tCons (tVar 0) (tCons (tC (.int 97)) tNil))) rfl nd (pi_range1 (by rfl) B.range (pa_cons (pv 1) pa_nil)) (blkOk_by (N := nLWorths) (sc := defScope sLWorths) (own := [("_law_k", 2)]) (by decide +kernel))
      (fun _ _ _ _ _ => pg_name (i := 2) nd rfl (.inl rfl)) (fun _ _ _ _ _ => pts_nil) (fun _ _ _ _ _ => pe_call DD.ok hr (by rfl) DD.mg DD.kp DD.bd .nil pass0 (pa_cons (pv 0) (pa_cons pe_int pa_nil))), ?_⟩
    refine ⟨_, rfl, _, rfl, by omega, by omega, fun R hR => ?_⟩
    have nRw : R ≠ wl := (hw.ne hR).symm
    refine lc_range (lo := 0) (n := ((m : Int)).toNat) (fun i Hc => ∃ rs : List Int, rs.length = i ∧ ROk rs ∧ Hc R = some (.lst (rs.map V.int)) ∧ Dr wl H Hc) ⟨[], rfl, by simp [ROk], upd_same, Dr.new hw hR⟩ ?_ ?_
    · rintro i Hc hi ⟨rs, hl, hr', hc, d⟩
      refine ⟨rfl, tyes ?_⟩
      refine ⟨_, rfl, wl, 97, rfl, by decide, by decide, d.well, fun z H2 z0 z1 E => ?_⟩
      refine ⟨_, E.but _ _ nRw hc, by rw [List.length_map]; exact small1000 (by omega), rs ++ [z], by simp [hl], ?_, ?_, set_well (d.trans E) hR nRw⟩
      · intro y hy
        rcases List.mem_append.mp hy with hy | hy
        · exact hr' y hy
        · simp at hy
          subst hy
          exact ⟨z0, by omega⟩
      · rw [upd_same, List.map_append]
        rfl
    · rintro Hc ⟨rs, hl, hr', hc, d⟩
      refine ⟨R, _, rfl, .inl ⟨SqL.of hc, fun p hp => ?_⟩⟩
      exact q p rs _ (d.trans (Dr.new d.well hp)) upd_same (by omega) hr'
end
end Lag


set_option maxRecDepth 100000
set_option maxHeartbeats 8000000
namespace Lag
open PySem PySem.Spec PyProof.Rows L2
abbrev sLWires : Stmt := topS 77 -- @_law_wires
def numsD (l : List Int) : PyData := .list (l.map PyData.int)
theorem numsD_eq (a b : List Int) : PyData.eqv (numsD a) (numsD b) = decide (a = b) := eqvAll_map (fun x y => intD_eq x y) a b
theorem sh_nums (l : List Int) : Sh 1 (numsD l) := by
  refine sh_list fun d hd => ?_
  obtain ⟨i, _, rfl⟩ := List.mem_map.mp hd
  exact sh_int _
theorem dp_nums {K : PySem.W.Frag} {H : Hp} {l : Addr} {xs : List Int} (h : SqL K H l (xs.map V.int)) : Dp K H (.ref l) (numsD xs) := .lst h (ints_dp xs)
def ivN (l : List Nat) : List V := (l.map fun i => ((i : Nat) : Int)).map V.int
theorem ivN_len (l : List Nat) : (ivN l).length = l.length := by unfold ivN; rw [List.length_map, List.length_map]
theorem ivN_at {l : List Nat} {i k : Nat} (h : l[i]? = some k) : (ivN l)[i]? = some (.int ((k : Nat) : Int)) := by
  unfold ivN
  rw [List.getElem?_map, List.getElem?_map, h]
  rfl
theorem ivN_snoc (l : List Nat) (k : Nat) : ivN (l ++ [k]) = ivN l ++ [.int ((k : Nat) : Int)] := by
  unfold ivN
  rw [List.map_append, List.map_append]
  rfl
def flt (p : Nat → Bool) (i : Nat) : List Nat := (List.range i).filter p
theorem flt_succ (p : Nat → Bool) (i : Nat) : flt p (i + 1) = if p i = true then flt p i ++ [i] else flt p i := by
  unfold flt
  rw [List.range_succ, List.filter_append]
  split
  · rename_i e
    rw [List.filter_cons_of_pos e]
    rfl
  · rename_i e
    rw [List.filter_cons_of_neg e]
    simp
theorem flt_len (p : Nat → Bool) (i : Nat) : (flt p i).length ≤ i := by
  have := List.length_filter_le p (List.range i)
  rw [List.length_range] at this
  exact this
theorem flt_mem {p : Nat → Bool} {i k : Nat} : k ∈ flt p i ↔ k < i ∧ p k = true := by
  unfold flt
  rw [List.mem_filter, List.mem_range]
def pS (gs : List Gt) (k : Nat) : Bool := !decide (V.str (kindAt gs k) = V.str "out")
def pE (gs : List Gt) (k : Nat) : Bool := !inV (.str (kindAt gs k)) [.str "in", .str "out"]
theorem pS_iff {gs : List Gt} {k : Nat} : pS gs k = true ↔ kindAt gs k ≠ "out" := by
  unfold pS
  rw [Bool.not_eq_true', decide_eq_false_iff_not]
  exact ⟨fun h z => h (by rw [z]), fun h z => h (V.str.inj z)⟩
theorem pE_iff {gs : List Gt} {k : Nat} : pE gs k = true ↔ ¬ portK (kindAt gs k) := by
  unfold pE
  rw [Bool.not_eq_true', ← port_in, Bool.not_eq_true]
/-- wires, the outputs below m joined -/
structure WIW (gs : List Gt) (ws : List Wr) (m : Nat) : Prop where
  wok : ∀ x ∈ ws, WOk gs x ∧ x.2.2.length ≤ 4
  rk : ∀ x ∈ ws, x.2.2 = [] → kindAt gs x.2.1 = "out" ∨ x.1 < x.2.1
  one : ∀ e, e < m → kindAt gs e = "out" → cnt ws e = 1
  zero : ∀ e, m ≤ e → kindAt gs e = "out" → cnt ws e = 0
theorem cnt_perm {ws us : List Wr} (h : us.Perm ws) (e : Nat) : cnt us e = cnt ws e := h.countP_eq _
theorem cnt_snoc (ws : List Wr) (x : Wr) (e : Nat) : cnt (ws ++ [x]) e = cnt ws e + if x.2.1 = e then 1 else 0 := by
  unfold cnt
  rw [List.countP_append, List.countP_singleton]
  simp
theorem WIW.nil (gs : List Gt) : WIW gs [] 0 := ⟨fun x h => (nomatch h), fun x h => (nomatch h), fun e h => absurd h (Nat.not_lt_zero _), fun e _ _ => rfl⟩
theorem WIW.inner {gs : List Gt} {ws : List Wr} {x : Wr} (h : WIW gs ws 0) (hw : WOk gs x) (hl : x.2.2.length ≤ 4) (hr : x.2.2 = [] → x.1 < x.2.1) (ho : kindAt gs x.2.1 ≠ "out") : WIW gs (ws ++ [x]) 0 := by
  refine ⟨fun y hy => ?_, fun y hy => ?_, fun e h => absurd h (Nat.not_lt_zero _), fun e he hk => ?_⟩
  · rcases List.mem_append.mp hy with hy | hy
    · exact h.wok y hy
    · rw [List.mem_singleton.mp hy]
      exact ⟨hw, hl⟩
  · rcases List.mem_append.mp hy with hy | hy
    · exact h.rk y hy
    · rw [List.mem_singleton.mp hy]
      exact fun z => .inr (hr z)
  · rw [cnt_snoc, h.zero e he hk, if_neg fun z => ho (by rw [z]; exact hk)]
theorem WIW.outer {gs : List Gt} {ws us : List Wr} {x : Wr} {m : Nat} (h : WIW gs ws m) (hw : WOk gs x) (hl : x.2.2.length ≤ 4) (he : x.2.1 = m) (ho : kindAt gs m = "out") (hp : us.Perm (ws ++ [x])) : WIW gs us (m + 1) := by
  have mem : ∀ y ∈ us, y ∈ ws ∨ y = x := fun y hy => by
    rcases List.mem_append.mp (hp.mem_iff.mp hy) with z | z
    · exact .inl z
    · exact .inr (List.mem_singleton.mp z)
  refine ⟨fun y hy => ?_, fun y hy => ?_, fun e h1 hk => ?_, fun e h1 hk => ?_⟩
  · rcases mem y hy with z | rfl
    · exact h.wok y z
    · exact ⟨hw, hl⟩
  · rcases mem y hy with z | rfl
    · exact h.rk y z
    · exact fun _ => .inl (by rw [he]; exact ho)
  · rw [cnt_perm hp, cnt_snoc]
    by_cases z : e = m
    · rw [z, h.zero m (Nat.le_refl _) ho, if_pos he]
    · rw [h.one e (by omega) hk, if_neg (by omega)]
  · rw [cnt_perm hp, cnt_snoc, h.zero e (by omega) hk, if_neg (by omega)]
theorem WIW.skip {gs : List Gt} {ws : List Wr} {m : Nat} (h : WIW gs ws m) (ho : kindAt gs m ≠ "out") : WIW gs ws (m + 1) :=
  ⟨h.wok, h.rk, fun e h1 hk => by
    by_cases z : e = m
    · rw [z] at hk
      exact absurd hk ho
    · exact h.one e (by omega) hk, fun e h1 hk => h.zero e (by omega) hk⟩
theorem insert_perm {α : Type} (l : List α) (i : Nat) (x : α) : (l.take i ++ [x] ++ l.drop i).Perm (l ++ [x]) := by
  have h1 : (l.take i ++ [x] ++ l.drop i).Perm (l.take i ++ l.drop i ++ [x]) := by
    rw [List.append_assoc, List.append_assoc]
    exact List.Perm.append_left _ List.perm_append_comm
  rw [List.take_append_drop] at h1
  exact h1
def spLWires (K : PySem.W.Frag) : Sp := fun vs H Q _ => ∃ (wl lg : Addr) (gs : List Gt), vs = [.ref wl, .ref lg] ∧ WellAt wl H ∧ lg ≠ wl ∧ LG K H lg gs ∧ gs.length ≤ 7 ∧ (∃ i, i < gs.length ∧ kindAt gs i ≠ "out") ∧ ∀ l ws H', Dr wl H H' → H l = none → LW K H' l ws → WIW gs ws gs.length → ws.length ≤ 21 → Q (.ref l) H'
section
variable {P : Program} {w : World} {K : PySem.W.Frag} {mg : Str → Option Value} {base : Heap}
abbrev nLWires : List Str := ["_law_well_here", "_law_gates_here", "_law_k", "_law_starts", "_law_ends_here", "_law_found", "_law_start", "_law_end", "_law_many"]
theorem scLWires : FnScope nLWires ["_law_well_here", "_law_gates_here"] (defScope sLWires) := ⟨rfl, rfl, rfl, by decide +kernel, rfl, by decide +kernel, by decide +kernel⟩
abbrev DLWires (P : Program) (w : World) (K : PySem.W.Frag) (mg : Str → Option Value) (base : Heap) := Df P w K mg base 3 "_law_wires" ["_law_well_here", "_law_gates_here"] (spLWires K)
theorem ok_lwires {f fD fW : Addr} {fd fdD fdW : FuncData} (F : Fun K "_law_wires" "_law_wires" sLWires f fd) (hm : mg "_law_wires" = some (.ref f)) (B : Bt mg) (DD : DDraw P w K mg base fD fdD) (DWo : DLWorths P w K mg base fW fdW) : DLWires P w K mg base f fd := by
  refine ⟨?_, hm, F.kp, F.binds fun _ _ _ _ _ _ us hl => match us, hl with | [_, _], _ => rfl⟩
  refine F.ok scLWires (fun vs H Q E h => ?_) (fun cdv A outer s H vs Q E hr h => ?_)
  · obtain ⟨wl, lg, gs, rfl, _⟩ := h
    rfl
  · obtain ⟨wl, lg, gs, rfl, hw, nlg, G, hg7, ⟨i0, hi0, hk0⟩, q⟩ := h
    have nd := scLWires.nd
    have hr1 : Room 1 _ := hr.mono (by decide)
    refine ⟨_, pss_cons (ps_setLc (i := 3) (own := [("_law_k", 2)]) (g := (gName 2)) (tt := (tTest (tOp rNe (tOp (rIxT K) (tOp (rIxL K) (tVar 1) (tVar 2)) (tC (.int 0))) (tC (.str "out"))))) (te := (tVar 2)) rfl nd rfl rfl (sw_true rfl rfl rfl (by decide +kernel)) (pi_range1 (by rfl) B.range (pa_cons (pe_callB call_len_seq (by rfl) B.len PySem.boot_len (pa_cons (pv 1) pa_nil)) pa_nil)) (blkOk_by (N := nLWires) (sc := defScope sLWires) (own := [("_law_k", 2)]) (by decide +kernel)) (fun _ _ _ _ _ => (pg_name (i := 2) nd rfl (.inl rfl))) (fun _ _ _ _ _ => pts_one (pt_cmpR op_ne (pe_ix ix_tup (pe_ix ix_list (pv 1) (pv 2) (fun _ _ => rfl)) pe_int (fun _ _ => rfl)) pe_str (nomark _))) (fun _ _ _ _ _ => (pv 2))) <|
        pss_cons (ps_setLc (i := 4) (own := [("_law_k", 2)]) (g := (gName 2)) (tt := (tTest (tOp (rIn K true) (tOp (rIxT K) (tOp (rIxL K) (tVar 1) (tVar 2)) (tC (.int 0))) (tLst (tCons (tC (.str "in")) (tCons (tC (.str "out")) tNil)))))) (te := (tVar 2)) rfl nd rfl rfl (sw_true rfl rfl rfl (by decide +kernel)) (pi_range1 (by rfl) B.range (pa_cons (pe_callB call_len_seq (by rfl) B.len PySem.boot_len (pa_cons (pv 1) pa_nil)) pa_nil)) (blkOk_by (N := nLWires) (sc := defScope sLWires) (own := [("_law_k", 2)]) (by decide +kernel)) (fun _ _ _ _ _ => (pg_name (i := 2) nd rfl (.inl rfl))) (fun _ _ _ _ _ => pts_one (pt_cmpR op_notIn_seq (pe_ix ix_tup (pe_ix ix_list (pv 1) (pv 2) (fun _ _ => rfl)) pe_int (fun _ _ => rfl)) (pe_lst (pa_cons pe_str (pa_cons pe_str pa_nil))) (by rfl))) (fun _ _ _ _ _ => (pv 2))) <|
        pss_cons (ps_set (i := 5) nd rfl (.inl rfl) (pe_lst pa_nil)) <|
        pss_cons (ps_for PassesOwn.never rfl (pi_range1 (by rfl) B.range (pa_cons (pe_op op_mul (pe_call DD.ok hr1 (by rfl) DD.mg DD.kp DD.bd .nil pass0 (pa_cons (pv 0) (pa_cons (pe_op op_add (pe_op op_mul pe_int (pe_callB call_len_seq (by rfl) B.len PySem.boot_len (pa_cons (pv 1) pa_nil))) pe_int) pa_nil))) (pe_callTy call_int1 (by rfl) B.int (by decide +kernel) (pa_cons (pe_cmpR (op_neD hr.units) (pv 4) (pe_lst pa_nil) (nomark _)) pa_nil))) pa_nil)) (pg_name (i := 2) nd rfl (.inl rfl)) (pss_cons (ps_set (i := 6) nd rfl (.inl rfl) (pe_ix ix_list (pv 3) (pe_call DD.ok hr1 (by rfl) DD.mg DD.kp DD.bd .nil pass0 (pa_cons (pv 0) (pa_cons (pe_callB call_len_seq (by rfl) B.len PySem.boot_len (pa_cons (pv 3) pa_nil)) pa_nil))) (fun _ _ => rfl))) <|
        pss_cons (ps_set (i := 7) nd rfl (.inl rfl) (pe_ix ix_list (pv 4) (pe_call DD.ok hr1 (by rfl) DD.mg DD.kp DD.bd .nil pass0 (pa_cons (pv 0) (pa_cons (pe_callB call_len_seq (by rfl) B.len PySem.boot_len (pa_cons (pv 4) pa_nil)) pa_nil))) (fun _ _ => rfl))) <|
        pss_cons (ps_set (i := 8) nd rfl (.inl rfl) (pe_op op_add (pe_ix ix_list (pe_lst (pa_cons pe_int (pa_cons pe_int (pa_cons pe_int (pa_cons pe_int (pa_cons pe_int (pa_cons pe_int pa_nil))))))) (pe_call DD.ok hr1 (by rfl) DD.mg DD.kp DD.bd .nil pass0 (pa_cons (pv 0) (pa_cons pe_int pa_nil))) (fun _ _ => rfl)) (pe_callTy call_int1 (by rfl) B.int (by decide +kernel) (pa_cons (pe_cmpR op_ge (pv 6) (pv 7) (nomark _)) pa_nil)))) <|
        pss_one (ps_expr (pe_bm PySem.F.plainAttrs_list PySem.F.slot_list_append PySem.F.type_list_append mt_append (pv 5) (pa_cons (pe_tup (pa_cons (pv 6) (pa_cons (pv 7) (pa_cons (pe_call DWo.ok hr (by rfl) DWo.mg DWo.kp DWo.bd .nil pass0 (pa_cons (pv 0) (pa_cons (pv 8) pa_nil))) pa_nil)))) pa_nil))))) <|
        pss_cons (ps_for PassesOwn.never rfl (pi_range1 (by rfl) B.range (pa_cons (pe_callB call_len_seq (by rfl) B.len PySem.boot_len (pa_cons (pv 1) pa_nil)) pa_nil)) (pg_name (i := 2) nd rfl (.inl rfl)) (pss_one (ps_if (pt_cmpR op_eq (pe_ix ix_tup (pe_ix ix_list (pv 1) (pv 2) (fun _ _ => rfl)) pe_int (fun _ _ => rfl)) pe_str (nomark _)) (pss_cons (ps_set (i := 6) nd rfl (.inl rfl) (pe_ix ix_list (pv 3) (pe_call DD.ok hr1 (by rfl) DD.mg DD.kp DD.bd .nil pass0 (pa_cons (pv 0) (pa_cons (pe_callB call_len_seq (by rfl) B.len PySem.boot_len (pa_cons (pv 3) pa_nil)) pa_nil))) (fun _ _ => rfl))) <|
        pss_one (ps_expr (pe_bm PySem.F.plainAttrs_list PySem.F.slot_list_insert PySem.F.type_list_insert mt_insert (pv 5) (pa_cons (pe_call DD.ok hr1 (by rfl) DD.mg DD.kp DD.bd .nil pass0 (pa_cons (pv 0) (pa_cons (pe_op op_add (pe_callB call_len_seq (by rfl) B.len PySem.boot_len (pa_cons (pv 5) pa_nil)) pe_int) pa_nil))) (pa_cons (pe_tup (pa_cons (pv 6) (pa_cons (pv 2) (pa_cons (pe_call DWo.ok hr (by rfl) DWo.mg DWo.kp DWo.bd .nil pass0 (pa_cons (pv 0) (pa_cons (pe_call DD.ok hr1 (by rfl) DD.mg DD.kp DD.bd .nil pass0 (pa_cons (pv 0) (pa_cons pe_int pa_nil))) pa_nil))) pa_nil)))) pa_nil))))) pss_nil))) <|
        pss_one (ps_ret (pv 5)), ?_⟩
    obtain ⟨gv, hgv, ga⟩ := id G
    have hlg : gv.length = gs.length := ga.1
    -- starts
    refine ⟨_, rfl, lg, gv, rfl, .inl (SqL.of hgv), _, rfl, by omega, by omega, fun ls hls => ?_⟩
    rw [Int.toNat_natCast, hlg]
    refine lc_range (lo := 0) (n := gs.length) (fun i Hc => Hc ls = some (.lst (ivN (flt (pS gs) i))) ∧ Same H Hc) ⟨upd_same, same_new hls⟩ ?_ ?_
    · rintro i Hc hi ⟨hc, sm⟩
      obtain ⟨_, hv, a, rfl, sq⟩ := ga.getR (List.getElem?_eq_getElem hi)
      have ei : (0 : Int) + ((i : Nat) : Int) = ((i : Nat) : Int) := Int.zero_add _
      rw [ei]
      have hk : kindAt gs i = (gs[i]).1 := kindAt_get (List.getElem?_eq_getElem hi)
      refine ⟨rfl, ?_⟩
      refine ⟨_, rfl, _, rfl, lg, gv, i, _, rfl, rfl, SqL.of (sm _ _ hgv), atI_nat hv, a, _, 0, _, rfl, rfl, (TK.same sm).seq sq, atI_nat (j := 0) rfl, rfl, pS gs i, ?_, ?_⟩
      · unfold pS
        rw [hk]
      cases hp : pS gs i with
      | true =>
        refine iteT ⟨_, rfl, _, hc, ?_, ?_, same_mut sm hls⟩
        · rw [ivN_len]
          have := flt_len (pS gs) i
          exact small1000 (by omega)
        · rw [upd_same, flt_succ, if_pos hp, ivN_snoc]
      | false =>
        refine iteF ⟨?_, sm⟩
        rw [flt_succ, if_neg (by rw [hp]; decide)]
        exact hc
    rintro H1 ⟨hs1, s1⟩
    have hgv1 := s1 _ _ hgv
    have ga1 := ga.imp fun _ _ r => r.tk (TK.same s1)
    -- ends
    refine ⟨_, rfl, lg, gv, rfl, .inl (SqL.of hgv1), _, rfl, by omega, by omega, fun le hle => ?_⟩
    rw [Int.toNat_natCast, hlg]
    refine lc_range (lo := 0) (n := gs.length) (fun i Hc => Hc le = some (.lst (ivN (flt (pE gs) i))) ∧ Same H1 Hc) ⟨upd_same, same_new hle⟩ ?_ ?_
    · rintro i Hc hi ⟨hc, sm⟩
      obtain ⟨_, hv, a, rfl, sq⟩ := ga1.getR (List.getElem?_eq_getElem hi)
      have ei : (0 : Int) + ((i : Nat) : Int) = ((i : Nat) : Int) := Int.zero_add _
      rw [ei]
      have hk : kindAt gs i = (gs[i]).1 := kindAt_get (List.getElem?_eq_getElem hi)
      refine ⟨rfl, ?_⟩
      refine ⟨_, rfl, _, rfl, lg, gv, i, _, rfl, rfl, SqL.of (sm _ _ hgv1), atI_nat hv, a, _, 0, _, rfl, rfl, (TK.same sm).seq sq, atI_nat (j := 0) rfl, (by show 2 ≤ sizeLine; decide), fun l2 hl2 => ?_⟩
      have t2 := same_new (o := .lst [.str "in", .str "out"]) hl2
      have e2 : (upd Hc l2 (.lst [.str "in", .str "out"])) l2 = some (.lst [.str "in", .str "out"]) := upd_same
      have hc2 := t2 _ _ hc
      refine ⟨l2, _, rfl, .inl (SqL.of e2), rfl, rfl, pE gs i, ?_, ?_⟩
      · unfold pE
        rw [hk]
        rfl
      cases hp : pE gs i with
      | true =>
        refine iteT ⟨_, rfl, _, hc2, ?_, ?_, same_mut (sm.trans t2) hle⟩
        · rw [ivN_len]
          have := flt_len (pE gs) i
          exact small1000 (by omega)
        · rw [upd_same, flt_succ, if_pos hp, ivN_snoc]
      | false =>
        refine iteF ⟨?_, sm.trans t2⟩
        rw [flt_succ, if_neg (by rw [hp]; decide)]
        exact hc2
    rintro H2 ⟨he2, s2⟩
    have s02 := s1.trans s2
    have hs2 := s2 _ _ hs1
    have hls0 : ls ≠ wl := (hw.ne hls).symm
    have hle0 : le ≠ wl := ((hw.same s1).ne hle).symm
    have sne : 0 < (flt (pS gs) gs.length).length := List.length_pos_of_mem (flt_mem.mpr ⟨hi0, pS_iff.mpr hk0⟩)
    have sl := flt_len (pS gs) gs.length
    have el := flt_len (pE gs) gs.length
    generalize hST : flt (pS gs) gs.length = ST at hs2 sne sl
    generalize hEN : flt (pE gs) gs.length = EN at he2 el
    have sST : ∀ k ∈ ST, k < gs.length ∧ kindAt gs k ≠ "out" := fun k hk => by
      rw [← hST] at hk
      obtain ⟨h1, h2⟩ := flt_mem.mp hk
      exact ⟨h1, pS_iff.mp h2⟩
    have sEN : ∀ k ∈ EN, k < gs.length ∧ ¬ portK (kindAt gs k) := fun k hk => by
      rw [← hEN] at hk
      obtain ⟨h1, h2⟩ := flt_mem.mp hk
      exact ⟨h1, pE_iff.mp h2⟩
    -- found
    refine ⟨(by show 0 ≤ sizeLine; decide), fun lf hlf => ?_⟩
    have t3 := same_new (o := .lst []) hlf
    have ef : (upd H2 lf (.lst [])) lf = some (.lst []) := upd_same
    have hlf0 : H lf = none := s02.free hlf
    have nlf : lf ≠ wl := ((hw.same s02).ne hlf).symm
    generalize upd H2 lf (.lst []) = H3 at t3 ef
    have s03 := s02.trans t3
    have D3 := Dr.ofSame hw s03
    have hgv3 := s03 _ _ hgv
    have hs3 := t3 _ _ hs2
    have he3 := t3 _ _ he2
    have ngf : lg ≠ lf := ne_of_none hgv hlf0
    have nsf : ls ≠ lf := ne_of_none hs2 hlf
    have nef : le ≠ lf := ne_of_none he2 hlf
    refine gn_norm (σ' := [some (.ref wl), some (.ref lg), none, some (.ref ls), some (.ref le), some (.ref lf), none, none, none]) rfl ?_
    -- what stands
    have keep : ∀ {H' : Hp} {a : Addr} {xs : List V}, a ≠ wl → a ≠ lf → But wl H3 H' → H3 a = some (.lst xs) → H' a = some (.lst xs) := fun h1 _ b e => b _ _ h1 e
    -- inner wires
    refine ⟨_, rfl, _, rfl, lg, gv, rfl, .inl (SqL.of hgv3), _, _, rfl, rfl, .inl ⟨by decide, by decide⟩, _, _, rfl, rfl, wl, _, rfl, by omega, by omega, D3.well, fun d H4 d0 d1 E4 => ?_⟩
    have D4 := D3.trans E4
    have he4 := E4.but _ _ hle0 he3
    refine ⟨_, rfl, (by show 0 ≤ sizeLine; decide), fun l5 hl5 => ?_⟩
    have t5 := same_new (o := .lst []) hl5
    have e5 : (upd H4 l5 (.lst [])) l5 = some (.lst []) := upd_same
    have E5 := E4.trans (Dr.ofSame E4.well t5)
    have he5 := t5 _ _ he4
    generalize upd H4 l5 (.lst []) = H5 at t5 e5 E5 he5
    have dpE : Dp K H5 (.ref le) (numsD (EN.map fun i => ((i : Nat) : Int))) := dp_nums (SqL.of he5)
    have dp5 : Dp K H5 (.ref l5) (numsD []) := dp_nums (SqL.of e5)
    refine ⟨_, _, dpE, dp5, Sh.ok (sh_nums _) (by decide), Sh.ok (sh_nums _) (by decide), .inr ⟨_, rfl, _, _, rfl, rfl, .inl ?_, ?_⟩⟩
    · have e64 : (2 ^ 64 : Int) = 18446744073709551616 := by decide
      exact ⟨by omega, by omega⟩
    rw [numsD_eq]
    obtain ⟨N0, hN0, hN14, hNE⟩ : ∃ N0 : Nat, d * (if (!decide (EN.map (fun i => ((i : Nat) : Int)) = [])) = true then 1 else 0) = (N0 : Int) ∧ N0 ≤ 14 ∧ (EN = [] → N0 = 0) := by
      by_cases hE : EN = []
      · exact ⟨0, by rw [hE]; show d * 0 = 0; rw [Int.mul_zero], by decide, fun _ => rfl⟩
      · refine ⟨d.toNat, ?_, by omega, fun z => absurd z hE⟩
        rw [decide_eq_false (fun z => hE (List.map_eq_nil_iff.mp z))]
        show d * 1 = _
        omega
    refine ⟨(N0 : Int), congrArg (fun z => [V.int z]) hN0, by omega, by omega, for_range (lo := 0) (n := ((N0 : Nat) : Int).toNat) (fun i σ H' => ∃ (u2 u6 u7 u8 : Option V) (acc : List V) (ws : List Wr), σ = [some (.ref wl), some (.ref lg), u2, some (.ref ls), some (.ref le), some (.ref lf), u6, u7, u8] ∧ H' lf = some (.lst acc) ∧ All2 (WireV K H') acc ws ∧ WIW gs ws 0 ∧ ws.length = i ∧ H' ls = some (.lst (ivN ST)) ∧ H' le = some (.lst (ivN EN)) ∧ H' lg = some (.lst gv) ∧ Dr wl H H')
      ⟨_, _, _, _, [], [], rfl, E5.but _ _ nlf ef, All2.nil, WIW.nil gs, rfl, E5.but _ _ hls0 hs3, he5, E5.but _ _ nlg hgv3, D3.trans E5⟩ ?_ ?_⟩
    · rintro i σ H6 hi ⟨u2, u6, u7, u8, acc, ws, rfl, hacc, haa, wi, hwl, hs6, he6, hg6, D6⟩
      have hal : acc.length = i := by rw [haa.1, hwl]
      have hEne : 0 < EN.length := by
        cases hE : EN with
        | nil => have := hNE hE; omega
        | cons _ _ => exact Nat.succ_pos _
      have lS := ivN_len ST
      have lE := ivN_len EN
      refine ⟨_, rfl, _, rfl, _, rfl, ls, ivN ST, rfl, .inl (SqL.of hs6), wl, _, rfl, by omega, by omega, D6.well, fun d1 H7 d10 d11 E7 => ?_⟩
      obtain ⟨k1, hk1⟩ : ∃ k, ST[d1.toNat]? = some k := ⟨_, List.getElem?_eq_getElem (by omega)⟩
      obtain ⟨k1l, k1o⟩ := sST k1 (List.mem_of_getElem? hk1)
      refine ⟨ls, ivN ST, d1, _, rfl, rfl, SqL.of (E7.but _ _ hls0 hs6), at_of (j := d1.toNat) (by omega) (ivN_at hk1), ?_⟩
      refine gn_norm (σ' := [some (.ref wl), some (.ref lg), some (.int (0 + (i : Nat))), some (.ref ls), some (.ref le), some (.ref lf), some (.int (k1 : Nat)), u7, u8]) rfl ?_
      refine ⟨_, rfl, _, rfl, _, rfl, le, ivN EN, rfl, .inl (SqL.of (E7.but _ _ hle0 he6)), wl, _, rfl, by omega, by omega, E7.well, fun d2 H8 d20 d21 E8 => ?_⟩
      obtain ⟨k2, hk2⟩ : ∃ k, EN[d2.toNat]? = some k := ⟨_, List.getElem?_eq_getElem (by omega)⟩
      obtain ⟨k2l, k2o⟩ := sEN k2 (List.mem_of_getElem? hk2)
      have E68 := E7.trans E8
      refine ⟨le, ivN EN, d2, _, rfl, rfl, SqL.of (E68.but _ _ hle0 he6), at_of (j := d2.toNat) (by omega) (ivN_at hk2), ?_⟩
      refine gn_norm (σ' := [some (.ref wl), some (.ref lg), some (.int (0 + (i : Nat))), some (.ref ls), some (.ref le), some (.ref lf), some (.int (k1 : Nat)), some (.int (k2 : Nat)), u8]) rfl ?_
      refine ⟨(by show 6 ≤ sizeLine; decide), fun l8 hl8 => ?_⟩
      have E9 := E68.trans (Dr.new (o := .lst [.int 0, .int 0, .int 1, .int 1, .int 2, .int 3]) E8.well hl8)
      refine ⟨_, rfl, wl, 6, rfl, by decide, by decide, E9.well, fun j H10 j0 j1 E10 => ?_⟩
      have el8 := E10.but _ _ (E8.well.ne hl8).symm (upd_same (H := H8) (a := l8) (o := .lst [.int 0, .int 0, .int 1, .int 1, .int 2, .int 3]))
      obtain ⟨wt, hwt, w0, w1⟩ : ∃ wt : Int, ([.int 0, .int 0, .int 1, .int 1, .int 2, .int 3] : List V)[j.toNat]? = some (.int wt) ∧ 0 ≤ wt ∧ wt ≤ 3 := by
        rcases (by omega : j.toNat = 0 ∨ j.toNat = 1 ∨ j.toNat = 2 ∨ j.toNat = 3 ∨ j.toNat = 4 ∨ j.toNat = 5) with h | h | h | h | h | h <;> rw [h]
        · exact ⟨0, rfl, by decide, by decide⟩
        · exact ⟨0, rfl, by decide, by decide⟩
        · exact ⟨1, rfl, by decide, by decide⟩
        · exact ⟨1, rfl, by decide, by decide⟩
        · exact ⟨2, rfl, by decide, by decide⟩
        · exact ⟨3, rfl, by decide, by decide⟩
      refine ⟨l8, _, j, .int wt, rfl, rfl, SqL.of el8, at_of (j := j.toNat) (by omega) hwt, ?_⟩
      have D10 := (D6.trans E9).trans E10
      have E610 := E9.trans E10
      refine ⟨_, rfl, _, rfl, _, _, rfl, rfl, .inr ⟨_, rfl, _, _, rfl, rfl, ?_⟩⟩
      obtain ⟨m, hm, hm4, hm1⟩ : ∃ m : Nat, wt + (if decide (((k1 : Nat) : Int) ≥ ((k2 : Nat) : Int)) = true then 1 else 0) = (m : Int) ∧ m ≤ 4 ∧ (m = 0 → k1 < k2) := by
        by_cases h : ((k1 : Nat) : Int) ≥ ((k2 : Nat) : Int)
        · exact ⟨(wt + 1).toNat, by rw [if_pos (decide_eq_true h)]; omega, by omega, fun z => by omega⟩
        · exact ⟨wt.toNat, by rw [if_neg (by rw [decide_eq_false h]; decide)]; omega, by omega, fun z => by omega⟩
      refine gn_norm (σ' := [some (.ref wl), some (.ref lg), some (.int (0 + (i : Nat))), some (.ref ls), some (.ref le), some (.ref lf), some (.int (k1 : Nat)), some (.int (k2 : Nat)), some (.int (m : Nat))]) (by rw [← hm]; rfl) ?_
      have hacc10 := E610.but _ _ nlf hacc
      refine ⟨_, rfl, .inl ⟨rfl, _, SqL.of hacc10⟩, _, rfl, _, rfl, _, rfl, _, rfl, wl, m, rfl, by omega, D10.well, fun p rs H11 E11 hp hrl hro => ?_⟩
      have E611 := E610.trans E11
      refine ⟨(by show 3 ≤ sizeLine; decide), fun p2 hp2 => ?_⟩
      have E12 := E611.trans (Dr.new (o := .tup [.int (k1 : Nat), .int (k2 : Nat), .ref p]) E11.well hp2)
      have hacc12 := E12.but _ _ nlf hacc
      have sn : Same H11 (upd H11 p2 (.tup [.int (k1 : Nat), .int (k2 : Nat), .ref p])) := same_new hp2
      refine ⟨lf, acc, _, rfl, rfl, hacc12, small1000 (by omega), ?_⟩
      have D12 := set_well (o := .lst (acc ++ [.ref p2])) (D6.trans E12) hlf0 nlf
      refine ⟨_, _, _, _, acc ++ [.ref p2], ws ++ [(k1, k2, rs)], rfl, upd_same, ?_, wi.inner ⟨k1l, k2l, k1o, fun z => k2o (.inl z), hro, by show rs.length ≤ 100; omega⟩ (by show rs.length ≤ 4; omega) (fun z => hm1 (by have z : rs = [] := z; rw [z] at hrl; exact hrl.symm)) (fun z => k2o (.inr z)), by rw [List.length_append, hwl]; rfl, (upd_ne nsf).trans (E12.but _ _ hls0 hs6), (upd_ne nef).trans (E12.but _ _ hle0 he6), (upd_ne ngf).trans (E12.but _ _ nlg hg6), D12⟩
      exact All2.pushT (fun t r => WireV.tk t r) haa hacc12 (TK.dr D6.well E12.but) ⟨p2, p, rfl, .inl (.inl upd_same), .inl (.inl (sn _ _ hp))⟩
    rintro σ H6 ⟨u2, u6, u7, u8, acc, ws, rfl, hacc, haa, wi, hwl, hs6, he6, hg6, D6⟩
    -- wires into outputs
    refine ⟨_, rfl, lg, gv, rfl, .inl (SqL.of hg6), _, rfl, by omega, by omega, ?_⟩
    refine for_range (lo := 0) (n := ((gv.length : Nat) : Int).toNat) (fun i σ H' => ∃ (u2 u6 u7 u8 : Option V) (acc : List V) (us : List Wr), σ = [some (.ref wl), some (.ref lg), u2, some (.ref ls), some (.ref le), some (.ref lf), u6, u7, u8] ∧ H' lf = some (.lst acc) ∧ All2 (WireV K H') acc us ∧ WIW gs us i ∧ us.length ≤ ws.length + i ∧ H' ls = some (.lst (ivN ST)) ∧ H' lg = some (.lst gv) ∧ Dr wl H H')
      ⟨_, _, _, _, acc, ws, rfl, hacc, haa, wi, Nat.le_refl _, hs6, hg6, D6⟩ ?_ ?_
    · rintro i σ H7 hi ⟨u2, u6, u7, u8, acc, us, rfl, hacc, haa, wi, hul, hs7, hg7', D7⟩
      have hi' : i < gs.length := by omega
      have lS := ivN_len ST
      have hal : acc.length = us.length := haa.1
      have ei : (0 : Int) + ((i : Nat) : Int) = ((i : Nat) : Int) := Int.zero_add _
      rw [ei]
      obtain ⟨_, hv, a, rfl, sq⟩ := ga.getR (List.getElem?_eq_getElem hi')
      have hk : kindAt gs i = (gs[i]).1 := kindAt_get (List.getElem?_eq_getElem hi')
      refine gn_norm (σ' := [some (.ref wl), some (.ref lg), some (.int (i : Nat)), some (.ref ls), some (.ref le), some (.ref lf), u6, u7, u8]) rfl ?_
      refine ⟨_, rfl, _, rfl, lg, gv, i, _, rfl, rfl, SqL.of hg7', atI_nat hv, a, _, 0, _, rfl, rfl, (TK.dr hw D7.but).seq sq, atI_nat (j := 0) rfl, rfl, _, rfl, ite2 (fun e => ?_) (fun e => ?_)⟩
      · have ko : kindAt gs i = "out" := by
          rw [hk]
          exact V.str.inj (of_decide_eq_true e)
        refine ⟨_, rfl, _, rfl, _, rfl, ls, ivN ST, rfl, .inl (SqL.of hs7), wl, _, rfl, by omega, by omega, D7.well, fun d1 H8 d10 d11 E8 => ?_⟩
        obtain ⟨k1, hk1⟩ : ∃ k, ST[d1.toNat]? = some k := ⟨_, List.getElem?_eq_getElem (by omega)⟩
        obtain ⟨k1l, k1o⟩ := sST k1 (List.mem_of_getElem? hk1)
        refine ⟨ls, ivN ST, d1, _, rfl, rfl, SqL.of (E8.but _ _ hls0 hs7), at_of (j := d1.toNat) (by omega) (ivN_at hk1), ?_⟩
        refine gn_norm (σ' := [some (.ref wl), some (.ref lg), some (.int (i : Nat)), some (.ref ls), some (.ref le), some (.ref lf), some (.int (k1 : Nat)), u7, u8]) rfl ?_
        have hacc8 := E8.but _ _ nlf hacc
        refine ⟨_, rfl, .inl ⟨rfl, _, SqL.of hacc8⟩, _, rfl, _, rfl, lf, acc, rfl, .inl (SqL.of hacc8), _, _, rfl, rfl, wl, _, rfl, by omega, by omega, E8.well, fun at' H9 a0 a1 E9 => ?_⟩
        refine ⟨_, rfl, _, rfl, _, rfl, _, rfl, wl, 3, rfl, by decide, by decide, E9.well, fun m H10 m0 m1 E10 => ?_⟩
        have E710 := (E8.trans E9).trans E10
        refine ⟨wl, m.toNat, by show [V.ref wl, V.int m] = _; rw [Int.toNat_of_nonneg m0], by omega, E710.well, fun p rs H11 E11 hp hrl hro => ?_⟩
        have E711 := E710.trans E11
        refine ⟨(by show 3 ≤ sizeLine; decide), fun p2 hp2 => ?_⟩
        have E12 := E711.trans (Dr.new (o := .tup [.int (k1 : Nat), .int (i : Nat), .ref p]) E711.well hp2)
        have hacc12 := E12.but _ _ nlf hacc
        have sn : Same H11 (upd H11 p2 (.tup [.int (k1 : Nat), .int (i : Nat), .ref p])) := same_new hp2
        have hb63 : at' < 2 ^ 63 := by
          have e63 : (2 ^ 63 : Int) = 9223372036854775808 := by decide
          omega
        refine ⟨lf, acc, at', _, rfl, rfl, hacc12, small1000 (by omega), a0, hb63, ?_⟩
        refine ⟨_, _, _, _, acc.take at'.toNat ++ [.ref p2] ++ acc.drop at'.toNat, us.take at'.toNat ++ [(k1, i, rs)] ++ us.drop at'.toNat, rfl, upd_same, ?_, wi.outer (x := (k1, i, rs)) ⟨k1l, hi', k1o, fun z => by rw [ko] at z; exact absurd z (by decide), hro, by show rs.length ≤ 100; omega⟩ (by show rs.length ≤ 4; omega) rfl ko (insert_perm _ _ _), ?_, (upd_ne nsf).trans (E12.but _ _ hls0 hs7), (upd_ne ngf).trans (E12.but _ _ nlg hg7'), set_well (D7.trans E12) hlf0 nlf⟩
        · have b12 : All2 (WireV K (upd (upd H11 p2 (.tup [.int (k1 : Nat), .int (i : Nat), .ref p])) lf (.lst (acc.take at'.toNat ++ [.ref p2] ++ acc.drop at'.toNat)))) acc us := haa.imp fun _ _ r => (r.tk (TK.dr D7.well E12.but)).tk (TK.lst hacc12)
          have one : WireV K (upd (upd H11 p2 (.tup [.int (k1 : Nat), .int (i : Nat), .ref p])) lf (.lst (acc.take at'.toNat ++ [.ref p2] ++ acc.drop at'.toNat))) (.ref p2) (k1, i, rs) := WireV.tk (TK.lst hacc12) ⟨p2, p, rfl, .inl (.inl upd_same), .inl (.inl (sn _ _ hp))⟩
          exact ((b12.take _).append (All2.nil.snoc one)).append (b12.drop _)
        · rw [(insert_perm us at'.toNat (k1, i, rs)).length_eq, List.length_append]
          show us.length + 1 ≤ _
          omega
      · have ko : kindAt gs i ≠ "out" := by
          rw [hk]
          intro z
          exact e (decide_eq_true (by rw [z]))
        exact ⟨_, _, _, _, acc, us, rfl, hacc, haa, wi.skip ko, by omega, hs7, hg7', D7⟩
    · rintro σ H7 ⟨u2, u6, u7, u8, acc, us, rfl, hacc, haa, wi7, hul, hs7, hg7', D7⟩
      have en : ((gv.length : Nat) : Int).toNat = gs.length := by omega
      rw [en] at wi7 hul
      exact ⟨_, rfl, q lf us H7 D7 hlf0 ⟨acc, hacc, haa⟩ wi7 (by omega)⟩
end
end Lag


set_option maxRecDepth 100000
set_option maxHeartbeats 8000000
namespace Lag
open PySem PySem.Spec PyProof.Rows L2
abbrev sLParts : Stmt := topS 78 -- @_law_parts
def rInt1 : List V → Hp → VK → Prop := fun xs H Q => (∃ i, xs = [.int i] ∧ Q (.int i) H) ∨ ∃ k, xs = [.bl k] ∧ Q (.int (if k then 1 else 0)) H
theorem int_or {ta tb : TE} {σ : L2.St} {H : Hp} {Q : VK} (c d : Bool) (ha : ∀ Q' : VK, Q' (.bl c) H → ta σ H Q') (hb : ∀ Q' : VK, Q' (.bl d) H → tb σ H Q') (q : Q (.int (if (c || d) = true then 1 else 0)) H) : tCB rInt1 (tCons (tOrV ta tb) tNil) σ H Q := by
  refine ha _ ⟨c, rfl, ?_⟩
  cases c with
  | false => exact hb _ (.inr ⟨d, rfl, q⟩)
  | true => exact .inr ⟨true, rfl, q⟩
theorem All2.set {α β : Type} {R : α → β → Prop} {xs : List α} {ys : List β} (h : All2 R xs ys) {i : Nat} {x : α} {y : β} (r : R x y) : All2 R (xs.set i x) (ys.set i y) := by
  refine ⟨by rw [List.length_set, List.length_set, h.1], fun j a b ha hb => ?_⟩
  rw [List.getElem?_set] at ha hb
  by_cases e : i = j
  · rw [if_pos e] at ha hb
    by_cases hl : i < xs.length
    · have hl2 : i < ys.length := by rw [← h.1]; exact hl
      rw [if_pos (by omega)] at ha hb
      cases ha
      cases hb
      exact r
    · rw [if_neg (by omega)] at ha
      cases ha
  · rw [if_neg e] at ha hb
    exact h.2 j a b ha hb
/-! ### numbered on from t -/
def rotL (n t : Nat) : List Nat := (List.range n).drop t ++ (List.range n).take t
theorem rot_perm (n t : Nat) : (rotL n t).Perm (List.range n) := by
  unfold rotL
  refine List.perm_append_comm.trans ?_
  rw [List.take_append_drop]
theorem rot_map {gs : List Gt} (t : Nat) : ((rotL gs.length t).map fun k => gs.getD k ("", 0)) = gs.drop t ++ gs.take t := by
  have e : (List.range gs.length).map (fun k => gs.getD k ("", 0)) = gs := by
    refine List.ext_getElem? fun i => ?_
    rw [List.getElem?_map]
    by_cases h : i < gs.length
    · rw [List.getElem?_range h, List.getElem?_eq_getElem h]
      show some (gs.getD i ("", 0)) = _
      rw [List.getD_eq_getElem?_getD, List.getElem?_eq_getElem h]
      rfl
    · rw [List.getElem?_eq_none (by rw [List.length_range]; omega), List.getElem?_eq_none (by omega)]
      rfl
  unfold rotL
  rw [List.map_append, List.map_drop, List.map_take, e]
theorem rot_idx {n t i : Nat} (ht : t ≤ n) (hi : i < n) : (((rotL n t).idxOf i : Nat) : Int) = ((i : Int) - (t : Int)) % (n : Int) := by
  have nd : (rotL n t).Nodup := (rot_perm n t).nodup_iff.mpr List.nodup_range
  have key : ∀ j, (rotL n t)[j]? = some i → (rotL n t).idxOf i = j := fun j hj => by
    obtain ⟨hjl, e⟩ := List.getElem?_eq_some_iff.mp hj
    rw [← e]
    exact List.Nodup.idxOf_getElem nd j hjl
  rcases Nat.lt_or_ge i t with h | h
  · have hj : (rotL n t)[n - t + i]? = some i := by
      unfold rotL
      rw [List.getElem?_append_right (by rw [List.length_drop, List.length_range]; omega), List.length_drop, List.length_range, List.getElem?_take_of_lt (by omega), List.getElem?_range (by omega)]
      congr 1
      omega
    rw [key _ hj]
    have : ((i : Int) - (t : Int)) % (n : Int) = ((i : Int) - (t : Int) + (n : Int)) % (n : Int) := by rw [Int.add_emod_right]
    rw [this, Int.emod_eq_of_lt (by omega) (by omega)]
    omega
  · have hj : (rotL n t)[i - t]? = some i := by
      unfold rotL
      rw [List.getElem?_append_left (by rw [List.length_drop, List.length_range]; omega), List.getElem?_drop, List.getElem?_range (by omega)]
      congr 1
      omega
    rw [key _ hj, Int.emod_eq_of_lt (by omega) (by omega)]
    omega
theorem rot_on {n t i : Nat} (ht : t < n) (hi : i < n) : (((rotL n (n - t)).idxOf i : Nat) : Int) = ((i : Int) + (t : Int)) % (n : Int) := by
  rw [rot_idx (by omega) hi]
  have e : ((i : Int) - ((n - t : Nat) : Int)) = (i : Int) + (t : Int) - (n : Int) := by omega
  rw [e, Int.sub_emod_right]
/-! ### a first that nothing leads into is a sum -/
def fixK (gs : List Gt) (ws : List Wr) (k : Nat) : Str := if kindAt gs k = "first" ∧ cnt ws k = 0 then "sum" else kindAt gs k
def fixG (gs : List Gt) (ws : List Wr) : List Gt := (List.range gs.length).map fun k => (fixK gs ws k, (gs.getD k ("", 0)).2)
theorem fixG_len (gs : List Gt) (ws : List Wr) : (fixG gs ws).length = gs.length := by unfold fixG; rw [List.length_map, List.length_range]
theorem fixG_at {gs : List Gt} {ws : List Wr} {k : Nat} (h : k < gs.length) : (fixG gs ws)[k]? = some (fixK gs ws k, (gs.getD k ("", 0)).2) := by
  unfold fixG
  rw [List.getElem?_map, List.getElem?_range h]
  rfl
theorem kindAt_fix {gs : List Gt} {ws : List Wr} {k : Nat} (h : k < gs.length) : kindAt (fixG gs ws) k = fixK gs ws k := kindAt_get (fixG_at h)
theorem fixK_port {gs : List Gt} {ws : List Wr} {k : Nat} {z : Str} (hz : z = "in" ∨ z = "out") : fixK gs ws k = z ↔ kindAt gs k = z := by
  unfold fixK
  split
  · rename_i h
    constructor
    · intro e
      rcases hz with rfl | rfl <;> exact absurd e (by decide)
    · intro e
      rw [h.1] at e
      rcases hz with rfl | rfl <;> exact absurd e (by decide)
  · exact Iff.rfl
theorem WIW.net {gs : List Gt} {ws : List Wr} (h : WIW gs ws gs.length) (ne : gs ≠ []) (gl : gs.length ≤ 100) (wl : ws.length ≤ 1000) (gok : ∀ g ∈ gs, GOk g) : NetOk (fixG gs ws) ws := by
  have fl := fixG_len gs ws
  refine ⟨fun z => ?_, by omega, wl, fun g hg => ?_, fun x hx => ?_, fun e he hk => ?_, fun e he hk => ?_, ?_⟩
  · rw [z] at fl
    exact ne (List.length_eq_zero_iff.mp fl.symm)
  · obtain ⟨k, hk, rfl⟩ := List.mem_map.mp hg
    have hk := List.mem_range.mp hk
    obtain ⟨g1, g2, g3, g4⟩ := gok _ (List.getElem_mem hk)
    have e1 : (gs.getD k ("", 0)) = gs[k] := by rw [List.getD_eq_getElem?_getD, List.getElem?_eq_getElem hk]; rfl
    have e2 : kindAt gs k = gs[k].1 := kindAt_get (List.getElem?_eq_getElem hk)
    rw [e1]
    refine ⟨?_, g2, g3, fun z => g4 ?_⟩
    · show fixK gs ws k ∈ kinds
      unfold fixK
      split
      · decide +kernel
      · rw [e2]
        exact g1
    · rw [← e2]
      rcases z with z | z
      · exact .inl ((fixK_port (.inl rfl)).mp z)
      · exact .inr ((fixK_port (.inr rfl)).mp z)
  · obtain ⟨w1, _⟩ := h.wok x hx
    refine ⟨by rw [fl]; exact w1.s, by rw [fl]; exact w1.e, ?_, ?_, w1.r, w1.rl⟩
    · rw [kindAt_fix w1.s]
      exact fun z => w1.ks ((fixK_port (.inr rfl)).mp z)
    · rw [kindAt_fix w1.e]
      exact fun z => w1.ke ((fixK_port (.inl rfl)).mp z)
  · rw [fl] at he
    rw [kindAt_fix he] at hk
    exact h.one e he ((fixK_port (.inr rfl)).mp hk)
  · rw [fl] at he
    rw [kindAt_fix he] at hk
    unfold fixK at hk
    split at hk
    · exact absurd hk (by decide)
    · rename_i hn
      have : cnt ws e ≠ 0 := fun z => hn ⟨hk, z⟩
      omega
  · refine ⟨fun k => if kindAt gs k = "out" then gs.length else k, fun x hx hr => ?_⟩
    obtain ⟨w1, _⟩ := h.wok x hx
    show (if kindAt gs x.1 = "out" then gs.length else x.1) < if kindAt gs x.2.1 = "out" then gs.length else x.2.1
    rw [if_neg w1.ks]
    split
    · exact w1.s
    · rename_i hn
      exact (h.rk x hx hr).resolve_left hn
def leds (ws : List Wr) : List V := (ws.map fun x => x.2.1).map fun i => V.int ((i : Nat) : Int)
theorem led_in {ws : List Wr} {k : Nat} : inV (.int ((k : Nat) : Int)) (leds ws) = true ↔ cnt ws k ≠ 0 := by
  unfold inV leds cnt
  rw [List.any_eq_true]
  constructor
  · rintro ⟨v, hv, he⟩ z
    obtain ⟨i, hi, rfl⟩ := List.mem_map.mp hv
    obtain ⟨x, hx, rfl⟩ := List.mem_map.mp hi
    have e : ((x.2.1 : Nat) : Int) = ((k : Nat) : Int) := of_decide_eq_true he
    exact absurd (List.countP_eq_zero.mp z x hx) (by simp; omega)
  · intro z
    have : 0 < ws.countP (fun x => x.2.1 == k) := Nat.pos_of_ne_zero z
    obtain ⟨x, hx, he⟩ := List.countP_pos_iff.mp this
    refine ⟨_, List.mem_map.mpr ⟨x.2.1, List.mem_map.mpr ⟨x, hx, rfl⟩, rfl⟩, ?_⟩
    rw [eq_of_beq he]
    exact decide_eq_true rfl
def nonOut (g : Gt) : Bool := !decide (V.str g.1 = V.str "out")
theorem nonOut_iff {g : Gt} : nonOut g = true ↔ g.1 ≠ "out" := by
  unfold nonOut
  rw [Bool.not_eq_true', decide_eq_false_iff_not]
  exact ⟨fun h z => h (by rw [z]), fun h z => h (V.str.inj z)⟩
def spLParts (K : PySem.W.Frag) : Sp := fun vs H Q _ => ∃ wl : Addr, vs = [.ref wl] ∧ WellAt wl H ∧
  ∀ (gs : List Gt) (ws : List Wr) (lg lw p : Addr) (H' : Hp), NetOk gs ws → gs.length ≤ 7 → ws.length ≤ 21 → (∀ x ∈ ws, x.2.2.length ≤ 4) → Dr wl H H' → H lg = none → H lw = none → lg ≠ lw → LG K H' lg gs → LW K H' lw ws → H' p = some (.tup [.ref lg, .ref lw]) → Q (.ref p) H'
section
variable {P : Program} {w : World} {K : PySem.W.Frag} {mg : Str → Option Value} {base : Heap}
abbrev nLParts : List Str := ["_law_well_here", "_law_gates_here", "_law_gate", "_law_wires_here", "_law_wire", "_law_led", "_law_k", "_law_turn", "_law_start", "_law_end", "_law_some", "_law_cut"]
theorem scLParts : FnScope nLParts ["_law_well_here"] (defScope sLParts) := ⟨rfl, rfl, rfl, by decide +kernel, rfl, by decide +kernel, by decide +kernel⟩
abbrev DLParts (P : Program) (w : World) (K : PySem.W.Frag) (mg : Str → Option Value) (base : Heap) := Df P w K mg base 4 "_law_parts" ["_law_well_here"] (spLParts K)
theorem ok_lparts {f fD fG fW : Addr} {fd fdD fdG fdW : FuncData} (F : Fun K "_law_parts" "_law_parts" sLParts f fd) (hm : mg "_law_parts" = some (.ref f)) (B : Bt mg) (DD : DDraw P w K mg base fD fdD) (DG : DLGates P w K mg base fG fdG) (DWi : DLWires P w K mg base fW fdW) : DLParts P w K mg base f fd := by
  refine ⟨?_, hm, F.kp, F.binds fun _ _ _ _ _ _ us hl => match us, hl with | [_], _ => rfl⟩
  refine F.ok scLParts (fun vs H Q E h => ?_) (fun cdv A outer s H vs Q E hr h => ?_)
  · obtain ⟨wl, rfl, _⟩ := h
    rfl
  · obtain ⟨wl, rfl, hw, q⟩ := h
    have nd := scLParts.nd
    refine ⟨_, pss_cons (ps_set (i := 1) nd rfl (.inr rfl) (pe_call DG.ok (hr.mono (by decide)) (by rfl) DG.mg DG.kp DG.bd .nil pass0 (pa_cons (pv 0) pa_nil))) <|
        Evl.pss_cut (ps_if (pt_cmpR (op_eqD hr.units) (pe_lc (own := [("_law_gate", 2)]) (g := (gName 2)) (tt := (tTest (tOp rNe (tOp (rIxT K) (tVar 2) (tC (.int 0))) (tC (.str "out"))))) (te := (tVar 2)) rfl nd (pi_list (pv 1)) (blkOk_by (N := nLParts) (sc := defScope sLParts) (own := [("_law_gate", 2)]) (by decide +kernel)) (fun _ _ _ _ _ => (pg_name (i := 2) nd rfl (.inl rfl))) (fun _ _ _ _ _ => pts_one (pt_cmpR op_ne (pe_ix ix_tup (pv 2) pe_int (fun _ _ => rfl)) pe_str (nomark _))) (fun _ _ _ _ _ => (pv 2))) (pe_lst pa_nil) (nomark _)) (pss_one (ps_asg (pe_tup (pa_cons pe_str (pa_cons pe_int pa_nil))) (pg_sub (pv 1) pe_int set_list))) pss_nil) <|
        pss_cons (ps_set (i := 3) nd rfl (.inl rfl) (pe_call DWi.ok (hr.mono (by decide)) (by rfl) DWi.mg DWi.kp DWi.bd .nil pass0 (pa_cons (pv 0) (pa_cons (pv 1) pa_nil)))) <|
        pss_cons (ps_set (i := 5) nd rfl (.inr rfl) (pe_lc (own := [("_law_wire", 4)]) (g := (gName 4)) (tt := tYes) (te := (tOp (rIxT K) (tVar 4) (tC (.int 1)))) rfl nd (pi_list (pv 3)) (blkOk_by (N := nLParts) (sc := defScope sLParts) (own := [("_law_wire", 4)]) (by decide +kernel)) (fun _ _ _ _ _ => (pg_name (i := 4) nd rfl (.inl rfl))) (fun _ _ _ _ _ => pts_nil) (fun _ _ _ _ _ => (pe_ix ix_tup (pv 4) pe_int (fun _ _ => rfl))))) <|
        pss_cons (ps_set (i := 1) nd rfl (.inr rfl) (pe_lc (own := [("_law_k", 6)]) (g := (gName 6)) (tt := tYes) (te := (tTup (tCons (tOp (rIxL K) (tLst (tCons (tC (.str "sum")) (tCons (tOp (rIxT K) (tOp (rIxL K) (tVar 1) (tVar 6)) (tC (.int 0))) tNil))) (tCB rInt1 (tCons (tOrV (tOp rNe (tOp (rIxT K) (tOp (rIxL K) (tVar 1) (tVar 6)) (tC (.int 0))) (tC (.str "first"))) (tOp (rIn K false) (tVar 6) (tVar 5))) tNil))) (tCons (tOp (rIxT K) (tOp (rIxL K) (tVar 1) (tVar 6)) (tC (.int 1))) tNil)))) rfl nd (pi_range1 (by rfl) B.range (pa_cons (pe_callB call_len_seq (by rfl) B.len PySem.boot_len (pa_cons (pv 1) pa_nil)) pa_nil)) (blkOk_by (N := nLParts) (sc := defScope sLParts) (own := [("_law_k", 6)]) (by decide +kernel)) (fun _ _ _ _ _ => (pg_name (i := 6) nd rfl (.inl rfl))) (fun _ _ _ _ _ => pts_nil) (fun _ _ _ _ _ => (pe_tup (pa_cons (pe_ix ix_list (pe_lst (pa_cons pe_str (pa_cons (pe_ix ix_tup (pe_ix ix_list (pv 1) (pv 6) (fun _ _ => rfl)) pe_int (fun _ _ => rfl)) pa_nil))) (pe_callTy call_int1 (by rfl) B.int (by decide +kernel) (pa_cons (pe_or (pe_cmpR op_ne (pe_ix ix_tup (pe_ix ix_list (pv 1) (pv 6) (fun _ _ => rfl)) pe_int (fun _ _ => rfl)) pe_str (nomark _)) (pe_one (pe_cmpR op_in_seq (pv 6) (pv 5) (by rfl)))) pa_nil)) (fun _ _ => rfl)) (pa_cons (pe_ix ix_tup (pe_ix ix_list (pv 1) (pv 6) (fun _ _ => rfl)) pe_int (fun _ _ => rfl)) pa_nil)))))) <|
        pss_cons (ps_set (i := 7) nd rfl (.inr rfl) (pe_call DD.ok (hr.mono (by decide)) (by rfl) DD.mg DD.kp DD.bd .nil pass0 (pa_cons (pv 0) (pa_cons (pe_callB call_len_seq (by rfl) B.len PySem.boot_len (pa_cons (pv 1) pa_nil)) pa_nil)))) <|
        pss_cons (ps_setLc (i := 3) (own := [("_law_start", 8), ("_law_end", 9), ("_law_some", 10)]) (g := (gTup K 3 (gCons (gName 8) (gCons (gName 9) (gCons (gName 10) gNil))))) (tt := tYes) (te := (tTup (tCons (tOp (rI (fun _ j => 0 < j) fun i j => .int (i % j)) (tOp (rI0 fun i j => .int (i + j)) (tVar 8) (tVar 7)) (tCB (Evl.rLenS K) (tCons (tVar 1) tNil))) (tCons (tOp (rI (fun _ j => 0 < j) fun i j => .int (i % j)) (tOp (rI0 fun i j => .int (i + j)) (tVar 9) (tVar 7)) (tCB (Evl.rLenS K) (tCons (tVar 1) tNil))) (tCons (tVar 10) tNil))))) rfl nd rfl rfl (sw_true rfl rfl rfl (by decide +kernel)) (pi_list (pv 3)) (blkOk_by (N := nLParts) (sc := defScope sLParts) (own := [("_law_start", 8), ("_law_end", 9), ("_law_some", 10)]) (by decide +kernel)) (fun _ _ _ _ _ => (pg_tup rfl (pgs_cons (pg_name (i := 8) nd rfl (.inl rfl)) (pgs_cons (pg_name (i := 9) nd rfl (.inl rfl)) (pgs_cons (pg_name (i := 10) nd rfl (.inl rfl)) pgs_nil))))) (fun _ _ _ _ _ => pts_nil) (fun _ _ _ _ _ => (pe_tup (pa_cons (pe_op op_mod (pe_op op_add (pv 8) (pv 7)) (pe_callB call_len_seq (by rfl) B.len PySem.boot_len (pa_cons (pv 1) pa_nil))) (pa_cons (pe_op op_mod (pe_op op_add (pv 9) (pv 7)) (pe_callB call_len_seq (by rfl) B.len PySem.boot_len (pa_cons (pv 1) pa_nil))) (pa_cons (pv 10) pa_nil)))))) <|
        pss_cons (ps_set (i := 11) nd rfl (.inl rfl) (pe_op op_sub (pe_callB call_len_seq (by rfl) B.len PySem.boot_len (pa_cons (pv 1) pa_nil)) (pv 7))) <|
        pss_one (ps_ret (pe_tup (pa_cons (pe_op op_cat (pe_slice sl_list (pv 1) (po_some (pv 11)) po_none) (pe_slice sl_list (pv 1) po_none (po_some (pv 11)))) (pa_cons (pv 3) pa_nil)))), ?_⟩
    refine ⟨_, rfl, wl, rfl, hw, fun lg0 gs0 H1 E1 hlg0 G1 gok0 g1 g7 => ?_⟩
    have nlg0 : lg0 ≠ wl := (hw.ne hlg0).symm
    refine gn_norm (σ' := [some (.ref wl), some (.ref lg0), none, none, none, none, none, none, none, none, none, none]) rfl ?_
    refine ⟨fun σ H' => ∃ gs : List Gt, σ = [some (.ref wl), some (.ref lg0), none, none, none, none, none, none, none, none, none, none] ∧ LG K H' lg0 gs ∧ (∀ g ∈ gs, GOk g) ∧ 1 ≤ gs.length ∧ gs.length ≤ 7 ∧ (∃ i, i < gs.length ∧ kindAt gs i ≠ "out") ∧ Dr wl H H', ?_, ?_⟩
    · obtain ⟨gv, hgv, ga⟩ := id G1
      refine ⟨_, rfl, lg0, rfl, ⟨_, SqL.of hgv⟩, fun lt hlt => ?_⟩
      refine lc_list (K := K) (a := lg0) (xs := gv) (fun i Hc => ∃ acc, Hc lt = some (.lst acc) ∧ acc.length ≤ i ∧ All2 (GateV K Hc) acc ((gs0.take i).filter nonOut) ∧ Same H1 Hc) ⟨[], upd_same, Nat.le_refl _, by simpa using All2.nil, same_new hlt⟩ (fun i Hc _ ⟨_, _, _, _, sm⟩ => SqL.of (sm _ _ hgv)) ?_ ?_
      · rintro i v Hc hv ⟨acc, hacc, hal, haa, sm⟩
        obtain ⟨g, hg, a, rfl, sq⟩ := ga.get hv
        have hi : i < gs0.length := (List.getElem?_eq_some_iff.mp hg).1
        refine ⟨rfl, ?_⟩
        refine ⟨_, rfl, a, _, 0, _, rfl, rfl, (TK.same sm).seq sq, atI_nat (j := 0) rfl, rfl, nonOut g, rfl, ?_⟩
        have fe : (gs0.take (i + 1)).filter nonOut = (gs0.take i).filter nonOut ++ if nonOut g = true then [g] else [] := by
          rw [List.take_add_one, hg, List.filter_append]
          congr 1
          show [g].filter nonOut = _
          cases hz : nonOut g with
          | true => rw [List.filter_cons_of_pos hz, if_pos rfl]; rfl
          | false => rw [List.filter_cons_of_neg (by rw [hz]; decide), if_neg (by decide)]; rfl
        cases hz : nonOut g with
        | true =>
          refine iteT ⟨_, rfl, acc, hacc, small1000 (by omega), acc ++ [.ref a], upd_same, by rw [List.length_append]; show acc.length + 1 ≤ _; omega, ?_, same_mut sm hlt⟩
          rw [fe, hz, if_pos rfl]
          exact All2.pushT (fun t r => GateV.tk t r) haa hacc (TK.same (Same.refl _)) ⟨a, rfl, (TK.same sm).seq sq⟩
        | false =>
          refine iteF ⟨acc, hacc, by omega, ?_, sm⟩
          rw [fe, hz, if_neg (by decide), List.append_nil]
          exact haa
      rintro H2 ⟨acc, hacc, hal, haa, s2⟩
      rw [ga.1, List.take_length] at haa
      refine ⟨(by show 0 ≤ sizeLine; decide), fun l5 hl5 => ?_⟩
      have t5 : Same H2 (upd H2 l5 (.lst [])) := same_new hl5
      have D2 := E1.trans (Dr.ofSame E1.well (s2.trans t5))
      have G5 : LG K (upd H2 l5 (.lst [])) lt (gs0.filter nonOut) := ⟨acc, t5 _ _ hacc, haa.imp fun _ _ r => r.tk (TK.same t5)⟩
      have Z5 : LG K (upd H2 l5 (.lst [])) l5 [] := ⟨[], upd_same, All2.nil⟩
      have gokf : ∀ g ∈ gs0.filter nonOut, GOk g := fun g hg => gok0 g (List.mem_filter.mp hg).1
      refine ⟨_, _, G5.rg.dp, Z5.rg.dp, (sh_gates gokf).ok (by decide), (sh_gates (gs := []) (fun g h => nomatch h)).ok (by decide), _, rfl, ?_⟩
      rw [gatesD_eq]
      have hgv5 := t5 _ _ (s2 _ _ hgv)
      have ga5 := ga.imp fun _ _ r => r.tk (TK.same (s2.trans t5))
      refine ite2 (fun e => ?_) (fun e => ?_)
      · refine ⟨(by show 2 ≤ sizeLine; decide), fun p hp => ?_⟩
        have sp : Same (upd H2 l5 (.lst [])) (upd (upd H2 l5 (.lst [])) p (.tup [.str "sum", .int 3])) := same_new hp
        have D6 := D2.trans (Dr.ofSame D2.well sp)
        have hgv6 := sp _ _ hgv5
        refine ⟨_, rfl, lg0, gv, 0, 0, rfl, rfl, hgv6, ?_, gs0.set 0 ("sum", 3), rfl, ⟨gv.set 0 (.ref p), upd_same, ?_⟩, fun g hg => ?_, by rw [List.length_set]; exact g1, by rw [List.length_set]; exact g7, ⟨0, by rw [List.length_set]; exact g1, ?_⟩, set_well D6 hlg0 nlg0⟩
        · have hl : 0 < gv.length := by rw [ga.1]; exact g1
          unfold ixN
          simp [hl]
        · exact (ga5.imp fun _ _ r => (r.tk (TK.same sp)).tk (TK.lst hgv6)).set (GateV.tk (TK.lst hgv6) ⟨p, rfl, .inl (.inl upd_same)⟩)
        · rcases List.mem_or_eq_of_mem_set hg with h | rfl
          · exact gok0 g h
          · exact ⟨by decide +kernel, by decide, by decide, fun z => by rcases z with z | z <;> exact absurd z (by decide)⟩
        · rw [kindAt_get (g := ("sum", 3)) (by rw [List.getElem?_set, if_pos rfl, if_pos (show 0 < gs0.length from g1)])]
          decide
      · refine ⟨gs0, rfl, ⟨gv, hgv5, ga5⟩, gok0, g1, g7, ?_, D2⟩
        have hne : gs0.filter nonOut ≠ [] := fun z => e (decide_eq_true z)
        obtain ⟨g, hg⟩ := List.exists_mem_of_ne_nil _ hne
        obtain ⟨h1, h2⟩ := List.mem_filter.mp hg
        obtain ⟨i, hi⟩ := List.getElem?_of_mem h1
        exact ⟨i, (List.getElem?_eq_some_iff.mp hi).1, by rw [kindAt_get hi]; exact nonOut_iff.mp h2⟩
    rintro σ H2 ⟨gs, rfl, G2, gok, gl1, gl7, nout, D2⟩
    refine ⟨_, rfl, _, rfl, wl, lg0, gs, rfl, D2.well, nlg0, G2, gl7, nout, fun lw0 ws H3 E3 hlw0 W3 wi hwl => ?_⟩
    have D3 := D2.trans E3
    have hlw0H : H lw0 = none := D2.free hw hlw0
    have nlw0 : lw0 ≠ wl := (hw.ne hlw0H).symm
    have G3 := G2.dr nlg0 D2.well E3
    have N := wi.net (fun z => by rw [z] at gl1; exact absurd gl1 (by decide)) (by omega) (by omega) gok
    refine gn_norm (σ' := [some (.ref wl), some (.ref lg0), none, some (.ref lw0), none, none, none, none, none, none, none, none]) rfl ?_
    obtain ⟨gv, hgv, ga⟩ := id G3
    obtain ⟨wv, hwv, wa⟩ := id W3
    have hlg : gv.length = gs.length := ga.1
    have hlw : wv.length = ws.length := wa.1
    -- led
    refine ⟨_, rfl, lw0, rfl, ⟨_, SqL.of hwv⟩, fun ld hld => ?_⟩
    refine lc_list (K := K) (a := lw0) (xs := wv) (fun i Hc => Hc ld = some (.lst (leds (ws.take i))) ∧ Same H3 Hc) ⟨upd_same, same_new hld⟩ (fun i Hc _ ⟨_, sm⟩ => SqL.of (sm _ _ hwv)) ?_ ?_
    · rintro i v Hc hv ⟨hc, sm⟩
      obtain ⟨x, hx, a', b', rfl, sq1, sq2⟩ := wa.get hv
      have hi : i < ws.length := (List.getElem?_eq_some_iff.mp hx).1
      refine ⟨rfl, tyes ?_⟩
      refine ⟨_, rfl, a', _, 1, _, rfl, rfl, (TK.same sm).seq sq1, atI_nat (j := 1) rfl, _, hc, ?_, ?_, same_mut sm hld⟩
      · unfold leds
        rw [List.length_map, List.length_map]
        have := List.length_take_le i ws
        exact small1000 (by omega)
      · rw [upd_same, List.take_add_one, hx]
        unfold leds
        rw [List.map_append, List.map_append]
        rfl
    rintro H4 ⟨hd4, s4⟩
    rw [hlw, List.take_length] at hd4
    refine gn_norm (σ' := [some (.ref wl), some (.ref lg0), none, some (.ref lw0), none, some (.ref ld), none, none, none, none, none, none]) rfl ?_
    have hgv4 := s4 _ _ hgv
    -- firsts
    refine ⟨_, rfl, lg0, gv, rfl, .inl (SqL.of hgv4), _, rfl, by omega, by omega, fun l2 hl2 => ?_⟩
    rw [Int.toNat_natCast, hlg]
    have hl2H : H l2 = none := D3.free hw (s4.free hl2)
    have nl2 : l2 ≠ wl := (hw.ne hl2H).symm
    refine lc_range (lo := 0) (n := gs.length) (fun i Hc => ∃ acc, Hc l2 = some (.lst acc) ∧ acc.length = i ∧ All2 (GateV K Hc) acc ((fixG gs ws).take i) ∧ Same H4 Hc) ⟨[], upd_same, rfl, by simpa using All2.nil, same_new hl2⟩ ?_ ?_
    · rintro i Hc hi ⟨acc, hacc, hal, haa, sm⟩
      obtain ⟨_, hv, a, rfl, sq⟩ := ga.getR (List.getElem?_eq_getElem hi)
      have ei : (0 : Int) + ((i : Nat) : Int) = ((i : Nat) : Int) := Int.zero_add _
      rw [ei]
      have sqc := (TK.same (s4.trans sm)).seq sq
      have hgc := sm _ _ hgv4
      refine ⟨rfl, tyes ?_⟩
      refine ⟨_, rfl, _, rfl, lg0, gv, i, _, rfl, rfl, SqL.of hgc, atI_nat hv, a, _, 0, _, rfl, rfl, sqc, atI_nat (j := 0) rfl, (by show 2 ≤ sizeLine; decide), fun l6 hl6 => ?_⟩
      have s6 : Same Hc (upd Hc l6 (.lst [.str "sum", .str gs[i].1])) := same_new hl6
      have e6 : (upd Hc l6 (.lst [.str "sum", .str gs[i].1])) l6 = some (.lst [.str "sum", .str gs[i].1]) := upd_same
      have hdc := s6 _ _ (sm _ _ hd4)
      refine int_or (!decide (V.str gs[i].1 = V.str "first")) (inV (.int ((i : Nat) : Int)) (leds ws)) (fun Q' q' => ⟨_, rfl, _, rfl, lg0, gv, i, _, rfl, rfl, SqL.of (s6 _ _ hgc), atI_nat hv, a, _, 0, _, rfl, rfl, (TK.same s6).seq sqc, atI_nat (j := 0) rfl, rfl, q'⟩) (fun Q' q' => ⟨_, rfl, _, rfl, ld, leds ws, rfl, .inl (SqL.of hdc), rfl, flat_ints _, q'⟩) ?_
      have hki : kindAt gs i = gs[i].1 := kindAt_get (List.getElem?_eq_getElem hi)
      obtain ⟨j, ej, hj⟩ : ∃ j : Nat, (if (!decide (V.str gs[i].1 = V.str "first") || inV (.int ((i : Nat) : Int)) (leds ws)) = true then (1 : Int) else 0) = (j : Int) ∧ ([.str "sum", .str gs[i].1] : List V)[j]? = some (.str (fixK gs ws i)) := by
        by_cases h1 : gs[i].1 = "first"
        · by_cases h2 : cnt ws i = 0
          · refine ⟨0, ?_, ?_⟩
            · rw [if_neg]
              · rfl
              rw [Bool.or_eq_true, led_in]
              rintro (h | h)
              · rw [Bool.not_eq_true', decide_eq_false_iff_not] at h
                exact h (by rw [h1])
              · exact h h2
            · unfold fixK
              rw [if_pos ⟨hki.trans h1, h2⟩]
              rfl
          · refine ⟨1, ?_, ?_⟩
            · rw [if_pos]
              · rfl
              rw [Bool.or_eq_true, led_in]
              exact .inr h2
            · unfold fixK
              rw [if_neg (fun h => h2 h.2), hki]
              rfl
        · refine ⟨1, ?_, ?_⟩
          · rw [if_pos]
            · rfl
            rw [Bool.or_eq_true, Bool.not_eq_true', decide_eq_false_iff_not]
            exact .inl fun z => h1 (V.str.inj z)
          · unfold fixK
            rw [if_neg (fun h => h1 (hki.symm.trans h.1)), hki]
            rfl
      refine ⟨l6, _, (j : Int), .str (fixK gs ws i), rfl, by rw [ej], SqL.of e6, atI_nat hj, ?_⟩
      refine ⟨_, rfl, _, rfl, lg0, gv, i, _, rfl, rfl, SqL.of (s6 _ _ hgc), atI_nat hv, a, _, 1, _, rfl, rfl, (TK.same s6).seq sqc, atI_nat (j := 1) rfl, (by show 2 ≤ sizeLine; decide), fun p hp => ?_⟩
      have s7 := s6.trans (same_new (o := .tup [.str (fixK gs ws i), .int gs[i].2]) hp)
      refine ⟨acc, s7 _ _ hacc, small1000 (by omega), acc ++ [.ref p], upd_same, by rw [List.length_append, hal]; rfl, ?_, same_mut (sm.trans s7) hl2⟩
      rw [List.take_add_one, fixG_at hi]
      have e2 : (gs.getD i ("", 0)) = gs[i] := by rw [List.getD_eq_getElem?_getD, List.getElem?_eq_getElem hi]; rfl
      rw [e2]
      exact All2.pushT (fun t r => GateV.tk t r) haa (s7 _ _ hacc) (TK.same s7) ⟨p, rfl, .inl (.inl upd_same)⟩
    rintro H5 ⟨fv, hfv, hfl, hfa, s5⟩
    have fl := fixG_len gs ws
    rw [← fl, List.take_length] at hfa
    have D5 := D3.trans (Dr.ofSame D3.well (s4.trans s5))
    have hwv5 := (s4.trans s5) _ _ hwv
    have wa5 := wa.imp fun _ _ r => r.tk (TK.same (s4.trans s5))
    refine gn_norm (σ' := [some (.ref wl), some (.ref l2), none, some (.ref lw0), none, some (.ref ld), none, none, none, none, none, none]) rfl ?_
    -- turned about
    refine ⟨_, rfl, _, rfl, l2, fv, rfl, .inl (SqL.of hfv), wl, _, rfl, by omega, by omega, D5.well, fun d H6 d0 d1 E6 => ?_⟩
    obtain ⟨t, rfl⟩ : ∃ t : Nat, d = (t : Int) := ⟨d.toNat, by omega⟩
    have ht : t < gs.length := by omega
    have D6 := D5.trans E6
    have hfv6 := E6.but _ _ nl2 hfv
    have hfa6 := hfa.imp fun _ _ r => r.tk (TK.dr D5.well E6.but)
    have hwv6 := E6.but _ _ nlw0 hwv5
    have wa6 := wa5.imp fun _ _ r => r.tk (TK.dr D5.well E6.but)
    refine gn_norm (σ' := [some (.ref wl), some (.ref l2), none, some (.ref lw0), none, some (.ref ld), none, some (.int (t : Nat)), none, none, none, none]) rfl ?_
    refine ⟨_, rfl, lw0, rfl, ⟨_, SqL.of hwv6⟩, fun lw hlw' => ?_⟩
    have nlw : lw ≠ wl := (E6.well.ne hlw').symm
    have hlwH : H lw = none := D6.free hw hlw'
    refine lc_list (K := K) (a := lw0) (xs := wv) (fun i Hc => ∃ acc, Hc lw = some (.lst acc) ∧ acc.length = i ∧ All2 (WireV K Hc) acc ((ws.take i).map fun x => ((rotL gs.length (gs.length - t)).idxOf x.1, (rotL gs.length (gs.length - t)).idxOf x.2.1, x.2.2)) ∧ Same H6 Hc) ⟨[], upd_same, rfl, by simpa using All2.nil, same_new hlw'⟩ (fun i Hc _ ⟨_, _, _, _, sm⟩ => SqL.of (sm _ _ hwv6)) ?_ ?_
    · rintro i v Hc hv ⟨acc, hacc, hal, haa, sm⟩
      obtain ⟨x, hx, a', b', rfl, sq1, sq2⟩ := wa6.get hv
      have hi : i < ws.length := (List.getElem?_eq_some_iff.mp hx).1
      have WX := (wi.wok x (List.mem_of_getElem? hx)).1
      have tk := TK.same sm
      have hfc := sm _ _ hfv6
      refine ⟨a', _, rfl, tk.seq sq1, rfl, _, _, rfl, _, _, rfl, _, _, rfl, rfl, rfl, tyes ?_⟩
      refine ⟨_, rfl, _, rfl, _, _, rfl, rfl, _, rfl, l2, fv, rfl, .inl (SqL.of hfc), _, _, rfl, rfl, (by show (0 : Int) < ((fv.length : Nat) : Int); omega), ?_⟩
      refine ⟨_, rfl, _, rfl, _, _, rfl, rfl, _, rfl, l2, fv, rfl, .inl (SqL.of hfc), _, _, rfl, rfl, (by show (0 : Int) < ((fv.length : Nat) : Int); omega), _, rfl, (by show 3 ≤ sizeLine; decide), fun p hp => ?_⟩
      have sp : Same Hc (upd Hc p (.tup [.int ((((x.1 : Nat) : Int) + ((t : Nat) : Int)) % ((fv.length : Nat) : Int)), .int ((((x.2.1 : Nat) : Int) + ((t : Nat) : Int)) % ((fv.length : Nat) : Int)), .ref b'])) := same_new hp
      refine ⟨acc, sp _ _ hacc, small1000 (by omega), acc ++ [.ref p], upd_same, by simp [hal], ?_, same_mut (sm.trans sp) hlw'⟩
      rw [List.take_add_one, hx, List.map_append]
      refine All2.pushT (fun t r => WireV.tk t r) haa (sp _ _ hacc) (TK.same sp) ⟨p, b', rfl, .inl (.inl ?_), (TK.same (sm.trans sp)).seq sq2⟩
      rw [upd_same]
      show some (HO.tup [V.int _, V.int _, V.ref b']) = some (HO.tup [V.int _, V.int _, V.ref b'])
      rw [rot_on ht WX.s, rot_on ht WX.e, hfl]
    rintro H7 ⟨acc, hacc, hal, haa, s7⟩
    rw [hlw, List.take_length] at haa
    have D7 : Dr wl H H7 := D6.trans (Dr.ofSame D6.well s7)
    have hfv7 := s7 _ _ hfv6
    have hfa7 := hfa6.imp fun _ _ r => r.tk (TK.same s7)
    refine gn_norm (σ' := [some (.ref wl), some (.ref l2), none, some (.ref lw), none, some (.ref ld), none, some (.int (t : Nat)), none, none, none, none]) rfl ?_
    refine ⟨_, rfl, l2, fv, rfl, .inl (SqL.of hfv7), _, rfl, _, _, rfl, rfl, ?_⟩
    refine gn_norm (σ' := [some (.ref wl), some (.ref l2), none, some (.ref lw), none, some (.ref ld), none, some (.int (t : Nat)), none, none, none, some (.int ((gs.length - t : Nat) : Int))]) (by
      show [some (V.ref wl), some (V.ref l2), none, some (V.ref lw), none, some (V.ref ld), none, some (V.int (t : Nat)), none, none, none, some (V.int (((fv.length : Nat) : Int) - ((t : Nat) : Int)))] = _
      rw [hfl, show (((gs.length : Nat) : Int) - ((t : Nat) : Int)) = ((gs.length - t : Nat) : Int) by omega]) ?_
    have NA := N.anew (left := rotL gs.length (gs.length - t)) (by rw [fl]; exact rot_perm gs.length (gs.length - t)) (.refl ws)
    have rm := rot_map (gs := fixG gs ws) (gs.length - t)
    rw [fl] at rm
    rw [rm] at NA
    refine ⟨_, rfl, _, rfl, _, rfl, l2, fv, rfl, SqL.of hfv7, fun l6 hl6 => ?_⟩
    have s8 : Same H7 (upd H7 l6 (.lst (cutV fv (some ((gs.length - t : Nat) : Int)) none))) := same_new hl6
    have el6 : (upd H7 l6 (.lst (cutV fv (some ((gs.length - t : Nat) : Int)) none))) l6 = some (.lst (fv.drop (gs.length - t))) := by rw [upd_same, cut_from]
    generalize upd H7 l6 (.lst (cutV fv (some ((gs.length - t : Nat) : Int)) none)) = H8 at s8 el6
    refine ⟨_, rfl, _, rfl, _, rfl, l2, fv, rfl, SqL.of (s8 _ _ hfv7), fun l7 hl7 => ?_⟩
    have s9 : Same H8 (upd H8 l7 (.lst (cutV fv none (some ((gs.length - t : Nat) : Int))))) := same_new hl7
    have el7 : (upd H8 l7 (.lst (cutV fv none (some ((gs.length - t : Nat) : Int))))) l7 = some (.lst (fv.take (gs.length - t))) := by rw [upd_same, cut_to]
    generalize upd H8 l7 (.lst (cutV fv none (some ((gs.length - t : Nat) : Int)))) = H9 at s9 el7
    refine ⟨l6, l7, _, _, rfl, rfl, s9 _ _ el6, el7, ?_, fun l8 hl8 => ?_⟩
    · rw [List.length_drop, List.length_take]
      exact Nat.le_of_lt (small1000 (by omega))
    have s10 : Same H9 (upd H9 l8 (.lst (fv.drop (gs.length - t) ++ fv.take (gs.length - t)))) := same_new hl8
    have el8 : (upd H9 l8 (.lst (fv.drop (gs.length - t) ++ fv.take (gs.length - t)))) l8 = some (.lst (fv.drop (gs.length - t) ++ fv.take (gs.length - t))) := upd_same
    generalize upd H9 l8 (.lst (fv.drop (gs.length - t) ++ fv.take (gs.length - t))) = H10 at s10 el8
    have t10 := s8.trans (s9.trans s10)
    have hl8H : H l8 = none := D7.free hw ((s8.trans s9).free hl8)
    have nl8 : l8 ≠ lw := fun z => by
      rw [z, (s8.trans s9) _ _ hacc] at hl8
      cases hl8
    refine ⟨_, rfl, (by show 2 ≤ sizeLine; decide), fun p hp' => ?_⟩
    have s11 := t10.trans (same_new (o := .tup [.ref l8, .ref lw]) hp')
    have hfa11 := hfa7.imp fun _ _ r => r.tk (TK.same s11)
    refine q _ _ l8 lw p _ NA ?_ (by rw [List.length_map]; exact hwl) ?_ (D7.trans (Dr.ofSame D7.well s11)) hl8H hlwH nl8 ⟨_, same_new hp' _ _ el8, (hfa11.drop _).append (hfa11.take _)⟩ ⟨acc, s11 _ _ hacc, haa.imp fun _ _ r => r.tk (TK.same s11)⟩ upd_same
    · rw [List.length_append, List.length_drop, List.length_take, fl]
      omega
    · intro y hy
      obtain ⟨x, hx, rfl⟩ := List.mem_map.mp hy
      exact (wi.wok x hx).2
end
end Lag


set_option maxRecDepth 100000
set_option maxHeartbeats 8000000
namespace Lag
open PySem PySem.Spec PyProof.Rows L2
/-! ### the best ways from a gate: the mathematics -/
abbrev Cst := Int × Int
def gw (gs : List Gt) (g : Nat) : Int := (gs.getD g ("", 0)).2
/-- a way's cost, one wire longer -/
def addC (gs : List Gt) (c : Cst) (x : Wr) : Cst := (c.1 + ((x.2.2.length : Nat) : Int), c.2 - gw gs x.2.1)
def ltC (a b : Cst) : Prop := a.1 < b.1 ∨ (a.1 = b.1 ∧ a.2 < b.2)
instance (a b : Cst) : Decidable (ltC a b) := by unfold ltC; exact inferInstance
def leC (a b : Cst) : Prop := ¬ ltC b a
theorem leC.refl (a : Cst) : leC a a := fun h => by
  rcases h with h | h
  · omega
  · omega
theorem leC_iff {a b : Cst} : leC a b ↔ a.1 < b.1 ∨ (a.1 = b.1 ∧ a.2 ≤ b.2) := by
  unfold leC ltC
  omega
theorem leC.trans {a b c : Cst} (h : leC a b) (h' : leC b c) : leC a c := by
  rw [leC_iff] at *
  omega
theorem ltC.le {a b : Cst} (h : ltC a b) : leC a b := by
  rw [leC_iff]
  unfold ltC at h
  omega
theorem leC.add {gs : List Gt} {a b : Cst} (x : Wr) (h : leC a b) : leC (addC gs a x) (addC gs b x) := by
  rw [leC_iff] at *
  unfold addC
  show a.1 + _ < b.1 + _ ∨ (a.1 + _ = b.1 + _ ∧ a.2 - _ ≤ b.2 - _)
  omega
theorem leC.anti {a b : Cst} (h : leC a b) (h' : leC b a) : a = b := by
  rw [leC_iff] at *
  exact Prod.ext (by omega) (by omega)
abbrev Dst := Nat → Option Cst
def setD (D : Dst) (g : Nat) (c : Cst) : Dst := fun j => if j = g then some c else D j
/-- whether this wire betters what is known -/
def bet (gs : List Gt) (D : Dst) (x : Wr) : Prop := ∃ c, D x.1 = some c ∧ ∀ o, D x.2.1 = some o → ltC (addC gs c x) o
def rel (gs : List Gt) (D : Dst) (x : Wr) : Dst := match D x.1 with
  | none => D
  | some c => match D x.2.1 with
    | none => setD D x.2.1 (addC gs c x)
    | some o => if ltC (addC gs c x) o then setD D x.2.1 (addC gs c x) else D
theorem rel_none {gs : List Gt} {D : Dst} {x : Wr} (h : D x.1 = none) : rel gs D x = D := by
  unfold rel
  rw [h]
theorem rel_new {gs : List Gt} {D : Dst} {x : Wr} {c : Cst} (h : D x.1 = some c) (h2 : D x.2.1 = none) : rel gs D x = setD D x.2.1 (addC gs c x) := by
  unfold rel
  rw [h, h2]
theorem rel_old {gs : List Gt} {D : Dst} {x : Wr} {c o : Cst} (h : D x.1 = some c) (h2 : D x.2.1 = some o) : rel gs D x = if ltC (addC gs c x) o then setD D x.2.1 (addC gs c x) else D := by
  unfold rel
  rw [h, h2]
/-- no worse anywhere -/
def leD (D D' : Dst) : Prop := ∀ g c', D' g = some c' → ∃ c, D g = some c ∧ leC c c'
theorem leD.refl (D : Dst) : leD D D := fun g c h => ⟨c, h, leC.refl c⟩
theorem leD.trans {a b c : Dst} (h : leD a b) (h' : leD b c) : leD a c := fun g z hz => by
  obtain ⟨y, hy, h1⟩ := h' g z hz
  obtain ⟨x, hx, h2⟩ := h g y hy
  exact ⟨x, hx, h2.trans h1⟩
theorem rel_le (gs : List Gt) (D : Dst) (x : Wr) : leD (rel gs D x) D := by
  intro g c' hg
  cases h : D x.1 with
  | none =>
    rw [rel_none h]
    exact ⟨c', hg, leC.refl _⟩
  | some c =>
    cases h2 : D x.2.1 with
    | none =>
      rw [rel_new h h2]
      unfold setD
      by_cases e : g = x.2.1
      · rw [e, h2] at hg
        cases hg
      · rw [if_neg e]
        exact ⟨c', hg, leC.refl _⟩
    | some o =>
      rw [rel_old h h2]
      by_cases hl : ltC (addC gs c x) o
      · rw [if_pos hl]
        unfold setD
        by_cases e : g = x.2.1
        · rw [if_pos e]
          rw [e, h2] at hg
          cases hg
          exact ⟨_, rfl, hl.le⟩
        · rw [if_neg e]
          exact ⟨c', hg, leC.refl _⟩
      · rw [if_neg hl]
        exact ⟨c', hg, leC.refl _⟩
theorem rel_done {gs : List Gt} {D : Dst} {x : Wr} {c : Cst} (h : D x.1 = some c) : ∃ o, rel gs D x x.2.1 = some o ∧ leC o (addC gs c x) := by
  cases h2 : D x.2.1 with
  | none =>
    rw [rel_new h h2]
    unfold setD
    rw [if_pos rfl]
    exact ⟨_, rfl, leC.refl _⟩
  | some o =>
    rw [rel_old h h2]
    by_cases hl : ltC (addC gs c x) o
    · rw [if_pos hl]
      unfold setD
      rw [if_pos rfl]
      exact ⟨_, rfl, leC.refl _⟩
    · rw [if_neg hl]
      exact ⟨o, h2, hl⟩
def rnd (gs : List Gt) (ws : List Wr) (D : Dst) : Dst := ws.foldl (rel gs) D
theorem fold_le (gs : List Gt) : ∀ (ws : List Wr) (D : Dst), leD (ws.foldl (rel gs) D) D
  | [], D => leD.refl D
  | x :: ws, D => (fold_le gs ws (rel gs D x)).trans (rel_le gs D x)
theorem rnd_done (gs : List Gt) : ∀ (ws : List Wr) (D : Dst) (x : Wr) (c : Cst), x ∈ ws → D x.1 = some c → ∃ o, rnd gs ws D x.2.1 = some o ∧ leC o (addC gs c x)
  | [], _, _, _, h, _ => by cases h
  | y :: ws, D, x, c, h, hc => by
    show ∃ o, ws.foldl (rel gs) (rel gs D y) x.2.1 = some o ∧ _
    rcases List.mem_cons.mp h with e | h
    · subst e
      obtain ⟨o, ho, h1⟩ := rel_done (gs := gs) hc
      obtain ⟨o2, ho2, h2⟩ := fold_le gs ws _ _ _ ho
      exact ⟨o2, ho2, h2.trans h1⟩
    · obtain ⟨c2, hc2, h1⟩ := rel_le gs D y _ _ hc
      obtain ⟨o, ho, h2⟩ := rnd_done gs ws (rel gs D y) x c2 h hc2
      exact ⟨o, ho, h2.trans (h1.add x)⟩
def ini (gs : List Gt) (s : Nat) : Dst := fun g => if g = s then some (0, -gw gs s) else none
def rnds (gs : List Gt) (ws : List Wr) (s : Nat) : Nat → Dst
  | 0 => ini gs s
  | k + 1 => rnd gs ws (rnds gs ws s k)
/-- ways along wires: the gates come by, the last one ahead; what it costs -/
inductive Wk (gs : List Gt) (ws : List Wr) (s : Nat) : List Nat → Nat → Cst → Prop
  | nil : Wk gs ws s [s] s (0, -gw gs s)
  | cons {vs : List Nat} {u : Nat} {c : Cst} {x : Wr} : Wk gs ws s vs u c → x ∈ ws → x.1 = u → Wk gs ws s (x.2.1 :: vs) x.2.1 (addC gs c x)
/-- what is known is a way's cost -/
def Snd (gs : List Gt) (ws : List Wr) (s : Nat) (D : Dst) : Prop := ∀ g c, D g = some c → ∃ vs, Wk gs ws s vs g c
theorem Snd.ini (gs : List Gt) (ws : List Wr) (s : Nat) : Snd gs ws s (ini gs s) := fun g c h => by
  unfold Lag.ini at h
  by_cases e : g = s
  · rw [if_pos e] at h
    cases h
    rw [e]
    exact ⟨_, .nil⟩
  · rw [if_neg e] at h
    cases h
theorem Snd.set {gs : List Gt} {ws : List Wr} {s : Nat} {D : Dst} {x : Wr} {c : Cst} (h : Snd gs ws s D) (hx : x ∈ ws) (hc : D x.1 = some c) : Snd gs ws s (setD D x.2.1 (addC gs c x)) := fun g c' hg => by
  unfold setD at hg
  by_cases e : g = x.2.1
  · rw [if_pos e] at hg
    cases hg
    rw [e]
    obtain ⟨vs, hv⟩ := h _ _ hc
    exact ⟨_, .cons hv hx rfl⟩
  · rw [if_neg e] at hg
    exact h g c' hg
theorem Snd.rel {gs : List Gt} {ws : List Wr} {s : Nat} {D : Dst} {x : Wr} (h : Snd gs ws s D) (hx : x ∈ ws) : Snd gs ws s (rel gs D x) := by
  cases h1 : D x.1 with
  | none =>
    rw [rel_none h1]
    exact h
  | some c =>
    cases h2 : D x.2.1 with
    | none =>
      rw [rel_new h1 h2]
      exact h.set hx h1
    | some o =>
      rw [rel_old h1 h2]
      split
      · exact h.set hx h1
      · exact h
theorem Snd.fold {gs : List Gt} {ws : List Wr} {s : Nat} : ∀ {us : List Wr} {D : Dst}, (∀ x ∈ us, x ∈ ws) → Snd gs ws s D → Snd gs ws s (us.foldl (Lag.rel gs) D)
  | [], _, _, h => h
  | x :: us, D, hu, h => Snd.fold (us := us) (fun y hy => hu y (List.mem_cons_of_mem _ hy)) (h.rel (hu x (List.mem_cons_self ..)))
theorem Snd.rnds {gs : List Gt} {ws : List Wr} {s : Nat} : ∀ k, Snd gs ws s (rnds gs ws s k)
  | 0 => Snd.ini gs ws s
  | k + 1 => Snd.fold (fun _ h => h) (Snd.rnds k)
/-- after k rounds no way of so many wires is better -/
theorem Wk.comp {gs : List Gt} {ws : List Wr} {s : Nat} {vs : List Nat} {g : Nat} {c : Cst} (h : Wk gs ws s vs g c) : ∀ k, vs.length ≤ k + 1 → ∃ o, rnds gs ws s k g = some o ∧ leC o c := by
  induction h with
  | nil =>
    intro k _
    induction k with
    | zero => exact ⟨_, by unfold rnds ini; rw [if_pos rfl], leC.refl _⟩
    | succ k ih =>
      obtain ⟨o, ho, h1⟩ := ih (by simp)
      obtain ⟨o2, ho2, h2⟩ := fold_le gs ws _ _ _ ho
      exact ⟨o2, ho2, h2.trans h1⟩
  | @cons vs u c x hw hx hu ih =>
    intro k hk
    rw [List.length_cons] at hk
    cases k with
    | zero =>
      exfalso
      cases hw with
      | nil => simp at hk
      | cons _ _ _ => simp at hk
    | succ k =>
      obtain ⟨o, ho, h1⟩ := ih k (by omega)
      rw [← hu] at ho
      obtain ⟨o2, ho2, h2⟩ := rnd_done gs ws _ x o hx ho
      exact ⟨o2, ho2, h2.trans (h1.add x)⟩
/-- the way to a gate that was come by -/
theorem Wk.sub {gs : List Gt} {ws : List Wr} {s : Nat} {ρ : Nat → Nat} (hρ : ∀ x ∈ ws, x.2.2 = [] → ρ x.1 < ρ x.2.1) {vs : List Nat} {g : Nat} {c : Cst} (h : Wk gs ws s vs g c) :
    ∀ u ∈ vs, ∃ vs' c', Wk gs ws s vs' u c' ∧ vs' <:+ vs ∧ c'.1 ≤ c.1 ∧ (c'.1 = c.1 → ρ u ≤ ρ g) := by
  induction h with
  | nil =>
    intro u hu
    rw [List.mem_singleton.mp hu]
    exact ⟨_, _, .nil, List.suffix_refl _, Int.le_refl _, fun _ => Nat.le_refl _⟩
  | @cons vs v c x hw hx hv ih =>
    intro u hu
    rcases List.mem_cons.mp hu with e | hu
    · rw [e]
      exact ⟨_, _, .cons hw hx hv, List.suffix_refl _, Int.le_refl _, fun _ => Nat.le_refl _⟩
    · obtain ⟨vs', c', h1, h2, h3, h4⟩ := ih u hu
      refine ⟨vs', c', h1, h2.trans (List.suffix_cons ..), ?_, fun e => ?_⟩
      · show c'.1 ≤ c.1 + _
        omega
      · have e : c'.1 = c.1 + ((x.2.2.length : Nat) : Int) := e
        have hx0 : x.2.2 = [] := List.length_eq_zero_iff.mp (by omega)
        have h5 := h4 (by omega)
        have h6 := hρ x hx hx0
        rw [hv] at h6
        omega
/-- a way without a gate twice is as good -/
theorem Wk.simple {gs : List Gt} {ws : List Wr} {s : Nat} {ρ : Nat → Nat} (hρ : ∀ x ∈ ws, x.2.2 = [] → ρ x.1 < ρ x.2.1) {vs : List Nat} {g : Nat} {c : Cst} (h : Wk gs ws s vs g c) :
    ∃ vs' c', Wk gs ws s vs' g c' ∧ vs'.Nodup ∧ leC c' c := by
  induction h with
  | nil => exact ⟨_, _, .nil, by simp, leC.refl _⟩
  | @cons vs v c x hw hx hv ih =>
    obtain ⟨vs', c', h1, h2, h3⟩ := ih
    by_cases hm : x.2.1 ∈ vs'
    · obtain ⟨vs2, c2, k1, k2, k3, k4⟩ := h1.sub hρ _ hm
      refine ⟨vs2, c2, k1, h2.sublist k2.sublist, ?_⟩
      refine leC.trans (ltC.le ?_) (h3.add x)
      refine .inl ?_
      show c2.1 < c'.1 + _
      rcases Nat.eq_zero_or_pos x.2.2.length with h0 | h0
      · have hx0 : x.2.2 = [] := List.length_eq_zero_iff.mp h0
        have h6 := hρ x hx hx0
        rw [hv] at h6
        by_cases e : c2.1 = c'.1
        · have := k4 e
          omega
        · omega
      · omega
    · exact ⟨_, _, .cons h1 hx hv, List.nodup_cons.mpr ⟨hm, h2⟩, h3.add x⟩
theorem Wk.lows {gs : List Gt} {ws : List Wr} {s : Nat} (N : NetOk gs ws) (hs : s < gs.length) {vs : List Nat} {g : Nat} {c : Cst} (h : Wk gs ws s vs g c) : ∀ u ∈ vs, u < gs.length := by
  induction h with
  | nil =>
    intro u hu
    rw [List.mem_singleton.mp hu]
    exact hs
  | @cons vs v c x hw hx hv ih =>
    intro u hu
    rcases List.mem_cons.mp hu with e | hu
    · rw [e]
      exact (N.wok x hx).e
    · exact ih u hu
theorem svNodup_le {n : Nat} {l : List Nat} (hnd : l.Nodup) (hlt : ∀ e ∈ l, e < n) : l.length ≤ n := by
  have h2 := List.Nodup.length_le_of_subset hnd (l₂ := List.range n) (fun a ha => List.mem_range.mpr (hlt a ha))
  rw [List.length_range] at h2
  exact h2
/-- nothing is bettered any more -/
def Fix (gs : List Gt) (ws : List Wr) (D : Dst) : Prop := ∀ x ∈ ws, ¬ bet gs D x
theorem rel_fix {gs : List Gt} {D : Dst} {x : Wr} (h : ¬ bet gs D x) : rel gs D x = D := by
  cases h1 : D x.1 with
  | none => exact rel_none h1
  | some c =>
    cases h2 : D x.2.1 with
    | none => exact absurd ⟨c, h1, fun o ho => by rw [h2] at ho; cases ho⟩ h
    | some o =>
      rw [rel_old h1 h2, if_neg fun hl => h ⟨c, h1, fun o' ho => by rw [h2] at ho; cases ho; exact hl⟩]
theorem fold_fix {gs : List Gt} {D : Dst} : ∀ {ws : List Wr}, (∀ x ∈ ws, ¬ bet gs D x) → ws.foldl (rel gs) D = D
  | [], _ => rfl
  | x :: ws, h => by
    rw [List.foldl_cons, rel_fix (h x (List.mem_cons_self ..))]
    exact fold_fix fun y hy => h y (List.mem_cons_of_mem _ hy)
theorem rnds_fix {gs : List Gt} {ws : List Wr} {s : Nat} (N : NetOk gs ws) (hs : s < gs.length) {k : Nat} (hk : gs.length ≤ k + 1) : Fix gs ws (rnds gs ws s k) := by
  obtain ⟨ρ, hρ⟩ := N.rank
  rintro x hx ⟨c, hc, hb⟩
  obtain ⟨vs, hv⟩ := Snd.rnds (gs := gs) (ws := ws) (s := s) k _ _ hc
  obtain ⟨vs', c', h1, h2, h3⟩ := (Wk.cons hv hx rfl).simple hρ
  obtain ⟨o, ho, h4⟩ := h1.comp k (by have := svNodup_le h2 (h1.lows N hs); omega)
  exact h4.trans h3 (hb o ho)
theorem rnds_stay {gs : List Gt} {ws : List Wr} {s k : Nat} (h : Fix gs ws (rnds gs ws s k)) : ∀ j, rnds gs ws s (k + j) = rnds gs ws s k
  | 0 => rfl
  | j + 1 => by
    show rnd gs ws (rnds gs ws s (k + j)) = _
    rw [rnds_stay h j]
    exact fold_fix h
theorem rel_below {gs : List Gt} {ws : List Wr} (N : NetOk gs ws) {D : Dst} {x : Wr} (hx : x ∈ ws) (h : ∀ g c, D g = some c → g < gs.length) : ∀ g c, rel gs D x g = some c → g < gs.length := fun g c hg => by
  have st : ∀ c', setD D x.2.1 c' g = some c → g < gs.length := fun c' hs => by
    unfold setD at hs
    by_cases e : g = x.2.1
    · rw [e]
      exact (N.wok x hx).e
    · rw [if_neg e] at hs
      exact h g c hs
  cases h1 : D x.1 with
  | none =>
    rw [rel_none h1] at hg
    exact h g c hg
  | some d =>
    cases h2 : D x.2.1 with
    | none =>
      rw [rel_new h1 h2] at hg
      exact st _ hg
    | some o =>
      rw [rel_old h1 h2] at hg
      split at hg
      · exact st _ hg
      · exact h g c hg

theorem gw_get {gs : List Gt} {i : Nat} {g : Gt} (h : gs[i]? = some g) : gw gs i = g.2 := by
  unfold gw
  rw [List.getD_eq_getElem?_getD, h]
  rfl
theorem gw_nn {gs : List Gt} {ws : List Wr} (N : NetOk gs ws) (i : Nat) : 0 ≤ gw gs i := by
  unfold gw
  rw [List.getD_eq_getElem?_getD]
  cases e : gs[i]? with
  | none => exact Int.le_refl 0
  | some g => exact (N.gok g (List.mem_of_getElem? e)).2.1
/-! ### ways by their wires' places -/
def svW (ws : List Wr) (p : Nat) : Wr := ws.getD p (0, 0, [])
theorem svW_get {ws : List Wr} {p : Nat} {x : Wr} (h : ws[p]? = some x) : svW ws p = x := by
  unfold svW
  rw [List.getD_eq_getElem?_getD, h]
  rfl
def Pw (ws : List Wr) : Nat → List Nat → Nat → Prop
  | s, [], e => s = e
  | s, p :: r, e => ∃ x, ws[p]? = some x ∧ x.1 = s ∧ Pw ws x.2.1 r e
def prg (ws : List Wr) (ps : List Nat) : Int := (ps.map fun p => (((svW ws p).2.2.length : Nat) : Int)).sum
def pws (gs : List Gt) (ws : List Wr) (ps : List Nat) : Int := (ps.map fun p => gw gs (svW ws p).2.1).sum
def pwt (gs : List Gt) (ws : List Wr) (g : Nat) (ps : List Nat) : Int := gw gs g + pws gs ws ps
theorem sum_snoc (l : List Int) (a : Int) : (l ++ [a]).sum = l.sum + a := by
  rw [List.sum_append, List.sum_cons, List.sum_nil]
  omega
theorem prg_nil (ws : List Wr) : prg ws [] = 0 := rfl
theorem pws_nil (gs : List Gt) (ws : List Wr) : pws gs ws [] = 0 := rfl
theorem prg_cons {ws : List Wr} {p : Nat} {x : Wr} (h : ws[p]? = some x) (r : List Nat) : prg ws (p :: r) = ((x.2.2.length : Nat) : Int) + prg ws r := by
  unfold prg
  rw [List.map_cons, List.sum_cons, svW_get h]
theorem pws_cons {gs : List Gt} {ws : List Wr} {p : Nat} {x : Wr} (h : ws[p]? = some x) (r : List Nat) : pws gs ws (p :: r) = gw gs x.2.1 + pws gs ws r := by
  unfold pws
  rw [List.map_cons, List.sum_cons, svW_get h]
theorem prg_snoc {ws : List Wr} {p : Nat} {x : Wr} (h : ws[p]? = some x) (r : List Nat) : prg ws (r ++ [p]) = prg ws r + ((x.2.2.length : Nat) : Int) := by
  unfold prg
  rw [List.map_append]
  rw [← svW_get h]
  exact sum_snoc _ _
theorem pws_snoc {gs : List Gt} {ws : List Wr} {p : Nat} {x : Wr} (h : ws[p]? = some x) (r : List Nat) : pws gs ws (r ++ [p]) = pws gs ws r + gw gs x.2.1 := by
  unfold pws
  rw [List.map_append]
  rw [← svW_get h]
  exact sum_snoc _ _
theorem prg_app (ws : List Wr) (a b : List Nat) : prg ws (a ++ b) = prg ws a + prg ws b := by
  unfold prg
  rw [List.map_append, List.sum_append]
theorem pws_app (gs : List Gt) (ws : List Wr) (a b : List Nat) : pws gs ws (a ++ b) = pws gs ws a + pws gs ws b := by
  unfold pws
  rw [List.map_append, List.sum_append]
theorem prg_nn (ws : List Wr) : ∀ ps, 0 ≤ prg ws ps
  | [] => Int.le_refl 0
  | p :: r => by
    have := prg_nn ws r
    unfold prg at *
    rw [List.map_cons, List.sum_cons]
    omega
theorem pws_nn {gs : List Gt} {ws : List Wr} (N : NetOk gs ws) : ∀ ps, 0 ≤ pws gs ws ps
  | [] => Int.le_refl 0
  | p :: r => by
    have := pws_nn N r
    have := gw_nn N (svW ws p).2.1
    unfold pws at *
    rw [List.map_cons, List.sum_cons]
    omega
theorem Pw.app {ws : List Wr} : ∀ {a : List Nat} {s m e : Nat} {b : List Nat}, Pw ws s a m → Pw ws m b e → Pw ws s (a ++ b) e
  | [], _, _, _, _, h, h' => by
    have h : _ = _ := h
    rw [h]
    exact h'
  | p :: a, s, m, e, b, ⟨x, h1, h2, h3⟩, h' => ⟨x, h1, h2, Pw.app h3 h'⟩
theorem Pw.snoc {ws : List Wr} {s e p : Nat} {a : List Nat} {x : Wr} (h : Pw ws s a e) (hx : ws[p]? = some x) (hs : x.1 = e) : Pw ws s (a ++ [p]) x.2.1 :=
  Pw.app h ⟨x, hx, hs, rfl⟩
theorem Pw.split {ws : List Wr} : ∀ {a : List Nat} {s e : Nat} {b : List Nat}, Pw ws s (a ++ b) e → ∃ m, Pw ws s a m ∧ Pw ws m b e
  | [], s, e, b, h => ⟨s, rfl, h⟩
  | p :: a, s, e, b, ⟨x, h1, h2, h3⟩ => by
    obtain ⟨m, h4, h5⟩ := Pw.split h3
    exact ⟨m, ⟨x, h1, h2, h4⟩, h5⟩
theorem Pw.fn {ws : List Wr} : ∀ {a : List Nat} {s e e' : Nat}, Pw ws s a e → Pw ws s a e' → e = e'
  | [], s, e, e', h, h' => by
    have h : s = e := h
    have h' : s = e' := h'
    omega
  | p :: a, s, e, e', ⟨x, h1, h2, h3⟩, ⟨y, k1, k2, k3⟩ => by
    rw [h1] at k1
    cases k1
    exact Pw.fn h3 k3
theorem Pw.lt {gs : List Gt} {ws : List Wr} (N : NetOk gs ws) : ∀ {a : List Nat} {s e : Nat}, s < gs.length → Pw ws s a e → e < gs.length
  | [], s, e, hs, h => by
    have h : s = e := h
    omega
  | p :: a, s, e, hs, ⟨x, h1, h2, h3⟩ => Pw.lt N (N.wok x (List.mem_of_getElem? h1)).e h3
theorem Pw.places {ws : List Wr} : ∀ {a : List Nat} {s e : Nat}, Pw ws s a e → ∀ p ∈ a, p < ws.length
  | [], _, _, _, p, h => by cases h
  | q :: a, s, e, ⟨x, h1, h2, h3⟩, p, h => by
    rcases List.mem_cons.mp h with h | h
    · rw [h]
      exact (List.getElem?_eq_some_iff.mp h1).1
    · exact Pw.places h3 p h
theorem Wk.pw {gs : List Gt} {ws : List Wr} {s : Nat} {vs : List Nat} {g : Nat} {c : Cst} (h : Wk gs ws s vs g c) : ∃ ps, Pw ws s ps g ∧ c = (prg ws ps, -pwt gs ws s ps) := by
  induction h with
  | nil => exact ⟨[], rfl, by unfold pwt; rw [pws_nil, prg_nil, Int.add_zero]⟩
  | @cons vs u c x hw hx hu ih =>
    obtain ⟨ps, h1, h2⟩ := ih
    obtain ⟨p, hp⟩ := List.getElem?_of_mem hx
    refine ⟨ps ++ [p], h1.snoc hp hu, ?_⟩
    rw [h2]
    unfold addC pwt
    rw [prg_snoc hp, pws_snoc hp]
    refine Prod.ext rfl ?_
    show -(gw gs s + pws gs ws ps) - gw gs x.2.1 = -(gw gs s + (pws gs ws ps + gw gs x.2.1))
    omega
theorem Pw.wk {gs : List Gt} {ws : List Wr} {s : Nat} : ∀ {ps : List Nat} {u g : Nat} {vs : List Nat} {c : Cst}, Wk gs ws s vs u c → Pw ws u ps g → ∃ vs', Wk gs ws s vs' g (c.1 + prg ws ps, c.2 - pws gs ws ps)
  | [], u, g, vs, c, hw, h => by
    have h : u = g := h
    subst h
    refine ⟨vs, ?_⟩
    rw [prg_nil, pws_nil, Int.add_zero, Int.sub_zero]
    exact hw
  | p :: ps, u, g, vs, c, hw, ⟨x, h1, h2, h3⟩ => by
    obtain ⟨vs', h4⟩ := Pw.wk (Wk.cons hw (List.mem_of_getElem? h1) h2) h3
    refine ⟨vs', ?_⟩
    rw [prg_cons h1, pws_cons h1]
    have e : ((addC gs c x).1 + prg ws ps, (addC gs c x).2 - pws gs ws ps) = (c.1 + (((x.2.2.length : Nat) : Int) + prg ws ps), c.2 - (gw gs x.2.1 + pws gs ws ps)) := by
      refine Prod.ext ?_ ?_
      · show c.1 + _ + _ = _
        omega
      · show c.2 - _ - _ = _
        omega
    rw [← e]
    exact h4
/-! ### the best ways -/
def best (gs : List Gt) (ws : List Wr) (s : Nat) : Dst := rnds gs ws s gs.length
section
variable {gs : List Gt} {ws : List Wr} {s : Nat}
theorem best_fix (N : NetOk gs ws) (hs : s < gs.length) : Fix gs ws (best gs ws s) := rnds_fix N hs (Nat.le_succ _)
theorem best_way {g : Nat} {c : Cst} (h : best gs ws s g = some c) : ∃ ps, Pw ws s ps g ∧ c = (prg ws ps, -pwt gs ws s ps) := by
  obtain ⟨vs, hv⟩ := Snd.rnds (gs := gs) (ws := ws) (s := s) gs.length g c h
  exact hv.pw
theorem best_le (N : NetOk gs ws) (hs : s < gs.length) {ps : List Nat} {g : Nat} (h : Pw ws s ps g) : ∃ c, best gs ws s g = some c ∧ leC c (prg ws ps, -pwt gs ws s ps) := by
  obtain ⟨ρ, hρ⟩ := N.rank
  obtain ⟨vs, hv⟩ := Pw.wk (gs := gs) (Wk.nil (gs := gs) (ws := ws) (s := s)) h
  obtain ⟨vs', c', h1, h2, h3⟩ := hv.simple hρ
  obtain ⟨o, ho, h4⟩ := h1.comp gs.length (by have := svNodup_le h2 (h1.lows N hs); omega)
  refine ⟨o, ho, h4.trans ?_⟩
  have e : ((0 : Int) + prg ws ps, -gw gs s - pws gs ws ps) = (prg ws ps, -pwt gs ws s ps) := by
    unfold pwt
    refine Prod.ext ?_ ?_
    · show (0 : Int) + _ = _
      omega
    · show -gw gs s - pws gs ws ps = -(gw gs s + pws gs ws ps)
      omega
  rw [← e]
  exact h3
theorem best_lt (N : NetOk gs ws) (hs : s < gs.length) {g : Nat} {c : Cst} (h : best gs ws s g = some c) : g < gs.length := by
  obtain ⟨ps, h1, _⟩ := best_way h
  exact h1.lt N hs
theorem best_nn {g : Nat} {c : Cst} (h : best gs ws s g = some c) : 0 ≤ c.1 := by
  obtain ⟨ps, _, e⟩ := best_way h
  rw [e]
  exact prg_nn ws ps
/-- no ring without registers -/
theorem ring_regs {ρ : Nat → Nat} (hρ : ∀ x ∈ ws, x.2.2 = [] → ρ x.1 < ρ x.2.1) : ∀ {ps : List Nat} {u g : Nat}, Pw ws u ps g → prg ws ps = 0 → ρ u + ps.length ≤ ρ g
  | [], u, g, h, _ => by
    have h : u = g := h
    rw [h]
    exact Nat.le_refl _
  | p :: ps, u, g, ⟨x, h1, h2, h3⟩, h0 => by
    rw [prg_cons h1] at h0
    have := prg_nn ws ps
    have hx0 : x.2.2 = [] := List.length_eq_zero_iff.mp (by omega)
    have h4 := ring_regs hρ h3 (by omega)
    have h5 := hρ x (List.mem_of_getElem? h1) hx0
    rw [h2] at h5
    rw [List.length_cons]
    omega
theorem rnds_s (N : NetOk gs ws) : ∀ k, rnds gs ws s k s = some (0, -gw gs s) := fun k => by
  obtain ⟨c, hc, hle⟩ : ∃ c, rnds gs ws s k s = some c ∧ leC c (0, -gw gs s) := (Wk.nil (gs := gs) (ws := ws) (s := s)).comp k (by simp)
  obtain ⟨vs, hv⟩ := Snd.rnds (gs := gs) (ws := ws) (s := s) k s c hc
  obtain ⟨ps, h1, h2⟩ := hv.pw
  obtain ⟨ρ, hρ⟩ := N.rank
  rw [hc]
  rw [leC_iff] at hle
  subst h2
  have h3 := prg_nn ws ps
  have h0 : prg ws ps = 0 := by
    rcases hle with h | h
    · have h : prg ws ps < 0 := h
      omega
    · exact h.1
  have h4 := ring_regs hρ h1 h0
  have h5 : ps = [] := List.length_eq_zero_iff.mp (by omega)
  subst h5
  unfold pwt
  rw [prg_nil, pws_nil, Int.add_zero]
end
/-! ### the last wires of the best ways -/
structure LaI (gs : List Gt) (ws : List Wr) (s : Nat) (D : Dst) (La : List (Option Nat)) : Prop where
  len : La.length = gs.length
  at_ : La.getD s none = none
  la : ∀ g c, g ≠ s → D g = some c → ∃ p x c', La.getD g none = some p ∧ ws[p]? = some x ∧ x.2.1 = g ∧ D x.1 = some c' ∧ leC (addC gs c' x) c
theorem getD_setL {l : List (Option Nat)} {e g : Nat} {v d : Option Nat} (h : e < l.length) : (l.set e v).getD g d = if g = e then v else l.getD g d := by
  rw [List.getD_eq_getElem?_getD, List.getElem?_set]
  by_cases he : e = g
  · subst he
    rw [if_pos rfl, if_pos rfl, if_pos h]
    rfl
  · rw [if_neg he, if_neg (fun z => he z.symm), List.getD_eq_getElem?_getD]
theorem LaI.ini (gs : List Gt) (ws : List Wr) (s : Nat) : LaI gs ws s (Lag.ini gs s) (List.replicate gs.length none) := by
  have nn : ∀ g, (List.replicate gs.length (none : Option Nat)).getD g none = none := fun g => by
    rw [List.getD_eq_getElem?_getD, List.getElem?_replicate]
    split <;> rfl
  refine ⟨List.length_replicate .., nn s, fun g c hg h => ?_⟩
  unfold Lag.ini at h
  rw [if_neg hg] at h
  cases h
/-- the fold's first j wires, one more -/
theorem fold_succ {gs : List Gt} {ws : List Wr} {D : Dst} {j : Nat} {x : Wr} (hx : ws[j]? = some x) : (ws.take (j + 1)).foldl (Lag.rel gs) D = Lag.rel gs ((ws.take j).foldl (Lag.rel gs) D) x := by
  rw [List.take_add_one, hx, List.foldl_append]
  rfl
theorem rel_bet {gs : List Gt} {D : Dst} {x : Wr} {c : Cst} (h : D x.1 = some c) (hb : ∀ o, D x.2.1 = some o → ltC (addC gs c x) o) : Lag.rel gs D x = setD D x.2.1 (addC gs c x) := by
  cases h2 : D x.2.1 with
  | none => exact rel_new h h2
  | some o => rw [rel_old h h2, if_pos (hb o h2)]
theorem LaI.set {gs : List Gt} {ws : List Wr} {s : Nat} {D : Dst} {La : List (Option Nat)} {x : Wr} {c : Cst} {p : Nat} (N : NetOk gs ws) (h : LaI gs ws s D La) (hp : ws[p]? = some x) (hc : D x.1 = some c) (hb : ∀ o, D x.2.1 = some o → ltC (addC gs c x) o) (hs : D s = some (0, -gw gs s)) (S : Snd gs ws s D) :
    LaI gs ws s (setD D x.2.1 (addC gs c x)) (La.set x.2.1 (some p)) := by
  have W := N.wok x (List.mem_of_getElem? hp)
  have hl : x.2.1 < La.length := by rw [h.len]; exact W.e
  obtain ⟨ρ, hρ⟩ := N.rank
  have hne : x.2.1 ≠ s := fun e => by
    have h1 := hb (0, -gw gs s) (by rw [e]; exact hs)
    obtain ⟨vs, hv⟩ := S _ _ hc
    obtain ⟨ps, h2, h3⟩ := hv.pw
    have h4 : Pw ws s (ps ++ [p]) x.2.1 := h2.snoc hp rfl
    rw [e] at h4
    have hn := prg_nn ws ps
    have hlt : prg ws (ps ++ [p]) = 0 := by
      rw [prg_snoc hp]
      unfold ltC addC at h1
      rw [h3] at h1
      have h1' : prg ws ps + ((x.2.2.length : Nat) : Int) < 0 ∨ (prg ws ps + ((x.2.2.length : Nat) : Int) = 0 ∧ _) := h1
      rcases h1' with h1' | h1'
      · omega
      · exact h1'.1
    have h5 := ring_regs hρ h4 hlt
    rw [List.length_append, List.length_singleton] at h5
    omega
  refine ⟨by rw [List.length_set]; exact h.len, ?_, fun g c2 hg h2 => ?_⟩
  · rw [getD_setL hl, if_neg fun e => hne e.symm]
    exact h.at_
  have nx : x.1 ≠ x.2.1 := fun e => by
    have h1 := hb c (by rw [← e]; exact hc)
    rcases h1 with h1 | h1
    · have h1 : c.1 + ((x.2.2.length : Nat) : Int) < c.1 := h1
      omega
    · have h1 : c.1 + ((x.2.2.length : Nat) : Int) = c.1 := h1.1
      have hx0 : x.2.2 = [] := List.length_eq_zero_iff.mp (by omega)
      have := hρ x (List.mem_of_getElem? hp) hx0
      rw [e] at this
      omega
  rw [getD_setL hl]
  unfold setD at h2
  by_cases e : g = x.2.1
  · rw [if_pos e] at h2
    cases h2
    refine ⟨p, x, c, by rw [if_pos e], hp, e.symm, ?_, leC.refl _⟩
    unfold setD
    rw [if_neg nx]
    exact hc
  · rw [if_neg e] at h2
    obtain ⟨p', x', c', k1, k2, k3, k4, k5⟩ := h.la g c2 hg h2
    unfold setD
    by_cases e2 : x'.1 = x.2.1
    · refine ⟨p', x', addC gs c x, by rw [if_neg e]; exact k1, k2, k3, by rw [if_pos e2], ?_⟩
      rw [e2] at k4
      exact ((hb c' k4).le.add x').trans k5
    · exact ⟨p', x', c', by rw [if_neg e]; exact k1, k2, k3, by rw [if_neg e2]; exact k4, k5⟩
theorem LaI.eq {gs : List Gt} {ws : List Wr} {s : Nat} {D : Dst} {La : List (Option Nat)} (h : LaI gs ws s D La) (F : Fix gs ws D) {g : Nat} {c : Cst} (hg : g ≠ s) (hc : D g = some c) :
    ∃ p x c', La.getD g none = some p ∧ ws[p]? = some x ∧ x.2.1 = g ∧ D x.1 = some c' ∧ addC gs c' x = c := by
  obtain ⟨p, x, c', k1, k2, k3, k4, k5⟩ := h.la g c hg hc
  refine ⟨p, x, c', k1, k2, k3, k4, leC.anti k5 fun hl => F x (List.mem_of_getElem? k2) ⟨c', k4, fun o ho => ?_⟩⟩
  rw [k3, hc] at ho
  cases ho
  exact hl
/-- the way back by the last wires -/
inductive Bk (ws : List Wr) (La : List (Option Nat)) : Nat → List Nat → Nat → Prop
  | nil {g : Nat} : La.getD g none = none → Bk ws La g [] g
  | cons {g p s : Nat} {x : Wr} {ps : List Nat} : La.getD g none = some p → ws[p]? = some x → x.2.1 = g → Bk ws La x.1 ps s → Bk ws La g (p :: ps) s
theorem Bk.pw {ws : List Wr} {La : List (Option Nat)} {g s : Nat} {ps : List Nat} (h : Bk ws La g ps s) : Pw ws s ps.reverse g := by
  induction h with
  | nil _ => exact rfl
  | @cons g p s x ps h1 h2 h3 _ ih =>
    rw [List.reverse_cons, ← h3]
    exact ih.snoc h2 rfl
/-- a lexicographic measure of a gate -/
def lt2 (a b : Nat × Nat) : Prop := a.1 < b.1 ∨ (a.1 = b.1 ∧ a.2 < b.2)
theorem LaI.back {gs : List Gt} {ws : List Wr} {s : Nat} {D : Dst} {La : List (Option Nat)} (N : NetOk gs ws) (h : LaI gs ws s D La) (F : Fix gs ws D) (hs : D s = some (0, -gw gs s)) (hsl : s < gs.length) (hn : ∀ g c, D g = some c → 0 ≤ c.1) (hlt : ∀ g c, D g = some c → g < gs.length)
    {ρ : Nat → Nat} (hρ : ∀ x ∈ ws, x.2.2 = [] → ρ x.1 < ρ x.2.1) : ∀ (m r g : Nat) (c : Cst), D g = some c → c.1.toNat = m → ρ g = r →
    ∃ (ps vs : List Nat), Bk ws La g ps s ∧ vs.length = ps.length + 1 ∧ vs.Nodup ∧ (∀ v ∈ vs, ∃ c', D v = some c' ∧ (c'.1 < c.1 ∨ (c'.1 = c.1 ∧ ρ v ≤ r))) ∧ c = (prg ws ps.reverse, -pwt gs ws s ps.reverse) := by
  intro m
  induction m using Nat.strongRecOn with
  | ind m ihm =>
    intro r
    induction r using Nat.strongRecOn with
    | ind r ihr =>
      intro g c hc hm hr
      by_cases hg : g = s
      · subst hg
        rw [hs] at hc
        cases hc
        refine ⟨[], [g], .nil h.at_, rfl, by simp, fun v hv => ?_, ?_⟩
        · rw [List.mem_singleton.mp hv]
          exact ⟨_, hs, .inr ⟨rfl, by omega⟩⟩
        · show _ = (prg ws [], -pwt gs ws g [])
          unfold pwt
          rw [prg_nil, pws_nil, Int.add_zero]
      · obtain ⟨p, x, c', k1, k2, k3, k4, k5⟩ := h.eq F hg hc
        have n0 := hn _ _ k4
        have e1 : c'.1 + ((x.2.2.length : Nat) : Int) = c.1 := by rw [← k5]; rfl
        have step : ∃ (ps vs : List Nat), Bk ws La x.1 ps s ∧ vs.length = ps.length + 1 ∧ vs.Nodup ∧ (∀ v ∈ vs, ∃ c2, D v = some c2 ∧ (c2.1 < c'.1 ∨ (c2.1 = c'.1 ∧ ρ v ≤ ρ x.1))) ∧ c' = (prg ws ps.reverse, -pwt gs ws s ps.reverse) := by
          by_cases h0 : x.2.2 = []
          · have hlr := hρ x (List.mem_of_getElem? k2) h0
            rw [h0] at e1
            have e2 : c'.1 = c.1 := by
              have : ((([] : List Int).length : Nat) : Int) = 0 := rfl
              omega
            exact ihr (ρ x.1) (by rw [← hr, ← k3]; exact hlr) x.1 c' k4 (by rw [e2]; exact hm) rfl
          · have hp : 0 < x.2.2.length := List.length_pos_iff.mpr h0
            exact ihm c'.1.toNat (by omega) (ρ x.1) x.1 c' k4 rfl rfl
        obtain ⟨ps, vs, b1, b2, b3, b4, b5⟩ := step
        have le : ∀ v ∈ vs, ∃ c2, D v = some c2 ∧ (c2.1 < c.1 ∨ (c2.1 = c.1 ∧ ρ v < ρ g)) := fun v hv => by
          obtain ⟨c2, h1, h2⟩ := b4 v hv
          refine ⟨c2, h1, ?_⟩
          by_cases h0 : x.2.2 = []
          · have hlr := hρ x (List.mem_of_getElem? k2) h0
            rw [k3] at hlr
            have : ((x.2.2.length : Nat) : Int) = 0 := by rw [h0]; rfl
            omega
          · have hp : 0 < x.2.2.length := List.length_pos_iff.mpr h0
            omega
        refine ⟨p :: ps, g :: vs, .cons k1 k2 k3 b1, by rw [List.length_cons, List.length_cons, b2], List.nodup_cons.mpr ⟨fun hm => ?_, b3⟩, fun v hv => ?_, ?_⟩
        · obtain ⟨c2, h1, h2⟩ := le g hm
          rw [hc] at h1
          cases h1
          omega
        · rcases List.mem_cons.mp hv with e | hv
          · rw [e]
            exact ⟨c, hc, .inr ⟨rfl, by omega⟩⟩
          · obtain ⟨c2, h1, h2⟩ := le v hv
            refine ⟨c2, h1, ?_⟩
            omega
        · rw [List.reverse_cons, ← k5, b5]
          unfold addC pwt
          rw [prg_snoc k2, pws_snoc k2]
          refine Prod.ext rfl ?_
          show -(gw gs s + pws gs ws ps.reverse) - gw gs x.2.1 = -(gw gs s + (pws gs ws ps.reverse + gw gs x.2.1))
          omega
/-- what best_from tells as last wires -/
def LaOk (gs : List Gt) (ws : List Wr) (s : Nat) (La : List (Option Nat)) : Prop := La.length = gs.length ∧ ∀ g c, best gs ws s g = some c → ∃ ps, Bk ws La g ps s ∧ c = (prg ws ps.reverse, -pwt gs ws s ps.reverse) ∧ ps.length < gs.length
theorem LaI.ok {gs : List Gt} {ws : List Wr} {s k : Nat} {La : List (Option Nat)} (N : NetOk gs ws) (hs : s < gs.length) (hk : k ≤ gs.length) (F : Fix gs ws (rnds gs ws s k)) (h : LaI gs ws s (rnds gs ws s k) La) : LaOk gs ws s La ∧ rnds gs ws s k = best gs ws s := by
  have e : best gs ws s = rnds gs ws s k := by
    unfold best
    obtain ⟨j, hj⟩ : ∃ j, gs.length = k + j := ⟨gs.length - k, by omega⟩
    rw [hj]
    exact rnds_stay F j
  rw [← e] at F h ⊢
  refine ⟨⟨h.len, fun g c hc => ?_⟩, rfl⟩
  obtain ⟨ρ, hρ⟩ := N.rank
  obtain ⟨ps, vs, h1, h2, h3, h4, h5⟩ := h.back N F (by unfold best; exact rnds_s N _) hs (fun g c h => best_nn h) (fun g c h => best_lt N hs h) hρ _ _ g c hc rfl rfl
  refine ⟨ps, h1, h5, ?_⟩
  have := svNodup_le h3 fun v hv => by
    obtain ⟨c2, h6, _⟩ := h4 v hv
    exact best_lt N hs h6
  omega
end Lag


set_option maxRecDepth 100000
set_option maxHeartbeats 8000000
namespace Lag
open PySem PySem.Spec PyProof.Rows L2
/-! ### bounds, and numbers that keep to them: the mathematics -/
abbrev Bnd := Nat × Nat × Int
def bAt (bs : List Bnd) (j : Nat) : Bnd := bs.getD j (0, 0, 0)
theorem bAt_get {bs : List Bnd} {j : Nat} {b : Bnd} (h : bs[j]? = some b) : bAt bs j = b := by
  unfold bAt
  rw [List.getD_eq_getElem?_getD, h]
  rfl
/-- a row of bounds that follows what O tells of each place -/
def PtO (bs : List Bnd) (O : Nat → Option Nat) : Nat → List Nat → Nat → Prop
  | s, [], e => s = e
  | s, j :: r, e => O s = some j ∧ ∃ b, bs[j]? = some b ∧ b.1 = s ∧ PtO bs O b.2.1 r e
/-- a row of bounds -/
def PtB (bs : List Bnd) : Nat → List Nat → Nat → Prop
  | s, [], e => s = e
  | s, j :: r, e => ∃ b, bs[j]? = some b ∧ b.1 = s ∧ PtB bs b.2.1 r e
def rsum (bs : List Bnd) (js : List Nat) : Int := (js.map fun j => (bAt bs j).2.2).sum
theorem rsum_cons {bs : List Bnd} {j : Nat} {b : Bnd} (h : bs[j]? = some b) (r : List Nat) : rsum bs (j :: r) = b.2.2 + rsum bs r := by
  unfold rsum
  rw [List.map_cons, List.sum_cons, bAt_get h]
theorem rsum_app (bs : List Bnd) (a b : List Nat) : rsum bs (a ++ b) = rsum bs a + rsum bs b := by
  unfold rsum
  rw [List.map_append, List.sum_append]
theorem PtO.ptB {bs : List Bnd} {O : Nat → Option Nat} : ∀ {js : List Nat} {s e : Nat}, PtO bs O s js e → PtB bs s js e
  | [], _, _, h => h
  | j :: r, s, e, ⟨_, b, h1, h2, h3⟩ => ⟨b, h1, h2, PtO.ptB h3⟩
theorem PtO.app {bs : List Bnd} {O : Nat → Option Nat} : ∀ {a : List Nat} {s m e : Nat} {b : List Nat}, PtO bs O s a m → PtO bs O m b e → PtO bs O s (a ++ b) e
  | [], _, _, _, _, h, h' => by
    have h : _ = _ := h
    rw [h]
    exact h'
  | j :: a, s, m, e, b, ⟨h0, x, h1, h2, h3⟩, h' => ⟨h0, x, h1, h2, PtO.app h3 h'⟩
theorem PtO.split {bs : List Bnd} {O : Nat → Option Nat} : ∀ {a : List Nat} {s e : Nat} {b : List Nat}, PtO bs O s (a ++ b) e → ∃ m, PtO bs O s a m ∧ PtO bs O m b e
  | [], s, e, b, h => ⟨s, rfl, h⟩
  | j :: a, s, e, b, ⟨h0, x, h1, h2, h3⟩ => by
    obtain ⟨m, h4, h5⟩ := PtO.split h3
    exact ⟨m, ⟨h0, x, h1, h2, h4⟩, h5⟩
theorem PtO.snoc {bs : List Bnd} {O : Nat → Option Nat} {s e j : Nat} {a : List Nat} {b : Bnd} (h : PtO bs O s a e) (h0 : O e = some j) (hb : bs[j]? = some b) (hs : b.1 = e) : PtO bs O s (a ++ [j]) b.2.1 :=
  PtO.app h ⟨h0, b, hb, hs, rfl⟩
theorem PtB.app {bs : List Bnd} : ∀ {a : List Nat} {s m e : Nat} {b : List Nat}, PtB bs s a m → PtB bs m b e → PtB bs s (a ++ b) e
  | [], _, _, _, _, h, h' => by
    have h : _ = _ := h
    rw [h]
    exact h'
  | j :: a, s, m, e, b, ⟨x, h1, h2, h3⟩, h' => ⟨x, h1, h2, PtB.app h3 h'⟩
def updO (O : Nat → Option Nat) (s j : Nat) : Nat → Option Nat := fun v => if v = s then some j else O v
/-- the first time that the new bound is gone along -/
theorem PtO.old {bs : List Bnd} {O : Nat → Option Nat} {s j : Nat} {b : Bnd} (hb : bs[j]? = some b) : ∀ {js : List Nat} {u v : Nat}, PtO bs (updO O s j) u js v →
    PtO bs O u js v ∨ ∃ a c, js = a ++ j :: c ∧ PtO bs O u a s ∧ PtO bs (updO O s j) u a s ∧ PtO bs (updO O s j) b.2.1 c v
  | [], u, v, h => .inl h
  | i :: r, u, v, ⟨h0, x, h1, h2, h3⟩ => by
    by_cases hu : u = s
    · have h0' : i = j := by
        unfold updO at h0
        rw [if_pos hu] at h0
        exact (Option.some.inj h0).symm
      subst h0'
      rw [hb] at h1
      cases h1
      exact .inr ⟨[], r, rfl, hu, hu, h3⟩
    · have h0' : O u = some i := by
        unfold updO at h0
        rw [if_neg hu] at h0
        exact h0
      rcases PtO.old hb h3 with h4 | ⟨a, c, e, h4, h5, h6⟩
      · exact .inl ⟨h0', x, h1, h2, h4⟩
      · exact .inr ⟨i :: a, c, by rw [e]; rfl, ⟨h0', x, h1, h2, h4⟩, ⟨h0, x, h1, h2, h5⟩, h6⟩
/-- what holds in round t, behind the first j bounds: F the numbers, O the bound of the last change, T its round -/
structure SI (bs : List Bnd) (n : Nat) (F : Nat → Int) (O : Nat → Option Nat) (T : Nat → Nat) (t j : Nat) : Prop where
  non : ∀ v, O v = none → T v = 0 ∧ F v = 0
  on : ∀ v i, O v = some i → v < n ∧ ∃ b, bs[i]? = some b ∧ b.1 = v ∧ F b.2.1 + b.2.2 ≤ F v ∧ T v ≤ T b.2.1 + 1
  ok : ∀ i b, bs[i]? = some b → F b.1 ≤ F b.2.1 + b.2.2 ∨ (if i < j then t else t - 1) ≤ T b.2.1
  cyc : ∀ v js, js ≠ [] → PtO bs O v js v → rsum bs js < 0
  le0 : ∀ v, F v ≤ 0
  tle : ∀ v, T v ≤ t
theorem SI.low {bs : List Bnd} {n : Nat} {F : Nat → Int} {O : Nat → Option Nat} {T : Nat → Nat} {t j : Nat} (h : SI bs n F O T t j) : ∀ {js : List Nat} {u v : Nat}, PtO bs O u js v → F v + rsum bs js ≤ F u
  | [], u, v, e => by
    have e : u = v := e
    rw [e]
    show F v + 0 ≤ F v
    omega
  | i :: r, u, v, ⟨h0, x, h1, h2, h3⟩ => by
    have h4 := SI.low h h3
    obtain ⟨_, b, h5, h6, h7, _⟩ := h.on u i h0
    rw [h1] at h5
    cases h5
    rw [rsum_cons h1]
    omega
theorem SI.start (bs : List Bnd) (n : Nat) : SI bs n (fun _ => 0) (fun _ => none) (fun _ => 0) 1 0 :=
  ⟨fun v _ => ⟨rfl, rfl⟩, fun v i h => (nomatch h), fun i b _ => .inr (by
    rw [if_neg (by omega)]
    exact Nat.le_refl 0), fun v js hn h => (match js, hn, h with
      | [], hn, _ => absurd rfl hn
      | i :: r, _, h => (nomatch h.1)), fun v => Int.le_refl 0, fun v => Nat.zero_le _⟩
theorem SI.next {bs : List Bnd} {n : Nat} {F : Nat → Int} {O : Nat → Option Nat} {T : Nat → Nat} {t : Nat} (h : SI bs n F O T t bs.length) : SI bs n F O T (t + 1) 0 :=
  ⟨h.non, h.on, fun i b hb => by
    rcases h.ok i b hb with h1 | h1
    · exact .inl h1
    · refine .inr ?_
      rw [if_pos (List.getElem?_eq_some_iff.mp hb).1] at h1
      rw [if_neg (by omega)]
      omega, h.cyc, h.le0, fun v => Nat.le_succ_of_le (h.tle v)⟩
theorem SI.skip {bs : List Bnd} {n : Nat} {F : Nat → Int} {O : Nat → Option Nat} {T : Nat → Nat} {t j : Nat} {b : Bnd} (h : SI bs n F O T t j) (hb : bs[j]? = some b) (hk : F b.1 ≤ F b.2.1 + b.2.2) : SI bs n F O T t (j + 1) :=
  ⟨h.non, h.on, fun i b' hb' => by
    by_cases e : i = j
    · subst e
      rw [hb] at hb'
      cases hb'
      exact .inl hk
    · rcases h.ok i b' hb' with h1 | h1
      · exact .inl h1
      · refine .inr ?_
        by_cases hi : i < j
        · rw [if_pos hi] at h1
          rw [if_pos (by omega)]
          exact h1
        · rw [if_neg hi] at h1
          rw [if_neg (by omega)]
          exact h1, h.cyc, h.le0, h.tle⟩
theorem SI.set {bs : List Bnd} {n : Nat} {F : Nat → Int} {O : Nat → Option Nat} {T : Nat → Nat} {t j : Nat} {b : Bnd} (h : SI bs n F O T t j) (ht : 1 ≤ t) (hb : bs[j]? = some b) (hs : b.1 < n) (hk : F b.2.1 + b.2.2 < F b.1) :
    SI bs n (fun v => if v = b.1 then F b.2.1 + b.2.2 else F v) (updO O b.1 j) (fun v => if v = b.1 then t else T v) t (j + 1) := by
  have hTe : t - 1 ≤ T b.2.1 := by
    rcases h.ok j b hb with h1 | h1
    · omega
    · rw [if_neg (by omega)] at h1
      exact h1
  have hFle : ∀ v, (if v = b.1 then F b.2.1 + b.2.2 else F v) ≤ F v := fun v => by
    by_cases e : v = b.1
    · rw [if_pos e, e]
      omega
    · rw [if_neg e]
      exact Int.le_refl _
  have hTle : ∀ v, t - 1 ≤ T v → t - 1 ≤ (if v = b.1 then t else T v) := fun v hv => by
    split
    · omega
    · exact hv
  refine ⟨fun v hv => ?_, fun v i hv => ?_, fun i b' hb' => ?_, fun v js hn hp => ?_, fun v => Int.le_trans (hFle v) (h.le0 v), fun v => ?_⟩
  · unfold updO at hv
    by_cases e : v = b.1
    · rw [if_pos e] at hv
      cases hv
    · rw [if_neg e] at hv
      rw [if_neg e, if_neg e]
      exact h.non v hv
  · unfold updO at hv
    by_cases e : v = b.1
    · rw [if_pos e] at hv
      cases hv
      refine ⟨by rw [e]; exact hs, b, hb, e.symm, ?_, ?_⟩
      · rw [if_pos e]
        have := hFle b.2.1
        omega
      · rw [if_pos e]
        have := hTle b.2.1 hTe
        omega
    · rw [if_neg e] at hv
      obtain ⟨h1, b2, h2, h3, h4, h5⟩ := h.on v i hv
      refine ⟨h1, b2, h2, h3, ?_, ?_⟩
      · rw [if_neg e]
        have := hFle b2.2.1
        omega
      · rw [if_neg e]
        by_cases e2 : b2.2.1 = b.1
        · rw [if_pos e2]
          have := h.tle b2.2.1
          omega
        · rw [if_neg e2]
          exact h5
  · by_cases e : b'.2.1 = b.1
    · refine .inr ?_
      rw [if_pos e]
      split <;> omega
    · rw [if_neg e, if_neg e]
      by_cases hij : i = j
      · subst hij
        rw [hb] at hb'
        cases hb'
        refine .inl ?_
        rw [if_pos rfl]
        exact Int.le_refl _
      · have cond : (if i < j + 1 then t else t - 1) = (if i < j then t else t - 1) := by
          by_cases hi : i < j
          · rw [if_pos hi, if_pos (by omega)]
          · rw [if_neg hi, if_neg (by omega)]
        rw [cond]
        rcases h.ok i b' hb' with h1 | h1
        · refine .inl ?_
          have := hFle b'.1
          omega
        · exact .inr h1
  · -- rings
    have neg : ∀ (m : Nat) (c : List Nat), c.length = m → PtO bs (updO O b.1 j) b.2.1 c b.1 → b.2.2 + rsum bs c < 0 := by
      intro m
      induction m using Nat.strongRecOn with
      | ind m ih =>
        intro c hm hc
        rcases PtO.old hb hc with h1 | ⟨a, d, e, h1, _, h3⟩
        · have := h.low h1
          omega
        · have h4 := h.low h1
          have h5 := ih d.length (by rw [← hm, e, List.length_append, List.length_cons]; omega) d rfl h3
          rw [e, rsum_app, rsum_cons hb]
          omega
    rcases PtO.old hb hp with h1 | ⟨a, c, e, h1, h2, h3⟩
    · exact h.cyc v js hn h1
    · have h4 := neg _ (c ++ a) rfl (PtO.app h3 h2)
      rw [e, rsum_app, rsum_cons hb]
      rw [rsum_app] at h4
      omega
  · by_cases e : v = b.1
    · rw [if_pos e]
      exact Nat.le_refl _
    · rw [if_neg e]
      exact h.tle v
theorem SI.congr {bs : List Bnd} {n : Nat} {F F' : Nat → Int} {O : Nat → Option Nat} {T : Nat → Nat} {t j : Nat} (h : SI bs n F O T t j) (e : ∀ v, F' v = F v) : SI bs n F' O T t j := by
  have e : F' = F := funext e
  rw [e]
  exact h
theorem SI.more {bs : List Bnd} {n : Nat} {F : Nat → Int} {O : Nat → Option Nat} {T : Nat → Nat} {t j : Nat} (h : SI bs n F O T t j) : ∀ {js : List Nat} {u v : Nat}, PtO bs O u js v → T u ≤ T v + js.length
  | [], u, v, e => by
    have e : u = v := e
    rw [e]
    exact Nat.le_refl _
  | i :: r, u, v, ⟨h0, x, h1, h2, h3⟩ => by
    have h4 := SI.more h h3
    obtain ⟨_, b, h5, h6, _, h7⟩ := h.on u i h0
    rw [h1] at h5
    cases h5
    rw [List.length_cons]
    omega
def Sat (bs : List Bnd) (F : Nat → Int) : Prop := ∀ b ∈ bs, F b.1 ≤ F b.2.1 + b.2.2
theorem Sat.along {bs : List Bnd} {F : Nat → Int} (h : Sat bs F) : ∀ {js : List Nat} {u v : Nat}, PtB bs u js v → F u ≤ F v + rsum bs js
  | [], u, v, e => by
    have e : u = v := e
    rw [e]
    show F v ≤ F v + 0
    omega
  | i :: r, u, v, ⟨x, h1, h2, h3⟩ => by
    have h4 := Sat.along h h3
    have := h x (List.mem_of_getElem? h1)
    rw [rsum_cons h1]
    rw [h2] at this
    omega
/-- the places come by -/
def vts (bs : List Bnd) (s : Nat) (js : List Nat) : List Nat := s :: js.map fun j => (bAt bs j).2.1
theorem vts_get {bs : List Bnd} {O : Nat → Option Nat} {s e : Nat} {js : List Nat} (h : PtO bs O s js e) {i : Nat} (hi : i ≤ js.length) : ∃ v, (vts bs s js)[i]? = some v ∧ PtO bs O s (js.take i) v ∧ PtO bs O v (js.drop i) e := by
  induction js generalizing s i with
  | nil =>
    have hi : i = 0 := by simpa using hi
    subst hi
    exact ⟨s, rfl, rfl, h⟩
  | cons j r ih =>
    obtain ⟨h0, b, h1, h2, h3⟩ := h
    cases i with
    | zero => exact ⟨s, rfl, rfl, h0, b, h1, h2, h3⟩
    | succ i =>
      obtain ⟨v, h4, h5, h6⟩ := ih h3 (by simpa using hi)
      refine ⟨v, ?_, ⟨h0, b, h1, h2, h5⟩, h6⟩
      unfold vts at *
      rw [List.getElem?_cons_succ, List.map_cons, bAt_get h1]
      exact h4
/-- a row that comes by no place twice is short -/
theorem SI.short {bs : List Bnd} {n : Nat} {F : Nat → Int} {O : Nat → Option Nat} {T : Nat → Nat} {t j : Nat} (h : SI bs n F O T t j) (S : Sat bs F) (hb : ∀ b ∈ bs, b.1 < n ∧ b.2.1 < n) {js : List Nat} {u v : Nat} (hu : u < n) (hp : PtO bs O u js v) : js.length < n := by
  have nd : (vts bs u js).Nodup := by
    unfold List.Nodup
    rw [List.pairwise_iff_getElem]
    intro a c ha hc hac e
    have hl : (vts bs u js).length = js.length + 1 := by unfold vts; rw [List.length_cons, List.length_map]
    obtain ⟨x, h1, h2, h3⟩ := vts_get hp (i := a) (by omega)
    obtain ⟨y, k1, k2, k3⟩ := vts_get hp (i := c) (by omega)
    rw [List.getElem?_eq_getElem ha] at h1
    rw [List.getElem?_eq_getElem hc] at k1
    have exy : x = y := by
      have := Option.some.inj h1
      have := Option.some.inj k1
      omega
    subst exy
    have e2 : js.take c = js.take a ++ (js.take c).drop a := by
      have e3 : (js.take c).take a = js.take a := by rw [List.take_take, Nat.min_eq_left (by omega)]
      rw [← e3, List.take_append_drop]
    rw [e2] at k2
    obtain ⟨m, p1, p2⟩ := PtO.split k2
    have em : m = x := by
      have fn : ∀ {js : List Nat} {s e e' : Nat}, PtO bs O s js e → PtO bs O s js e' → e = e' := by
        intro js
        induction js with
        | nil =>
          intro s e e' q q'
          have q : s = e := q
          have q' : s = e' := q'
          omega
        | cons i r ih =>
          intro s e e' ⟨_, b1, q1, _, q2⟩ ⟨_, b2, q3, _, q4⟩
          rw [q1] at q3
          cases q3
          exact ih q2 q4
      exact fn p1 h2
    subst em
    have hne : (js.take c).drop a ≠ [] := fun z => by
      have := congrArg List.length z
      rw [List.length_drop, List.length_take] at this
      simp at this
      omega
    have c1 := h.cyc _ _ hne p2
    have c2 := S.along p2.ptB
    omega
  have lt : ∀ w ∈ vts bs u js, w < n := fun w hw => by
    rcases List.mem_cons.mp hw with e | hw
    · rw [e]
      exact hu
    · obtain ⟨i, hi, rfl⟩ := List.mem_map.mp hw
      have hin : ∀ {js : List Nat} {s e : Nat}, PtO bs O s js e → ∀ i ∈ js, ∃ b, bs[i]? = some b := by
        intro js
        induction js with
        | nil => intro s e _ i h; cases h
        | cons k r ih =>
          intro s e ⟨_, b, q1, _, q2⟩ i h
          rcases List.mem_cons.mp h with h | h
          · rw [h]
            exact ⟨b, q1⟩
          · exact ih q2 i h
      obtain ⟨b, hb'⟩ := hin hp i hi
      rw [bAt_get hb']
      exact (hb b (List.mem_of_getElem? hb')).2
  have := svNodup_le nd lt
  unfold vts at this
  rw [List.length_cons, List.length_map] at this
  omega
theorem SI.lowR {bs : List Bnd} {n : Nat} {F : Nat → Int} {O : Nat → Option Nat} {T : Nat → Nat} {t j : Nat} (h : SI bs n F O T t j) (S : Sat bs F) (hb : ∀ b ∈ bs, b.1 < n ∧ b.2.1 < n) {R : Int} (hR : 0 ≤ R) (hr : ∀ b ∈ bs, -R ≤ b.2.2) {v : Nat} (hv : v < n) : -((n : Int) * R) ≤ F v := by
  have rs : ∀ {js : List Nat} {u e : Nat}, PtO bs O u js e → -((js.length : Int) * R) ≤ rsum bs js := by
    intro js
    induction js with
    | nil =>
      intro u e _
      show -((0 : Int) * R) ≤ 0
      rw [Int.zero_mul]
      decide
    | cons i r ih =>
      intro u e ⟨_, b, h1, _, h3⟩
      have := ih h3
      have := hr b (List.mem_of_getElem? h1)
      rw [rsum_cons h1, List.length_cons, Int.natCast_add, Int.add_mul]
      show -((r.length : Int) * R + 1 * R) ≤ _
      rw [Int.one_mul]
      omega
  have go : ∀ k, (∃ js e, js.length = k ∧ PtO bs O v js e) ∨ ∃ js e, PtO bs O v js e ∧ O e = none := by
    intro k
    induction k with
    | zero => exact .inl ⟨[], v, rfl, rfl⟩
    | succ k ih =>
      rcases ih with ⟨js, e, hl, hp⟩ | h2
      · cases ho : O e with
        | none => exact .inr ⟨js, e, hp, ho⟩
        | some i =>
          obtain ⟨_, b, h1, h2, _⟩ := h.on e i ho
          exact .inl ⟨js ++ [i], b.2.1, by rw [List.length_append, hl]; rfl, hp.snoc ho h1 h2⟩
      · exact .inr h2
  rcases go n with ⟨js, e, hl, hp⟩ | ⟨js, e, hp, ho⟩
  · have := h.short S hb hv hp
    omega
  · have h1 := h.short S hb hv hp
    have h2 := rs hp
    have h3 := h.low hp
    have h4 := (h.non e ho).2
    have h5 : (js.length : Int) * R ≤ (n : Int) * R := Int.mul_le_mul_of_nonneg_right (by omega) hR
    omega
theorem SI.lowB {bs : List Bnd} {n : Nat} {F : Nat → Int} {O : Nat → Option Nat} {T : Nat → Nat} {t j : Nat} (h : SI bs n F O T t j) (S : Sat bs F) (hb : ∀ b ∈ bs, b.1 < n ∧ b.2.1 < n) (hr : ∀ b ∈ bs, -1 ≤ b.2.2) {v : Nat} (hv : v < n) : -(n : Int) ≤ F v := by
  have := h.lowR S hb (R := 1) (by decide) hr hv
  rw [Int.mul_one] at this
  exact this
/-- a ring of bounds with too little room -/
def RingB (bs : List Bnd) (js : List Nat) : Prop := js ≠ [] ∧ ∃ v, PtB bs v js v ∧ rsum bs js < 0
end Lag


set_option maxRecDepth 100000
set_option maxHeartbeats 8000000
namespace Lag
open PySem PySem.Spec PyProof.Rows L2
/-! ### lags for a beat, bars: the mathematics -/
instance (k : Str) : Decidable (portK k) := by unfold portK; exact inferInstance
def spotF (gs : List Gt) (g : Nat) : Nat := if portK (kindAt gs g) then gs.length else g
abbrev Pce := Nat × List Nat
def roomF (gs : List Gt) (ws : List Wr) (b : Int) (pc : Pce) : Int := if b < pwt gs ws pc.1 pc.2 then prg ws pc.2 - 1 else prg ws pc.2
def cntF (ws : List Wr) (L : Nat → Int) (p : Nat) : Int := (((svW ws p).2.2.length : Nat) : Int) + L (svW ws p).2.1 - L (svW ws p).1
structure Feas (gs : List Gt) (ws : List Wr) (b : Int) (L : Nat → Int) : Prop where
  out : ∀ g, g < gs.length → portK (kindAt gs g) → L g = 0
  lt : ∀ x ∈ ws, 0 ≤ ((x.2.2.length : Nat) : Int) + L x.2.1 - L x.1
  wt : ∀ s ps e, s < gs.length → Pw ws s ps e → (∀ p ∈ ps, cntF ws L p = 0) → pwt gs ws s ps ≤ b
section
variable {gs : List Gt} {ws : List Wr}
theorem Feas.mono {b b' : Int} {L : Nat → Int} (h : Feas gs ws b L) (hb : b ≤ b') : Feas gs ws b' L :=
  ⟨h.out, h.lt, fun s ps e hs hp hz => Int.le_trans (h.wt s ps e hs hp hz) hb⟩
theorem cntF_get {L : Nat → Int} {p : Nat} {x : Wr} (h : ws[p]? = some x) : cntF ws L p = ((x.2.2.length : Nat) : Int) + L x.2.1 - L x.1 := by
  unfold cntF
  rw [svW_get h]
theorem Pw.cnts {L : Nat → Int} : ∀ {ps : List Nat} {s e : Nat}, Pw ws s ps e → (ps.map (cntF ws L)).sum = prg ws ps + L e - L s
  | [], s, e, h => by
    have h : s = e := h
    rw [h]
    show (0 : Int) = 0 + _ - _
    omega
  | p :: r, s, e, ⟨x, h1, h2, h3⟩ => by
    rw [List.map_cons, List.sum_cons, Pw.cnts h3, cntF_get h1, prg_cons h1, h2]
    omega
theorem sum_nn : ∀ {l : List Int}, (∀ y ∈ l, 0 ≤ y) → 0 ≤ l.sum ∧ (l.sum = 0 → ∀ y ∈ l, y = 0)
  | [], _ => ⟨Int.le_refl 0, fun _ y h => by cases h⟩
  | a :: l, h => by
    obtain ⟨h1, h2⟩ := sum_nn (l := l) fun y hy => h y (List.mem_cons_of_mem _ hy)
    have h3 := h a (List.mem_cons_self ..)
    rw [List.sum_cons]
    refine ⟨by omega, fun e y hy => ?_⟩
    rcases List.mem_cons.mp hy with hy | hy
    · rw [hy]
      omega
    · exact h2 (by omega) y hy
theorem Feas.nn {b : Int} {L : Nat → Int} (h : Feas gs ws b L) {ps : List Nat} {s e : Nat} (hp : Pw ws s ps e) : ∀ y ∈ ps.map (cntF ws L), 0 ≤ y := fun y hy => by
  obtain ⟨p, hp', rfl⟩ := List.mem_map.mp hy
  have hx := List.getElem?_eq_getElem (hp.places p hp')
  rw [cntF_get hx]
  exact h.lt _ (List.getElem_mem _)
theorem sum_zero : ∀ {l : List Int}, (∀ y ∈ l, y = 0) → l.sum = 0
  | [], _ => rfl
  | a :: l, h => by
    rw [List.sum_cons, sum_zero fun y hy => h y (List.mem_cons_of_mem _ hy), h a (List.mem_cons_self ..)]
    rfl
theorem zero_sum {L : Nat → Int} {ps : List Nat} {s e : Nat} (hp : Pw ws s ps e) (hz : ∀ p ∈ ps, cntF ws L p = 0) : prg ws ps = L s - L e := by
  have h1 := hp.cnts (L := L)
  have h2 : (ps.map (cntF ws L)).sum = 0 := sum_zero fun y hy => by
    obtain ⟨p, hp', rfl⟩ := List.mem_map.mp hy
    exact hz p hp'
  omega
/-- with lags for the beat the start's lag is at most the end's and the piece's room -/
theorem Feas.room {b : Int} {L : Nat → Int} (h : Feas gs ws b L) {ps : List Nat} {s e : Nat} (hs : s < gs.length) (hp : Pw ws s ps e) : L s ≤ L e + roomF gs ws b (s, ps) := by
  obtain ⟨h1, h2⟩ := sum_nn (h.nn hp)
  rw [hp.cnts] at h1 h2
  unfold roomF
  show L s ≤ L e + if b < pwt gs ws s ps then prg ws ps - 1 else prg ws ps
  split
  · rename_i hl
    rcases (by omega : L s ≤ L e + (prg ws ps - 1) ∨ prg ws ps + L e - L s = 0) with h3 | h3
    · exact h3
    · have h4 := h.wt s ps e hs hp fun p hp' => h2 h3 _ (List.mem_map.mpr ⟨p, hp', rfl⟩)
      omega
  · omega
/-! ### the bounds for a beat -/
structure BdsOk (gs : List Gt) (ws : List Wr) (b : Int) (pcs : List Pce) (bs : List Bnd) : Prop where
  al : All2 (fun (pc : Pce) (bd : Bnd) => ∃ e, pc.1 < gs.length ∧ Pw ws pc.1 pc.2 e ∧ bd = (spotF gs pc.1, spotF gs e, roomF gs ws b pc)) pcs bs
  full : ∀ s, s < gs.length → ∀ e c, best gs ws s e = some c → ∃ pc ∈ pcs, pc.1 = s ∧ Pw ws s pc.2 e ∧ c = (prg ws pc.2, -pwt gs ws s pc.2)
  bst : ∀ pc ∈ pcs, ∃ e, Pw ws pc.1 pc.2 e ∧ best gs ws pc.1 e = some (prg ws pc.2, -pwt gs ws pc.1 pc.2)
theorem spot_le (g : Nat) (h : g < gs.length) : spotF gs g < gs.length + 1 := by
  unfold spotF
  split <;> omega
theorem BdsOk.below {b : Int} {pcs : List Pce} {bs : List Bnd} (N : NetOk gs ws) (h : BdsOk gs ws b pcs bs) : ∀ bd ∈ bs, bd.1 < gs.length + 1 ∧ bd.2.1 < gs.length + 1 := fun bd hb => by
  obtain ⟨i, hi⟩ := List.getElem?_of_mem hb
  obtain ⟨pc, _, e, h1, h2, rfl⟩ := h.al.getR hi
  exact ⟨spot_le _ h1, spot_le _ (h2.lt N h1)⟩
theorem BdsOk.m1 {b : Int} {pcs : List Pce} {bs : List Bnd} (h : BdsOk gs ws b pcs bs) : ∀ bd ∈ bs, -1 ≤ bd.2.2 := fun bd hb => by
  obtain ⟨i, hi⟩ := List.getElem?_of_mem hb
  obtain ⟨pc, _, e, h1, h2, rfl⟩ := h.al.getR hi
  show -1 ≤ roomF gs ws b pc
  have := prg_nn ws pc.2
  unfold roomF
  split <;> omega
def lagsAt (gs : List Gt) (F : Nat → Int) (g : Nat) : Int := F (spotF gs g) - F gs.length
theorem BdsOk.lags {b : Int} {pcs : List Pce} {bs : List Bnd} (N : NetOk gs ws) (h : BdsOk gs ws b pcs bs) {F : Nat → Int} (S : Sat bs F) : Feas gs ws b (lagsAt gs F) := by
  have key : ∀ s, s < gs.length → ∀ e c, best gs ws s e = some c → lagsAt gs F s ≤ lagsAt gs F e + (if b < -c.2 then c.1 - 1 else c.1) := fun s hs e c hc => by
    obtain ⟨pc, hpc, h1, h2, h3⟩ := h.full s hs e c hc
    obtain ⟨i, hi⟩ := List.getElem?_of_mem hpc
    obtain ⟨bd, hbd, e', h4, h5, h6⟩ := h.al.get hi
    rw [h1] at h5
    have := Pw.fn h2 h5
    subst this
    have h7 := S bd (List.mem_of_getElem? hbd)
    rw [h6, h1] at h7
    have h7 : F (spotF gs s) ≤ F (spotF gs e) + roomF gs ws b pc := h7
    have h8 : roomF gs ws b pc = if b < -c.2 then c.1 - 1 else c.1 := by
      unfold roomF
      rw [h3, h1, Int.neg_neg]
    rw [h8] at h7
    unfold lagsAt
    omega
  have le : ∀ {b c1 c2 : Int}, (if b < c2 then c1 - 1 else c1) ≤ c1 := by
    intro b c1 c2
    split <;> omega
  refine ⟨fun g hg hp => ?_, fun x hx => ?_, fun s ps e hs hp hz => ?_⟩
  · unfold lagsAt spotF
    rw [if_pos hp]
    omega
  · obtain ⟨p, hp⟩ := List.getElem?_of_mem hx
    have W := N.wok x hx
    have hw : Pw ws x.1 [p] x.2.1 := ⟨x, hp, rfl, rfl⟩
    obtain ⟨c, hc, hl⟩ := best_le N W.s hw
    have h1 := key x.1 W.s x.2.1 c hc
    have h2 := @le b c.1 (-c.2)
    rw [leC_iff, prg_cons hp, prg_nil] at hl
    have hl : c.1 < ((x.2.2.length : Nat) : Int) + 0 ∨ (c.1 = ((x.2.2.length : Nat) : Int) + 0 ∧ _) := hl
    rcases hl with hl | ⟨hl, _⟩ <;> omega
  · have h0 := zero_sum hp hz
    obtain ⟨c, hc, hl⟩ := best_le N hs hp
    have h1 := key s hs e c hc
    rw [leC_iff] at hl
    have hl : c.1 < prg ws ps ∨ (c.1 = prg ws ps ∧ c.2 ≤ -pwt gs ws s ps) := hl
    by_cases hb : b < -c.2
    · rw [if_pos hb] at h1
      omega
    · rw [if_neg hb] at h1
      omega
/-! ### bars -/
def Jn (gs : List Gt) (ws : List Wr) : Nat → List Pce → Nat → Prop
  | s, [], e => s = e
  | s, pc :: r, e => spotF gs pc.1 = s ∧ pc.1 < gs.length ∧ ∃ m, Pw ws pc.1 pc.2 m ∧ Jn gs ws (spotF gs m) r e
def roomsF (gs : List Gt) (ws : List Wr) (b : Int) (pcs : List Pce) : Int := (pcs.map (roomF gs ws b)).sum
def IsBar (gs : List Gt) (ws : List Wr) (b : Int) (pcs : List Pce) : Prop := pcs ≠ [] ∧ ∃ v, Jn gs ws v pcs v ∧ roomsF gs ws b pcs < 0
def spotL (gs : List Gt) (L : Nat → Int) (s : Nat) : Int := if s = gs.length then 0 else L s
theorem Feas.spot {b : Int} {L : Nat → Int} (h : Feas gs ws b L) {g : Nat} (hg : g < gs.length) : spotL gs L (spotF gs g) = L g := by
  unfold spotL spotF
  by_cases hp : portK (kindAt gs g)
  · rw [if_pos hp, if_pos rfl, h.out g hg hp]
  · rw [if_neg hp, if_neg (by omega)]
theorem Feas.joined {b : Int} {L : Nat → Int} (N : NetOk gs ws) (h : Feas gs ws b L) : ∀ {pcs : List Pce} {s e : Nat}, Jn gs ws s pcs e → spotL gs L s ≤ spotL gs L e + roomsF gs ws b pcs
  | [], s, e, h' => by
    have h' : s = e := h'
    rw [h']
    show _ ≤ _ + (0 : Int)
    omega
  | pc :: r, s, e, ⟨h1, h2, m, h3, h4⟩ => by
    have h5 := Feas.joined N h h4
    have h6 := h.room h2 h3
    rw [← h1, h.spot h2]
    rw [h.spot (h3.lt N h2)] at h5
    unfold roomsF at *
    rw [List.map_cons, List.sum_cons]
    have h6 : L pc.1 ≤ L m + roomF gs ws b pc := h6
    omega
theorem IsBar.none {b : Int} {pcs : List Pce} (N : NetOk gs ws) (h : IsBar gs ws b pcs) {L : Nat → Int} : ¬ Feas gs ws b L := fun f => by
  obtain ⟨_, v, h1, h2⟩ := h
  have := f.joined N h1
  omega
def pAt (pcs : List Pce) (j : Nat) : Pce := pcs.getD j (0, [])
theorem pAt_get {pcs : List Pce} {j : Nat} {p : Pce} (h : pcs[j]? = some p) : pAt pcs j = p := by
  unfold pAt
  rw [List.getD_eq_getElem?_getD, h]
  rfl
theorem BdsOk.joined {b : Int} {pcs : List Pce} {bs : List Bnd} (h : BdsOk gs ws b pcs bs) : ∀ {js : List Nat} {s e : Nat}, PtB bs s js e → Jn gs ws s (js.map (pAt pcs)) e ∧ roomsF gs ws b (js.map (pAt pcs)) = rsum bs js
  | [], s, e, h' => ⟨h', rfl⟩
  | j :: r, s, e, ⟨bd, h1, h2, h3⟩ => by
    obtain ⟨pc, hp, m, h4, h5, h6⟩ := h.al.getR h1
    subst h6
    obtain ⟨k1, k2⟩ := BdsOk.joined h h3
    rw [List.map_cons, pAt_get hp]
    refine ⟨⟨h2, h4, m, h5, k1⟩, ?_⟩
    rw [rsum_cons h1, ← k2]
    unfold roomsF
    rw [List.map_cons, List.sum_cons]
theorem BdsOk.bar {b : Int} {pcs : List Pce} {bs : List Bnd} (h : BdsOk gs ws b pcs bs) {js : List Nat} (r : RingB bs js) : IsBar gs ws b (js.map (pAt pcs)) := by
  obtain ⟨h1, v, h2, h3⟩ := r
  obtain ⟨k1, k2⟩ := h.joined h2
  exact ⟨fun z => h1 (List.map_eq_nil_iff.mp z), v, k1, by rw [k2]; exact h3⟩
/-! ### the least beat -/
def FeasE (gs : List Gt) (ws : List Wr) (b : Int) : Prop := ∃ L, Feas gs ws b L
def IsWait (gs : List Gt) (ws : List Wr) (m : Int) : Prop := ∃ s e c, s < gs.length ∧ best gs ws s e = some c ∧ m = -c.2
theorem max_ex {P : Int → Prop} {b : Int} (hb : ∀ v, P v → v ≤ b) : ∀ (k : Nat) (v : Int), P v → (b - v).toNat ≤ k → ∃ m, P m ∧ ∀ v, P v → v ≤ m := by
  intro k
  induction k with
  | zero =>
    intro v hv hk
    refine ⟨v, hv, fun u hu => ?_⟩
    have := hb u hu
    have := hb v hv
    omega
  | succ k ih =>
    intro v hv hk
    by_cases h : ∃ u, P u ∧ v < u
    · obtain ⟨u, hu, hlt⟩ := h
      have := hb u hu
      exact ih u hu (by omega)
    · refine ⟨v, hv, fun u hu => ?_⟩
      rcases Int.lt_or_le v u with h1 | h1
      · exact absurd ⟨u, hu, h1⟩ h
      · exact h1
theorem Feas.tight {b : Int} {L : Nat → Int} (N : NetOk gs ws) (h : Feas gs ws b L) : ∃ m, m ≤ b ∧ IsWait gs ws m ∧ Feas gs ws m L := by
  have hn : 0 < gs.length := List.length_pos_iff.mpr N.ne
  obtain ⟨m, ⟨s, ps, e, hs, hp, hz, hm⟩, hle⟩ := max_ex (P := fun v => ∃ s ps e, s < gs.length ∧ Pw ws s ps e ∧ (∀ p ∈ ps, cntF ws L p = 0) ∧ v = pwt gs ws s ps) (b := b) (fun v ⟨s, ps, e, hs, hp, hz, e'⟩ => by
    rw [e']
    exact h.wt s ps e hs hp hz) _ (pwt gs ws 0 []) ⟨0, [], 0, hn, rfl, (fun p hp => nomatch hp), rfl⟩ (Nat.le_refl _)
  refine ⟨m, by rw [hm]; exact h.wt s ps e hs hp hz, ?_, h.out, h.lt, fun s ps e hs hp hz => hle _ ⟨s, ps, e, hs, hp, hz, rfl⟩⟩
  obtain ⟨c, hc, hl⟩ := best_le N hs hp
  refine ⟨s, e, c, hs, hc, ?_⟩
  obtain ⟨qs, hq, hcq⟩ := best_way hc
  have h0 := zero_sum hp hz
  obtain ⟨h1, h2⟩ := sum_nn (h.nn hq)
  rw [hq.cnts] at h1 h2
  rw [leC_iff] at hl
  have e1 : c.1 = prg ws qs := by rw [hcq]
  have e2 : c.2 = -pwt gs ws s qs := by rw [hcq]
  have hl : c.1 < prg ws ps ∨ (c.1 = prg ws ps ∧ c.2 ≤ -pwt gs ws s ps) := hl
  have h3 := hle _ ⟨s, qs, e, hs, hq, fun p hp' => h2 (by omega) _ (List.mem_map.mpr ⟨p, hp', rfl⟩), rfl⟩
  omega
theorem Feas.zero {b : Int} (N : NetOk gs ws) (hb : ∀ m, IsWait gs ws m → m ≤ b) : Feas gs ws b (fun _ => 0) := by
  refine ⟨fun _ _ _ => rfl, fun x _ => by omega, fun s ps e hs hp hz => ?_⟩
  have h0 := zero_sum hp hz
  obtain ⟨c, hc, hl⟩ := best_le N hs hp
  have h1 := hb _ ⟨s, e, c, hs, hc, rfl⟩
  have h2 := best_nn hc
  rw [leC_iff] at hl
  have hl : c.1 < prg ws ps ∨ (c.1 = prg ws ps ∧ c.2 ≤ -pwt gs ws s ps) := hl
  omega
structure IsLeast (gs : List Gt) (ws : List Wr) (B : Int) : Prop where
  ex : FeasE gs ws B
  no : ∀ b, b < B → ¬ FeasE gs ws b
theorem IsLeast.eq {B B' : Int} (h : IsLeast gs ws B) (h' : IsLeast gs ws B') : B = B' := by
  rcases Int.lt_trichotomy B B' with e | e | e
  · exact absurd h.ex (h'.no _ e)
  · exact e
  · exact absurd h'.ex (h.no _ e)
theorem IsLeast.le {B b : Int} (h : IsLeast gs ws B) (h' : FeasE gs ws b) : B ≤ b := by
  rcases Int.lt_or_le b B with e | e
  · exact absurd h' (h.no _ e)
  · exact e
end
end Lag


set_option maxRecDepth 100000
set_option maxHeartbeats 8000000
namespace Lag
open PySem PySem.Spec PyProof.Rows L2
abbrev sBestFrom : Stmt := topS 45 -- @best_from
abbrev sWayTo : Stmt := topS 46 -- @way_to
def lasV : Option Nat → V
  | none => .non
  | some p => .int (p : Nat)
def nvs (r : List Nat) : List V := r.map fun i => V.int (i : Nat)
theorem nvs_len (r : List Nat) : (nvs r).length = r.length := List.length_map ..
/-- what is known of the gates: a table of tuples -/
structure KnD (K : PySem.W.Frag) (H : Hp) (d : Addr) (D : Dst) (kvs : List (Key × V)) (ks : List Nat) : Prop where
  at_ : H d = some (.dK kvs)
  keys : kvs.map (fun kv => kv.1) = ks.map (fun g => Sum.inl ((g : Nat) : Int))
  nd : ks.Nodup
  mem : ∀ g, g ∈ ks ↔ ∃ c, D g = some c
  some_ : ∀ g c, D g = some c → ∃ t, valV kvs (Sum.inl ((g : Nat) : Int)) = some (.ref t) ∧ SqT K H t [.int c.1, .int c.2]
  none_ : ∀ g, D g = none → valV kvs (Sum.inl ((g : Nat) : Int)) = none
theorem KnD.same {K : PySem.W.Frag} {H H' : Hp} {d : Addr} {D : Dst} {kvs : List (Key × V)} {ks : List Nat} (h : KnD K H d D kvs ks) (s : Same H H') : KnD K H' d D kvs ks :=
  ⟨s _ _ h.at_, h.keys, h.nd, h.mem, fun g c e => by
    obtain ⟨t, h1, h2⟩ := h.some_ g c e
    exact ⟨t, h1, (TK.same s).seq h2⟩, h.none_⟩
theorem KnD.get {K : PySem.W.Frag} {H : Hp} {d : Addr} {D : Dst} {kvs : List (Key × V)} {ks : List Nat} (h : KnD K H d D kvs ks) {g : Nat} {c : Cst} (e : D g = some c) : ∃ t, DGet H d (.int (g : Nat)) (some (.ref t)) ∧ SqT K H t [.int c.1, .int c.2] := by
  obtain ⟨t, h1, h2⟩ := h.some_ g c e
  refine ⟨t, ?_, h2⟩
  have := DGet.k (k := Sum.inl ((g : Nat) : Int)) h.at_
  rw [h1] at this
  exact this
theorem KnD.getN {K : PySem.W.Frag} {H : Hp} {d : Addr} {D : Dst} {kvs : List (Key × V)} {ks : List Nat} (h : KnD K H d D kvs ks) {g : Nat} (e : D g = none) : DGet H d (.int (g : Nat)) none := by
  have := DGet.k (k := Sum.inl ((g : Nat) : Int)) h.at_
  rw [h.none_ g e] at this
  exact this
theorem KnD.len {K : PySem.W.Frag} {H : Hp} {d : Addr} {D : Dst} {kvs : List (Key × V)} {ks : List Nat} (h : KnD K H d D kvs ks) : kvs.length = ks.length := by
  have := congrArg List.length h.keys
  rw [List.length_map, List.length_map] at this
  exact this
theorem has_key {kvs : List (Key × V)} {k : Key} (h : k ∈ kvs.map fun kv => kv.1) : ∃ v, valV kvs k = some v := by
  induction kvs with
  | nil => cases h
  | cons y l ih =>
    by_cases e : y.1 = k
    · exact ⟨y.2, valV_pos e⟩
    · rw [valV_neg e]
      rw [List.map_cons] at h
      rcases List.mem_cons.mp h with h | h
      · exact absurd h.symm e
      · exact ih h
theorem key_of {kvs : List (Key × V)} {k : Key} {v : V} (h : valV kvs k = some v) : k ∈ kvs.map fun kv => kv.1 := by
  induction kvs with
  | nil => cases h
  | cons y l ih =>
    rw [List.map_cons]
    by_cases e : y.1 = k
    · rw [e]
      exact List.mem_cons_self ..
    · rw [valV_neg e] at h
      exact List.mem_cons_of_mem _ (ih h)
theorem putK_old {kvs : List (Key × V)} {k : Key} {v : V} (hk : k ∈ kvs.map (fun kv => kv.1)) : (putK kvs k v).map (fun kv => kv.1) = kvs.map (fun kv => kv.1) := by
  unfold putK
  split
  · rw [List.map_map]
    refine List.map_congr_left fun y _ => ?_
    show (if y.1 = k then (y.1, v) else y).1 = y.1
    split <;> rfl
  · rename_i h
    exfalso
    apply h
    obtain ⟨y, hy, e⟩ := List.mem_map.mp hk
    rw [List.any_eq_true]
    exact ⟨y, hy, by simpa using e⟩
theorem putK_fresh {kvs : List (Key × V)} {k : Key} {v : V} (hk : k ∉ kvs.map (fun kv => kv.1)) : (putK kvs k v).map (fun kv => kv.1) = kvs.map (fun kv => kv.1) ++ [k] := by
  unfold putK
  split
  · rename_i h
    exfalso
    apply hk
    rw [List.any_eq_true] at h
    obtain ⟨y, hy, e⟩ := h
    exact List.mem_map.mpr ⟨y, hy, by simpa using e⟩
  · rw [List.map_append]
    rfl
theorem KnD.put {K : PySem.W.Frag} {H : Hp} {d t : Addr} {D : Dst} {kvs : List (Key × V)} {ks : List Nat} {e : Nat} {c : Cst} (h : KnD K H d D kvs ks) (ht : H t = some (.tup [.int c.1, .int c.2])) :
    ∃ ks', KnD K (upd H d (.dK (putK kvs (Sum.inl ((e : Nat) : Int)) (.ref t)))) d (setD D e c) (putK kvs (Sum.inl ((e : Nat) : Int)) (.ref t)) ks' := by
  have inj : ∀ {i j : Nat}, (Sum.inl ((i : Nat) : Int) : Key) = Sum.inl ((j : Nat) : Int) → i = j := fun {i j} z => by
    have := Sum.inl.inj z
    omega
  have tk : TK H (upd H d (.dK (putK kvs (Sum.inl ((e : Nat) : Int)) (.ref t)))) := fun b o to eb => by
    rw [upd_ne (fun z => by
      rw [z, h.at_] at eb
      cases eb
      exact to)]
    exact eb
  have hk : (Sum.inl ((e : Nat) : Int) : Key) ∈ kvs.map (fun kv => kv.1) ↔ e ∈ ks := by
    rw [h.keys]
    constructor
    · intro z
      obtain ⟨g, hg, e'⟩ := List.mem_map.mp z
      rw [← inj e']
      exact hg
    · intro z
      exact List.mem_map.mpr ⟨e, z, rfl⟩
  have sm : ∀ g c', setD D e c g = some c' → ∃ t', valV (putK kvs (Sum.inl ((e : Nat) : Int)) (.ref t)) (Sum.inl ((g : Nat) : Int)) = some (.ref t') ∧ SqT K (upd H d (.dK (putK kvs (Sum.inl ((e : Nat) : Int)) (.ref t)))) t' [.int c'.1, .int c'.2] := fun g c' hg => by
    rw [valV_put]
    unfold setD at hg
    by_cases z : g = e
    · rw [if_pos z] at hg
      cases hg
      rw [if_pos (by rw [z])]
      exact ⟨t, rfl, tk.seq (.inl (.inl ht))⟩
    · rw [if_neg z] at hg
      rw [if_neg fun y => z (inj y)]
      obtain ⟨t', h1, h2⟩ := h.some_ g c' hg
      exact ⟨t', h1, tk.seq h2⟩
  have sn : ∀ g, setD D e c g = none → valV (putK kvs (Sum.inl ((e : Nat) : Int)) (.ref t)) (Sum.inl ((g : Nat) : Int)) = none := fun g hg => by
    unfold setD at hg
    by_cases z : g = e
    · rw [if_pos z] at hg
      cases hg
    · rw [if_neg z] at hg
      rw [valV_put, if_neg fun y => z (inj y)]
      exact h.none_ g hg
  have dm : ∀ g, (∃ c', setD D e c g = some c') ↔ (g = e ∨ ∃ c', D g = some c') := fun g => by
    unfold setD
    by_cases z : g = e
    · rw [if_pos z]
      exact ⟨fun _ => .inl z, fun _ => ⟨c, rfl⟩⟩
    · rw [if_neg z]
      exact ⟨fun y => .inr y, fun y => y.elim (fun y => absurd y z) fun y => y⟩
  by_cases he : e ∈ ks
  · refine ⟨ks, upd_same, by rw [putK_old (hk.mpr he)]; exact h.keys, h.nd, fun g => ?_, sm, sn⟩
    rw [dm, h.mem]
    refine ⟨fun y => .inr y, fun y => y.elim (fun y => ?_) fun y => y⟩
    rw [y]
    exact (h.mem e).mp he
  · refine ⟨ks ++ [e], upd_same, by rw [putK_fresh fun z => he (hk.mp z), h.keys, List.map_append]; rfl, ?_, fun g => ?_, sm, sn⟩
    · rw [List.nodup_append]
      refine ⟨h.nd, by simp, fun a ha b hb z => ?_⟩
      rw [List.mem_singleton.mp hb] at z
      exact he (z ▸ ha)
    · rw [dm, List.mem_append, List.mem_singleton, h.mem]
      exact ⟨fun y => y.elim (fun y => .inr y) fun y => .inl y, fun y => y.elim (fun y => .inr y) fun y => .inl y⟩
theorem KnD.mut {K : PySem.W.Frag} {H : Hp} {d l : Addr} {o : HO} {xs : List V} {D : Dst} {kvs : List (Key × V)} {ks : List Nat} (h : KnD K H d D kvs ks) (hl : H l = some (.lst xs)) : KnD K (upd H l o) d D kvs ks :=
  ⟨by rw [upd_ne (fun z => by rw [← z, h.at_] at hl; cases hl)]; exact h.at_, h.keys, h.nd, h.mem, fun g c e => by
    obtain ⟨t, h1, h2⟩ := h.some_ g c e
    exact ⟨t, h1, (TK.lst hl).seq h2⟩, h.none_⟩
theorem lex_ltC (a b : Cst) : HT.lexLt [a.1, a.2] [b.1, b.2] = decide (ltC a b) := by
  obtain ⟨a1, a2⟩ := a
  obtain ⟨b1, b2⟩ := b
  show (if a1 = b1 then (if a2 = b2 then false else decide (a2 < b2)) else decide (a1 < b1)) = decide (ltC (a1, a2) (b1, b2))
  unfold ltC
  show _ = decide (a1 < b1 ∨ (a1 = b1 ∧ a2 < b2))
  by_cases e : a1 = b1
  · rw [if_pos e]
    by_cases e2 : a2 = b2
    · rw [if_pos e2]
      exact (decide_eq_false (by omega)).symm
    · rw [if_neg e2]
      by_cases e3 : a2 < b2
      · rw [decide_eq_true e3, decide_eq_true (by omega)]
      · rw [decide_eq_false e3, decide_eq_false (by omega)]
  · rw [if_neg e]
    by_cases e3 : a1 < b1
    · rw [decide_eq_true e3, decide_eq_true (by omega)]
    · rw [decide_eq_false e3, decide_eq_false (by omega)]
theorem Snd.at_s {gs : List Gt} {ws : List Wr} {s : Nat} {D : Dst} (N : NetOk gs ws) (S : Snd gs ws s D) (h : leD D (Lag.ini gs s)) : D s = some (0, -gw gs s) := by
  obtain ⟨c, hc, hle⟩ := h s (0, -gw gs s) (by unfold Lag.ini; rw [if_pos rfl])
  obtain ⟨vs, hv⟩ := S s c hc
  obtain ⟨ps, h1, h2⟩ := hv.pw
  obtain ⟨ρ, hρ⟩ := N.rank
  rw [hc]
  rw [leC_iff] at hle
  subst h2
  have h3 := prg_nn ws ps
  have h0 : prg ws ps = 0 := by
    rcases hle with h | h
    · have h : prg ws ps < 0 := h
      omega
    · exact h.1
  have h4 := ring_regs hρ h1 h0
  have h5 : ps = [] := List.length_eq_zero_iff.mp (by omega)
  subst h5
  unfold pwt
  rw [prg_nil, pws_nil, Int.add_zero]
theorem rnds_le {gs : List Gt} {ws : List Wr} {s : Nat} : ∀ k, leD (rnds gs ws s k) (Lag.ini gs s)
  | 0 => leD.refl _
  | k + 1 => (fold_le gs ws _).trans (rnds_le k)
theorem las_at {La : List (Option Nat)} {g : Nat} (h : g < La.length) : (La.map lasV)[g]? = some (lasV (La.getD g none)) := by
  rw [List.getElem?_map, List.getElem?_eq_getElem h, List.getD_eq_getElem?_getD, List.getElem?_eq_getElem h]
  rfl
def spBestFrom (K : PySem.W.Frag) (C : Addr) : Sp := fun vs H Q _ => ∃ (p ng nw : Addr) (gs : List Gt) (ws : List Wr) (s : Nat), vs = [.ref p, .int (s : Nat)] ∧ NetAt K C H p ng nw gs ws ∧ NetOk gs ws ∧ s < gs.length ∧
  ∀ (t d lL : Addr) (kvs : List (Key × V)) (ks : List Nat) (La : List (Option Nat)) (H' : Hp), Same H H' → H' t = some (.tup [.ref d, .ref lL]) → KnD K H' d (best gs ws s) kvs ks → H' lL = some (.lst (La.map lasV)) → H lL = none → LaOk gs ws s La → Q (.ref t) H'
def spWayTo (K : PySem.W.Frag) (C : Addr) : Sp := fun vs H Q _ => ∃ (p ng nw lL : Addr) (gs : List Gt) (ws : List Wr) (La : List (Option Nat)) (g s : Nat) (ps : List Nat), vs = [.ref p, .int (g : Nat), .ref lL] ∧ NetAt K C H p ng nw gs ws ∧ NetOk gs ws ∧ H lL = some (.lst (La.map lasV)) ∧ La.length = gs.length ∧ g < gs.length ∧ Bk ws La g ps s ∧ ps.length ≤ 1000 ∧
  ∀ (t lr : Addr) (H' : Hp), Same H H' → H t = none → H lr = none → H' t = some (.tup [.int (s : Nat), .ref lr]) → H' lr = some (.lst (nvs ps.reverse)) → Q (.ref t) H'
section
variable {P : Program} {w : World} {K : PySem.W.Frag} {mg : Str → Option Value} {base : Heap}
abbrev nBestFrom : List Str := ["net", "start", "known", "last", "better", "place", "here", "end", "held", "come"]
theorem scBestFrom : FnScope nBestFrom ["net", "start"] (defScope sBestFrom) := ⟨rfl, rfl, rfl, by decide +kernel, rfl, by decide +kernel, by decide +kernel⟩
abbrev DBestFrom (P : Program) (w : World) (K : PySem.W.Frag) (mg : Str → Option Value) (base : Heap) (C : Addr) := Df P w K mg base 1 "best_from" ["net", "start"] (spBestFrom K C)
theorem ok_bestFrom {f C : Addr} {fd : FuncData} (F : Fun K "best_from" "best_from" sBestFrom f fd) (hm : mg "best_from" = some (.ref f)) (B : Bt mg) (T : NT K mg C) : DBestFrom P w K mg base C f fd := by
  refine ⟨?_, hm, F.kp, F.binds fun _ _ _ _ _ _ us hl => match us, hl with | [_, _], _ => rfl⟩
  refine F.ok scBestFrom (fun vs H Q E h => ?_) (fun cdv A outer s H vs Q E hr h => ?_)
  · obtain ⟨p, ng, nw, gs, ws, s, rfl, _⟩ := h
    rfl
  · obtain ⟨p, ng, nw, gs, ws, s0, rfl, NA, N, hs0, q⟩ := h
    have nd := scBestFrom.nd
    refine ⟨_, pss_cons (ps_set (i := 2) nd rfl (.inl rfl) (pe_disp (pps_cons (pv 1) (pe_tup (pa_cons pe_int (pa_cons (pe_un un_neg (pe_ix ix_tup (pe_ix ix_list (pe_fld (pv 0) rfl) (pv 1) (fun _ _ => rfl)) pe_int (fun _ _ => rfl))) pa_nil))) pps_nil) (by rfl) (by rfl) (fun z => by cases z) (by decide))) <|
        pss_cons (ps_set (i := 3) nd rfl (.inl rfl) (pe_op op_rep (pe_lst (pa_cons pe_non pa_nil)) (pe_callB call_len_seq (by rfl) B.len PySem.boot_len (pa_cons (pe_fld (pv 0) rfl) pa_nil)))) <|
        pss_cons (ps_set (i := 4) nd rfl (.inl rfl) pe_bl) <|
        pss_cons (ps_while PassesOwn.never (pt_val (pv 4)) (pss_cons (ps_set (i := 4) nd rfl (.inl rfl) pe_bl) <|
        pss_one (ps_for PassesOwn.never rfl (pi_enum (by rfl) B.enum (pa_cons (pe_fld (pv 0) rfl) pa_nil)) (pg_tup rfl (pgs_cons (pg_name (i := 5) nd rfl (.inl rfl)) (pgs_cons (pg_tup rfl (pgs_cons (pg_name (i := 6) nd rfl (.inl rfl)) (pgs_cons (pg_name (i := 7) nd rfl (.inl rfl)) (pgs_cons (pg_name (i := 8) nd rfl (.inl rfl)) pgs_nil)))) pgs_nil))) (pss_one (ps_if (pt_cmp (pc_din (hu_of hr) (pv 6) (pv 2))) (pss_cons (ps_set (i := 9) nd rfl (.inl rfl) (pe_tup (pa_cons (pe_op op_add (pe_ix ix_tup (pe_dget (hu_of hr) (pv 2) (pv 6) (fun _ _ => rfl)) pe_int (fun _ _ => rfl)) (pe_callB call_len_seq (by rfl) B.len PySem.boot_len (pa_cons (pv 8) pa_nil))) (pa_cons (pe_op op_sub (pe_ix ix_tup (pe_dget (hu_of hr) (pv 2) (pv 6) (fun _ _ => rfl)) pe_int (fun _ _ => rfl)) (pe_ix ix_tup (pe_ix ix_list (pe_fld (pv 0) rfl) (pv 7) (fun _ _ => rfl)) pe_int (fun _ _ => rfl))) pa_nil)))) <|
        pss_one (ps_if (PW.pt (pw_or (pt_cmp (pc_dnotin (hu_of hr) (pv 7) (pv 2))) (pw_or1 (pt_cmpR (op_ltT hr.units0) (pv 9) (pe_dget (hu_of hr) (pv 2) (pv 7) (fun _ _ => rfl)) (nomark _))))) (pss_cons (ps_dput (hu_of hr) (pv 2) (pv 7) (pv 9) rfl) <|
        pss_cons (ps_asg (pv 5) (pg_sub (pv 3) (pv 7) set_list)) <|
        pss_one (ps_set (i := 4) nd rfl (.inl rfl) pe_bl)) pss_nil)) pss_nil))))) <|
        pss_one (ps_ret (pe_tup (pa_cons (pv 2) (pa_cons (pv 3) pa_nil)))), ?_⟩
    have hwl := N.wl
    have hgl := N.gl
    obtain ⟨dx, ob⟩ := id NA.ob
    obtain ⟨gv, hgv, ga⟩ := id NA.g
    obtain ⟨wv, hwv, wa⟩ := id NA.w
    have hlw : wv.length = ws.length := wa.1
    have hlg : gv.length = gs.length := ga.1
    obtain ⟨_, hvs, as, rfl, sqs⟩ := ga.getR (List.getElem?_eq_getElem hs0)
    have egs : (gs[s0]).2 = gw gs s0 := (gw_get (List.getElem?_eq_getElem hs0)).symm
    rw [egs] at sqs
    intro d hd
    have s1 := same_new (o := .dK []) hd
    have e1 : (upd H d (.dK [])) d = some (.dK []) := upd_same
    generalize upd H d (.dK []) = H1 at s1 e1
    refine ⟨_, rfl, _, rfl, p, C, dx, _, _, rfl, s1 _ _ ob, T.cl, T.nG, nf_gates _ _, _, rfl, ng, _, s0, _, rfl, rfl, SqL.of (s1 _ _ hgv), atI_nat hvs, as, _, 1, _, rfl, rfl, (TK.same s1).seq sqs, atI_nat (j := 1) rfl, _, rfl, (by show 2 ≤ sizeLine; decide), fun t1 ht1 => ?_⟩
    have s2 := same_new (o := .tup [.int 0, .int (-gw gs s0)]) ht1
    have et1 : (upd H1 t1 (.tup [.int 0, .int (-gw gs s0)])) t1 = some (.tup [.int 0, .int (-gw gs s0)]) := upd_same
    have e2 := s2 _ _ e1
    have s12 := s1.trans s2
    generalize upd H1 t1 (.tup [.int 0, .int (-gw gs s0)]) = H2 at s2 et1 e2 s12
    refine ⟨e2, [(Sum.inl ((s0 : Nat) : Int), .ref t1)], rfl, Nat.le_of_ble_eq_true rfl, ?_⟩
    have emk : mergeK [] [((Sum.inl ((s0 : Nat) : Int) : Key), V.ref t1)] = [(Sum.inl ((s0 : Nat) : Int), .ref t1)] := rfl
    rw [emk]
    have s3 : Same H (upd H2 d (.dK [(Sum.inl ((s0 : Nat) : Int), .ref t1)])) := same_mut s12 hd
    have ntd : t1 ≠ d := fun z => by
      rw [z, e2] at et1
      cases et1
    have et3 : (upd H2 d (.dK [(Sum.inl ((s0 : Nat) : Int), .ref t1)])) t1 = some (.tup [.int 0, .int (-gw gs s0)]) := (upd_ne ntd).trans et1
    have kn0 : KnD K (upd H2 d (.dK [(Sum.inl ((s0 : Nat) : Int), .ref t1)])) d (ini gs s0) [(Sum.inl ((s0 : Nat) : Int), .ref t1)] [s0] := by
      refine ⟨upd_same, rfl, by simp, fun g => ?_, fun g c hg => ?_, fun g hg => ?_⟩
      · unfold ini
        rw [List.mem_singleton]
        by_cases z : g = s0
        · rw [if_pos z]
          exact ⟨fun _ => ⟨_, rfl⟩, fun _ => z⟩
        · rw [if_neg z]
          exact ⟨fun y => absurd y z, fun ⟨c, y⟩ => by cases y⟩
      · unfold ini at hg
        by_cases z : g = s0
        · rw [if_pos z] at hg
          cases hg
          rw [z]
          exact ⟨t1, valV_pos rfl, .inl (.inl et3)⟩
        · rw [if_neg z] at hg
          cases hg
      · unfold ini at hg
        by_cases z : g = s0
        · rw [if_pos z] at hg
          cases hg
        · rw [valV_neg (fun y => z (by have := Sum.inl.inj y; omega))]
          rfl
    generalize upd H2 d (.dK [(Sum.inl ((s0 : Nat) : Int), .ref t1)]) = H3 at s3 et3 kn0
    -- last
    refine ⟨(by show 1 ≤ sizeLine; decide), fun l0 hl0 => ?_⟩
    have t4 := same_new (o := .lst [.non]) hl0
    have e4 : (upd H3 l0 (.lst [.non])) l0 = some (.lst [.non]) := upd_same
    generalize upd H3 l0 (.lst [.non]) = H4 at t4 e4
    have s14 := s3.trans t4
    refine ⟨_, rfl, p, C, dx, _, _, rfl, s14 _ _ ob, T.cl, T.nG, nf_gates _ _, ng, gv, rfl, .inl (SqL.of (s14 _ _ hgv)), l0, _, _, rfl, rfl, e4, by omega, by omega, ?_, fun lL hlL => ?_⟩
    · show 1 * _ ≤ sizeLine
      exact Nat.le_of_lt (small1000 (by omega))
    have eL : (List.replicate ((gv.length : Nat) : Int).toNat [V.non]).flatten = (List.replicate gs.length (none : Option Nat)).map lasV := by
      rw [Int.toNat_natCast, hlg]
      have : ∀ n : Nat, (List.replicate n [V.non]).flatten = (List.replicate n (none : Option Nat)).map lasV := fun n => by
        induction n with
        | zero => rfl
        | succ n ih =>
          rw [List.replicate_succ, List.flatten_cons, ih, List.replicate_succ]
          rfl
      exact this _
    rw [eL]
    have t5 := same_new (o := .lst ((List.replicate gs.length (none : Option Nat)).map lasV)) hlL
    have e5 : (upd H4 lL (.lst ((List.replicate gs.length (none : Option Nat)).map lasV))) lL = some (.lst ((List.replicate gs.length (none : Option Nat)).map lasV)) := upd_same
    have hlL0 : H lL = none := s14.free hlL
    have kn5 := (kn0.same t4).same t5
    generalize upd H4 lL (.lst ((List.replicate gs.length (none : Option Nat)).map lasV)) = H5 at t5 e5 kn5
    have s15 := s14.trans t5
    have nLd : lL ≠ d := fun z => by
      rw [z, kn5.at_] at e5
      cases e5
    refine gn_norm (σ' := [some (.ref p), some (.int (s0 : Nat)), some (.ref d), some (.ref lL), none, none, none, none, none, none]) rfl ?_
    refine ⟨fun m σ H' => ∃ (k : Nat) (b : Bool) (u5 u6 u7 u8 u9 : Option V) (kvs : List (Key × V)) (ks : List Nat) (La : List (Option Nat)), σ = [some (.ref p), some (.int (s0 : Nat)), some (.ref d), some (.ref lL), some (.bl b), u5, u6, u7, u8, u9] ∧ m = (if b = true then gs.length + 1 - k else 0) ∧ k ≤ gs.length ∧ (b = true → k < gs.length) ∧ (b = false → Fix gs ws (rnds gs ws s0 k)) ∧
        Same H H' ∧ KnD K H' d (rnds gs ws s0 k) kvs ks ∧ H' lL = some (.lst (La.map lasV)) ∧ LaI gs ws s0 (rnds gs ws s0 k) La, ⟨_, 0, true, _, _, _, _, _, _, _, _, rfl, rfl, Nat.zero_le _, fun _ => by omega, (fun z => nomatch z), s15, kn5, e5, LaI.ini gs ws s0⟩, ?_⟩
    rintro m σ H6 ⟨k, b, u5, u6, u7, u8, u9, kvs, ks, La, rfl, rfl, hk, hkb, hfb, s6, kn6, eL6, la6⟩
    refine ⟨_, rfl, b, rfl, ?_⟩
    cases b with
    | false =>
      refine iteF ?_
      obtain ⟨lok, eb⟩ := la6.ok N hs0 hk (hfb rfl)
      refine ⟨_, rfl, _, rfl, (by show 2 ≤ sizeLine; decide), fun t ht => ?_⟩
      have st := same_new (o := .tup [.ref d, .ref lL]) ht
      rw [eb] at kn6
      exact q t d lL kvs ks La _ (s6.trans st) upd_same (kn6.same st) (st _ _ eL6) hlL0 lok
    | true =>
      refine iteT ?_
      have hkn := hkb rfl
      refine ⟨fun σ H' => ∃ (b : Bool) (u5 u6 u7 u8 u9 : Option V) (kvs : List (Key × V)) (ks : List Nat) (La : List (Option Nat)), σ = [some (.ref p), some (.int (s0 : Nat)), some (.ref d), some (.ref lL), some (.bl b), u5, u6, u7, u8, u9] ∧ (b = true → k + 1 < gs.length) ∧ (b = false → Fix gs ws (rnds gs ws s0 (k + 1))) ∧
        Same H H' ∧ KnD K H' d (rnds gs ws s0 (k + 1)) kvs ks ∧ H' lL = some (.lst (La.map lasV)) ∧ LaI gs ws s0 (rnds gs ws s0 (k + 1)) La, fun σ' H' ⟨b, u5, u6, u7, u8, u9, kvs, ks, La, e, h1, h2, h3, h4, h5, h6⟩ => ⟨if b = true then gs.length + 1 - (k + 1) else 0, ?_, k + 1, b, u5, u6, u7, u8, u9, kvs, ks, La, e, rfl, by omega, h1, h2, h3, h4, h5, h6⟩, ?_⟩
      · rw [if_pos rfl]
        split <;> omega
      refine ⟨_, rfl, p, C, dx, _, _, rfl, s6 _ _ ob, T.cl, T.nW, nf_wires _ _, nw, wv, rfl, SqL.of (s6 _ _ hwv), for_it (walk_enum (K := K) (a := nw) (xs := wv)) (fun j σ H' => ∃ (b : Bool) (u5 u6 u7 u8 u9 : Option V) (kvs : List (Key × V)) (ks : List Nat) (La : List (Option Nat)), σ = [some (.ref p), some (.int (s0 : Nat)), some (.ref d), some (.ref lL), some (.bl b), u5, u6, u7, u8, u9] ∧
          (b = false → (ws.take j).foldl (Lag.rel gs) (rnds gs ws s0 k) = rnds gs ws s0 k ∧ ∀ i x, i < j → ws[i]? = some x → ¬ bet gs (rnds gs ws s0 k) x) ∧ (b = true → ¬ Fix gs ws (rnds gs ws s0 k)) ∧
          Same H H' ∧ KnD K H' d ((ws.take j).foldl (Lag.rel gs) (rnds gs ws s0 k)) kvs ks ∧ H' lL = some (.lst (La.map lasV)) ∧ LaI gs ws s0 ((ws.take j).foldl (Lag.rel gs) (rnds gs ws s0 k)) La) ⟨false, _, _, _, _, _, kvs, ks, La, rfl, fun _ => ⟨rfl, fun i x hi => absurd hi (Nat.not_lt_zero _)⟩, (fun z => nomatch z), s6, kn6, eL6, la6⟩ (fun j σ H' _ ⟨_, _, _, _, _, _, _, _, _, _, _, _, sm, _⟩ => SqL.of (sm _ _ hwv)) ?_ ?_⟩
      · rintro j v σ H7 H7' hj ⟨b, u5, u6, u7, u8, u9, kvs, ks, La, rfl, hbf, hbt, sm, kn7, eL7, la7⟩ ⟨T', x1, y, rfl, hT, rfl, ex, ey⟩
        cases ex
        obtain ⟨x, hx, a, b', rfl, sq1, sq2⟩ := wa.get ey
        have hji : j < ws.length := (List.getElem?_eq_some_iff.mp hx).1
        have WX := N.wok x (List.mem_of_getElem? hx)
        have sT := same_new (o := .tup [.int (j : Nat), .ref a]) hT
        have eT : (upd H7 T' (.tup [.int (j : Nat), .ref a])) T' = some (.tup [.int (j : Nat), .ref a]) := upd_same
        have sm8 := sm.trans sT
        have kn8 := kn7.same sT
        have eL8 := sT _ _ eL7
        generalize upd H7 T' (.tup [.int (j : Nat), .ref a]) = H8 at sT eT sm8 kn8 eL8
        have tk8 := TK.same sm8
        have hfs := fold_succ (gs := gs) (D := rnds gs ws s0 k) hx
        have S0 : Snd gs ws s0 ((ws.take j).foldl (Lag.rel gs) (rnds gs ws s0 k)) := Snd.fold (fun y hy => List.mem_of_mem_take hy) (Snd.rnds k)
        have lD : leD ((ws.take j).foldl (Lag.rel gs) (rnds gs ws s0 k)) (ini gs s0) := (fold_le gs _ _).trans (rnds_le k)
        have hDs := S0.at_s N lD
        refine ⟨T', _, rfl, .inl (.inl eT), rfl, _, _, rfl, _, _, rfl, a, _, rfl, tk8.seq sq1, rfl, _, _, rfl, _, _, rfl, _, _, rfl, rfl, rfl, ?_⟩
        generalize hDj : (ws.take j).foldl (Lag.rel gs) (rnds gs ws s0 k) = Dj at *
        cases hc : Dj x.1 with
        | none =>
          refine ⟨_, rfl, _, rfl, d, none, rfl, kn8.getN hc, _, rfl, iteF ?_⟩
          have er : Lag.rel gs Dj x = Dj := rel_none hc
          rw [er] at hfs
          refine ⟨b, _, _, _, _, _, kvs, ks, La, rfl, fun hb => ⟨?_, fun i y hi hy => ?_⟩, hbt, sm8, ?_, eL8, ?_⟩
          · rw [hfs]
            exact (hbf hb).1
          · by_cases e : i = j
            · subst e
              rw [hx] at hy
              cases hy
              rintro ⟨c, h1, _⟩
              rw [← (hbf hb).1, hc] at h1
              cases h1
            · exact (hbf hb).2 i y (by omega) hy
          · rw [hfs]
            exact kn8
          · rw [hfs]
            exact la7
        | some c =>
          obtain ⟨tc, hg, hsc⟩ := kn8.get hc
          refine ⟨_, rfl, _, rfl, d, _, rfl, hg, _, rfl, iteT ?_⟩
          obtain ⟨_, hvg, ag, rfl, sqg⟩ := ga.getR (List.getElem?_eq_getElem WX.e)
          have ew : (gs[x.2.1]'WX.e).2 = gw gs x.2.1 := (gw_get (List.getElem?_eq_getElem WX.e)).symm
          rw [ew] at sqg
          refine ⟨_, rfl, _, rfl, d, _, rfl, hg, tc, _, 0, _, rfl, rfl, hsc, atI_nat (j := 0) rfl, _, rfl, b', _, rfl, .inr (tk8.seq sq2), _, _, rfl, rfl, ?_⟩
          refine ⟨_, rfl, _, rfl, d, _, rfl, hg, tc, _, 1, _, rfl, rfl, hsc, atI_nat (j := 1) rfl, _, rfl, p, C, dx, _, _, rfl, sm8 _ _ ob, T.cl, T.nG, nf_gates _ _, _, rfl, ng, _, x.2.1, _, rfl, rfl, SqL.of (sm8 _ _ hgv), atI_nat hvg, ag, _, 1, _, rfl, rfl, tk8.seq sqg, atI_nat (j := 1) rfl, _, _, rfl, rfl, (by show 2 ≤ sizeLine; decide), fun t9 ht9 => ?_⟩
          rw [List.length_map]
          have eadd : (c.1 + ((x.2.2.length : Nat) : Int), c.2 - gw gs x.2.1) = addC gs c x := rfl
          have s9 := same_new (o := .tup [.int (c.1 + ((x.2.2.length : Nat) : Int)), .int (c.2 - gw gs x.2.1)]) ht9
          have et9 : (upd H8 t9 (.tup [.int (c.1 + ((x.2.2.length : Nat) : Int)), .int (c.2 - gw gs x.2.1)])) t9 = some (.tup [.int (addC gs c x).1, .int (addC gs c x).2]) := upd_same
          have sm9 := sm8.trans s9
          have kn9 := kn8.same s9
          have eL9 := s9 _ _ eL8
          generalize upd H8 t9 (.tup [.int (c.1 + ((x.2.2.length : Nat) : Int)), .int (c.2 - gw gs x.2.1)]) = H9 at s9 et9 sm9 kn9 eL9
          refine gn_norm (σ' := [some (.ref p), some (.int (s0 : Nat)), some (.ref d), some (.ref lL), some (.bl b), some (.int (j : Nat)), some (.int (x.1 : Nat)), some (.int (x.2.1 : Nat)), some (.ref b'), some (.ref t9)]) rfl ?_
          have notb : ∀ (o : Cst), Dj x.2.1 = some o → ¬ ltC (addC gs c x) o → Lag.rel gs Dj x = Dj ∧ ¬ bet gs Dj x := fun o ho hn => by
            refine ⟨by rw [rel_old hc ho, if_neg hn], ?_⟩
            rintro ⟨c2, h1, h2⟩
            rw [hc] at h1
            cases h1
            exact hn (h2 o ho)
          cases ho : Dj x.2.1 with
          | none =>
            have hbet : ∀ o, Dj x.2.1 = some o → ltC (addC gs c x) o := fun o h => by rw [ho] at h; cases h
            refine ⟨_, rfl, _, rfl, d, none, rfl, kn9.getN ho, _, rfl, iteT ?_⟩
            have hsz : kvs.length < sizeLine := by
              have := kn9.len
              have := svNodup_le kn9.nd fun v hv => by
                obtain ⟨c', hc'⟩ := (kn9.mem v).mp hv
                obtain ⟨vs, hvs⟩ := S0 v c' hc'
                obtain ⟨ps, hps, _⟩ := hvs.pw
                exact hps.lt N hs0
              exact small1000 (by omega)
            refine ⟨_, rfl, _, rfl, _, rfl, d, _, rfl, DPut.k (k := Sum.inl ((x.2.1 : Nat) : Int)) kn9.at_ hsz, ?_⟩
            obtain ⟨ks', kn10⟩ := kn9.put (e := x.2.1) (c := addC gs c x) et9
            have sm10 : Same H (upd H9 d (.dK (putK kvs (Sum.inl ((x.2.1 : Nat) : Int)) (.ref t9)))) := same_mut sm9 hd
            have eL10 : (upd H9 d (.dK (putK kvs (Sum.inl ((x.2.1 : Nat) : Int)) (.ref t9)))) lL = some (.lst (La.map lasV)) := (upd_ne nLd).trans eL9
            generalize upd H9 d (.dK (putK kvs (Sum.inl ((x.2.1 : Nat) : Int)) (.ref t9))) = H10 at kn10 sm10 eL10
            have heL : x.2.1 < La.length := by rw [la7.len]; exact WX.e
            refine ⟨_, rfl, _, rfl, _, rfl, lL, _, _, x.2.1, rfl, rfl, eL10, Evl.ixN_nat (by rw [List.length_map]; exact heL), ?_⟩
            have er : Lag.rel gs Dj x = setD Dj x.2.1 (addC gs c x) := rel_bet hc hbet
            rw [er] at hfs
            have nfx : ¬ Fix gs ws (rnds gs ws s0 k) := fun F => by
              cases b with
              | true => exact hbt rfl F
              | false =>
                rw [(hbf rfl).1] at hc hbet
                exact F x (List.mem_of_getElem? hx) ⟨c, hc, hbet⟩
            refine ⟨true, _, _, _, _, _, putK kvs (Sum.inl ((x.2.1 : Nat) : Int)) (.ref t9), ks', La.set x.2.1 (some j), rfl, (fun z => nomatch z), fun _ => nfx, same_mut sm10 hlL0, ?_, ?_, ?_⟩
            · rw [hfs]
              exact kn10.mut eL10
            · rw [upd_same, List.map_set]
              rfl
            · rw [hfs]
              exact la7.set N hx hc hbet hDs S0
          | some o =>
            obtain ⟨to, hgo, hso⟩ := kn9.get ho
            refine ⟨_, rfl, _, rfl, d, _, rfl, hgo, _, rfl, iteF ?_⟩
            refine ⟨_, rfl, _, rfl, _, rfl, d, _, rfl, hgo, t9, to, [(addC gs c x).1, (addC gs c x).2], [o.1, o.2], rfl, rfl, .inl (.inl et9), hso, _, rfl, ?_⟩
            rw [lex_ltC]
            refine ite2 (fun e => ?_) (fun e => ?_)
            · have hlt : ltC (addC gs c x) o := of_decide_eq_true e
              have hbet : ∀ o', Dj x.2.1 = some o' → ltC (addC gs c x) o' := fun o' h => by rw [ho] at h; cases h; exact hlt
              have hsz : kvs.length < sizeLine := by
                have := kn9.len
                have := svNodup_le kn9.nd fun v hv => by
                  obtain ⟨c', hc'⟩ := (kn9.mem v).mp hv
                  obtain ⟨vs, hvs⟩ := S0 v c' hc'
                  obtain ⟨ps, hps, _⟩ := hvs.pw
                  exact hps.lt N hs0
                exact small1000 (by omega)
              refine ⟨_, rfl, _, rfl, _, rfl, d, _, rfl, DPut.k (k := Sum.inl ((x.2.1 : Nat) : Int)) kn9.at_ hsz, ?_⟩
              obtain ⟨ks', kn10⟩ := kn9.put (e := x.2.1) (c := addC gs c x) et9
              have sm10 : Same H (upd H9 d (.dK (putK kvs (Sum.inl ((x.2.1 : Nat) : Int)) (.ref t9)))) := same_mut sm9 hd
              have eL10 : (upd H9 d (.dK (putK kvs (Sum.inl ((x.2.1 : Nat) : Int)) (.ref t9)))) lL = some (.lst (La.map lasV)) := (upd_ne nLd).trans eL9
              generalize upd H9 d (.dK (putK kvs (Sum.inl ((x.2.1 : Nat) : Int)) (.ref t9))) = H10 at kn10 sm10 eL10
              have heL : x.2.1 < La.length := by rw [la7.len]; exact WX.e
              refine ⟨_, rfl, _, rfl, _, rfl, lL, _, _, x.2.1, rfl, rfl, eL10, Evl.ixN_nat (by rw [List.length_map]; exact heL), ?_⟩
              have er : Lag.rel gs Dj x = setD Dj x.2.1 (addC gs c x) := rel_bet hc hbet
              rw [er] at hfs
              have nfx : ¬ Fix gs ws (rnds gs ws s0 k) := fun F => by
                cases b with
                | true => exact hbt rfl F
                | false =>
                  rw [(hbf rfl).1] at hc hbet
                  exact F x (List.mem_of_getElem? hx) ⟨c, hc, hbet⟩
              refine ⟨true, _, _, _, _, _, putK kvs (Sum.inl ((x.2.1 : Nat) : Int)) (.ref t9), ks', La.set x.2.1 (some j), rfl, (fun z => nomatch z), fun _ => nfx, same_mut sm10 hlL0, ?_, ?_, ?_⟩
              · rw [hfs]
                exact kn10.mut eL10
              · rw [upd_same, List.map_set]
                rfl
              · rw [hfs]
                exact la7.set N hx hc hbet hDs S0
            · have hlt : ¬ ltC (addC gs c x) o := fun z => e (decide_eq_true z)
              obtain ⟨er, nb⟩ := notb o ho hlt
              rw [er] at hfs
              refine ⟨b, _, _, _, _, _, kvs, ks, La, rfl, fun hb => ⟨?_, fun i y hi hy => ?_⟩, hbt, sm9, ?_, eL9, ?_⟩
              · rw [hfs]
                exact (hbf hb).1
              · by_cases ei : i = j
                · subst ei
                  rw [hx] at hy
                  cases hy
                  rw [← (hbf hb).1]
                  exact nb
                · exact (hbf hb).2 i y (by omega) hy
              · rw [hfs]
                exact kn9
              · rw [hfs]
                exact la7
      · rintro σ H7 ⟨b, u5, u6, u7, u8, u9, kvs, ks, La, rfl, hbf, hbt, sm, kn7, eL7, la7⟩
        rw [hlw, List.take_length] at hbf kn7 la7
        refine ⟨b, _, _, _, _, _, kvs, ks, La, rfl, fun hb => ?_, fun hb => ?_, sm, kn7, eL7, la7⟩
        · rcases Nat.lt_or_ge (k + 1) gs.length with h | h
          · exact h
          · exact absurd (rnds_fix N hs0 h) (hbt hb)
        · have hfx : Fix gs ws (rnds gs ws s0 k) := fun y hy => by
            obtain ⟨i, hi⟩ := List.getElem?_of_mem hy
            exact (hbf hb).2 i y (List.getElem?_eq_some_iff.mp hi).1 hi
          have : rnds gs ws s0 (k + 1) = rnds gs ws s0 k := fold_fix hfx
          rw [this]
          exact hfx
end
end Lag


set_option maxRecDepth 100000
set_option maxHeartbeats 8000000
namespace Lag
open PySem PySem.Spec PyProof.Rows L2
/-! ### xs[::-1] of a list -/
theorem rev_range : ∀ (xs : List Value), (List.range xs.length).filterMap (fun k => xs[xs.length - 1 - k]?) = xs.reverse := fun xs => by
  refine List.ext_getElem? fun i => ?_
  have h0 : ((List.range xs.length).filterMap fun k => xs[xs.length - 1 - k]?) = (List.range xs.length).map fun k => xs.getD (xs.length - 1 - k) .none := by
    have : ∀ l : List Nat, (∀ k ∈ l, k < xs.length) → (l.filterMap fun k => xs[xs.length - 1 - k]?) = l.map fun k => xs.getD (xs.length - 1 - k) .none := fun l hl => by
      induction l with
      | nil => rfl
      | cons k l ih =>
        have hk := hl k (by simp)
        rw [List.filterMap_cons, List.map_cons, ih fun j hj => hl j (List.mem_cons_of_mem _ hj), List.getElem?_eq_getElem (by omega), List.getD_eq_getElem?_getD, List.getElem?_eq_getElem (by omega)]
        rfl
    exact this _ fun k hk => List.mem_range.mp hk
  rw [h0, List.getElem?_map]
  by_cases hi : i < xs.length
  · rw [List.getElem?_eq_getElem (by simpa using hi), List.getElem_range, List.getElem?_reverse hi, List.getElem?_eq_getElem (by omega)]
    show some (xs.getD _ _) = _
    rw [List.getD_eq_getElem?_getD, List.getElem?_eq_getElem (by omega)]
    rfl
  · rw [List.getElem?_eq_none (by simpa using hi), List.getElem?_eq_none (by simpa using hi)]
    rfl
theorem slicePick_rev (its : List Value) : slicePick its.toArray none none (some (-1)) = its.reverse.toArray := by
  have hb : sliceBounds none none (some (-1)) its.toArray.size = ((its.length : Int) - 1, -1, -1) := by
    rw [List.size_toArray]
    rfl
  unfold slicePick
  rw [hb]
  have hr : PySem.sliceRange ((its.length : Int) - 1) (-1) (-1) = (List.range its.length).map fun k => its.length - 1 - k := by
    unfold PySem.sliceRange
    have hc : (if (-1 : Int) > 0 then (if (its.length : Int) - 1 < -1 then (-1 - ((its.length : Int) - 1) + -1 - 1) / -1 else 0) else (if (its.length : Int) - 1 > -1 then ((its.length : Int) - 1 - -1 - -1 - 1) / -(-1) else 0)).toNat = its.length := by
      rw [if_neg (by decide)]
      split
      · have : ((its.length : Int) - 1 - -1 - -1 - 1) / -(-1) = its.length := by
          rw [show (-(-1) : Int) = 1 from rfl, Int.ediv_one]
          omega
        rw [this, Int.toNat_natCast]
      · omega
    show (List.range (if (-1 : Int) > 0 then (if (its.length : Int) - 1 < -1 then (-1 - ((its.length : Int) - 1) + -1 - 1) / -1 else 0) else (if (its.length : Int) - 1 > -1 then ((its.length : Int) - 1 - -1 - -1 - 1) / -(-1) else 0)).toNat).map _ = _
    rw [hc]
    refine List.map_congr_left fun k hk => ?_
    have := List.mem_range.mp hk
    omega
  show ((PySem.sliceRange ((its.length : Int) - 1) (-1) (-1)).filterMap (its.toArray[·]?)).toArray = _
  rw [hr, List.filterMap_map]
  congr 1
  refine Eq.trans ?_ (rev_range its)
  congr 1
  funext k
  show its.toArray[its.length - 1 - k]? = its[its.length - 1 - k]?
  simp
section
variable {X : Cx} {e : Expr} {te ts : TE} {p1 p2 p3 pos : Pos}
/-- xs[::-1] -/
def tRevL (K : PySem.W.Frag) (te ts : TE) : TE := fun σ H Q => te σ H fun x H1 => ts σ H1 fun y H2 => ∃ (a : Addr) (xs : List V), x = .ref a ∧ y = .int (-1) ∧ SqL K H2 a xs ∧ ∀ b, H2 b = none → Q (.ref b) (upd H2 b (.lst xs.reverse))
theorem pe_revL {st : Expr} (he : PE X e te) (hs : PE X st ts) : PE X (.Subscript e (.Slice none none (some st) p2) pos) (tRevL X.K te ts) := by
  refine ⟨fun pins s σ H Q I h => ?_⟩
  refine Subscript_ (thn (he.run pins s σ H _ I h) fun v s1 ⟨x, H1, I1, r1, q1⟩ => ?_)
  refine wpAny_Slice (thn (po_none.run pins s1 σ H1 (fun o H3 => o = none ∧ H3 = H1) I1 ⟨rfl, rfl⟩) fun vl s2 ⟨u, H2, I2, pl, eu, e2⟩ => ?_)
  subst eu e2
  refine thn (po_none.run pins s2 σ H2 (fun o H3 => o = none ∧ H3 = H2) I2 ⟨rfl, rfl⟩) fun vu s3 ⟨u, H3, I3, pu, eu, e3⟩ => ?_
  subst eu e3
  refine thn (hs.run pins s3 σ H3 _ I3 q1) fun vs s4 ⟨z, H4, I4, r4, q4⟩ => ?_
  obtain ⟨a, xs, rfl, rfl, hx, q⟩ := q4
  have e1 : v = Value.ref a := r1
  obtain ⟨t4, e4⟩ : ∃ t, vs = Value.int (-1) t := r4
  subst e1 e4
  cases pl
  cases pu
  have I5 : Inv X pins σ H4 { s4 with heap := s4.heap.push { cls := .type "slice", data := .fields #[.none, .none, .int (-1) t4] } } := I4.kept (t' := s4.toks) fun b ob q => Heap.get?_push_of_some _ q
  obtain ⟨its, r, ht, hz⟩ := I5.list hx
  have hlen := r.length
  show wpAny (model X.prog X.w) X.A (subscriptTail e (.Slice none none (some st) p2) (.ref a) (.ref s4.heap.objs.size)) (EP X pins σ Q) X.xe { s4 with heap := s4.heap.push { cls := .type "slice", data := .fields #[.none, .none, .int (-1) t4] } }
  refine tail_any (ops := [.ref a, .ref s4.heap.objs.size]) ht.isList.typeIs slot_list_getitem.lookup ?_ (by with_unfolding_all rfl)
  refine wpAny_getItem_list_slice ht.isList (Heap.IsSliceOf.new ..) .none .none (.int _ _) (by decide) ?_ (by rw [List.size_toArray]; omega)
  rw [slicePick_rev]
  have rr : Vals xs.reverse its.reverse := r.reverse
  refine ⟨.ref _, _, I5.laid (t' := s4.toks) (o := .lst xs.reverse) (fun b ob q => Heap.get?_push_of_some _ q) (Nat.le_refl _) ?_, rfl, q _ (I5.hok.fresh (Nat.le_refl _))⟩
  exact ⟨by rw [List.length_reverse]; omega, _, 0, rr, Heap.get?_push_size _ rfl⟩
end
section
variable {P : Program} {w : World} {K : PySem.W.Frag} {mg : Str → Option Value} {base : Heap}
abbrev nWayTo : List Str := ["net", "gate", "last", "wires"]
theorem scWayTo : FnScope nWayTo ["net", "gate", "last"] (defScope sWayTo) := ⟨rfl, rfl, rfl, by decide +kernel, rfl, by decide +kernel, by decide +kernel⟩
abbrev DWayTo (P : Program) (w : World) (K : PySem.W.Frag) (mg : Str → Option Value) (base : Heap) (C : Addr) := Df P w K mg base 1 "way_to" ["net", "gate", "last"] (spWayTo K C)
theorem ok_wayTo {f C : Addr} {fd : FuncData} (F : Fun K "way_to" "way_to" sWayTo f fd) (hm : mg "way_to" = some (.ref f)) (B : Bt mg) (T : NT K mg C) : DWayTo P w K mg base C f fd := by
  refine ⟨?_, hm, F.kp, F.binds fun _ _ _ _ _ _ us hl => match us, hl with | [_, _, _], _ => rfl⟩
  refine F.ok scWayTo (fun vs H Q E h => ?_) (fun cdv A outer s H vs Q E hr h => ?_)
  · obtain ⟨p, ng, nw, lL, gs, ws, La, g, s, ps, rfl, _⟩ := h
    rfl
  · obtain ⟨p, ng, nw, lL, gs, ws, La, g0, s0, ps, rfl, NA, N, hL, hll, hg0, bk0, hpl, q⟩ := h
    have nd := scWayTo.nd
    refine ⟨_, pss_cons (ps_set (i := 3) nd rfl (.inl rfl) (pe_lst pa_nil)) <|
        pss_cons (ps_while PassesOwn.never (pt_cmpR op_notN (pe_ix ix_list (pv 2) (pv 1) (fun _ _ => rfl)) pe_non (nomark _)) (pss_cons (ps_expr (pe_bm PySem.F.plainAttrs_list PySem.F.slot_list_append PySem.F.type_list_append mt_append (pv 3) (pa_cons (pe_ix ix_list (pv 2) (pv 1) (fun _ _ => rfl)) pa_nil))) <|
        pss_one (ps_set (i := 1) nd rfl (.inl rfl) (pe_ix ix_tup (pe_ix ix_list (pe_fld (pv 0) rfl) (pe_ix ix_list (pv 2) (pv 1) (fun _ _ => rfl)) (fun _ _ => rfl)) pe_int (fun _ _ => rfl))))) <|
        pss_one (ps_ret (pe_tup (pa_cons (pv 1) (pa_cons (pe_revL (pv 3) (pe_un un_neg pe_int)) pa_nil)))), ?_⟩
    obtain ⟨dx, ob⟩ := id NA.ob
    obtain ⟨wv, hwv, wa⟩ := id NA.w
    refine ⟨(by show 0 ≤ sizeLine; decide), fun lx hlx => ?_⟩
    have s1 := same_new (o := .lst []) hlx
    have e1 : (upd H lx (.lst [])) lx = some (.lst []) := upd_same
    generalize upd H lx (.lst []) = H1 at s1 e1
    refine gn_norm (σ' := [some (.ref p), some (.int (g0 : Nat)), some (.ref lL), some (.ref lx)]) rfl ?_
    refine ⟨fun m σ H' => ∃ (c : Nat) (acc rest : List Nat), σ = [some (.ref p), some (.int (c : Nat)), some (.ref lL), some (.ref lx)] ∧ m = rest.length ∧ c < gs.length ∧ Same H H' ∧ H' lx = some (.lst (nvs acc)) ∧ Bk ws La c rest s0 ∧ ps = acc ++ rest, ⟨_, g0, [], ps, rfl, rfl, hg0, s1, e1, bk0, rfl⟩, ?_⟩
    rintro m σ H2 ⟨c, acc, rest, rfl, rfl, hc, s2, ex, bk, rfl⟩
    have hcL : c < La.length := by rw [hll]; exact hc
    have eL := s2 _ _ hL
    refine ⟨_, rfl, _, rfl, lL, _, c, _, rfl, rfl, SqL.of eL, atI_nat (las_at hcL), rfl, _, rfl, ?_⟩
    rw [List.length_append] at hpl
    cases bk with
    | nil ela =>
      rw [ela]
      refine iteF ?_
      refine ⟨_, rfl, ?_⟩
      refine ⟨_, rfl, _, rfl, lx, _, rfl, rfl, SqL.of ex, fun lr hlr => ?_⟩
      have s3 := same_new (o := .lst (nvs acc).reverse) hlr
      have e3 : (upd H2 lr (.lst (nvs acc).reverse)) lr = some (.lst (nvs acc).reverse) := upd_same
      generalize upd H2 lr (.lst (nvs acc).reverse) = H3 at s3 e3
      refine ⟨(by show 2 ≤ sizeLine; decide), fun t ht => ?_⟩
      have s4 := same_new (o := .tup [.int (s0 : Nat), .ref lr]) ht
      refine q t lr _ ((s2.trans s3).trans s4) ((s2.trans s3).free ht) (s2.free hlr) upd_same ?_
      rw [s4 _ _ e3, List.append_nil]
      unfold nvs
      rw [List.map_reverse]
    | @cons _ k _ x rest ela hx hxe bk =>
      rw [ela]
      refine iteT ?_
      have WX := N.wok x (List.mem_of_getElem? hx)
      refine ⟨fun σ H' => ∃ (c' : Nat) (acc' rest' : List Nat), σ = [some (.ref p), some (.int (c' : Nat)), some (.ref lL), some (.ref lx)] ∧ rest'.length < rest.length + 1 ∧ c' < gs.length ∧ Same H H' ∧ H' lx = some (.lst (nvs acc')) ∧ Bk ws La c' rest' s0 ∧ acc ++ k :: rest = acc' ++ rest', fun σ' H' ⟨c', acc', rest', e, hlt, r2⟩ => ⟨rest'.length, hlt, c', acc', rest', e, rfl, r2⟩, ?_⟩
      have hla : (La.map lasV)[c]? = some (.int (k : Nat)) := by rw [las_at hcL, ela]; rfl
      rw [List.length_cons] at hpl
      refine ⟨_, rfl, .inl ⟨rfl, _, SqL.of ex⟩, _, rfl, _, rfl, lL, _, c, _, rfl, rfl, SqL.of eL, atI_nat hla, lx, _, _, rfl, rfl, ex, by rw [nvs_len]; exact small1000 (by omega), ?_⟩
      have s5 : Same H (upd H2 lx (.lst (nvs acc ++ [.int (k : Nat)]))) := same_mut s2 hlx
      obtain ⟨_, hv, a, b, rfl, sq1, sq2⟩ := wa.getR hx
      refine ⟨_, rfl, p, C, dx, _, _, rfl, s5 _ _ ob, T.cl, T.nW, nf_wires _ _, _, rfl, _, rfl, lL, _, c, _, rfl, rfl, SqL.of (s5 _ _ hL), atI_nat hla, nw, _, k, _, rfl, rfl, SqL.of (s5 _ _ hwv), atI_nat hv, a, _, 0, _, rfl, rfl, (TK.same s5).seq sq1, atI_nat (j := 0) rfl, ?_⟩
      refine ⟨x.1, acc ++ [k], rest, rfl, Nat.lt_succ_self _, WX.s, s5, ?_, bk, by rw [List.append_assoc]; rfl⟩
      rw [upd_same]
      unfold nvs
      rw [List.map_append]
      rfl
end
end Lag


set_option maxRecDepth 100000
set_option maxHeartbeats 8000000
namespace Lag
open PySem PySem.Spec PyProof.Rows L2
abbrev sWaitOf : Stmt := topS 23 -- @wait_of
abbrev sRoomOf : Stmt := topS 24 -- @room_of
abbrev sSpotsIn : Stmt := topS 48 -- @spots_in
abbrev sSpotsOf : Stmt := topS 49 -- @spots_of
abbrev sLagsAt : Stmt := topS 50 -- @lags_at
/-- a piece -/
def PceV (K : PySem.W.Frag) (H : Hp) (v : V) (pc : Pce) : Prop := ∃ a l, v = .ref a ∧ SqT K H a [.int (pc.1 : Nat), .ref l] ∧ SqL K H l (nvs pc.2)
theorem PceV.same {K : PySem.W.Frag} {H H' : Hp} {v : V} {pc : Pce} (s : Same H H') (h : PceV K H v pc) : PceV K H' v pc := by
  obtain ⟨a, l, e, h1, h2⟩ := h
  exact ⟨a, l, e, (TK.same s).seq h1, s.seq h2⟩
theorem nvs_at {r : List Nat} {i k : Nat} (h : r[i]? = some k) : (nvs r)[i]? = some (.int (k : Nat)) := by
  unfold nvs
  rw [List.getElem?_map, h]
  rfl
theorem nvs_of {r : List Nat} {i : Nat} {v : V} (h : (nvs r)[i]? = some v) : ∃ k, r[i]? = some k ∧ v = .int (k : Nat) := by
  unfold nvs at h
  rw [List.getElem?_map] at h
  cases e : r[i]? with
  | none => rw [e] at h; cases h
  | some k => rw [e] at h; cases h; exact ⟨k, rfl, rfl⟩
def PceOk (gs : List Gt) (ws : List Wr) (pc : Pce) : Prop := pc.1 < gs.length ∧ ∃ e, Pw ws pc.1 pc.2 e
def spWaitOf (K : PySem.W.Frag) (C : Addr) : Sp := fun vs H Q _ => ∃ (p ng nw : Addr) (gs : List Gt) (ws : List Wr) (v : V) (pc : Pce), vs = [.ref p, v] ∧ NetAt K C H p ng nw gs ws ∧ NetOk gs ws ∧ PceV K H v pc ∧ PceOk gs ws pc ∧ pc.2.length ≤ 1000 ∧ ∀ H', Same H H' → Q (.int (pwt gs ws pc.1 pc.2)) H'
def spRoomOf (K : PySem.W.Frag) (C : Addr) : Sp := fun vs H Q _ => ∃ (p ng nw : Addr) (gs : List Gt) (ws : List Wr) (b : Int) (v : V) (pc : Pce), vs = [.ref p, .int b, v] ∧ NetAt K C H p ng nw gs ws ∧ NetOk gs ws ∧ PceV K H v pc ∧ PceOk gs ws pc ∧ pc.2.length ≤ 1000 ∧ ∀ H', Same H H' → Q (.int (roomF gs ws b pc)) H'
def spSpotsIn (K : PySem.W.Frag) (C : Addr) : Sp := fun vs H Q _ => ∃ (p ng nw : Addr) (gs : List Gt) (ws : List Wr), vs = [.ref p] ∧ NetAt K C H p ng nw gs ws ∧ Q (.int ((gs.length + 1 : Nat) : Int)) H
def spotsL (gs : List Gt) : List Nat := (List.range gs.length).map (spotF gs)
def spSpotsOf (K : PySem.W.Frag) (C : Addr) : Sp := fun vs H Q _ => ∃ (p ng nw : Addr) (gs : List Gt) (ws : List Wr), vs = [.ref p] ∧ NetAt K C H p ng nw gs ws ∧ NetOk gs ws ∧ ∀ l H', Same H H' → H l = none → H' l = some (.lst (nvs (spotsL gs))) → Q (.ref l) H'
def spLagsAt (K : PySem.W.Frag) (C : Addr) : Sp := fun vs H Q _ => ∃ (p ng nw lf : Addr) (gs : List Gt) (ws : List Wr) (F : List Int), vs = [.ref p, .ref lf] ∧ NetAt K C H p ng nw gs ws ∧ NetOk gs ws ∧ SqL K H lf (F.map V.int) ∧ gs.length < F.length ∧
  ∀ l H', Same H H' → H l = none → H' l = some (.lst (((List.range gs.length).map (lagsAt gs fun v => F.getD v 0)).map V.int)) → Q (.ref l) H'
theorem spots_at {gs : List Gt} {g : Nat} (h : g < gs.length) : (nvs (spotsL gs))[g]? = some (.int ((spotF gs g : Nat) : Int)) := by
  refine nvs_at ?_
  unfold spotsL
  rw [List.getElem?_map, List.getElem?_range h]
  rfl
theorem sgetD_at {ts : List Int} {g : Nat} (h : g < ts.length) : (ts.map V.int)[g]? = some (.int (ts.getD g 0)) := by
  rw [List.getElem?_map, List.getElem?_eq_getElem h, List.getD_eq_getElem?_getD, List.getElem?_eq_getElem h]
  rfl
theorem skind_get {gs : List Gt} {i : Nat} {g : Gt} (h : gs[i]? = some g) : kindAt gs i = g.1 := by
  unfold kindAt
  rw [List.getD_eq_getElem?_getD, h]
  rfl
section
variable {P : Program} {w : World} {K : PySem.W.Frag} {mg : Str → Option Value} {base : Heap}
abbrev nWaitOf : List Str := ["net", "piece", "gate", "wires", "place"]
theorem scWaitOf : FnScope nWaitOf ["net", "piece"] (defScope sWaitOf) := ⟨rfl, rfl, rfl, by decide +kernel, rfl, by decide +kernel, by decide +kernel⟩
abbrev DWaitOf (P : Program) (w : World) (K : PySem.W.Frag) (mg : Str → Option Value) (base : Heap) (C : Addr) := Df P w K mg base 1 "wait_of" ["net", "piece"] (spWaitOf K C)
theorem ok_waitOf {f C : Addr} {fd : FuncData} (F : Fun K "wait_of" "wait_of" sWaitOf f fd) (hm : mg "wait_of" = some (.ref f)) (B : Bt mg) (ms : mg "sum" = none) (T : NT K mg C) : DWaitOf P w K mg base C f fd := by
  refine ⟨?_, hm, F.kp, F.binds fun _ _ _ _ _ _ us hl => match us, hl with | [_, _], _ => rfl⟩
  refine F.ok scWaitOf (fun vs H Q E h => ?_) (fun cdv A outer s H vs Q E hr h => ?_)
  · obtain ⟨p, ng, nw, gs, ws, v, pc, rfl, _⟩ := h
    rfl
  · obtain ⟨p, ng, nw, gs, ws, _, pc, rfl, NA, N, ⟨a, l, rfl, sa, sl⟩, ⟨hg, e0, hp⟩, hpl, q⟩ := h
    have nd := scWaitOf.nd
    refine ⟨_, pss_cons (ps_asg (pv 1) (pg_tup rfl (pgs_cons (pg_name (i := 2) nd rfl (.inl rfl)) (pgs_cons (pg_name (i := 3) nd rfl (.inl rfl)) pgs_nil)))) <|
        pss_one (ps_ret (pe_op op_add (pe_ix ix_tup (pe_ix ix_list (pe_fld (pv 0) rfl) (pv 2) (fun _ _ => rfl)) pe_int (fun _ _ => rfl)) (pe_callB (cr_sum rfl) (by rfl) ms (by decide +kernel) (pa_cons (pe_lc (own := [("place", 4)]) (g := (gName 4)) (tt := tYes) (te := (tOp (rIxT K) (tOp (rIxL K) (tFld K (tVar 0) "gates") (tOp (rIxT K) (tOp (rIxL K) (tFld K (tVar 0) "wires") (tVar 4)) (tC (.int 1)))) (tC (.int 1)))) rfl nd (pi_list (pv 3)) (blkOk_by (N := nWaitOf) (sc := defScope sWaitOf) (own := [("place", 4)]) (by decide +kernel)) (fun _ _ _ _ _ => (pg_name (i := 4) nd rfl (.inl rfl))) (fun _ _ _ _ _ => pts_nil) (fun _ _ _ _ _ => (pe_ix ix_tup (pe_ix ix_list (pe_fld (pv 0) rfl) (pe_ix ix_tup (pe_ix ix_list (pe_fld (pv 0) rfl) (pv 4) (fun _ _ => rfl)) pe_int (fun _ _ => rfl)) (fun _ _ => rfl)) pe_int (fun _ _ => rfl)))) pa_nil)))), ?_⟩
    obtain ⟨dx, ob⟩ := id NA.ob
    obtain ⟨gv, hgv, ga⟩ := id NA.g
    obtain ⟨wv, hwv, wa⟩ := id NA.w
    have gat : ∀ g, g < gs.length → ∀ H', Same H H' → ∃ b, gv[g]? = some (.ref b) ∧ ∃ k, SqT K H' b [.str k, .int (gw gs g)] := fun g hg H' s => by
      obtain ⟨_, hv, b, rfl, sq⟩ := ga.getR (List.getElem?_eq_getElem hg)
      refine ⟨b, hv, (gs[g]).1, ?_⟩
      rw [gw_get (List.getElem?_eq_getElem hg)]
      exact (TK.same s).seq sq
    refine ⟨_, rfl, a, _, rfl, sa, rfl, _, _, rfl, _, _, rfl, rfl, ?_⟩
    obtain ⟨b0, hb0, k0, sb0⟩ := gat pc.1 hg H (Same.refl _)
    refine ⟨_, rfl, p, C, dx, _, _, rfl, ob, T.cl, T.nG, nf_gates _ _, _, rfl, ng, _, pc.1, _, rfl, rfl, SqL.of hgv, atI_nat hb0, b0, _, 1, _, rfl, rfl, sb0, atI_nat (j := 1) rfl, ?_⟩
    refine ⟨_, rfl, l, rfl, ⟨_, sl⟩, fun D hD => ?_⟩
    refine lc_list (K := K) (a := l) (xs := nvs pc.2) (fun i Hc => Hc D = some (.lst ((((pc.2.take i).map fun p => gw gs (svW ws p).2.1)).map V.int)) ∧ Same H Hc) ⟨by rw [upd_same]; rfl, same_new hD⟩ (fun i Hc _ ⟨_, sm⟩ => sm.seq sl) ?_ ?_
    · rintro i v Hc hv ⟨hc, sm⟩
      obtain ⟨k, hk, rfl⟩ := nvs_of hv
      have hkw := hp.places k (List.mem_of_getElem? hk)
      have hx := List.getElem?_eq_getElem hkw
      obtain ⟨_, hv', b, b2, rfl, s1, s2⟩ := wa.getR hx
      have WX := N.wok _ (List.mem_of_getElem? hx)
      obtain ⟨b3, hb3, k3, sb3⟩ := gat _ WX.e Hc sm
      refine ⟨rfl, tyes ?_⟩
      refine ⟨_, rfl, p, C, dx, _, _, rfl, sm _ _ ob, T.cl, T.nG, nf_gates _ _, _, rfl, p, C, dx, _, _, rfl, sm _ _ ob, T.cl, T.nW, nf_wires _ _, _, rfl, nw, _, k, _, rfl, rfl, SqL.of (sm _ _ hwv), atI_nat hv', b, _, 1, _, rfl, rfl, (TK.same sm).seq s1, atI_nat (j := 1) rfl, ng, _, _, _, rfl, rfl, SqL.of (sm _ _ hgv), atI_nat hb3, b3, _, 1, _, rfl, rfl, sb3, atI_nat (j := 1) rfl, _, hc, ?_, ?_, same_mut sm hD⟩
      · rw [List.length_map, List.length_map, List.length_take]
        exact small1000 (by omega)
      · rw [upd_same, List.take_add_one, hk, List.map_append, List.map_append]
        show _ = some (HO.lst (_ ++ [V.int (gw gs (svW ws k).2.1)]))
        rw [svW_get hx]
    · rintro H2 ⟨hc, sm⟩
      rw [nvs_len, List.take_length] at hc
      exact ⟨D, _, rfl, SqL.of hc, _, _, rfl, rfl, q H2 sm⟩
abbrev nRoomOf : List Str := ["net", "beat", "piece", "gate", "wires", "place", "many"]
theorem scRoomOf : FnScope nRoomOf ["net", "beat", "piece"] (defScope sRoomOf) := ⟨rfl, rfl, rfl, by decide +kernel, rfl, by decide +kernel, by decide +kernel⟩
abbrev DRoomOf (P : Program) (w : World) (K : PySem.W.Frag) (mg : Str → Option Value) (base : Heap) (C : Addr) := Df P w K mg base 2 "room_of" ["net", "beat", "piece"] (spRoomOf K C)
theorem ok_roomOf {f fW C : Addr} {fd fdW : FuncData} (F : Fun K "room_of" "room_of" sRoomOf f fd) (hm : mg "room_of" = some (.ref f)) (B : Bt mg) (ms : mg "sum" = none) (T : NT K mg C) (DWt : DWaitOf P w K mg base C fW fdW) : DRoomOf P w K mg base C f fd := by
  refine ⟨?_, hm, F.kp, F.binds fun _ _ _ _ _ _ us hl => match us, hl with | [_, _, _], _ => rfl⟩
  refine F.ok scRoomOf (fun vs H Q E h => ?_) (fun cdv A outer s H vs Q E hr h => ?_)
  · obtain ⟨p, ng, nw, gs, ws, b, v, pc, rfl, _⟩ := h
    rfl
  · obtain ⟨p, ng, nw, gs, ws, bt, _, pc, rfl, NA, N, ⟨a, l, rfl, sa, sl⟩, ⟨hg, e0, hp⟩, hpl, q⟩ := h
    have nd := scRoomOf.nd
    refine ⟨_, pss_cons (ps_asg (pv 2) (pg_tup rfl (pgs_cons (pg_name (i := 3) nd rfl (.inl rfl)) (pgs_cons (pg_name (i := 4) nd rfl (.inl rfl)) pgs_nil)))) <|
        pss_cons (ps_set (i := 6) nd rfl (.inl rfl) (pe_callB (cr_sum rfl) (by rfl) ms (by decide +kernel) (pa_cons (pe_lc (own := [("place", 5)]) (g := (gName 5)) (tt := tYes) (te := (tCB (Evl.rLenS K) (tCons (tOp (rIxT K) (tOp (rIxL K) (tFld K (tVar 0) "wires") (tVar 5)) (tC (.int 2))) tNil))) rfl nd (pi_list (pv 4)) (blkOk_by (N := nRoomOf) (sc := defScope sRoomOf) (own := [("place", 5)]) (by decide +kernel)) (fun _ _ _ _ _ => (pg_name (i := 5) nd rfl (.inl rfl))) (fun _ _ _ _ _ => pts_nil) (fun _ _ _ _ _ => (pe_callB call_len_seq (by rfl) B.len PySem.boot_len (pa_cons (pe_ix ix_tup (pe_ix ix_list (pe_fld (pv 0) rfl) (pv 5) (fun _ _ => rfl)) pe_int (fun _ _ => rfl)) pa_nil)))) pa_nil))) <|
        pss_one (ps_ret (pe_ifExp (pt_cmpR op_gt (pe_call DWt.ok (hr.mono (by decide)) (by rfl) DWt.mg DWt.kp DWt.bd .nil pass0 (pa_cons (pv 0) (pa_cons (pv 2) pa_nil))) (pv 1) (nomark _)) (pe_op op_sub (pv 6) pe_int) (pv 6))), ?_⟩
    obtain ⟨dx, ob⟩ := id NA.ob
    obtain ⟨wv, hwv, wa⟩ := id NA.w
    refine ⟨_, rfl, a, _, rfl, sa, rfl, _, _, rfl, _, _, rfl, rfl, ?_⟩
    refine ⟨_, rfl, l, rfl, ⟨_, sl⟩, fun D hD => ?_⟩
    refine lc_list (K := K) (a := l) (xs := nvs pc.2) (fun i Hc => Hc D = some (.lst ((((pc.2.take i).map fun p => (((svW ws p).2.2.length : Nat) : Int))).map V.int)) ∧ Same H Hc) ⟨by rw [upd_same]; rfl, same_new hD⟩ (fun i Hc _ ⟨_, sm⟩ => sm.seq sl) ?_ ?_
    · rintro i v Hc hv ⟨hc, sm⟩
      obtain ⟨k, hk, rfl⟩ := nvs_of hv
      have hkw := hp.places k (List.mem_of_getElem? hk)
      have hx := List.getElem?_eq_getElem hkw
      obtain ⟨_, hv', b, b2, rfl, s1, s2⟩ := wa.getR hx
      refine ⟨rfl, tyes ?_⟩
      refine ⟨_, rfl, p, C, dx, _, _, rfl, sm _ _ ob, T.cl, T.nW, nf_wires _ _, _, rfl, nw, _, k, _, rfl, rfl, SqL.of (sm _ _ hwv), atI_nat hv', b, _, 2, _, rfl, rfl, (TK.same sm).seq s1, atI_nat (j := 2) rfl, b2, _, rfl, .inr ((TK.same sm).seq s2), _, hc, ?_, ?_, same_mut sm hD⟩
      · rw [List.length_map, List.length_map, List.length_take]
        exact small1000 (by omega)
      · rw [upd_same, List.take_add_one, hk, List.map_append, List.map_append]
        show _ = some (HO.lst (_ ++ [V.int (((svW ws k).2.2.length : Nat) : Int)]))
        rw [svW_get hx, List.length_map]
    · rintro H2 ⟨hc, sm⟩
      rw [nvs_len, List.take_length] at hc
      refine ⟨D, _, rfl, SqL.of hc, ?_⟩
      refine gn_norm (σ' := [some (.ref p), some (.int bt), some (.ref a), some (.int (pc.1 : Nat)), some (.ref l), none, some (.int (prg ws pc.2))]) rfl ?_
      refine ⟨_, rfl, _, rfl, p, ng, nw, gs, ws, _, pc, rfl, NA.same sm, N, PceV.same sm ⟨a, l, rfl, sa, sl⟩, ⟨hg, e0, hp⟩, hpl, fun H3 s3 => ?_⟩
      have qq := q H3 (sm.trans s3)
      unfold roomF at qq
      refine ⟨_, rfl, _, _, rfl, rfl, _, rfl, ?_⟩
      by_cases hb : bt < pwt gs ws pc.1 pc.2
      · rw [if_pos hb] at qq
        rw [decide_eq_true hb]
        exact iteT ⟨_, rfl, _, _, rfl, rfl, qq⟩
      · rw [if_neg hb] at qq
        rw [decide_eq_false hb]
        exact iteF ⟨_, rfl, qq⟩
abbrev DSpotsIn (P : Program) (w : World) (K : PySem.W.Frag) (mg : Str → Option Value) (base : Heap) (C : Addr) := Df P w K mg base 1 "spots_in" ["net"] (spSpotsIn K C)
abbrev nSpotsIn : List Str := ["net"]
theorem scSpotsIn : FnScope nSpotsIn ["net"] (defScope sSpotsIn) := ⟨rfl, rfl, rfl, by decide +kernel, rfl, by decide +kernel, by decide +kernel⟩
theorem ok_spotsIn {f C : Addr} {fd : FuncData} (F : Fun K "spots_in" "spots_in" sSpotsIn f fd) (hm : mg "spots_in" = some (.ref f)) (B : Bt mg) (T : NT K mg C) : DSpotsIn P w K mg base C f fd := by
  refine ⟨?_, hm, F.kp, F.binds fun _ _ _ _ _ _ us hl => match us, hl with | [_], _ => rfl⟩
  refine F.ok scSpotsIn (fun vs H Q E h => ?_) (fun cdv A outer s H vs Q E hr h => ?_)
  · obtain ⟨p, ng, nw, gs, ws, rfl, _⟩ := h
    rfl
  · obtain ⟨p, ng, nw, gs, ws, rfl, NA, q⟩ := h
    refine ⟨_, pss_one (ps_ret (pe_op op_add (pe_callB call_len_seq (by rfl) B.len PySem.boot_len (pa_cons (pe_fld (pv 0) rfl) pa_nil)) pe_int)), ?_⟩
    obtain ⟨dx, ob⟩ := id NA.ob
    obtain ⟨gv, hgv, ga⟩ := id NA.g
    have e : (((gv.length : Nat) : Int) + 1) = ((gs.length + 1 : Nat) : Int) := by
      rw [ga.1]
      omega
    refine ⟨_, rfl, p, C, dx, _, _, rfl, ob, T.cl, T.nG, nf_gates _ _, ng, gv, rfl, .inl (SqL.of hgv), _, _, rfl, rfl, ?_⟩
    show Q (.int (((gv.length : Nat) : Int) + 1)) H
    rw [e]
    exact q
abbrev DSpotsOf (P : Program) (w : World) (K : PySem.W.Frag) (mg : Str → Option Value) (base : Heap) (C : Addr) := Df P w K mg base 2 "spots_of" ["net"] (spSpotsOf K C)
abbrev nSpotsOf : List Str := ["net", "number", "gate"]
theorem scSpotsOf : FnScope nSpotsOf ["net"] (defScope sSpotsOf) := ⟨rfl, rfl, rfl, by decide +kernel, rfl, by decide +kernel, by decide +kernel⟩
theorem ok_spotsOf {f fO C : Addr} {fd fdO : FuncData} (F : Fun K "spots_of" "spots_of" sSpotsOf f fd) (hm : mg "spots_of" = some (.ref f)) (B : Bt mg) (T : NT K mg C) (DO : DOuter P w K mg base fO fdO) : DSpotsOf P w K mg base C f fd := by
  refine ⟨?_, hm, F.kp, F.binds fun _ _ _ _ _ _ us hl => match us, hl with | [_], _ => rfl⟩
  refine F.ok scSpotsOf (fun vs H Q E h => ?_) (fun cdv A outer s H vs Q E hr h => ?_)
  · obtain ⟨p, ng, nw, gs, ws, rfl, _⟩ := h
    rfl
  · obtain ⟨p, ng, nw, gs, ws, rfl, NA, N, q⟩ := h
    have nd := scSpotsOf.nd
    refine ⟨_, pss_one (ps_ret (pe_lc (own := [("number", 1), ("gate", 2)]) (g := (gTup K 2 (gCons (gName 1) (gCons (gName 2) gNil)))) (tt := tYes) (te := (tIf (tB (tCall (spOuter K) [] E0 (tCons (tVar 2) tNil))) (tCB (Evl.rLenS K) (tCons (tFld K (tVar 0) "gates") tNil)) (tVar 1))) rfl nd (pi_enum (by rfl) B.enum (pa_cons (pe_fld (pv 0) rfl) pa_nil)) (blkOk_by (N := nSpotsOf) (sc := defScope sSpotsOf) (own := [("number", 1), ("gate", 2)]) (by decide +kernel)) (fun _ _ _ _ _ => (pg_tup rfl (pgs_cons (pg_name (i := 1) nd rfl (.inl rfl)) (pgs_cons (pg_name (i := 2) nd rfl (.inl rfl)) pgs_nil)))) (fun _ _ _ _ _ => pts_nil) (fun _ _ _ _ _ => (pe_ifExp (pt_val (pe_call DO.ok (hr.mono (by decide)) (by rfl) DO.mg DO.kp DO.bd .nil pass0 (pa_cons (pv 2) pa_nil))) (pe_callB call_len_seq (by rfl) B.len PySem.boot_len (pa_cons (pe_fld (pv 0) rfl) pa_nil)) (pv 1))))), ?_⟩
    have hgl := N.gl
    obtain ⟨dx, ob⟩ := id NA.ob
    obtain ⟨gv, hgv, ga⟩ := id NA.g
    have hlg : gv.length = gs.length := ga.1
    refine ⟨_, rfl, p, C, dx, _, _, rfl, ob, T.cl, T.nG, nf_gates _ _, ng, _, rfl, SqL.of hgv, fun D hD => ?_⟩
    refine lc_it (walk_enum (K := K) (a := ng) (xs := gv)) (fun i Hc => Hc D = some (.lst (nvs ((List.range i).map (spotF gs)))) ∧ Same H Hc) ⟨by rw [upd_same]; rfl, same_new hD⟩ (fun i Hc _ ⟨_, sm⟩ => SqL.of (sm _ _ hgv)) ?_ ?_
    · rintro i v Hc Hc' hi ⟨hc, sm⟩ ⟨T', x1, y, rfl, hT, rfl, ex, ey⟩
      cases ex
      obtain ⟨g, hg, gvv⟩ := ga.get ey
      have hi' : i < gs.length := (List.getElem?_eq_some_iff.mp hg).1
      have sT := same_new (o := .tup [.int (i : Nat), y]) hT
      have sm2 := sm.trans sT
      have hc2 := sT _ _ hc
      refine ⟨T', _, rfl, .inl (.inl upd_same), rfl, _, _, rfl, _, _, rfl, rfl, rfl, tyes ?_⟩
      generalize upd Hc T' (.tup [.int (i : Nat), y]) = H3 at sT sm2 hc2
      refine ⟨_, rfl, y, g, rfl, gvv.tk (TK.same sm2), fun b hb => ⟨b, rfl, ?_⟩⟩
      have fin : ∀ n : Nat, n = spotF gs i → ∀ z : V, z = .int (n : Nat) → (upd H3 D (.lst (nvs ((List.range i).map (spotF gs)) ++ [z]))) D = some (.lst (nvs ((List.range (i + 1)).map (spotF gs)))) := fun n hn z hz => by
        rw [upd_same, List.range_succ, List.map_append, hz, hn]
        unfold nvs
        rw [List.map_append]
        rfl
      have hll : (nvs ((List.range i).map (spotF gs))).length < sizeLine := by
        rw [nvs_len, List.length_map, List.length_range]
        exact small1000 (by omega)
      have hk := skind_get hg
      cases b with
      | true =>
        refine iteT ⟨_, rfl, p, C, dx, _, _, rfl, sm2 _ _ ob, T.cl, T.nG, nf_gates _ _, ng, gv, rfl, .inl (SqL.of (sm2 _ _ hgv)), _, hc2, hll, fin gv.length ?_ _ rfl, same_mut sm2 hD⟩
        unfold spotF
        rw [if_pos (by rw [hk]; exact hb.mp rfl), hlg]
      | false =>
        refine iteF ⟨_, rfl, _, hc2, hll, fin i ?_ _ rfl, same_mut sm2 hD⟩
        unfold spotF
        rw [if_neg (by rw [hk]; exact fun z => by have := hb.mpr z; cases this)]
    · rintro H2 ⟨hc, sm⟩
      rw [hlg] at hc
      exact q D H2 sm hD hc
abbrev DLagsAt (P : Program) (w : World) (K : PySem.W.Frag) (mg : Str → Option Value) (base : Heap) (C : Addr) := Df P w K mg base 3 "lags_at" ["net", "found"] (spLagsAt K C)
abbrev nLagsAt : List Str := ["net", "found", "spot"]
theorem scLagsAt : FnScope nLagsAt ["net", "found"] (defScope sLagsAt) := ⟨rfl, rfl, rfl, by decide +kernel, rfl, by decide +kernel, by decide +kernel⟩
theorem ok_lagsAt {f fS C : Addr} {fd fdS : FuncData} (F : Fun K "lags_at" "lags_at" sLagsAt f fd) (hm : mg "lags_at" = some (.ref f)) (B : Bt mg) (T : NT K mg C) (DSp : DSpotsOf P w K mg base C fS fdS) : DLagsAt P w K mg base C f fd := by
  refine ⟨?_, hm, F.kp, F.binds fun _ _ _ _ _ _ us hl => match us, hl with | [_, _], _ => rfl⟩
  refine F.ok scLagsAt (fun vs H Q E h => ?_) (fun cdv A outer s H vs Q E hr h => ?_)
  · obtain ⟨p, ng, nw, lf, gs, ws, F, rfl, _⟩ := h
    rfl
  · obtain ⟨p, ng, nw, lf, gs, ws, F, rfl, NA, N, sf, hfl, q⟩ := h
    have nd := scLagsAt.nd
    refine ⟨_, pss_one (ps_ret (pe_lc (own := [("spot", 2)]) (g := (gName 2)) (tt := tYes) (te := (tOp (rI0 fun i j => .int (i - j)) (tOp (rIxL K) (tVar 1) (tVar 2)) (tOp (rIxL K) (tVar 1) (tCB (Evl.rLenS K) (tCons (tFld K (tVar 0) "gates") tNil))))) rfl nd (pi_list (pe_call DSp.ok (hr.mono (by decide)) (by rfl) DSp.mg DSp.kp DSp.bd .nil pass0 (pa_cons (pv 0) pa_nil))) (blkOk_by (N := nLagsAt) (sc := defScope sLagsAt) (own := [("spot", 2)]) (by decide +kernel)) (fun _ _ _ _ _ => (pg_name (i := 2) nd rfl (.inl rfl))) (fun _ _ _ _ _ => pts_nil) (fun _ _ _ _ _ => (pe_op op_sub (pe_ix ix_list (pv 1) (pv 2) (fun _ _ => rfl)) (pe_ix ix_list (pv 1) (pe_callB call_len_seq (by rfl) B.len PySem.boot_len (pa_cons (pe_fld (pv 0) rfl) pa_nil)) (fun _ _ => rfl)))))), ?_⟩
    have hgl := N.gl
    obtain ⟨dx, ob⟩ := id NA.ob
    obtain ⟨gv, hgv, ga⟩ := id NA.g
    have hlg : gv.length = gs.length := ga.1
    refine ⟨_, rfl, p, ng, nw, gs, ws, rfl, NA, N, fun l H1 s1 hl el => ?_⟩
    refine ⟨l, rfl, ⟨_, SqL.of el⟩, fun D hD => ?_⟩
    refine lc_list (K := K) (a := l) (xs := nvs (spotsL gs)) (fun i Hc => Hc D = some (.lst (((List.range i).map (lagsAt gs fun v => F.getD v 0)).map V.int)) ∧ Same H1 Hc) ⟨by rw [upd_same]; rfl, same_new hD⟩ (fun i Hc _ ⟨_, sm⟩ => SqL.of (sm _ _ el)) ?_ ?_
    · rintro i v Hc hv ⟨hc, sm⟩
      have hi : i < gs.length := by
        have := (List.getElem?_eq_some_iff.mp hv).1
        rw [nvs_len] at this
        unfold spotsL at this
        rw [List.length_map, List.length_range] at this
        exact this
      rw [spots_at hi] at hv
      cases hv
      have sm2 := s1.trans sm
      have hsp := spot_le (gs := gs) i hi
      refine ⟨rfl, tyes ?_⟩
      refine ⟨_, rfl, _, rfl, lf, _, _, _, rfl, rfl, sm2.seq sf, atI_nat (sgetD_at (by omega)), ?_⟩
      refine ⟨_, rfl, _, rfl, p, C, dx, _, _, rfl, sm2 _ _ ob, T.cl, T.nG, nf_gates _ _, ng, gv, rfl, .inl (SqL.of (sm2 _ _ hgv)), lf, _, gv.length, _, rfl, rfl, sm2.seq sf, atI_nat (sgetD_at (by omega)), _, _, rfl, rfl, _, hc, ?_, ?_, same_mut sm hD⟩
      · rw [List.length_map, List.length_map, List.length_range]
        exact small1000 (by omega)
      · rw [upd_same, List.range_succ, List.map_append, List.map_append, hlg]
        rfl
    · rintro H2 ⟨hc, sm⟩
      have e : (nvs (spotsL gs)).length = gs.length := by
        rw [nvs_len]
        unfold spotsL
        rw [List.length_map, List.length_range]
      rw [e] at hc
      exact q D H2 (s1.trans sm) (s1.free hD) hc
end
end Lag


set_option maxRecDepth 100000
set_option maxHeartbeats 8000000
namespace Lag
open PySem PySem.Spec PyProof.Rows L2
abbrev sBoundsFor : Stmt := topS 51 -- @bounds_for
/-- a bound with its piece, apart from the list lt -/
def BpV (K : PySem.W.Frag) (Z : Addr → Prop) (H : Hp) (lt : Addr) (v : V) (bp : Bnd × Pce) : Prop := ∃ a pa l, v = .ref a ∧ SqT K H a [.int ((bp.1.1 : Nat) : Int), .int ((bp.1.2.1 : Nat) : Int), .int bp.1.2.2, .ref pa] ∧ SqT K H pa [.int ((bp.2.1 : Nat) : Int), .ref l] ∧ H l = some (.lst (nvs bp.2.2)) ∧ l ≠ lt ∧ ¬ Z l
theorem BpV.same {K : PySem.W.Frag} {Z : Addr → Prop} {H H' : Hp} {lt : Addr} {v : V} {bp : Bnd × Pce} (s : Same H H') (h : BpV K Z H lt v bp) : BpV K Z H' lt v bp := by
  obtain ⟨a, pa, l, e, h1, h2, h3, h4⟩ := h
  exact ⟨a, pa, l, e, (TK.same s).seq h1, (TK.same s).seq h2, s _ _ h3, h4⟩
theorem BpV.weak {K : PySem.W.Frag} {Z Z' : Addr → Prop} {H : Hp} {lt : Addr} {v : V} {bp : Bnd × Pce} (z : ∀ l, Z' l → Z l) (h : BpV K Z H lt v bp) : BpV K Z' H lt v bp := by
  obtain ⟨a, pa, l, e, h1, h2, h3, h4, h5⟩ := h
  exact ⟨a, pa, l, e, h1, h2, h3, h4, fun k => h5 (z l k)⟩
theorem BpV.mut {K : PySem.W.Frag} {Z : Addr → Prop} {H : Hp} {lt : Addr} {xs : List V} {o : HO} {v : V} {bp : Bnd × Pce} (e : H lt = some (.lst xs)) (h : BpV K Z H lt v bp) : BpV K Z (upd H lt o) lt v bp := by
  obtain ⟨a, pa, l, e', h1, h2, h3, h4⟩ := h
  exact ⟨a, pa, l, e', (TK.lst e).seq h1, (TK.lst e).seq h2, (upd_ne h4.1).trans h3, h4⟩
theorem nat_sorted {ns : List Int} {ks : List Nat} (hp : ns.Perm (ks.map fun i => ((i : Nat) : Int))) (hs : ns.Pairwise (· ≤ ·)) : ∃ es : List Nat, ns = es.map (fun i => ((i : Nat) : Int)) ∧ es.Perm ks ∧ es.Pairwise (· ≤ ·) := by
  have hm : ∀ x ∈ ns, ∃ k : Nat, x = (k : Int) := fun x hx => by
    obtain ⟨k, _, rfl⟩ := List.mem_map.mp (hp.mem_iff.mp hx)
    exact ⟨k, rfl⟩
  have e : ns = (ns.map Int.toNat).map fun i => ((i : Nat) : Int) := by
    rw [List.map_map]
    have : ∀ l : List Int, (∀ x ∈ l, ∃ k : Nat, x = (k : Int)) → l = l.map ((fun i => ((i : Nat) : Int)) ∘ Int.toNat) := fun l hl => by
      induction l with
      | nil => rfl
      | cons x l ih =>
        obtain ⟨k, rfl⟩ := hl x (List.mem_cons_self ..)
        rw [List.map_cons, ← ih fun y hy => hl y (List.mem_cons_of_mem _ hy)]
        rfl
    exact this ns hm
  refine ⟨ns.map Int.toNat, e, ?_, ?_⟩
  · have h1 := hp.map Int.toNat
    rw [List.map_map] at h1
    have h2 : ks.map (Int.toNat ∘ fun i => ((i : Nat) : Int)) = ks := by
      have : (Int.toNat ∘ fun i : Nat => ((i : Nat) : Int)) = id := by
        funext i
        exact Int.toNat_natCast i
      rw [this, List.map_id]
    rw [h2] at h1
    exact h1
  · rw [List.pairwise_map]
    refine hs.imp_of_mem fun {a b} ha hb h => ?_
    obtain ⟨i, rfl⟩ := hm a ha
    obtain ⟨j, rfl⟩ := hm b hb
    omega
theorem KnD.list {K : PySem.W.Frag} {H : Hp} {d : Addr} {D : Dst} {kvs : List (Key × V)} {ks : List Nat} (h : KnD K H d D kvs ks) : (kvs.map fun kv => kV kv.1) = ((ks.map fun i => ((i : Nat) : Int)).map V.int) := by
  have e : (kvs.map fun kv => kV kv.1) = (kvs.map fun kv => kv.1).map kV := by rw [List.map_map]; rfl
  rw [e, h.keys, List.map_map, List.map_map]
  rfl
/-- the bounds made so far -/
structure PB (gs : List Gt) (ws : List Wr) (b : Int) (i : Nat) (es : List Nat) (bps : List (Bnd × Pce)) : Prop where
  ok : ∀ bp ∈ bps, ∃ e, bp.2.1 < gs.length ∧ Pw ws bp.2.1 bp.2.2 e ∧ bp.1 = (spotF gs bp.2.1, spotF gs e, roomF gs ws b bp.2) ∧ bp.2.2.length ≤ 900 ∧ best gs ws bp.2.1 e = some (prg ws bp.2.2, -pwt gs ws bp.2.1 bp.2.2)
  full : ∀ s, s < i → ∀ e c, best gs ws s e = some c → ∃ bp ∈ bps, bp.2.1 = s ∧ Pw ws s bp.2.2 e ∧ c = (prg ws bp.2.2, -pwt gs ws s bp.2.2)
  here : ∀ e ∈ es, ∀ c, best gs ws i e = some c → ∃ bp ∈ bps, bp.2.1 = i ∧ Pw ws i bp.2.2 e ∧ c = (prg ws bp.2.2, -pwt gs ws i bp.2.2)
  len : bps.length ≤ i * gs.length + es.length
theorem PB.push {gs : List Gt} {ws : List Wr} {b : Int} {i e : Nat} {es ps : List Nat} {bps : List (Bnd × Pce)} {c : Cst} (h : PB gs ws b i es bps) (hi : i < gs.length) (hp : Pw ws i ps e) (hb : best gs ws i e = some c) (hc : c = (prg ws ps, -pwt gs ws i ps)) (hl : ps.length ≤ 900) :
    PB gs ws b i (es ++ [e]) (bps ++ [((spotF gs i, spotF gs e, roomF gs ws b (i, ps)), (i, ps))]) := by
  refine ⟨fun bp hbp => ?_, fun s hs e' c' hc' => ?_, fun e' he' c' hc' => ?_, ?_⟩
  · rcases List.mem_append.mp hbp with hbp | hbp
    · exact h.ok bp hbp
    · rw [List.mem_singleton.mp hbp]
      exact ⟨e, hi, hp, rfl, hl, by rw [hb, hc]⟩
  · obtain ⟨bp, h1, h2⟩ := h.full s hs e' c' hc'
    exact ⟨bp, List.mem_append_left _ h1, h2⟩
  · rcases List.mem_append.mp he' with he' | he'
    · obtain ⟨bp, h1, h2⟩ := h.here e' he' c' hc'
      exact ⟨bp, List.mem_append_left _ h1, h2⟩
    · rw [List.mem_singleton.mp he'] at hc' ⊢
      rw [hb] at hc'
      cases hc'
      exact ⟨_, List.mem_append_right _ (List.mem_singleton.mpr rfl), rfl, hp, hc⟩
  · have := h.len
    rw [List.length_append, List.length_append, List.length_singleton, List.length_singleton]
    omega
theorem PB.next {gs : List Gt} {ws : List Wr} {b : Int} {i : Nat} {es : List Nat} {bps : List (Bnd × Pce)} (h : PB gs ws b i es bps) (hes : ∀ e c, best gs ws i e = some c → e ∈ es) (hl : es.length ≤ gs.length) : PB gs ws b (i + 1) [] bps := by
  refine ⟨h.ok, fun s hs e c hc => ?_, fun e he => (nomatch he), ?_⟩
  · by_cases z : s = i
    · subst z
      exact h.here e (hes e c hc) c hc
    · exact h.full s (by omega) e c hc
  · have := h.len
    rw [Nat.add_mul, Nat.one_mul]
    show _ ≤ _ + _ + 0
    omega
theorem PB.fin {gs : List Gt} {ws : List Wr} {b : Int} {es : List Nat} {bps : List (Bnd × Pce)} (h : PB gs ws b gs.length es bps) : BdsOk gs ws b (bps.map fun bp => bp.2) (bps.map fun bp => bp.1) := by
  refine ⟨⟨by rw [List.length_map, List.length_map], fun i pc bd h1 h2 => ?_⟩, fun s hs e c hc => ?_, fun pc hpc => ?_⟩
  · rw [List.getElem?_map] at h1 h2
    cases e : bps[i]? with
    | none => rw [e] at h1; cases h1
    | some bp =>
      rw [e] at h1 h2
      cases h1
      cases h2
      obtain ⟨e', k1, k2, k3, _⟩ := h.ok bp (List.mem_of_getElem? e)
      exact ⟨e', k1, k2, k3⟩
  · obtain ⟨bp, h1, h2⟩ := h.full s hs e c hc
    exact ⟨bp.2, List.mem_map.mpr ⟨bp, h1, rfl⟩, h2⟩
  · obtain ⟨bp, hbp, rfl⟩ := List.mem_map.mp hpc
    obtain ⟨e, k1, k2, _, _, k5⟩ := h.ok bp hbp
    exact ⟨e, k2, k5⟩
theorem PB.pce {gs : List Gt} {ws : List Wr} {b : Int} {i : Nat} {es : List Nat} {bps : List (Bnd × Pce)} (h : PB gs ws b i es bps) : ∀ bp ∈ bps, PceOk gs ws bp.2 ∧ bp.2.2.length ≤ 900 := fun bp hbp => by
  obtain ⟨e, k1, k2, _, k4, _⟩ := h.ok bp hbp
  exact ⟨⟨k1, e, k2⟩, k4⟩
theorem small11k {n : Nat} (h : n ≤ 11000) : n < sizeLine := Nat.lt_of_le_of_lt h (by decide)
def spBoundsFor (K : PySem.W.Frag) (C : Addr) : Sp := fun vs H Q _ => ∃ (p ng nw : Addr) (gs : List Gt) (ws : List Wr) (b : Int), vs = [.ref p, .int b] ∧ NetAt K C H p ng nw gs ws ∧ NetOk gs ws ∧
  ∀ (lb : Addr) (bv : List V) (bps : List (Bnd × Pce)) (H' : Hp), Same H H' → H lb = none → H' lb = some (.lst bv) → All2 (BpV K (fun l => H l ≠ none) H' lb) bv bps → BdsOk gs ws b (bps.map fun bp => bp.2) (bps.map fun bp => bp.1) → bps.length ≤ gs.length * gs.length → (∀ bp ∈ bps, PceOk gs ws bp.2 ∧ bp.2.2.length ≤ 900) → Q (.ref lb) H'
section
variable {P : Program} {w : World} {K : PySem.W.Frag} {mg : Str → Option Value} {base : Heap}
abbrev nBoundsFor : List Str := ["net", "beat", "spots", "told", "start", "known", "last", "end", "piece"]
theorem scBoundsFor : FnScope nBoundsFor ["net", "beat"] (defScope sBoundsFor) := ⟨rfl, rfl, rfl, by decide +kernel, rfl, by decide +kernel, by decide +kernel⟩
abbrev DBoundsFor (P : Program) (w : World) (K : PySem.W.Frag) (mg : Str → Option Value) (base : Heap) (C : Addr) := Df P w K mg base 3 "bounds_for" ["net", "beat"] (spBoundsFor K C)
theorem ok_boundsFor {f fS fB fW fR C : Addr} {fd fdS fdB fdW fdR : FuncData} (F : Fun K "bounds_for" "bounds_for" sBoundsFor f fd) (hm : mg "bounds_for" = some (.ref f)) (B : Bt mg) (mso : mg "sorted" = none) (T : NT K mg C) (DSp : DSpotsOf P w K mg base C fS fdS) (DBF : DBestFrom P w K mg base C fB fdB) (DW : DWayTo P w K mg base C fW fdW) (DRm : DRoomOf P w K mg base C fR fdR) : DBoundsFor P w K mg base C f fd := by
  refine ⟨?_, hm, F.kp, F.binds fun _ _ _ _ _ _ us hl => match us, hl with | [_, _], _ => rfl⟩
  refine F.ok scBoundsFor (fun vs H Q E h => ?_) (fun cdv A outer s H vs Q E hr h => ?_)
  · obtain ⟨p, ng, nw, gs, ws, b, rfl, _⟩ := h
    rfl
  · obtain ⟨p, ng, nw, gs, ws, b, rfl, NA, N, q⟩ := h
    have nd := scBoundsFor.nd
    refine ⟨_, pss_cons (ps_set (i := 2) nd rfl (.inl rfl) (pe_call DSp.ok (hr.mono (by decide)) (by rfl) DSp.mg DSp.kp DSp.bd .nil pass0 (pa_cons (pv 0) pa_nil))) <|
        pss_cons (ps_set (i := 3) nd rfl (.inl rfl) (pe_lst pa_nil)) <|
        pss_cons (ps_for PassesOwn.never rfl (pi_range1 (by rfl) B.range (pa_cons (pe_callB call_len_seq (by rfl) B.len PySem.boot_len (pa_cons (pe_fld (pv 0) rfl) pa_nil)) pa_nil)) (pg_name (i := 4) nd rfl (.inl rfl)) (pss_cons (ps_asg (pe_call DBF.ok (hr.mono (by decide)) (by rfl) DBF.mg DBF.kp DBF.bd .nil pass0 (pa_cons (pv 0) (pa_cons (pv 4) pa_nil))) (pg_tup rfl (pgs_cons (pg_name (i := 5) nd rfl (.inl rfl)) (pgs_cons (pg_name (i := 6) nd rfl (.inl rfl)) pgs_nil)))) <|
        pss_one (ps_for PassesOwn.never rfl (pi_list (pe_callB cr_sortedI (by rfl) mso (by decide +kernel) (pa_cons (pe_callTy (call_list_dK rfl) (by rfl) B.list (by decide +kernel) (pa_cons (pv 5) pa_nil)) pa_nil))) (pg_name (i := 7) nd rfl (.inl rfl)) (pss_cons (ps_set (i := 8) nd rfl (.inl rfl) (pe_call DW.ok (hr.mono (by decide)) (by rfl) DW.mg DW.kp DW.bd .nil pass0 (pa_cons (pv 0) (pa_cons (pv 7) (pa_cons (pv 6) pa_nil))))) <|
        pss_one (ps_expr (pe_bm PySem.F.plainAttrs_list PySem.F.slot_list_append PySem.F.type_list_append mt_append (pv 3) (pa_cons (pe_tup (pa_cons (pe_ix ix_list (pv 2) (pv 4) (fun _ _ => rfl)) (pa_cons (pe_ix ix_list (pv 2) (pv 7) (fun _ _ => rfl)) (pa_cons (pe_call DRm.ok (hr.mono (by decide)) (by rfl) DRm.mg DRm.kp DRm.bd .nil pass0 (pa_cons (pv 0) (pa_cons (pv 1) (pa_cons (pv 8) pa_nil)))) (pa_cons (pv 8) pa_nil))))) pa_nil))))))) <|
        pss_one (ps_ret (pv 3)), ?_⟩
    have hgl := N.gl
    obtain ⟨dx, ob⟩ := id NA.ob
    obtain ⟨gv, hgv, ga⟩ := id NA.g
    have hlg : gv.length = gs.length := ga.1
    refine ⟨_, rfl, p, ng, nw, gs, ws, rfl, NA, N, fun ls H1 s1 hls els => ?_⟩
    refine ⟨(by show 0 ≤ sizeLine; decide), fun lt hlt => ?_⟩
    have t2 := same_new (o := .lst []) hlt
    have e2 : (upd H1 lt (.lst [])) lt = some (.lst []) := upd_same
    have hlt0 : H lt = none := s1.free hlt
    generalize upd H1 lt (.lst []) = H2 at t2 e2
    have s2 := s1.trans t2
    refine gn_norm (σ' := [some (.ref p), some (.int b), some (.ref ls), some (.ref lt), none, none, none, none, none]) rfl ?_
    refine ⟨_, rfl, p, C, dx, _, _, rfl, s2 _ _ ob, T.cl, T.nG, nf_gates _ _, ng, gv, rfl, .inl (SqL.of (s2 _ _ hgv)), _, rfl, by omega, by omega, for_range (lo := 0) (n := ((gv.length : Nat) : Int).toNat) (fun i σ H' => ∃ (u4 u5 u6 u7 u8 : Option V) (bv : List V) (bps : List (Bnd × Pce)), σ = [some (.ref p), some (.int b), some (.ref ls), some (.ref lt), u4, u5, u6, u7, u8] ∧ Same H H' ∧ Same H1 H' ∧ H' lt = some (.lst bv) ∧ All2 (BpV K (fun l => H l ≠ none) H' lt) bv bps ∧ PB gs ws b i [] bps)
      ⟨_, _, _, _, _, [], [], rfl, s2, t2, e2, All2.nil, ⟨fun bp h => (nomatch h), fun s hs => absurd hs (Nat.not_lt_zero _), fun e he => (nomatch he), Nat.zero_le _⟩⟩ ?_ ?_⟩
    · rintro i σ H3 hi ⟨u4, u5, u6, u7, u8, bv, bps, rfl, sm, sm1, eb, ab, pb⟩
      rw [Int.toNat_natCast, hlg] at hi
      have ei : (0 : Int) + ((i : Nat) : Int) = ((i : Nat) : Int) := Int.zero_add _
      rw [ei]
      refine ⟨_, rfl, _, rfl, p, ng, nw, gs, ws, i, rfl, NA.same sm, N, hi, fun t d lL kvs ks La H4 s4 et kn eL hL0 lok => ?_⟩
      refine ⟨t, _, rfl, .inl (.inl et), rfl, _, _, rfl, _, _, rfl, rfl, ?_⟩
      refine ⟨_, rfl, d, kvs, rfl, kn.at_, fun lk hlk => ?_⟩
      rw [kn.list]
      have t5 := same_new (o := .lst ((ks.map fun i => ((i : Nat) : Int)).map V.int)) hlk
      have e5 : (upd H4 lk (.lst ((ks.map fun i => ((i : Nat) : Int)).map V.int))) lk = some (.lst ((ks.map fun i => ((i : Nat) : Int)).map V.int)) := upd_same
      generalize upd H4 lk (.lst ((ks.map fun i => ((i : Nat) : Int)).map V.int)) = H5 at t5 e5
      refine ⟨lk, _, rfl, SqL.of e5, fun ns lp hperm hsrt hlp => ?_⟩
      obtain ⟨es, rfl, hep, hes⟩ := nat_sorted hperm hsrt
      have t6 := same_new (o := .lst ((es.map fun i => ((i : Nat) : Int)).map V.int)) hlp
      have e6 : (upd H5 lp (.lst ((es.map fun i => ((i : Nat) : Int)).map V.int))) lp = some (.lst ((es.map fun i => ((i : Nat) : Int)).map V.int)) := upd_same
      generalize upd H5 lp (.lst ((es.map fun i => ((i : Nat) : Int)).map V.int)) = H6 at t6 e6
      have s36 := (s4.trans t5).trans t6
      have s46 := t5.trans t6
      have hkl : es.length ≤ gs.length := by
        rw [hep.length_eq]
        exact svNodup_le kn.nd fun v hv => by
          obtain ⟨c, hc⟩ := (kn.mem v).mp hv
          exact best_lt N hi hc
      have npt : lp ≠ lt := fun z => by
        rw [z] at hlp
        rw [((s4.trans t5)) _ _ eb] at hlp
        cases hlp
      have hex : (es.map fun i => ((i : Nat) : Int)).map V.int = nvs es := by rw [List.map_map]; rfl
      rw [hex] at e6
      have hilt : i * gs.length ≤ 10000 := Nat.mul_le_mul (by omega : i ≤ 100) (by omega : gs.length ≤ 100)
      refine ⟨lp, rfl, ⟨_, SqL.of e6⟩, for_list (K := K) (a := lp) (xs := nvs es) (fun j σ H' => ∃ (u7 u8 : Option V) (bv : List V) (bps : List (Bnd × Pce)), σ = [some (.ref p), some (.int b), some (.ref ls), some (.ref lt), some (.int (i : Nat)), some (.ref d), some (.ref lL), u7, u8] ∧ Same H H' ∧ Same H1 H' ∧ But lt H6 H' ∧ H' lt = some (.lst bv) ∧ All2 (BpV K (fun l => H l ≠ none) H' lt) bv bps ∧ PB gs ws b i (es.take j) bps)
        ⟨_, _, bv, bps, rfl, sm.trans s36, sm1.trans s36, But.refl _ _, s36 _ _ eb, ab.imp fun _ _ r => r.same s36, pb⟩ (fun j σ H' _ ⟨_, _, _, _, _, _, _, bt, _⟩ => SqL.of (bt _ _ npt e6)) ?_ ?_⟩
      · rintro j v σ H7 hv ⟨u7, u8, bv, bps, rfl, sm7, sm17, bt, eb7, ab7, pb7⟩
        obtain ⟨e, he, rfl⟩ := nvs_of hv
        obtain ⟨c, hc⟩ := (kn.mem e).mp (hep.mem_iff.mp (List.mem_of_getElem? he))
        obtain ⟨ps, bk, ec, hpl⟩ := lok.2 e c hc
        have heg := best_lt N hi hc
        have hpw := bk.pw
        have eL6 := s46 _ _ eL
        have nLt : lL ≠ lt := (ne_of_none eb hL0).symm
        refine ⟨_, rfl, _, rfl, _, rfl, p, ng, nw, lL, gs, ws, La, e, i, ps, rfl, NA.same sm7, N, bt _ _ nLt eL6, lok.1, heg, bk, by omega, fun t8 lr H8 s8 ht8 hlr et8 er => ?_⟩
        have eb8 := s8 _ _ eb7
        have nrt : lr ≠ lt := (ne_of_none eb7 hlr).symm
        refine gn_norm (σ' := [some (.ref p), some (.int b), some (.ref ls), some (.ref lt), some (.int (i : Nat)), some (.ref d), some (.ref lL), some (.int (e : Nat)), some (.ref t8)]) rfl ?_
        have sm18 := sm17.trans s8
        have els8 := sm18 _ _ els
        refine ⟨_, rfl, .inl ⟨rfl, _, SqL.of eb8⟩, _, rfl, _, rfl, ls, _, i, _, rfl, rfl, SqL.of els8, atI_nat (spots_at hi), _, rfl, _, rfl, ls, _, e, _, rfl, rfl, SqL.of els8, atI_nat (spots_at heg), _, rfl, _, rfl, _, rfl, ?_⟩
        refine ⟨p, ng, nw, gs, ws, b, _, (i, ps.reverse), rfl, (NA.same sm7).same s8, N, ⟨t8, lr, rfl, .inl (.inl et8), SqL.of er⟩, ⟨hi, e, hpw⟩, by rw [List.length_reverse]; omega, fun H9 s9 => ?_⟩
        refine ⟨_, rfl, (by show 4 ≤ sizeLine; decide), fun tb htb => ?_⟩
        have t10 := same_new (o := .tup [.int ((spotF gs i : Nat) : Int), .int ((spotF gs e : Nat) : Int), .int (roomF gs ws b (i, ps.reverse)), .ref t8]) htb
        have e10 : (upd H9 tb (.tup [.int ((spotF gs i : Nat) : Int), .int ((spotF gs e : Nat) : Int), .int (roomF gs ws b (i, ps.reverse)), .ref t8])) tb = some (.tup [.int ((spotF gs i : Nat) : Int), .int ((spotF gs e : Nat) : Int), .int (roomF gs ws b (i, ps.reverse)), .ref t8]) := upd_same
        generalize upd H9 tb (.tup [.int ((spotF gs i : Nat) : Int), .int ((spotF gs e : Nat) : Int), .int (roomF gs ws b (i, ps.reverse)), .ref t8]) = H10 at t10 e10
        have s710 := (s8.trans s9).trans t10
        have s810 := s9.trans t10
        have eb10 := s710 _ _ eb7
        have pbl := pb7.len
        have hbl : bv.length = bps.length := ab7.1
        have htk : (es.take j).length ≤ gs.length := by
          rw [List.length_take]
          omega
        refine ⟨lt, bv, _, rfl, rfl, eb10, small11k (by omega), ?_⟩
        have ab10 : All2 (BpV K (fun l => H l ≠ none) H10 lt) bv bps := ab7.imp fun _ _ r => r.same s710
        refine ⟨_, _, bv ++ [.ref tb], bps ++ [((spotF gs i, spotF gs e, roomF gs ws b (i, ps.reverse)), (i, ps.reverse))], rfl, same_mut (sm7.trans s710) hlt0, same_mut (sm17.trans s710) hlt, ?_, upd_same, ?_, ?_⟩
        · intro a o na ea
          rw [upd_ne na]
          exact s710 _ _ (bt _ _ na ea)
        · refine (ab10.imp fun _ _ r => r.mut eb10).snoc ⟨tb, t8, lr, rfl, (TK.lst eb10).seq (.inl (.inl e10)), (TK.lst eb10).seq ((TK.same s810).seq (.inl (.inl et8))), (upd_ne nrt).trans (s810 _ _ er), nrt, fun z => z (sm7.free hlr)⟩
        · have et : es.take (j + 1) = es.take j ++ [e] := by rw [List.take_add_one, he]; rfl
          rw [et]
          exact pb7.push hi hpw hc ec (by rw [List.length_reverse]; omega)
      · rintro σ H7 ⟨u7, u8, bv, bps, rfl, sm7, sm17, bt, eb7, ab7, pb7⟩
        rw [nvs_len, List.take_length] at pb7
        exact ⟨_, _, _, _, _, bv, bps, rfl, sm7, sm17, eb7, ab7, pb7.next (fun e c hc => hep.mem_iff.mpr ((kn.mem e).mpr ⟨c, hc⟩)) hkl⟩
    · rintro σ H3 ⟨u4, u5, u6, u7, u8, bv, bps, rfl, sm, sm1, eb, ab, pb⟩
      rw [Int.toNat_natCast, hlg] at pb
      refine ⟨_, rfl, q lt bv bps H3 sm hlt0 eb ab pb.fin ?_ pb.pce⟩
      have h1 := pb.len
      have h2 : gs.length * gs.length ≤ 10000 := Nat.mul_le_mul hgl hgl
      have h3 : ([] : List Nat).length = 0 := rfl
      omega
end
end Lag


set_option maxRecDepth 100000
set_option maxHeartbeats 8000000
namespace Lag
open PySem PySem.Spec PyProof.Rows L2
abbrev sRingFrom : Stmt := topS 17 -- @ring_from
abbrev sSettle : Stmt := topS 18 -- @settle
def BndV (K : PySem.W.Frag) (H : Hp) (v : V) (bd : Bnd) : Prop := ∃ a th, v = .ref a ∧ SqT K H a [.int ((bd.1 : Nat) : Int), .int ((bd.2.1 : Nat) : Int), .int bd.2.2, th]
theorem BndV.tk {K : PySem.W.Frag} {H H' : Hp} {v : V} {bd : Bnd} (t : TK H H') (h : BndV K H v bd) : BndV K H' v bd := by
  obtain ⟨a, th, e, s⟩ := h
  exact ⟨a, th, e, t.seq s⟩
/-- what of each place is come by next -/
structure OnD (K : PySem.W.Frag) (H : Hp) (d : Addr) (kvs : List (Key × V)) (bv : List V) (bs : List Bnd) (O : Nat → Option Nat) (n : Nat) : Prop where
  at_ : H d = some (.dK kvs)
  keys : ∃ ks : List Nat, kvs.map (fun kv => kv.1) = ks.map (fun g => Sum.inl ((g : Nat) : Int)) ∧ ks.Nodup ∧ ∀ g ∈ ks, g < n
  on : ∀ v j, O v = some j → ∃ t z b, valV kvs (Sum.inl ((v : Nat) : Int)) = some (.ref t) ∧ SqT K H t [z, .int ((b.2.1 : Nat) : Int)] ∧ bv[j]? = some z ∧ bs[j]? = some b ∧ b.1 = v
theorem OnD.tk {K : PySem.W.Frag} {H H' : Hp} {d : Addr} {kvs : List (Key × V)} {bv : List V} {bs : List Bnd} {O : Nat → Option Nat} {n : Nat} (h : OnD K H d kvs bv bs O n) (t : TK H H') (e : H' d = some (.dK kvs)) : OnD K H' d kvs bv bs O n :=
  ⟨e, h.keys, fun v j hv => by
    obtain ⟨t', z, b, h1, h2, h3⟩ := h.on v j hv
    exact ⟨t', z, b, h1, t.seq h2, h3⟩⟩
theorem OnD.same {K : PySem.W.Frag} {H H' : Hp} {d : Addr} {kvs : List (Key × V)} {bv : List V} {bs : List Bnd} {O : Nat → Option Nat} {n : Nat} (h : OnD K H d kvs bv bs O n) (s : Same H H') : OnD K H' d kvs bv bs O n := h.tk (TK.same s) (s _ _ h.at_)
theorem OnD.len {K : PySem.W.Frag} {H : Hp} {d : Addr} {kvs : List (Key × V)} {bv : List V} {bs : List Bnd} {O : Nat → Option Nat} {n : Nat} (h : OnD K H d kvs bv bs O n) : kvs.length ≤ n := by
  obtain ⟨ks, h1, h2, h3⟩ := h.keys
  have := congrArg List.length h1
  rw [List.length_map, List.length_map] at this
  rw [this]
  exact svNodup_le h2 h3
theorem OnD.put {K : PySem.W.Frag} {H : Hp} {d t a : Addr} {kvs : List (Key × V)} {bv : List V} {bs : List Bnd} {O : Nat → Option Nat} {n j : Nat} {b : Bnd} (h : OnD K H d kvs bv bs O n) (ht : H t = some (.tup [.ref a, .int ((b.2.1 : Nat) : Int)])) (hz : bv[j]? = some (.ref a)) (hb : bs[j]? = some b) (hn : b.1 < n) :
    OnD K (upd H d (.dK (putK kvs (Sum.inl ((b.1 : Nat) : Int)) (.ref t)))) d (putK kvs (Sum.inl ((b.1 : Nat) : Int)) (.ref t)) bv bs (updO O b.1 j) n := by
  have inj : ∀ {i j : Nat}, (Sum.inl ((i : Nat) : Int) : Key) = Sum.inl ((j : Nat) : Int) → i = j := fun {i j} z => by
    have := Sum.inl.inj z
    omega
  have tk : TK H (upd H d (.dK (putK kvs (Sum.inl ((b.1 : Nat) : Int)) (.ref t)))) := fun c o to eb => by
    rw [upd_ne (fun z => by
      rw [z, h.at_] at eb
      cases eb
      exact to)]
    exact eb
  refine ⟨upd_same, ?_, fun v i hv => ?_⟩
  · obtain ⟨ks, h1, h2, h3⟩ := h.keys
    have hk : (Sum.inl ((b.1 : Nat) : Int) : Key) ∈ kvs.map (fun kv => kv.1) ↔ b.1 ∈ ks := by
      rw [h1]
      constructor
      · intro z
        obtain ⟨g, hg, e'⟩ := List.mem_map.mp z
        rw [← inj e']
        exact hg
      · intro z
        exact List.mem_map.mpr ⟨b.1, z, rfl⟩
    by_cases he : b.1 ∈ ks
    · exact ⟨ks, by rw [putK_old (hk.mpr he)]; exact h1, h2, h3⟩
    · refine ⟨ks ++ [b.1], by rw [putK_fresh fun z => he (hk.mp z), h1, List.map_append]; rfl, ?_, fun g hg => ?_⟩
      · rw [List.nodup_append]
        refine ⟨h2, by simp, fun x hx y hy z => ?_⟩
        rw [List.mem_singleton.mp hy] at z
        exact he (z ▸ hx)
      · rcases List.mem_append.mp hg with hg | hg
        · exact h3 g hg
        · rw [List.mem_singleton.mp hg]
          exact hn
  · unfold updO at hv
    rw [valV_put]
    by_cases z : v = b.1
    · rw [if_pos z] at hv
      cases hv
      rw [if_pos (by rw [z])]
      exact ⟨t, _, b, rfl, tk.seq (.inl (.inl ht)), hz, hb, z.symm⟩
    · rw [if_neg z] at hv
      rw [if_neg fun y => z (inj y)]
      obtain ⟨t', z', b', k1, k2, k3⟩ := h.on v i hv
      exact ⟨t', z', b', k1, tk.seq k2, k3⟩
/-- what was seen, with its place -/
def SvSeen (H : Hp) (D : Addr) (es : List Nat) : Prop := ∃ kvs : List (Key × V), H D = some (.dK kvs) ∧ kvs.length ≤ es.length ∧ ∀ g : Nat, valV kvs (Sum.inl (g : Int)) = if g ∈ es then some (.int ((es.idxOf g : Nat) : Int)) else none
theorem SvSeen.get {H : Hp} {D : Addr} {es : List Nat} (h : SvSeen H D es) (g : Nat) : DGet H D (.int (g : Nat)) (if g ∈ es then some (.int ((es.idxOf g : Nat) : Int)) else none) := by
  obtain ⟨kvs, e, _, hv⟩ := h
  have := DGet.k (k := Sum.inl (g : Int)) e
  rw [hv g] at this
  exact this
theorem SvSeen.put {H : Hp} {D : Addr} {es : List Nat} (h : SvSeen H D es) (hm : es.length < sizeLine) {c : Nat} (hc : c ∉ es) : ∃ o, DPut H D (.int (c : Nat)) (.int ((es.length : Nat) : Int)) (upd H D o) ∧ SvSeen (upd H D o) D (es ++ [c]) := by
  obtain ⟨kvs, e, hl, hv⟩ := h
  refine ⟨.dK (putK kvs (Sum.inl (c : Int)) (.int ((es.length : Nat) : Int))), DPut.k (k := Sum.inl (c : Int)) e (by omega), _, upd_same, by have := length_putK kvs (Sum.inl (c : Int)) (.int ((es.length : Nat) : Int)); rw [List.length_append]; show _ ≤ es.length + 1; omega, fun j => ?_⟩
  rw [valV_put]
  by_cases hj : j = c
  · subst hj
    rw [if_pos rfl, if_pos (by simp), List.idxOf_append, if_neg hc]
    simp
  · rw [if_neg (fun z => hj (by have := Sum.inl.inj z; omega)), hv j]
    by_cases hm : j ∈ es
    · rw [if_pos hm, if_pos (List.mem_append_left _ hm), List.idxOf_append, if_pos hm]
    · rw [if_neg hm, if_neg (fun z => by
        rcases List.mem_append.mp z with z | z
        · exact hm z
        · exact hj (List.mem_singleton.mp z))]
theorem ring_starts {bs : List Bnd} {O : Nat → Option Nat} {es js : List Nat} {cur : Nat} (hl : es.length = js.length) (h : ∀ i v, es[i]? = some v → PtO bs O v (js.drop i) cur) : js.map (fun j => (bAt bs j).1) = es := by
  refine List.ext_getElem? fun i => ?_
  rw [List.getElem?_map]
  by_cases hi : i < js.length
  · have he : i < es.length := by omega
    have := h i es[i] (List.getElem?_eq_getElem he)
    rw [List.drop_eq_getElem_cons hi] at this
    obtain ⟨_, b, h1, h2, _⟩ := this
    rw [List.getElem?_eq_getElem hi, List.getElem?_eq_getElem he]
    show some (bAt bs js[i]).1 = _
    rw [bAt_get h1, h2]
  · rw [List.getElem?_eq_none (by omega), List.getElem?_eq_none (by omega)]
    rfl
def ringVs (bv : List V) (js : List Nat) : List V := js.map fun j => bv.getD j .non
def spRingF (K : PySem.W.Frag) : Sp := fun vs H Q _ => ∃ (e0 n : Nat) (d : Addr) (kvs : List (Key × V)) (bv : List V) (bs : List Bnd) (O : Nat → Option Nat), vs = [.int (e0 : Nat), .ref d] ∧ OnD K H d kvs bv bs O n ∧ n ≤ 1000 ∧ e0 < n ∧ (∀ b ∈ bs, b.2.1 < n) ∧ (∀ js v, PtO bs O e0 js v → js.length < n → O v ≠ none) ∧
  ∀ (js : List Nat) (l : Addr) (H' : Hp), js ≠ [] → js.length ≤ n → (∃ v, PtO bs O v js v) → (js.map fun j => (bAt bs j).1).Nodup → Same H H' → H l = none → H' l = some (.lst (ringVs bv js)) → Q (.ref l) H'
def SvTold (K : PySem.W.Frag) (H : Hp) (bv : List V) (bs : List Bnd) (n : Nat) (t : Addr) (H' : Hp) : Prop :=
  (∃ (lf : Addr) (F : List Int), H' t = some (.tup [.ref lf, .non]) ∧ H lf = none ∧ H' lf = some (.lst (F.map V.int)) ∧ F.length = n ∧ Sat bs (fun v => F.getD v 0) ∧ (∀ v, F.getD v 0 ≤ 0) ∧ (∀ R : Int, 0 ≤ R → (∀ b ∈ bs, -R ≤ b.2.2) → ∀ v, v < n → -((n : Int) * R) ≤ F.getD v 0)) ∨
  ∃ (lr : Addr) (js : List Nat), H' t = some (.tup [.non, .ref lr]) ∧ H lr = none ∧ H' lr = some (.lst (ringVs bv js)) ∧ js.length ≤ n ∧ RingB bs js ∧ (js.map fun j => (bAt bs j).1).Nodup
def spSettle (K : PySem.W.Frag) : Sp := fun vs H Q _ => ∃ (n : Nat) (lb : Addr) (bv : List V) (bs : List Bnd), vs = [.int (n : Nat), .ref lb] ∧ 1 ≤ n ∧ n ≤ 1000 ∧ H lb = some (.lst bv) ∧ All2 (BndV K H) bv bs ∧ (∀ b ∈ bs, b.1 < n ∧ b.2.1 < n) ∧
  ∀ (t : Addr) (H' : Hp), Same H H' → H t = none → SvTold K H bv bs n t H' → Q (.ref t) H'
section
variable {P : Program} {w : World} {K : PySem.W.Frag} {mg : Str → Option Value} {base : Heap}
abbrev nRingFrom : List Str := ["place", "onward", "seen", "path", "passed"]
theorem scRingFrom : FnScope nRingFrom ["place", "onward"] (defScope sRingFrom) := ⟨rfl, rfl, rfl, by decide +kernel, rfl, by decide +kernel, by decide +kernel⟩
abbrev DRingF (P : Program) (w : World) (K : PySem.W.Frag) (mg : Str → Option Value) (base : Heap) := Df P w K mg base 1 "ring_from" ["place", "onward"] (spRingF K)
theorem ok_ringF {f : Addr} {fd : FuncData} (F : Fun K "ring_from" "ring_from" sRingFrom f fd) (hm : mg "ring_from" = some (.ref f)) (B : Bt mg) : DRingF P w K mg base f fd := by
  refine ⟨?_, hm, F.kp, F.binds fun _ _ _ _ _ _ us hl => match us, hl with | [_, _], _ => rfl⟩
  refine F.ok scRingFrom (fun vs H Q E h => ?_) (fun cdv A outer s H vs Q E hr h => ?_)
  · obtain ⟨e0, n, d, kvs, bv, bs, O, rfl, _⟩ := h
    rfl
  · obtain ⟨e0, n, d, kvs, bv, bs, O, rfl, od, hn, he0, hbn, hmore, q⟩ := h
    have nd := scRingFrom.nd
    refine ⟨_, pss_cons (ps_set (i := 2) nd rfl (.inl rfl) pe_dnewK) <|
        pss_cons (ps_set (i := 3) nd rfl (.inl rfl) (pe_lst pa_nil)) <|
        pss_cons (ps_while PassesOwn.never (pt_cmp (pc_dnotin (hu_of hr) (pv 0) (pv 2))) (pss_cons (ps_dput (hu_of hr) (pv 2) (pv 0) (pe_callB call_len_seq (by rfl) B.len PySem.boot_len (pa_cons (pv 3) pa_nil)) rfl) <|
        pss_cons (ps_asg (pe_dget (hu_of hr) (pv 1) (pv 0) (fun _ _ => rfl)) (pg_tup rfl (pgs_cons (pg_name (i := 4) nd rfl (.inl rfl)) (pgs_cons (pg_name (i := 0) nd rfl (.inl rfl)) pgs_nil)))) <|
        pss_one (ps_expr (pe_bm PySem.F.plainAttrs_list PySem.F.slot_list_append PySem.F.type_list_append mt_append (pv 3) (pa_cons (pv 4) pa_nil))))) <|
        pss_one (ps_ret (pe_slice sl_list (pv 3) (po_some (pe_dget (hu_of hr) (pv 2) (pv 0) (fun _ _ => rfl))) po_none)), ?_⟩
    intro ls hls
    have s1 : Same H (upd H ls (.dK [])) := same_new hls
    refine ⟨(by show 0 ≤ sizeLine; decide), fun lp hlp => ?_⟩
    have hlp0 : H lp = none := s1.free hlp
    have nsp : ls ≠ lp := ne_of_none (upd_same (H := H) (a := ls) (o := .dK [])) hlp
    refine ⟨fun m σ H6 => ∃ (es js : List Nat) (cur : Nat) (s4 : Option V), σ = [some (.int (cur : Nat)), some (.ref d), some (.ref ls), some (.ref lp), s4] ∧ es.Nodup ∧ (∀ e ∈ es, e < n) ∧ cur < n ∧ es.length = js.length ∧ PtO bs O e0 js cur ∧ (∀ i v, es[i]? = some v → PtO bs O v (js.drop i) cur) ∧ SvSeen H6 ls es ∧ H6 lp = some (.lst (ringVs bv js)) ∧ Same H H6 ∧ m = n - es.length, ?_, ?_⟩
    · refine ⟨_, [], [], e0, none, rfl, List.nodup_nil, (fun e h => nomatch h), he0, rfl, rfl, (fun i v h => by simp at h), ⟨[], ?_, Nat.le_refl _, fun g => by rw [if_neg (by simp)]; exact valV_nil⟩, upd_same, s1.trans (same_new hlp), rfl⟩
      rw [upd_ne nsp]
      exact upd_same
    · rintro m σ H6 ⟨es, js, cur, s4, rfl, hnd, hes, hcur, hlen, hpt, hdr, sd, hp6, sm, rfl⟩
      refine ⟨_, rfl, _, rfl, ls, _, rfl, sd.get cur, ?_⟩
      by_cases hc : cur ∈ es
      · rw [if_pos hc]
        refine ⟨_, rfl, iteF ?_⟩
        have hg := sd.get cur
        rw [if_pos hc] at hg
        refine ⟨_, rfl, _, rfl, _, rfl, ls, _, rfl, hg, _, rfl, lp, _, rfl, SqL.of hp6, fun p hp => ?_⟩
        have h5 : es.idxOf cur < es.length := List.idxOf_lt_length_iff.mpr hc
        have hj : es[es.idxOf cur]? = some cur := by
          rw [List.getElem?_eq_getElem h5, List.getElem_idxOf h5]
        refine q (js.drop (es.idxOf cur)) p _ (fun z => ?_) (by have := svNodup_le hnd hes; rw [List.length_drop]; omega) ⟨cur, hdr _ _ hj⟩ (by rw [List.map_drop, ring_starts hlen hdr]; exact hnd.sublist (List.drop_sublist _ _)) (sm.trans (same_new hp)) (sm.free hp) ?_
        · have := congrArg List.length z
          rw [List.length_drop] at this
          simp at this
          omega
        · rw [upd_same, cut_from]
          unfold ringVs
          rw [List.map_drop]
      · rw [if_neg hc]
        refine ⟨_, rfl, iteT ?_⟩
        have hlt : es.length < n := by
          have h2 := svNodup_le (n := n) (l := es ++ [cur]) (by
            rw [List.nodup_append]
            refine ⟨hnd, by simp, fun a ha c hc2 => ?_⟩
            rw [List.mem_singleton.mp hc2]
            intro z
            exact hc (by rw [← z]; exact ha)) (fun a ha => by
            rcases List.mem_append.mp ha with ha | ha
            · exact hes a ha
            · rw [List.mem_singleton.mp ha]
              exact hcur)
          rw [List.length_append, List.length_singleton] at h2
          omega
        have hpl : (ringVs bv js).length = es.length := by
          unfold ringVs
          rw [List.length_map, hlen]
        obtain ⟨o, dp, sd2⟩ := sd.put (small1000 (by omega)) hc
        refine ⟨fun σ H7 => ∃ (es' js' : List Nat) (cur' : Nat) (s4 : Option V), σ = [some (.int (cur' : Nat)), some (.ref d), some (.ref ls), some (.ref lp), s4] ∧ es'.Nodup ∧ (∀ e ∈ es', e < n) ∧ cur' < n ∧ es'.length = js'.length ∧ PtO bs O e0 js' cur' ∧ (∀ i v, es'[i]? = some v → PtO bs O v (js'.drop i) cur') ∧ SvSeen H7 ls es' ∧ H7 lp = some (.lst (ringVs bv js')) ∧ Same H H7 ∧ es'.length = es.length + 1, ?_, ?_⟩
        · rintro σ' H' ⟨es', js', cur', t4, rfl, h1, h2, h3, h4, h5, h6, h7, h8, h9, h10⟩
          exact ⟨n - (es.length + 1), by omega, es', js', cur', t4, rfl, h1, h2, h3, h4, h5, h6, h7, h8, h9, by rw [h10]⟩
        refine ⟨_, rfl, lp, _, rfl, .inl (SqL.of hp6), _, rfl, _, rfl, ls, _, rfl, (by rw [hpl]; exact dp), ?_⟩
        have sm7 : Same H (upd H6 ls o) := same_mut sm hls
        have od7 := od.same sm7
        cases ho : O cur with
        | none => exact absurd ho (hmore js cur hpt (by omega))
        | some j =>
        obtain ⟨t, z, b, hv, sq, hz, hb, hb1⟩ := od7.on cur j ho
        have hg : DGet (upd H6 ls o) d (.int (cur : Nat)) (some (.ref t)) := by
          have := DGet.k (k := Sum.inl ((cur : Nat) : Int)) od7.at_
          rw [hv] at this
          exact this
        have hp7 : (upd H6 ls o) lp = some (.lst (ringVs bv js)) := by
          rw [upd_ne nsp.symm]
          exact hp6
        generalize upd H6 ls o = H7 at sm7 od7 hg sq hp7 sd2
        refine ⟨_, rfl, _, rfl, d, _, rfl, hg, t, _, rfl, sq, rfl, _, _, rfl, _, _, rfl, rfl, ?_⟩
        have sd3 : SvSeen (upd H7 lp (.lst (ringVs bv js ++ [z]))) ls (es ++ [cur]) := by
          obtain ⟨kv, h1, h2⟩ := sd2
          exact ⟨kv, by rw [upd_ne nsp]; exact h1, h2⟩
        refine ⟨_, rfl, .inl ⟨rfl, _, SqL.of hp7⟩, _, rfl, lp, _, _, rfl, rfl, hp7, small1000 (by omega), ?_⟩
        refine ⟨es ++ [cur], js ++ [j], b.2.1, _, rfl, ?_, fun e he => ?_, hbn b (List.mem_of_getElem? hb), by rw [List.length_append, List.length_append, hlen]; rfl, hpt.snoc ho hb hb1, fun i v hi => ?_, sd3, ?_, same_mut sm7 hlp0, by rw [List.length_append]; rfl⟩
        · rw [List.nodup_append]
          refine ⟨hnd, by simp, fun a ha c hc2 => ?_⟩
          rw [List.mem_singleton.mp hc2]
          intro z
          exact hc (by rw [← z]; exact ha)
        · rcases List.mem_append.mp he with he | he
          · exact hes e he
          · rw [List.mem_singleton.mp he]
            exact hcur
        · by_cases hil : i < es.length
          · rw [List.getElem?_append_left hil] at hi
            rw [List.drop_append_of_le_length (by omega)]
            exact (hdr i v hi).snoc ho hb hb1
          · have hie : i = es.length := by
              have := (List.getElem?_eq_some_iff.mp hi).1
              rw [List.length_append, List.length_singleton] at this
              omega
            subst hie
            rw [List.getElem?_append_right (Nat.le_refl _), Nat.sub_self] at hi
            cases hi
            rw [hlen, List.drop_left]
            exact ⟨ho, b, hb, hb1, rfl⟩
        · rw [upd_same]
          unfold ringVs
          rw [List.map_append]
          show _ = some (HO.lst (_ ++ [bv.getD j V.non]))
          rw [List.getD_eq_getElem?_getD, hz]
          rfl
abbrev nSettle : List Str := ["many", "bounds", "found", "onward", "changed", "turn", "bound", "start", "end", "room", "thing"]
theorem scSettle : FnScope nSettle ["many", "bounds"] (defScope sSettle) := ⟨rfl, rfl, rfl, by decide +kernel, rfl, by decide +kernel, by decide +kernel⟩
abbrev DSettle (P : Program) (w : World) (K : PySem.W.Frag) (mg : Str → Option Value) (base : Heap) := Df P w K mg base 2 "settle" ["many", "bounds"] (spSettle K)
theorem ok_settle {f fR : Addr} {fd fdR : FuncData} (F : Fun K "settle" "settle" sSettle f fd) (hm : mg "settle" = some (.ref f)) (B : Bt mg) (DRf : DRingF P w K mg base fR fdR) : DSettle P w K mg base f fd := by
  refine ⟨?_, hm, F.kp, F.binds fun _ _ _ _ _ _ us hl => match us, hl with | [_, _], _ => rfl⟩
  refine F.ok scSettle (fun vs H Q E h => ?_) (fun cdv A outer s H vs Q E hr h => ?_)
  · obtain ⟨n, lb, bv, bs, rfl, _⟩ := h
    rfl
  · obtain ⟨n, lb, bv, bs, rfl, hn1, hn, eb0, ab0, hbn, q⟩ := h
    have nd := scSettle.nd
    refine ⟨_, pss_cons (ps_set (i := 2) nd rfl (.inl rfl) (pe_op op_rep (pe_lst (pa_cons pe_int pa_nil)) (pv 0))) <|
        pss_cons (ps_set (i := 3) nd rfl (.inl rfl) pe_dnewK) <|
        pss_cons (ps_set (i := 4) nd rfl (.inl rfl) pe_non) <|
        pss_cons (ps_for PassesOwn.never rfl (pi_range1 (by rfl) B.range (pa_cons (pv 0) pa_nil)) (pg_name (i := 5) nd rfl (.inl rfl)) (pss_cons (ps_set (i := 4) nd rfl (.inl rfl) pe_non) <|
        pss_cons (ps_for PassesOwn.never rfl (pi_list (pv 1)) (pg_name (i := 6) nd rfl (.inl rfl)) (pss_cons (ps_asg (pv 6) (pg_tup rfl (pgs_cons (pg_name (i := 7) nd rfl (.inl rfl)) (pgs_cons (pg_name (i := 8) nd rfl (.inl rfl)) (pgs_cons (pg_name (i := 9) nd rfl (.inl rfl)) (pgs_cons (pg_name (i := 10) nd rfl (.inl rfl)) pgs_nil)))))) <|
        pss_one (ps_if (pt_cmpR op_gt (pe_ix ix_list (pv 2) (pv 7) (fun _ _ => rfl)) (pe_op op_add (pe_ix ix_list (pv 2) (pv 8) (fun _ _ => rfl)) (pv 9)) (nomark _)) (pss_cons (ps_asg (pe_op op_add (pe_ix ix_list (pv 2) (pv 8) (fun _ _ => rfl)) (pv 9)) (pg_sub (pv 2) (pv 7) set_list)) <|
        pss_cons (ps_dput (hu_of hr) (pv 3) (pv 7) (pe_tup (pa_cons (pv 6) (pa_cons (pv 8) pa_nil))) rfl) <|
        pss_one (ps_set (i := 4) nd rfl (.inl rfl) (pv 7))) pss_nil))) <|
        pss_one (ps_if (pt_cmpR op_isN (pv 4) pe_non (nomark _)) (pss_one (ps_ret (pe_tup (pa_cons (pv 2) (pa_cons pe_non pa_nil))))) pss_nil))) <|
        pss_one (ps_ret (pe_tup (pa_cons pe_non (pa_cons (pe_call DRf.ok (hr.mono (by decide)) (by rfl) DRf.mg DRf.kp DRf.bd .nil pass0 (pa_cons (pv 4) (pa_cons (pv 3) pa_nil))) pa_nil)))), ?_⟩
    refine ⟨(by show 1 ≤ sizeLine; decide), fun l0 hl0 => ?_⟩
    have t0 := same_new (o := .lst [.int 0]) hl0
    have e0 : (upd H l0 (.lst [.int 0])) l0 = some (.lst [.int 0]) := upd_same
    generalize upd H l0 (.lst [.int 0]) = H0 at t0 e0
    refine ⟨_, rfl, l0, _, _, rfl, rfl, e0, by omega, by omega, ?_, fun lf hlf => ?_⟩
    · show 1 * _ ≤ sizeLine
      exact Nat.le_of_lt (small1000 (by omega))
    have eL : (List.replicate ((n : Nat) : Int).toNat [V.int 0]).flatten = (List.replicate n (0 : Int)).map V.int := by
      rw [Int.toNat_natCast]
      have : ∀ n : Nat, (List.replicate n [V.int 0]).flatten = (List.replicate n (0 : Int)).map V.int := fun n => by
        induction n with
        | zero => rfl
        | succ n ih =>
          rw [List.replicate_succ, List.flatten_cons, ih, List.replicate_succ]
          rfl
      exact this _
    rw [eL]
    have t1 := same_new (o := .lst ((List.replicate n (0 : Int)).map V.int)) hlf
    have e1 : (upd H0 lf (.lst ((List.replicate n (0 : Int)).map V.int))) lf = some (.lst ((List.replicate n (0 : Int)).map V.int)) := upd_same
    have hlf0 : H lf = none := t0.free hlf
    generalize upd H0 lf (.lst ((List.replicate n (0 : Int)).map V.int)) = H1 at t1 e1
    have s1 := t0.trans t1
    intro ld hld
    have t2 := same_new (o := .dK []) hld
    have e2 : (upd H1 ld (.dK [])) ld = some (.dK []) := upd_same
    have hld0 : H ld = none := s1.free hld
    generalize upd H1 ld (.dK []) = H2 at t2 e2
    have s2 := s1.trans t2
    have nfd : lf ≠ ld := ne_of_none e1 hld
    have nlb : lb ≠ lf := ne_of_none eb0 hlf0
    refine gn_norm (σ' := [some (.int (n : Nat)), some (.ref lb), some (.ref lf), some (.ref ld), none, none, none, none, none, none, none]) rfl ?_
    refine ⟨_, rfl, _, rfl, by omega, by omega, for_range (lo := 0) (n := ((n : Nat) : Int).toNat) (fun i σ H' => ∃ (ch : V) (u5 u6 u7 u8 u9 u10 : Option V) (F : List Int) (kvs : List (Key × V)) (O : Nat → Option Nat) (T : Nat → Nat), σ = [some (.int (n : Nat)), some (.ref lb), some (.ref lf), some (.ref ld), some ch, u5, u6, u7, u8, u9, u10] ∧ Same H H' ∧ H' lf = some (.lst (F.map V.int)) ∧ F.length = n ∧ OnD K H' ld kvs bv bs O n ∧ SI bs n (fun v => F.getD v 0) O T (i + 1) 0 ∧ (0 < i → ∃ s : Nat, ch = .int (s : Nat) ∧ s < n ∧ i ≤ T s))
      ⟨_, _, _, _, _, _, _, List.replicate n 0, [], fun _ => none, fun _ => 0, rfl, s2, t2 _ _ e1, List.length_replicate .., ⟨e2, ⟨[], rfl, List.nodup_nil, fun g h => (nomatch h)⟩, fun v j h => (nomatch h)⟩, (SI.start bs n).congr fun v => ?_, fun h => absurd h (Nat.lt_irrefl 0)⟩ ?_ ?_⟩
    · rw [List.getD_eq_getElem?_getD, List.getElem?_replicate]
      split <;> rfl
    · rintro i σ H3 hi ⟨ch, u5, u6, u7, u8, u9, u10, F, kvs, O, T, rfl, sm, ef, hfl, od, si, _⟩
      refine ⟨_, rfl, lb, rfl, ⟨_, SqL.of (sm _ _ eb0)⟩, for_list (K := K) (a := lb) (xs := bv) (fun j σ H' => ∃ (ch : Option Nat) (u5 u6 u7 u8 u9 u10 : Option V) (F : List Int) (kvs : List (Key × V)) (O : Nat → Option Nat) (T : Nat → Nat), σ = [some (.int (n : Nat)), some (.ref lb), some (.ref lf), some (.ref ld), some (lasV ch), u5, u6, u7, u8, u9, u10] ∧ Same H H' ∧ H' lf = some (.lst (F.map V.int)) ∧ F.length = n ∧ OnD K H' ld kvs bv bs O n ∧ SI bs n (fun v => F.getD v 0) O T (i + 1) j ∧
          (ch = none → ∀ k b, k < j → bs[k]? = some b → F.getD b.1 0 ≤ F.getD b.2.1 0 + b.2.2) ∧ (∀ s, ch = some s → s < n ∧ i + 1 ≤ T s))
        ⟨none, _, _, _, _, _, _, F, kvs, O, T, rfl, sm, ef, hfl, od, si, (fun _ k b hk => absurd hk (Nat.not_lt_zero _)), fun s h => (nomatch h)⟩ (fun j σ H' _ ⟨_, _, _, _, _, _, _, _, _, _, _, _, sm', _⟩ => SqL.of (sm' _ _ eb0)) ?_ ?_⟩
      · rintro j v σ H4 hv ⟨ch, u5, u6, u7, u8, u9, u10, F, kvs, O, T, rfl, sm, ef, hfl, od, si, hn0, hs0⟩
        obtain ⟨b, hb, a, th, rfl, sq0⟩ := ab0.get hv
        have sq := (TK.same sm).seq sq0
        obtain ⟨hb1, hb2⟩ := hbn b (List.mem_of_getElem? hb)
        refine ⟨_, rfl, a, _, rfl, sq, rfl, _, _, rfl, _, _, rfl, _, _, rfl, _, _, rfl, rfl, ?_⟩
        refine ⟨_, rfl, _, rfl, lf, _, b.1, _, rfl, rfl, SqL.of ef, atI_nat (sgetD_at (by omega)), _, rfl, _, rfl, lf, _, b.2.1, _, rfl, rfl, SqL.of ef, atI_nat (sgetD_at (by omega)), _, rfl, _, _, rfl, rfl, _, _, rfl, rfl, _, rfl, ite2 (fun e => ?_) (fun e => ?_)⟩
        · have hlt : F.getD b.2.1 0 + b.2.2 < F.getD b.1 0 := of_decide_eq_true e
          refine ⟨_, rfl, _, rfl, lf, _, b.2.1, _, rfl, rfl, SqL.of ef, atI_nat (sgetD_at (by omega)), _, rfl, _, _, rfl, rfl, _, rfl, _, rfl, lf, _, _, b.1, rfl, rfl, ef, Evl.ixN_nat (by rw [List.length_map]; omega), ?_⟩
          have F'at : ∀ v, (F.set b.1 (F.getD b.2.1 0 + b.2.2)).getD v 0 = if v = b.1 then F.getD b.2.1 0 + b.2.2 else F.getD v 0 := fun v => by
            rw [List.getD_eq_getElem?_getD, List.getElem?_set]
            by_cases z : b.1 = v
            · rw [if_pos z, if_pos (by omega), if_pos z.symm]
              rfl
            · rw [if_neg z, if_neg fun y => z y.symm, List.getD_eq_getElem?_getD]
          have s5 : Same H (upd H4 lf (.lst ((F.map V.int).set b.1 (.int (F.getD b.2.1 0 + b.2.2))))) := same_mut sm hlf0
          have ef5 : (upd H4 lf (.lst ((F.map V.int).set b.1 (.int (F.getD b.2.1 0 + b.2.2))))) lf = some (.lst ((F.set b.1 (F.getD b.2.1 0 + b.2.2)).map V.int)) := by
            rw [upd_same, List.map_set]
          have od5 : OnD K (upd H4 lf (.lst ((F.map V.int).set b.1 (.int (F.getD b.2.1 0 + b.2.2))))) ld kvs bv bs O n := od.tk (TK.lst ef) (by rw [upd_ne nfd.symm]; exact od.at_)
          generalize upd H4 lf (.lst ((F.map V.int).set b.1 (.int (F.getD b.2.1 0 + b.2.2)))) = H5 at s5 ef5 od5
          refine ⟨_, rfl, _, rfl, (by show 2 ≤ sizeLine; decide), fun t ht => ?_⟩
          have t6 := same_new (o := .tup [.ref a, .int ((b.2.1 : Nat) : Int)]) ht
          have e6 : (upd H5 t (.tup [.ref a, .int ((b.2.1 : Nat) : Int)])) t = some (.tup [.ref a, .int ((b.2.1 : Nat) : Int)]) := upd_same
          have od6 := od5.same t6
          have ef6 := t6 _ _ ef5
          have s6 := s5.trans t6
          generalize upd H5 t (.tup [.ref a, .int ((b.2.1 : Nat) : Int)]) = H6 at t6 e6 od6 ef6 s6
          have hkl := od6.len
          refine ⟨_, rfl, _, rfl, ld, _, rfl, DPut.k (k := Sum.inl ((b.1 : Nat) : Int)) od6.at_ (small1000 (by omega)), ?_⟩
          have od7 := od6.put e6 hv hb hb1
          refine ⟨_, rfl, ?_⟩
          have si2 := (si.set (by omega) hb hb1 hlt).congr F'at
          refine ⟨some b.1, _, _, _, _, _, _, F.set b.1 (F.getD b.2.1 0 + b.2.2), _, _, _, rfl, same_mut s6 hld0, (upd_ne nfd).trans ef6, by rw [List.length_set]; exact hfl, od7, si2, (fun z => nomatch z), fun s hs => ?_⟩
          cases hs
          refine ⟨hb1, ?_⟩
          rw [if_pos rfl]
          exact Nat.le_refl _
        · have hle : F.getD b.1 0 ≤ F.getD b.2.1 0 + b.2.2 := by
            have : ¬ (F.getD b.2.1 0 + b.2.2 < F.getD b.1 0) := fun z => e (decide_eq_true z)
            omega
          refine ⟨ch, _, _, _, _, _, _, F, kvs, O, T, rfl, sm, ef, hfl, od, si.skip hb hle, fun hc k b' hk hb' => ?_, hs0⟩
          by_cases z : k = j
          · subst z
            rw [hb] at hb'
            cases hb'
            exact hle
          · exact hn0 hc k b' (by omega) hb'
      · rintro σ H4 ⟨ch, u5, u6, u7, u8, u9, u10, F, kvs, O, T, rfl, sm, ef, hfl, od, si, hn0, hs0⟩
        have hbl : bv.length = bs.length := ab0.1
        rw [hbl] at si hn0
        cases ch with
        | none =>
          refine ⟨_, rfl, rfl, _, rfl, iteT ?_⟩
          refine ⟨_, rfl, (by show 2 ≤ sizeLine; decide), fun t ht => ?_⟩
          have t5 := same_new (o := .tup [.ref lf, .non]) ht
          have sat : Sat bs (fun v => F.getD v 0) := fun b hb => by
            obtain ⟨k, hk⟩ := List.getElem?_of_mem hb
            exact hn0 rfl k b (List.getElem?_eq_some_iff.mp hk).1 hk
          exact q t _ (sm.trans t5) (sm.free ht) (.inl ⟨lf, F, upd_same, hlf0, t5 _ _ ef, hfl, sat, si.le0, fun R hR hr v hv => si.lowR sat hbn hR hr hv⟩)
        | some s =>
          refine ⟨_, rfl, rfl, _, rfl, iteF ?_⟩
          obtain ⟨hs1, hs2⟩ := hs0 s rfl
          exact ⟨_, _, _, _, _, _, _, F, kvs, O, T, rfl, sm, ef, hfl, od, si.next, fun _ => ⟨s, rfl, hs1, hs2⟩⟩
    · rintro σ H3 ⟨ch, u5, u6, u7, u8, u9, u10, F, kvs, O, T, rfl, sm, ef, hfl, od, si, hch⟩
      rw [Int.toNat_natCast] at hch
      obtain ⟨s, rfl, hs, hT⟩ := hch (by omega)
      refine ⟨_, rfl, _, rfl, s, n, ld, kvs, bv, bs, O, rfl, od, hn, hs, fun b hb => (hbn b hb).2, fun js v hp hl ho => ?_, fun js l H4 hjs hjl ⟨v, hp⟩ hnd4 s4 hl el => ?_⟩
      · have h1 := si.more hp
        have h2 := (si.non v ho).1
        omega
      · refine ⟨(by show 2 ≤ sizeLine; decide), fun t ht => ?_⟩
        have t5 := same_new (o := .tup [.non, .ref l]) ht
        exact q t _ ((sm.trans s4).trans t5) ((sm.trans s4).free ht) (.inr ⟨l, js, upd_same, sm.free hl, t5 _ _ el, hjl, ⟨hjs, v, hp.ptB, si.cyc v js hjs hp⟩, hnd4⟩)
end
end Lag


set_option maxRecDepth 100000
set_option maxHeartbeats 8000000
namespace Lag
open PySem PySem.Spec PyProof.Rows L2
abbrev sChkBeat : Stmt := topS 14 -- @check_beat
abbrev sForBeat : Stmt := topS 54 -- @for_beat
def spChkB : Sp := fun vs H Q _ => ∃ b : Int, vs = [.int b] ∧ 0 ≤ b ∧ Q .non H
def lagsL (gs : List Gt) (L : Nat → Int) : List Int := (List.range gs.length).map L
theorem lagsL_at {gs : List Gt} {L : Nat → Int} {g : Nat} (h : g < gs.length) : (lagsL gs L).getD g 0 = L g := by
  unfold lagsL
  rw [List.getD_eq_getElem?_getD, List.getElem?_map, List.getElem?_range h]
  rfl
theorem lagsL_len (gs : List Gt) (L : Nat → Int) : (lagsL gs L).length = gs.length := by
  unfold lagsL
  rw [List.length_map, List.length_range]
/-- a list of pieces -/
def BarV (K : PySem.W.Frag) (H : Hp) (l : Addr) (pcs : List Pce) : Prop := ∃ pv, H l = some (.lst pv) ∧ All2 (PceV K H) pv pcs
/-- what for_beat tells -/
def FbR (K : PySem.W.Frag) (gs : List Gt) (ws : List Wr) (b : Int) (H H' : Hp) (t : Addr) : Prop :=
  (∃ (l : Addr) (L : Nat → Int), H' t = some (.tup [.str "lags", .ref l]) ∧ H l = none ∧ H' l = some (.lst ((lagsL gs L).map V.int)) ∧ Feas gs ws b L ∧ (∀ g, g < gs.length → -101 ≤ L g ∧ L g ≤ 101)) ∨
  ∃ (l : Addr) (pcs : List Pce), H' t = some (.tup [.str "bar", .ref l]) ∧ H l = none ∧ BarV K H' l pcs ∧ IsBar gs ws b pcs ∧ (∀ pc ∈ pcs, PceOk gs ws pc ∧ pc.2.length ≤ 1000) ∧ pcs.length ≤ 200
theorem FbR.lags {K : PySem.W.Frag} {gs : List Gt} {ws : List Wr} {b : Int} {H H' : Hp} {t : Addr} (N : NetOk gs ws) (h : FbR K gs ws b H H' t) : ∃ (w : Str) (l : Addr), H' t = some (.tup [.str w, .ref l]) ∧ (w = "lags" ∨ w = "bar") ∧ (w = "lags" ↔ FeasE gs ws b) := by
  rcases h with ⟨l, L, h1, h2, h3, h4, h5⟩ | ⟨l, pcs, h1, h2, h3, h4, h5⟩
  · exact ⟨_, l, h1, .inl rfl, fun _ => ⟨L, h4⟩, fun _ => rfl⟩
  · exact ⟨_, l, h1, .inr rfl, fun z => (by cases z), fun ⟨L, hL⟩ => absurd hL (h4.none N)⟩
def spForBeat (K : PySem.W.Frag) (C : Addr) : Sp := fun vs H Q _ => ∃ (p ng nw : Addr) (gs : List Gt) (ws : List Wr) (b : Int), vs = [.ref p, .int b] ∧ NetAt K C H p ng nw gs ws ∧ NetOk gs ws ∧ 0 ≤ b ∧
  ∀ (t : Addr) (H' : Hp), Same H H' → H t = none → FbR K gs ws b H H' t → Q (.ref t) H'
section
variable {P : Program} {w : World} {K : PySem.W.Frag} {mg : Str → Option Value} {base : Heap}
abbrev nChkBeat : List Str := ["thing"]
theorem scChkBeat : FnScope nChkBeat ["thing"] (defScope sChkBeat) := ⟨rfl, rfl, rfl, by decide +kernel, rfl, by decide +kernel, by decide +kernel⟩
abbrev DChkB (P : Program) (w : World) (K : PySem.W.Frag) (mg : Str → Option Value) (base : Heap) := Df P w K mg base 2 "check_beat" ["thing"] spChkB
theorem ok_chkB {f fW : Addr} {fd fdW : FuncData} (F : Fun K "check_beat" "check_beat" sChkBeat f fd) (hm : mg "check_beat" = some (.ref f)) (DW : DWhole P w K mg base fW fdW) : DChkB P w K mg base f fd := by
  refine ⟨?_, hm, F.kp, F.binds fun _ _ _ _ _ _ us hl => match us, hl with | [_], _ => rfl⟩
  refine F.ok scChkBeat (fun vs H Q E h => ?_) (fun cdv A outer s H vs Q E hr h => ?_)
  · obtain ⟨b, rfl, _⟩ := h
    rfl
  · obtain ⟨b, rfl, hb, q⟩ := h
    refine ⟨_, pss_one (ps_if (PW.pt (pw_or (pt_not (pt_val (pe_call DW.ok (hr.mono (by decide)) (by rfl) DW.mg DW.kp DW.bd .nil pass0 (pa_cons (pv 0) pa_nil)))) (pw_or1 (pt_cmpR op_lt (pv 0) pe_int (nomark _))))) (pss_one (ps_never)) pss_nil), ?_⟩
    refine ⟨_, rfl, b, rfl, true, rfl, iteF ⟨_, rfl, _, _, rfl, rfl, _, rfl, ite2 (fun e => absurd (of_decide_eq_true e) (by omega)) (fun _ => q)⟩⟩
abbrev nForBeat : List Str := ["net", "beat", "found", "ring", "start", "end", "room", "piece"]
theorem scForBeat : FnScope nForBeat ["net", "beat"] (defScope sForBeat) := ⟨rfl, rfl, rfl, by decide +kernel, rfl, by decide +kernel, by decide +kernel⟩
abbrev DForBeat (P : Program) (w : World) (K : PySem.W.Frag) (mg : Str → Option Value) (base : Heap) (C : Addr) := Df P w K mg base 4 "for_beat" ["net", "beat"] (spForBeat K C)
theorem ok_forBeat {f fB fS fI fD fL C : Addr} {fd fdB fdS fdI fdD fdL : FuncData} (F : Fun K "for_beat" "for_beat" sForBeat f fd) (hm : mg "for_beat" = some (.ref f)) (B : Bt mg) (T : NT K mg C) (DCb : DChkB P w K mg base fB fdB) (DSe : DSettle P w K mg base fS fdS) (DSi : DSpotsIn P w K mg base C fI fdI) (DBd : DBoundsFor P w K mg base C fD fdD) (DLa : DLagsAt P w K mg base C fL fdL) : DForBeat P w K mg base C f fd := by
  refine ⟨?_, hm, F.kp, F.binds fun _ _ _ _ _ _ us hl => match us, hl with | [_, _], _ => rfl⟩
  refine F.ok scForBeat (fun vs H Q E h => ?_) (fun cdv A outer s H vs Q E hr h => ?_)
  · obtain ⟨p, ng, nw, gs, ws, b, rfl, _⟩ := h
    rfl
  · obtain ⟨p, ng, nw, gs, ws, b, rfl, NA, N, hb0, q⟩ := h
    have nd := scForBeat.nd
    refine ⟨_, pss_cons (ps_expr (pe_call DCb.ok (hr.mono (by decide)) (by rfl) DCb.mg DCb.kp DCb.bd .nil pass0 (pa_cons (pv 1) pa_nil))) <|
        pss_cons (ps_asg (pe_call DSe.ok (hr.mono (by decide)) (by rfl) DSe.mg DSe.kp DSe.bd .nil pass0 (pa_cons (pe_call DSi.ok (hr.mono (by decide)) (by rfl) DSi.mg DSi.kp DSi.bd .nil pass0 (pa_cons (pv 0) pa_nil)) (pa_cons (pe_call DBd.ok (hr.mono (by decide)) (by rfl) DBd.mg DBd.kp DBd.bd .nil pass0 (pa_cons (pv 0) (pa_cons (pv 1) pa_nil))) pa_nil))) (pg_tup rfl (pgs_cons (pg_name (i := 2) nd rfl (.inl rfl)) (pgs_cons (pg_name (i := 3) nd rfl (.inl rfl)) pgs_nil)))) <|
        pss_cons (ps_if (pt_cmpR op_isN (pv 2) pe_non (nomark _)) (pss_one (ps_ret (pe_tup (pa_cons pe_str (pa_cons (pe_lc (own := [("start", 4), ("end", 5), ("room", 6), ("piece", 7)]) (g := (gTup K 4 (gCons (gName 4) (gCons (gName 5) (gCons (gName 6) (gCons (gName 7) gNil)))))) (tt := tYes) (te := (tVar 7)) rfl nd (pi_list (pv 3)) (blkOk_by (N := nForBeat) (sc := defScope sForBeat) (own := [("start", 4), ("end", 5), ("room", 6), ("piece", 7)]) (by decide +kernel)) (fun _ _ _ _ _ => (pg_tup rfl (pgs_cons (pg_name (i := 4) nd rfl (.inl rfl)) (pgs_cons (pg_name (i := 5) nd rfl (.inl rfl)) (pgs_cons (pg_name (i := 6) nd rfl (.inl rfl)) (pgs_cons (pg_name (i := 7) nd rfl (.inl rfl)) pgs_nil)))))) (fun _ _ _ _ _ => pts_nil) (fun _ _ _ _ _ => (pv 7))) pa_nil))))) pss_nil) <|
        pss_one (ps_ret (pe_tup (pa_cons pe_str (pa_cons (pe_call DLa.ok (hr.mono (by decide)) (by rfl) DLa.mg DLa.kp DLa.bd .nil pass0 (pa_cons (pv 0) (pa_cons (pv 2) pa_nil))) pa_nil)))), ?_⟩
    have hgl := N.gl
    refine ⟨_, rfl, b, rfl, hb0, ?_⟩
    refine ⟨_, rfl, p, ng, nw, gs, ws, rfl, NA, ?_⟩
    refine ⟨_, rfl, _, rfl, p, ng, nw, gs, ws, b, rfl, NA, N, fun lb bv bps H1 s1 hlb elb ab bok hbl hpce => ?_⟩
    have abn : All2 (BndV K H1) bv (bps.map fun bp => bp.1) := by
      refine ⟨by rw [List.length_map]; exact ab.1, fun i v bd hv hbd => ?_⟩
      rw [List.getElem?_map] at hbd
      cases e : bps[i]? with
      | none => rw [e] at hbd; cases hbd
      | some bp =>
        rw [e] at hbd
        cases hbd
        obtain ⟨a, pa, l, h1, h2, _⟩ := ab.2 i v bp hv e
        exact ⟨a, _, h1, h2⟩
    refine ⟨gs.length + 1, lb, bv, _, rfl, by omega, by omega, elb, abn, bok.below N, fun t H2 s2 ht sr => ?_⟩
    have s12 := s1.trans s2
    rcases sr with ⟨lf, F, et, hlf, ef, hfl, sat, hle, hlow⟩ | ⟨lr, js, et, hlr, er, hjln, ring, _⟩
    · refine ⟨t, _, rfl, .inl (.inl et), rfl, _, _, rfl, _, _, rfl, rfl, ?_⟩
      refine ⟨_, rfl, rfl, _, rfl, iteF ?_⟩
      refine ⟨_, rfl, _, rfl, p, ng, nw, lf, gs, ws, F, rfl, NA.same s12, N, SqL.of ef, by omega, fun l H3 s3 hl el => ?_⟩
      refine ⟨(by show 2 ≤ sizeLine; decide), fun tt htt => ?_⟩
      have t4 := same_new (o := .tup [.str "lags", .ref l]) htt
      have low : ∀ v, v < gs.length + 1 → -((gs.length + 1 : Nat) : Int) ≤ F.getD v 0 := fun v hv => by
        have := hlow 1 (by decide) bok.m1 v hv
        rw [Int.mul_one] at this
        exact this
      refine q tt _ ((s12.trans s3).trans t4) ((s12.trans s3).free htt) (.inl ⟨l, lagsAt gs fun v => F.getD v 0, upd_same, s12.free hl, t4 _ _ el, bok.lags N sat, fun g hg => ?_⟩)
      have h1 := low (spotF gs g) (spot_le g hg)
      have h2 := low gs.length (Nat.lt_succ_self _)
      have h3 := hle (spotF gs g)
      have h4 := hle gs.length
      unfold lagsAt
      refine ⟨?_, ?_⟩
      · show -101 ≤ F.getD (spotF gs g) 0 - F.getD gs.length 0
        have h1 : -((gs.length + 1 : Nat) : Int) ≤ F.getD (spotF gs g) 0 := h1
        omega
      · show F.getD (spotF gs g) 0 - F.getD gs.length 0 ≤ 101
        have h2 : -((gs.length + 1 : Nat) : Int) ≤ F.getD gs.length 0 := h2
        omega
    · refine ⟨t, _, rfl, .inl (.inl et), rfl, _, _, rfl, _, _, rfl, rfl, ?_⟩
      refine ⟨_, rfl, rfl, _, rfl, iteT ?_⟩
      have barok := bok.bar ring
      obtain ⟨hjs, v0, hpt, hneg⟩ := ring
      have hjl : ∀ j ∈ js, ∃ bp, bps[j]? = some bp := by
        have : ∀ {js : List Nat} {s e : Nat}, PtB (bps.map fun bp => bp.1) s js e → ∀ j ∈ js, ∃ bp, bps[j]? = some bp := by
          intro js
          induction js with
          | nil => intro s e _ j h; cases h
          | cons k r ih =>
            intro s e ⟨bd, q1, _, q2⟩ j h
            rcases List.mem_cons.mp h with h | h
            · rw [h]
              rw [List.getElem?_map] at q1
              cases e2 : bps[k]? with
              | none => rw [e2] at q1; cases q1
              | some bp => exact ⟨bp, rfl⟩
            · exact ih q2 j h
        exact this hpt
      have pcAt : ∀ (j : Nat) (bp : Bnd × Pce), bps[j]? = some bp → pAt (bps.map fun bp => bp.2) j = bp.2 := fun j bp h => pAt_get (by rw [List.getElem?_map, h]; rfl)
      refine ⟨_, rfl, lr, rfl, ⟨_, SqL.of er⟩, fun D hD => ?_⟩
      refine lc_list (K := K) (a := lr) (xs := ringVs bv js) (fun i Hc => ∃ pv : List V, Hc D = some (.lst pv) ∧ All2 (fun v pc => ∃ a l, v = .ref a ∧ SqT K Hc a [.int ((pc.1 : Nat) : Int), .ref l] ∧ Hc l = some (.lst (nvs pc.2)) ∧ l ≠ D) pv ((js.take i).map (pAt (bps.map fun bp => bp.2))) ∧ Same H2 Hc) ⟨[], upd_same, All2.nil, same_new hD⟩ (fun i Hc _ ⟨_, _, _, sm⟩ => SqL.of (sm _ _ er)) ?_ ?_
      · rintro i v Hc hv ⟨pv, hc, al, sm⟩
        unfold ringVs at hv
        rw [List.getElem?_map] at hv
        cases hj : js[i]? with
        | none => rw [hj] at hv; cases hv
        | some j =>
          rw [hj] at hv
          cases hv
          obtain ⟨bp, hbp⟩ := hjl j (List.mem_of_getElem? hj)
          obtain ⟨v, hv, a, pa, l, rfl, h1, h2, h3, h4⟩ := ab.getR hbp
          have ev : bv.getD j .non = .ref a := by rw [List.getD_eq_getElem?_getD, hv]; rfl
          have sc := s2.trans sm
          have nl : l ≠ D := ne_of_none (s2 _ _ h3) hD
          refine ⟨a, _, ev, (TK.same sc).seq h1, rfl, _, _, rfl, _, _, rfl, _, _, rfl, _, _, rfl, rfl, rfl, tyes ?_⟩
          have hpl : pv.length ≤ i := by
            have := al.1
            rw [List.length_map, List.length_take] at this
            omega
          have hil : i < js.length := (List.getElem?_eq_some_iff.mp hj).1
          refine ⟨_, rfl, _, hc, ?_, pv ++ [.ref pa], upd_same, ?_, same_mut sm hD⟩
          · exact small1000 (by omega)
          · rw [List.take_add_one, hj, List.map_append]
            show All2 _ (pv ++ [V.ref pa]) (_ ++ [pAt (bps.map fun bp => bp.2) j])
            rw [pcAt j bp hbp]
            refine All2.snoc (al.imp fun v pc ⟨a', l', k1, k2, k3, k4⟩ => ⟨a', l', k1, (TK.lst hc).seq k2, (upd_ne k4).trans k3, k4⟩) ⟨pa, l, rfl, (TK.lst hc).seq ((TK.same sc).seq h2), (upd_ne nl).trans (sc _ _ h3), nl⟩
      · rintro H3 ⟨pv, hc, al, sm⟩
        have e : (ringVs bv js).length = js.length := List.length_map ..
        rw [e, List.take_length] at al
        refine ⟨(by show 2 ≤ sizeLine; decide), fun tt htt => ?_⟩
        have t4 := same_new (o := .tup [.str "bar", .ref D]) htt
        refine q tt _ ((s12.trans sm).trans t4) ((s12.trans sm).free htt) (.inr ⟨D, _, upd_same, s12.free hD, ⟨pv, t4 _ _ hc, al.imp fun v pc ⟨a', l', k1, k2, k3, _⟩ => ⟨a', l', k1, (TK.same t4).seq k2, SqL.of (t4 _ _ k3)⟩⟩, barok, fun pc hpc => ?_, ?_⟩)
        rotate_left
        · rw [List.length_map]
          omega
        obtain ⟨j, hj, rfl⟩ := List.mem_map.mp hpc
        obtain ⟨bp, hbp⟩ := hjl j hj
        rw [pcAt j bp hbp]
        exact ⟨(hpce bp (List.mem_of_getElem? hbp)).1, Nat.le_trans (hpce bp (List.mem_of_getElem? hbp)).2 (by decide)⟩
end
end Lag


set_option maxRecDepth 100000
set_option maxHeartbeats 8000000
/-! ### sorted(set(xs)), whole numbers, any number of them -/
namespace Lag
open PySem PySem.Spec PyProof.Rows L2
/-- a set as it is made -/
abbrev svE (w : World) : Obj := { cls := .type "set", dict := none, data := .set #[] 0 (.fresh 0 0 (!w.params.followText "set-order")) }
section
variable {P : Program} {w : World} {A : Around} {E : Value → Shared → Prop} {s : Shared}
/-- what a call of set tells: the new address, a set of these numbers -/
abbrev SvMade (w : World) (s : Shared) (ns : List Int) (h' : Heap) (c : Nat) : Prop := SetR w h' s.heap.objs.size (fun j => decide (j ∈ ns)) c ∧ c ≤ ns.length ∧ ∀ b o, s.heap.get? b = some o → h'.get? b = some o
theorem sv_init {l : Addr} {items : Array Value} (ns : List Int) (hh : A.handled = none) (hl : s.heap.IsList l items) (hit : IntsAre items.toList ns) (hb : ns.length + 1 < scanBound) :
    codeAny (model P w) A (.call (.builtin "set.__init__") ⟨[.ref s.heap.objs.size, .ref l], []⟩) (wants (fun r s₂ => r = .none ∧ ∃ h' tk c, s₂ = { s with heap := h', toks := tk } ∧ SvMade w s ns h' c) E) { s with heap := s.heap.push (svE w) } := by
  have hisz : items.size = ns.length := by have q := IntsAre.length hit; rwa [Array.length_toList] at q
  have g0 : (s.heap.push (svE w)).get? s.heap.objs.size = some (svE w) := Heap.get?_push_size _ rfl
  refine codeAny_call_builtin F.called_set.init.plain F.entry_set_init (check_set_init_1 ⟨_, g0, rfl⟩ ?_)
  obtain ⟨⟨oc, od, odt, os⟩, hol, hcl, nl, hdl⟩ := hl
  simp only at hcl hdl; subst hcl; subst hdl
  have hol' : (s.heap.push (svE w)).get? l = some { cls := .type "list", dict := od, data := .seq items nl, slots := os } := Heap.get?_push_of_some _ hol
  have k1 := F.sub_list_set; have k2 := F.sub_list_frozenset; have k3 : (Value.type "list" == Value.type "dict") = false := by decide
  have hl1 : (s.heap.push (svE w)).IsList l items := ⟨_, hol', rfl, nl, rfl⟩
  unfold Builtin.«set.__init__» noKeywords Builtin.Frozenset.updateFrom; generalize hPI : pyIter = PI; wp_walk; subst hPI
  refine wpAny_pyIter_list hl1 (wpAny_bind (wpAny_runValue ?_))
  have lt : l < s.heap.objs.size := Heap.lt_size hol
  have hz : (s.heap.push (svE w)).objs.size = s.heap.objs.size + 1 := Heap.size_push ..
  have n1 : l ≠ (s.heap.push (svE w)).objs.size := by rw [hz]; exact Nat.ne_of_lt (Nat.lt_succ_of_lt lt)
  have n3 : ∀ b, b < s.heap.objs.size → b ≠ s.heap.objs.size ∧ b ≠ (s.heap.push (svE w)).objs.size := fun b hb => ⟨Nat.ne_of_lt hb, by rw [hz]; exact Nat.ne_of_lt (Nat.lt_succ_of_lt hb)⟩
  have n2 : s.heap.objs.size ∉ [(s.heap.push (svE w)).objs.size, l] := fun z => by
    rcases List.mem_cons.mp z with z | z
    · rw [hz] at z
      exact Nat.ne_of_lt (Nat.lt_succ_self _) z
    · exact (Nat.ne_of_lt lt) (List.mem_singleton.mp z).symm
  have hval : ∀ (i : Nat) (v : Value), items[i]? = some v → ∃ k t, ns[i]? = some k ∧ v = .int k t := fun i v hv => by
    have hi : i < ns.length := by rw [← hisz]; exact (Array.getElem?_eq_some_iff.mp hv).1
    obtain ⟨t, e⟩ := IntsAre.int_at hit i v (by rwa [Array.getElem?_toList])
    rw [List.getD_eq_getElem?_getD, List.getElem?_eq_getElem hi] at e
    exact ⟨ns[i], t, List.getElem?_eq_getElem hi, e⟩
  refine set_update_ints ((Walks.list (by simp [hh]) _ l n1 items).toS) s.heap.objs.size n2 ns hisz hb hval (items.size - 0) 0 _ (by omega) (Nat.zero_le _) ⟨⟨_, Heap.get?_push_size _ rfl, rfl, rfl⟩, hl1.push _⟩ ⟨0, Nat.le_refl 0, setR_new_at (Heap.get?_push_of_some _ g0)⟩ fun s' c' hm hc' hS' => ?_
  obtain ⟨h', g2, d', tk', o'⟩ := s'
  have eg : g2 = s.gens := hm.gens; have ed : d' = s.drawn := hm.drawn; have eo : o' = s.os := hm.os
  subst eg; subst ed; subst eo
  show wpAny _ _ _ _ _ _; refine wpAny_pure ?_; show wpAny _ _ (ret Value.none) _ _ _
  rw [hisz] at hc'
  refine wpAny_pure ⟨rfl, h', tk', c', rfl, hS', hc', fun b o e => ?_⟩
  have b0 : b < s.heap.objs.size := Heap.lt_size e
  refine hm.heap b o (fun z => ?_) (Heap.get?_push_of_some _ (Heap.get?_push_of_some _ e))
  rcases List.mem_cons.mp z with z | z
  · exact (n3 b b0).1 z
  · exact (n3 b b0).2 (List.mem_singleton.mp z)
theorem sv_set {l : Addr} {items : Array Value} (ns : List Int) {Q : Value → Shared → Prop} (hh : A.handled = none) (hl : s.heap.IsList l items) (hit : IntsAre items.toList ns) (hb : ns.length + 1 < scanBound)
    (h : ∀ (h' : Heap) (tk c : Nat), SvMade w s ns h' c → Q (.ref s.heap.objs.size) { s with heap := h', toks := tk }) : wpAny (model P w) A (call (.type "set") [.ref l]) Q E s := by
  obtain ⟨c0, tl0, hm1⟩ := F.called_set.mro; have hm2 := F.called_set.made; have hm3 := F.called_set.sub
  refine wpAny_call (codeAny_of_tree ?_); show wpAny _ _ (callAny (.type "set") _) _ _ _
  refine wpAny_pure ⟨Code.quiet_builtin _ (by decide +kernel), codeAny_builtin F.entry_type_call ?_⟩; rw [Around.under_plain (weight_type_call_type "set" [.ref l] []) rfl]
  have q1 := F.called_set.notType; have q2 := F.called_set.canCreate; have q3 := F.typeCall_set_1 (.ref l)
  repeat (any_goals (first | wp_step | assumption))
  refine codeAny_mono (code_set_led1 (.ref l) (E := E) (Q₁ := fun obj s₁ => obj = .ref s.heap.objs.size ∧ s₁ = { s with heap := s.heap.push (svE w) }) ⟨rfl, rfl⟩) fun r s₁ hr => ?_
  match r, hr with
  | .error _, hr => exact hr
  | .ok (.ret obj), hr =>
    obtain ⟨rfl, rfl⟩ := hr
    have hT : Shared.TypeIs { s with heap := s.heap.push (svE w) } (.ref s.heap.objs.size) "set" := ⟨_, Heap.get?_push_size _ rfl, rfl⟩
    have q4 := F.called_set.init.lookup; have q5 := F.called_set.init.bind (.ref s.heap.objs.size)
    repeat (any_goals (first | wp_step | assumption))
    refine codeAny_mono (sv_init (A := _) (E := E) ns (by simp [hh]) hl hit hb) fun r₂ s₂ hr₂ => ?_
    match r₂, hr₂ with
    | .error _, hr₂ => exact hr₂
    | .ok (.ret r), hr₂ =>
      obtain ⟨rfl, h', tk, c', rfl, hm⟩ := hr₂
      repeat (any_goals (first | wp_step | assumption))
      exact h _ _ _ hm
end
end Lag


set_option maxRecDepth 100000
set_option maxHeartbeats 8000000
namespace Lag
open PySem PySem.Spec PyProof.Rows L2 SrtO
section
variable {P : Program} {w : World} {A : Around} {E : Value → Shared → Prop} {s : Shared} {a : Addr}
/-- sorted of a set of whole numbers, any number of them -/
theorem sv_sorted {S : Int → Bool} {n : Nat} {Q : Value → Shared → Prop} (R : SetR w s.heap a S n) (hh : A.handled = none)
    (hQ : ∀ s' p (out : Array Value) (c : Nat) (ns : List Int), (∀ b o, s.heap.get? b = some o → s'.heap.get? b = some o) ∧ s'.gens = s.gens ∧ s'.os = s.os ∧ s.heap.objs.size ≤ p ∧
      s'.heap.get? p = some (seqObj "list" out c) ∧ IntsAre out.toList ns ∧ ns.Pairwise (· < ·) ∧ (∀ k, k ∈ ns ↔ S k = true) ∧ ns.length = n → Q (.ref p) s') : wpAny (model P w) A (call (.builtin "sorted") [.ref a]) Q E s := by
  obtain ⟨o, es, ep, t, ho, hex, hd, g, nd, hm, hb, hf, hn, hr, hl⟩ := R
  refine Calls.call_function_entry kind_sorted plain_sorted entry_sorted (args_sorted1 _) ?_; unfold Builtin.«sorted»
  refine wpAny_bind (m := checkCount "sorted" 1 1 _) (wpAny_pure (wpAny_bind (collect_set (A := A.in1) hh ⟨o, ho, hex.1, hd⟩ hf hb hr hl fun s1 vs k1 hz g1 o1 pm => ?_)))
  have vl : vs.length = n := by rw [pm.length_eq, List.length_map, Array.length_toList, hn]
  have vz : vs.length ≤ sizeLine := by rw [vl, ← hn, sizeLine_eq]; unfold scanBound at hb; omega
  have hI : IntsAre vs (vs.map iv) := ints_iv fun v hv => by
    obtain ⟨e, he, q⟩ := List.mem_map.mp (pm.mem_iff.mp hv); obtain ⟨k, tk, h1, _⟩ := g e he
    exact ⟨k, tk, by rw [← q]; exact h1⟩
  have pk : (vs.map iv).Perm (es.toList.map keyOf) := by
    have q := pm.map iv; rw [List.map_map] at q
    refine q.trans (List.Perm.of_eq (List.map_congr_left fun e he => ?_)); obtain ⟨k, tk, h1, _⟩ := g e he
    show iv e.2 = keyOf e
    unfold keyOf; rw [h1]; rfl
  refine wpAny_bind (wpAny_newList ?_ vz)
  have hoL : (s1.heap.push (seqObj "list" vs.toArray 0)).get? s1.heap.objs.size = some (seqObj "list" vs.toArray 0) := Heap.get?_push_size _ rfl
  refine wpAny_bind (wpAny_holding (wpAny_call_entry slot_list_sort ⟨_, hoL, rfl⟩ entry_list_sort (list_sort_ord swo_int hoL vz (fun h2 => ints_sortable hI h2) fun out hs hb2 => ⟨_, rfl, wpAny_pure ⟨_, rfl, ?_⟩⟩) (args_list_sort _)))
  obtain ⟨j1, j2, j3⟩ := ints_out hI hs hb2
  obtain ⟨c, hc⟩ := sortedHeap_at (vs := vs) (out := out.toArray) hoL
  have pn : (out.map iv).Perm (es.toList.map keyOf) := j2.trans pk
  refine hQ _ s1.heap.objs.size out.toArray c (out.map iv) ⟨fun b u e => ?_, g1, o1, hz, hc, j1, lt_of_le_nodup _ j3 (pn.nodup_iff.mpr nd), fun k => by rw [pn.mem_iff, ← hm k], by rw [pn.length_eq, List.length_map, Array.length_toList]; exact hn⟩
  have q := k1 b u e; have lt := Heap.lt_size q
  show (sortedHeap (s1.heap.push (seqObj "list" vs.toArray 0)) s1.heap.objs.size vs out.toArray).get? b = some u
  rw [sortedHeap_old (Nat.ne_of_lt lt) (by rw [size_push']; exact Nat.lt_succ_of_lt lt)]
  exact Heap.get?_push_of_some _ q
end
/-- sorted(set(xs)) -/
def tSortSet (K : PySem.W.Frag) (ta : TE) : TE := fun σ H Q => ta σ H fun x H1 => ∃ (l : Addr) (ns : List Int), x = .ref l ∧ SqL K H1 l (ns.map V.int) ∧ ns.length ≤ 4000 ∧
  ∀ (ns' : List Int) (p : Addr), ns'.Pairwise (· < ·) → (∀ k, k ∈ ns' ↔ k ∈ ns) → H1 p = none → Q (.ref p) (upd H1 p (.lst (ns'.map V.int)))
theorem pe_sortSet {X : Cx} {a : Expr} {ta : TE} {p p2 q pos : Pos} (g1 : Gl X "sorted") (m1 : X.mg "sorted" = none) (g2 : Gl X "set") (m2 : X.mg "set" = none) (ha : PE X a ta) (bs : bootBuiltins "sorted" = some (.builtin "sorted")) (hc : X.calm = true := by rfl)
    (na : starEach [a] X.env = (false, eval a X.env) :: starEach [] X.env := by rfl) : PE X (.Call (.Name "sorted" p) [.Call (.Name "set" p2) [a] [] q] [] pos) (tSortSet X.K ta) := by
  refine ⟨fun pins s σ H Q I h => Call_ (ld_blt I g1 m1 bs (callWith_builtin1 (args_cons (Call_ (ld_blt I g2 m2 boot_set (callWith_type1 (args_cons (thn (ha.run pins s σ H _ I h) fun v s1 ⟨x, H1, I1, r1, q1⟩ => args_nil ?_) na) na rfl))) rfl) rfl rfl))⟩
  obtain ⟨l, ns, rfl, hq, hl, q1⟩ := q1
  cases r1
  obtain ⟨its, r, pl, hz⟩ := I1.list hq
  refine sv_set ns (I1.ok.hd hc) pl.isList (by simpa using RZ.intsAre_vals r) (by unfold scanBound; omega) fun h' tk c ⟨R, hcn, hk⟩ => args_nil ?_
  have I2 : Inv X pins σ H1 { s1 with heap := h', toks := tk } := I1.kept fun b o e => hk b o e
  have R2 : SetR X.w ({ s1 with heap := h', toks := tk } : Shared).heap s1.heap.objs.size (fun j => decide (j ∈ ns)) c := R
  have hlt := R.lt
  show wpAny _ _ _ _ _ ({ s1 with heap := h', toks := tk } : Shared)
  generalize ({ s1 with heap := h', toks := tk } : Shared) = s2 at I2 R2
  refine sv_sorted R2 (I2.ok.hd hc) fun s' p out c ns' ⟨k, g, o, hp, hg, hi, hs, hm, hln⟩ => ?_
  have hlen : (ns'.map V.int).length ≤ sizeLine := by rw [List.length_map, hln, sizeLine_eq]; omega
  have hn : H1 p = none := I2.hok.fresh hp
  have J : Inv X pins σ (upd H1 p (.lst (ns'.map V.int))) { s2 with heap := s'.heap, gens := s'.gens, drawn := s'.drawn, toks := s'.toks } :=
    I2.call (ch := []) (Un.laid k hp hn) (I2.hok.laid k hp ⟨hlen, out.toList, c, vals_of_ints hi, hg⟩) (by rw [g]; exact I2.bare) (fun _ z => nomatch z)
  have e : s' = { s2 with heap := s'.heap, gens := s'.gens, drawn := s'.drawn, toks := s'.toks } := by
    cases s'; cases s2; cases o; rfl
  rw [e]
  exact ⟨.ref p, _, J, rfl, q1 ns' p hs (fun k => by rw [hm k, decide_eq_true_eq]) hn⟩
end Lag


set_option maxRecDepth 100000
set_option maxHeartbeats 8000000
namespace Lag
open PySem PySem.Spec PyProof.Rows L2
abbrev sBetween : Stmt := topS 44 -- @between
abbrev sLeastBeat : Stmt := topS 55 -- @least_beat
def endsB (gs : List Gt) (ws : List Wr) (s : Nat) : List Nat := (List.range gs.length).filter fun e => (best gs ws s e).isSome
def rowB (gs : List Gt) (ws : List Wr) (s e : Nat) : List Int := [((s : Nat) : Int), ((e : Nat) : Int), ((best gs ws s e).getD (0, 0)).1, -((best gs ws s e).getD (0, 0)).2]
def rowsB (gs : List Gt) (ws : List Wr) (s : Nat) : List (List Int) := (endsB gs ws s).map (rowB gs ws s)
def betL (gs : List Gt) (ws : List Wr) (n : Nat) : List (List Int) := (List.range n).flatMap (rowsB gs ws)
theorem betL_succ (gs : List Gt) (ws : List Wr) (n : Nat) : betL gs ws (n + 1) = betL gs ws n ++ rowsB gs ws n := by
  unfold betL
  rw [List.range_succ, List.flatMap_append, List.flatMap_cons, List.flatMap_nil, List.append_nil]
theorem betL_len (gs : List Gt) (ws : List Wr) : ∀ n, (betL gs ws n).length ≤ n * gs.length
  | 0 => Nat.zero_le _
  | n + 1 => by
    rw [betL_succ, List.length_append, Nat.add_mul, Nat.one_mul]
    have h1 := betL_len gs ws n
    have h2 : (rowsB gs ws n).length ≤ gs.length := by
      unfold rowsB endsB
      rw [List.length_map]
      have := List.length_filter_le (fun e => (best gs ws n e).isSome) (List.range gs.length)
      rw [List.length_range] at this
      exact this
    omega
theorem all2_app' {α β : Type} {R : α → β → Prop} {xs xs' : List α} {ys ys' : List β} (h : All2 R xs ys) (h' : All2 R xs' ys') : All2 R (xs ++ xs') (ys ++ ys') := by
  refine ⟨by rw [List.length_append, List.length_append, h.1, h'.1], fun i x y hx hy => ?_⟩
  by_cases hi : i < xs.length
  · rw [List.getElem?_append_left hi] at hx
    rw [List.getElem?_append_left (by rw [← h.1]; exact hi)] at hy
    exact h.2 i x y hx hy
  · rw [List.getElem?_append_right (by omega)] at hx
    rw [List.getElem?_append_right (by rw [← h.1]; omega), ← h.1] at hy
    exact h'.2 _ x y hx hy
/-- a tuple of numbers -/
def RowT (K : PySem.W.Frag) (H : Hp) (v : V) (r : List Int) : Prop := ∃ a, v = .ref a ∧ SqT K H a (r.map V.int)
theorem RowT.tk {K : PySem.W.Frag} {H H' : Hp} {v : V} {r : List Int} (t : TK H H') (h : RowT K H v r) : RowT K H' v r := by
  obtain ⟨a, e, s⟩ := h
  exact ⟨a, e, t.seq s⟩
theorem sorted_uniq : ∀ {l l' : List Nat}, l.Perm l' → l.Pairwise (· ≤ ·) → l'.Pairwise (· ≤ ·) → l = l'
  | [], l', p, _, _ => (List.nil_perm.mp p).symm
  | a :: l, [], p, _, _ => absurd (List.perm_nil.mp p) (by simp)
  | a :: l, b :: l', p, h, h' => by
    obtain ⟨h1, h2⟩ := List.pairwise_cons.mp h
    obtain ⟨k1, k2⟩ := List.pairwise_cons.mp h'
    have e : a = b := by
      have m1 := p.mem_iff.mp (List.mem_cons_self (a := a) (l := l))
      have m2 := p.mem_iff.mpr (List.mem_cons_self (a := b) (l := l'))
      rcases List.mem_cons.mp m1 with m1 | m1
      · exact m1
      · rcases List.mem_cons.mp m2 with m2 | m2
        · exact m2.symm
        · have := h1 b m2
          have := k1 a m1
          omega
    subst e
    rw [sorted_uniq ((List.perm_cons a).mp p) h2 k2]
theorem range_sorted : ∀ n, (List.range n).Pairwise (· ≤ ·) := fun n => by
  rw [List.pairwise_iff_getElem]
  intro i j hi hj hij
  rw [List.getElem_range, List.getElem_range]
  omega
theorem ends_uniq {gs : List Gt} {ws : List Wr} {s : Nat} {es ks : List Nat} (N : NetOk gs ws) (hs : s < gs.length) (hp : es.Perm ks) (hnd : ks.Nodup) (hmem : ∀ g, g ∈ ks ↔ ∃ c, best gs ws s g = some c) (hso : es.Pairwise (· ≤ ·)) : es = endsB gs ws s := by
  refine sorted_uniq ?_ hso (by unfold endsB; exact (range_sorted _).filter _)
  unfold endsB
  rw [List.perm_ext_iff_of_nodup (hp.nodup_iff.mpr hnd) (List.nodup_range.filter _)]
  intro g
  rw [hp.mem_iff, hmem, List.mem_filter, List.mem_range]
  constructor
  · rintro ⟨c, hc⟩
    exact ⟨best_lt N hs hc, by rw [hc]; rfl⟩
  · rintro ⟨_, h⟩
    cases e : best gs ws s g with
    | none => rw [e] at h; cases h
    | some c => exact ⟨c, rfl⟩
theorem mem_betL {gs : List Gt} {ws : List Wr} {r : List Int} : ∀ {n : Nat}, r ∈ betL gs ws n ↔ ∃ s e c, s < n ∧ e < gs.length ∧ best gs ws s e = some c ∧ r = [((s : Nat) : Int), ((e : Nat) : Int), c.1, -c.2] := fun {n} => by
  unfold betL
  rw [List.mem_flatMap]
  constructor
  · rintro ⟨s, hs, hr⟩
    unfold rowsB at hr
    obtain ⟨e, he, rfl⟩ := List.mem_map.mp hr
    unfold endsB at he
    obtain ⟨h1, h2⟩ := List.mem_filter.mp he
    cases hc : best gs ws s e with
    | none => rw [hc] at h2; cases h2
    | some c => exact ⟨s, e, c, List.mem_range.mp hs, List.mem_range.mp h1, hc, by unfold rowB; rw [hc]; rfl⟩
  · rintro ⟨s, e, c, h1, h2, h3, rfl⟩
    refine ⟨s, List.mem_range.mpr h1, List.mem_map.mpr ⟨e, List.mem_filter.mpr ⟨List.mem_range.mpr h2, by rw [h3]; rfl⟩, ?_⟩⟩
    unfold rowB
    rw [h3]
    rfl
theorem IsWait.nn {gs : List Gt} {ws : List Wr} {m : Int} (N : NetOk gs ws) (h : IsWait gs ws m) : 0 ≤ m := by
  obtain ⟨s, e, c, hs, hc, rfl⟩ := h
  obtain ⟨ps, _, h2⟩ := best_way hc
  rw [h2]
  have := gw_nn N s
  have := pws_nn N ps
  show 0 ≤ - -pwt gs ws s ps
  unfold pwt
  omega
def spBetween (K : PySem.W.Frag) (C : Addr) : Sp := fun vs H Q _ => ∃ (p ng nw : Addr) (gs : List Gt) (ws : List Wr), vs = [.ref p] ∧ NetAt K C H p ng nw gs ws ∧ NetOk gs ws ∧
  ∀ (l : Addr) (tv : List V) (H' : Hp), Same H H' → H l = none → H' l = some (.lst tv) → All2 (RowT K H') tv (betL gs ws gs.length) → Q (.ref l) H'
def spLeastBeat (K : PySem.W.Frag) (C : Addr) : Sp := fun vs H Q _ => ∃ (p ng nw : Addr) (gs : List Gt) (ws : List Wr), vs = [.ref p] ∧ NetAt K C H p ng nw gs ws ∧ NetOk gs ws ∧ gs.length ≤ 60 ∧
  ∀ (t l : Addr) (B : Int) (L : Nat → Int) (H' : Hp), Same H H' → H' t = some (.tup [.int B, .ref l]) → H l = none → H' l = some (.lst ((lagsL gs L).map V.int)) → IsLeast gs ws B → Feas gs ws B L → (∀ g, g < gs.length → -101 ≤ L g ∧ L g ≤ 101) → 0 ≤ B → Q (.ref t) H'
section
variable {P : Program} {w : World} {K : PySem.W.Frag} {mg : Str → Option Value} {base : Heap}
abbrev nBetween : List Str := ["net", "told", "start", "known", "last", "end"]
theorem scBetween : FnScope nBetween ["net"] (defScope sBetween) := ⟨rfl, rfl, rfl, by decide +kernel, rfl, by decide +kernel, by decide +kernel⟩
abbrev DBetween (P : Program) (w : World) (K : PySem.W.Frag) (mg : Str → Option Value) (base : Heap) (C : Addr) := Df P w K mg base 2 "between" ["net"] (spBetween K C)
theorem ok_between {f fB C : Addr} {fd fdB : FuncData} (F : Fun K "between" "between" sBetween f fd) (hm : mg "between" = some (.ref f)) (B : Bt mg) (mso : mg "sorted" = none) (T : NT K mg C) (DBF : DBestFrom P w K mg base C fB fdB) : DBetween P w K mg base C f fd := by
  refine ⟨?_, hm, F.kp, F.binds fun _ _ _ _ _ _ us hl => match us, hl with | [_], _ => rfl⟩
  refine F.ok scBetween (fun vs H Q E h => ?_) (fun cdv A outer s H vs Q E hr h => ?_)
  · obtain ⟨p, ng, nw, gs, ws, rfl, _⟩ := h
    rfl
  · obtain ⟨p, ng, nw, gs, ws, rfl, NA, N, q⟩ := h
    have nd := scBetween.nd
    refine ⟨_, pss_cons (ps_set (i := 1) nd rfl (.inl rfl) (pe_lst pa_nil)) <|
        pss_cons (ps_for PassesOwn.never rfl (pi_range1 (by rfl) B.range (pa_cons (pe_callB call_len_seq (by rfl) B.len PySem.boot_len (pa_cons (pe_fld (pv 0) rfl) pa_nil)) pa_nil)) (pg_name (i := 2) nd rfl (.inr rfl)) (pss_cons (ps_asg (pe_call DBF.ok (hr.mono (by decide)) (by rfl) DBF.mg DBF.kp DBF.bd .nil pass0 (pa_cons (pv 0) (pa_cons (pv 2) pa_nil))) (pg_tup rfl (pgs_cons (pg_name (i := 3) nd rfl (.inr rfl)) (pgs_cons (pg_name (i := 4) nd rfl (.inl rfl)) pgs_nil)))) <|
        pss_one (ps_expr (pe_bm PySem.F.plainAttrs_list PySem.F.slot_list_extend PySem.F.type_list_extend mt_extend (pv 1) (pa_cons (pe_lc (own := [("end", 5)]) (g := (gName 5)) (tt := tYes) (te := (tTup (tCons (tVar 2) (tCons (tVar 5) (tCons (tOp (rIxT K) (tDGet (tVar 3) (tVar 5)) (tC (.int 0))) (tCons (tUn (rU fun i => .int (-i)) (tOp (rIxT K) (tDGet (tVar 3) (tVar 5)) (tC (.int 1)))) tNil)))))) rfl nd (pi_list (pe_callB cr_sortedI (by rfl) mso (by decide +kernel) (pa_cons (pe_callTy (call_list_dK rfl) (by rfl) B.list (by decide +kernel) (pa_cons (pv 3) pa_nil)) pa_nil))) (blkOk_by (N := nBetween) (sc := defScope sBetween) (own := [("end", 5)]) (by decide +kernel)) (fun _ _ _ _ _ => (pg_name (i := 5) nd rfl (.inl rfl))) (fun _ _ _ _ _ => pts_nil) (fun _ _ _ _ _ => (pe_tup (pa_cons (pv 2) (pa_cons (pv 5) (pa_cons (pe_ix ix_tup (pe_dget (hu_of hr) (pv 3) (pv 5) (fun _ _ => rfl)) pe_int (fun _ _ => rfl)) (pa_cons (pe_un un_neg (pe_ix ix_tup (pe_dget (hu_of hr) (pv 3) (pv 5) (fun _ _ => rfl)) pe_int (fun _ _ => rfl))) pa_nil))))))) pa_nil))))) <|
        pss_one (ps_ret (pv 1)), ?_⟩
    have hgl := N.gl
    obtain ⟨dx, ob⟩ := id NA.ob
    obtain ⟨gv, hgv, ga⟩ := id NA.g
    have hlg : gv.length = gs.length := ga.1
    refine ⟨(by show 0 ≤ sizeLine; decide), fun lt hlt => ?_⟩
    have t2 := same_new (o := .lst []) hlt
    have e2 : (upd H lt (.lst [])) lt = some (.lst []) := upd_same
    generalize upd H lt (.lst []) = H2 at t2 e2
    refine gn_norm (σ' := [some (.ref p), some (.ref lt), none, none, none, none]) rfl ?_
    refine ⟨_, rfl, p, C, dx, _, _, rfl, t2 _ _ ob, T.cl, T.nG, nf_gates _ _, ng, gv, rfl, .inl (SqL.of (t2 _ _ hgv)), _, rfl, by omega, by omega, for_range (lo := 0) (n := ((gv.length : Nat) : Int).toNat) (fun i σ H' => ∃ (u2 u3 u4 u5 : Option V) (tv : List V), σ = [some (.ref p), some (.ref lt), u2, u3, u4, u5] ∧ Same H H' ∧ H' lt = some (.lst tv) ∧ All2 (RowT K H') tv (betL gs ws i))
      ⟨_, _, _, _, [], rfl, t2, e2, All2.nil⟩ ?_ ?_⟩
    · rintro i σ H3 hi ⟨u2, u3, u4, u5, tv, rfl, sm, et, at_⟩
      rw [Int.toNat_natCast, hlg] at hi
      have ei : (0 : Int) + ((i : Nat) : Int) = ((i : Nat) : Int) := Int.zero_add _
      rw [ei]
      refine ⟨_, rfl, _, rfl, p, ng, nw, gs, ws, i, rfl, NA.same sm, N, hi, fun t d lL kvs ks La H4 s4 ett kn eL hL0 lok => ?_⟩
      refine ⟨t, _, rfl, .inl (.inl ett), rfl, _, _, rfl, _, _, rfl, rfl, ?_⟩
      have et4 := s4 _ _ et
      refine gn_norm (σ' := [some (.ref p), some (.ref lt), some (.int (i : Nat)), some (.ref d), some (.ref lL), u5]) rfl ?_
      refine ⟨_, rfl, .inl ⟨rfl, _, SqL.of et4⟩, ?_⟩
      refine ⟨_, rfl, d, kvs, rfl, kn.at_, fun lk hlk => ?_⟩
      rw [kn.list]
      have t5 := same_new (o := .lst ((ks.map fun i => ((i : Nat) : Int)).map V.int)) hlk
      have e5 : (upd H4 lk (.lst ((ks.map fun i => ((i : Nat) : Int)).map V.int))) lk = some (.lst ((ks.map fun i => ((i : Nat) : Int)).map V.int)) := upd_same
      generalize upd H4 lk (.lst ((ks.map fun i => ((i : Nat) : Int)).map V.int)) = H5 at t5 e5
      refine ⟨lk, _, rfl, SqL.of e5, fun ns lp hperm hsrt hlp => ?_⟩
      obtain ⟨es, rfl, hep, hes⟩ := nat_sorted hperm hsrt
      have hee := ends_uniq N hi hep kn.nd kn.mem hes
      have hex : (es.map fun i => ((i : Nat) : Int)).map V.int = nvs es := by rw [List.map_map]; rfl
      rw [hex]
      have t6 := same_new (o := .lst (nvs es)) hlp
      have e6 : (upd H5 lp (.lst (nvs es))) lp = some (.lst (nvs es)) := upd_same
      generalize upd H5 lp (.lst (nvs es)) = H6 at t6 e6
      have s46 := t5.trans t6
      have hkl : es.length ≤ gs.length := by
        rw [hep.length_eq]
        exact svNodup_le kn.nd fun v hv => by
          obtain ⟨c, hc⟩ := (kn.mem v).mp hv
          exact best_lt N hi hc
      refine ⟨lp, rfl, ⟨_, SqL.of e6⟩, fun D hD => ?_⟩
      refine lc_list (K := K) (a := lp) (xs := nvs es) (fun j Hc => ∃ rv : List V, Hc D = some (.lst rv) ∧ All2 (RowT K Hc) rv ((es.take j).map (rowB gs ws i)) ∧ Same H6 Hc) ⟨[], upd_same, All2.nil, same_new hD⟩ (fun j Hc _ ⟨_, _, _, s7⟩ => SqL.of (s7 _ _ e6)) ?_ ?_
      · rintro j v Hc hv ⟨rv, hc, al, s7⟩
        obtain ⟨e, he, rfl⟩ := nvs_of hv
        obtain ⟨c, hcb⟩ := (kn.mem e).mp (hep.mem_iff.mp (List.mem_of_getElem? he))
        obtain ⟨tc, hg, hsc⟩ := (kn.same (s46.trans s7)).get hcb
        have hjl : j < es.length := (List.getElem?_eq_some_iff.mp he).1
        have hrl : rv.length ≤ j := by
          have := al.1
          rw [List.length_map, List.length_take] at this
          omega
        refine ⟨rfl, tyes ?_⟩
        refine ⟨_, rfl, _, rfl, _, rfl, _, rfl, d, _, rfl, hg, tc, _, 0, _, rfl, rfl, hsc, atI_nat (j := 0) rfl, ?_⟩
        refine ⟨_, rfl, _, rfl, d, _, rfl, hg, tc, _, 1, _, rfl, rfl, hsc, atI_nat (j := 1) rfl, _, rfl, (by show 4 ≤ sizeLine; decide), fun tt htt => ?_⟩
        have t8 := same_new (o := .tup [.int ((i : Nat) : Int), .int ((e : Nat) : Int), .int c.1, .int (-c.2)]) htt
        have e8 : (upd Hc tt (.tup [.int ((i : Nat) : Int), .int ((e : Nat) : Int), .int c.1, .int (-c.2)])) tt = some (.tup [.int ((i : Nat) : Int), .int ((e : Nat) : Int), .int c.1, .int (-c.2)]) := upd_same
        generalize upd Hc tt (.tup [.int ((i : Nat) : Int), .int ((e : Nat) : Int), .int c.1, .int (-c.2)]) = H8 at t8 e8
        have hc8 := t8 _ _ hc
        refine ⟨rv, hc8, small1000 (by omega), rv ++ [.ref tt], upd_same, ?_, same_mut (s7.trans t8) hD⟩
        rw [List.take_add_one, he, List.map_append]
        refine ((al.imp fun _ _ r => r.tk (TK.same t8)).imp fun _ _ r => r.tk (TK.lst hc8)).snoc ⟨tt, rfl, ?_⟩
        have er : rowB gs ws i e = [((i : Nat) : Int), ((e : Nat) : Int), c.1, -c.2] := by
          unfold rowB
          rw [hcb]
          rfl
        rw [er]
        exact (TK.lst hc8).seq (.inl (.inl e8))
      · rintro H7 ⟨rv, hc, al, s7⟩
        rw [nvs_len, List.take_length] at al
        have hrl : rv.length ≤ gs.length := by
          have := al.1
          rw [List.length_map] at this
          omega
        have s37 := (s4.trans s46).trans s7
        have et7 := s37 _ _ et
        have ndt : D ≠ lt := (ne_of_none (s46 _ _ et4) hD).symm
        have htl : tv.length ≤ i * gs.length := by
          rw [at_.1]
          exact betL_len gs ws i
        have hilt : i * gs.length ≤ 10000 := Nat.mul_le_mul (by omega : i ≤ 100) (by omega : gs.length ≤ 100)
        refine ⟨lt, D, tv, rv, rfl, rfl, et7, hc, Nat.le_of_lt (small11k (by omega)), ?_⟩
        refine ⟨_, _, _, _, tv ++ rv, rfl, same_mut (sm.trans s37) hlt, upd_same, ?_⟩
        rw [betL_succ]
        have a7 : All2 (RowT K H7) (tv ++ rv) (betL gs ws i ++ rowsB gs ws i) := by
          refine all2_app' (at_.imp fun _ _ r => r.tk (TK.same s37)) ?_
          unfold rowsB
          rw [← hee]
          exact al
        exact a7.imp fun _ _ r => r.tk (TK.lst et7)
    · rintro σ H3 ⟨u2, u3, u4, u5, tv, rfl, sm, et, at_⟩
      rw [Int.toNat_natCast, hlg] at at_
      exact ⟨_, rfl, q lt tv H3 sm hlt et at_⟩
abbrev nLeastBeat : List Str := ["net", "start", "end", "many", "wait", "waits", "low", "high", "middle"]
theorem scLeastBeat : FnScope nLeastBeat ["net"] (defScope sLeastBeat) := ⟨rfl, rfl, rfl, by decide +kernel, rfl, by decide +kernel, by decide +kernel⟩
abbrev DLeastBeat (P : Program) (w : World) (K : PySem.W.Frag) (mg : Str → Option Value) (base : Heap) (C : Addr) := Df P w K mg base 5 "least_beat" ["net"] (spLeastBeat K C)
theorem ok_leastBeat {f fB fF C : Addr} {fd fdB fdF : FuncData} (F : Fun K "least_beat" "least_beat" sLeastBeat f fd) (hm : mg "least_beat" = some (.ref f)) (B : Bt mg) (mso : mg "sorted" = none) (mse : mg "set" = none) (DBt : DBetween P w K mg base C fB fdB) (DFb : DForBeat P w K mg base C fF fdF) : DLeastBeat P w K mg base C f fd := by
  refine ⟨?_, hm, F.kp, F.binds fun _ _ _ _ _ _ us hl => match us, hl with | [_], _ => rfl⟩
  refine F.ok scLeastBeat (fun vs H Q E h => ?_) (fun cdv A outer s H vs Q E hr h => ?_)
  · obtain ⟨p, ng, nw, gs, ws, rfl, _⟩ := h
    rfl
  · obtain ⟨p, ng, nw, gs, ws, rfl, NA, N, hg60, q⟩ := h
    have nd := scLeastBeat.nd
    refine ⟨_, pss_cons (ps_set (i := 5) nd rfl (.inl rfl) (pe_sortSet (by rfl) mso (by rfl) mse (pe_lc (own := [("start", 1), ("end", 2), ("many", 3), ("wait", 4)]) (g := (gTup K 4 (gCons (gName 1) (gCons (gName 2) (gCons (gName 3) (gCons (gName 4) gNil)))))) (tt := tYes) (te := (tVar 4)) rfl nd (pi_list (pe_call DBt.ok (hr.mono (by decide)) (by rfl) DBt.mg DBt.kp DBt.bd .nil pass0 (pa_cons (pv 0) pa_nil))) (blkOk_by (N := nLeastBeat) (sc := defScope sLeastBeat) (own := [("start", 1), ("end", 2), ("many", 3), ("wait", 4)]) (by decide +kernel)) (fun _ _ _ _ _ => (pg_tup rfl (pgs_cons (pg_name (i := 1) nd rfl (.inl rfl)) (pgs_cons (pg_name (i := 2) nd rfl (.inl rfl)) (pgs_cons (pg_name (i := 3) nd rfl (.inl rfl)) (pgs_cons (pg_name (i := 4) nd rfl (.inl rfl)) pgs_nil)))))) (fun _ _ _ _ _ => pts_nil) (fun _ _ _ _ _ => (pv 4))) (by decide +kernel))) <|
        pss_cons (ps_set (i := 6) nd rfl (.inl rfl) pe_int) <|
        pss_cons (ps_set (i := 7) nd rfl (.inl rfl) (pe_op op_sub (pe_callB call_len_seq (by rfl) B.len PySem.boot_len (pa_cons (pv 5) pa_nil)) pe_int)) <|
        pss_cons (ps_while PassesOwn.never (pt_cmpR op_lt (pv 6) (pv 7) (nomark _)) (pss_cons (ps_set (i := 8) nd rfl (.inl rfl) (pe_op op_fdiv (pe_op op_add (pv 6) (pv 7)) pe_int)) <|
        pss_one (ps_if (pt_cmpR op_eq (pe_ix ix_tup (pe_call DFb.ok (hr.mono (by decide)) (by rfl) DFb.mg DFb.kp DFb.bd .nil pass0 (pa_cons (pv 0) (pa_cons (pe_ix ix_list (pv 5) (pv 8) (fun _ _ => rfl)) pa_nil))) pe_int (fun _ _ => rfl)) pe_str (nomark _)) (pss_one (ps_set (i := 7) nd rfl (.inl rfl) (pv 8))) (pss_one (ps_set (i := 6) nd rfl (.inl rfl) (pe_op op_add (pv 8) pe_int)))))) <|
        pss_one (ps_ret (pe_tup (pa_cons (pe_ix ix_list (pv 5) (pv 6) (fun _ _ => rfl)) (pa_cons (pe_ix ix_tup (pe_call DFb.ok (hr.mono (by decide)) (by rfl) DFb.mg DFb.kp DFb.bd .nil pass0 (pa_cons (pv 0) (pa_cons (pe_ix ix_list (pv 5) (pv 6) (fun _ _ => rfl)) pa_nil))) pe_int (fun _ _ => rfl)) pa_nil)))), ?_⟩
    refine ⟨_, rfl, p, ng, nw, gs, ws, rfl, NA, N, fun lb tv H1 s1 hlb elb al => ?_⟩
    have hbl := betL_len gs ws gs.length
    have hbl2 : gs.length * gs.length ≤ 3600 := Nat.mul_le_mul hg60 hg60
    have htl : tv.length = (betL gs ws gs.length).length := al.1
    refine ⟨lb, rfl, ⟨_, SqL.of elb⟩, fun D hD => ?_⟩
    refine lc_list (K := K) (a := lb) (xs := tv) (fun i Hc => Hc D = some (.lst ((((betL gs ws gs.length).take i).map fun r => r.getD 3 0).map V.int)) ∧ Same H1 Hc) ⟨by rw [upd_same]; rfl, same_new hD⟩ (fun i Hc _ ⟨_, sm⟩ => SqL.of (sm _ _ elb)) ?_ ?_
    · rintro i v Hc hv ⟨hc, sm⟩
      obtain ⟨r, hr', a, rfl, sq⟩ := al.get hv
      obtain ⟨s', e', c, _, _, hcb, rfl⟩ := mem_betL.mp (List.mem_of_getElem? hr')
      have hil := (List.getElem?_eq_some_iff.mp hv).1
      refine ⟨a, _, rfl, (TK.same sm).seq sq, rfl, _, _, rfl, _, _, rfl, _, _, rfl, _, _, rfl, rfl, rfl, tyes ?_⟩
      refine ⟨_, rfl, _, hc, ?_, ?_, same_mut sm hD⟩
      · rw [List.length_map, List.length_map, List.length_take]
        exact small11k (by omega)
      · rw [upd_same, List.take_add_one, hr', List.map_append, List.map_append]
        rfl
    rintro H2 ⟨hc, s2⟩
    rw [htl, List.take_length] at hc
    refine ⟨D, _, rfl, SqL.of hc, by rw [List.length_map]; omega, fun W lw hW hmem hlw => ?_⟩
    have hw : ∀ m, m ∈ W ↔ IsWait gs ws m := fun m => by
      rw [hmem, List.mem_map]
      constructor
      · rintro ⟨r, hr', rfl⟩
        obtain ⟨s', e', c, h1, _, h3, rfl⟩ := mem_betL.mp hr'
        exact ⟨s', e', c, h1, h3, rfl⟩
      · rintro ⟨s', e', c, h1, h3, rfl⟩
        exact ⟨_, mem_betL.mpr ⟨s', e', c, h1, best_lt N h1 h3, h3, rfl⟩, rfl⟩
    have t3 := same_new (o := .lst (W.map V.int)) hlw
    have e3 : (upd H2 lw (.lst (W.map V.int))) lw = some (.lst (W.map V.int)) := upd_same
    generalize upd H2 lw (.lst (W.map V.int)) = H3 at t3 e3
    have s3 := (s1.trans s2).trans t3
    have hn0 : 0 < gs.length := List.length_pos_iff.mpr N.ne
    have hWn : 0 < W.length := by
      have h1 : IsWait gs ws (- -pwt gs ws 0 []) := by
        obtain ⟨c, hcb, hl⟩ := best_le N hn0 (ps := []) (g := 0) (ws := ws) rfl
        have h2 : best gs ws 0 0 = some (0, -gw gs 0) := rnds_s N gs.length
        refine ⟨0, 0, _, hn0, h2, ?_⟩
        unfold pwt
        rw [pws_nil, Int.add_zero]
      exact List.length_pos_of_mem ((hw _).mpr h1)
    have hat : ∀ {i : Nat}, i < W.length → (W.map V.int)[i]? = some (.int (W.getD i 0)) := fun h => sgetD_at h
    have hin : ∀ {i : Nat}, i < W.length → W.getD i 0 ∈ W := fun {i} h => by
      rw [List.getD_eq_getElem?_getD, List.getElem?_eq_getElem h]
      exact List.getElem_mem _
    have hlt : ∀ {i j : Nat}, j < W.length → i < j → W.getD i 0 < W.getD j 0 := fun {i j} hj hij => by
      have hi : i < W.length := by omega
      rw [List.getD_eq_getElem?_getD, List.getD_eq_getElem?_getD, List.getElem?_eq_getElem hi, List.getElem?_eq_getElem hj]
      exact List.pairwise_iff_getElem.mp hW i j hi hj hij
    have top : FeasE gs ws (W.getD (W.length - 1) 0) := ⟨_, Feas.zero N fun m hm => by
      obtain ⟨i, hi, rfl⟩ := List.getElem_of_mem ((hw m).mpr hm)
      by_cases e : i = W.length - 1
      · subst e
        rw [List.getD_eq_getElem?_getD, List.getElem?_eq_getElem hi]
        exact Int.le_refl _
      · have := hlt (i := i) (j := W.length - 1) (by omega) (by omega)
        rw [List.getD_eq_getElem?_getD (i := i), List.getElem?_eq_getElem hi] at this
        exact Int.le_of_lt this⟩
    refine ⟨_, rfl, lw, _, rfl, .inl (SqL.of e3), _, _, rfl, rfl, ?_⟩
    rw [List.length_map]
    refine ⟨fun m σ H' => ∃ (lo hi : Nat) (u8 : Option V), σ = [some (.ref p), none, none, none, none, some (.ref lw), some (.int (lo : Nat)), some (.int (hi : Nat)), u8] ∧ m = hi - lo ∧ lo ≤ hi ∧ hi < W.length ∧ FeasE gs ws (W.getD hi 0) ∧ (∀ k, k < lo → ¬ FeasE gs ws (W.getD k 0)) ∧ Same H3 H', ⟨_, 0, W.length - 1, none, ?_, rfl, Nat.zero_le _, by omega, top, fun k hk => absurd hk (Nat.not_lt_zero _), Same.refl _⟩, ?_⟩
    · have e : ((W.length : Nat) : Int) - 1 = ((W.length - 1 : Nat) : Int) := by omega
      show [some (V.ref p), none, none, none, none, some (V.ref lw), some (V.int 0), some (V.int (((W.length : Nat) : Int) - 1)), none] = _
      rw [e]
      rfl
    rintro m σ H4 ⟨lo, hi, u8, rfl, rfl, hlh, hhi, hf, hno, s4⟩
    refine ⟨_, rfl, _, rfl, _, _, rfl, rfl, _, rfl, ite2 (fun e => ?_) (fun e => ?_)⟩
    · have hlt2 : lo < hi := by
        have := of_decide_eq_true e
        omega
      refine ⟨fun σ H' => ∃ (lo' hi' : Nat) (u8 : Option V), σ = [some (.ref p), none, none, none, none, some (.ref lw), some (.int (lo' : Nat)), some (.int (hi' : Nat)), u8] ∧ hi' - lo' < hi - lo ∧ lo' ≤ hi' ∧ hi' < W.length ∧ FeasE gs ws (W.getD hi' 0) ∧ (∀ k, k < lo' → ¬ FeasE gs ws (W.getD k 0)) ∧ Same H3 H', fun σ' H' ⟨lo', hi', u8, e1, h1, h2⟩ => ⟨hi' - lo', h1, lo', hi', u8, e1, rfl, h2⟩, ?_⟩
      refine ⟨_, rfl, _, rfl, _, _, rfl, rfl, _, _, rfl, rfl, ⟨by decide, by decide⟩, ?_⟩
      have hmid : ((lo : Nat) : Int) + ((hi : Nat) : Int) = ((lo + hi : Nat) : Int) := by omega
      have hmid2 : (((lo : Nat) : Int) + ((hi : Nat) : Int)) / 2 = (((lo + hi) / 2 : Nat) : Int) := by rw [hmid]; rfl
      refine gn_norm (σ' := [some (.ref p), none, none, none, none, some (.ref lw), some (.int (lo : Nat)), some (.int (hi : Nat)), some (.int ((((lo : Nat) : Int) + ((hi : Nat) : Int)) / 2))]) rfl ?_
      rw [hmid2]
      generalize hm2 : (lo + hi) / 2 = mi
      have h1 : lo ≤ mi := by omega
      have h2 : mi < hi := by omega
      have e4 := s4 _ _ e3
      refine ⟨_, rfl, _, rfl, _, rfl, lw, _, mi, _, rfl, rfl, SqL.of e4, atI_nat (hat (by omega)), ?_⟩
      refine ⟨p, ng, nw, gs, ws, _, rfl, NA.same (s3.trans s4), N, ((hw _).mp (hin (by omega))).nn N, fun t H5 s5 ht fb => ?_⟩
      obtain ⟨w', l', et, hw', hiff⟩ := fb.lags N
      refine ⟨t, _, 0, _, rfl, rfl, .inl (.inl et), atI_nat (j := 0) rfl, rfl, _, rfl, ?_⟩
      by_cases hL : w' = "lags"
      · rw [hL, decide_eq_true rfl]
        refine iteT ⟨_, rfl, lo, mi, _, rfl, by omega, h1, by omega, hiff.mp hL, hno, s4.trans s5⟩
      · rw [decide_eq_false (fun z => hL (V.str.inj z))]
        refine iteF ⟨_, rfl, _, _, rfl, rfl, mi + 1, hi, some (.int (mi : Nat)), rfl, by omega, by omega, hhi, hf, fun k hk hfk => ?_, s4.trans s5⟩
        by_cases hkm : k = mi
        · rw [hkm] at hfk
          exact hL (hiff.mpr hfk)
        · obtain ⟨L, hL'⟩ := hfk
          have hno2 : ¬ FeasE gs ws (W.getD mi 0) := fun z => hL (hiff.mpr z)
          exact hno2 ⟨L, hL'.mono (Int.le_of_lt (hlt (by omega) (by omega)))⟩
    · have hle2 : lo = hi := by
        have : ¬ (((lo : Nat) : Int) < ((hi : Nat) : Int)) := fun z => e (decide_eq_true z)
        omega
      subst hle2
      have e4 := s4 _ _ e3
      have hB := ((hw _).mp (hin hhi)).nn N
      refine ⟨_, rfl, _, rfl, lw, _, lo, _, rfl, rfl, SqL.of e4, atI_nat (hat hhi), ?_⟩
      refine ⟨_, rfl, _, rfl, _, rfl, lw, _, lo, _, rfl, rfl, SqL.of e4, atI_nat (hat hhi), ?_⟩
      refine ⟨p, ng, nw, gs, ws, _, rfl, NA.same (s3.trans s4), N, hB, fun t H5 s5 ht fb => ?_⟩
      have s35 := (s3.trans s4).trans s5
      rcases fb with ⟨l, L, et, hl, el, hF, hb⟩ | ⟨l, pcs, _, _, _, hbar, _⟩
      · refine ⟨t, _, 1, _, rfl, rfl, .inl (.inl et), atI_nat (j := 1) rfl, (by show 2 ≤ sizeLine; decide), fun tt htt => ?_⟩
        have t6 := same_new (o := .tup [.int (W.getD lo 0), .ref l]) htt
        refine q tt l (W.getD lo 0) L _ (s35.trans t6) upd_same ((s3.trans s4).free hl) (t6 _ _ el) ⟨hf, fun b hb hfe => ?_⟩ hF hb hB
        obtain ⟨L', hL'⟩ := hfe
        obtain ⟨m, hmb, hmw, hmf⟩ := hL'.tight N
        obtain ⟨k, hk, ek⟩ := List.getElem_of_mem ((hw m).mpr hmw)
        have ek' : W.getD k 0 = m := by rw [List.getD_eq_getElem?_getD, List.getElem?_eq_getElem hk, ek]; rfl
        have hklo : k < lo := by
          rcases Nat.lt_or_ge k lo with h | h
          · exact h
          · exfalso
            by_cases e2 : k = lo
            · rw [e2] at ek'
              omega
            · have := hlt (i := lo) (j := k) hk (by omega)
              omega
        exact hno k hklo ⟨L', by rw [ek']; exact hmf⟩
      · obtain ⟨L, hL⟩ := hf
        exact absurd hL (hbar.none N)
end
end Lag


set_option maxRecDepth 100000
set_option maxHeartbeats 8000000
namespace Lag
open PySem PySem.Spec PyProof.Rows L2
/-! ### how great a least beat is; a ring bounds the beat (as in drafts/k84/U1) -/
theorem Wk.bd {gs : List Gt} {ws : List Wr} {s : Nat} (N : NetOk gs ws) {vs : List Nat} {g : Nat} {c : Cst} (h : Wk gs ws s vs g c) : -c.2 ≤ 100 * (vs.length : Int) := by
  have w : ∀ g, gw gs g ≤ 100 := fun g => by
    unfold gw
    rw [List.getD_eq_getElem?_getD]
    cases e : gs[g]? with
    | none => show (0 : Int) ≤ 100; decide
    | some x => exact (N.gok x (List.mem_of_getElem? e)).2.2.1
  induction h with
  | nil =>
    have := w s
    show - -gw gs s ≤ 100 * 1
    omega
  | @cons vs v c x _ _ _ ih =>
    have := w x.2.1
    rw [List.length_cons]
    show -(c.2 - gw gs x.2.1) ≤ _
    omega
theorem best_bd {gs : List Gt} {ws : List Wr} {s g : Nat} {c : Cst} (N : NetOk gs ws) (hs : s < gs.length) (h : best gs ws s g = some c) : -c.2 ≤ 10000 := by
  obtain ⟨ρ, hρ⟩ := N.rank
  obtain ⟨vs, hv⟩ := Snd.rnds (gs := gs) (ws := ws) (s := s) gs.length g c h
  obtain ⟨vs', c', h1, h2, h3⟩ := hv.simple hρ
  have hl := svNodup_le h2 (h1.lows N hs)
  obtain ⟨o, ho, h4⟩ := h1.comp gs.length (by omega)
  have e : o = c := by
    have : best gs ws s g = some o := ho
    rw [h] at this
    exact (Option.some.inj this).symm
  subst e
  have e := leC.anti h4 h3
  subst e
  have := h1.bd N
  have := N.gl
  omega
theorem IsLeast.bd {gs : List Gt} {ws : List Wr} {B : Int} (N : NetOk gs ws) (h : IsLeast gs ws B) : B ≤ 10000 := by
  obtain ⟨L, hL⟩ := h.ex
  obtain ⟨m, hm, ⟨s, e, c, hs, hc, rfl⟩, hf⟩ := hL.tight N
  have := h.le ⟨L, hf⟩
  have := best_bd N hs hc
  omega
/-- the wait of a ring, by its registers -/
theorem Feas.ring {gs : List Gt} {ws : List Wr} {b : Int} {L : Nat → Int} (N : NetOk gs ws) (h : Feas gs ws b L) {r : List Nat} {g : Nat} (hr : Pw ws g r g) (hg : g < gs.length) : pws gs ws r ≤ b * prg ws r := by
  have ex : ∀ g, ∃ m : Int, g < gs.length → (∃ s ps, s < gs.length ∧ Pw ws s ps g ∧ (∀ p ∈ ps, cntF ws L p = 0) ∧ m = pwt gs ws s ps) ∧ ∀ s ps, s < gs.length → Pw ws s ps g → (∀ p ∈ ps, cntF ws L p = 0) → pwt gs ws s ps ≤ m := fun g => by
    by_cases hg : g < gs.length
    · obtain ⟨m, h1, h2⟩ := max_ex (P := fun v => ∃ s ps, s < gs.length ∧ Pw ws s ps g ∧ (∀ p ∈ ps, cntF ws L p = 0) ∧ v = pwt gs ws s ps) (b := b) (fun v ⟨s, ps, hs, hp, hz, e⟩ => by rw [e]; exact h.wt s ps g hs hp hz) _ (pwt gs ws g []) ⟨g, [], hg, rfl, (fun p hp => nomatch hp), rfl⟩ (Nat.le_refl _)
      exact ⟨m, fun _ => ⟨h1, fun s ps hs hp hz => h2 _ ⟨s, ps, hs, hp, hz, rfl⟩⟩⟩
    · exact ⟨0, fun z => absurd z hg⟩
  obtain ⟨A, hA⟩ := Classical.axiomOfChoice ex
  have ge : ∀ g, g < gs.length → gw gs g ≤ A g := fun g hg => by
    have := (hA g hg).2 g [] hg rfl (fun p hp => nomatch hp)
    unfold pwt at this
    rw [pws_nil] at this
    omega
  have le : ∀ g, g < gs.length → A g ≤ b := fun g hg => by
    obtain ⟨s, ps, hs, hp, hz, e⟩ := (hA g hg).1
    rw [e]
    exact h.wt s ps g hs hp hz
  have hb : 0 ≤ b := by
    have := gw_nn N g
    have := ge g hg
    have := le g hg
    omega
  have one : ∀ x ∈ ws, gw gs x.2.1 ≤ A x.2.1 - A x.1 + b * (((x.2.2.length : Nat) : Int) + L x.2.1 - L x.1) := fun x hx => by
    have W := N.wok x hx
    obtain ⟨p, hp⟩ := List.getElem?_of_mem hx
    have h0 := h.lt x hx
    rcases Int.lt_or_le 0 (((x.2.2.length : Nat) : Int) + L x.2.1 - L x.1) with h1 | h1
    · have h2 := ge _ W.e
      have h3 := le _ W.s
      have h4 := Int.mul_le_mul_of_nonneg_left (show (1 : Int) ≤ ((x.2.2.length : Nat) : Int) + L x.2.1 - L x.1 by omega) hb
      omega
    · have e : ((x.2.2.length : Nat) : Int) + L x.2.1 - L x.1 = 0 := by omega
      rw [e, Int.mul_zero]
      obtain ⟨s, ps, hs, hpw, hz, eA⟩ := (hA _ W.s).1
      have h2 := (hA _ W.e).2 s (ps ++ [p]) hs (hpw.snoc hp rfl) fun q hq => by
        rcases List.mem_append.mp hq with hq | hq
        · exact hz q hq
        · rw [List.mem_singleton.mp hq, cntF_get hp]
          exact e
      unfold pwt at h2 eA
      rw [pws_snoc hp] at h2
      omega
  have all : ∀ {r : List Nat} {s e : Nat}, Pw ws s r e → pws gs ws r ≤ A e - A s + b * (prg ws r + L e - L s) := by
    intro r
    induction r with
    | nil =>
      intro s e h
      have h : s = e := h
      rw [h, pws_nil, prg_nil]
      have : b * (0 + L e - L e) = 0 := by
        have : 0 + L e - L e = 0 := by omega
        rw [this, Int.mul_zero]
      omega
    | cons p r ih =>
      intro s e ⟨x, h1, h2, h3⟩
      have h4 := ih h3
      have h5 := one x (List.mem_of_getElem? h1)
      rw [pws_cons h1, prg_cons h1, ← h2]
      have e1 : b * (((x.2.2.length : Nat) : Int) + prg ws r + L e - L x.1) = b * (((x.2.2.length : Nat) : Int) + L x.2.1 - L x.1) + b * (prg ws r + L e - L x.2.1) := by
        rw [← Int.mul_add]
        congr 1
        omega
      omega
  have h1 := all hr
  have e : prg ws r + L g - L g = prg ws r := by omega
  rw [e] at h1
  omega
end Lag


set_option maxRecDepth 100000
set_option maxHeartbeats 8000000
namespace Lag
open PySem PySem.Spec PyProof.Rows L2
abbrev sIsPiece : Stmt := topS 20 -- @is_piece
abbrev sEndOf : Stmt := topS 21 -- @end_of
abbrev sEndsOf : Stmt := topS 22 -- @ends_of
/-! ### pieces and their ends -/
def endW (ws : List Wr) (s : Nat) (ps : List Nat) : Nat := ps.foldl (fun _ p => (svW ws p).2.1) s
theorem endW_of {ws : List Wr} : ∀ {ps : List Nat} {s e : Nat}, Pw ws s ps e → endW ws s ps = e
  | [], s, e, h => h
  | p :: r, s, e, ⟨x, hx, hs, h3⟩ => by
    show endW ws (svW ws p).2.1 r = e
    rw [svW_get hx]
    exact endW_of h3
abbrev endsF (ws : List Wr) (pc : Pce) : Nat × Nat := (pc.1, endW ws pc.1 pc.2)
theorem jn_at {gs : List Gt} {ws : List Wr} : ∀ {pcs : List Pce} {s e : Nat}, Jn gs ws s pcs e → ∀ k pc, pcs[k]? = some pc → (k = 0 → spotF gs pc.1 = s) ∧ (∀ pc', pcs[k + 1]? = some pc' → spotF gs (endW ws pc.1 pc.2) = spotF gs pc'.1) ∧ (pcs[k + 1]? = none → spotF gs (endW ws pc.1 pc.2) = e)
  | [], s, e, _, k, pc, h => by cases h
  | qc :: r, s, e, ⟨h1, h2, m, h3, h4⟩, k, pc, h => by
    cases k with
    | zero =>
      cases h
      rw [endW_of h3]
      refine ⟨fun _ => h1, fun pc' h' => ?_, fun h' => ?_⟩
      · have h' : r[0]? = some pc' := h'
        exact ((jn_at h4 0 pc' h').1 rfl).symm
      · have h' : r[0]? = none := h'
        have : r = [] := List.length_eq_zero_iff.mp (by have := List.getElem?_eq_none_iff.mp h'; omega)
        subst this
        exact h4
    | succ k =>
      obtain ⟨a, b, c⟩ := jn_at h4 k pc h
      exact ⟨fun z => (by cases z), b, c⟩
/-- pieces in a ring: each ends at the spot where the next one begins -/
def Ringed (gs : List Gt) (es : List (Nat × Nat)) : Prop := ∀ k e, es[k]? = some e → ∃ e', es[(k + 1) % es.length]? = some e' ∧ spotF gs e.2 = spotF gs e'.1
theorem jn_ringed {gs : List Gt} {ws : List Wr} {pcs : List Pce} {v : Nat} (h : Jn gs ws v pcs v) : Ringed gs (pcs.map (endsF ws)) := by
  intro k e hk
  rw [List.getElem?_map] at hk
  cases hp : pcs[k]? with
  | none => rw [hp] at hk; cases hk
  | some pc =>
    rw [hp] at hk
    cases hk
    have hkl : k < pcs.length := (List.getElem?_eq_some_iff.mp hp).1
    obtain ⟨_, h2, h3⟩ := jn_at h k pc hp
    rw [List.length_map, List.getElem?_map]
    by_cases hl : k + 1 < pcs.length
    · rw [Nat.mod_eq_of_lt hl, List.getElem?_eq_getElem hl]
      exact ⟨_, rfl, h2 _ (List.getElem?_eq_getElem hl)⟩
    · have e1 : k + 1 = pcs.length := by omega
      have h0 : 0 < pcs.length := by omega
      rw [e1, Nat.mod_self, List.getElem?_eq_getElem h0]
      refine ⟨_, rfl, ?_⟩
      have z1 := h3 (List.getElem?_eq_none (by omega))
      have z2 := (jn_at h 0 _ (List.getElem?_eq_getElem h0)).1 rfl
      show spotF gs (endW ws pc.1 pc.2) = spotF gs pcs[0].1
      rw [z1, z2]
theorem at_last {xs : List V} {v : V} {j : Nat} (h : xs.length = j + 1) (hv : xs[j]? = some v) : atI xs (-1) = some v := by
  unfold atI ixN
  rw [if_neg (by decide), if_pos (by omega)]
  show xs[(-1 + (xs.length : Int)).toNat]? = some v
  rw [show (-1 + (xs.length : Int)).toNat = j by omega]
  exact hv
def NatsV (K : PySem.W.Frag) (H : Hp) (v : V) (e : Nat × Nat) : Prop := ∃ a, v = .ref a ∧ SqT K H a [.int ((e.1 : Nat) : Int), .int ((e.2 : Nat) : Int)]
theorem NatsV.tk {K : PySem.W.Frag} {H H' : Hp} {v : V} {e : Nat × Nat} (t : TK H H') (h : NatsV K H v e) : NatsV K H' v e := by
  obtain ⟨a, e', s⟩ := h
  exact ⟨a, e', t.seq s⟩
def spIsPiece (K : PySem.W.Frag) (C : Addr) : Sp := fun vs H Q _ => ∃ (p ng nw : Addr) (gs : List Gt) (ws : List Wr) (v : V) (pc : Pce), vs = [.ref p, v] ∧ NetAt K C H p ng nw gs ws ∧ NetOk gs ws ∧ PceV K H v pc ∧ PceOk gs ws pc ∧ ∀ H', Same H H' → Q (.bl true) H'
def spEndOf (K : PySem.W.Frag) (C : Addr) : Sp := fun vs H Q _ => ∃ (p ng nw : Addr) (gs : List Gt) (ws : List Wr) (v : V) (pc : Pce), vs = [.ref p, v] ∧ NetAt K C H p ng nw gs ws ∧ NetOk gs ws ∧ PceV K H v pc ∧ PceOk gs ws pc ∧ Q (.int ((endW ws pc.1 pc.2 : Nat) : Int)) H
def spEndsOf (K : PySem.W.Frag) (C : Addr) : Sp := fun vs H Q _ => ∃ (p ng nw : Addr) (gs : List Gt) (ws : List Wr) (v : V) (pc : Pce), vs = [.ref p, v] ∧ NetAt K C H p ng nw gs ws ∧ NetOk gs ws ∧ PceV K H v pc ∧ PceOk gs ws pc ∧ ∀ t H', Same H H' → H t = none → H' t = some (.tup [.int ((pc.1 : Nat) : Int), .int ((endW ws pc.1 pc.2 : Nat) : Int)]) → Q (.ref t) H'
def spFirstGap (K : PySem.W.Frag) (C : Addr) : Sp := fun vs H Q _ => ∃ (p ng nw le : Addr) (gs : List Gt) (ws : List Wr) (ev : List V) (es : List (Nat × Nat)), vs = [.ref p, .ref le] ∧ NetAt K C H p ng nw gs ws ∧ NetOk gs ws ∧ H le = some (.lst ev) ∧ All2 (NatsV K H) ev es ∧ (∀ e ∈ es, e.1 < gs.length ∧ e.2 < gs.length) ∧ Ringed gs es ∧ ∀ H', Same H H' → Q .non H'
/-- pieces that are a ring: told a fault only where their rooms are no less than nothing -/
def spBarFault (K : PySem.W.Frag) (C : Addr) : Sp := fun vs H Q _ => ∃ (p ng nw l : Addr) (gs : List Gt) (ws : List Wr) (b : Int) (pcs : List Pce), vs = [.ref p, .int b, .ref l] ∧ NetAt K C H p ng nw gs ws ∧ NetOk gs ws ∧ 0 ≤ b ∧ BarV K H l pcs ∧ pcs ≠ [] ∧ pcs.length ≤ 200 ∧ (∀ pc ∈ pcs, PceOk gs ws pc ∧ pc.2.length ≤ 1000) ∧ (∃ v, Jn gs ws v pcs v) ∧
  (roomsF gs ws b pcs < 0 → ∀ H', Same H H' → Q .non H') ∧ (0 ≤ roomsF gs ws b pcs → ∀ t H', Same H H' → H' t = some (.tup [.str "sum", .int (roomsF gs ws b pcs)]) → Q (.ref t) H')
theorem BarV.same {K : PySem.W.Frag} {H H' : Hp} {l : Addr} {pcs : List Pce} (s : Same H H') (h : BarV K H l pcs) : BarV K H' l pcs := by
  obtain ⟨pv, h1, h2⟩ := h
  exact ⟨pv, s _ _ h1, h2.imp fun _ _ r => r.same s⟩
section
variable {P : Program} {w : World} {K : PySem.W.Frag} {mg : Str → Option Value} {base : Heap}
abbrev nIsPiece : List Str := ["net", "thing", "gate", "wires", "place"]
theorem scIsPiece : FnScope nIsPiece ["net", "thing"] (defScope sIsPiece) := ⟨rfl, rfl, rfl, by decide +kernel, rfl, by decide +kernel, by decide +kernel⟩
abbrev DIsPiece (P : Program) (w : World) (K : PySem.W.Frag) (mg : Str → Option Value) (base : Heap) (C : Addr) := Df P w K mg base 3 "is_piece" ["net", "thing"] (spIsPiece K C)
theorem ok_isPiece {f fF C : Addr} {fd fdF : FuncData} (F : Fun K "is_piece" "is_piece" sIsPiece f fd) (hm : mg "is_piece" = some (.ref f)) (B : Bt mg) (T : NT K mg C) (DF : DFromTo P w K mg base fF fdF) : DIsPiece P w K mg base C f fd := by
  refine ⟨?_, hm, F.kp, F.binds fun _ _ _ _ _ _ us hl => match us, hl with | [_, _], _ => rfl⟩
  refine F.ok scIsPiece (fun vs H Q E h => ?_) (fun cdv A outer s H vs Q E hr h => ?_)
  · obtain ⟨p, ng, nw, gs, ws, v, pc, rfl, _⟩ := h
    rfl
  · obtain ⟨p, ng, nw, gs, ws, _, pc, rfl, NA, N, ⟨a, l, rfl, sa, sl⟩, ⟨hg, e0, hp⟩, q⟩ := h
    have nd := scIsPiece.nd
    refine ⟨_, pss_cons (ps_if (PW.pt (pw_or (pt_not (pt_val (pe_callB call_isi (by rfl) B.isi (by decide +kernel) (pa_cons (pv 1) (pa_cons (pe_bltn (v := .ty "tuple") (by rfl) B.tuple (by decide +kernel) rfl) pa_nil))))) (pw_or1 (pt_cmpR op_ne (pe_callB call_len_seq (by rfl) B.len PySem.boot_len (pa_cons (pv 1) pa_nil)) pe_int (nomark _))))) (pss_one (ps_ret pe_bl)) pss_nil) <|
        pss_cons (ps_asg (pv 1) (pg_tup rfl (pgs_cons (pg_name (i := 2) nd rfl (.inl rfl)) (pgs_cons (pg_name (i := 3) nd rfl (.inl rfl)) pgs_nil)))) <|
        pss_cons (ps_if (PW.pt (pw_or (pt_not (pt_val (pe_call DF.ok (hr.mono (by decide)) (by rfl) DF.mg DF.kp DF.bd .nil pass0 (pa_cons (pv 2) (pa_cons pe_int (pa_cons (pe_op op_sub (pe_callB call_len_seq (by rfl) B.len PySem.boot_len (pa_cons (pe_fld (pv 0) rfl) pa_nil)) pe_int) pa_nil)))))) (pw_or1 (pt_not (pt_val (pe_callB call_isi (by rfl) B.isi (by decide +kernel) (pa_cons (pv 3) (pa_cons (pe_bltn (v := .ty "list") (by rfl) B.list (by decide +kernel) rfl) pa_nil)))))))) (pss_one (ps_ret pe_bl)) pss_nil) <|
        pss_cons (ps_for PassesOwn.never rfl (pi_list (pv 3)) (pg_name (i := 4) nd rfl (.inl rfl)) (pss_cons (ps_if (PW.pt (pw_or (pt_not (pt_val (pe_call DF.ok (hr.mono (by decide)) (by rfl) DF.mg DF.kp DF.bd .nil pass0 (pa_cons (pv 4) (pa_cons pe_int (pa_cons (pe_op op_sub (pe_callB call_len_seq (by rfl) B.len PySem.boot_len (pa_cons (pe_fld (pv 0) rfl) pa_nil)) pe_int) pa_nil)))))) (pw_or1 (pt_cmpR op_ne (pe_ix ix_tup (pe_ix ix_list (pe_fld (pv 0) rfl) (pv 4) (fun _ _ => rfl)) pe_int (fun _ _ => rfl)) (pv 2) (nomark _))))) (pss_one (ps_ret pe_bl)) pss_nil) <|
        pss_one (ps_set (i := 2) nd rfl (.inl rfl) (pe_ix ix_tup (pe_ix ix_list (pe_fld (pv 0) rfl) (pv 4) (fun _ _ => rfl)) pe_int (fun _ _ => rfl))))) <|
        pss_one (ps_ret pe_bl), ?_⟩
    obtain ⟨dx, ob⟩ := id NA.ob
    obtain ⟨gv, hgv, ga⟩ := id NA.g
    obtain ⟨wv, hwv, wa⟩ := id NA.w
    have hlw : wv.length = ws.length := wa.1
    have hlg : gv.length = gs.length := ga.1
    refine ⟨_, rfl, _, _, _, _, true, rfl, .ty "tuple", ty_tup sa, kit_ty (by decide +kernel), true, rfl, iteF ?_⟩
    refine ⟨_, rfl, a, _, rfl, .inr sa, rfl, false, rfl, iteF ?_⟩
    refine ⟨_, rfl, a, _, rfl, sa, rfl, _, _, rfl, _, _, rfl, rfl, ?_⟩
    refine ⟨_, rfl, _, rfl, p, C, dx, _, _, rfl, ob, T.cl, T.nG, nf_gates _ _, ng, gv, rfl, .inl (SqL.of hgv), _, _, rfl, rfl, ((pc.1 : Nat) : Int), 0, _, rfl, true, ?_, iteF ?_⟩
    · show V.bl (decide ((0 : Int) ≤ ((pc.1 : Nat) : Int)) && decide (((pc.1 : Nat) : Int) ≤ ((gv.length : Nat) : Int) - 1)) = V.bl true
      rw [decide_eq_true (by omega), decide_eq_true (by omega)]
      rfl
    refine ⟨_, rfl, _, _, _, _, true, rfl, .ty "list", ty_lst sl, kit_ty (by decide +kernel), true, rfl, iteF ?_⟩
    refine ⟨_, rfl, l, rfl, ⟨_, sl⟩, for_list (K := K) (a := l) (xs := nvs pc.2) (fun i σ H' => ∃ (g : Nat) (u4 : Option V), σ = [some (.ref p), some (.ref a), some (.int ((g : Nat) : Int)), some (.ref l), u4] ∧ Pw ws pc.1 (pc.2.take i) g ∧ Same H H') ⟨pc.1, _, rfl, rfl, Same.refl H⟩ (fun i σ H2 _ ⟨_, _, _, _, sm⟩ => sm.seq sl) ?_ ?_⟩
    · rintro i v σ H1 hv ⟨g, u4, rfl, hpw, sm⟩
      obtain ⟨k, hk, rfl⟩ := nvs_of hv
      have hkw := hp.places k (List.mem_of_getElem? hk)
      have hx := List.getElem?_eq_getElem hkw
      obtain ⟨_, hv', b, b2, rfl, s1, s2⟩ := wa.getR hx
      obtain ⟨hil, hke⟩ := List.getElem?_eq_some_iff.mp hk
      have es : pc.2 = pc.2.take i ++ k :: pc.2.drop (i + 1) := by
        rw [← hke, List.getElem_cons_drop hil, List.take_append_drop]
      have hgx : ws[k].1 = g := by
        rw [es] at hp
        obtain ⟨m, h1, x, hx', hs, _⟩ := hp.split
        rw [hx] at hx'
        cases hx'
        rw [hs]
        exact h1.fn hpw
      have tk := TK.same sm
      refine gn_norm (σ' := [some (.ref p), some (.ref a), some (.int ((g : Nat) : Int)), some (.ref l), some (.int ((k : Nat) : Int))]) rfl ?_
      refine ⟨_, rfl, _, rfl, p, C, dx, _, _, rfl, sm _ _ ob, T.cl, T.nW, nf_wires _ _, nw, wv, rfl, .inl (SqL.of (sm _ _ hwv)), _, _, rfl, rfl, ((k : Nat) : Int), 0, _, rfl, true, ?_, iteF ?_⟩
      · show V.bl (decide ((0 : Int) ≤ ((k : Nat) : Int)) && decide (((k : Nat) : Int) ≤ ((wv.length : Nat) : Int) - 1)) = V.bl true
        rw [decide_eq_true (by omega), decide_eq_true (by omega)]
        rfl
      refine ⟨_, rfl, p, C, dx, _, _, rfl, sm _ _ ob, T.cl, T.nW, nf_wires _ _, _, rfl, nw, _, k, _, rfl, rfl, SqL.of (sm _ _ hwv), atI_nat hv', b, _, 0, _, rfl, rfl, tk.seq s1, atI_nat (j := 0) rfl, _, rfl, rfl, false, ?_, iteF ?_⟩
      · rw [hgx, decide_eq_true rfl]
        rfl
      refine ⟨_, rfl, p, C, dx, _, _, rfl, sm _ _ ob, T.cl, T.nW, nf_wires _ _, _, rfl, nw, _, k, _, rfl, rfl, SqL.of (sm _ _ hwv), atI_nat hv', b, _, 1, _, rfl, rfl, tk.seq s1, atI_nat (j := 1) rfl, ws[k].2.1, _, rfl, ?_, sm⟩
      rw [List.take_add_one, hk]
      exact hpw.snoc hx hgx
    · rintro σ H1 ⟨g, u4, rfl, hpw, sm⟩
      exact q H1 sm
abbrev nEndOf : List Str := ["net", "piece", "gate", "wires"]
theorem scEndOf : FnScope nEndOf ["net", "piece"] (defScope sEndOf) := ⟨rfl, rfl, rfl, by decide +kernel, rfl, by decide +kernel, by decide +kernel⟩
abbrev DEndOf (P : Program) (w : World) (K : PySem.W.Frag) (mg : Str → Option Value) (base : Heap) (C : Addr) := Df P w K mg base 1 "end_of" ["net", "piece"] (spEndOf K C)
theorem ok_endOf {f C : Addr} {fd : FuncData} (F : Fun K "end_of" "end_of" sEndOf f fd) (hm : mg "end_of" = some (.ref f)) (B : Bt mg) (T : NT K mg C) : DEndOf P w K mg base C f fd := by
  refine ⟨?_, hm, F.kp, F.binds fun _ _ _ _ _ _ us hl => match us, hl with | [_, _], _ => rfl⟩
  refine F.ok scEndOf (fun vs H Q E h => ?_) (fun cdv A outer s H vs Q E hr h => ?_)
  · obtain ⟨p, ng, nw, gs, ws, v, pc, rfl, _⟩ := h
    rfl
  · obtain ⟨p, ng, nw, gs, ws, _, pc, rfl, NA, N, ⟨a, l, rfl, sa, sl⟩, ⟨hg, e0, hp⟩, q⟩ := h
    have nd := scEndOf.nd
    refine ⟨_, pss_cons (ps_asg (pv 1) (pg_tup rfl (pgs_cons (pg_name (i := 2) nd rfl (.inl rfl)) (pgs_cons (pg_name (i := 3) nd rfl (.inl rfl)) pgs_nil)))) <|
        pss_one (ps_ret (pe_ifExp (pt_cmpR op_gt (pe_callB call_len_seq (by rfl) B.len PySem.boot_len (pa_cons (pv 3) pa_nil)) pe_int (nomark _)) (pe_ix ix_tup (pe_ix ix_list (pe_fld (pv 0) rfl) (pe_ix ix_list (pv 3) (pe_un un_neg pe_int) (fun _ _ => rfl)) (fun _ _ => rfl)) pe_int (fun _ _ => rfl)) (pv 2))), ?_⟩
    obtain ⟨dx, ob⟩ := id NA.ob
    obtain ⟨wv, hwv, wa⟩ := id NA.w
    refine ⟨_, rfl, a, _, rfl, sa, rfl, _, _, rfl, _, _, rfl, rfl, ?_⟩
    refine ⟨_, rfl, l, nvs pc.2, rfl, .inl sl, _, _, rfl, rfl, _, rfl, ite2 (fun e => ?_) (fun e => ?_)⟩
    · have hne : 0 < pc.2.length := by
        have := of_decide_eq_true e
        rw [nvs_len] at this
        omega
      rcases List.eq_nil_or_concat pc.2 with z | ⟨r, k, z⟩
      · rw [z] at hne
        cases hne
      · rw [List.concat_eq_append] at z
        have hkk := hp.places k (by rw [z]; exact List.mem_append.mpr (.inr (List.mem_singleton.mpr rfl)))
        have hx := List.getElem?_eq_getElem hkk
        obtain ⟨_, hv', b, b2, rfl, s1, s2⟩ := wa.getR hx
        have hl : (nvs pc.2).length = r.length + 1 := by
          rw [nvs_len, z, List.length_append]
          rfl
        have hlast : (nvs pc.2)[r.length]? = some (.int ((k : Nat) : Int)) := nvs_at (by rw [z, List.getElem?_append_right (Nat.le_refl _), Nat.sub_self]; rfl)
        refine ⟨_, rfl, p, C, dx, _, _, rfl, ob, T.cl, T.nW, nf_wires _ _, _, rfl, _, rfl, l, nvs pc.2, -1, _, rfl, rfl, sl, at_last hl hlast, nw, _, k, _, rfl, rfl, SqL.of hwv, atI_nat hv', b, _, 1, _, rfl, rfl, s1, atI_nat (j := 1) rfl, ?_⟩
        have : endW ws pc.1 pc.2 = (ws[k]'hkk).2.1 := by
          rw [z]
          unfold endW
          rw [List.foldl_append]
          show (svW ws k).2.1 = _
          rw [svW_get hx]
        rw [← this]
        exact q
    · have h0 : pc.2 = [] := by
        refine List.length_eq_zero_iff.mp ?_
        have : ¬ (((nvs pc.2).length : Nat) : Int) > 0 := fun h => e (decide_eq_true h)
        rw [nvs_len] at this
        omega
      have : endW ws pc.1 pc.2 = pc.1 := by rw [h0]; rfl
      rw [this] at q
      exact ⟨_, rfl, q⟩
abbrev nEndsOf : List Str := ["net", "piece"]
theorem scEndsOf : FnScope nEndsOf ["net", "piece"] (defScope sEndsOf) := ⟨rfl, rfl, rfl, by decide +kernel, rfl, by decide +kernel, by decide +kernel⟩
abbrev DEndsOf (P : Program) (w : World) (K : PySem.W.Frag) (mg : Str → Option Value) (base : Heap) (C : Addr) := Df P w K mg base 2 "ends_of" ["net", "piece"] (spEndsOf K C)
theorem ok_endsOf {f fE C : Addr} {fd fdE : FuncData} (F : Fun K "ends_of" "ends_of" sEndsOf f fd) (hm : mg "ends_of" = some (.ref f)) (DEo : DEndOf P w K mg base C fE fdE) : DEndsOf P w K mg base C f fd := by
  refine ⟨?_, hm, F.kp, F.binds fun _ _ _ _ _ _ us hl => match us, hl with | [_, _], _ => rfl⟩
  refine F.ok scEndsOf (fun vs H Q E h => ?_) (fun cdv A outer s H vs Q E hr h => ?_)
  · obtain ⟨p, ng, nw, gs, ws, v, pc, rfl, _⟩ := h
    rfl
  · obtain ⟨p, ng, nw, gs, ws, _, pc, rfl, NA, N, pcv, pok, q⟩ := h
    have nd := scEndsOf.nd
    refine ⟨_, pss_one (ps_ret (pe_tup (pa_cons (pe_ix ix_tup (pv 1) pe_int (fun _ _ => rfl)) (pa_cons (pe_call DEo.ok (hr.mono (by decide)) (by rfl) DEo.mg DEo.kp DEo.bd .nil pass0 (pa_cons (pv 0) (pa_cons (pv 1) pa_nil))) pa_nil)))), ?_⟩
    obtain ⟨a, l, rfl, sa, sl⟩ := id pcv
    exact ⟨_, rfl, a, _, 0, _, rfl, rfl, sa, atI_nat (j := 0) rfl, _, rfl, _, rfl, p, ng, nw, gs, ws, _, pc, rfl, NA, N, pcv, pok, (by show 2 ≤ sizeLine; decide), fun t ht => q t _ (same_new ht) ht upd_same⟩
end
end Lag


set_option maxRecDepth 100000
set_option maxHeartbeats 8000000
namespace Lag
open PySem PySem.Spec PyProof.Rows L2
/-! ### numbers for bounds: the mathematics of flows -/
def wsum (c : Bnd → Int) : List Bnd → List Int → Int
  | b :: bs, x :: f => c b * x + wsum c bs f
  | _, _ => 0
theorem wsum_nil (c : Bnd → Int) (f : List Int) : wsum c [] f = 0 := by cases f <;> rfl
theorem wsum_add (c : Bnd → Int) {b : Bnd} {d x : Int} : ∀ {bs : List Bnd} {f : List Int} {j : Nat}, bs[j]? = some b → f[j]? = some x → wsum c bs (f.set j (x + d)) = wsum c bs f + c b * d
  | [], f, j, h, _ => by cases h
  | b' :: bs, [], j, _, h => by cases h
  | b' :: bs, y :: f, 0, h1, h2 => by
    cases h1
    cases h2
    show c b * (x + d) + wsum c bs f = c b * x + wsum c bs f + c b * d
    rw [Int.mul_add]
    omega
  | b' :: bs, y :: f, j + 1, h1, h2 => by
    have ih := wsum_add c (d := d) (bs := bs) (f := f) (j := j) h1 h2
    show c b' * y + wsum c bs (f.set j (x + d)) = c b' * y + wsum c bs f + c b * d
    rw [ih]
    omega
theorem wsum_le {c c' : Bnd → Int} : ∀ {bs : List Bnd} {f : List Int}, (∀ b ∈ bs, c b ≤ c' b) → (∀ x ∈ f, 0 ≤ x) → wsum c bs f ≤ wsum c' bs f
  | [], f, _, _ => by rw [wsum_nil, wsum_nil]; exact Int.le_refl 0
  | b :: bs, [], _, _ => Int.le_refl 0
  | b :: bs, x :: f, h1, h2 => by
    have ih := wsum_le (bs := bs) (f := f) (fun y hy => h1 y (List.mem_cons_of_mem _ hy)) (fun y hy => h2 y (List.mem_cons_of_mem _ hy))
    have := Int.mul_le_mul_of_nonneg_right (h1 b (List.mem_cons_self ..)) (h2 x (List.mem_cons_self ..))
    show c b * x + wsum c bs f ≤ c' b * x + wsum c' bs f
    omega
theorem wsum_eq {c c' : Bnd → Int} : ∀ {bs : List Bnd} {f : List Int}, (∀ (j : Nat) (b : Bnd) (x : Int), bs[j]? = some b → f[j]? = some x → x = 0 ∨ c b = c' b) → wsum c bs f = wsum c' bs f
  | [], f, _ => by rw [wsum_nil, wsum_nil]
  | b :: bs, [], _ => rfl
  | b :: bs, x :: f, h => by
    have ih := wsum_eq (bs := bs) (f := f) (fun j b' x' h1 h2 => h (j + 1) b' x' h1 h2)
    show c b * x + wsum c bs f = c' b * x + wsum c' bs f
    rw [ih]
    rcases h 0 b x rfl rfl with e | e
    · rw [e, Int.mul_zero, Int.mul_zero]
    · rw [e]
def dF (F : Nat → Int) (b : Bnd) : Int := F b.1 - F b.2.1
def revB (b : Bnd) : Bnd := (b.2.1, b.1, -b.2.2)
/-- a function of bounds that a bound turned about has with the other sign -/
def Anti (c : Bnd → Int) : Prop := ∀ b, c (revB b) = -c b
theorem anti_dF (F : Nat → Int) : Anti (dF F) := fun b => by
  show F b.2.1 - F b.1 = -(F b.1 - F b.2.1)
  omega
theorem anti_room : Anti (fun b => b.2.2) := fun b => rfl
theorem PtB.tele {bs : List Bnd} (F : Nat → Int) : ∀ {js : List Nat} {s e : Nat}, PtB bs s js e → (js.map fun j => dF F (bAt bs j)).sum = F s - F e
  | [], s, e, h => by
    have h : s = e := h
    rw [h]
    show (0 : Int) = F e - F e
    omega
  | j :: r, s, e, ⟨b, h1, h2, h3⟩ => by
    rw [List.map_cons, List.sum_cons, bAt_get h1, PtB.tele F h3]
    show F b.1 - F b.2.1 + _ = _
    rw [h2]
    omega
/-! ### the bounds, and those with a number above 0 the other way round -/
abbrev Kpt := Bnd × Nat × Int
def KOk (bs : List Bnd) (f : List Int) (e : Kpt) : Prop := ∃ b, bs[e.2.1]? = some b ∧ ((e.2.2 = 1 ∧ e.1 = b) ∨ (e.2.2 = -1 ∧ e.1 = revB b ∧ 0 < f.getD e.2.1 0))
structure Kept (bs : List Bnd) (f : List Int) (ks : List Kpt) : Prop where
  ok : ∀ e ∈ ks, KOk bs f e
  fwd : ∀ j b, bs[j]? = some b → (b, j, 1) ∈ ks
  bwd : ∀ j b, bs[j]? = some b → 0 < f.getD j 0 → (revB b, j, -1) ∈ ks
theorem KOk.sign {bs : List Bnd} {f : List Int} {e : Kpt} (h : KOk bs f e) {c : Bnd → Int} (hc : Anti c) {b : Bnd} (hb : bs[e.2.1]? = some b) : c b * e.2.2 = c e.1 := by
  obtain ⟨b', h1, h2⟩ := h
  rw [hb] at h1
  cases h1
  rcases h2 with ⟨h3, h4⟩ | ⟨h3, h4, _⟩
  · rw [h3, h4, Int.mul_one]
  · rw [h3, h4, hc b]
    omega
theorem Kept.below {bs : List Bnd} {f : List Int} {ks : List Kpt} {n : Nat} (h : Kept bs f ks) (hb : ∀ b ∈ bs, b.1 < n ∧ b.2.1 < n) : ∀ b ∈ ks.map (fun e => e.1), b.1 < n ∧ b.2.1 < n := fun b hm => by
  obtain ⟨e, he, rfl⟩ := List.mem_map.mp hm
  obtain ⟨b, h1, h2⟩ := h.ok e he
  have := hb b (List.mem_of_getElem? h1)
  rcases h2 with ⟨_, h4⟩ | ⟨_, h4, _⟩
  · rw [h4]
    exact this
  · rw [h4]
    exact ⟨this.2, this.1⟩
theorem Kept.sat {bs : List Bnd} {f : List Int} {ks : List Kpt} (h : Kept bs f ks) {F : Nat → Int} (S : Sat (ks.map fun e => e.1) F) : Sat bs F ∧ ∀ j b, bs[j]? = some b → 0 < f.getD j 0 → F b.1 = F b.2.1 + b.2.2 := by
  have h1 : Sat bs F := fun b hb => by
    obtain ⟨j, hj⟩ := List.getElem?_of_mem hb
    exact S b (List.mem_map.mpr ⟨_, h.fwd j b hj, rfl⟩)
  refine ⟨h1, fun j b hb hp => ?_⟩
  have h2 := h1 b (List.mem_of_getElem? hb)
  have h3 := S (revB b) (List.mem_map.mpr ⟨_, h.bwd j b hb hp, rfl⟩)
  have h3 : F b.2.1 ≤ F b.1 + -b.2.2 := h3
  omega
/-- with numbers that fit: the room that the flow takes is what it leads down -/
theorem Kept.tight {bs : List Bnd} {f : List Int} {ks : List Kpt} (h : Kept bs f ks) (hf : ∀ x ∈ f, 0 ≤ x) {F : Nat → Int} (S : Sat (ks.map fun e => e.1) F) : wsum (dF F) bs f = wsum (fun b => b.2.2) bs f := by
  obtain ⟨_, h2⟩ := h.sat S
  refine wsum_eq fun j b x hb hx => ?_
  have hx0 := hf x (List.mem_of_getElem? hx)
  by_cases e : x = 0
  · exact .inl e
  · right
    have hg : f.getD j 0 = x := by rw [List.getD_eq_getElem?_getD, hx]; rfl
    have := h2 j b hb (by omega)
    show F b.1 - F b.2.1 = b.2.2
    omega
theorem Sat.cost {bs : List Bnd} {f : List Int} {F : Nat → Int} (S : Sat bs F) (hf : ∀ x ∈ f, 0 ≤ x) : wsum (dF F) bs f ≤ wsum (fun b => b.2.2) bs f := wsum_le (fun b hb => by
  have := S b hb
  show F b.1 - F b.2.1 ≤ b.2.2
  omega) hf
/-! ### a flow changed along a ring -/
def kAt (ks : List Kpt) (j : Nat) : Kpt := ks.getD j ((0, 0, 0), 0, 0)
theorem kAt_get {ks : List Kpt} {j : Nat} {e : Kpt} (h : ks[j]? = some e) : kAt ks j = e := by
  unfold kAt
  rw [List.getD_eq_getElem?_getD, h]
  rfl
theorem kAt_b {ks : List Kpt} {j : Nat} {e : Kpt} (h : ks[j]? = some e) : bAt (ks.map fun e => e.1) j = e.1 := bAt_get (by rw [List.getElem?_map, h]; rfl)
theorem PtB.js_lt {bs : List Bnd} : ∀ {js : List Nat} {s e : Nat}, PtB bs s js e → ∀ j ∈ js, j < bs.length
  | [], _, _, _, j, h => by cases h
  | i :: r, s, e, ⟨b, h1, _, h3⟩, j, h => by
    rcases List.mem_cons.mp h with e | h
    · rw [e]
      exact (List.getElem?_eq_some_iff.mp h1).1
    · exact h3.js_lt j h
/-- a ring of bounds kept -/
structure RingK (bs : List Bnd) (f : List Int) (ks : List Kpt) (js : List Nat) : Prop where
  ring : RingB (ks.map fun e => e.1) js
  nd : (js.map fun j => (bAt (ks.map fun e => e.1) j).1).Nodup
  k : Kept bs f ks
def backs (es : List Kpt) : List Kpt := es.filter fun e => decide (e.2.2 < 0)
/-- half way: after some of the ring's turns -/
structure Chg (bs : List Bnd) (f : List Int) (m : Int) (es : List Kpt) (g : List Int) : Prop where
  len : g.length = f.length
  sum : ∀ c, Anti c → wsum c bs g = wsum c bs f + m * (es.map fun e => c e.1).sum
  low : ∀ p, f.getD p 0 ≤ g.getD p 0 ∨ (f.getD p 0 - m ≤ g.getD p 0 ∧ ∃ e ∈ es, e.2.1 = p ∧ e.2.2 = -1)
  up : ∀ p, g.getD p 0 ≤ f.getD p 0 + m * (es.length : Int)
theorem Chg.ini (bs : List Bnd) (f : List Int) (m : Int) : Chg bs f m [] f := ⟨rfl, fun c _ => by show _ = _ + m * 0; rw [Int.mul_zero]; omega, fun p => .inl (Int.le_refl _), fun p => by show _ ≤ _ + m * 0; rw [Int.mul_zero]; omega⟩
theorem fgetD_set {ts : List Int} {i j : Nat} {v : Int} (h : i < ts.length) : (ts.set i v).getD j 0 = if i = j then v else ts.getD j 0 := by
  rw [List.getD_eq_getElem?_getD, List.getD_eq_getElem?_getD, List.getElem?_set]
  by_cases e : i = j
  · rw [if_pos e, if_pos e, if_pos h]
    rfl
  · rw [if_neg e, if_neg e]
theorem Chg.step {bs : List Bnd} {f g : List Int} {m : Int} {es : List Kpt} {e : Kpt} (h : Chg bs f m es g) (hm : 0 ≤ m) (hl : f.length = bs.length) (ho : KOk bs f e) (hn : e.2.2 = -1 → ∀ e' ∈ es, e'.2.1 = e.2.1 → e'.2.2 ≠ -1) : Chg bs f m (es ++ [e]) (g.set e.2.1 (g.getD e.2.1 0 + e.2.2 * m)) := by
  obtain ⟨b, hb, hd⟩ := id ho
  have hp : e.2.1 < g.length := by
    rw [h.len, hl]
    exact (List.getElem?_eq_some_iff.mp hb).1
  have hg : g[e.2.1]? = some (g.getD e.2.1 0) := by
    rw [List.getD_eq_getElem?_getD, List.getElem?_eq_getElem hp]
    rfl
  refine ⟨by rw [List.length_set]; exact h.len, fun c hc => ?_, fun p => ?_, fun p => ?_⟩
  · rw [wsum_add c hb hg, h.sum c hc, List.map_append, List.sum_append]
    have := ho.sign hc hb
    show _ + c b * (e.2.2 * m) = _ + m * (_ + (c e.1 + 0))
    rw [← this, Int.add_zero, Int.mul_add, ← Int.mul_assoc, Int.mul_comm (c b * e.2.2) m]
    omega
  · rw [fgetD_set hp]
    by_cases ep : e.2.1 = p
    · rw [if_pos ep]
      rw [ep]
      rcases hd with ⟨h1, _⟩ | ⟨h1, _, _⟩
      · rw [h1, Int.one_mul]
        rcases h.low p with h2 | ⟨h2, e', h3, h4⟩
        · exact .inl (by omega)
        · exact .inr ⟨by omega, e', List.mem_append.mpr (.inl h3), h4⟩
      · rw [h1]
        rcases h.low p with h2 | ⟨_, e', h3, h4, h5⟩
        · exact .inr ⟨by omega, e, List.mem_append.mpr (.inr (List.mem_singleton.mpr rfl)), ep, h1⟩
        · exact absurd h5 (hn h1 e' h3 (by rw [h4, ep]))
    · rw [if_neg ep]
      rcases h.low p with h2 | ⟨h2, e', h3, h4⟩
      · exact .inl h2
      · exact .inr ⟨h2, e', List.mem_append.mpr (.inl h3), h4⟩
  · rw [fgetD_set hp, List.length_append]
    have h1 := h.up p
    have e1 : m * ((es.length + [e].length : Nat) : Int) = m * (es.length : Int) + m := by
      show m * ((es.length + 1 : Nat) : Int) = _
      push_cast
      rw [Int.mul_add, Int.mul_one]
    rw [e1]
    by_cases ep : e.2.1 = p
    · rw [if_pos ep, ep]
      rcases hd with ⟨z1, _⟩ | ⟨z1, _, _⟩
      · rw [z1, Int.one_mul]
        omega
      · rw [z1]
        omega
    · rw [if_neg ep]
      omega
theorem RingK.entry {bs : List Bnd} {f : List Int} {ks : List Kpt} {js : List Nat} (h : RingK bs f ks js) {j : Nat} (hj : j ∈ js) : ks[j]? = some (kAt ks j) ∧ KOk bs f (kAt ks j) := by
  obtain ⟨_, v, hp, _⟩ := h.ring
  have hl := hp.js_lt j hj
  rw [List.length_map] at hl
  have e := List.getElem?_eq_getElem hl
  rw [kAt_get e]
  exact ⟨e, h.k.ok _ (List.getElem_mem _)⟩
theorem nd_inj {α β : Type} {g : α → β} : ∀ {l : List α}, (l.map g).Nodup → ∀ {i j : Nat} {a b : α}, l[i]? = some a → l[j]? = some b → g a = g b → i = j := by
  intro l h i j a b hi hj e
  have h1 : (l.map g)[i]? = some (g a) := by rw [List.getElem?_map, hi]; rfl
  have h2 : (l.map g)[j]? = some (g a) := by rw [List.getElem?_map, hj, e]; rfl
  have li := (List.getElem?_eq_some_iff.mp h1).1
  have lj := (List.getElem?_eq_some_iff.mp h2).1
  exact (List.getElem?_inj li h).mp (h1.trans h2.symm)
/-- no bound is come by twice the other way round -/
theorem RingK.once {bs : List Bnd} {f : List Int} {ks : List Kpt} {js : List Nat} (h : RingK bs f ks js) {i j : Nat} {a b : Nat} (hi : js[i]? = some a) (hj : js[j]? = some b) (h1 : (kAt ks a).2.2 = -1) (h2 : (kAt ks b).2.2 = -1) (hp : (kAt ks a).2.1 = (kAt ks b).2.1) : i = j := by
  refine nd_inj h.nd hi hj ?_
  obtain ⟨ea, b1, g1, d1⟩ := h.entry (List.mem_of_getElem? hi)
  obtain ⟨eb, b2, g2, d2⟩ := h.entry (List.mem_of_getElem? hj)
  rw [kAt_b ea, kAt_b eb]
  rw [hp, g2] at g1
  cases g1
  rcases d1 with ⟨z, _⟩ | ⟨_, z1, _⟩
  · rw [h1] at z
    exact absurd z (by decide)
  · rcases d2 with ⟨z, _⟩ | ⟨_, z2, _⟩
    · rw [h2] at z
      exact absurd z (by decide)
    · rw [z1, z2]
theorem RingK.back {bs : List Bnd} {f : List Int} {ks : List Kpt} {js : List Nat} (h : RingK bs f ks js) {F : Nat → Int} (S : Sat bs F) : backs (js.map (kAt ks)) ≠ [] := by
  intro hb
  unfold backs at hb
  rw [List.filter_eq_nil_iff] at hb
  obtain ⟨hne, v, hp, hr⟩ := h.ring
  have all : ∀ {js' : List Nat} {s e : Nat}, (∀ j ∈ js', j ∈ js) → PtB (ks.map fun e => e.1) s js' e → F s ≤ F e + rsum (ks.map fun e => e.1) js' := by
    intro js'
    induction js' with
    | nil =>
      intro s e _ h
      have h : s = e := h
      rw [h]
      show F e ≤ F e + 0
      omega
    | cons j r ih =>
      intro s e hm ⟨bd, h1, h2, h3⟩
      have h4 := ih (fun k hk => hm k (List.mem_cons_of_mem _ hk)) h3
      have hj := hm j (List.mem_cons_self ..)
      obtain ⟨ea, b1, g1, d1⟩ := h.entry hj
      have hnb := hb (kAt ks j) (List.mem_map.mpr ⟨j, hj, rfl⟩)
      rw [rsum_cons h1]
      rw [List.getElem?_map, ea] at h1
      cases h1
      have h2 : (kAt ks j).1.1 = s := h2
      have h4 : F (kAt ks j).1.2.1 ≤ _ := h4
      show F s ≤ F e + ((kAt ks j).1.2.2 + rsum _ r)
      rcases d1 with ⟨_, z⟩ | ⟨z, _, _⟩
      · have := S b1 (List.mem_of_getElem? g1)
        rw [← z] at this
        rw [h2] at this
        omega
      · exact absurd (by rw [decide_eq_true_iff, z]; decide) hnb
  have := all (fun _ h => h) hp
  omega
theorem RingK.ksum {bs : List Bnd} {f : List Int} {ks : List Kpt} {js : List Nat} (h : RingK bs f ks js) (c : Bnd → Int) : ((js.map (kAt ks)).map fun e => c e.1).sum = (js.map fun j => c (bAt (ks.map fun e => e.1) j)).sum := by
  rw [List.map_map]
  refine congrArg List.sum (List.map_congr_left fun j hj => ?_)
  obtain ⟨ea, _⟩ := h.entry hj
  rw [kAt_b ea]
  rfl
/-- what a change along a ring does -/
structure Chgd (bs : List Bnd) (f g : List Int) : Prop where
  len : g.length = f.length
  nn : ∀ x ∈ g, 0 ≤ x
  tot : ∀ F, wsum (dF F) bs g = wsum (dF F) bs f
  cost : wsum (fun b => b.2.2) bs g < wsum (fun b => b.2.2) bs f
  up : ∀ p, g.getD p 0 ≤ f.getD p 0 + 1000 * (wsum (fun b => b.2.2) bs f - wsum (fun b => b.2.2) bs g)
theorem Chg.fin {bs : List Bnd} {f g : List Int} {ks : List Kpt} {js : List Nat} {m : Int} (r : RingK bs f ks js) (hf : ∀ x ∈ f, 0 ≤ x) (hm : 0 < m) (hle : ∀ e ∈ backs (js.map (kAt ks)), m ≤ f.getD e.2.1 0) (h : Chg bs f m (js.map (kAt ks)) g) (hj : js.length ≤ 1000) : Chgd bs f g := by
  obtain ⟨hne, v, hp, hr⟩ := r.ring
  refine ⟨h.len, fun x hx => ?_, fun F => ?_, ?_, fun p => ?_⟩
  · obtain ⟨p, hx⟩ := List.getElem?_of_mem hx
    have hg : g.getD p 0 = x := by rw [List.getD_eq_getElem?_getD, hx]; rfl
    have hpl : p < f.length := by rw [← h.len]; exact (List.getElem?_eq_some_iff.mp hx).1
    have h0 : 0 ≤ f.getD p 0 := by
      rw [List.getD_eq_getElem?_getD, List.getElem?_eq_getElem hpl]
      exact hf _ (List.getElem_mem _)
    rcases h.low p with h1 | ⟨h1, e, he, h2, h3⟩
    · omega
    · have := hle e (List.mem_filter.mpr ⟨he, by rw [decide_eq_true_iff, h3]; decide⟩)
      rw [h2] at this
      omega
  · rw [h.sum _ (anti_dF F), r.ksum, hp.tele F, Int.sub_self, Int.mul_zero, Int.add_zero]
  · have e : ((js.map (kAt ks)).map fun e => e.1.2.2).sum = (js.map fun j => (bAt (ks.map fun e => e.1) j).2.2).sum := r.ksum fun b => b.2.2
    rw [h.sum _ anti_room, e]
    have : m * (js.map fun j => (bAt (ks.map fun e => e.1) j).2.2).sum < 0 := Int.mul_neg_of_pos_of_neg hm hr
    omega
  · have e : ((js.map (kAt ks)).map fun e => e.1.2.2).sum = (js.map fun j => (bAt (ks.map fun e => e.1) j).2.2).sum := r.ksum fun b => b.2.2
    have hc := h.sum _ anti_room
    rw [e] at hc
    have h1 := h.up p
    rw [List.length_map] at h1
    have hr : (js.map fun j => (bAt (ks.map fun e => e.1) j).2.2).sum < 0 := hr
    generalize (js.map fun j => (bAt (ks.map fun e => e.1) j).2.2).sum = S at hc hr
    have h2 : m * (js.length : Int) ≤ m * 1000 := Int.mul_le_mul_of_nonneg_left (by omega) (by omega)
    have h3 : m * 1 ≤ m * -S := Int.mul_le_mul_of_nonneg_left (by omega) (by omega)
    rw [Int.mul_neg, Int.mul_one] at h3
    omega
/-- how much more there may be behind changes -/
def UpB (bs : List Bnd) (f g : List Int) : Prop := ∀ p, g.getD p 0 ≤ f.getD p 0 + 1000 * (wsum (fun b => b.2.2) bs f - wsum (fun b => b.2.2) bs g)
theorem UpB.refl (bs : List Bnd) (f : List Int) : UpB bs f f := fun p => by omega
theorem UpB.trans {bs : List Bnd} {f g k : List Int} (a : UpB bs f g) (b : UpB bs g k) : UpB bs f k := fun p => by
  have := a p
  have := b p
  omega
theorem wsum_bd {c : Bnd → Int} {A X : Int} (hA : 0 ≤ A) (hX : 0 ≤ X) : ∀ {bs : List Bnd} {f : List Int}, (∀ b ∈ bs, -A ≤ c b ∧ c b ≤ A) → (∀ x ∈ f, 0 ≤ x ∧ x ≤ X) → -(A * X * (bs.length : Int)) ≤ wsum c bs f ∧ wsum c bs f ≤ A * X * (bs.length : Int)
  | [], f, _, _ => by
    rw [wsum_nil]
    show -(A * X * 0) ≤ 0 ∧ 0 ≤ A * X * 0
    rw [Int.mul_zero]
    exact ⟨by decide, by decide⟩
  | b :: bs, [], _, _ => by
    have h : 0 ≤ A * X * ((b :: bs).length : Int) := Int.mul_nonneg (Int.mul_nonneg hA hX) (by omega)
    show -(A * X * ((b :: bs).length : Int)) ≤ 0 ∧ 0 ≤ A * X * ((b :: bs).length : Int)
    omega
  | b :: bs, x :: f, h1, h2 => by
    have ih := wsum_bd hA hX (bs := bs) (f := f) (fun y hy => h1 y (List.mem_cons_of_mem _ hy)) (fun y hy => h2 y (List.mem_cons_of_mem _ hy))
    obtain ⟨b1, b2⟩ := h1 b (List.mem_cons_self ..)
    obtain ⟨x1, x2⟩ := h2 x (List.mem_cons_self ..)
    have e1 : A * X * ((b :: bs).length : Int) = A * X * (bs.length : Int) + A * X := by
      rw [List.length_cons]
      push_cast
      rw [Int.mul_add, Int.mul_one]
    have u1 : c b * x ≤ A * x := Int.mul_le_mul_of_nonneg_right b2 x1
    have u2 : A * x ≤ A * X := Int.mul_le_mul_of_nonneg_left x2 hA
    have l1 : -A * x ≤ c b * x := Int.mul_le_mul_of_nonneg_right b1 x1
    rw [Int.neg_mul] at l1
    rw [e1]
    show _ ≤ c b * x + wsum c bs f ∧ c b * x + wsum c bs f ≤ _
    omega
theorem Chgd.trans {bs : List Bnd} {f g k : List Int} (a : Chgd bs f g) (b : Chgd bs g k) : Chgd bs f k := ⟨b.len.trans a.len, b.nn, fun F => (b.tot F).trans (a.tot F), Int.lt_trans b.cost a.cost, fun p => by have := a.up p; have := b.up p; omega⟩
end Lag


set_option maxRecDepth 100000
set_option maxHeartbeats 8000000
namespace Lag
open PySem PySem.Spec PyProof.Rows L2
abbrev sBothWays : Stmt := topS 58 -- @both_ways
abbrev sChange : Stmt := topS 59 -- @change_along
abbrev sLeastFlow : Stmt := topS 57 -- @least_flow
def KptV (K : PySem.W.Frag) (H : Hp) (v : V) (e : Kpt) : Prop := ∃ a th, v = .ref a ∧ SqT K H a [.int ((e.1.1 : Nat) : Int), .int ((e.1.2.1 : Nat) : Int), .int e.1.2.2, .ref th] ∧ SqT K H th [.int ((e.2.1 : Nat) : Int), .int e.2.2]
theorem KptV.tk {K : PySem.W.Frag} {H H' : Hp} {v : V} {e : Kpt} (t : TK H H') (h : KptV K H v e) : KptV K H' v e := by
  obtain ⟨a, th, e', h1, h2⟩ := h
  exact ⟨a, th, e', t.seq h1, t.seq h2⟩
theorem KptV.bnd {K : PySem.W.Frag} {H : Hp} {v : V} {e : Kpt} (h : KptV K H v e) : BndV K H v e.1 := by
  obtain ⟨a, th, e', h1, _⟩ := h
  exact ⟨a, _, e', h1⟩
theorem kpt_bnd {K : PySem.W.Frag} {H : Hp} {kv : List V} {ks : List Kpt} (h : All2 (KptV K H) kv ks) : All2 (BndV K H) kv (ks.map fun e => e.1) := by
  refine ⟨by rw [List.length_map]; exact h.1, fun i v b hv hb => ?_⟩
  rw [List.getElem?_map] at hb
  cases e : ks[i]? with
  | none => rw [e] at hb; cases hb
  | some k =>
    rw [e] at hb
    cases hb
    exact (h.2 i v k hv e).bnd
/-- half way: the bounds ahead of i -/
structure KeptI (bs : List Bnd) (f : List Int) (i : Nat) (ks : List Kpt) : Prop where
  ok : ∀ e ∈ ks, KOk bs f e
  fwd : ∀ j b, j < i → bs[j]? = some b → (b, j, 1) ∈ ks
  bwd : ∀ j b, j < i → bs[j]? = some b → 0 < f.getD j 0 → (revB b, j, -1) ∈ ks
  len : ks.length ≤ 2 * i
theorem KeptI.one {bs : List Bnd} {f : List Int} {i : Nat} {ks : List Kpt} {b : Bnd} (h : KeptI bs f i ks) (hb : bs[i]? = some b) (h0 : ¬ 0 < f.getD i 0) : KeptI bs f (i + 1) (ks ++ [(b, i, 1)]) := by
  refine ⟨fun e he => ?_, fun j b' hj hb' => ?_, fun j b' hj hb' hp => ?_, by rw [List.length_append]; have := h.len; show _ + 1 ≤ _; omega⟩
  · rcases List.mem_append.mp he with he | he
    · exact h.ok e he
    · rw [List.mem_singleton.mp he]
      exact ⟨b, hb, .inl ⟨rfl, rfl⟩⟩
  · by_cases e : j = i
    · subst e
      rw [hb] at hb'
      cases hb'
      exact List.mem_append.mpr (.inr (List.mem_singleton.mpr rfl))
    · exact List.mem_append.mpr (.inl (h.fwd j b' (by omega) hb'))
  · by_cases e : j = i
    · subst e
      exact absurd hp h0
    · exact List.mem_append.mpr (.inl (h.bwd j b' (by omega) hb' hp))
theorem KeptI.two {bs : List Bnd} {f : List Int} {i : Nat} {ks : List Kpt} {b : Bnd} (h : KeptI bs f i ks) (hb : bs[i]? = some b) (h0 : 0 < f.getD i 0) : KeptI bs f (i + 1) (ks ++ [(b, i, 1)] ++ [(revB b, i, -1)]) := by
  refine ⟨fun e he => ?_, fun j b' hj hb' => ?_, fun j b' hj hb' hp => ?_, by rw [List.length_append, List.length_append]; have := h.len; show _ + 1 + 1 ≤ _; omega⟩
  · rcases List.mem_append.mp he with he | he
    · rcases List.mem_append.mp he with he | he
      · exact h.ok e he
      · rw [List.mem_singleton.mp he]
        exact ⟨b, hb, .inl ⟨rfl, rfl⟩⟩
    · rw [List.mem_singleton.mp he]
      exact ⟨b, hb, .inr ⟨rfl, rfl, h0⟩⟩
  · by_cases e : j = i
    · subst e
      rw [hb] at hb'
      cases hb'
      exact List.mem_append.mpr (.inl (List.mem_append.mpr (.inr (List.mem_singleton.mpr rfl))))
    · exact List.mem_append.mpr (.inl (List.mem_append.mpr (.inl (h.fwd j b' (by omega) hb'))))
  · by_cases e : j = i
    · subst e
      rw [hb] at hb'
      cases hb'
      exact List.mem_append.mpr (.inr (List.mem_singleton.mpr rfl))
    · exact List.mem_append.mpr (.inl (List.mem_append.mpr (.inl (h.bwd j b' (by omega) hb' hp))))
theorem KeptI.fin {bs : List Bnd} {f : List Int} {ks : List Kpt} (h : KeptI bs f bs.length ks) : Kept bs f ks :=
  ⟨h.ok, fun j b hb => h.fwd j b (List.getElem?_eq_some_iff.mp hb).1 hb, fun j b hb hp => h.bwd j b (List.getElem?_eq_some_iff.mp hb).1 hb hp⟩
def spBothWays (K : PySem.W.Frag) : Sp := fun vs H Q _ => ∃ (lb lf : Addr) (bv : List V) (bs : List Bnd) (f : List Int), vs = [.ref lb, .ref lf] ∧ H lb = some (.lst bv) ∧ All2 (BndV K H) bv bs ∧ H lf = some (.lst (f.map V.int)) ∧ f.length = bs.length ∧ bs.length ≤ 11000 ∧
  ∀ lk kv ks H', Same H H' → H lk = none → H' lk = some (.lst kv) → All2 (KptV K H') kv ks → Kept bs f ks → ks.length ≤ 22000 → Q (.ref lk) H'
/-- the ring's bounds, told as settle tells them: the flow's list is changed, all else stands -/
def spChange (K : PySem.W.Frag) : Sp := fun vs H Q _ => ∃ (lr lf : Addr) (kv : List V) (ks : List Kpt) (js : List Nat) (bs : List Bnd) (f : List Int), vs = [.ref lr, .ref lf] ∧ H lr = some (.lst (ringVs kv js)) ∧ lr ≠ lf ∧ All2 (KptV K H) kv ks ∧ RingK bs f ks js ∧ js.length ≤ 1000 ∧ H lf = some (.lst (f.map V.int)) ∧ f.length = bs.length ∧ (∀ x ∈ f, 0 ≤ x) ∧ (∃ F, Sat bs F) ∧
  ∀ g H', But lf H H' → TK H H' → H' lf = some (.lst (g.map V.int)) → Chgd bs f g → Q .non H'
/-- so many places, bounds that some numbers keep to, a flow -/
def spLeastFlow (K : PySem.W.Frag) : Sp := fun vs H Q _ => ∃ (n : Nat) (lb lf : Addr) (bv : List V) (bs : List Bnd) (f : List Int), vs = [.int (n : Nat), .ref lb, .ref lf] ∧ 1 ≤ n ∧ n ≤ 1000 ∧ H lb = some (.lst bv) ∧ All2 (BndV K H) bv bs ∧ (∀ b ∈ bs, b.1 < n ∧ b.2.1 < n) ∧ bs.length ≤ 11000 ∧ SqL K H lf (f.map V.int) ∧ f.length = bs.length ∧ (∀ x ∈ f, 0 ≤ x) ∧ (∃ F, Sat bs F) ∧
  ∀ t lg lk kv ks g (F : List Int) H', Same H H' → H' t = some (.tup [.ref lg, .ref lk]) → H' lg = some (.lst (g.map V.int)) → H' lk = some (.lst kv) → H lk = none → All2 (KptV K H') kv ks → Kept bs g ks → ks.length ≤ 22000 → g.length = bs.length → (∀ x ∈ g, 0 ≤ x) → ((∀ F, wsum (dF F) bs g = wsum (dF F) bs f) ∧ UpB bs f g) →
    Sat (ks.map fun e => e.1) (fun v => F.getD v 0) → (∀ v, F.getD v 0 ≤ 0) → (∀ R : Int, 0 ≤ R → (∀ b ∈ ks.map (fun e => e.1), -R ≤ b.2.2) → ∀ v, v < n → -((n : Int) * R) ≤ F.getD v 0) → Q (.ref t) H'
def LfR (H' : Hp) (n : Nat) (lg : Addr) (kv : List V) (ks : List Kpt) (bs : List Bnd) (g : List Int) (r : V) : Prop :=
  (r = .non ∧ ∃ F : List Int, Sat (ks.map fun e => e.1) (fun v => F.getD v 0) ∧ (∀ v, F.getD v 0 ≤ 0) ∧ ∀ R : Int, 0 ≤ R → (∀ b ∈ ks.map (fun e => e.1), -R ≤ b.2.2) → ∀ v, v < n → -((n : Int) * R) ≤ F.getD v 0) ∨
  ∃ lr js, r = .ref lr ∧ H' lr = some (.lst (ringVs kv js)) ∧ lr ≠ lg ∧ js.length ≤ 1000 ∧ RingK bs g ks js
def LfI (K : PySem.W.Frag) (H : Hp) (n : Nat) (lb lf lg : Addr) (bs : List Bnd) (f : List Int) (c0 : Int) (m : Nat) (σ : L2.St) (H' : Hp) : Prop := ∃ (lk : Addr) (kv : List V) (ks : List Kpt) (g : List Int) (r : V), σ = [some (.int (n : Nat)), some (.ref lb), some (.ref lf), some (.ref lg), some (.ref lk), some r] ∧ Same H H' ∧ H' lg = some (.lst (g.map V.int)) ∧ g.length = bs.length ∧ (∀ x ∈ g, 0 ≤ x) ∧ ((∀ F, wsum (dF F) bs g = wsum (dF F) bs f) ∧ UpB bs f g) ∧
  H lk = none ∧ H' lk = some (.lst kv) ∧ All2 (KptV K H') kv ks ∧ Kept bs g ks ∧ ks.length ≤ 22000 ∧ LfR H' n lg kv ks bs g r ∧ m = (wsum (fun b => b.2.2) bs g - c0).toNat
section
variable {P : Program} {w : World} {K : PySem.W.Frag} {mg : Str → Option Value} {base : Heap}
abbrev nBothWays : List Str := ["bounds", "flow", "told", "place", "start", "end", "room", "thing"]
theorem scBothWays : FnScope nBothWays ["bounds", "flow"] (defScope sBothWays) := ⟨rfl, rfl, rfl, by decide +kernel, rfl, by decide +kernel, by decide +kernel⟩
abbrev DBothWays (P : Program) (w : World) (K : PySem.W.Frag) (mg : Str → Option Value) (base : Heap) := Df P w K mg base 1 "both_ways" ["bounds", "flow"] (spBothWays K)
theorem ok_bothWays {f : Addr} {fd : FuncData} (F : Fun K "both_ways" "both_ways" sBothWays f fd) (hm : mg "both_ways" = some (.ref f)) (B : Bt mg) : DBothWays P w K mg base f fd := by
  refine ⟨?_, hm, F.kp, F.binds fun _ _ _ _ _ _ us hl => match us, hl with | [_, _], _ => rfl⟩
  refine F.ok scBothWays (fun vs H Q E h => ?_) (fun cdv A outer s H vs Q E hr h => ?_)
  · obtain ⟨lb, lf, bv, bs, f, rfl, _⟩ := h
    rfl
  · obtain ⟨lb, lf, bv, bs, f, rfl, hlb, ba, hlf, hfl, hbl, q⟩ := h
    have nd := scBothWays.nd
    refine ⟨_, pss_cons (ps_set (i := 2) nd rfl (.inl rfl) (pe_lst pa_nil)) <|
        pss_cons (ps_for PassesOwn.never rfl (pi_enum (by rfl) B.enum (pa_cons (pv 0) pa_nil)) (pg_tup rfl (pgs_cons (pg_name (i := 3) nd rfl (.inl rfl)) (pgs_cons (pg_tup rfl (pgs_cons (pg_name (i := 4) nd rfl (.inl rfl)) (pgs_cons (pg_name (i := 5) nd rfl (.inl rfl)) (pgs_cons (pg_name (i := 6) nd rfl (.inl rfl)) (pgs_cons (pg_name (i := 7) nd rfl (.inl rfl)) pgs_nil))))) pgs_nil))) (pss_cons (ps_expr (pe_bm PySem.F.plainAttrs_list PySem.F.slot_list_append PySem.F.type_list_append mt_append (pv 2) (pa_cons (pe_tup (pa_cons (pv 4) (pa_cons (pv 5) (pa_cons (pv 6) (pa_cons (pe_tup (pa_cons (pv 3) (pa_cons pe_int pa_nil))) pa_nil))))) pa_nil))) <|
        pss_one (ps_if (pt_cmpR op_gt (pe_ix ix_list (pv 1) (pv 3) (fun _ _ => rfl)) pe_int (nomark _)) (pss_one (ps_expr (pe_bm PySem.F.plainAttrs_list PySem.F.slot_list_append PySem.F.type_list_append mt_append (pv 2) (pa_cons (pe_tup (pa_cons (pv 5) (pa_cons (pv 4) (pa_cons (pe_un un_neg (pv 6)) (pa_cons (pe_tup (pa_cons (pv 3) (pa_cons (pe_un un_neg pe_int) pa_nil))) pa_nil))))) pa_nil)))) pss_nil))) <|
        pss_one (ps_ret (pv 2)), ?_⟩
    have hbv : bv.length = bs.length := ba.1
    refine ⟨(by show 0 ≤ sizeLine; decide), fun lk hlk => ?_⟩
    have s1 : Same H (upd H lk (.lst [])) := same_new hlk
    have e1 : (upd H lk (.lst [])) lk = some (.lst []) := upd_same
    obtain ⟨H1, hH1⟩ : ∃ H1, H1 = upd H lk (.lst []) := ⟨_, rfl⟩
    rw [← hH1] at s1 e1
    refine gn_normH (σ' := [some (.ref lb), some (.ref lf), some (.ref lk), none, none, none, none, none]) (H' := H1) rfl hH1.symm ?_
    refine ⟨_, rfl, lb, bv, rfl, SqL.of (s1 _ _ hlb), for_it (walk_enum (K := K) (a := lb) (xs := bv)) (fun i σ H' => ∃ (u3 u4 u5 u6 u7 : Option V) (kv : List V) (ks : List Kpt), σ = [some (.ref lb), some (.ref lf), some (.ref lk), u3, u4, u5, u6, u7] ∧ H' lk = some (.lst kv) ∧ All2 (KptV K H') kv ks ∧ KeptI bs f i ks ∧ Same H H')
      ⟨_, _, _, _, _, [], [], rfl, e1, .nil, ⟨(fun e he => nomatch he), (fun j b hj => absurd hj (Nat.not_lt_zero _)), (fun j b hj => absurd hj (Nat.not_lt_zero _)), Nat.zero_le _⟩, s1⟩ (fun i σ H' _ ⟨_, _, _, _, _, _, _, _, _, _, _, sm⟩ => SqL.of (sm _ _ hlb)) ?_ ?_⟩
    · rintro i v σ H2 H2' hi ⟨u3, u4, u5, u6, u7, kv, ks, rfl, hk2, al, ki, sm⟩ ⟨T, x1, y, rfl, hT, rfl, ex, ey⟩
      cases ex
      obtain ⟨b, hb, a, th, rfl, sq⟩ := ba.get ey
      have hib : i < bs.length := (List.getElem?_eq_some_iff.mp hb).1
      have sT := same_new (o := .tup [.int (i : Nat), .ref a]) hT
      have eT : (upd H2 T (.tup [.int (i : Nat), .ref a])) T = some (.tup [.int (i : Nat), .ref a]) := upd_same
      have hk3 := sT _ _ hk2
      have al3 := al.imp fun _ _ r => KptV.tk (TK.same sT) r
      have sm3 := sm.trans sT
      generalize upd H2 T (.tup [.int (i : Nat), .ref a]) = H3 at sT eT hk3 al3 sm3
      refine ⟨T, _, rfl, .inl (.inl eT), rfl, _, _, rfl, _, _, rfl, a, _, rfl, (TK.same sm3).seq sq, rfl, _, _, rfl, _, _, rfl, _, _, rfl, _, _, rfl, rfl, rfl, ?_⟩
      have hkl : kv.length = ks.length := al.1
      have hks := ki.len
      -- as it stands
      refine ⟨_, rfl, .inl ⟨rfl, _, SqL.of hk3⟩, _, rfl, _, rfl, _, rfl, _, rfl, (by show 2 ≤ sizeLine; decide), fun t1 ht1 => ?_⟩
      have st1 := same_new (o := .tup [.int ((i : Nat) : Int), .int 1]) ht1
      have et1 : (upd H3 t1 (.tup [.int ((i : Nat) : Int), .int 1])) t1 = some (.tup [.int ((i : Nat) : Int), .int 1]) := upd_same
      generalize upd H3 t1 (.tup [.int ((i : Nat) : Int), .int 1]) = H4 at st1 et1
      refine ⟨(by show 4 ≤ sizeLine; decide), fun t2 ht2 => ?_⟩
      have st2 := same_new (o := .tup [.int ((b.1 : Nat) : Int), .int ((b.2.1 : Nat) : Int), .int b.2.2, .ref t1]) ht2
      have et2 : (upd H4 t2 (.tup [.int ((b.1 : Nat) : Int), .int ((b.2.1 : Nat) : Int), .int b.2.2, .ref t1])) t2 = some (.tup [.int ((b.1 : Nat) : Int), .int ((b.2.1 : Nat) : Int), .int b.2.2, .ref t1]) := upd_same
      have et1' := st2 _ _ et1
      generalize upd H4 t2 (.tup [.int ((b.1 : Nat) : Int), .int ((b.2.1 : Nat) : Int), .int b.2.2, .ref t1]) = H5 at st2 et2 et1'
      have s35 := st1.trans st2
      refine ⟨lk, _, _, rfl, rfl, s35 _ _ hk3, Nat.lt_of_le_of_lt (show kv.length ≤ 22000 by omega) (by decide), ?_⟩
      have tk5 : TK H5 (upd H5 lk (.lst (kv ++ [.ref t2]))) := TK.lst (s35 _ _ hk3)
      have al6 : All2 (KptV K (upd H5 lk (.lst (kv ++ [.ref t2])))) (kv ++ [.ref t2]) (ks ++ [(b, i, 1)]) := All2.snoc (al3.imp fun _ _ r => (KptV.tk (TK.same s35) r).tk tk5) ((show KptV K H5 (.ref t2) (b, i, 1) from ⟨t2, t1, rfl, .inl (.inl et2), .inl (.inl et1')⟩).tk tk5)
      have sm6 : Same H (upd H5 lk (.lst (kv ++ [.ref t2]))) := same_mut (sm3.trans s35) hlk
      have hk6 : (upd H5 lk (.lst (kv ++ [.ref t2]))) lk = some (.lst (kv ++ [.ref t2])) := upd_same
      generalize upd H5 lk (.lst (kv ++ [.ref t2])) = H6 at al6 sm6 hk6
      refine ⟨_, rfl, _, rfl, lf, _, i, _, rfl, rfl, SqL.of (sm6 _ _ hlf), atI_nat (sgetD_at (by omega)), _, _, rfl, rfl, _, rfl, ite2 (fun e => ?_) (fun e => ?_)⟩
      · have h0 : 0 < f.getD i 0 := of_decide_eq_true e
        refine ⟨_, rfl, .inl ⟨rfl, _, SqL.of hk6⟩, _, rfl, _, rfl, _, rfl, _, rfl, _, rfl, _, rfl, (by show 2 ≤ sizeLine; decide), fun t3 ht3 => ?_⟩
        have st3 := same_new (o := .tup [.int ((i : Nat) : Int), .int (-1)]) ht3
        have et3 : (upd H6 t3 (.tup [.int ((i : Nat) : Int), .int (-1)])) t3 = some (.tup [.int ((i : Nat) : Int), .int (-1)]) := upd_same
        generalize upd H6 t3 (.tup [.int ((i : Nat) : Int), .int (-1)]) = H7 at st3 et3
        refine ⟨(by show 4 ≤ sizeLine; decide), fun t4 ht4 => ?_⟩
        have st4 := same_new (o := .tup [.int ((b.2.1 : Nat) : Int), .int ((b.1 : Nat) : Int), .int (-b.2.2), .ref t3]) ht4
        have et4 : (upd H7 t4 (.tup [.int ((b.2.1 : Nat) : Int), .int ((b.1 : Nat) : Int), .int (-b.2.2), .ref t3])) t4 = some (.tup [.int ((b.2.1 : Nat) : Int), .int ((b.1 : Nat) : Int), .int (-b.2.2), .ref t3]) := upd_same
        have et3' := st4 _ _ et3
        generalize upd H7 t4 (.tup [.int ((b.2.1 : Nat) : Int), .int ((b.1 : Nat) : Int), .int (-b.2.2), .ref t3]) = H8 at st4 et4 et3'
        have s68 := st3.trans st4
        refine ⟨lk, _, _, rfl, rfl, s68 _ _ hk6, Nat.lt_of_le_of_lt (show (kv ++ [V.ref t2]).length ≤ 22000 by rw [List.length_append]; show _ + 1 ≤ _; omega) (by decide), ?_⟩
        have tk8 : TK H8 (upd H8 lk (.lst (kv ++ [.ref t2] ++ [.ref t4]))) := TK.lst (s68 _ _ hk6)
        refine ⟨_, _, _, _, _, kv ++ [.ref t2] ++ [.ref t4], ks ++ [(b, i, 1)] ++ [(revB b, i, -1)], rfl, upd_same, All2.snoc (al6.imp fun _ _ r => (KptV.tk (TK.same s68) r).tk tk8) ((show KptV K H8 (.ref t4) (revB b, i, -1) from ⟨t4, t3, rfl, .inl (.inl et4), .inl (.inl et3')⟩).tk tk8), ki.two hb h0, same_mut (sm6.trans s68) hlk⟩
      · exact ⟨_, _, _, _, _, kv ++ [.ref t2], ks ++ [(b, i, 1)], rfl, hk6, al6, ki.one hb (fun z => e (decide_eq_true z)), sm6⟩
    · rintro σ H2 ⟨u3, u4, u5, u6, u7, kv, ks, rfl, hk2, al, ki, sm⟩
      rw [hbv] at ki
      have := ki.len
      exact ⟨_, rfl, q lk kv ks H2 sm hlk hk2 al ki.fin (by omega)⟩
abbrev nChange : List Str := ["ring", "flow", "start", "end", "room", "thing", "turns", "place", "way", "most"]
theorem scChange : FnScope nChange ["ring", "flow"] (defScope sChange) := ⟨rfl, rfl, rfl, by decide +kernel, rfl, by decide +kernel, by decide +kernel⟩
abbrev DChange (P : Program) (w : World) (K : PySem.W.Frag) (mg : Str → Option Value) (base : Heap) := Df P w K mg base 1 "change_along" ["ring", "flow"] (spChange K)
theorem ok_change {f : Addr} {fd : FuncData} (F : Fun K "change_along" "change_along" sChange f fd) (hm : mg "change_along" = some (.ref f)) (B : Bt mg) (mn : mg "min" = none) : DChange P w K mg base f fd := by
  refine ⟨?_, hm, F.kp, F.binds fun _ _ _ _ _ _ us hl => match us, hl with | [_, _], _ => rfl⟩
  refine F.ok scChange (fun vs H Q E h => ?_) (fun cdv A outer s H vs Q E hr h => ?_)
  · obtain ⟨lr, lf, kv, ks, js, bs, f, rfl, _⟩ := h
    rfl
  · obtain ⟨lr, lf, kv, ks, js, bs, f, rfl, hlr, nrf, al, rk, hjl, hlf, hfl, hf0, ⟨F0, S0⟩, q⟩ := h
    have nd := scChange.nd
    refine ⟨_, pss_cons (ps_setLc (i := 6) (own := [("start", 2), ("end", 3), ("room", 4), ("thing", 5)]) (g := (gTup K 4 (gCons (gName 2) (gCons (gName 3) (gCons (gName 4) (gCons (gName 5) gNil)))))) (tt := tYes) (te := (tVar 5)) rfl nd rfl rfl (sw_true rfl rfl rfl (by decide +kernel)) (pi_list (pv 0)) (blkOk_by (N := nChange) (sc := defScope sChange) (own := [("start", 2), ("end", 3), ("room", 4), ("thing", 5)]) (by decide +kernel)) (fun _ _ _ _ _ => (pg_tup rfl (pgs_cons (pg_name (i := 2) nd rfl (.inl rfl)) (pgs_cons (pg_name (i := 3) nd rfl (.inl rfl)) (pgs_cons (pg_name (i := 4) nd rfl (.inl rfl)) (pgs_cons (pg_name (i := 5) nd rfl (.inl rfl)) pgs_nil)))))) (fun _ _ _ _ _ => pts_nil) (fun _ _ _ _ _ => (pv 5))) <|
        pss_cons (ps_set (i := 9) nd rfl (.inl rfl) (pe_callB (cr_min rfl) (by rfl) mn (by decide +kernel) (pa_cons (pe_lc (own := [("place", 7), ("way", 8)]) (g := (gTup K 2 (gCons (gName 7) (gCons (gName 8) gNil)))) (tt := (tTest (tOp (rI0 fun i j => .bl (decide (i < j))) (tVar 8) (tC (.int 0))))) (te := (tOp (rIxL K) (tVar 1) (tVar 7))) rfl nd (pi_list (pv 6)) (blkOk_by (N := nChange) (sc := defScope sChange) (own := [("place", 7), ("way", 8)]) (by decide +kernel)) (fun _ _ _ _ _ => (pg_tup rfl (pgs_cons (pg_name (i := 7) nd rfl (.inl rfl)) (pgs_cons (pg_name (i := 8) nd rfl (.inl rfl)) pgs_nil)))) (fun _ _ _ _ _ => pts_one (pt_cmpR op_lt (pv 8) pe_int (nomark _))) (fun _ _ _ _ _ => (pe_ix ix_list (pv 1) (pv 7) (fun _ _ => rfl)))) pa_nil))) <|
        pss_one (ps_for PassesOwn.never rfl (pi_list (pv 6)) (pg_tup rfl (pgs_cons (pg_name (i := 7) nd rfl (.inl rfl)) (pgs_cons (pg_name (i := 8) nd rfl (.inl rfl)) pgs_nil))) (pss_one (ps_augS (pv 1) (pv 7) get_list (pe_op op_mul (pv 8) (pv 9)) ip_add set_list))), ?_⟩
    have ent : ∀ i v, (ringVs kv js)[i]? = some v → ∃ e, (js.map (kAt ks))[i]? = some e ∧ KptV K H v e ∧ KOk bs f e := fun i v hv => by
      unfold ringVs at hv
      rw [List.getElem?_map] at hv
      cases hj : js[i]? with
      | none => rw [hj] at hv; cases hv
      | some j =>
        rw [hj] at hv
        cases hv
        obtain ⟨e1, e2⟩ := rk.entry (List.mem_of_getElem? hj)
        obtain ⟨v, hv, hk⟩ := al.getR e1
        have : kv.getD j .non = v := by rw [List.getD_eq_getElem?_getD, hv]; rfl
        show ∃ e, _ ∧ KptV K H (kv.getD j .non) e ∧ _
        rw [this]
        exact ⟨_, by rw [List.getElem?_map, hj]; rfl, hk, e2⟩
    have hrl : (ringVs kv js).length = js.length := by unfold ringVs; rw [List.length_map]
    -- the turns
    refine ⟨_, rfl, lr, rfl, ⟨_, SqL.of hlr⟩, fun lt hlt => ?_⟩
    refine lc_list (K := K) (a := lr) (xs := ringVs kv js) (fun i Hc => ∃ tv : List V, Hc lt = some (.lst tv) ∧ All2 (fun v (e : Kpt) => ∃ th, v = .ref th ∧ SqT K Hc th [.int ((e.2.1 : Nat) : Int), .int e.2.2]) tv ((js.map (kAt ks)).take i) ∧ Same H Hc) ⟨[], upd_same, .nil, same_new hlt⟩ (fun i Hc _ ⟨_, _, _, sm⟩ => SqL.of (sm _ _ hlr)) ?_ ?_
    · rintro i v Hc hv ⟨tv, hc, ta, sm⟩
      obtain ⟨e, he, ⟨a, th, rfl, q1, q2⟩, _⟩ := ent i v hv
      have tk := TK.same sm
      have htl := ta.1
      have hil : i < js.length := by rw [← hrl]; exact (List.getElem?_eq_some_iff.mp hv).1
      rw [List.length_take] at htl
      refine ⟨a, _, rfl, tk.seq q1, rfl, _, _, rfl, _, _, rfl, _, _, rfl, _, _, rfl, rfl, rfl, tyes ?_⟩
      refine ⟨_, rfl, tv, hc, small1000 (by omega), tv ++ [.ref th], upd_same, ?_, same_mut sm hlt⟩
      rw [List.take_add_one, he]
      exact All2.snoc (ta.imp fun _ _ ⟨t, k1, k2⟩ => ⟨t, k1, (TK.lst hc).seq k2⟩) ⟨th, rfl, (TK.lst hc).seq (tk.seq q2)⟩
    rintro H1 ⟨tv, ht1, ta, s1⟩
    rw [hrl, List.take_of_length_le (by rw [List.length_map]; exact Nat.le_refl _)] at ta
    have htl : tv.length = js.length := by have := ta.1; rw [List.length_map] at this; exact this
    have nlt : lf ≠ lt := ne_of_none hlf hlt
    have hlf1 := s1 _ _ hlf
    refine gn_norm (σ' := [some (.ref lr), some (.ref lf), none, none, none, none, some (.ref lt), none, none, none]) rfl ?_
    have kok : ∀ e ∈ js.map (kAt ks), KOk bs f e := fun e he => by
      obtain ⟨j, hj, rfl⟩ := List.mem_map.mp he
      exact (rk.entry hj).2
    -- the most
    refine ⟨_, rfl, lt, rfl, ⟨_, SqL.of ht1⟩, fun lm hlm => ?_⟩
    refine lc_list (K := K) (a := lt) (xs := tv) (fun i Hc => Hc lm = some (.lst (((backs ((js.map (kAt ks)).take i)).map fun e => f.getD e.2.1 0).map V.int)) ∧ Same H1 Hc) ⟨upd_same, same_new hlm⟩ (fun i Hc _ ⟨_, sm⟩ => SqL.of (sm _ _ ht1)) ?_ ?_
    · rintro i v Hc hv ⟨hc, sm⟩
      obtain ⟨e, he, th, rfl, sq⟩ := ta.get hv
      obtain ⟨b, hb, _⟩ := kok e (List.mem_of_getElem? he)
      have hpl : e.2.1 < f.length := by rw [hfl]; exact (List.getElem?_eq_some_iff.mp hb).1
      have hil : i < js.length := by rw [← htl]; exact (List.getElem?_eq_some_iff.mp hv).1
      refine ⟨th, _, rfl, (TK.same sm).seq sq, rfl, _, _, rfl, _, _, rfl, rfl, rfl, _, rfl, _, _, rfl, rfl, _, rfl, ?_⟩
      unfold backs
      rw [List.take_add_one, he, List.filter_append]
      by_cases h0 : e.2.2 < 0
      · rw [decide_eq_true h0]
        refine iteT ⟨_, rfl, _, rfl, lf, _, e.2.1, _, rfl, rfl, SqL.of (sm _ _ hlf1), atI_nat (sgetD_at hpl), _, hc, ?_, ?_, same_mut sm hlm⟩
        · rw [List.length_map, List.length_map]
          have := List.length_filter_le (fun e : Kpt => decide (e.2.2 < 0)) ((js.map (kAt ks)).take i)
          rw [List.length_take, List.length_map] at this
          exact small1000 (by unfold backs; omega)
        · rw [upd_same, List.map_append, List.map_append]
          show _ = some (HO.lst (_ ++ (((List.filter _ [e]).map _).map V.int)))
          rw [List.filter_cons_of_pos (by rw [decide_eq_true h0])]
          rfl
      · rw [decide_eq_false h0]
        refine iteF ⟨?_, sm⟩
        show _ = some (HO.lst (((_ ++ (List.filter _ [e])).map _).map V.int))
        rw [List.filter_cons_of_neg (by rw [decide_eq_false h0]; decide), List.filter_nil, List.append_nil]
        exact hc
    rintro H2 ⟨hm2, s2⟩
    rw [htl, List.take_of_length_le (by rw [List.length_map]; exact Nat.le_refl _)] at hm2
    have hbk := rk.back S0
    refine ⟨lm, _, rfl, SqL.of hm2, by rw [List.length_map]; exact List.length_pos_iff.mpr hbk, fun m hmm hmle => ?_⟩
    obtain ⟨em, hem, rfl⟩ := List.mem_map.mp hmm
    have hm0 : 0 < f.getD em.2.1 0 := by
      obtain ⟨h1, h2⟩ := List.mem_filter.mp hem
      obtain ⟨b, hb, hd⟩ := kok em h1
      rcases hd with ⟨z, _⟩ | ⟨_, _, z⟩
      · rw [z] at h2
        exact absurd h2 (by decide)
      · exact z
    have hle : ∀ e ∈ backs (js.map (kAt ks)), f.getD em.2.1 0 ≤ f.getD e.2.1 0 := fun e he => hmle _ (List.mem_map.mpr ⟨e, he, rfl⟩)
    generalize f.getD em.2.1 0 = m at hm0 hle
    refine gn_norm (σ' := [some (.ref lr), some (.ref lf), none, none, none, none, some (.ref lt), none, none, some (.int m)]) rfl ?_
    have hlf2 := s2 _ _ hlf1
    have ht2 := s2 _ _ ht1
    have s02 := s1.trans s2
    -- the change
    refine ⟨_, rfl, lt, rfl, ⟨_, SqL.of ht2⟩, for_list (K := K) (a := lt) (xs := tv) (fun i σ H' => ∃ (u7 u8 : Option V) (g : List Int), σ = [some (.ref lr), some (.ref lf), none, none, none, none, some (.ref lt), u7, u8, some (.int m)] ∧ H' lf = some (.lst (g.map V.int)) ∧ Chg bs f m ((js.map (kAt ks)).take i) g ∧ But lf H2 H' ∧ TK H2 H')
      ⟨_, _, f, rfl, hlf2, Chg.ini bs f m, But.refl _ _, TK.refl _⟩ (fun i σ H' _ ⟨_, _, _, _, _, _, bt, _⟩ => SqL.of (bt _ _ nlt.symm ht2)) ?_ ?_⟩
    · rintro i v σ H3 hv ⟨u7, u8, g, rfl, hg, ch, bt, tk⟩
      obtain ⟨e, he, th, rfl, sq⟩ := ta.get hv
      have heq := kok e (List.mem_of_getElem? he)
      obtain ⟨b, hb, hd⟩ := id heq
      have hpl : e.2.1 < g.length := by rw [ch.len, hfl]; exact (List.getElem?_eq_some_iff.mp hb).1
      have hw : e.2.2 = 1 ∨ e.2.2 = -1 := by
        rcases hd with ⟨z, _⟩ | ⟨z, _⟩
        · exact .inl z
        · exact .inr z
      refine ⟨th, _, rfl, tk.seq ((TK.same s2).seq sq), rfl, _, _, rfl, _, _, rfl, rfl, ?_⟩
      refine ⟨_, rfl, _, rfl, lf, _, e.2.1, _, rfl, rfl, SqL.of hg, sgetD_at hpl, _, rfl, _, rfl, _, _, rfl, rfl, ?_, _, _, rfl, rfl, lf, _, _, e.2.1, rfl, rfl, hg, Evl.ixN_nat (by rw [List.length_map]; exact hpl), ?_⟩
      · exact .inl (by rcases hw with z | z <;> rw [z] <;> decide)
      refine ⟨_, _, g.set e.2.1 (g.getD e.2.1 0 + e.2.2 * m), rfl, by rw [upd_same, List.map_set], ?_, bt.trans But.upd, tk.trans (TK.lst hg)⟩
      rw [List.take_add_one, he]
      refine ch.step (Int.le_of_lt hm0) hfl heq fun h1 e' he' hp h2 => ?_
      obtain ⟨i', hi'⟩ := List.getElem?_of_mem he'
      have hlt : i' < i := by
        have := (List.getElem?_eq_some_iff.mp hi').1
        rw [List.length_take] at this
        omega
      rw [List.getElem?_take_of_lt hlt, List.getElem?_map] at hi'
      rw [List.getElem?_map] at he
      cases hj' : js[i']? with
      | none => rw [hj'] at hi'; cases hi'
      | some j' =>
        cases hj : js[i]? with
        | none => rw [hj] at he; cases he
        | some j =>
          rw [hj'] at hi'
          rw [hj] at he
          cases hi'
          cases he
          have := rk.once hj' hj h2 h1 hp
          omega
    · rintro σ H3 ⟨u7, u8, g, rfl, hg, ch, bt, tk⟩
      rw [htl, List.take_of_length_le (by rw [List.length_map]; exact Nat.le_refl _)] at ch
      exact q g H3 (fun c o n h => bt c o n (s02 _ _ h)) ((TK.same s02).trans tk) hg (ch.fin rk hf0 hm0 hle hjl)
abbrev nLeastFlow : List Str := ["many", "bounds", "flow", "told", "kept", "ring"]
theorem scLeastFlow : FnScope nLeastFlow ["many", "bounds", "flow"] (defScope sLeastFlow) := ⟨rfl, rfl, rfl, by decide +kernel, rfl, by decide +kernel, by decide +kernel⟩
abbrev DLeastFlow (P : Program) (w : World) (K : PySem.W.Frag) (mg : Str → Option Value) (base : Heap) := Df P w K mg base 3 "least_flow" ["many", "bounds", "flow"] (spLeastFlow K)
theorem ok_leastFlow {f fB fS fC : Addr} {fd fdB fdS fdC : FuncData} (F : Fun K "least_flow" "least_flow" sLeastFlow f fd) (hm : mg "least_flow" = some (.ref f)) (B : Bt mg) (DBw : DBothWays P w K mg base fB fdB) (DSe : DSettle P w K mg base fS fdS) (DCa : DChange P w K mg base fC fdC) : DLeastFlow P w K mg base f fd := by
  refine ⟨?_, hm, F.kp, F.binds fun _ _ _ _ _ _ us hl => match us, hl with | [_, _, _], _ => rfl⟩
  refine F.ok scLeastFlow (fun vs H Q E h => ?_) (fun cdv A outer s H vs Q E hr h => ?_)
  · obtain ⟨n, lb, lf, bv, bs, f, rfl, _⟩ := h
    rfl
  · obtain ⟨n, lb, lf, bv, bs, f, rfl, hn1, hn, hlb, ba, hbn, hbl, hlf, hfl, hf0, ⟨F0, S0⟩, q⟩ := h
    have nd := scLeastFlow.nd
    refine ⟨_, pss_cons (ps_set (i := 3) nd rfl (.inl rfl) (pe_callTy call_list_of (by rfl) B.list (by decide +kernel) (pa_cons (pv 2) pa_nil))) <|
        pss_cons (ps_set (i := 4) nd rfl (.inl rfl) (pe_call DBw.ok (hr.mono (by decide)) (by rfl) DBw.mg DBw.kp DBw.bd .nil pass0 (pa_cons (pv 1) (pa_cons (pv 3) pa_nil)))) <|
        pss_cons (ps_set (i := 5) nd rfl (.inl rfl) (pe_ix ix_tup (pe_call DSe.ok (hr.mono (by decide)) (by rfl) DSe.mg DSe.kp DSe.bd .nil pass0 (pa_cons (pv 0) (pa_cons (pv 4) pa_nil))) pe_int (fun _ _ => rfl))) <|
        pss_cons (ps_while PassesOwn.never (pt_cmpR op_notN (pv 5) pe_non (nomark _)) (pss_cons (ps_expr (pe_call DCa.ok (hr.mono (by decide)) (by rfl) DCa.mg DCa.kp DCa.bd .nil pass0 (pa_cons (pv 5) (pa_cons (pv 3) pa_nil)))) <|
        pss_cons (ps_set (i := 4) nd rfl (.inl rfl) (pe_call DBw.ok (hr.mono (by decide)) (by rfl) DBw.mg DBw.kp DBw.bd .nil pass0 (pa_cons (pv 1) (pa_cons (pv 3) pa_nil)))) <|
        pss_one (ps_set (i := 5) nd rfl (.inl rfl) (pe_ix ix_tup (pe_call DSe.ok (hr.mono (by decide)) (by rfl) DSe.mg DSe.kp DSe.bd .nil pass0 (pa_cons (pv 0) (pa_cons (pv 4) pa_nil))) pe_int (fun _ _ => rfl))))) <|
        pss_one (ps_ret (pe_tup (pa_cons (pv 3) (pa_cons (pv 4) pa_nil)))), ?_⟩
    refine ⟨_, rfl, lf, _, rfl, .inl hlf, fun lg hlg => ?_⟩
    have s1 : Same H (upd H lg (.lst (f.map V.int))) := same_new hlg
    have e1 : (upd H lg (.lst (f.map V.int))) lg = some (.lst (f.map V.int)) := upd_same
    obtain ⟨H1, hH1⟩ : ∃ H1, H1 = upd H lg (.lst (f.map V.int)) := ⟨_, rfl⟩
    rw [← hH1] at s1 e1
    refine gn_normH (σ' := [some (.int (n : Nat)), some (.ref lb), some (.ref lf), some (.ref lg), none, none]) (H' := H1) rfl hH1.symm ?_
    have ba1 := ba.imp fun _ _ r => BndV.tk (TK.same s1) r
    obtain ⟨u5, hu5⟩ : ∃ u5 : Option V, u5 = none := ⟨_, rfl⟩
    rw [← hu5]
    refine ⟨_, rfl, _, rfl, lb, lg, bv, bs, f, rfl, s1 _ _ hlb, ba.imp (fun _ _ r => BndV.tk (TK.same s1) r), e1, hfl, hbl, fun lk kv ks H8 s8 hlk hkk al kp hkl => ?_⟩
    refine gn_norm (σ' := [some (.int (n : Nat)), some (.ref lb), some (.ref lf), some (.ref lg), some (.ref lk), u5]) rfl ?_
    refine ⟨_, rfl, _, rfl, n, lk, kv, _, rfl, hn1, hn, hkk, kpt_bnd al, kp.below hbn, fun t H9 s9 ht tl => ?_⟩
    have sE := ((s1).trans s8).trans s9
    have hlk0 : H lk = none := (s1).free hlk
    have egE := s9 _ _ (s8 _ _ (e1))
    have alE := al.imp fun _ _ r => KptV.tk (TK.same s9) r
    rcases tl with ⟨lf', F, et, _, _, _, sat, hle, hlow⟩ | ⟨lr, js, et, hlr, er, hjl, ring, rnd⟩
    · refine ⟨t, _, 1, _, rfl, rfl, .inl (.inl et), atI_nat (j := 1) rfl, ?_⟩
      refine gn_norm (σ' := [some (.int (n : Nat)), some (.ref lb), some (.ref lf), some (.ref lg), some (.ref lk), some .non]) rfl ?_
      refine ⟨LfI K H n lb lf lg bs f (wsum (dF F0) bs f), ⟨_, ⟨lk, kv, ks, f, .non, rfl, sE, egE, hfl, hf0, ⟨fun _ => rfl, UpB.refl _ _⟩, hlk0, s9 _ _ hkk, alE, kp, hkl, .inl ⟨rfl, F, sat, hle, hlow⟩, rfl⟩⟩, ?_⟩
      rintro m σ H5 ⟨lk, kv, ks, g, r, rfl, s5, eg, gl, g0, ⟨gt, gu⟩, hlk0, hkk, al, kp, hkl, lr', rfl⟩
      rcases lr' with ⟨rfl, F, sat, hle, hlow⟩ | ⟨lr, js, rfl, er, nrg, hjl, rk⟩
      · refine ⟨_, rfl, rfl, _, rfl, iteF ?_⟩
        refine ⟨_, rfl, _, rfl, (by show 2 ≤ sizeLine; decide), fun tt htt => ?_⟩
        have st := same_new (o := .tup [.ref lg, .ref lk]) htt
        exact q tt lg lk kv ks g F _ (s5.trans st) upd_same (st _ _ eg) (st _ _ hkk) hlk0 (al.imp fun _ _ r => KptV.tk (TK.same st) r) kp hkl gl g0 ⟨gt, gu⟩ sat hle hlow
      · refine ⟨_, rfl, rfl, _, rfl, iteT ?_⟩
        refine ⟨fun σ H6 => ∃ m', m' < (wsum (fun b => b.2.2) bs g - wsum (dF F0) bs f).toNat ∧ LfI K H n lb lf lg bs f (wsum (dF F0) bs f) m' σ H6, fun σ' H' h => h, ?_⟩
        refine ⟨_, rfl, _, rfl, lr, lg, kv, ks, js, bs, g, rfl, er, nrg, al, rk, hjl, eg, gl, g0, ⟨F0, S0⟩, fun g' H6 bt tk eg6 cg => ?_⟩
        have s6 : Same H H6 := fun a o h => bt a o (ne_of_none h hlg) (s5 a o h)
        have gl6 : g'.length = bs.length := cg.len.trans gl
        have gt6 : ∀ F, wsum (dF F) bs g' = wsum (dF F) bs f := fun F => (cg.tot F).trans (gt F)
        have c1 := S0.cost cg.nn
        have c2 := cg.cost
        rw [gt6 F0] at c1
        obtain ⟨u5, hu5⟩ : ∃ u5 : V, u5 = .ref lr := ⟨_, rfl⟩
        refine ⟨_, rfl, _, rfl, lb, lg, bv, bs, g', rfl, s6 _ _ hlb, ba.imp (fun _ _ r => BndV.tk (TK.same s6) r), eg6, gl6, hbl, fun lk kv ks H8 s8 hlk hkk al kp hkl => ?_⟩
        refine gn_norm (σ' := [some (.int (n : Nat)), some (.ref lb), some (.ref lf), some (.ref lg), some (.ref lk), some (.ref lr)]) rfl ?_
        refine ⟨_, rfl, _, rfl, n, lk, kv, _, rfl, hn1, hn, hkk, kpt_bnd al, kp.below hbn, fun t H9 s9 ht tl => ?_⟩
        have sE := ((s6).trans s8).trans s9
        have hlk0 : H lk = none := (s6).free hlk
        have egE := s9 _ _ (s8 _ _ (eg6))
        have alE := al.imp fun _ _ r => KptV.tk (TK.same s9) r
        rcases tl with ⟨lf', F, et, _, _, _, sat, hle, hlow⟩ | ⟨lr2, js, et, hlr, er, hjl, ring, rnd⟩
        · refine ⟨t, _, 1, _, rfl, rfl, .inl (.inl et), atI_nat (j := 1) rfl, ?_⟩
          refine gn_norm (σ' := [some (.int (n : Nat)), some (.ref lb), some (.ref lf), some (.ref lg), some (.ref lk), some .non]) rfl ?_
          exact ⟨_, by omega, ⟨lk, kv, ks, g', .non, rfl, sE, egE, gl6, cg.nn, ⟨gt6, gu.trans cg.up⟩, hlk0, s9 _ _ hkk, alE, kp, hkl, .inl ⟨rfl, F, sat, hle, hlow⟩, rfl⟩⟩
        · refine ⟨t, _, 1, _, rfl, rfl, .inl (.inl et), atI_nat (j := 1) rfl, ?_⟩
          refine gn_norm (σ' := [some (.int (n : Nat)), some (.ref lb), some (.ref lf), some (.ref lg), some (.ref lk), some (.ref lr2)]) rfl ?_
          have nrg : lr2 ≠ lg := fun e => by
            rw [e, s8 _ _ (eg6)] at hlr
            cases hlr
          exact ⟨_, by omega, ⟨lk, kv, ks, g', (.ref lr2), rfl, sE, egE, gl6, cg.nn, ⟨gt6, gu.trans cg.up⟩, hlk0, s9 _ _ hkk, alE, kp, hkl, .inr ⟨lr2, js, rfl, er, nrg, by omega, ⟨ring, rnd, kp⟩⟩, rfl⟩⟩
    · refine ⟨t, _, 1, _, rfl, rfl, .inl (.inl et), atI_nat (j := 1) rfl, ?_⟩
      refine gn_norm (σ' := [some (.int (n : Nat)), some (.ref lb), some (.ref lf), some (.ref lg), some (.ref lk), some (.ref lr)]) rfl ?_
      have nrg : lr ≠ lg := fun e => by
        rw [e, s8 _ _ (e1)] at hlr
        cases hlr
      refine ⟨LfI K H n lb lf lg bs f (wsum (dF F0) bs f), ⟨_, ⟨lk, kv, ks, f, (.ref lr), rfl, sE, egE, hfl, hf0, ⟨fun _ => rfl, UpB.refl _ _⟩, hlk0, s9 _ _ hkk, alE, kp, hkl, .inr ⟨lr, js, rfl, er, nrg, by omega, ⟨ring, rnd, kp⟩⟩, rfl⟩⟩, ?_⟩
      rintro m σ H5 ⟨lk, kv, ks, g, r, rfl, s5, eg, gl, g0, ⟨gt, gu⟩, hlk0, hkk, al, kp, hkl, lr', rfl⟩
      rcases lr' with ⟨rfl, F, sat, hle, hlow⟩ | ⟨lr, js, rfl, er, nrg, hjl, rk⟩
      · refine ⟨_, rfl, rfl, _, rfl, iteF ?_⟩
        refine ⟨_, rfl, _, rfl, (by show 2 ≤ sizeLine; decide), fun tt htt => ?_⟩
        have st := same_new (o := .tup [.ref lg, .ref lk]) htt
        exact q tt lg lk kv ks g F _ (s5.trans st) upd_same (st _ _ eg) (st _ _ hkk) hlk0 (al.imp fun _ _ r => KptV.tk (TK.same st) r) kp hkl gl g0 ⟨gt, gu⟩ sat hle hlow
      · refine ⟨_, rfl, rfl, _, rfl, iteT ?_⟩
        refine ⟨fun σ H6 => ∃ m', m' < (wsum (fun b => b.2.2) bs g - wsum (dF F0) bs f).toNat ∧ LfI K H n lb lf lg bs f (wsum (dF F0) bs f) m' σ H6, fun σ' H' h => h, ?_⟩
        refine ⟨_, rfl, _, rfl, lr, lg, kv, ks, js, bs, g, rfl, er, nrg, al, rk, hjl, eg, gl, g0, ⟨F0, S0⟩, fun g' H6 bt tk eg6 cg => ?_⟩
        have s6 : Same H H6 := fun a o h => bt a o (ne_of_none h hlg) (s5 a o h)
        have gl6 : g'.length = bs.length := cg.len.trans gl
        have gt6 : ∀ F, wsum (dF F) bs g' = wsum (dF F) bs f := fun F => (cg.tot F).trans (gt F)
        have c1 := S0.cost cg.nn
        have c2 := cg.cost
        rw [gt6 F0] at c1
        obtain ⟨u5, hu5⟩ : ∃ u5 : V, u5 = .ref lr := ⟨_, rfl⟩
        refine ⟨_, rfl, _, rfl, lb, lg, bv, bs, g', rfl, s6 _ _ hlb, ba.imp (fun _ _ r => BndV.tk (TK.same s6) r), eg6, gl6, hbl, fun lk kv ks H8 s8 hlk hkk al kp hkl => ?_⟩
        refine gn_norm (σ' := [some (.int (n : Nat)), some (.ref lb), some (.ref lf), some (.ref lg), some (.ref lk), some (.ref lr)]) rfl ?_
        refine ⟨_, rfl, _, rfl, n, lk, kv, _, rfl, hn1, hn, hkk, kpt_bnd al, kp.below hbn, fun t H9 s9 ht tl => ?_⟩
        have sE := ((s6).trans s8).trans s9
        have hlk0 : H lk = none := (s6).free hlk
        have egE := s9 _ _ (s8 _ _ (eg6))
        have alE := al.imp fun _ _ r => KptV.tk (TK.same s9) r
        rcases tl with ⟨lf', F, et, _, _, _, sat, hle, hlow⟩ | ⟨lr2, js, et, hlr, er, hjl, ring, rnd⟩
        · refine ⟨t, _, 1, _, rfl, rfl, .inl (.inl et), atI_nat (j := 1) rfl, ?_⟩
          refine gn_norm (σ' := [some (.int (n : Nat)), some (.ref lb), some (.ref lf), some (.ref lg), some (.ref lk), some .non]) rfl ?_
          exact ⟨_, by omega, ⟨lk, kv, ks, g', .non, rfl, sE, egE, gl6, cg.nn, ⟨gt6, gu.trans cg.up⟩, hlk0, s9 _ _ hkk, alE, kp, hkl, .inl ⟨rfl, F, sat, hle, hlow⟩, rfl⟩⟩
        · refine ⟨t, _, 1, _, rfl, rfl, .inl (.inl et), atI_nat (j := 1) rfl, ?_⟩
          refine gn_norm (σ' := [some (.int (n : Nat)), some (.ref lb), some (.ref lf), some (.ref lg), some (.ref lk), some (.ref lr2)]) rfl ?_
          have nrg : lr2 ≠ lg := fun e => by
            rw [e, s8 _ _ (eg6)] at hlr
            cases hlr
          exact ⟨_, by omega, ⟨lk, kv, ks, g', (.ref lr2), rfl, sE, egE, gl6, cg.nn, ⟨gt6, gu.trans cg.up⟩, hlk0, s9 _ _ hkk, alE, kp, hkl, .inr ⟨lr2, js, rfl, er, nrg, by omega, ⟨ring, rnd, kp⟩⟩, rfl⟩⟩
end
end Lag


set_option maxRecDepth 100000
set_option maxHeartbeats 8000000
namespace Lag
open PySem PySem.Spec PyProof.Rows L2
abbrev sNearLags : Stmt := topS 52 -- @near_lags
/-! ### lags that fit, from -500 to 500 where there are such: the mathematics -/
def limF (n i : Nat) : List Bnd := (List.range i).flatMap fun s => [(s, n, 500), (n, s, 500)]
theorem limF_succ (n i : Nat) : limF n (i + 1) = limF n i ++ [(i, n, 500)] ++ [(n, i, 500)] := by
  unfold limF
  rw [List.range_succ, List.flatMap_append, List.append_assoc]
  rfl
theorem limF_len (n i : Nat) : (limF n i).length = 2 * i := by
  induction i with
  | zero => rfl
  | succ i ih =>
    rw [limF_succ, List.length_append, List.length_append, ih]
    show 2 * i + 1 + 1 = _
    omega
theorem mem_limF {n i : Nat} {b : Bnd} : b ∈ limF n i ↔ ∃ s, s < i ∧ (b = (s, n, 500) ∨ b = (n, s, 500)) := by
  unfold limF
  rw [List.mem_flatMap]
  constructor
  · rintro ⟨s, hs, hb⟩
    refine ⟨s, List.mem_range.mp hs, ?_⟩
    rcases List.mem_cons.mp hb with h | h
    · exact .inl h
    · exact .inr (List.mem_singleton.mp h)
  · rintro ⟨s, hs, hb⟩
    refine ⟨s, List.mem_range.mpr hs, ?_⟩
    rcases hb with h | h
    · rw [h]
      exact List.mem_cons_self ..
    · rw [h]
      exact List.mem_cons_of_mem _ (List.mem_cons_self ..)
theorem sat_ring {bs : List Bnd} {F : Nat → Int} (S : Sat bs F) {js : List Nat} : ¬ RingB bs js := fun ⟨_, v, hp, hr⟩ => by
  have := S.along hp
  omega
theorem sat_app {bs cs : List Bnd} {F : Nat → Int} : Sat (bs ++ cs) F ↔ Sat bs F ∧ Sat cs F :=
  ⟨fun h => ⟨fun b hb => h b (List.mem_append.mpr (.inl hb)), fun b hb => h b (List.mem_append.mpr (.inr hb))⟩, fun h b hb => by
    rcases List.mem_append.mp hb with hb | hb
    · exact h.1 b hb
    · exact h.2 b hb⟩
/-! ### papers: the mathematics -/
abbrev Ent := Pce × Int
def psum (c : Pce → Int) (es : List Ent) : Int := (es.map fun e => c e.1 * e.2).sum
theorem psum_cons (c : Pce → Int) (e : Ent) (r : List Ent) : psum c (e :: r) = c e.1 * e.2 + psum c r := by
  unfold psum
  rw [List.map_cons, List.sum_cons]
theorem psum_snoc (c : Pce → Int) (es : List Ent) (e : Ent) : psum c (es ++ [e]) = psum c es + c e.1 * e.2 := by
  unfold psum
  rw [List.map_append, List.sum_append]
  show _ + (c e.1 * e.2 + 0) = _
  omega
def dl (g x : Nat) : Int := if x = g then 1 else 0
def dlP (ws : List Wr) (g : Nat) (pc : Pce) : Int := dl g pc.1 - dl g (endW ws pc.1 pc.2)
def wdl (F : Nat → Int) (ws : List Wr) : Int := (ws.map fun x => F x.1 - F x.2.1).sum
theorem wdl_cons (F : Nat → Int) (x : Wr) (r : List Wr) : wdl F (x :: r) = F x.1 - F x.2.1 + wdl F r := by
  unfold wdl
  rw [List.map_cons, List.sum_cons]
theorem wdl_snoc (F : Nat → Int) (ws : List Wr) (x : Wr) : wdl F (ws ++ [x]) = wdl F ws + (F x.1 - F x.2.1) := by
  unfold wdl
  rw [List.map_append, List.sum_append]
  show _ + (F x.1 - F x.2.1 + 0) = _
  omega
/-- each gate that is no port has its balance -/
def Bal (gs : List Gt) (ws : List Wr) (es : List Ent) : Prop := ∀ g, g < gs.length → ¬ portK (kindAt gs g) → psum (dlP ws g) es = wdl (dl g) ws
def EntOk (gs : List Gt) (ws : List Wr) (e : Ent) : Prop := PceOk gs ws e.1 ∧ e.1.2.length ≤ 1000 ∧ 1 ≤ e.2
def regsum (ws : List Wr) : Int := (ws.map fun x => ((x.2.2.length : Nat) : Int)).sum
def cntsum (ws : List Wr) (L : Nat → Int) : Int := (ws.map fun x => ((x.2.2.length : Nat) : Int) + L x.2.1 - L x.1).sum
theorem cntsum_eq (ws : List Wr) (L : Nat → Int) : cntsum ws L = regsum ws - wdl L ws := by
  unfold cntsum regsum wdl
  induction ws with
  | nil => rfl
  | cons x r ih =>
    rw [List.map_cons, List.map_cons, List.map_cons, List.sum_cons, List.sum_cons, List.sum_cons, ih]
    omega
theorem getD_add {ms : List Int} {i g : Nat} {d : Int} (h : i < ms.length) : (ms.set i (ms.getD i 0 + d)).getD g 0 = ms.getD g 0 + dl g i * d := by
  rw [fgetD_set h]
  unfold dl
  by_cases e : i = g
  · rw [if_pos e, if_pos e, Int.one_mul, e]
  · rw [if_neg e, if_neg e, Int.zero_mul, Int.add_zero]
def papF (bps : List (Bnd × Pce)) (f : List Int) : List Ent := ((bps.zip f).filter fun p => decide (0 < p.2)).map fun p => (p.1.2, p.2)
theorem papF_snoc {bps : List (Bnd × Pce)} {f : List Int} (h : bps.length = f.length) (bp : Bnd × Pce) (x : Int) : papF (bps ++ [bp]) (f ++ [x]) = papF bps f ++ if 0 < x then [(bp.2, x)] else [] := by
  unfold papF
  rw [List.zip_append h, List.filter_append, List.map_append]
  congr 1
  show ((List.filter _ [(bp, x)]).map _) = _
  by_cases e : 0 < x
  · rw [if_pos e, List.filter_cons_of_pos (by rw [decide_eq_true_iff]; exact e)]
    rfl
  · rw [if_neg e, List.filter_cons_of_neg (by rw [decide_eq_true_iff]; exact e)]
    rfl
theorem papF_mem {bps : List (Bnd × Pce)} {f : List Int} {e : Ent} (h : e ∈ papF bps f) : (∃ bp ∈ bps, e.1 = bp.2) ∧ 1 ≤ e.2 := by
  unfold papF at h
  obtain ⟨p, hp, rfl⟩ := List.mem_map.mp h
  obtain ⟨h1, h2⟩ := List.mem_filter.mp hp
  rw [decide_eq_true_iff] at h2
  exact ⟨⟨p.1, (List.of_mem_zip h1).1, rfl⟩, h2⟩
theorem papF_sum {c : Pce → Int} {c' : Bnd → Int} : ∀ {bps : List (Bnd × Pce)} {f : List Int}, (∀ bp ∈ bps, c bp.2 = c' bp.1) → (∀ x ∈ f, 0 ≤ x) → psum c (papF bps f) = wsum c' (bps.map fun bp => bp.1) f
  | [], f, _, _ => by
    show (0 : Int) = wsum c' [] f
    rw [wsum_nil]
  | bp :: bps, [], _, _ => rfl
  | bp :: bps, x :: f, h1, h2 => by
    have ih := papF_sum (bps := bps) (f := f) (fun y hy => h1 y (List.mem_cons_of_mem _ hy)) (fun y hy => h2 y (List.mem_cons_of_mem _ hy))
    have hx := h2 x (List.mem_cons_self ..)
    show psum c (((bp, x) :: bps.zip f).filter (fun p => decide (0 < p.2)) |>.map fun p => (p.1.2, p.2)) = c' bp.1 * x + wsum c' (bps.map fun bp => bp.1) f
    rw [← h1 bp (List.mem_cons_self ..), ← ih]
    by_cases e : 0 < x
    · rw [List.filter_cons_of_pos (by rw [decide_eq_true_iff]; exact e)]
      rfl
    · rw [List.filter_cons_of_neg (by rw [decide_eq_true_iff]; exact e)]
      have : x = 0 := by omega
      rw [this, Int.mul_zero, Int.zero_add]
      rfl
theorem dl_spot {gs : List Gt} {g x : Nat} (hg : g < gs.length) (hp : ¬ portK (kindAt gs g)) : dl g (spotF gs x) = dl g x := by
  unfold spotF
  by_cases e : portK (kindAt gs x)
  · rw [if_pos e]
    unfold dl
    rw [if_neg (by omega), if_neg fun z => hp (by rw [← z]; exact e)]
  · rw [if_neg e]
/-- the bound of a piece -/
def BpOk (gs : List Gt) (ws : List Wr) (b : Int) (bp : Bnd × Pce) : Prop := bp.1 = (spotF gs bp.2.1, spotF gs (endW ws bp.2.1 bp.2.2), roomF gs ws b bp.2)
theorem BdsOk.bp {gs : List Gt} {ws : List Wr} {b : Int} {bps : List (Bnd × Pce)} (h : BdsOk gs ws b (bps.map fun bp => bp.2) (bps.map fun bp => bp.1)) : ∀ bp ∈ bps, BpOk gs ws b bp := fun bp hbp => by
  obtain ⟨i, hi⟩ := List.getElem?_of_mem hbp
  obtain ⟨e, _, h2, h3⟩ := h.al.2 i bp.2 bp.1 (by rw [List.getElem?_map, hi]; rfl) (by rw [List.getElem?_map, hi]; rfl)
  unfold BpOk
  rw [endW_of h2]
  exact h3
theorem pap_bal {gs : List Gt} {ws : List Wr} {b : Int} {bps : List (Bnd × Pce)} {f : List Int} (h : ∀ bp ∈ bps, BpOk gs ws b bp) (hf : ∀ x ∈ f, 0 ≤ x) (ht : ∀ F, wsum (dF F) (bps.map fun bp => bp.1) f = wdl (fun x => F (spotF gs x)) ws) : Bal gs ws (papF bps f) := fun g hg hp => by
  rw [papF_sum (c' := dF (dl g)) (fun bp hbp => ?_) hf, ht]
  · congr 1
    funext x
    exact dl_spot hg hp
  · rw [h bp hbp]
    show dl g _ - dl g _ = dl g _ - dl g _
    rw [dl_spot hg hp, dl_spot hg hp]
theorem pap_room {gs : List Gt} {ws : List Wr} {b : Int} {bps : List (Bnd × Pce)} {f : List Int} (h : ∀ bp ∈ bps, BpOk gs ws b bp) (hf : ∀ x ∈ f, 0 ≤ x) : psum (roomF gs ws b) (papF bps f) = wsum (fun b => b.2.2) (bps.map fun bp => bp.1) f :=
  papF_sum (fun bp hbp => by rw [h bp hbp]) hf
/-- a paper tells how few there may be -/
theorem pap_le {gs : List Gt} {ws : List Wr} {b : Int} {es : List Ent} {L : Nat → Int} (N : NetOk gs ws) (hb : Bal gs ws es) (ho : ∀ e ∈ es, EntOk gs ws e) (f : Feas gs ws b L) : regsum ws - psum (roomF gs ws b) es ≤ cntsum ws L := by
  have h1 : psum (fun pc => L pc.1 - L (endW ws pc.1 pc.2)) es ≤ psum (roomF gs ws b) es := by
    clear hb
    induction es with
    | nil => exact Int.le_refl 0
    | cons e r ih =>
      have ih := ih fun x hx => ho x (List.mem_cons_of_mem _ hx)
      obtain ⟨⟨k1, m, k2⟩, k3, k4⟩ := ho e (List.mem_cons_self ..)
      have k5 := f.room k1 k2
      have k6 : L e.1.1 - L (endW ws e.1.1 e.1.2) ≤ roomF gs ws b e.1 := by
        rw [endW_of k2]
        have k5 : L e.1.1 ≤ L m + roomF gs ws b e.1 := k5
        omega
      have k7 := Int.mul_le_mul_of_nonneg_right k6 (show 0 ≤ e.2 by omega)
      rw [psum_cons, psum_cons]
      omega
  have key : ∀ (G : Nat → Int) (n : Nat), n ≤ gs.length → (∀ g, g < n → portK (kindAt gs g) → G g = 0) → (∀ g, n ≤ g → G g = 0) → psum (fun pc => G pc.1 - G (endW ws pc.1 pc.2)) es = wdl G ws := by
    intro G n
    induction n generalizing G with
    | zero =>
      intro _ _ h2
      have z : ∀ x, G x = 0 := fun x => h2 x (Nat.zero_le _)
      have a1 : psum (fun pc => G pc.1 - G (endW ws pc.1 pc.2)) es = 0 := by
        clear h1 hb ho
        induction es with
        | nil => rfl
        | cons e r ih =>
          rw [psum_cons, ih, z, z]
          simp
      have gen : ∀ r : List Wr, wdl G r = 0 := fun r => by
        induction r with
        | nil => rfl
        | cons x r ih => rw [wdl_cons, z, z, ih]; rfl
      have a2 := gen ws
      rw [a1, a2]
    | succ n ih =>
      intro hn hp h2
      have ih := ih (fun x => if x = n then 0 else G x) (by omega) (fun g hg hk => by
        show (if g = n then 0 else G g) = 0
        rw [if_neg (by omega)]
        exact hp g (by omega) hk) (fun g hg => by
        show (if g = n then 0 else G g) = 0
        by_cases e : g = n
        · rw [if_pos e]
        · rw [if_neg e]
          exact h2 g (by omega))
      have sp : ∀ x, G x = (if x = n then 0 else G x) + G n * dl n x := fun x => by
        unfold dl
        by_cases e : x = n
        · rw [if_pos e, if_pos e, e]
          omega
        · rw [if_neg e, if_neg e]
          omega
      have gen2 : ∀ r : List Ent, psum (fun pc => G pc.1 - G (endW ws pc.1 pc.2)) r = psum (fun pc => (if pc.1 = n then 0 else G pc.1) - (if endW ws pc.1 pc.2 = n then 0 else G (endW ws pc.1 pc.2))) r + G n * psum (dlP ws n) r := fun r => by
        induction r with
        | nil =>
          show (0 : Int) = 0 + G n * 0
          omega
        | cons e r ih2 =>
          rw [psum_cons, psum_cons, psum_cons, ih2]
          have a := sp e.1.1
          have b' := sp (endW ws e.1.1 e.1.2)
          generalize (if e.1.1 = n then (0 : Int) else G e.1.1) = u at a ⊢
          generalize (if endW ws e.1.1 e.1.2 = n then (0 : Int) else G (endW ws e.1.1 e.1.2)) = v at b' ⊢
          unfold dlP
          rw [a, b', Int.mul_add, ← Int.mul_assoc, Int.mul_sub, show u + G n * dl n e.1.1 - (v + G n * dl n (endW ws e.1.1 e.1.2)) = (u - v) + (G n * dl n e.1.1 - G n * dl n (endW ws e.1.1 e.1.2)) by omega, Int.add_mul]
          omega
      have a1 := gen2 es
      have gen : ∀ r : List Wr, wdl G r = wdl (fun x => if x = n then 0 else G x) r + G n * wdl (dl n) r := fun r => by
        induction r with
        | nil =>
          show (0 : Int) = 0 + G n * 0
          omega
        | cons x r ih3 =>
          rw [wdl_cons, wdl_cons, wdl_cons, ih3]
          have a := sp x.1
          have b' := sp x.2.1
          generalize (if x.1 = n then (0 : Int) else G x.1) = u at a ⊢
          generalize (if x.2.1 = n then (0 : Int) else G x.2.1) = v at b' ⊢
          rw [a, b', Int.mul_add, Int.mul_sub]
          omega
      have a2 := gen ws
      rw [a1, a2, ih]
      by_cases hk : portK (kindAt gs n)
      · rw [hp n (Nat.lt_succ_self _) hk, Int.zero_mul, Int.zero_mul]
      · rw [hb n (by omega) hk]
  have h2 := key (fun x => if x < gs.length then L x else 0) gs.length (Nat.le_refl _) (fun g hg hk => by
    show (if g < gs.length then L g else 0) = 0
    rw [if_pos hg]
    exact f.out g hg hk) (fun g hg => by
    show (if g < gs.length then L g else 0) = 0
    rw [if_neg (by omega)])
  have h3 : wdl (fun x => if x < gs.length then L x else 0) ws = wdl L ws := by
    unfold wdl
    refine congrArg List.sum (List.map_congr_left fun x hx => ?_)
    have WX := N.wok x hx
    show (if x.1 < gs.length then L x.1 else 0) - (if x.2.1 < gs.length then L x.2.1 else 0) = _
    rw [if_pos WX.s, if_pos WX.e]
  have h4 : psum (fun pc => (if pc.1 < gs.length then L pc.1 else 0) - (if endW ws pc.1 pc.2 < gs.length then L (endW ws pc.1 pc.2) else 0)) es = psum (fun pc => L pc.1 - L (endW ws pc.1 pc.2)) es := by
    unfold psum
    refine congrArg List.sum (List.map_congr_left fun e he => ?_)
    obtain ⟨⟨k1, m, k2⟩, _⟩ := ho e he
    have k3 := k2.lt N k1
    dsimp only
    rw [endW_of k2, if_pos k1, if_pos k3]
  rw [cntsum_eq, ← h3, ← h2, h4]
  omega
def spNearLags (K : PySem.W.Frag) (C : Addr) : Sp := fun vs H Q _ => ∃ (p ng nw lk : Addr) (n : Nat) (gs : List Gt) (ws : List Wr) (kv : List V) (ks : List Bnd) (F : Nat → Int), vs = [.ref p, .int ((n : Nat) : Int), .ref lk] ∧ gs.length + 1 ≤ n ∧ n ≤ 1000 ∧ NetAt K C H p ng nw gs ws ∧ NetOk gs ws ∧ H lk = some (.lst kv) ∧ All2 (BndV K H) kv ks ∧ (∀ b ∈ ks, b.1 < n ∧ b.2.1 < n) ∧ ks.length ≤ 22000 ∧ Sat ks F ∧
  ∀ l (G : Nat → Int) H', Same H H' → H l = none → H' l = some (.lst ((lagsL gs (lagsAt gs G)).map V.int)) → Sat ks G → ((∀ v, v < gs.length → F v - F gs.length ≤ 500 ∧ -500 ≤ F v - F gs.length) → ∀ g, g < gs.length → -500 ≤ lagsAt gs G g ∧ lagsAt gs G g ≤ 500) → Q (.ref l) H'
section
variable {P : Program} {w : World} {K : PySem.W.Frag} {mg : Str → Option Value} {base : Heap}
abbrev nNearLags : List Str := ["net", "many", "bounds", "outer", "limits", "spot", "found", "ring"]
theorem scNearLags : FnScope nNearLags ["net", "many", "bounds"] (defScope sNearLags) := ⟨rfl, rfl, rfl, by decide +kernel, rfl, by decide +kernel, by decide +kernel⟩
abbrev DNearLags (P : Program) (w : World) (K : PySem.W.Frag) (mg : Str → Option Value) (base : Heap) (C : Addr) := Df P w K mg base 4 "near_lags" ["net", "many", "bounds"] (spNearLags K C)
theorem ok_nearLags {f fS fL C : Addr} {fd fdS fdL : FuncData} (F : Fun K "near_lags" "near_lags" sNearLags f fd) (hm : mg "near_lags" = some (.ref f)) (B : Bt mg) (T : NT K mg C) (gl : ∃ t, mg "GREATEST_LAG" = some (.int 500 t)) (DSe : DSettle P w K mg base fS fdS) (DLa : DLagsAt P w K mg base C fL fdL) : DNearLags P w K mg base C f fd := by
  refine ⟨?_, hm, F.kp, F.binds fun _ _ _ _ _ _ us hl => match us, hl with | [_, _, _], _ => rfl⟩
  refine F.ok scNearLags (fun vs H Q E h => ?_) (fun cdv A outer s H vs Q E hr h => ?_)
  · obtain ⟨p, ng, nw, lk, n, gs, ws, kv, ks, F0, rfl, _⟩ := h
    rfl
  · obtain ⟨p, ng, nw, lk, n, gs, ws, kv, ks, F0, rfl, hn1, hn2, NA, N, hlk, al, hbn, hkl, S0, q⟩ := h
    have nd := scNearLags.nd
    obtain ⟨tg, hgl⟩ := gl
    refine ⟨_, pss_cons (ps_set (i := 3) nd rfl (.inl rfl) (pe_callB call_len_seq (by rfl) B.len PySem.boot_len (pa_cons (pe_fld (pv 0) rfl) pa_nil))) <|
        pss_cons (ps_set (i := 4) nd rfl (.inl rfl) (pe_lst pa_nil)) <|
        pss_cons (ps_for PassesOwn.never rfl (pi_range1 (by rfl) B.range (pa_cons (pv 3) pa_nil)) (pg_name (i := 5) nd rfl (.inl rfl)) (pss_cons (ps_expr (pe_bm PySem.F.plainAttrs_list PySem.F.slot_list_append PySem.F.type_list_append mt_append (pv 4) (pa_cons (pe_tup (pa_cons (pv 5) (pa_cons (pv 3) (pa_cons (pe_glob (v := .int 500) (by rfl) hgl ⟨_, rfl⟩) (pa_cons pe_non pa_nil))))) pa_nil))) <|
        pss_one (ps_expr (pe_bm PySem.F.plainAttrs_list PySem.F.slot_list_append PySem.F.type_list_append mt_append (pv 4) (pa_cons (pe_tup (pa_cons (pv 3) (pa_cons (pv 5) (pa_cons (pe_glob (v := .int 500) (by rfl) hgl ⟨_, rfl⟩) (pa_cons pe_non pa_nil))))) pa_nil))))) <|
        pss_cons (ps_asg (pe_call DSe.ok (hr.mono (by decide)) (by rfl) DSe.mg DSe.kp DSe.bd .nil pass0 (pa_cons (pv 1) (pa_cons (pe_op op_cat (pv 2) (pv 4)) pa_nil))) (pg_tup rfl (pgs_cons (pg_name (i := 6) nd rfl (.inl rfl)) (pgs_cons (pg_name (i := 7) nd rfl (.inl rfl)) pgs_nil)))) <|
        Evl.pss_cut (ps_if (pt_cmpR op_isN (pv 6) pe_non (nomark _)) (pss_one (ps_asg (pe_call DSe.ok (hr.mono (by decide)) (by rfl) DSe.mg DSe.kp DSe.bd .nil pass0 (pa_cons (pv 1) (pa_cons (pv 2) pa_nil))) (pg_tup rfl (pgs_cons (pg_name (i := 6) nd rfl (.inl rfl)) (pgs_cons (pg_name (i := 7) nd rfl (.inl rfl)) pgs_nil))))) pss_nil) <|
        pss_one (ps_ret (pe_call DLa.ok (hr.mono (by decide)) (by rfl) DLa.mg DLa.kp DLa.bd .nil pass0 (pa_cons (pv 0) (pa_cons (pv 6) pa_nil)))), ?_⟩
    obtain ⟨dx, ob⟩ := id NA.ob
    obtain ⟨gv, hgv, ga⟩ := id NA.g
    have hlg : gv.length = gs.length := ga.1
    have hgl1 := N.gl
    refine ⟨_, rfl, p, C, dx, _, _, rfl, ob, T.cl, T.nG, nf_gates _ _, ng, gv, rfl, .inl (SqL.of hgv), ?_⟩
    rw [hlg]
    refine gn_norm (σ' := [some (.ref p), some (.int ((n : Nat) : Int)), some (.ref lk), some (.int ((gs.length : Nat) : Int)), none, none, none, none]) rfl ?_
    refine ⟨(by show 0 ≤ sizeLine; decide), fun ll hll => ?_⟩
    have s1 : Same H (upd H ll (.lst [])) := same_new hll
    have e1 : (upd H ll (.lst [])) ll = some (.lst []) := upd_same
    obtain ⟨H1, hH1⟩ : ∃ H1, H1 = upd H ll (.lst []) := ⟨_, rfl⟩
    rw [← hH1] at s1 e1
    refine gn_normH (σ' := [some (.ref p), some (.int ((n : Nat) : Int)), some (.ref lk), some (.int ((gs.length : Nat) : Int)), some (.ref ll), none, none, none]) (H' := H1) rfl hH1.symm ?_
    refine ⟨_, rfl, _, rfl, by omega, by omega, for_range (lo := 0) (n := ((gs.length : Nat) : Int).toNat) (fun i σ H' => ∃ (u5 : Option V) (lv : List V), σ = [some (.ref p), some (.int ((n : Nat) : Int)), some (.ref lk), some (.int ((gs.length : Nat) : Int)), some (.ref ll), u5, none, none] ∧ H' ll = some (.lst lv) ∧ All2 (BndV K H') lv (limF gs.length i) ∧ Same H H')
      ⟨_, [], rfl, e1, .nil, s1⟩ ?_ ?_⟩
    · rintro i σ H2 hi ⟨u5, lv, rfl, hl2, la, sm⟩
      have ei : (0 : Int) + ((i : Nat) : Int) = ((i : Nat) : Int) := Int.zero_add _
      rw [ei]
      have hlv : lv.length = 2 * i := by rw [la.1, limF_len]
      refine gn_norm (σ' := [some (.ref p), some (.int ((n : Nat) : Int)), some (.ref lk), some (.int ((gs.length : Nat) : Int)), some (.ref ll), some (.int ((i : Nat) : Int)), none, none]) rfl ?_
      refine ⟨_, rfl, .inl ⟨rfl, _, SqL.of hl2⟩, _, rfl, _, rfl, (by show 4 ≤ sizeLine; decide), fun t1 ht1 => ?_⟩
      have st1 := same_new (o := .tup [.int ((i : Nat) : Int), .int ((gs.length : Nat) : Int), .int 500, .non]) ht1
      have et1 : (upd H2 t1 (.tup [.int ((i : Nat) : Int), .int ((gs.length : Nat) : Int), .int 500, .non])) t1 = some (.tup [.int ((i : Nat) : Int), .int ((gs.length : Nat) : Int), .int 500, .non]) := upd_same
      generalize upd H2 t1 (.tup [.int ((i : Nat) : Int), .int ((gs.length : Nat) : Int), .int 500, .non]) = H3 at st1 et1
      refine ⟨ll, _, _, rfl, rfl, st1 _ _ hl2, small1000 (by omega), ?_⟩
      have la3 : All2 (BndV K (upd H3 ll (.lst (lv ++ [.ref t1])))) (lv ++ [.ref t1]) (limF gs.length i ++ [(i, gs.length, 500)]) := All2.snoc (la.imp fun _ _ r => (BndV.tk (TK.same st1) r).tk (TK.lst (st1 _ _ hl2))) ((show BndV K H3 (.ref t1) (i, gs.length, 500) from ⟨t1, _, rfl, .inl (.inl et1)⟩).tk (TK.lst (st1 _ _ hl2)))
      have sm3 : Same H (upd H3 ll (.lst (lv ++ [.ref t1]))) := same_mut (sm.trans st1) hll
      have hl3 : (upd H3 ll (.lst (lv ++ [.ref t1]))) ll = some (.lst (lv ++ [.ref t1])) := upd_same
      generalize upd H3 ll (.lst (lv ++ [.ref t1])) = H4 at la3 sm3 hl3
      refine ⟨_, rfl, .inl ⟨rfl, _, SqL.of hl3⟩, _, rfl, _, rfl, (by show 4 ≤ sizeLine; decide), fun t2 ht2 => ?_⟩
      have st2 := same_new (o := .tup [.int ((gs.length : Nat) : Int), .int ((i : Nat) : Int), .int 500, .non]) ht2
      have et2 : (upd H4 t2 (.tup [.int ((gs.length : Nat) : Int), .int ((i : Nat) : Int), .int 500, .non])) t2 = some (.tup [.int ((gs.length : Nat) : Int), .int ((i : Nat) : Int), .int 500, .non]) := upd_same
      generalize upd H4 t2 (.tup [.int ((gs.length : Nat) : Int), .int ((i : Nat) : Int), .int 500, .non]) = H5 at st2 et2
      refine ⟨ll, _, _, rfl, rfl, st2 _ _ hl3, small1000 (by rw [List.length_append]; show _ + 1 ≤ _; omega), ?_⟩
      refine ⟨_, lv ++ [.ref t1] ++ [.ref t2], rfl, upd_same, ?_, same_mut (sm3.trans st2) hll⟩
      rw [limF_succ]
      exact All2.snoc (la3.imp fun _ _ r => (BndV.tk (TK.same st2) r).tk (TK.lst (st2 _ _ hl3))) ((show BndV K H5 (.ref t2) (gs.length, i, 500) from ⟨t2, _, rfl, .inl (.inl et2)⟩).tk (TK.lst (st2 _ _ hl3)))
    rintro σ H2 ⟨u5, lv, rfl, hl2, la, sm⟩
    rw [Int.toNat_natCast] at la
    have hkv : kv.length = ks.length := al.1
    have hlv : lv.length = 2 * gs.length := by rw [la.1, limF_len]
    refine ⟨_, rfl, _, rfl, _, rfl, lk, ll, _, _, rfl, rfl, sm _ _ hlk, hl2, ?_, fun l3 hl3 => ?_⟩
    · exact Nat.le_of_lt (Nat.lt_of_le_of_lt (show kv.length + lv.length ≤ 23000 by omega) (by decide))
    have s3 : Same H2 (upd H2 l3 (.lst (kv ++ lv))) := same_new hl3
    have e3 : (upd H2 l3 (.lst (kv ++ lv))) l3 = some (.lst (kv ++ lv)) := upd_same
    generalize upd H2 l3 (.lst (kv ++ lv)) = H3 at s3 e3
    have sm3 := sm.trans s3
    have al3 : All2 (BndV K H3) (kv ++ lv) (ks ++ limF gs.length gs.length) := all2_app' (al.imp fun _ _ r => BndV.tk (TK.same sm3) r) (la.imp fun _ _ r => BndV.tk (TK.same s3) r)
    refine ⟨n, l3, _, _, rfl, by omega, by omega, e3, al3, fun b hb => ?_, fun t H4 s4 ht tl => ?_⟩
    · rcases List.mem_append.mp hb with hb | hb
      · exact hbn b hb
      · obtain ⟨s, hs, h⟩ := mem_limF.mp hb
        rcases h with rfl | rfl
        · exact ⟨show s < _ by omega, show gs.length < _ by omega⟩
        · exact ⟨show gs.length < _ by omega, show s < _ by omega⟩
    have sm4 := sm3.trans s4
    -- the numbers, or none
    have hfin : ∀ (lf : Addr) (F : List Int) (u7 : Option V) (H5 : Hp) (D : Ends), Same H H5 → H5 lf = some (.lst (F.map V.int)) → F.length = n → True := fun _ _ _ _ _ _ _ _ => trivial
    rcases tl with ⟨lf, F, et, _, ef, hfl, sat, _, _⟩ | ⟨lr, js, et, _, er, hjl, ring, _⟩
    · refine ⟨t, _, rfl, .inl (.inl et), rfl, _, _, rfl, _, _, rfl, rfl, ?_⟩
      refine gn_norm (σ' := [some (.ref p), some (.int ((n : Nat) : Int)), some (.ref lk), some (.int ((gs.length : Nat) : Int)), some (.ref ll), u5, some (.ref lf), some .non]) rfl ?_
      refine ⟨fun σ H' => σ = [some (.ref p), some (.int ((n : Nat) : Int)), some (.ref lk), some (.int ((gs.length : Nat) : Int)), some (.ref ll), u5, some (.ref lf), some .non] ∧ H' = H4, ⟨_, rfl, rfl, _, rfl, iteF ⟨rfl, rfl⟩⟩, ?_⟩
      rintro σ H5 ⟨rfl, rfl⟩
      obtain ⟨sk, sl⟩ := sat_app.mp sat
      refine ⟨_, rfl, _, rfl, p, ng, nw, lf, gs, ws, F, rfl, NA.same sm4, N, SqL.of ef, by omega, fun l H6 s6 hl el => ?_⟩
      refine q l (fun v => F.getD v 0) H6 (sm4.trans s6) (sm4.free hl) el sk fun _ g hg => ?_
      unfold lagsAt
      have h1 := spot_le (gs := gs) g hg
      by_cases e : spotF gs g = gs.length
      · rw [e]
        omega
      · have a1 := sl _ (mem_limF.mpr ⟨spotF gs g, by omega, .inl rfl⟩)
        have a2 := sl _ (mem_limF.mpr ⟨spotF gs g, by omega, .inr rfl⟩)
        have a1 : F.getD (spotF gs g) 0 ≤ F.getD gs.length 0 + 500 := a1
        have a2 : F.getD gs.length 0 ≤ F.getD (spotF gs g) 0 + 500 := a2
        show -500 ≤ F.getD (spotF gs g) 0 - F.getD gs.length 0 ∧ F.getD (spotF gs g) 0 - F.getD gs.length 0 ≤ 500
        omega
    · refine ⟨t, _, rfl, .inl (.inl et), rfl, _, _, rfl, _, _, rfl, rfl, ?_⟩
      refine gn_norm (σ' := [some (.ref p), some (.int ((n : Nat) : Int)), some (.ref lk), some (.int ((gs.length : Nat) : Int)), some (.ref ll), u5, some .non, some (.ref lr)]) rfl ?_
      refine ⟨fun σ H' => ∃ (lf : Addr) (F : List Int) (u7 : Option V), σ = [some (.ref p), some (.int ((n : Nat) : Int)), some (.ref lk), some (.int ((gs.length : Nat) : Int)), some (.ref ll), u5, some (.ref lf), u7] ∧ Same H H' ∧ H' lf = some (.lst (F.map V.int)) ∧ F.length = n ∧ Sat ks (fun v => F.getD v 0), ?_, ?_⟩
      · refine ⟨_, rfl, rfl, _, rfl, iteT ?_⟩
        refine ⟨_, rfl, _, rfl, n, lk, kv, ks, rfl, by omega, by omega, sm4 _ _ hlk, al.imp fun _ _ r => BndV.tk (TK.same sm4) r, hbn, fun t2 H5 s5 ht2 tl2 => ?_⟩
        rcases tl2 with ⟨lf, F, et2, _, ef, hfl, sat, _, _⟩ | ⟨_, _, _, _, _, _, ring2, _⟩
        · refine ⟨t2, _, rfl, .inl (.inl et2), rfl, _, _, rfl, _, _, rfl, rfl, ?_⟩
          exact ⟨lf, F, _, rfl, sm4.trans s5, ef, hfl, sat⟩
        · exact absurd ring2 (sat_ring S0)
      rintro σ H5 ⟨lf, F, u7, rfl, s5, ef, hfl, sat⟩
      refine ⟨_, rfl, _, rfl, p, ng, nw, lf, gs, ws, F, rfl, NA.same s5, N, SqL.of ef, by omega, fun l H6 s6 hl el => ?_⟩
      refine q l (fun v => F.getD v 0) H6 (s5.trans s6) (s5.free hl) el sat fun hF => ?_
      have S1 : Sat (ks ++ limF gs.length gs.length) F0 := sat_app.mpr ⟨S0, fun b hb => by
        obtain ⟨s, hs, h⟩ := mem_limF.mp hb
        have := hF s hs
        rcases h with rfl | rfl
        · show F0 s ≤ F0 gs.length + 500
          omega
        · show F0 gs.length ≤ F0 s + 500
          omega⟩
      exact absurd ring (sat_ring S1)
end
end Lag


set_option maxRecDepth 100000
set_option maxHeartbeats 8000000
namespace Lag
open PySem PySem.Spec PyProof.Rows L2
abbrev sRegisters : Stmt := topS 42 -- @registers
abbrev sPlainFlow : Stmt := topS 65 -- @plain_flow
abbrev sPaperOf : Stmt := topS 66 -- @paper_of
abbrev sRoomIn : Stmt := topS 64 -- @room_in
abbrev sNumPiece : Stmt := topS 62 -- @is_numbered_piece
abbrev sIsPaper : Stmt := topS 61 -- @is_paper
abbrev sGateFault : Stmt := topS 63 -- @gate_fault
abbrev sPaperFault : Stmt := topS 68 -- @paper_fault
abbrev sBoundOf : Stmt := topS 69 -- @bound_of
abbrev sLetBounds : Stmt := topS 71 -- @let_bounds
abbrev sFewest : Stmt := topS 70 -- @fewest
theorem hu65_of {k : Nat} {A : Around} (r : Room k A) : A.units + 65 < cLine := by have := r.un; omega
theorem prg_leF {gs : List Gt} {ws : List Wr} (N : NetOk gs ws) : ∀ {ps : List Nat} {s e : Nat}, Pw ws s ps e → prg ws ps ≤ 100 * (ps.length : Int)
  | [], _, _, _ => Int.le_refl 0
  | p :: r, s, e, ⟨x, hx, hs, h3⟩ => by
    have h1 := prg_leF N h3
    have h2 := (N.wok x (List.mem_of_getElem? hx)).rl
    rw [prg_cons hx, List.length_cons]
    omega
theorem room_bd {gs : List Gt} {ws : List Wr} {b : Int} {pc : Pce} (N : NetOk gs ws) (h : PceOk gs ws pc) (hl : pc.2.length ≤ 1000) : -1 ≤ roomF gs ws b pc ∧ roomF gs ws b pc ≤ 100000 := by
  obtain ⟨_, e, hp⟩ := h
  have h1 := prg_leF N hp
  have h2 := prg_nn ws pc.2
  unfold roomF
  split <;> omega
theorem first_ix {α : Type} [DecidableEq α] : ∀ {l : List α} {x : α}, x ∈ l → ∃ j : Nat, l[j]? = some x ∧ ∀ (m : Nat) (z : α), m < j → l[m]? = some z → z ≠ x
  | y :: r, x, h => by
    by_cases e : y = x
    · exact ⟨0, by rw [e]; rfl, fun m z hm => absurd hm (Nat.not_lt_zero _)⟩
    · rcases List.mem_cons.mp h with h | h
      · exact absurd h.symm e
      · obtain ⟨j, h1, h2⟩ := first_ix h
        refine ⟨j + 1, h1, fun m z hm hz => ?_⟩
        cases m with
        | zero =>
          cases hz
          exact e
        | succ m => exact h2 m z (by omega) hz
def natsD (e : Nat × Nat) : PyData := .tuple [.int ((e.1 : Nat) : Int), .int ((e.2 : Nat) : Int)]
theorem natsD_eq (a b : Nat × Nat) : PyData.eqv (natsD a) (natsD b) = decide (a = b) := by
  show ((((a.1 : Nat) : Int) == ((b.1 : Nat) : Int)) && ((((a.2 : Nat) : Int) == ((b.2 : Nat) : Int)) && true)) = _
  rw [Bool.eq_iff_iff]
  simp only [Bool.and_eq_true, beq_iff_eq, decide_eq_true_eq, and_true]
  constructor
  · rintro ⟨h1, h2⟩
    exact Prod.ext (by omega) (by omega)
  · rintro rfl
    exact ⟨rfl, rfl⟩
theorem sh_nats {k : Nat} (e : Nat × Nat) : Sh (k + 1) (natsD e) := sh_tuple fun d hd => by
  rcases List.mem_cons.mp hd with rfl | hd
  · exact sh_int _
  · rw [List.mem_singleton.mp hd]
    exact sh_int _
theorem dp_natsV {K : PySem.W.Frag} {H : Hp} {v : V} {e : Nat × Nat} (h : NatsV K H v e) : Dp K H v (natsD e) := by
  obtain ⟨a, rfl, s⟩ := h
  exact .tup s (.cons (.int _) (.cons (.int _) .nil))
theorem dpall_nats {K : PySem.W.Frag} {H : Hp} : ∀ {vs : List V} {es : List (Nat × Nat)}, All2 (NatsV K H) vs es → DpAll K H vs (es.map natsD)
  | [], [], _ => .nil
  | [], _ :: _, h => by have := h.1; cases this
  | _ :: _, [], h => by have := h.1; cases this
  | v :: vs, e :: es, h => .cons (dp_natsV h.head) (dpall_nats h.tail)
def EntV (K : PySem.W.Frag) (H : Hp) (v : V) (e : Ent) : Prop := ∃ a p, v = .ref a ∧ SqT K H a [p, .int e.2] ∧ PceV K H p e.1
theorem EntV.same {K : PySem.W.Frag} {H H' : Hp} {v : V} {e : Ent} (s : Same H H') (h : EntV K H v e) : EntV K H' v e := by
  obtain ⟨a, p, e', h1, h2⟩ := h
  exact ⟨a, p, e', (TK.same s).seq h1, h2.same s⟩
/-- an entry whose list is none of Z -/
def EntZ (K : PySem.W.Frag) (Z : Addr → Prop) (H : Hp) (v : V) (e : Ent) : Prop := ∃ a t l, v = .ref a ∧ SqT K H a [.ref t, .int e.2] ∧ SqT K H t [.int ((e.1.1 : Nat) : Int), .ref l] ∧ H l = some (.lst (nvs e.1.2)) ∧ ¬ Z l
theorem EntZ.ent {K : PySem.W.Frag} {Z : Addr → Prop} {H : Hp} {v : V} {e : Ent} (h : EntZ K Z H v e) : EntV K H v e := by
  obtain ⟨a, t, l, h1, h2, h3, h4, _⟩ := h
  exact ⟨a, .ref t, h1, h2, t, l, rfl, h3, SqL.of h4⟩
theorem EntZ.same {K : PySem.W.Frag} {Z : Addr → Prop} {H H' : Hp} {v : V} {e : Ent} (s : Same H H') (h : EntZ K Z H v e) : EntZ K Z H' v e := by
  obtain ⟨a, t, l, h1, h2, h3, h4, h5⟩ := h
  exact ⟨a, t, l, h1, (TK.same s).seq h2, (TK.same s).seq h3, s _ _ h4, h5⟩
theorem EntZ.weak {K : PySem.W.Frag} {Z Z' : Addr → Prop} {H : Hp} {v : V} {e : Ent} (z : ∀ l, Z' l → Z l) (h : EntZ K Z H v e) : EntZ K Z' H v e := by
  obtain ⟨a, t, l, h1, h2, h3, h4, h5⟩ := h
  exact ⟨a, t, l, h1, h2, h3, h4, fun k => h5 (z l k)⟩
theorem BpV.pce {K : PySem.W.Frag} {Z : Addr → Prop} {H : Hp} {lb : Addr} {v : V} {bp : Bnd × Pce} (h : BpV K Z H lb v bp) : ∃ a pa, v = .ref a ∧ SqT K H a [.int ((bp.1.1 : Nat) : Int), .int ((bp.1.2.1 : Nat) : Int), .int bp.1.2.2, pa] ∧ PceV K H pa bp.2 := by
  obtain ⟨a, pa, l, e, h1, h2, h3, _⟩ := h
  exact ⟨a, .ref pa, e, h1, pa, l, rfl, h2, SqL.of h3⟩
theorem bpv_bnd {K : PySem.W.Frag} {Z : Addr → Prop} {H : Hp} {lb : Addr} {bv : List V} {bps : List (Bnd × Pce)} (h : All2 (BpV K Z H lb) bv bps) : All2 (BndV K H) bv (bps.map fun bp => bp.1) := by
  refine ⟨by rw [List.length_map]; exact h.1, fun i v bd hv hbd => ?_⟩
  rw [List.getElem?_map] at hbd
  cases e : bps[i]? with
  | none => rw [e] at hbd; cases hbd
  | some bp =>
    rw [e] at hbd
    cases hbd
    obtain ⟨a, pa, e1, e2, _⟩ := (h.2 i v bp hv e).pce
    exact ⟨a, pa, e1, e2⟩
theorem range_all2 (ws : List Wr) : All2 (fun (p : Nat) (x : Wr) => ws[p]? = some x) (List.range ws.length) ws := by
  refine ⟨List.length_range, fun i p x hp hx => ?_⟩
  have hi : i < ws.length := (List.getElem?_eq_some_iff.mp hx).1
  rw [List.getElem?_range hi] at hp
  cases hp
  exact hx
theorem plain_step {gs : List Gt} {ws us : List Wr} {b : Int} {bps : List (Bnd × Pce)} {f : List Int} {i j : Nat} {x : Wr} {bp : Bnd × Pce} (hx : us[i]? = some x) (hj : bps[j]? = some bp) (ho : BpOk gs ws b bp) (he : endsF ws bp.2 = (x.1, x.2.1)) (hl : f.length = bps.length)
    (ht : ∀ F, wsum (dF F) (bps.map fun bp => bp.1) f = wdl (fun x => F (spotF gs x)) (us.take i)) : ∀ F, wsum (dF F) (bps.map fun bp => bp.1) (f.set j (f.getD j 0 + 1)) = wdl (fun x => F (spotF gs x)) (us.take (i + 1)) := fun F => by
  have hjl : j < f.length := by rw [hl]; exact (List.getElem?_eq_some_iff.mp hj).1
  have hf : f[j]? = some (f.getD j 0) := by rw [List.getD_eq_getElem?_getD, List.getElem?_eq_getElem hjl]; rfl
  have e1 : bp.2.1 = x.1 := congrArg Prod.fst he
  have e2 : endW ws bp.2.1 bp.2.2 = x.2.1 := congrArg Prod.snd he
  rw [wsum_add (dF F) (b := bp.1) (by rw [List.getElem?_map, hj]; rfl) hf, ht F, List.take_add_one, hx, Int.mul_one]
  show _ = wdl _ (us.take i ++ [x])
  rw [wdl_snoc, ho]
  show _ + (F (spotF gs bp.2.1) - F (spotF gs (endW ws bp.2.1 bp.2.2))) = _
  rw [e2, e1]
theorem wsum_zero (c : Bnd → Int) : ∀ (bs : List Bnd) (n : Nat), wsum c bs (List.replicate n 0) = 0
  | [], n => wsum_nil c _
  | b :: bs, 0 => rfl
  | b :: bs, n + 1 => by
    rw [List.replicate_succ]
    show c b * 0 + wsum c bs (List.replicate n 0) = 0
    rw [wsum_zero c bs n, Int.mul_zero]
    rfl
theorem rep0 (n : Nat) : (List.replicate n [V.int 0]).flatten = (List.replicate n (0 : Int)).map V.int := by
  rw [List.map_replicate]
  exact List.flatten_replicate_singleton
def spRegisters (K : PySem.W.Frag) (C : Addr) : Sp := fun vs H Q _ => ∃ (p ng nw : Addr) (gs : List Gt) (ws : List Wr), vs = [.ref p] ∧ NetAt K C H p ng nw gs ws ∧ NetOk gs ws ∧ ∀ H', Same H H' → Q (.int (regsum ws)) H'
def spPlainFlow (K : PySem.W.Frag) (C : Addr) : Sp := fun vs H Q _ => ∃ (p ng nw lb lq : Addr) (qs : List Nat) (gs : List Gt) (ws us : List Wr) (b : Int) (bv : List V) (bps : List (Bnd × Pce)), vs = [.ref p, .ref lb, .ref lq] ∧ NetAt K C H p ng nw gs ws ∧ NetOk gs ws ∧ H lb = some (.lst bv) ∧ (∃ Z, All2 (BpV K Z H lb) bv bps) ∧ BdsOk gs ws b (bps.map fun bp => bp.2) (bps.map fun bp => bp.1) ∧ bps.length ≤ 11000 ∧ (∀ bp ∈ bps, PceOk gs ws bp.2 ∧ bp.2.2.length ≤ 1000) ∧ All2 (fun (p : Nat) (x : Wr) => ws[p]? = some x) qs us ∧ SqL K H lq (nvs qs) ∧
  ∀ l f H', Same H H' → H l = none → H' l = some (.lst (f.map V.int)) → f.length = bps.length → (∀ x ∈ f, 0 ≤ x ∧ x ≤ (us.length : Int)) → (∀ F, wsum (dF F) (bps.map fun bp => bp.1) f = wdl (fun x => F (spotF gs x)) us) → Q (.ref l) H'
def spPaperOf (K : PySem.W.Frag) : Sp := fun vs H Q _ => ∃ (lb lf lt : Addr) (bv : List V) (bps : List (Bnd × Pce)) (f : List Int) (Z : Addr → Prop), vs = [.ref lb, .ref lf] ∧ H lb = some (.lst bv) ∧ All2 (BpV K Z H lt) bv bps ∧ SqL K H lf (f.map V.int) ∧ f.length = bps.length ∧ bps.length ≤ 11000 ∧
  ∀ l ev H', Same H H' → H l = none → H' l = some (.lst ev) → All2 (EntZ K Z H') ev (papF bps f) → Q (.ref l) H'
def spRoomIn (K : PySem.W.Frag) (C : Addr) : Sp := fun vs H Q _ => ∃ (p ng nw lp : Addr) (gs : List Gt) (ws : List Wr) (b : Int) (ev : List V) (es : List Ent), vs = [.ref p, .int b, .ref lp] ∧ NetAt K C H p ng nw gs ws ∧ NetOk gs ws ∧ SqL K H lp ev ∧ All2 (EntV K H) ev es ∧ (∀ e ∈ es, EntOk gs ws e) ∧ es.length ≤ 11000 ∧ ∀ H', Same H H' → Q (.int (psum (roomF gs ws b) es)) H'
def spNumPiece (K : PySem.W.Frag) (C : Addr) : Sp := fun vs H Q _ => ∃ (p ng nw : Addr) (gs : List Gt) (ws : List Wr) (v : V) (e : Ent), vs = [.ref p, v] ∧ NetAt K C H p ng nw gs ws ∧ NetOk gs ws ∧ EntV K H v e ∧ EntOk gs ws e ∧ ∀ H', Same H H' → Q (.bl true) H'
def spIsPaper (K : PySem.W.Frag) (C : Addr) : Sp := fun vs H Q _ => ∃ (p ng nw lp : Addr) (gs : List Gt) (ws : List Wr) (ev : List V) (es : List Ent), vs = [.ref p, .ref lp] ∧ NetAt K C H p ng nw gs ws ∧ NetOk gs ws ∧ SqL K H lp ev ∧ All2 (EntV K H) ev es ∧ (∀ e ∈ es, EntOk gs ws e) ∧ es.length ≤ 11000 ∧ ∀ H', Same H H' → Q (.bl true) H'
/-- balanced: no fault -/
def BalP (gs : List Gt) (ws us : List Wr) (es : List Ent) : Prop := ∀ g, g < gs.length → ¬ portK (kindAt gs g) → psum (dlP ws g) es = wdl (dl g) us
def spGateFault (K : PySem.W.Frag) (C : Addr) : Sp := fun vs H Q _ => ∃ (p ng nw lp lq : Addr) (qs : List Nat) (gs : List Gt) (ws us : List Wr) (ev : List V) (es : List Ent), vs = [.ref p, .ref lp, .ref lq] ∧ NetAt K C H p ng nw gs ws ∧ NetOk gs ws ∧ SqL K H lp ev ∧ All2 (EntV K H) ev es ∧ (∀ e ∈ es, EntOk gs ws e) ∧ BalP gs ws us es ∧ All2 (fun (p : Nat) (x : Wr) => ws[p]? = some x) qs us ∧ SqL K H lq (nvs qs) ∧ ∀ H', Same H H' → Q .non H'
def spPaperFault (K : PySem.W.Frag) (C : Addr) : Sp := fun vs H Q _ => ∃ (p ng nw lp : Addr) (gs : List Gt) (ws : List Wr) (b : Int) (ev : List V) (es : List Ent), vs = [.ref p, .int b, .ref lp] ∧ NetAt K C H p ng nw gs ws ∧ NetOk gs ws ∧ 0 ≤ b ∧ SqL K H lp ev ∧ All2 (EntV K H) ev es ∧ (∀ e ∈ es, EntOk gs ws e) ∧ es.length ≤ 11000 ∧ Bal gs ws es ∧ ∀ H', Same H H' → Q .non H'
def spBoundOf (K : PySem.W.Frag) (C : Addr) : Sp := fun vs H Q _ => ∃ (p ng nw lp : Addr) (gs : List Gt) (ws : List Wr) (b : Int) (ev : List V) (es : List Ent), vs = [.ref p, .ref lp, .int b] ∧ NetAt K C H p ng nw gs ws ∧ NetOk gs ws ∧ 0 ≤ b ∧ SqL K H lp ev ∧ All2 (EntV K H) ev es ∧ (∀ e ∈ es, EntOk gs ws e) ∧ es.length ≤ 11000 ∧ Bal gs ws es ∧ ∀ H', Same H H' → Q (.int (regsum ws - psum (roomF gs ws b) es)) H'
def spLetBounds (K : PySem.W.Frag) (C : Addr) : Sp := fun vs H Q _ => ∃ (p ng nw : Addr) (gs : List Gt) (ws : List Wr) (b : Int), vs = [.ref p, .int b] ∧ NetAt K C H p ng nw gs ws ∧ NetOk gs ws ∧ 0 ≤ b ∧ FeasE gs ws b ∧
  ∀ (lb : Addr) (bv : List V) (bps : List (Bnd × Pce)) (H' : Hp), Same H H' → H lb = none → H' lb = some (.lst bv) → All2 (BpV K (fun l => H l ≠ none) H' lb) bv bps → BdsOk gs ws b (bps.map fun bp => bp.2) (bps.map fun bp => bp.1) → bps.length ≤ gs.length * gs.length → (∀ bp ∈ bps, PceOk gs ws bp.2 ∧ bp.2.2.length ≤ 900) → Q (.ref lb) H'
/-- the fewest registers of lags for b, such lags, a paper -/
def spFewest (K : PySem.W.Frag) (C : Addr) : Sp := fun vs H Q _ => ∃ (p ng nw : Addr) (gs : List Gt) (ws : List Wr) (b : Int), vs = [.ref p, .int b] ∧ NetAt K C H p ng nw gs ws ∧ NetOk gs ws ∧ 0 ≤ b ∧ FeasE gs ws b ∧
  ∀ (t ll lp : Addr) (m : Int) (L : Nat → Int) (ev : List V) (es : List Ent) (H' : Hp), Same H H' → H' t = some (.tup [.int m, .ref ll, .ref lp]) → H ll = none → H' ll = some (.lst ((lagsL gs L).map V.int)) → H lp = none → H' lp = some (.lst ev) → All2 (EntZ K (fun l => H l ≠ none) H') ev es → (∀ e ∈ es, EntOk gs ws e) → es.length ≤ 11000 → Bal gs ws es →
    Feas gs ws b L → m = cntsum ws L → m = regsum ws - psum (roomF gs ws b) es → (∀ R : Int, 1 ≤ R → ((gs.length : Int) + 1) * R ≤ 500 → (∀ s e c, s < gs.length → best gs ws s e = some c → c.1 ≤ R) → ∀ g, g < gs.length → -500 ≤ L g ∧ L g ≤ 500) → es.length ≤ gs.length * gs.length → (∀ e ∈ es, e.2 ≤ 10 ^ 30) → (∀ e ∈ es, e.1.2.length ≤ 900) → Q (.ref t) H'
section
variable {P : Program} {w : World} {K : PySem.W.Frag} {mg : Str → Option Value} {base : Heap}
abbrev nRegisters : List Str := ["net", "start", "end", "held"]
theorem scRegisters : FnScope nRegisters ["net"] (defScope sRegisters) := ⟨rfl, rfl, rfl, by decide +kernel, rfl, by decide +kernel, by decide +kernel⟩
abbrev DRegisters (P : Program) (w : World) (K : PySem.W.Frag) (mg : Str → Option Value) (base : Heap) (C : Addr) := Df P w K mg base 1 "registers" ["net"] (spRegisters K C)
theorem ok_registers {f C : Addr} {fd : FuncData} (F : Fun K "registers" "registers" sRegisters f fd) (hm : mg "registers" = some (.ref f)) (B : Bt mg) (T : NT K mg C) (ms : mg "sum" = none) : DRegisters P w K mg base C f fd := by
  refine ⟨?_, hm, F.kp, F.binds fun _ _ _ _ _ _ us hl => match us, hl with | [_], _ => rfl⟩
  refine F.ok scRegisters (fun vs H Q E h => ?_) (fun cdv A outer s H vs Q E hr h => ?_)
  · obtain ⟨p, ng, nw, gs, ws, rfl, _⟩ := h
    rfl
  · obtain ⟨p, ng, nw, gs, ws, rfl, NA, N, q⟩ := h
    have nd := scRegisters.nd
    refine ⟨_, pss_one (ps_ret (pe_callB (cr_sum rfl) (by rfl) ms (by decide +kernel) (pa_cons (pe_lc (own := [("start", 1), ("end", 2), ("held", 3)]) (g := (gTup K 3 (gCons (gName 1) (gCons (gName 2) (gCons (gName 3) gNil))))) (tt := tYes) (te := (tCB (Evl.rLenS K) (tCons (tVar 3) tNil))) rfl nd (pi_list (pe_fld (pv 0) rfl)) (blkOk_by (N := nRegisters) (sc := defScope sRegisters) (own := [("start", 1), ("end", 2), ("held", 3)]) (by decide +kernel)) (fun _ _ _ _ _ => (pg_tup rfl (pgs_cons (pg_name (i := 1) nd rfl (.inl rfl)) (pgs_cons (pg_name (i := 2) nd rfl (.inl rfl)) (pgs_cons (pg_name (i := 3) nd rfl (.inl rfl)) pgs_nil))))) (fun _ _ _ _ _ => pts_nil) (fun _ _ _ _ _ => (pe_callB call_len_seq (by rfl) B.len PySem.boot_len (pa_cons (pv 3) pa_nil)))) pa_nil))), ?_⟩
    obtain ⟨dx, ob⟩ := id NA.ob
    obtain ⟨gv, hgv, ga⟩ := id NA.g
    obtain ⟨wv, hwv, wa⟩ := id NA.w
    have hlg : gv.length = gs.length := ga.1
    have hlw : wv.length = ws.length := wa.1
    have hgl := N.gl
    have hwl := N.wl
    refine ⟨_, rfl, p, C, dx, _, _, rfl, ob, T.cl, T.nW, nf_wires _ _, nw, rfl, ⟨_, SqL.of hwv⟩, fun D hD => ?_⟩
    refine lc_list (K := K) (a := nw) (xs := wv) (fun i Hc => Hc D = some (.lst (((ws.take i).map fun x => ((x.2.2.length : Nat) : Int)).map V.int)) ∧ Same H Hc) ⟨upd_same, same_new hD⟩ (fun i Hc _ ⟨_, sm⟩ => SqL.of (sm _ _ hwv)) ?_ ?_
    · rintro i v Hc hv ⟨hc, sm⟩
      obtain ⟨x, hx, a, b, rfl, sq1, sq2⟩ := wa.get hv
      have hi : i < ws.length := (List.getElem?_eq_some_iff.mp hx).1
      have tk := TK.same sm
      refine ⟨a, _, rfl, tk.seq sq1, rfl, _, _, rfl, _, _, rfl, _, _, rfl, rfl, rfl, tyes ?_⟩
      refine ⟨_, rfl, b, _, rfl, .inr (tk.seq sq2), _, hc, ?_, ?_, same_mut sm hD⟩
      · rw [List.length_map, List.length_map, List.length_take]
        exact small1000 (by omega)
      · rw [upd_same, List.take_add_one, hx, List.map_append, List.map_append, List.length_map]
        rfl
    rintro H1 ⟨h1, s1⟩
    rw [hlw, List.take_length] at h1
    exact ⟨D, _, rfl, SqL.of h1, q H1 s1⟩
abbrev nPlainFlow : List Str := ["net", "bounds", "places", "start", "end", "room", "piece", "ends", "told", "place"]
theorem scPlainFlow : FnScope nPlainFlow ["net", "bounds", "places"] (defScope sPlainFlow) := ⟨rfl, rfl, rfl, by decide +kernel, rfl, by decide +kernel, by decide +kernel⟩
abbrev DPlainFlow (P : Program) (w : World) (K : PySem.W.Frag) (mg : Str → Option Value) (base : Heap) (C : Addr) := Df P w K mg base 3 "plain_flow" ["net", "bounds", "places"] (spPlainFlow K C)
theorem ok_plainFlow {f fE C : Addr} {fd fdE : FuncData} (F : Fun K "plain_flow" "plain_flow" sPlainFlow f fd) (hm : mg "plain_flow" = some (.ref f)) (B : Bt mg) (T : NT K mg C) (DEs : DEndsOf P w K mg base C fE fdE) : DPlainFlow P w K mg base C f fd := by
  refine ⟨?_, hm, F.kp, F.binds fun _ _ _ _ _ _ us hl => match us, hl with | [_, _, _], _ => rfl⟩
  refine F.ok scPlainFlow (fun vs H Q E h => ?_) (fun cdv A outer s H vs Q E hr h => ?_)
  · obtain ⟨p, ng, nw, lb, lq, qs, gs, ws, us, b, bv, bps, rfl, _⟩ := h
    rfl
  · obtain ⟨p, ng, nw, lb, lq, qs, gs, ws, us, b, bv, bps, rfl, NA, N, hlb, ⟨Z, al⟩, bok, hbl, hpce, pu, hlq, q⟩ := h
    have nd := scPlainFlow.nd
    refine ⟨_, pss_cons (ps_setLc (i := 7) (own := [("start", 3), ("end", 4), ("room", 5), ("piece", 6)]) (g := (gTup K 4 (gCons (gName 3) (gCons (gName 4) (gCons (gName 5) (gCons (gName 6) gNil)))))) (tt := tYes) (te := (tCall (spEndsOf K C) [] E0 (tCons (tVar 0) (tCons (tVar 6) tNil)))) rfl nd rfl rfl (sw_true rfl rfl rfl (by decide +kernel)) (pi_list (pv 1)) (blkOk_by (N := nPlainFlow) (sc := defScope sPlainFlow) (own := [("start", 3), ("end", 4), ("room", 5), ("piece", 6)]) (by decide +kernel)) (fun _ _ _ _ _ => (pg_tup rfl (pgs_cons (pg_name (i := 3) nd rfl (.inl rfl)) (pgs_cons (pg_name (i := 4) nd rfl (.inl rfl)) (pgs_cons (pg_name (i := 5) nd rfl (.inl rfl)) (pgs_cons (pg_name (i := 6) nd rfl (.inl rfl)) pgs_nil)))))) (fun _ _ _ _ _ => pts_nil) (fun _ _ _ _ _ => (pe_call DEs.ok (hr.mono (by decide)) (by rfl) DEs.mg DEs.kp DEs.bd .nil pass0 (pa_cons (pv 0) (pa_cons (pv 6) pa_nil))))) <|
        pss_cons (ps_set (i := 8) nd rfl (.inl rfl) (pe_op op_rep (pe_lst (pa_cons pe_int pa_nil)) (pe_callB call_len_seq (by rfl) B.len PySem.boot_len (pa_cons (pv 1) pa_nil)))) <|
        pss_cons (ps_for PassesOwn.never rfl (pi_list (pv 2)) (pg_name (i := 9) nd rfl (.inl rfl)) (pss_one (ps_augS (pv 8) (pe_bm PySem.F.plainAttrs_list PySem.F.slot_list_index PySem.F.type_list_index (mt_indexD (hu65_of hr)) (pv 7) (pa_cons (pe_tup (pa_cons (pe_ix ix_tup (pe_ix ix_list (pe_fld (pv 0) rfl) (pv 9) (fun _ _ => rfl)) pe_int (fun _ _ => rfl)) (pa_cons (pe_ix ix_tup (pe_ix ix_list (pe_fld (pv 0) rfl) (pv 9) (fun _ _ => rfl)) pe_int (fun _ _ => rfl)) pa_nil))) pa_nil)) get_list pe_int ip_add set_list))) <|
        pss_one (ps_ret (pv 8)), ?_⟩
    obtain ⟨dx, ob⟩ := id NA.ob
    obtain ⟨gv, hgv, ga⟩ := id NA.g
    obtain ⟨wv, hwv, wa⟩ := id NA.w
    have hlg : gv.length = gs.length := ga.1
    have hlw : wv.length = ws.length := wa.1
    have hgl := N.gl
    have hwl := N.wl
    have hbv : bv.length = bps.length := al.1
    refine ⟨_, rfl, lb, rfl, ⟨_, SqL.of hlb⟩, fun le hle => ?_⟩
    refine lc_list (K := K) (a := lb) (xs := bv) (fun i Hc => ∃ ev : List V, Hc le = some (.lst ev) ∧ All2 (NatsV K Hc) ev ((bps.take i).map fun bp => endsF ws bp.2) ∧ Same H Hc) ⟨[], upd_same, .nil, same_new hle⟩ (fun i Hc _ ⟨_, _, _, sm⟩ => SqL.of (sm _ _ hlb)) ?_ ?_
    · rintro i v Hc hv ⟨ev, hc, ea, sm⟩
      obtain ⟨bp, hbp, bpv⟩ := al.get hv
      obtain ⟨a, pa, rfl, sq, pcv⟩ := bpv.pce
      have hi : i < bps.length := (List.getElem?_eq_some_iff.mp hbp).1
      have hel := ea.1
      rw [List.length_map, List.length_take] at hel
      refine ⟨a, _, rfl, (TK.same sm).seq sq, rfl, _, _, rfl, _, _, rfl, _, _, rfl, _, _, rfl, rfl, rfl, tyes ?_⟩
      refine ⟨_, rfl, _, rfl, p, ng, nw, gs, ws, _, bp.2, rfl, NA.same sm, N, pcv.same sm, (hpce bp (List.mem_of_getElem? hbp)).1, fun t H2 s2 ht et => ?_⟩
      refine ⟨ev, s2 _ _ hc, small11k (by omega), ev ++ [.ref t], upd_same, ?_, same_mut (sm.trans s2) hle⟩
      rw [List.take_add_one, hbp, List.map_append]
      have tk2 : TK H2 (upd H2 le (.lst (ev ++ [.ref t]))) := TK.lst (s2 _ _ hc)
      exact All2.snoc (ea.imp fun _ _ r => (NatsV.tk (TK.same s2) r).tk tk2) ((show NatsV K H2 (.ref t) (endsF ws bp.2) from ⟨t, rfl, .inl (.inl et)⟩).tk tk2)
    rintro H1 ⟨ev, h1, ea, s1⟩
    rw [hbv, List.take_length] at ea
    refine gn_norm (σ' := [some (.ref p), some (.ref lb), some (.ref lq), none, none, none, none, some (.ref le), none, none]) rfl ?_
    refine ⟨(by show 1 ≤ sizeLine; decide), fun l0 hl0 => ?_⟩
    have s2 : Same H1 (upd H1 l0 (.lst [.int 0])) := same_new hl0
    have e2 : (upd H1 l0 (.lst [.int 0])) l0 = some (.lst [.int 0]) := upd_same
    obtain ⟨H2, hH2⟩ : ∃ H2, H2 = upd H1 l0 (.lst [.int 0]) := ⟨_, rfl⟩
    rw [← hH2] at s2 e2
    rw [← hH2]
    refine ⟨_, rfl, lb, bv, rfl, .inl (SqL.of ((s1.trans s2) _ _ hlb)), l0, _, [.int 0], rfl, rfl, e2, by omega, by omega, ?_, fun lf hlf => ?_⟩
    · have : 1 * ((bv.length : Nat) : Int).toNat ≤ sizeLine := Nat.le_of_lt (small11k (by omega))
      exact this
    rw [Int.toNat_natCast, hbv, rep0]
    have s3 : Same H2 (upd H2 lf (.lst ((List.replicate bps.length (0 : Int)).map V.int))) := same_new hlf
    have e3 : (upd H2 lf (.lst ((List.replicate bps.length (0 : Int)).map V.int))) lf = some (.lst ((List.replicate bps.length (0 : Int)).map V.int)) := upd_same
    obtain ⟨H3, hH3⟩ : ∃ H3, H3 = upd H2 lf (.lst ((List.replicate bps.length (0 : Int)).map V.int)) := ⟨_, rfl⟩
    rw [← hH3] at s3 e3
    refine gn_normH (σ' := [some (.ref p), some (.ref lb), some (.ref lq), none, none, none, none, some (.ref le), some (.ref lf), none]) (H' := H3) rfl hH3.symm ?_
    have s13 := s2.trans s3
    have s03 := s1.trans s13
    have hlf0 : H lf = none := (s1.trans s2).free hlf
    have h13 := s13 _ _ h1
    have ea3 := ea.imp fun _ _ r => NatsV.tk (TK.same s13) r
    refine ⟨_, rfl, lq, rfl, ⟨_, s03.seq hlq⟩, for_list (K := K) (a := lq) (xs := nvs qs) (fun i σ H' => ∃ (u9 : Option V) (f : List Int), σ = [some (.ref p), some (.ref lb), some (.ref lq), none, none, none, none, some (.ref le), some (.ref lf), u9] ∧ H' lf = some (.lst (f.map V.int)) ∧ f.length = bps.length ∧ (∀ x ∈ f, 0 ≤ x ∧ x ≤ (i : Int)) ∧ (∀ F, wsum (dF F) (bps.map fun bp => bp.1) f = wdl (fun x => F (spotF gs x)) (us.take i)) ∧ Same H H' ∧ (∀ a o, a ≠ lf → H3 a = some o → H' a = some o))
      ⟨_, _, rfl, e3, List.length_replicate, (fun x hx => by rw [List.eq_of_mem_replicate hx]; exact ⟨by decide, by decide⟩), (fun F => by rw [wsum_zero]; rfl), s03, fun a o _ h => h⟩ (fun i σ H' _ ⟨_, _, _, _, _, _, _, sm, _⟩ => sm.seq hlq) ?_ ?_⟩
    · rintro i v σ H4 hv ⟨u9, f, rfl, hf, hfl, hf0, hft, sm, bt⟩
      obtain ⟨k, hk, rfl⟩ := nvs_of hv
      obtain ⟨x, hux, hx⟩ := pu.get hk
      have WX := N.wok x (List.mem_of_getElem? hx)
      obtain ⟨_, hwvi, a, b2, rfl, sq1, sq2⟩ := wa.getR hx
      have tk := TK.same sm
      -- its bound
      obtain ⟨c, hc, _⟩ := best_le N WX.s (show Pw ws x.1 [k] x.2.1 from ⟨x, hx, rfl, rfl⟩)
      obtain ⟨pc, hpc, h1c, h2c, _⟩ := bok.full x.1 WX.s x.2.1 c hc
      obtain ⟨bp0, hbp0, rfl⟩ := List.mem_map.mp hpc
      have hmem : (x.1, x.2.1) ∈ bps.map fun bp => endsF ws bp.2 := List.mem_map.mpr ⟨bp0, hbp0, by show (bp0.2.1, endW ws bp0.2.1 bp0.2.2) = _; rw [h1c, endW_of h2c]⟩
      obtain ⟨j, hj1, hj2⟩ := first_ix hmem
      rw [List.getElem?_map] at hj1
      cases hbj : bps[j]? with
      | none => rw [hbj] at hj1; cases hj1
      | some bp =>
      rw [hbj] at hj1
      have hje : endsF ws bp.2 = (x.1, x.2.1) := Option.some.inj hj1
      have hjl : j < f.length := by rw [hfl]; exact (List.getElem?_eq_some_iff.mp hbj).1
      have nle : le ≠ lf := ne_of_none (s2 _ _ h1) hlf
      have hle4 := bt _ _ nle h13
      have tk4 : TK H3 H4 := fun a o ho h => bt a o (fun e => by
        rw [e, e3] at h
        cases h
        exact ho) h
      have ea4 := ea3.imp fun _ _ r => NatsV.tk tk4 r
      have ob4 := sm _ _ ob
      refine gn_norm (σ' := [some (.ref p), some (.ref lb), some (.ref lq), none, none, none, none, some (.ref le), some (.ref lf), some (.int ((k : Nat) : Int))]) rfl ?_
      refine ⟨_, rfl, _, rfl, .inl ⟨rfl, _, SqL.of hle4⟩, _, rfl, p, C, dx, _, _, rfl, ob4, T.cl, T.nW, nf_wires _ _, _, rfl, nw, wv, k, _, rfl, rfl, SqL.of (sm _ _ hwv), atI_nat hwvi, a, _, 0, _, rfl, rfl, tk.seq sq1, atI_nat (j := 0) rfl, ?_⟩
      refine ⟨_, rfl, p, C, dx, _, _, rfl, ob4, T.cl, T.nW, nf_wires _ _, _, rfl, nw, wv, k, _, rfl, rfl, SqL.of (sm _ _ hwv), atI_nat hwvi, a, _, 1, _, rfl, rfl, tk.seq sq1, atI_nat (j := 1) rfl, (by show 2 ≤ sizeLine; decide), fun tt htt => ?_⟩
      have s5 := same_new (o := .tup [.int ((x.1 : Nat) : Int), .int ((x.2.1 : Nat) : Int)]) htt
      have e5 : (upd H4 tt (.tup [.int ((x.1 : Nat) : Int), .int ((x.2.1 : Nat) : Int)])) tt = some (.tup [.int ((x.1 : Nat) : Int), .int ((x.2.1 : Nat) : Int)]) := upd_same
      generalize upd H4 tt (.tup [.int ((x.1 : Nat) : Int), .int ((x.2.1 : Nat) : Int)]) = H5 at s5 e5
      have dpt : Dp K H5 (.ref tt) (natsD (x.1, x.2.1)) := dp_natsV ⟨tt, rfl, .inl (.inl e5)⟩
      have dpl : Dp K H5 (.ref le) (.list ((bps.map fun bp => endsF ws bp.2).map natsD)) := .lst (SqL.of (s5 _ _ hle4)) (dpall_nats (ea4.imp fun _ _ r => NatsV.tk (TK.same s5) r))
      have hf5 := s5 _ _ hf
      refine ⟨le, _, _, _, j, natsD (x.1, x.2.1), rfl, rfl, dpl, dpt, Sh.ok (k := 2) (sh_list fun d hd => ?_) (by decide), Sh.ok (k := 1) (sh_nats _) (by decide), ?_, by rw [natsD_eq, decide_eq_true rfl], fun m z' hm hz' => ?_, ?_⟩
      · obtain ⟨e, _, rfl⟩ := List.mem_map.mp hd
        exact sh_nats _
      · rw [List.getElem?_map, List.getElem?_map, hbj]
        show some (natsD (endsF ws bp.2)) = _
        rw [hje]
      · rw [List.getElem?_map] at hz'
        cases hm' : (bps.map fun bp => endsF ws bp.2)[m]? with
        | none => rw [hm'] at hz'; cases hz'
        | some z =>
          rw [hm'] at hz'
          cases hz'
          rw [natsD_eq, decide_eq_false (hj2 m z hm hm')]
      refine ⟨lf, _, j, _, rfl, rfl, SqL.of hf5, sgetD_at hjl, _, _, rfl, rfl, lf, _, _, j, rfl, rfl, hf5, Evl.ixN_nat (by rw [List.length_map]; exact hjl), ?_⟩
      refine ⟨_, f.set j (f.getD j 0 + 1), rfl, by rw [upd_same, List.map_set], by rw [List.length_set]; exact hfl, fun y hy => ?_, plain_step hux hbj (bok.bp bp (List.mem_of_getElem? hbj)) hje hfl hft, same_mut (sm.trans s5) hlf0, fun a o n h => (upd_ne n).trans (s5 _ _ (bt a o n h))⟩
      rcases List.mem_or_eq_of_mem_set hy with h | h
      · have := hf0 y h
        omega
      · have := hf0 (f.getD j 0) (by rw [List.getD_eq_getElem?_getD, List.getElem?_eq_getElem hjl]; exact List.getElem_mem _)
        omega
    · rintro σ H4 ⟨u9, f, rfl, hf, hfl, hf0, hft, sm, bt⟩
      rw [nvs_len, pu.1, List.take_length] at hft
      rw [nvs_len, pu.1] at hf0
      exact ⟨_, rfl, q lf f H4 sm hlf0 hf hfl hf0 hft⟩
end
end Lag


set_option maxRecDepth 100000
set_option maxHeartbeats 8000000
namespace Lag
open PySem PySem.Spec PyProof.Rows L2
theorem ent_len {K : PySem.W.Frag} {H : Hp} {ev : List V} {es : List Ent} (h : All2 (EntV K H) ev es) : ev.length = es.length := h.1
theorem dlP_eq {gs : List Gt} {ws : List Wr} {pc : Pce} {e : Nat} (g : Nat) (h : Pw ws pc.1 pc.2 e) : dlP ws g pc = dl g pc.1 - dl g e := by
  unfold dlP
  rw [endW_of h]
/-- an entry whose piece's list is not D -/
def EntD (K : PySem.W.Frag) (Z : Addr → Prop) (D : Addr) (H : Hp) (v : V) (e : Ent) : Prop := ∃ a b l, v = .ref a ∧ SqT K H a [.ref b, .int e.2] ∧ SqT K H b [.int ((e.1.1 : Nat) : Int), .ref l] ∧ H l = some (.lst (nvs e.1.2)) ∧ l ≠ D ∧ ¬ Z l
theorem EntD.same {K : PySem.W.Frag} {Z : Addr → Prop} {D : Addr} {H H' : Hp} {v : V} {e : Ent} (s : Same H H') (h : EntD K Z D H v e) : EntD K Z D H' v e := by
  obtain ⟨a, b, l, e', h1, h2, h3, h4⟩ := h
  exact ⟨a, b, l, e', (TK.same s).seq h1, (TK.same s).seq h2, s _ _ h3, h4⟩
theorem EntD.mut {K : PySem.W.Frag} {Z : Addr → Prop} {D : Addr} {H : Hp} {xs : List V} {o : HO} {v : V} {e : Ent} (hD : H D = some (.lst xs)) (h : EntD K Z D H v e) : EntD K Z D (upd H D o) v e := by
  obtain ⟨a, b, l, e', h1, h2, h3, h4⟩ := h
  exact ⟨a, b, l, e', (TK.lst hD).seq h1, (TK.lst hD).seq h2, (upd_ne h4.1).trans h3, h4⟩
theorem EntD.entz {K : PySem.W.Frag} {Z : Addr → Prop} {D : Addr} {H : Hp} {v : V} {e : Ent} (h : EntD K Z D H v e) : EntZ K Z H v e := by
  obtain ⟨a, b, l, e', h1, h2, h3, _, h4⟩ := h
  exact ⟨a, b, l, e', h1, h2, h3, h4⟩
theorem int_atF {l : List Int} {i : Nat} {x : V} (h : (l.map V.int)[i]? = some x) : ∃ z, l[i]? = some z ∧ x = V.int z := by
  rw [List.getElem?_map] at h
  cases e : l[i]? with
  | none =>
    rw [e] at h
    cases h
  | some z =>
    rw [e] at h
    cases h
    exact ⟨z, rfl, rfl⟩
section
variable {P : Program} {w : World} {K : PySem.W.Frag} {mg : Str → Option Value} {base : Heap}
abbrev nPaperOf : List Str := ["bounds", "flow", "start", "end", "room", "piece", "many"]
theorem scPaperOf : FnScope nPaperOf ["bounds", "flow"] (defScope sPaperOf) := ⟨rfl, rfl, rfl, by decide +kernel, rfl, by decide +kernel, by decide +kernel⟩
abbrev DPaperOf (P : Program) (w : World) (K : PySem.W.Frag) (mg : Str → Option Value) (base : Heap) := Df P w K mg base 1 "paper_of" ["bounds", "flow"] (spPaperOf K)
theorem ok_paperOf {f : Addr} {fd : FuncData} (F : Fun K "paper_of" "paper_of" sPaperOf f fd) (hm : mg "paper_of" = some (.ref f)) (B : Bt mg) : DPaperOf P w K mg base f fd := by
  refine ⟨?_, hm, F.kp, F.binds fun _ _ _ _ _ _ us hl => match us, hl with | [_, _], _ => rfl⟩
  refine F.ok scPaperOf (fun vs H Q E h => ?_) (fun cdv A outer s H vs Q E hr h => ?_)
  · obtain ⟨lb, lf, lt, bv, bps, f, Z, rfl, _⟩ := h
    rfl
  · obtain ⟨lb, lf, lt, bv, bps, f, Z, rfl, hlb, al, hlf, hfl, hbl, q⟩ := h
    have nd := scPaperOf.nd
    refine ⟨_, pss_one (ps_ret (pe_lc (own := [("many", 6), ("start", 2), ("end", 3), ("room", 4), ("piece", 5)]) (g := (gTup K 2 (gCons (gTup K 4 (gCons (gName 2) (gCons (gName 3) (gCons (gName 4) (gCons (gName 5) gNil))))) (gCons (gName 6) gNil)))) (tt := (tTest (tOp (rI0 fun i j => .bl (decide (j < i))) (tVar 6) (tC (.int 0))))) (te := (tTup (tCons (tVar 5) (tCons (tVar 6) tNil)))) rfl nd (pi_zip (by rfl) B.zip (pa_cons (pv 0) (pa_cons (pv 1) pa_nil))) (blkOk_by (N := nPaperOf) (sc := defScope sPaperOf) (own := [("many", 6), ("start", 2), ("end", 3), ("room", 4), ("piece", 5)]) (by decide +kernel)) (fun _ _ _ _ _ => (pg_tup rfl (pgs_cons (pg_tup rfl (pgs_cons (pg_name (i := 2) nd rfl (.inl rfl)) (pgs_cons (pg_name (i := 3) nd rfl (.inl rfl)) (pgs_cons (pg_name (i := 4) nd rfl (.inl rfl)) (pgs_cons (pg_name (i := 5) nd rfl (.inl rfl)) pgs_nil))))) (pgs_cons (pg_name (i := 6) nd rfl (.inl rfl)) pgs_nil)))) (fun _ _ _ _ _ => pts_one (pt_cmpR op_gt (pv 6) pe_int (nomark _))) (fun _ _ _ _ _ => (pe_tup (pa_cons (pv 5) (pa_cons (pv 6) pa_nil)))))), ?_⟩
    have hbv : bv.length = bps.length := al.1
    refine ⟨_, rfl, _, rfl, lb, lf, bv, _, rfl, SqL.of hlb, hlf, fun D hD => ?_⟩
    refine lc_it (walk_zip (K := K) (a := lb) (b := lf) (xs := bv) (ys := f.map V.int) (n := bps.length) (by rw [List.length_map]; omega)) (fun i Hc => ∃ ev : List V, Hc D = some (.lst ev) ∧ All2 (EntD K Z D Hc) ev (papF (bps.take i) (f.take i)) ∧ ev.length ≤ i ∧ Same H Hc) ⟨[], upd_same, .nil, Nat.le_refl _, same_new hD⟩ (fun i Hc _ ⟨_, _, _, _, sm⟩ => ⟨SqL.of (sm _ _ hlb), sm.seq hlf⟩) ?_ ?_
    · rintro i v Hc Hc' hi ⟨ev, hc, ea, hel, sm⟩ ⟨T', x1, y, rfl, hT, rfl, ex, ey⟩
      obtain ⟨bp, hbp, bpv⟩ := al.get ex
      obtain ⟨a, b', l', rfl, sq, sp, sl, _, nz⟩ := bpv
      obtain ⟨z, hz, rfl⟩ := int_atF ey
      have sT := same_new (o := .tup [.ref a, .int z]) hT
      have eT : (upd Hc T' (.tup [.ref a, .int z])) T' = some (.tup [.ref a, .int z]) := upd_same
      have hcT := sT _ _ hc
      have smT := sm.trans sT
      have eaT := ea.imp fun _ _ r => EntD.same sT r
      generalize upd Hc T' (.tup [.ref a, .int z]) = Hd at sT eT hcT smT eaT
      refine ⟨T', _, rfl, .inl (.inl eT), rfl, _, _, rfl, a, _, rfl, (TK.same smT).seq sq, rfl, _, _, rfl, _, _, rfl, _, _, rfl, _, _, rfl, rfl, _, _, rfl, rfl, ?_⟩
      refine ⟨by
        show wipe ([some (V.ref lb), some (V.ref lf), some _, some _, some _, some _, some _] : L2.St) [6, 2, 3, 4, 5] = _
        rfl, ?_⟩
      have e1 : bps.take (i + 1) = bps.take i ++ [bp] := by rw [List.take_add_one, hbp]; rfl
      have e2 : f.take (i + 1) = f.take i ++ [z] := by rw [List.take_add_one, hz]; rfl
      have e3 : (bps.take i).length = (f.take i).length := by rw [List.length_take, List.length_take, hfl]
      rw [e1, e2, papF_snoc e3]
      refine ⟨_, rfl, _, _, rfl, rfl, _, rfl, ?_⟩
      by_cases h0 : 0 < z
      · rw [decide_eq_true h0, if_pos h0]
        refine iteT ⟨_, rfl, _, rfl, (by show 2 ≤ sizeLine; decide), fun tt htt => ?_⟩
        have s5 := same_new (o := .tup [.ref b', .int z]) htt
        have e5 : (upd Hd tt (.tup [.ref b', .int z])) tt = some (.tup [.ref b', .int z]) := upd_same
        generalize upd Hd tt (.tup [.ref b', .int z]) = He at s5 e5
        have nl : l' ≠ D := ne_of_none sl hD
        have s05 := smT.trans s5
        refine ⟨ev, s5 _ _ hcT, small11k (by omega), ev ++ [.ref tt], upd_same, ?_, by rw [List.length_append]; show _ + 1 ≤ _; omega, same_mut s05 hD⟩
        exact All2.snoc (eaT.imp fun _ _ r => EntD.mut (s5 _ _ hcT) (EntD.same s5 r)) (EntD.mut (s5 _ _ hcT) ⟨tt, b', l', rfl, .inl (.inl e5), (TK.same s05).seq sp, s05 _ _ sl, nl, nz⟩)
      · rw [decide_eq_false h0, if_neg h0, List.append_nil]
        exact iteF ⟨ev, hcT, eaT, by omega, smT⟩
    · rintro H1 ⟨ev, h1, ea, _, s1⟩
      rw [List.take_length, ← hfl, List.take_length] at ea
      exact q D ev H1 s1 hD h1 (ea.imp fun _ _ r => r.entz)
abbrev nRoomIn : List Str := ["net", "beat", "paper", "piece", "many"]
theorem scRoomIn : FnScope nRoomIn ["net", "beat", "paper"] (defScope sRoomIn) := ⟨rfl, rfl, rfl, by decide +kernel, rfl, by decide +kernel, by decide +kernel⟩
abbrev DRoomIn (P : Program) (w : World) (K : PySem.W.Frag) (mg : Str → Option Value) (base : Heap) (C : Addr) := Df P w K mg base 4 "room_in" ["net", "beat", "paper"] (spRoomIn K C)
theorem ok_roomIn {f fR C : Addr} {fd fdR : FuncData} (F : Fun K "room_in" "room_in" sRoomIn f fd) (hm : mg "room_in" = some (.ref f)) (B : Bt mg) (ms : mg "sum" = none) (DRm : DRoomOf P w K mg base C fR fdR) : DRoomIn P w K mg base C f fd := by
  refine ⟨?_, hm, F.kp, F.binds fun _ _ _ _ _ _ us hl => match us, hl with | [_, _, _], _ => rfl⟩
  refine F.ok scRoomIn (fun vs H Q E h => ?_) (fun cdv A outer s H vs Q E hr h => ?_)
  · obtain ⟨p, ng, nw, lp, gs, ws, b, ev, es, rfl, _⟩ := h
    rfl
  · obtain ⟨p, ng, nw, lp, gs, ws, b, ev, es, rfl, NA, N, hlp, al, eok, hel, q⟩ := h
    have nd := scRoomIn.nd
    refine ⟨_, pss_one (ps_ret (pe_callB (cr_sum rfl) (by rfl) ms (by decide +kernel) (pa_cons (pe_lc (own := [("piece", 3), ("many", 4)]) (g := (gTup K 2 (gCons (gName 3) (gCons (gName 4) gNil)))) (tt := tYes) (te := (tOp (rI CMul fun i j => .int (i * j)) (tCall (spRoomOf K C) [] E0 (tCons (tVar 0) (tCons (tVar 1) (tCons (tVar 3) tNil)))) (tVar 4))) rfl nd (pi_list (pv 2)) (blkOk_by (N := nRoomIn) (sc := defScope sRoomIn) (own := [("piece", 3), ("many", 4)]) (by decide +kernel)) (fun _ _ _ _ _ => (pg_tup rfl (pgs_cons (pg_name (i := 3) nd rfl (.inl rfl)) (pgs_cons (pg_name (i := 4) nd rfl (.inl rfl)) pgs_nil)))) (fun _ _ _ _ _ => pts_nil) (fun _ _ _ _ _ => (pe_op op_mul (pe_call DRm.ok (hr.mono (by decide)) (by rfl) DRm.mg DRm.kp DRm.bd .nil pass0 (pa_cons (pv 0) (pa_cons (pv 1) (pa_cons (pv 3) pa_nil)))) (pv 4)))) pa_nil))), ?_⟩
    have hev : ev.length = es.length := al.1
    refine ⟨_, rfl, lp, rfl, ⟨_, hlp⟩, fun D hD => ?_⟩
    refine lc_list (K := K) (a := lp) (xs := ev) (fun i Hc => Hc D = some (.lst (((es.take i).map fun e => roomF gs ws b e.1 * e.2).map V.int)) ∧ Same H Hc) ⟨upd_same, same_new hD⟩ (fun i Hc _ ⟨_, sm⟩ => sm.seq hlp) ?_ ?_
    · rintro i v Hc hv ⟨hc, sm⟩
      obtain ⟨e, he, a, pv', rfl, sq, pcv⟩ := al.get hv
      have hi : i < es.length := (List.getElem?_eq_some_iff.mp he).1
      obtain ⟨k1, k2, k3⟩ := eok e (List.mem_of_getElem? he)
      refine ⟨a, _, rfl, (TK.same sm).seq sq, rfl, _, _, rfl, _, _, rfl, rfl, rfl, tyes ?_⟩
      refine ⟨_, rfl, _, rfl, _, rfl, p, ng, nw, gs, ws, b, _, e.1, rfl, NA.same sm, N, pcv.same sm, k1, k2, fun H2 s2 => ?_⟩
      have rb := room_bd (b := b) N k1 k2
      refine ⟨_, rfl, _, _, rfl, rfl, .inl ⟨by omega, by omega⟩, _, s2 _ _ hc, ?_, ?_, same_mut (sm.trans s2) hD⟩
      · rw [List.length_map, List.length_map, List.length_take]
        exact small11k (by omega)
      · rw [upd_same, List.take_add_one, he, List.map_append, List.map_append]
        rfl
    rintro H1 ⟨h1, s1⟩
    rw [hev, List.take_length] at h1
    exact ⟨D, _, rfl, SqL.of h1, q H1 s1⟩
abbrev nNumPiece : List Str := ["net", "thing", "piece", "many"]
theorem scNumPiece : FnScope nNumPiece ["net", "thing"] (defScope sNumPiece) := ⟨rfl, rfl, rfl, by decide +kernel, rfl, by decide +kernel, by decide +kernel⟩
abbrev DNumPiece (P : Program) (w : World) (K : PySem.W.Frag) (mg : Str → Option Value) (base : Heap) (C : Addr) := Df P w K mg base 4 "is_numbered_piece" ["net", "thing"] (spNumPiece K C)
theorem ok_numPiece {f fI fW C : Addr} {fd fdI fdW : FuncData} (F : Fun K "is_numbered_piece" "is_numbered_piece" sNumPiece f fd) (hm : mg "is_numbered_piece" = some (.ref f)) (B : Bt mg) (DIp : DIsPiece P w K mg base C fI fdI) (DW : DWhole P w K mg base fW fdW) : DNumPiece P w K mg base C f fd := by
  refine ⟨?_, hm, F.kp, F.binds fun _ _ _ _ _ _ us hl => match us, hl with | [_, _], _ => rfl⟩
  refine F.ok scNumPiece (fun vs H Q E h => ?_) (fun cdv A outer s H vs Q E hr h => ?_)
  · obtain ⟨p, ng, nw, gs, ws, v, e, rfl, _⟩ := h
    rfl
  · obtain ⟨p, ng, nw, gs, ws, v, e, rfl, NA, N, ev, eok, q⟩ := h
    have nd := scNumPiece.nd
    refine ⟨_, pss_cons (ps_if (PW.pt (pw_or (pt_not (pt_val (pe_callB call_isi (by rfl) B.isi (by decide +kernel) (pa_cons (pv 1) (pa_cons (pe_bltn (v := .ty "tuple") (by rfl) B.tuple (by decide +kernel) rfl) pa_nil))))) (pw_or1 (pt_cmpR op_ne (pe_callB call_len_seq (by rfl) B.len PySem.boot_len (pa_cons (pv 1) pa_nil)) pe_int (nomark _))))) (pss_one (ps_ret pe_bl)) pss_nil) <|
        pss_cons (ps_asg (pv 1) (pg_tup rfl (pgs_cons (pg_name (i := 2) nd rfl (.inl rfl)) (pgs_cons (pg_name (i := 3) nd rfl (.inl rfl)) pgs_nil)))) <|
        pss_one (ps_ret (pe_and (pe_call DIp.ok (hr.mono (by decide)) (by rfl) DIp.mg DIp.kp DIp.bd .nil pass0 (pa_cons (pv 0) (pa_cons (pv 2) pa_nil))) (pe_and (pe_call DW.ok (hr.mono (by decide)) (by rfl) DW.mg DW.kp DW.bd .nil pass0 (pa_cons (pv 3) pa_nil)) (pe_one (pe_cmpR op_ge (pv 3) pe_int (nomark _)))))), ?_⟩
    obtain ⟨a, pv', rfl, sq, pcv⟩ := ev
    obtain ⟨k1, k2, k3⟩ := eok
    refine ⟨_, rfl, _, _, _, _, true, rfl, .ty "tuple", ty_tup sq, kit_ty (by decide +kernel), true, rfl, iteF ?_⟩
    refine ⟨_, rfl, a, _, rfl, .inr sq, rfl, false, rfl, iteF ?_⟩
    refine ⟨_, rfl, a, _, rfl, sq, rfl, _, _, rfl, _, _, rfl, rfl, ?_⟩
    refine ⟨_, rfl, _, rfl, p, ng, nw, gs, ws, _, e.1, rfl, NA, N, pcv, k1, fun H1 s1 => ⟨true, rfl, iteT ?_⟩⟩
    refine ⟨_, rfl, e.2, rfl, true, rfl, iteT ⟨_, rfl, _, _, rfl, rfl, ?_⟩⟩
    show Q (V.bl (decide (1 ≤ e.2))) H1
    rw [decide_eq_true k3]
    exact q H1 s1
abbrev nIsPaper : List Str := ["net", "thing", "entry"]
theorem scIsPaper : FnScope nIsPaper ["net", "thing"] (defScope sIsPaper) := ⟨rfl, rfl, rfl, by decide +kernel, rfl, by decide +kernel, by decide +kernel⟩
abbrev DIsPaper (P : Program) (w : World) (K : PySem.W.Frag) (mg : Str → Option Value) (base : Heap) (C : Addr) := Df P w K mg base 5 "is_paper" ["net", "thing"] (spIsPaper K C)
theorem ok_isPaper {f fN C : Addr} {fd fdN : FuncData} (F : Fun K "is_paper" "is_paper" sIsPaper f fd) (hm : mg "is_paper" = some (.ref f)) (B : Bt mg) (DNp : DNumPiece P w K mg base C fN fdN) : DIsPaper P w K mg base C f fd := by
  refine ⟨?_, hm, F.kp, F.binds fun _ _ _ _ _ _ us hl => match us, hl with | [_, _], _ => rfl⟩
  refine F.ok scIsPaper (fun vs H Q E h => ?_) (fun cdv A outer s H vs Q E hr h => ?_)
  · obtain ⟨p, ng, nw, lp, gs, ws, ev, es, rfl, _⟩ := h
    rfl
  · obtain ⟨p, ng, nw, lp, gs, ws, ev, es, rfl, NA, N, hlp, al, eok, hel, q⟩ := h
    have nd := scIsPaper.nd
    refine ⟨_, pss_one (ps_ret (pe_and (pe_callB call_isi (by rfl) B.isi (by decide +kernel) (pa_cons (pv 1) (pa_cons (pe_bltn (v := .ty "list") (by rfl) B.list (by decide +kernel) rfl) pa_nil))) (pe_one (pe_callB (cr_all rfl) (by rfl) B.all (by decide +kernel) (pa_cons (pe_lc (own := [("entry", 2)]) (g := (gName 2)) (tt := tYes) (te := (tCall (spNumPiece K C) [] E0 (tCons (tVar 0) (tCons (tVar 2) tNil)))) rfl nd (pi_list (pv 1)) (blkOk_by (N := nIsPaper) (sc := defScope sIsPaper) (own := [("entry", 2)]) (by decide +kernel)) (fun _ _ _ _ _ => (pg_name (i := 2) nd rfl (.inl rfl))) (fun _ _ _ _ _ => pts_nil) (fun _ _ _ _ _ => (pe_call DNp.ok (hr.mono (by decide)) (by rfl) DNp.mg DNp.kp DNp.bd .nil pass0 (pa_cons (pv 0) (pa_cons (pv 2) pa_nil))))) pa_nil))))), ?_⟩
    have hev : ev.length = es.length := al.1
    refine ⟨_, rfl, _, _, _, _, true, rfl, .ty "list", ty_lst hlp, kit_ty (by decide +kernel), true, rfl, iteT ?_⟩
    refine ⟨_, rfl, lp, rfl, ⟨_, hlp⟩, fun D hD => ?_⟩
    refine lc_list (K := K) (a := lp) (xs := ev) (fun i Hc => Hc D = some (.lst ((List.replicate i true).map V.bl)) ∧ Same H Hc) ⟨upd_same, same_new hD⟩ (fun i Hc _ ⟨_, sm⟩ => sm.seq hlp) ?_ ?_
    · rintro i v Hc hv ⟨hc, sm⟩
      obtain ⟨e, he, pev⟩ := al.get hv
      have hi : i < es.length := (List.getElem?_eq_some_iff.mp he).1
      refine ⟨rfl, tyes ?_⟩
      refine ⟨_, rfl, _, rfl, p, ng, nw, gs, ws, _, e, rfl, NA.same sm, N, EntV.same sm pev, eok e (List.mem_of_getElem? he), fun H2 s2 => ?_⟩
      refine ⟨_, s2 _ _ hc, ?_, ?_, same_mut (sm.trans s2) hD⟩
      · rw [List.length_map, List.length_replicate]
        exact small11k (by omega)
      · rw [upd_same, List.replicate_succ', List.map_append]
        rfl
    rintro H1 ⟨h1, s1⟩
    refine ⟨D, List.replicate ev.length true, rfl, SqL.of h1, ?_⟩
    have : ∀ n : Nat, (List.replicate n true).all id = true := fun n => by
      rw [List.all_eq_true]
      intro x hx
      exact List.eq_of_mem_replicate hx
    rw [this]
    exact q H1 s1
abbrev nGateFault : List Str := ["net", "paper", "places", "more", "piece", "many", "place", "number", "gate"]
theorem scGateFault : FnScope nGateFault ["net", "paper", "places"] (defScope sGateFault) := ⟨rfl, rfl, rfl, by decide +kernel, rfl, by decide +kernel, by decide +kernel⟩
abbrev DGateFault (P : Program) (w : World) (K : PySem.W.Frag) (mg : Str → Option Value) (base : Heap) (C : Addr) := Df P w K mg base 2 "gate_fault" ["net", "paper", "places"] (spGateFault K C)
theorem ok_gateFault {f fE fO C : Addr} {fd fdE fdO : FuncData} (F : Fun K "gate_fault" "gate_fault" sGateFault f fd) (hm : mg "gate_fault" = some (.ref f)) (B : Bt mg) (T : NT K mg C) (DEo : DEndOf P w K mg base C fE fdE) (DO : DOuter P w K mg base fO fdO) : DGateFault P w K mg base C f fd := by
  refine ⟨?_, hm, F.kp, F.binds fun _ _ _ _ _ _ us hl => match us, hl with | [_, _, _], _ => rfl⟩
  refine F.ok scGateFault (fun vs H Q E h => ?_) (fun cdv A outer s H vs Q E hr h => ?_)
  · obtain ⟨p, ng, nw, lp, lq, qs, gs, ws, us, ev, es, rfl, _⟩ := h
    rfl
  · obtain ⟨p, ng, nw, lp, lq, qs, gs, ws, us, ev, es, rfl, NA, N, hlp, al, eok, bal, pu, hlq, q⟩ := h
    have nd := scGateFault.nd
    refine ⟨_, pss_cons (ps_set (i := 3) nd rfl (.inl rfl) (pe_op op_rep (pe_lst (pa_cons pe_int pa_nil)) (pe_callB call_len_seq (by rfl) B.len PySem.boot_len (pa_cons (pe_fld (pv 0) rfl) pa_nil)))) <|
        pss_cons (ps_for PassesOwn.never rfl (pi_list (pv 1)) (pg_tup rfl (pgs_cons (pg_name (i := 4) nd rfl (.inl rfl)) (pgs_cons (pg_name (i := 5) nd rfl (.inl rfl)) pgs_nil))) (pss_cons (ps_augS (pv 3) (pe_ix ix_tup (pv 4) pe_int (fun _ _ => rfl)) get_list (pv 5) ip_add set_list) <|
        pss_one (ps_augS (pv 3) (pe_call DEo.ok (hr.mono (by decide)) (by rfl) DEo.mg DEo.kp DEo.bd .nil pass0 (pa_cons (pv 0) (pa_cons (pv 4) pa_nil))) get_list (pv 5) ip_sub set_list))) <|
        pss_cons (ps_for PassesOwn.never rfl (pi_list (pv 2)) (pg_name (i := 6) nd rfl (.inl rfl)) (pss_cons (ps_augS (pv 3) (pe_ix ix_tup (pe_ix ix_list (pe_fld (pv 0) rfl) (pv 6) (fun _ _ => rfl)) pe_int (fun _ _ => rfl)) get_list pe_int ip_sub set_list) <|
        pss_one (ps_augS (pv 3) (pe_ix ix_tup (pe_ix ix_list (pe_fld (pv 0) rfl) (pv 6) (fun _ _ => rfl)) pe_int (fun _ _ => rfl)) get_list pe_int ip_add set_list))) <|
        pss_cons (ps_for PassesOwn.never rfl (pi_enum (by rfl) B.enum (pa_cons (pe_fld (pv 0) rfl) pa_nil)) (pg_tup rfl (pgs_cons (pg_name (i := 7) nd rfl (.inl rfl)) (pgs_cons (pg_name (i := 8) nd rfl (.inl rfl)) pgs_nil))) (pss_one (ps_if (PW.pt (pw_and (pt_cmpR op_ne (pe_ix ix_list (pv 3) (pv 7) (fun _ _ => rfl)) pe_int (nomark _)) (pw_and1 (pt_not (pt_val (pe_call DO.ok (hr.mono (by decide)) (by rfl) DO.mg DO.kp DO.bd .nil pass0 (pa_cons (pv 8) pa_nil))))))) (pss_one (ps_ret (pe_tup (pa_cons pe_str (pa_cons (pv 7) pa_nil))))) pss_nil))) <|
        pss_one (ps_ret pe_non), ?_⟩
    obtain ⟨dx, ob⟩ := id NA.ob
    obtain ⟨gv, hgv, ga⟩ := id NA.g
    obtain ⟨wv, hwv, wa⟩ := id NA.w
    have hlg : gv.length = gs.length := ga.1
    have hlw : wv.length = ws.length := wa.1
    have hgl := N.gl
    have hwl := N.wl
    have hev : ev.length = es.length := al.1
    refine ⟨(by show 1 ≤ sizeLine; decide), fun l0 hl0 => ?_⟩
    have s2 : Same H (upd H l0 (.lst [.int 0])) := same_new hl0
    have e2 : (upd H l0 (.lst [.int 0])) l0 = some (.lst [.int 0]) := upd_same
    obtain ⟨H2, hH2⟩ : ∃ H2, H2 = upd H l0 (.lst [.int 0]) := ⟨_, rfl⟩
    rw [← hH2] at s2 e2
    rw [← hH2]
    refine ⟨_, rfl, p, C, dx, _, _, rfl, s2 _ _ ob, T.cl, T.nG, nf_gates _ _, ng, gv, rfl, .inl (SqL.of (s2 _ _ hgv)), l0, _, [.int 0], rfl, rfl, e2, by omega, by omega, ?_, fun lm hlm => ?_⟩
    · have : 1 * ((gv.length : Nat) : Int).toNat ≤ sizeLine := Nat.le_of_lt (small1000 (by omega))
      exact this
    rw [Int.toNat_natCast, hlg, rep0]
    have s3 : Same H2 (upd H2 lm (.lst ((List.replicate gs.length (0 : Int)).map V.int))) := same_new hlm
    have e3 : (upd H2 lm (.lst ((List.replicate gs.length (0 : Int)).map V.int))) lm = some (.lst ((List.replicate gs.length (0 : Int)).map V.int)) := upd_same
    obtain ⟨H3, hH3⟩ : ∃ H3, H3 = upd H2 lm (.lst ((List.replicate gs.length (0 : Int)).map V.int)) := ⟨_, rfl⟩
    rw [← hH3] at s3 e3
    refine gn_normH (σ' := [some (.ref p), some (.ref lp), some (.ref lq), some (.ref lm), none, none, none, none, none]) (H' := H3) rfl hH3.symm ?_
    have s03 := s2.trans s3
    have hlm0 : H lm = none := s2.free hlm
    -- the pieces
    refine ⟨_, rfl, lp, rfl, ⟨_, s03.seq hlp⟩, for_list (K := K) (a := lp) (xs := ev) (fun i σ H' => ∃ (u4 u5 : Option V) (ms : List Int), σ = [some (.ref p), some (.ref lp), some (.ref lq), some (.ref lm), u4, u5, none, none, none] ∧ H' lm = some (.lst (ms.map V.int)) ∧ ms.length = gs.length ∧ (∀ g, ms.getD g 0 = psum (dlP ws g) (es.take i)) ∧ Same H H')
      ⟨_, _, _, rfl, e3, List.length_replicate, (fun g => by
        rw [List.getD_eq_getElem?_getD, List.getElem?_replicate]
        split <;> rfl), s03⟩ (fun i σ H' _ ⟨_, _, _, _, _, _, _, sm⟩ => sm.seq hlp) ?_ ?_⟩
    · rintro i v σ H4 hv ⟨u4, u5, ms, rfl, hms, hml, hmg, sm⟩
      obtain ⟨e, he, a, pv', rfl, sq, b', l', rfl, sp, sl⟩ := al.get hv
      obtain ⟨⟨k1, m, k2⟩, k3, k4⟩ := eok e (List.mem_of_getElem? he)
      have hm := k2.lt N k1
      refine ⟨a, _, rfl, (TK.same sm).seq sq, rfl, _, _, rfl, _, _, rfl, rfl, ?_⟩
      refine ⟨_, rfl, _, rfl, b', _, 0, _, rfl, rfl, (TK.same sm).seq sp, atI_nat (j := 0) rfl, lm, _, e.1.1, _, rfl, rfl, SqL.of hms, sgetD_at (by omega), _, rfl, _, _, rfl, rfl, lm, _, _, e.1.1, rfl, rfl, hms, Evl.ixN_nat (by rw [List.length_map]; omega), ?_⟩
      have s5 : Same H (upd H4 lm (.lst ((ms.map V.int).set e.1.1 (.int (ms.getD e.1.1 0 + e.2))))) := same_mut sm hlm0
      have e5 : (upd H4 lm (.lst ((ms.map V.int).set e.1.1 (.int (ms.getD e.1.1 0 + e.2))))) lm = some (.lst ((ms.set e.1.1 (ms.getD e.1.1 0 + e.2)).map V.int)) := by rw [upd_same, List.map_set]
      have h5 := fun g => getD_add (ms := ms) (i := e.1.1) (g := g) (d := e.2) (by omega)
      have l5 : (ms.set e.1.1 (ms.getD e.1.1 0 + e.2)).length = gs.length := by rw [List.length_set]; exact hml
      generalize upd H4 lm (.lst ((ms.map V.int).set e.1.1 (.int (ms.getD e.1.1 0 + e.2)))) = H5 at s5 e5
      generalize ms.set e.1.1 (ms.getD e.1.1 0 + e.2) = ms1 at e5 h5 l5
      refine ⟨_, rfl, _, rfl, _, rfl, p, ng, nw, gs, ws, _, e.1, rfl, NA.same s5, N, ⟨b', l', rfl, (TK.same s5).seq sp, s5.seq sl⟩, ⟨k1, m, k2⟩, ?_⟩
      rw [endW_of k2]
      refine ⟨lm, _, m, _, rfl, rfl, SqL.of e5, sgetD_at (by omega), _, rfl, _, _, rfl, rfl, lm, _, _, m, rfl, rfl, e5, Evl.ixN_nat (by rw [List.length_map]; omega), ?_⟩
      refine ⟨_, _, ms1.set m (ms1.getD m 0 - e.2), rfl, by rw [upd_same, List.map_set], by rw [List.length_set]; exact l5, fun g => ?_, same_mut s5 hlm0⟩
      have h6 := getD_add (ms := ms1) (i := m) (g := g) (d := -e.2) (by omega)
      rw [show ms1.getD m 0 - e.2 = ms1.getD m 0 + -e.2 by omega, h6, h5 g, hmg g, List.take_add_one, he]
      show _ = psum (dlP ws g) (es.take i ++ [e])
      rw [psum_snoc, dlP_eq (gs := gs) g k2, Int.sub_mul]
      have : dl g m * -e.2 = -(dl g m * e.2) := Int.mul_neg _ _
      omega
    rintro σ H4 ⟨u4, u5, ms, rfl, hms, hml, hmg, sm⟩
    rw [hev, List.take_length] at hmg
    -- the wires
    refine ⟨_, rfl, lq, rfl, ⟨_, sm.seq hlq⟩, for_list (K := K) (a := lq) (xs := nvs qs) (fun i σ H' => ∃ (u6 : Option V) (ms : List Int), σ = [some (.ref p), some (.ref lp), some (.ref lq), some (.ref lm), u4, u5, u6, none, none] ∧ H' lm = some (.lst (ms.map V.int)) ∧ ms.length = gs.length ∧ (∀ g, ms.getD g 0 = psum (dlP ws g) es - wdl (dl g) (us.take i)) ∧ Same H H')
      ⟨_, ms, rfl, hms, hml, (fun g => by
        rw [hmg g]
        show _ = _ - (0 : Int)
        omega), sm⟩ (fun i σ H' _ ⟨_, _, _, _, _, _, sm⟩ => sm.seq hlq) ?_ ?_⟩
    · rintro i v σ H5 hv ⟨u6, ms, rfl, hms, hml, hmg, sm⟩
      obtain ⟨k, hk, rfl⟩ := nvs_of hv
      obtain ⟨x, hux, hx⟩ := pu.get hk
      have WX := N.wok x (List.mem_of_getElem? hx)
      obtain ⟨_, hwvi, a, b2, rfl, sq1, sq2⟩ := wa.getR hx
      have ob5 := sm _ _ ob
      have h1s := WX.s
      have h1e := WX.e
      refine gn_norm (σ' := [some (.ref p), some (.ref lp), some (.ref lq), some (.ref lm), u4, u5, some (.int ((k : Nat) : Int)), none, none]) rfl ?_
      refine ⟨_, rfl, _, rfl, p, C, dx, _, _, rfl, ob5, T.cl, T.nW, nf_wires _ _, _, rfl, nw, wv, k, _, rfl, rfl, SqL.of (sm _ _ hwv), atI_nat hwvi, a, _, 0, _, rfl, rfl, (TK.same sm).seq sq1, atI_nat (j := 0) rfl, lm, _, x.1, _, rfl, rfl, SqL.of hms, sgetD_at (by omega), _, _, rfl, rfl, lm, _, _, x.1, rfl, rfl, hms, Evl.ixN_nat (by rw [List.length_map]; omega), ?_⟩
      have s6 : Same H (upd H5 lm (.lst ((ms.map V.int).set x.1 (.int (ms.getD x.1 0 - 1))))) := same_mut sm hlm0
      have e6 : (upd H5 lm (.lst ((ms.map V.int).set x.1 (.int (ms.getD x.1 0 - 1))))) lm = some (.lst ((ms.set x.1 (ms.getD x.1 0 + -1)).map V.int)) := by rw [upd_same, List.map_set]; rfl
      have h6 := fun g => getD_add (ms := ms) (i := x.1) (g := g) (d := -1) (by omega)
      have l6 : (ms.set x.1 (ms.getD x.1 0 + -1)).length = gs.length := by rw [List.length_set]; exact hml
      generalize upd H5 lm (.lst ((ms.map V.int).set x.1 (.int (ms.getD x.1 0 - 1)))) = H6 at s6 e6
      generalize ms.set x.1 (ms.getD x.1 0 + -1) = ms1 at e6 h6 l6
      refine ⟨_, rfl, _, rfl, p, C, dx, _, _, rfl, s6 _ _ ob, T.cl, T.nW, nf_wires _ _, _, rfl, nw, wv, k, _, rfl, rfl, SqL.of (s6 _ _ hwv), atI_nat hwvi, a, _, 1, _, rfl, rfl, (TK.same s6).seq sq1, atI_nat (j := 1) rfl, lm, _, x.2.1, _, rfl, rfl, SqL.of e6, sgetD_at (by omega), _, _, rfl, rfl, lm, _, _, x.2.1, rfl, rfl, e6, Evl.ixN_nat (by rw [List.length_map]; omega), ?_⟩
      refine ⟨_, ms1.set x.2.1 (ms1.getD x.2.1 0 + 1), rfl, by rw [upd_same, List.map_set], by rw [List.length_set]; exact l6, fun g => ?_, same_mut s6 hlm0⟩
      have h7 := getD_add (ms := ms1) (i := x.2.1) (g := g) (d := 1) (by omega)
      rw [h7, h6 g, hmg g, List.take_add_one, hux]
      show _ = _ - wdl (dl g) (us.take i ++ [x])
      rw [wdl_snoc]
      omega
    rintro σ H5 ⟨u6, ms, rfl, hms, hml, hmg, sm⟩
    rw [nvs_len, pu.1, List.take_length] at hmg
    -- no gate without its balance
    refine ⟨_, rfl, p, C, dx, _, _, rfl, sm _ _ ob, T.cl, T.nG, nf_gates _ _, ng, gv, rfl, SqL.of (sm _ _ hgv), for_it (walk_enum (K := K) (a := ng) (xs := gv)) (fun i σ H' => ∃ (u7 u8 : Option V), σ = [some (.ref p), some (.ref lp), some (.ref lq), some (.ref lm), u4, u5, u6, u7, u8] ∧ Same H5 H') ⟨_, _, rfl, Same.refl _⟩ (fun i σ H' _ ⟨_, _, _, s⟩ => SqL.of (s _ _ (sm _ _ hgv))) ?_ ?_⟩
    · rintro i v σ H6 H6' hi ⟨u7, u8, rfl, s6⟩ ⟨T', x1, y, rfl, hT, rfl, ex, ey⟩
      cases ex
      obtain ⟨g, hg, gvv⟩ := ga.get ey
      have hig : i < gs.length := (List.getElem?_eq_some_iff.mp hg).1
      have sT := same_new (o := .tup [.int (i : Nat), y]) hT
      have eT : (upd H6 T' (.tup [.int (i : Nat), y])) T' = some (.tup [.int (i : Nat), y]) := upd_same
      have s7 := s6.trans sT
      generalize upd H6 T' (.tup [.int (i : Nat), y]) = H7 at sT eT s7
      refine ⟨T', _, rfl, .inl (.inl eT), rfl, _, _, rfl, _, _, rfl, rfl, ?_⟩
      refine ⟨_, rfl, _, rfl, lm, _, i, _, rfl, rfl, SqL.of (s7 _ _ hms), atI_nat (sgetD_at (by omega)), rfl, _, rfl, ?_⟩
      by_cases h0 : ms.getD i 0 = 0
      · rw [h0, decide_eq_true rfl]
        exact iteF (iteF ⟨_, _, rfl, s7⟩)
      · rw [decide_eq_false fun e => h0 (V.int.inj e)]
        refine iteT ⟨_, rfl, _, g, rfl, gvv.tk (TK.same (sm.trans s7)), fun b hb => ⟨b, rfl, ?_⟩⟩
        cases b with
        | true => exact iteF ⟨_, _, rfl, s7⟩
        | false =>
          exfalso
          apply h0
          rw [hmg i]
          have hnp : ¬ portK (kindAt gs i) := fun hp => by
            rw [kindAt_get hg] at hp
            have := hb.mpr hp
            cases this
          have := bal i hig hnp
          omega
    · rintro σ H6 ⟨u7, u8, rfl, s6⟩
      exact q H6 (sm.trans s6)
abbrev nPaperFault : List Str := ["net", "beat", "thing"]
theorem scPaperFault : FnScope nPaperFault ["net", "beat", "thing"] (defScope sPaperFault) := ⟨rfl, rfl, rfl, by decide +kernel, rfl, by decide +kernel, by decide +kernel⟩
abbrev DPaperFault (P : Program) (w : World) (K : PySem.W.Frag) (mg : Str → Option Value) (base : Heap) (C : Addr) := Df P w K mg base 6 "paper_fault" ["net", "beat", "thing"] (spPaperFault K C)
theorem ok_paperFault {f fC fP fG C : Addr} {fd fdC fdP fdG : FuncData} (F : Fun K "paper_fault" "paper_fault" sPaperFault f fd) (hm : mg "paper_fault" = some (.ref f)) (B : Bt mg) (T : NT K mg C) (DCb : DChkB P w K mg base fC fdC) (DPp : DIsPaper P w K mg base C fP fdP) (DGf : DGateFault P w K mg base C fG fdG) : DPaperFault P w K mg base C f fd := by
  refine ⟨?_, hm, F.kp, F.binds fun _ _ _ _ _ _ us hl => match us, hl with | [_, _, _], _ => rfl⟩
  refine F.ok scPaperFault (fun vs H Q E h => ?_) (fun cdv A outer s H vs Q E hr h => ?_)
  · obtain ⟨p, ng, nw, lp, gs, ws, b, ev, es, rfl, _⟩ := h
    rfl
  · obtain ⟨p, ng, nw, lp, gs, ws, b, ev, es, rfl, NA, N, hb, hlp, al, eok, hel, bal, q⟩ := h
    have nd := scPaperFault.nd
    refine ⟨_, pss_cons (ps_expr (pe_call DCb.ok (hr.mono (by decide)) (by rfl) DCb.mg DCb.kp DCb.bd .nil pass0 (pa_cons (pv 1) pa_nil))) <|
        pss_cons (ps_if (pt_not (pt_val (pe_call DPp.ok (hr.mono (by decide)) (by rfl) DPp.mg DPp.kp DPp.bd .nil pass0 (pa_cons (pv 0) (pa_cons (pv 2) pa_nil))))) (pss_one (ps_ret (pe_tup (pa_cons pe_str pa_nil)))) pss_nil) <|
        pss_one (ps_ret (pe_call DGf.ok (hr.mono (by decide)) (by rfl) DGf.mg DGf.kp DGf.bd .nil pass0 (pa_cons (pv 0) (pa_cons (pv 2) (pa_cons (pe_listRg rfl (by rfl) B.list (prg_1 (by rfl) B.range (pe_callB call_len_seq (by rfl) B.len PySem.boot_len (pa_cons (pe_fld (pv 0) rfl) pa_nil)))) pa_nil))))), ?_⟩
    obtain ⟨dx, ob⟩ := id NA.ob
    obtain ⟨gv, hgv, ga⟩ := id NA.g
    obtain ⟨wv, hwv, wa⟩ := id NA.w
    have hlg : gv.length = gs.length := ga.1
    have hlw : wv.length = ws.length := wa.1
    have hgl := N.gl
    have hwl := N.wl
    refine ⟨_, rfl, b, rfl, hb, ?_⟩
    refine ⟨_, rfl, _, rfl, p, ng, nw, lp, gs, ws, ev, es, rfl, NA, N, hlp, al, eok, hel, fun H1 s1 => ⟨true, rfl, iteF ?_⟩⟩
    refine ⟨_, rfl, _, rfl, _, rfl, p, C, dx, _, _, rfl, s1 _ _ ob, T.cl, T.nW, nf_wires _ _, nw, wv, rfl, .inl (SqL.of (s1 _ _ hwv)), _, rfl, RgOk.of_le (by omega) (by omega) (by omega) (by omega), fun lq hlq => ?_⟩
    rw [rgV_nat, hlw]
    have s2 : Same H1 (upd H1 lq (.lst ((List.range ws.length).map fun i => V.int (i : Nat)))) := same_new hlq
    have e2 : (upd H1 lq (.lst ((List.range ws.length).map fun i => V.int (i : Nat)))) lq = some (.lst (nvs (List.range ws.length))) := upd_same
    generalize upd H1 lq (.lst ((List.range ws.length).map fun i => V.int (i : Nat))) = H2 at s2 e2
    have s12 := s1.trans s2
    exact ⟨p, ng, nw, lp, lq, List.range ws.length, gs, ws, ws, ev, es, rfl, NA.same s12, N, s12.seq hlp, al.imp fun _ _ r => EntV.same s12 r, eok, bal, range_all2 ws, SqL.of e2, fun H3 s3 => q H3 (s12.trans s3)⟩
abbrev nBoundOf : List Str := ["net", "thing", "beat"]
theorem scBoundOf : FnScope nBoundOf ["net", "thing", "beat"] (defScope sBoundOf) := ⟨rfl, rfl, rfl, by decide +kernel, rfl, by decide +kernel, by decide +kernel⟩
abbrev DBoundOf (P : Program) (w : World) (K : PySem.W.Frag) (mg : Str → Option Value) (base : Heap) (C : Addr) := Df P w K mg base 7 "bound_of" ["net", "thing", "beat"] (spBoundOf K C)
theorem ok_boundOf {f fP fR fI C : Addr} {fd fdP fdR fdI : FuncData} (F : Fun K "bound_of" "bound_of" sBoundOf f fd) (hm : mg "bound_of" = some (.ref f)) (DPf : DPaperFault P w K mg base C fP fdP) (DRg : DRegisters P w K mg base C fR fdR) (DRi : DRoomIn P w K mg base C fI fdI) : DBoundOf P w K mg base C f fd := by
  refine ⟨?_, hm, F.kp, F.binds fun _ _ _ _ _ _ us hl => match us, hl with | [_, _, _], _ => rfl⟩
  refine F.ok scBoundOf (fun vs H Q E h => ?_) (fun cdv A outer s H vs Q E hr h => ?_)
  · obtain ⟨p, ng, nw, lp, gs, ws, b, ev, es, rfl, _⟩ := h
    rfl
  · obtain ⟨p, ng, nw, lp, gs, ws, b, ev, es, rfl, NA, N, hb, hlp, al, eok, hel, bal, q⟩ := h
    have nd := scBoundOf.nd
    refine ⟨_, pss_cons (ps_if (pt_cmpR op_notN (pe_call DPf.ok (hr.mono (by decide)) (by rfl) DPf.mg DPf.kp DPf.bd .nil pass0 (pa_cons (pv 0) (pa_cons (pv 2) (pa_cons (pv 1) pa_nil)))) pe_non (nomark _)) (pss_one (ps_never)) pss_nil) <|
        pss_one (ps_ret (pe_op op_sub (pe_call DRg.ok (hr.mono (by decide)) (by rfl) DRg.mg DRg.kp DRg.bd .nil pass0 (pa_cons (pv 0) pa_nil)) (pe_call DRi.ok (hr.mono (by decide)) (by rfl) DRi.mg DRi.kp DRi.bd .nil pass0 (pa_cons (pv 0) (pa_cons (pv 2) (pa_cons (pv 1) pa_nil)))))), ?_⟩
    refine ⟨_, rfl, _, rfl, _, rfl, p, ng, nw, lp, gs, ws, b, ev, es, rfl, NA, N, hb, hlp, al, eok, hel, bal, fun H1 s1 => ⟨rfl, _, rfl, iteF ?_⟩⟩
    refine ⟨_, rfl, p, ng, nw, gs, ws, rfl, NA.same s1, N, fun H2 s2 => ?_⟩
    have s12 := s1.trans s2
    exact ⟨_, rfl, _, rfl, _, rfl, p, ng, nw, lp, gs, ws, b, ev, es, rfl, NA.same s12, N, s12.seq hlp, al.imp fun _ _ r => EntV.same s12 r, eok, hel, fun H3 s3 => ⟨_, _, rfl, rfl, q H3 (s12.trans s3)⟩⟩
abbrev nLetBounds : List Str := ["net", "beat", "kind", "told"]
theorem scLetBounds : FnScope nLetBounds ["net", "beat"] (defScope sLetBounds) := ⟨rfl, rfl, rfl, by decide +kernel, rfl, by decide +kernel, by decide +kernel⟩
abbrev DLetBounds (P : Program) (w : World) (K : PySem.W.Frag) (mg : Str → Option Value) (base : Heap) (C : Addr) := Df P w K mg base 5 "let_bounds" ["net", "beat"] (spLetBounds K C)
theorem ok_letBounds {f fF fB C : Addr} {fd fdF fdB : FuncData} (F : Fun K "let_bounds" "let_bounds" sLetBounds f fd) (hm : mg "let_bounds" = some (.ref f)) (DFb : DForBeat P w K mg base C fF fdF) (DBd : DBoundsFor P w K mg base C fB fdB) : DLetBounds P w K mg base C f fd := by
  refine ⟨?_, hm, F.kp, F.binds fun _ _ _ _ _ _ us hl => match us, hl with | [_, _], _ => rfl⟩
  refine F.ok scLetBounds (fun vs H Q E h => ?_) (fun cdv A outer s H vs Q E hr h => ?_)
  · obtain ⟨p, ng, nw, gs, ws, b, rfl, _⟩ := h
    rfl
  · obtain ⟨p, ng, nw, gs, ws, b, rfl, NA, N, hb, fe, q⟩ := h
    have nd := scLetBounds.nd
    refine ⟨_, pss_cons (ps_asg (pe_call DFb.ok (hr.mono (by decide)) (by rfl) DFb.mg DFb.kp DFb.bd .nil pass0 (pa_cons (pv 0) (pa_cons (pv 1) pa_nil))) (pg_tup rfl (pgs_cons (pg_name (i := 2) nd rfl (.inl rfl)) (pgs_cons (pg_name (i := 3) nd rfl (.inl rfl)) pgs_nil)))) <|
        pss_cons (ps_if (pt_cmpR op_eq (pv 2) pe_str (nomark _)) (pss_one (ps_never)) pss_nil) <|
        pss_one (ps_ret (pe_call DBd.ok (hr.mono (by decide)) (by rfl) DBd.mg DBd.kp DBd.bd .nil pass0 (pa_cons (pv 0) (pa_cons (pv 1) pa_nil)))), ?_⟩
    refine ⟨_, rfl, _, rfl, p, ng, nw, gs, ws, b, rfl, NA, N, hb, fun t H1 s1 ht fr => ?_⟩
    obtain ⟨wd, l', h1, h2, h3⟩ := fr.lags N
    have hw : wd = "lags" := h3.mpr fe
    subst hw
    refine ⟨t, _, rfl, .inl (.inl h1), rfl, _, _, rfl, _, _, rfl, rfl, ?_⟩
    refine ⟨_, rfl, rfl, _, rfl, iteF ?_⟩
    exact ⟨_, rfl, _, rfl, p, ng, nw, gs, ws, b, rfl, NA.same s1, N, fun lb bv bps H2 s2 hlb elb al bok hbl hpce => q lb bv bps H2 (s1.trans s2) (s1.free hlb) elb (al.imp fun _ _ r => r.weak fun l h k => h (s1.free k)) bok hbl hpce⟩
end
end Lag


set_option maxRecDepth 100000
set_option maxHeartbeats 8000000
namespace Lag
open PySem PySem.Spec PyProof.Rows L2
theorem papF_len {bps : List (Bnd × Pce)} {f : List Int} : (papF bps f).length ≤ bps.length := by
  unfold papF
  rw [List.length_map]
  refine Nat.le_trans (List.length_filter_le _ _) ?_
  rw [List.length_zip]
  exact Nat.min_le_left _ _
theorem papF_num {bps : List (Bnd × Pce)} {f : List Int} {e : Ent} (h : e ∈ papF bps f) : e.2 ∈ f := by
  unfold papF at h
  obtain ⟨z, hz, rfl⟩ := List.mem_map.mp h
  exact (List.of_mem_zip (List.mem_filter.mp hz).1).2
theorem BdsOk.satL {gs : List Gt} {ws : List Wr} {b : Int} {bps : List (Bnd × Pce)} {L : Nat → Int} (N : NetOk gs ws) (h : BdsOk gs ws b (bps.map fun bp => bp.2) (bps.map fun bp => bp.1)) (f : Feas gs ws b L) : Sat (bps.map fun bp => bp.1) (spotL gs L) := fun bd hb => by
  obtain ⟨i, hi⟩ := List.getElem?_of_mem hb
  obtain ⟨pc, _, e, h1, h2, rfl⟩ := h.al.getR hi
  show spotL gs L (spotF gs pc.1) ≤ spotL gs L (spotF gs e) + roomF gs ws b pc
  rw [f.spot h1, f.spot (h2.lt N h1)]
  exact f.room h1 h2
theorem lagsAt_wdl (gs : List Gt) (ws : List Wr) (G : Nat → Int) : wdl (lagsAt gs G) ws = wdl (fun x => G (spotF gs x)) ws := by
  unfold wdl
  refine congrArg List.sum (List.map_congr_left fun x _ => ?_)
  show G (spotF gs x.1) - G gs.length - (G (spotF gs x.2.1) - G gs.length) = G (spotF gs x.1) - G (spotF gs x.2.1)
  omega
theorem kept_room {gs : List Gt} {ws : List Wr} {b R : Int} {bps : List (Bnd × Pce)} {g : List Int} {ks : List Kpt} (h : BdsOk gs ws b (bps.map fun bp => bp.2) (bps.map fun bp => bp.1)) (hpce : ∀ bp ∈ bps, PceOk gs ws bp.2 ∧ bp.2.2.length ≤ 1000) (hR : 1 ≤ R) (hb : ∀ s e c, s < gs.length → best gs ws s e = some c → c.1 ≤ R) (k : Kept (bps.map fun bp => bp.1) g ks) : ∀ b ∈ ks.map (fun e => e.1), -R ≤ b.2.2 := fun bd hm => by
  obtain ⟨e, he, rfl⟩ := List.mem_map.mp hm
  obtain ⟨b0, h1, h2⟩ := k.ok e he
  obtain ⟨bp, hbp, rfl⟩ := List.mem_map.mp (List.mem_of_getElem? h1)
  have h3 := h.bp bp hbp
  obtain ⟨e', h4, h5⟩ := h.bst bp.2 (List.mem_map.mpr ⟨bp, hbp, rfl⟩)
  have h6 := hb _ _ _ (hpce bp hbp).1.1 h5
  have h6 : prg ws bp.2.2 ≤ R := h6
  have h7 := prg_nn ws bp.2.2
  have h8 : -1 ≤ bp.1.2.2 ∧ bp.1.2.2 ≤ R := by
    rw [h3]
    show -1 ≤ roomF gs ws b bp.2 ∧ roomF gs ws b bp.2 ≤ R
    unfold roomF
    split <;> omega
  rcases h2 with ⟨_, h9⟩ | ⟨_, h9, _⟩
  · rw [h9]
    omega
  · rw [h9]
    show -R ≤ -bp.1.2.2
    omega
section
variable {P : Program} {w : World} {K : PySem.W.Frag} {mg : Str → Option Value} {base : Heap}
abbrev nFewest : List Str := ["net", "beat", "bounds", "flow", "kept", "paper"]
theorem scFewest : FnScope nFewest ["net", "beat"] (defScope sFewest) := ⟨rfl, rfl, rfl, by decide +kernel, rfl, by decide +kernel, by decide +kernel⟩
abbrev DFewest (P : Program) (w : World) (K : PySem.W.Frag) (mg : Str → Option Value) (base : Heap) (C : Addr) := Df P w K mg base 8 "fewest" ["net", "beat"] (spFewest K C)
theorem ok_fewest {f fL fF fS fP fO fB fN C : Addr} {fd fdL fdF fdS fdP fdO fdB fdN : FuncData} (F : Fun K "fewest" "fewest" sFewest f fd) (hm : mg "fewest" = some (.ref f)) (B : Bt mg) (T : NT K mg C) (DLb : DLetBounds P w K mg base C fL fdL) (DLf : DLeastFlow P w K mg base fF fdF) (DSi : DSpotsIn P w K mg base C fS fdS) (DPl : DPlainFlow P w K mg base C fP fdP) (DPo : DPaperOf P w K mg base fO fdO) (DBo : DBoundOf P w K mg base C fB fdB) (DNl : DNearLags P w K mg base C fN fdN) : DFewest P w K mg base C f fd := by
  refine ⟨?_, hm, F.kp, F.binds fun _ _ _ _ _ _ us hl => match us, hl with | [_, _], _ => rfl⟩
  refine F.ok scFewest (fun vs H Q E h => ?_) (fun cdv A outer s H vs Q E hr h => ?_)
  · obtain ⟨p, ng, nw, gs, ws, b, rfl, _⟩ := h
    rfl
  · obtain ⟨p, ng, nw, gs, ws, b, rfl, NA, N, hb, fe, q⟩ := h
    have nd := scFewest.nd
    refine ⟨_, pss_cons (ps_set (i := 2) nd rfl (.inl rfl) (pe_call DLb.ok (hr.mono (by decide)) (by rfl) DLb.mg DLb.kp DLb.bd .nil pass0 (pa_cons (pv 0) (pa_cons (pv 1) pa_nil)))) <|
        pss_cons (ps_asg (pe_call DLf.ok (hr.mono (by decide)) (by rfl) DLf.mg DLf.kp DLf.bd .nil pass0 (pa_cons (pe_call DSi.ok (hr.mono (by decide)) (by rfl) DSi.mg DSi.kp DSi.bd .nil pass0 (pa_cons (pv 0) pa_nil)) (pa_cons (pv 2) (pa_cons (pe_call DPl.ok (hr.mono (by decide)) (by rfl) DPl.mg DPl.kp DPl.bd .nil pass0 (pa_cons (pv 0) (pa_cons (pv 2) (pa_cons (pe_listRg rfl (by rfl) B.list (prg_1 (by rfl) B.range (pe_callB call_len_seq (by rfl) B.len PySem.boot_len (pa_cons (pe_fld (pv 0) rfl) pa_nil)))) pa_nil)))) pa_nil)))) (pg_tup rfl (pgs_cons (pg_name (i := 3) nd rfl (.inl rfl)) (pgs_cons (pg_name (i := 4) nd rfl (.inl rfl)) pgs_nil)))) <|
        pss_cons (ps_set (i := 5) nd rfl (.inl rfl) (pe_call DPo.ok (hr.mono (by decide)) (by rfl) DPo.mg DPo.kp DPo.bd .nil pass0 (pa_cons (pv 2) (pa_cons (pv 3) pa_nil)))) <|
        pss_one (ps_ret (pe_tup (pa_cons (pe_call DBo.ok (hr.mono (by decide)) (by rfl) DBo.mg DBo.kp DBo.bd .nil pass0 (pa_cons (pv 0) (pa_cons (pv 5) (pa_cons (pv 1) pa_nil)))) (pa_cons (pe_call DNl.ok (hr.mono (by decide)) (by rfl) DNl.mg DNl.kp DNl.bd .nil pass0 (pa_cons (pv 0) (pa_cons (pe_call DSi.ok (hr.mono (by decide)) (by rfl) DSi.mg DSi.kp DSi.bd .nil pass0 (pa_cons (pv 0) pa_nil)) (pa_cons (pv 4) pa_nil)))) (pa_cons (pv 5) pa_nil))))), ?_⟩
    obtain ⟨dx, ob⟩ := id NA.ob
    obtain ⟨gv, hgv, ga⟩ := id NA.g
    obtain ⟨wv, hwv, wa⟩ := id NA.w
    have hlg : gv.length = gs.length := ga.1
    have hlw : wv.length = ws.length := wa.1
    have hgl := N.gl
    have hwl := N.wl
    refine ⟨_, rfl, _, rfl, p, ng, nw, gs, ws, b, rfl, NA, N, hb, fe, fun lb bv bps H1 s1 hlb0 hlb al bok hbl hpce => ?_⟩
    have hbl2 := hbl
    have hpce9 := hpce
    have hpce : ∀ bp ∈ bps, PceOk gs ws bp.2 ∧ bp.2.2.length ≤ 1000 := fun bp h => ⟨(hpce9 bp h).1, Nat.le_trans (hpce9 bp h).2 (by decide)⟩
    have hbl : bps.length ≤ 10000 := Nat.le_trans hbl (Nat.mul_le_mul hgl hgl)
    refine gn_norm (σ' := [some (.ref p), some (.int b), some (.ref lb), none, none, none]) rfl ?_
    refine ⟨_, rfl, p, ng, nw, gs, ws, rfl, NA.same s1, ?_⟩
    refine ⟨_, rfl, _, rfl, _, rfl, _, rfl, p, C, dx, _, _, rfl, s1 _ _ ob, T.cl, T.nW, nf_wires _ _, nw, wv, rfl, .inl (SqL.of (s1 _ _ hwv)), _, rfl, RgOk.of_le (by omega) (by omega) (by omega) (by omega), fun lq hlq => ?_⟩
    rw [rgV_nat, hlw]
    have s2 : Same H1 (upd H1 lq (.lst ((List.range ws.length).map fun i => V.int (i : Nat)))) := same_new hlq
    have e2 : (upd H1 lq (.lst ((List.range ws.length).map fun i => V.int (i : Nat)))) lq = some (.lst (nvs (List.range ws.length))) := upd_same
    generalize upd H1 lq (.lst ((List.range ws.length).map fun i => V.int (i : Nat))) = H2 at s2 e2
    have s12 := s1.trans s2
    have al2 := al.imp fun _ _ r => BpV.same s2 r
    refine ⟨p, ng, nw, lb, lq, List.range ws.length, gs, ws, ws, b, bv, bps, rfl, NA.same s12, N, s2 _ _ hlb, ⟨_, al2⟩, bok, by omega, hpce, range_all2 ws, SqL.of e2, fun l0 f0 H3 s3 hl0 el0 hf0l hf00 hft => ?_⟩
    obtain ⟨L0, hL0⟩ := id fe
    have S0 := bok.satL N hL0
    have s23 := s2.trans s3
    have al3 := al.imp fun _ _ r => BpV.same s23 r
    refine ⟨gs.length + 1, lb, l0, bv, bps.map fun bp => bp.1, f0, rfl, by omega, by omega, s23 _ _ hlb, bpv_bnd al3, bok.below N, by rw [List.length_map]; omega, SqL.of el0, by rw [List.length_map]; exact hf0l, (fun x hx => (hf00 x hx).1), ⟨_, S0⟩, fun t lg lk kv ks g F H4 s4 et eg ek hlk ka kp hkl hgl' hg0 ⟨hgt, hup⟩ sat hle hlow => ?_⟩
    refine ⟨t, _, rfl, .inl (.inl et), rfl, _, _, rfl, _, _, rfl, rfl, ?_⟩
    refine gn_norm (σ' := [some (.ref p), some (.int b), some (.ref lb), some (.ref lg), some (.ref lk), none]) rfl ?_
    have s14 := s23.trans s4
    have s04 := s1.trans s14
    have al4 := al.imp fun _ _ r => BpV.same s14 r
    rw [List.length_map] at hgl'
    -- the paper
    refine ⟨_, rfl, _, rfl, lb, lg, lb, bv, bps, g, _, rfl, s14 _ _ hlb, al4, SqL.of eg, hgl', by omega, fun lp ev H5 s5 hlp elp ea => ?_⟩
    refine gn_norm (σ' := [some (.ref p), some (.int b), some (.ref lb), some (.ref lg), some (.ref lk), some (.ref lp)]) rfl ?_
    have s05 := s04.trans s5
    have hbp := bok.bp
    have gt2 : ∀ F, wsum (dF F) (bps.map fun bp => bp.1) g = wdl (fun x => F (spotF gs x)) ws := fun F => (hgt F).trans (hft F)
    have bal := pap_bal hbp hg0 gt2
    have room := pap_room hbp hg0
    have eok : ∀ e ∈ papF bps g, EntOk gs ws e := fun e he => by
      obtain ⟨⟨bp, h1, h2⟩, h3⟩ := papF_mem he
      obtain ⟨k1, k2⟩ := hpce bp h1
      exact ⟨by rw [h2]; exact k1, by rw [h2]; exact k2, h3⟩
    have pl := papF_len (bps := bps) (f := g)
    refine ⟨_, rfl, _, rfl, _, rfl, p, ng, nw, lp, gs, ws, b, ev, papF bps g, rfl, NA.same s05, N, hb, SqL.of elp, (ea.imp fun _ _ r => r.ent), eok, by omega, bal, fun H6 s6 => ?_⟩
    have s06 := s05.trans s6
    have s46 := s5.trans s6
    refine ⟨_, rfl, _, rfl, p, ng, nw, gs, ws, rfl, NA.same s06, ?_⟩
    refine ⟨_, rfl, p, ng, nw, lk, gs.length + 1, gs, ws, kv, ks.map fun e => e.1, fun v => F.getD v 0, rfl, Nat.le_refl _, by omega, NA.same s06, N, s46 _ _ ek, (kpt_bnd ka).imp fun _ _ r => BndV.tk (TK.same s46) r, kp.below (bok.below N), by rw [List.length_map]; exact hkl, sat, fun ll G H7 s7 hll ell satG hlim => ?_⟩
    refine ⟨_, rfl, (by show 3 ≤ sizeLine; decide), fun tt htt => ?_⟩
    have st := same_new (o := .tup [.int (regsum ws - psum (roomF gs ws b) (papF bps g)), .ref ll, .ref lp]) htt
    have s67 := s6.trans s7
    have s5t := s67.trans st
    obtain ⟨satB, _⟩ := kp.sat satG
    have tight := kp.tight hg0 satG
    refine q tt ll lp _ (lagsAt gs G) ev (papF bps g) _ (s06.trans (s7.trans st)) upd_same (s06.free hll) (st _ _ ell) (s04.free hlp) (s5t _ _ elp) (ea.imp fun _ _ r => EntZ.same s5t r) eok (by omega) bal (bok.lags N satB) ?_ rfl (fun R hR hn hbst g' hg' => hlim (fun v hv => ?_) g' hg') (Nat.le_trans pl hbl2) (fun e he => ?_) (fun e he => by
      obtain ⟨⟨bp, h1, h2⟩, _⟩ := papF_mem he
      rw [h2]
      exact (hpce9 bp h1).2)
    · rw [cntsum_eq, lagsAt_wdl, ← gt2 G, tight, room]
    · have hr := hlow R (by omega) (kept_room bok hpce hR hbst kp)
      have h1 := hr v (by omega)
      have h2 := hr gs.length (by omega)
      have h3 := hle v
      have h4 := hle gs.length
      have h5 : ((gs.length + 1 : Nat) : Int) * R ≤ 500 := hn
      show F.getD v 0 - F.getD gs.length 0 ≤ 500 ∧ -500 ≤ F.getD v 0 - F.getD gs.length 0
      omega
    · obtain ⟨pp, hpp⟩ := List.getElem?_of_mem (papF_num he)
      have hx : g.getD pp 0 = e.2 := by rw [List.getD_eq_getElem?_getD, hpp]; rfl
      have h1 := hup pp
      rw [hx] at h1
      have hf1 : f0.getD pp 0 ≤ 1000 := by
        rw [List.getD_eq_getElem?_getD]
        cases ee : f0[pp]? with
        | none => exact (by decide : (0 : Int) ≤ 1000)
        | some y =>
          have := (hf00 y (List.mem_of_getElem? ee)).2
          show y ≤ 1000
          omega
      have hroom : ∀ bd ∈ bps.map (fun bp => bp.1), -100000 ≤ bd.2.2 ∧ bd.2.2 ≤ 100000 := fun bd hbd => by
        obtain ⟨bp, hb1, rfl⟩ := List.mem_map.mp hbd
        rw [hbp bp hb1]
        have := room_bd (b := b) N (hpce bp hb1).1 (hpce bp hb1).2
        show -100000 ≤ roomF gs ws b bp.2 ∧ roomF gs ws b bp.2 ≤ 100000
        omega
      have hfb : ∀ x ∈ f0, 0 ≤ x ∧ x ≤ 1000 := fun x hx => by
        have := hf00 x hx
        omega
      have c1 := (wsum_bd (A := 100000) (X := 1000) (by decide) (by decide) (c := fun b => b.2.2) hroom hfb).2
      have hkr : ∀ bd ∈ ks.map (fun e => e.1), -100000 ≤ bd.2.2 := fun bd hm => by
        obtain ⟨e', he', rfl⟩ := List.mem_map.mp hm
        obtain ⟨b0, k1, k2⟩ := kp.ok e' he'
        have := hroom b0 (List.mem_of_getElem? k1)
        rcases k2 with ⟨_, k3⟩ | ⟨_, k3, _⟩
        · rw [k3]
          omega
        · rw [k3]
          show -100000 ≤ -b0.2.2
          omega
      have hlo := hlow 100000 (by decide) hkr
      have hF : ∀ v, v < gs.length + 1 → -10100000 ≤ F.getD v 0 ∧ F.getD v 0 ≤ 0 := fun v hv => by
        have := hlo v hv
        have := hle v
        omega
      have hdF : ∀ bd ∈ bps.map (fun bp => bp.1), -10100000 ≤ dF (fun v => F.getD v 0) bd ∧ dF (fun v => F.getD v 0) bd ≤ 10100000 := fun bd hbd => by
        obtain ⟨k1, k2⟩ := bok.below N bd hbd
        have := hF _ k1
        have := hF _ k2
        unfold dF
        dsimp only
        omega
      have c2 := (wsum_bd (A := 10100000) (X := 1000) (by decide) (by decide) hdF hfb).1
      have t1 := kp.tight hg0 sat
      rw [hgt] at t1
      rw [t1] at c2
      rw [List.length_map] at c1 c2
      have e30 : (10 : Int) ^ 30 = 1000000000000000000000000000000 := by decide
      rw [e30]
      omega
end
end Lag


set_option maxRecDepth 100000
set_option maxHeartbeats 8000000
/-! ### promises of defs that show data (repr): they are kept where no guard is up -/
namespace Lag
open PySem PySem.Spec PyProof.Rows L2
/-- FnOk, where no guard is up -/
structure FnG (P : Program) (w : World) (K : PySem.W.Frag) (mg : Str → Option Value) (base : Heap) (CX : CXT) (k : Nat) (f : Addr) (fd : FuncData) (ps : List Str) (sp : Sp) : Prop where
  len : ∀ vs H Q E, sp vs H Q E → vs.length = ps.length
  run : ∀ (A : Around) (outer : List Env) (s : Shared) (H : Hp) (args : Args) (us : List Value) (vs : List V) (Q : VK) (E : XK), A.guards = some [] → Room k A → Env0 P w K mg base A outer s H → BindsTo s fd args (ps.zip us) → Vals vs us → sp vs H Q E →
    codeAny (model P w) A (.call (.ref f) args) (CR CX outer P w H s Q E) s
theorem fn_g {P : Program} {w : World} {K : PySem.W.Frag} {mg : Str → Option Value} {base : Heap} {CX : CXT} {k : Nat} {f : Addr} {fd : FuncData} {ps : List Str} {sp : Sp} (F : FnOk P w K mg base CX k f fd ps sp) : FnG P w K mg base CX k f fd ps sp :=
  ⟨F.len, fun A outer s H args us vs Q E _ => F.run A outer s H args us vs Q E⟩
/-- a def by its body, entered where no guard is up -/
theorem fnG_of {CX : CXT} {P : Program} {w : World} {K : PySem.W.Frag} {mg : Str → Option Value} {base : Heap} {k : Nat} {f : Addr} {name qual : Str} {params : Arguments} {body : List Stmt} {scope : Scope} {dV kV doc pm cdv ct oc : Value} {an od : Option Addr}
    {osl : Array (Option Value)} {N ps : List Str} {sp : Sp} (lk : K.lookup f = some ⟨oc, od, .func (PySem.W.fnOf name qual params body scope dV kV doc pm an cdv ct), osl⟩) (hcd : PySem.W.codeIn K cdv qual = true) (S : FnScope N ps scope)
    (len : ∀ vs H Q E, sp vs H Q E → vs.length = ps.length)
    (hbody : ∀ (A : Around) (outer : List Env) (s : Shared) (H : Hp) (vs : List V) (Q : VK) (E : XK), A.guards = some [] → Room k (A.deeper (envOfC qual scope s.heap.objs.size f cdv)) → sp vs H Q E →
      ∃ t, PSs (cxOf CX P w K mg base N qual scope f cdv A outer s H E) body t ∧ t { nx := fun _ H' => Q .non H', rt := Q } (start N vs) H) :
    FnG P w K mg base CX (k + 1) f (PySem.W.fnOf name qual params body scope dV kV doc pm an cdv ct) ps sp := by
  constructor
  case len => exact len
  case run =>
    intro A outer s H args us vs Q E hg hr e0 hb r hsp
    obtain ⟨t, ht, hq⟩ := hbody A outer s H vs Q E hg (hr.deeper _) hsp
    have lst : ∀ b o, base.get? b = some o → s.heap.get? b = some o := fun b o e => (e0.bs b o e).1
    have KX : K.In s.heap := e0.mod.kin.keeps lst
    refine codeAny_call_function hr.depth (KX _ _ lk) rfl S.co S.gen rfl (PySem.W.codeRec_of KX hcd) (hb _ _ _ _ (wpAny_newFunctionEnv_cells S.kind (fun y hy => ?_) fun env he s1 x => ?_))
    · have hn : y.1 ∈ ps := (List.of_mem_zip (show (y.1, y.2) ∈ ps.zip us from hy)).1
      exact (S.par y.1 hn).imp id fun z => ⟨z, PySem.W.cellsFrom_some _ _ _ (.inl z)⟩
    · cases he
      refine ⟨(e0.mod.nolimit.keeps lst).keeps x.toInCall.keep, codeAny_func (wpAny_mono (ht.run [] s1 (start N vs) H _ (inv_start S hr.hd e0 (len _ _ _ _ hsp) r x) hq) (fun fl s' hs => ?_) fun e s' hs => hs)⟩
      match fl, hs with
      | .ret u, ⟨v, σ', H', J, rv, q⟩ => exact ⟨v, H', J.os, J.bare, J.base, J.hok, rv, q⟩
      | .next, ⟨σ', H', J, q⟩ => exact ⟨V.non, H', J.os, J.bare, J.base, J.hok, rfl, q⟩
      | .brk, ⟨_, _, _, q⟩ => exact False.elim q
      | .cont, ⟨_, _, _, q⟩ => exact False.elim q
section
variable {X : Cx} {CX : CXT} {k : Nat} {f : Addr} {fd : FuncData} {ps : List Str} {sp : Sp} {dvs : List V} {ds : List Value} {E : XK} {x : Str} {p pos : Pos} {e : Expr} {es : List Expr} {t : TA}
/-- f(..) of such a def, in a body that was entered where no guard is up -/
theorem pe_callG (F : FnG X.prog X.w X.K X.mg X.base CX k f fd ps sp) (gd : X.A.guards = some []) (hr : Room k X.A) (hg : Gl X x) (hm : X.mg x = some (.ref f)) (hk : PySem.W.keepIn X.K (.ref f) = true) (hb : Binds X.K fd ps ds) (hd : Vals dvs ds) (hx : Passes CX X E)
    (ha : PA X (e :: es) t) (hdb : (x == ("__debug__" : Str)) = false := by decide) (he : starEach (e :: es) X.env = (false, eval e X.env) :: starEach es X.env := by rfl) (hpl : (backTo pos (starEach es X.env)).any (·.1) = false := by rfl) :
    PE X (.Call (.Name x p) (e :: es) [] pos) (tCall sp dvs E t) := by
  constructor
  intro pins s σ H Q I h
  refine wpAny_Call_Name_kw (ld_glob I hg hm (PySem.W.callWith_K (h₀ := X.base) I.ok.mod.kin hk (thn (ha.run pos pins s σ H _ I h) fun us s1 ⟨vs, H1, I1, r, q⟩ => ⟨I1.kIn, ?_⟩) he hpl) hdb)
  have r2 : Vals (vs ++ dvs) (us ++ ds) := r.append hd
  have hl : (us ++ ds).length = ps.length := by rw [← r2.length]; exact F.len _ _ _ _ q
  refine wpAny_call (codeAny_mono (F.run X.A X.stack s1 H1 ⟨us, []⟩ (us ++ ds) (vs ++ dvs) Q E gd hr I1.env0 (hb s1 us I1.kIn hl) r2 q) fun rr s' hq => ?_)
  match rr, hq with
  | .error e, hq => exact hx pins σ H1 s1 e s' I1 hq
  | .ok (.ret u), hq => exact I1.after hq
end
section
variable {X : Cx}
mutual
theorem dp_noDict {K : PySem.W.Frag} {H : Hp} : ∀ (d : PyData) {v : V}, Dp K H v d → d.hasDict = false
  | .none, _, _ => rfl
  | .bool _, _, _ => rfl
  | .int _, _, _ => rfl
  | .str _, _, _ => rfl
  | .list ds, _, h => by
    cases h with
    | lst _ a => exact dp_noDicts ds a
  | .tuple ds, _, h => by
    cases h with
    | tup _ a => exact dp_noDicts ds a
  | .dict _, _, h => by cases h
theorem dp_noDicts {K : PySem.W.Frag} {H : Hp} : ∀ (ds : List PyData) {vs : List V}, DpAll K H vs ds → PyData.hasDictAll ds = false
  | [], _, _ => rfl
  | d :: ds, _, h => by
    cases h with
    | cons h1 h2 =>
      show (d.hasDict || PyData.hasDictAll ds) = false
      rw [dp_noDict d h1, dp_noDicts ds h2]
      rfl
end
/-- repr of a list or a tuple of data -/
def rRepr (K : PySem.W.Frag) : List V → Hp → VK → Prop := fun xs H Q => ∃ (a : Addr) (d : PyData), xs = [.ref a] ∧ Dp K H (.ref a) d ∧ d.showable = true ∧ d.depth < 64 ∧ d.shown.length ≤ sizeLine ∧ Q (.str d.shown) H
theorem call_repr (gd : X.A.guards = some []) (hu : X.A.units + 65 < cLine) : CallR X (.builtin "repr") (rRepr X.K) := by
  intro pins s σ H xs us Q I r h
  obtain ⟨a, d, rfl, dp, sh, dd, hz, q⟩ := h
  obtain ⟨u, rfl, rx⟩ := vals1 r
  obtain ⟨as, rd⟩ := Dp.reads I d _ _ dp rx
  cases rx
  refine repr_of_reads' rd sh (fun hd => ?_) gd (by omega) (fun _ _ e => e) (fun h' u tk hk => ?_) hz
  · rw [dp_noDict d dp] at hd
    cases hd
  · exact I.after ⟨.str d.shown, H, rfl, I.bare, Un.kept hk, I.hok.kept hk, ⟨_, rfl⟩, q⟩
end
end Lag


set_option maxRecDepth 100000
set_option maxHeartbeats 8000000
/-! ### the end of a law whose promise is kept where no guard is up -/
namespace Lag
open PySem PySem.Spec PyProof.Rows L2
/-- the script as the law finds it: one of the module's own objects, or tracked as it stands -/
theorem script_at {P : Program} {w : World} {K : PySem.W.Frag} {a : Addr} {s : Shared} {vs : List Value} {ns : List Int} (KX : K.In s.heap) (ha : s.heap.get? a = some { cls := .type "list", data := .seq vs.toArray }) (hi : IntsAre vs ns) (hl : ns.length ≤ sizeLine) :
    ∃ H : Hp, Only H ∧ SqL K H a (ns.map V.int) ∧ HOk P w H s.heap ∧ ∀ b u, H b = some u → b = a ∧ K.lookup b = none := by
  have rv := vals_ints hi
  have lenV := hi.length
  by_cases hk : ∃ o, K.lookup a = some o
  · obtain ⟨o, hk⟩ := hk
    have e := KX a o hk
    rw [ha] at e
    cases e
    exact ⟨fun _ => none, fun _ => .inl rfl, .inr ⟨_, vs.toArray, _, hk, rfl, rfl, rfl, (by rw [List.size_toArray, lenV]; exact hl), (by simpa using rv)⟩, (fun b u z => by cases z), (fun b u z => by cases z)⟩
  · have hn : K.lookup a = none := Option.eq_none_iff_forall_ne_some.mpr fun o e => hk ⟨o, e⟩
    refine ⟨upd (fun _ => none) a (.frz { cls := .type "list", data := .seq vs.toArray } (.lst (ns.map V.int))), fun b => ?_, .inl (.inr ⟨_, upd_same⟩), fun b u z => ?_, fun b u z => ?_⟩
    · by_cases hb : b = a
      · rw [hb]
        exact .inr ⟨_, _, upd_same⟩
      · exact .inl (upd_ne hb)
    · by_cases hb : b = a
      · subst hb
        rw [upd_same] at z
        cases z
        exact ⟨ha, by rw [List.length_map]; exact hl, vs, _, rv, ha⟩
      · rw [upd_ne hb] at z
        cases z
    · by_cases hb : b = a
      · exact ⟨hb, by rw [hb]; exact hn⟩
      · rw [upd_ne hb] at z
        cases z
theorem lawG_call {P : Program} {w : World} {K : PySem.W.Frag} {mg mb : Str → Option Value} {CX : CXT} {k : Nat} {fa a : Addr} {fd : FuncData} {x : Str} {sp : Sp} {s : Shared} {vs : List Value} {ns : List Int}
    (KX : K.In s.heap) (hns : s.heap.Ns mainGlobals mg) (hb : s.heap.Ns builtinsNs mb) (hbb : ∀ x : Str, x ≠ "__name__" → mb x = bootBuiltins x) (hlim : s.heap.NoLimit) (hg : s.gens = #[])
    (ha : s.heap.get? a = some { cls := .type "list", data := .seq vs.toArray }) (hi : IntsAre vs ns) (hl : ns.length ≤ sizeLine) (hr : Room k callerA)
    (F : ∀ base : Heap, K.In base → base.Ns mainGlobals mg → FnG P w K mg base CX k fa fd [x] sp) (hbind : ∀ (s : Shared) (u : Value), BindsTo s fd ⟨[u], []⟩ [(x, u)])
    (hsp : ∀ H : Hp, Only H → SqL K H a (ns.map V.int) → sp [.ref a] H (fun v _ => v = .bl true) fun _ _ _ => False)
    (hCX : ∀ H e s', CX [] H s (fun _ _ _ => False) e s' → False) :
    codeAny (model P w) callerA (.call (.ref fa) ⟨[.ref a], []⟩) (fun r s' => r = .ok (.ret (.bool true)) ∧ OldK s.heap s'.heap ∧ s'.os = s.os ∧ AllBare s'.gens) s := by
  obtain ⟨H, only, sq, hok, own⟩ := script_at (P := P) (w := w) KX ha hi hl
  have free : ∀ {b : Addr} {o : Obj}, s.heap.get? b = some o → (b = a → (K.lookup b).isSome = true ∨ ∃ es ep, o.data = .dict es ep) → H b = none := fun {b o} e h => by
    cases q : H b with
    | none => rfl
    | some u =>
      obtain ⟨e1, e2⟩ := own b u q
      rcases h e1 with z | ⟨es, ep, z⟩
      · rw [e2] at z
        cases z
      · rw [e1, ha] at e
        have z2 : o.data = Data.seq vs.toArray 0 := (congrArg Obj.data (Option.some.inj e)).symm
        rw [z2] at z
        cases z
  have inB : ∀ {b : Addr} {o : Obj}, s.heap.get? b = some o → H b = none → (hidT s.heap H).get? b = some o := fun e n => hidT_get e n
  have nsB : ∀ {b : Addr} {m : Str → Option Value}, s.heap.Ns b m → (hidT s.heap H).Ns b m := fun ⟨o, es, ep, e, d, r⟩ => ⟨o, es, ep, inB e (free e fun _ => .inr ⟨es, ep, d⟩), d, r⟩
  have KB : K.In (hidT s.heap H) := fun b o e => inB (KX b o e) (free (KX b o e) fun _ => .inl (by rw [e]; rfl))
  obtain ⟨mc, l1, l2⟩ := hlim
  have e0 : Env0 P w K mg (hidT s.heap H) callerA [] s H :=
    { frames := rfl, mod := ⟨KB, nsB hns, ⟨mb, nsB hb, hbb⟩, ⟨mc, nsB l1, l2⟩⟩, bs := fun b o e => of_hidT e, bsz := Nat.le_of_eq (hidT_size _ _), funs := trivial, frf := (fun b z => by cases z), hok := hok, bare := .of_eq hg }
  refine codeAny_mono ((F _ KB (nsB hns)).run callerA [] s H ⟨[.ref a], []⟩ [.ref a] [.ref a] _ _ rfl hr e0 (hbind s (.ref a)) (.cons rfl .nil) (hsp H only sq)) fun r s' h => ?_
  match r, h with
  | .error e, h => exact (hCX H e s' h).elim
  | .ok (.ret u), ⟨v, H', os, bare, un, hok', rv, q⟩ =>
    have q' : v = .bl true := q
    subst q'
    cases rv
    refine ⟨rfl, OldK.of_keep fun b o e => ?_, os, bare⟩
    rcases only b with z | ⟨ob, xs, z⟩
    · exact un.keep b o e z (by intro z; cases z) (by simp)
    · obtain ⟨e1, _⟩ := hok b _ z
      obtain ⟨e2, _⟩ := hok' b _ (un.frzs b ob _ z)
      rw [e] at e1
      cases e1
      exact e2
theorem walkG_of {l : PySem.W.OpenLaw} {n k : Nat} {q : Program} {loose : List Str} {XP : (Str → Option Value) → Heap → Prop} {YP : World → Heap → Prop} {d : DefRec} {K : Params → PySem.W.Frag} {CX : World → CXT} {sp : World → Sp} {x : Str}
    (hn : l.most = some n) (hn2 : n ≤ sizeLine) (hdf : d.params.defaults = []) (hr : Room k callerA)
    (hY : ∀ (w : World) (h : Heap), YP w h → (K w.params).In h)
    (F : ∀ (w : World) (mg : Str → Option Value) (fa : Addr) (h : Heap), (K w.params).In h → h.Ns mainGlobals mg → mg d.name = some (.ref fa) →
      ∃ fd : FuncData, (∀ (s : Shared) (u : Value), BindsTo s fd ⟨[u], []⟩ [(x, u)]) ∧
        ∀ base : Heap, (K w.params).In base → base.Ns mainGlobals mg → FnG l.prog w (K w.params) mg base (CX w) k fa fd [x] (sp w))
    (hsp : ∀ (w : World) (H : Hp) (a : Addr) (ns : List Int), ns.length ≤ n → Only H → SqL (K w.params) H a (ns.map V.int) → sp w [.ref a] H (fun v _ => v = .bl true) fun _ _ _ => False)
    (hCX : ∀ (w : World) (H : Hp) (s : Shared) (e : Value) (s' : Shared), CX w [] H s (fun _ _ _ => False) e s' → False) :
    PySem.W.WalkO q loose XP YP l.row.toRowW d [] (fun f vs => PySem.call f vs) :=
  Att.attach_call hn hdf fun w s₀ s₁ mg mb fa o pm cd doc a vs ns G Y ho hd hcd hmg hobj hints hlen hg => by
    obtain ⟨fd, hb, hF⟩ := F w mg fa _ (hY w _ Y) G.T.g hmg
    exact lawG_call (hY w _ Y) G.T.g G.T.b G.T.builtins G.T.nolimit hg hobj hints (Nat.le_trans hlen hn2) hr hF hb (fun H hO hS => hsp w H a ns hlen hO hS) fun H e s' => hCX w H s₁ e s'
end Lag


set_option maxRecDepth 100000
set_option maxHeartbeats 8000000
/-! ### repr of data in which an empty dict may stand -/
namespace Lag
open PySem PySem.Spec PyProof.Rows L2
mutual
inductive Dx (K : PySem.W.Frag) (Av : Addr → Prop) (H : Hp) : V → PyData → Prop
  | non : Dx K Av H .non .none
  | bl (b : Bool) : Dx K Av H (.bl b) (.bool b)
  | int (i : Int) : Dx K Av H (.int i) (.int i)
  | str (x : Str) : Dx K Av H (.str x) (.str x)
  | lst {a : Addr} {xs : List V} {ds : List PyData} : H a = some (.lst xs) → Av a → DxAll K Av H xs ds → Dx K Av H (.ref a) (.list ds)
  | tup {a : Addr} {xs : List V} {ds : List PyData} : SqT K H a xs → DxAll K Av H xs ds → Dx K Av H (.ref a) (.tuple ds)
  | dic {a : Addr} : H a = some (.dK []) → Dx K Av H (.ref a) (.dict [])
inductive DxAll (K : PySem.W.Frag) (Av : Addr → Prop) (H : Hp) : List V → List PyData → Prop
  | nil : DxAll K Av H [] []
  | cons {v : V} {vs : List V} {d : PyData} {ds : List PyData} : Dx K Av H v d → DxAll K Av H vs ds → DxAll K Av H (v :: vs) (d :: ds)
end
abbrev Any : Addr → Prop := fun _ => True
/-- from heap to heap, and to fewer demands on the lists -/
structure XM (K : PySem.W.Frag) (Av Av' : Addr → Prop) (H H' : Hp) : Prop where
  l : ∀ a xs, Av a → H a = some (.lst xs) → H' a = some (.lst xs) ∧ Av' a
  t : ∀ a xs, SqT K H a xs → SqT K H' a xs
  d : ∀ a, H a = some (.dK []) → H' a = some (.dK [])
mutual
theorem Dx.move {K : PySem.W.Frag} {Av Av' : Addr → Prop} {H H' : Hp} (m : XM K Av Av' H H') : ∀ (d : PyData) {v : V}, Dx K Av H v d → Dx K Av' H' v d
  | .none, _, h => by cases h; exact .non
  | .bool _, _, h => by cases h; exact .bl _
  | .int _, _, h => by cases h; exact .int _
  | .str _, _, h => by cases h; exact .str _
  | .list ds, _, h => by
    cases h with
    | lst s n a => exact .lst (m.l _ _ n s).1 (m.l _ _ n s).2 (DxAll.move m ds a)
  | .tuple ds, _, h => by
    cases h with
    | tup s a => exact .tup (m.t _ _ s) (DxAll.move m ds a)
  | .dict _, _, h => by
    cases h with
    | dic e => exact .dic (m.d _ e)
theorem DxAll.move {K : PySem.W.Frag} {Av Av' : Addr → Prop} {H H' : Hp} (m : XM K Av Av' H H') : ∀ (ds : List PyData) {vs : List V}, DxAll K Av H vs ds → DxAll K Av' H' vs ds
  | [], _, h => by cases h; exact .nil
  | d :: ds, _, h => by
    cases h with
    | cons a b => exact .cons (Dx.move m d a) (DxAll.move m ds b)
end
theorem XM.same {K : PySem.W.Frag} {Av : Addr → Prop} {H H' : Hp} (s : Same H H') : XM K Av Av H H' := ⟨fun a xs n h => ⟨s _ _ h, n⟩, fun a xs h => (TK.same s).seq h, fun a h => s _ _ h⟩
theorem XM.any {K : PySem.W.Frag} {Av : Addr → Prop} {H : Hp} : XM K Av Any H H := ⟨fun a xs n h => ⟨h, trivial⟩, fun a xs h => h, fun a h => h⟩
theorem Dx.same {K : PySem.W.Frag} {Av : Addr → Prop} {H H' : Hp} {d : PyData} {v : V} (h : Dx K Av H v d) (s : Same H H') : Dx K Av H' v d := Dx.move (.same s) d h
theorem Dx.any {K : PySem.W.Frag} {Av : Addr → Prop} {H : Hp} {d : PyData} {v : V} (h : Dx K Av H v d) : Dx K Any H v d := Dx.move .any d h
theorem XM.dr {K : PySem.W.Frag} {w : Addr} {H H' : Hp} (W : WellAt w H) (r : Dr w H H') : XM K (· ≠ w) (· ≠ w) H H' := ⟨fun a xs n h => ⟨r.but _ _ n h, n⟩, fun a xs h => (TK.dr W r.but).seq h, fun a h => r.but _ _ (fun z => by
  obtain ⟨ys, e, _⟩ := W
  rw [z, e] at h
  cases h) h⟩
theorem Dx.dr {K : PySem.W.Frag} {w : Addr} {H H' : Hp} {d : PyData} {v : V} (h : Dx K (· ≠ w) H v d) (W : WellAt w H) (r : Dr w H H') : Dx K (· ≠ w) H' v d := Dx.move (.dr W r) d h
theorem DxAll.all2 {K : PySem.W.Frag} {Av : Addr → Prop} {H : Hp} : ∀ {vs : List V} {ds : List PyData}, DxAll K Av H vs ds → All2 (Dx K Av H) vs ds
  | _, _, .nil => All2.nil
  | v :: vs, d :: ds, .cons h r => by
    have a := DxAll.all2 r
    refine ⟨by rw [List.length_cons, List.length_cons, a.1], fun i x y hx hy => ?_⟩
    cases i with
    | zero =>
      cases hx
      cases hy
      exact h
    | succ i => exact a.2 i x y hx hy
theorem DxAll.from2 {K : PySem.W.Frag} {Av : Addr → Prop} {H : Hp} : ∀ {vs : List V} {ds : List PyData}, All2 (Dx K Av H) vs ds → DxAll K Av H vs ds
  | [], [], _ => .nil
  | [], _ :: _, a => by have := a.1; simp at this
  | _ :: _, [], a => by have := a.1; simp at this
  | _ :: _, _ :: _, a => .cons (a.head) (DxAll.from2 a.tail)
section
variable {X : Cx} {pins : List (Addr × Obj)} {σ : L2.St} {H : Hp} {s : Shared}
theorem dx_empty (I : Inv X pins σ H s) {a : Addr} (e : H a = some (.dK [])) : (a == sysModules) = false ∧ ∃ o n, s.heap.get? a = some o ∧ o.cls = .type "dict" ∧ o.data = .dict #[] n := by
  obtain ⟨_, hs, vs, kv, o, es, ep, h1, h2, h3, _, h5, _⟩ := dk_of I.hok e
  cases kv
  refine ⟨hs, o, ep, h1, h2.1, ?_⟩
  have : es = #[] := by
    obtain ⟨l⟩ := es
    cases l with
    | nil => rfl
    | cons x r => cases h5
  rw [h3, this]
mutual
theorem Dx.show {Av : Addr → Prop} (I : Inv X pins σ H s) : ∀ (d : PyData) (v : V) (u : Value), Dx X.K Av H v d → RelV v u → d.showable = true → d.shown.length ≤ sizeLine → ∃ as bs, Reads s.heap u d as ∧ ReadAtMost s.heap d.depth bs ∧ ReprK X.prog X.w bs s.heap d.depth u d.shown
  | .none, _, _, h, r, _, _ => by
    cases h
    cases r
    exact ⟨_, [], Reads.none, (fun _ h => nomatch h), by simp only [PyData.shown]; exact .of_is ReprIs.none _ _ _⟩
  | .bool b, _, _, h, r, _, _ => by
    cases h
    cases r
    exact ⟨_, [], Reads.bool b, (fun _ h => nomatch h), by simp only [PyData.shown]; exact .of_is (ReprIs.bool b) _ _ _⟩
  | .int i, _, _, h, r, hs, _ => by
    cases h
    obtain ⟨t, rfl⟩ := r
    exact ⟨_, [], Reads.int i t, (fun _ h => nomatch h), by simp only [PyData.shown]; exact .of_is (ReprIs.int t (by simpa [PyData.showable] using hs)) _ _ _⟩
  | .str x, _, _, h, r, _, hz => by
    cases h
    obtain ⟨t, rfl⟩ := r
    exact ⟨_, [], Reads.str x t, (fun _ h => nomatch h), by simp only [PyData.shown]; exact .of_is (ReprIs.str x t (by simpa only [PyData.shown] using hz)) _ _ _⟩
  | .list ds, _, _, h, r, hs, hz => by
    cases h with
    | lst hq hav ha =>
      cases r
      obtain ⟨its, rv, ⟨o, n, ho, hc, _, hd⟩, _⟩ := I.list (SqL.of hq)
      have hz' : (listText (PyData.shownAll ds)).length ≤ sizeLine := by simpa only [PyData.shown] using hz
      obtain ⟨as, bs, r1, hb, hk⟩ := DxAll.show I ds _ its ha rv (by simpa [PyData.showable] using hs) (fun t ht => Nat.le_trans (listText_mem_le ht) hz')
      have r := Reads.list ho hc hd r1
      have hna := not_mem_of_deeper r (by simp only [PyData.depth]; omega) hb
      refine ⟨_, _ :: bs, r, ReadAtMost.cons r (by simp only [PyData.depth]; omega) hb, ?_⟩
      simp only [PyData.depth, PyData.shown]
      cases its with
      | nil =>
        cases r1
        simp only [PyData.shownAll, listText_nil]
        exact ReprK.listEmpty ho hc hd
      | cons x l => exact ReprK.list ho hc hd hna (by simpa using hk.length_eq) (fun i y e => hk.item i y (by simpa using e))
  | .tuple ds, _, _, h, r, hs, hz => by
    cases h with
    | tup hq ha =>
      cases r
      obtain ⟨its, rv, ⟨o, ho, hc, n, hd⟩, _⟩ := I.tuple hq
      have hz' : (tupleText (PyData.shownAll ds)).length ≤ sizeLine := by simpa only [PyData.shown] using hz
      obtain ⟨as, bs, r1, hb, hk⟩ := DxAll.show I ds _ its ha rv (by simpa [PyData.showable] using hs) (fun t ht => Nat.le_trans (tupleText_mem_le ht) hz')
      have r := Reads.tuple ho hc hd r1
      have hna := not_mem_of_deeper r (by simp only [PyData.depth]; omega) hb
      refine ⟨_, _ :: bs, r, ReadAtMost.cons r (by simp only [PyData.depth]; omega) hb, ?_⟩
      simp only [PyData.depth, PyData.shown]
      exact ReprK.tuple ho hc hd hna hk
  | .dict kvs, _, _, h, r, hs, hz => by
    cases h with
    | dic e =>
      cases r
      obtain ⟨hsys, o, n, h1, h2, h3⟩ := dx_empty I e
      have r := Reads.dict (kvs := []) (as := []) (bs := []) h1 h2 h3 (by exact ReadsAll.nil) (by exact ReadsAll.nil)
      refine ⟨_, [_], r, ReadAtMost.cons (n := 0) r (Nat.zero_le _) (fun _ h => nomatch h), ?_⟩
      simp only [PyData.depth, PyData.shown, PyData.shownKv_eq]
      exact ReprK.dict h1 h2 h3 hsys (by simp) (ReprEntriesK.of_two [] _ _ .nil .nil)
theorem DxAll.show {Av : Addr → Prop} (I : Inv X pins σ H s) : ∀ (ds : List PyData) (vs : List V) (us : List Value), DxAll X.K Av H vs ds → Vals vs us → PyData.showableAll ds = true → (∀ t ∈ PyData.shownAll ds, t.length ≤ sizeLine) → ∃ as bs, ReadsAll s.heap us ds as ∧ ReadAtMost s.heap (PyData.depthAll ds) bs ∧ ReprAllK X.prog X.w bs s.heap (PyData.depthAll ds) us (PyData.shownAll ds)
  | [], _, _, h, r, _, _ => by
    cases h
    cases r
    exact ⟨_, [], ReadsAll.nil, (fun _ h => nomatch h), by simp only [PyData.shownAll]; exact .nil⟩
  | d :: ds, _, _, h, r, hs, hz => by
    cases h with
    | cons h1 h2 =>
      cases r with
      | cons r1 r2 =>
        have hs' : d.showable = true ∧ PyData.showableAll ds = true := by simpa [PyData.showableAll] using hs
        obtain ⟨a1, b1, q1, hb1, k1⟩ := Dx.show I d _ _ h1 r1 hs'.1 (hz _ (by simp only [PyData.shownAll]; exact List.mem_cons_self ..))
        obtain ⟨a2, b2, q2, hb2, k2⟩ := DxAll.show I ds _ _ h2 r2 hs'.2 (fun t ht => hz t (by simp only [PyData.shownAll]; exact List.mem_cons_of_mem _ ht))
        refine ⟨_, b1 ++ b2, ReadsAll.cons q1 q2, ?_, ?_⟩
        · intro b hm
          simp only [PyData.depthAll]
          rcases List.mem_append.mp hm with hm | hm
          · obtain ⟨d', as', r', hd'⟩ := hb1 b hm
            exact ⟨d', as', r', Nat.le_trans hd' (Nat.le_max_left _ _)⟩
          · obtain ⟨d', as', r', hd'⟩ := hb2 b hm
            exact ⟨d', as', r', Nat.le_trans hd' (Nat.le_max_right _ _)⟩
        · simp only [PyData.depthAll, PyData.shownAll]
          exact .cons ((k1.more fun b hb => List.mem_append_left _ hb).level_le (Nat.le_max_left _ _)) (k2.more_le (fun b hb => List.mem_append_right _ hb) (Nat.le_max_right _ _))
end
end
section
variable {X : Cx}
/-- repr of such data -/
def rReprX (K : PySem.W.Frag) : List V → Hp → VK → Prop := fun xs H Q => ∃ (v : V) (d : PyData), xs = [v] ∧ Dx K Any H v d ∧ d.showable = true ∧ d.depth < 64 ∧ d.shown.length ≤ sizeLine ∧ Q (.str d.shown) H
theorem call_reprX (gd : X.A.guards = some []) (hu : X.A.units + 65 < cLine) : CallR X (.builtin "repr") (rReprX X.K) := by
  intro pins s σ H xs us Q I r h
  obtain ⟨v, d, rfl, dx, sh, dd, hz, q⟩ := h
  obtain ⟨u, rfl, rx⟩ := vals1 r
  have fin : ∀ (h' : Heap) (u : Tok) (tk : Nat), (∀ b o, s.heap.get? b = some o → h'.get? b = some o) → ∃ (v : V) (H' : Hp), Inv X pins σ H' { s with heap := h', toks := tk } ∧ RelV v (.str d.shown u) ∧ Q v H' := fun h' u tk hk => I.after ⟨.str d.shown, H, rfl, I.bare, Un.kept hk, I.hok.kept hk, ⟨_, rfl⟩, q⟩
  cases dx with
  | non =>
    cases rx
    exact PySem.P.repr_of_none (fin s.heap _ _ fun _ _ e => e)
  | bl b =>
    cases rx
    refine PySem.P.repr_of_bool ?_
    have e : (if b then ("True" : Str) else "False") = PyData.shown (.bool b) := by cases b <;> rfl
    exact fin s.heap _ _ fun _ _ e => e
  | int i =>
    obtain ⟨t, rfl⟩ := rx
    exact PySem.P.repr_of_int (by simpa [PyData.showable] using sh) (fin s.heap _ _ fun _ _ e => e)
  | str x =>
    obtain ⟨t, rfl⟩ := rx
    exact PySem.P.repr_of_str (fin s.heap _ _ fun _ _ e => e) (by simpa only [PyData.shown] using hz)
  | lst hq hav ha =>
    rename_i a xs ds
    cases rx
    obtain ⟨its, rv, ⟨o, n, ho, hc, _, hd⟩, _⟩ := I.list (SqL.of hq)
    have hz' : (listText (PyData.shownAll ds)).length ≤ sizeLine := by simpa only [PyData.shown] using hz
    obtain ⟨as, bs, r1, hb, hk⟩ := DxAll.show I ds _ its ha rv (by simpa [PyData.showable] using sh) (fun t ht => Nat.le_trans (listText_mem_le ht) hz')
    have hna : a ∉ bs := not_mem_of_deeper (Reads.list ho hc hd r1) (by simp only [PyData.depth]; omega) hb
    refine call_repr_slot (by omega) ⟨o, ho, hc⟩ (F.slot_list_repr.toG) ?_
    simp only [PyData.depth] at dd
    simp only [PyData.shown] at fin
    cases its with
    | nil =>
      cases r1
      simp only [PyData.shownAll, listText_nil] at fin
      exact call_list_repr_empty ⟨o, ho, hc⟩ ho hd ⟨_, _, rfl, fin s.heap _ _ fun _ _ e => e⟩
    | cons x l =>
      exact call_list_reprK ho hc hd hna (by simpa using hk.length_eq) (fun i y e => hk.item i y (by simpa using e)) gd (fun b _ => Clear.nil b) (by show X.A.units + 1 + _ < cLine; omega) (fun _ _ e => e) (fun h' u tk hk => ⟨_, _, rfl, fin h' u tk hk⟩) hz'
  | tup hq ha =>
    rename_i a xs ds
    cases rx
    obtain ⟨its, rv, ⟨o, ho, hc, n, hd⟩, _⟩ := I.tuple hq
    have hz' : (tupleText (PyData.shownAll ds)).length ≤ sizeLine := by simpa only [PyData.shown] using hz
    obtain ⟨as, bs, r1, hb, hk⟩ := DxAll.show I ds _ its ha rv (by simpa [PyData.showable] using sh) (fun t ht => Nat.le_trans (tupleText_mem_le ht) hz')
    have hna : a ∉ bs := not_mem_of_deeper (Reads.tuple ho hc hd r1) (by simp only [PyData.depth]; omega) hb
    refine call_repr_slot (by omega) ⟨o, ho, hc⟩ F.slot_tuple_repr ?_
    simp only [PyData.depth] at dd
    simp only [PyData.shown] at fin
    exact call_tuple_reprK ho hc hd hna hk gd (fun b _ => Clear.nil b) (by show X.A.units + 1 + _ < cLine; omega) (fun _ _ e => e) (fun h' u tk hk => ⟨_, _, rfl, fin h' u tk hk⟩) hz'
  | dic e =>
    rename_i a
    cases rx
    obtain ⟨hsys, o, n, h1, h2, h3⟩ := dx_empty I e
    refine call_repr_slot (by omega) ⟨o, h1, h2⟩ F.slot_dict_repr ?_
    simp only [PyData.depth] at dd
    simp only [PyData.shown, PyData.shownKv_eq] at fin hz
    exact call_dict_reprK (as := []) (d := 0) h1 h2 h3 hsys (by simp) (ReprEntriesK.of_two [] _ _ .nil .nil) gd (fun b _ => Clear.nil b) (by show X.A.units + 1 + _ < cLine; omega) (fun _ _ e => e) (fun h' u tk hk => ⟨_, _, rfl, fin h' u tk hk⟩) hz
end
end Lag


set_option maxRecDepth 100000
set_option maxHeartbeats 8000000
namespace Lag
open PySem PySem.Spec PyProof.Rows L2
/-! ### str of data -/
def strD : PyData → Str
  | .str x => x
  | d => d.shown
theorem strD_ns {d : PyData} (h : ∀ x, d ≠ .str x) : strD d = d.shown := by
  cases d <;> first | rfl | exact absurd rfl (h _)
def StrOk (K : PySem.W.Frag) (H : Hp) (v : V) (d : PyData) : Prop := Dp K H v d ∨ ∃ a, v = .ref a ∧ H a = some (.dK []) ∧ d = .dict []
def rStrX (K : PySem.W.Frag) : List V → Hp → VK → Prop := fun xs H Q => ∃ (v : V) (d : PyData), xs = [v] ∧ StrOk K H v d ∧ d.showable = true ∧ d.depth < 60 ∧ d.shown.length ≤ sizeLine ∧ Q (.str (strD d)) H
section
variable {X : Cx}
theorem call_strX (gd : X.A.guards = some []) (hu : X.A.units + 65 < cLine) : CallR X (.type "str") (rStrX X.K) := by
  intro pins s σ H xs us Q I r h
  obtain ⟨v, d, rfl, dx, sh, dd, hz, q⟩ := h
  obtain ⟨u, rfl, rx⟩ := vals1 r
  have fin : ∀ (h' : Heap) (u : Tok) (tk : Nat), (∀ b o, s.heap.get? b = some o → h'.get? b = some o) → ∃ (v : V) (H' : Hp), Inv X pins σ H' { s with heap := h', toks := tk } ∧ RelV v (.str (strD d) u) ∧ Q v H' := fun h' u tk hk => I.after ⟨.str (strD d), H, rfl, I.bare, Un.kept hk, I.hok.kept hk, ⟨_, rfl⟩, q⟩
  rcases dx with dp | ⟨a, rfl, e, rfl⟩
  · cases dp with
    | non =>
      cases rx
      exact PySem.P.str_of_none (fin s.heap _ _ fun _ _ e => e)
    | bl b =>
      cases rx
      refine PySem.P.str_of_bool ?_
      have e : (if b then ("True" : Str) else "False") = strD (.bool b) := by cases b <;> rfl
      rw [e]
      exact fin s.heap _ _ fun _ _ e => e
    | int i =>
      obtain ⟨t, rfl⟩ := rx
      exact PySem.P.str_of_int (by simpa [PyData.showable] using sh) (fin s.heap _ _ fun _ _ e => e)
    | str x =>
      obtain ⟨t, rfl⟩ := rx
      exact PySem.P.str_of_str (fin s.heap _ _ fun _ _ e => e)
    | @lst a xs ds hq ha =>
      have dp : Dp X.K H (.ref a) (.list ds) := .lst hq ha
      obtain ⟨as, rd⟩ := Dp.reads I _ _ _ dp rx
      cases rx
      refine str_of_reads rd sh (fun hd => ?_) gd (by omega) (fun _ _ e => e) (fun h' u tk hk => fin h' u tk hk) hz
      rw [dp_noDict _ dp] at hd
      cases hd
    | @tup a xs ds hq ha =>
      have dp : Dp X.K H (.ref a) (.tuple ds) := .tup hq ha
      obtain ⟨as, rd⟩ := Dp.reads I _ _ _ dp rx
      cases rx
      refine str_of_reads rd sh (fun hd => ?_) gd (by omega) (fun _ _ e => e) (fun h' u tk hk => fin h' u tk hk) hz
      rw [dp_noDict _ dp] at hd
      cases hd
  · cases rx
    obtain ⟨hsys, o, n, h1, h2, h3⟩ := dx_empty I e
    have rd : Reads s.heap (.ref a) (.dict []) (a :: [] ++ []) := Reads.dict (kvs := []) (as := []) (bs := []) h1 h2 h3 .nil .nil
    exact str_of_reads rd sh (fun _ hm => by
      have hm : sysModules ∈ [a] := hm
      rw [List.mem_singleton] at hm
      rw [← hm] at hsys
      simp at hsys) gd (by omega) (fun _ _ e => e) (fun h' u tk hk => fin h' u tk hk) hz
end
end Lag

set_option maxRecDepth 100000
set_option maxHeartbeats 8000000
namespace Lag
open PySem PySem.Spec PyProof.Rows L2
/-! ### data of any kind where a number or a turn is asked -/
def dI : PyData → Bool
  | .int _ => true
  | .bool _ => true
  | _ => false
def dB : PyData → Bool
  | .bool _ => true
  | _ => false
def dT : PyData → Bool
  | .tuple _ => true
  | _ => false
def dL : PyData → Bool
  | .list _ => true
  | _ => false
def wholeD : PyData → Bool
  | .int _ => true
  | _ => false
def fromD : PyData → Int → Int → Bool
  | .int n, a, b => decide (a ≤ n) && decide (n ≤ b)
  | _, _, _ => false
theorem whole_is (d : PyData) : wholeD d = (dI d && !dB d) := by cases d <;> rfl
theorem Dx.ty {K : PySem.W.Frag} {Av : Addr → Prop} {H : Hp} {v : V} {d : PyData} (h : Dx K Av H v d) : ∃ t : String, TyX K H v (.type t) ∧ kitB t "int" = some (dI d) ∧ kitB t "bool" = some (dB d) ∧ kitB t "tuple" = some (dT d) ∧ kitB t "list" = some (dL d) := by
  cases h with
  | non => exact ⟨"NoneType", .base .non, (show kitB "NoneType" "int" = some false by decide +kernel), (show kitB "NoneType" "bool" = some false by decide +kernel), (show kitB "NoneType" "tuple" = some false by decide +kernel), (show kitB "NoneType" "list" = some false by decide +kernel)⟩
  | bl b => exact ⟨"bool", .base (.bl b), (show kitB "bool" "int" = some true by decide +kernel), (show kitB "bool" "bool" = some true by decide +kernel), (show kitB "bool" "tuple" = some false by decide +kernel), (show kitB "bool" "list" = some false by decide +kernel)⟩
  | int i => exact ⟨"int", .base (.int i), (show kitB "int" "int" = some true by decide +kernel), (show kitB "int" "bool" = some false by decide +kernel), (show kitB "int" "tuple" = some false by decide +kernel), (show kitB "int" "list" = some false by decide +kernel)⟩
  | str x => exact ⟨"str", .base (.str x), (show kitB "str" "int" = some false by decide +kernel), (show kitB "str" "bool" = some false by decide +kernel), (show kitB "str" "tuple" = some false by decide +kernel), (show kitB "str" "list" = some false by decide +kernel)⟩
  | lst s n a => exact ⟨"list", ty_lst (SqL.of s), (show kitB "list" "int" = some false by decide +kernel), (show kitB "list" "bool" = some false by decide +kernel), (show kitB "list" "tuple" = some false by decide +kernel), (show kitB "list" "list" = some true by decide +kernel)⟩
  | tup s a => exact ⟨"tuple", ty_tup s, (show kitB "tuple" "int" = some false by decide +kernel), (show kitB "tuple" "bool" = some false by decide +kernel), (show kitB "tuple" "tuple" = some true by decide +kernel), (show kitB "tuple" "list" = some false by decide +kernel)⟩
  | dic e => exact ⟨"dict", .base (.dK e), (show kitB "dict" "int" = some false by decide +kernel), (show kitB "dict" "bool" = some false by decide +kernel), (show kitB "dict" "tuple" = some false by decide +kernel), (show kitB "dict" "list" = some false by decide +kernel)⟩
def spWholeD (K : PySem.W.Frag) : Sp := fun vs H Q _ => ∃ (v : V) (d : PyData), vs = [v] ∧ Dx K Any H v d ∧ Q (.bl (wholeD d)) H
def spFromToD (K : PySem.W.Frag) : Sp := fun vs H Q _ => ∃ (v : V) (d : PyData) (a b : Int), vs = [v, .int a, .int b] ∧ Dx K Any H v d ∧ Q (.bl (fromD d a b)) H
theorem from_whole {d : PyData} {a b : Int} (h : wholeD d = false) : fromD d a b = false := by
  cases d <;> first | rfl | cases h
/-! ### pieces of any kind -/
/-- the places of a walk from a gate, where they are one -/
def walkD (ws : List Wr) : Nat → List PyData → Option (List Nat)
  | _, [] => some []
  | g, .int p :: ds => if 0 ≤ p ∧ p < ws.length ∧ (svW ws p.toNat).1 = g then (walkD ws (svW ws p.toNat).2.1 ds).map (p.toNat :: ·) else none
  | _, _ :: _ => none
def pieceD (gs : List Gt) (ws : List Wr) : PyData → Option Pce
  | .tuple [.int g, .list ds] => if 0 ≤ g ∧ g < gs.length then (walkD ws g.toNat ds).map fun ps => (g.toNat, ps) else none
  | _ => none
def pceD (pc : Pce) : PyData := .tuple [.int (pc.1 : Nat), .list (pc.2.map fun p => .int (p : Nat))]
theorem walk_int {ws : List Wr} {g : Nat} {p : Int} {ds : List PyData} : (walkD ws g (.int p :: ds)).isSome = (fromD (.int p) 0 ((ws.length : Int) - 1) && (decide ((svW ws p.toNat).1 = g) && (walkD ws (svW ws p.toNat).2.1 ds).isSome)) := by
  simp only [walkD]
  by_cases h : 0 ≤ p ∧ p < ws.length ∧ (svW ws p.toNat).1 = g
  · rw [if_pos h]
    have h1 : decide (0 ≤ p) = true := decide_eq_true h.1
    have h2 : decide (p ≤ (ws.length : Int) - 1) = true := decide_eq_true (by omega)
    show _ = ((decide (0 ≤ p) && decide (p ≤ (ws.length : Int) - 1)) && _)
    rw [h1, h2, decide_eq_true h.2.2, Option.isSome_map]
    rfl
  · rw [if_neg h]
    symm
    rw [Option.isSome_none, Bool.eq_false_iff]
    intro z
    simp only [fromD, Bool.and_eq_true, decide_eq_true_eq] at z
    exact h ⟨z.1.1, by omega, z.2.1⟩
theorem walk_not {ws : List Wr} {g : Nat} {d : PyData} {ds : List PyData} (h : wholeD d = false) : walkD ws g (d :: ds) = none := by
  cases d <;> first | (simp only [walkD]; done) | cases h
theorem walk_some {ws : List Wr} : ∀ {ds : List PyData} {g : Nat} {ps : List Nat}, walkD ws g ds = some ps → ds = ps.map (fun p => .int (p : Nat)) ∧ ∃ e, Pw ws g ps e
  | [], g, ps, h => by
    have h : some [] = some ps := h
    cases h
    exact ⟨rfl, g, rfl⟩
  | d :: ds, g, ps, h => by
    cases hw : wholeD d with
    | false =>
      rw [walk_not hw] at h
      cases h
    | true =>
      cases d with
      | int p =>
        unfold walkD at h
        by_cases c : 0 ≤ p ∧ p < ws.length ∧ (svW ws p.toNat).1 = g
        · rw [if_pos c] at h
          cases hr : walkD ws (svW ws p.toNat).2.1 ds with
          | none =>
            rw [hr] at h
            cases h
          | some r =>
            rw [hr] at h
            have h : some (p.toNat :: r) = some ps := h
            cases h
            obtain ⟨h1, e, h2⟩ := walk_some hr
            have hx := List.getElem?_eq_getElem (show p.toNat < ws.length by omega)
            refine ⟨?_, e, ws[p.toNat]'(by omega), hx, ?_, ?_⟩
            · rw [h1, List.map_cons]
              congr 2
              omega
            · rw [← svW_get hx]
              exact c.2.2
            · rw [← svW_get hx]
              exact h2
        · rw [if_neg c] at h
          cases h
      | _ => cases hw
theorem piece_some {gs : List Gt} {ws : List Wr} {d : PyData} {pc : Pce} (h : pieceD gs ws d = some pc) : d = pceD pc ∧ PceOk gs ws pc := by
  unfold pieceD at h
  split at h
  · rename_i g ds
    by_cases c : 0 ≤ g ∧ g < gs.length
    · rw [if_pos c] at h
      cases hr : walkD ws g.toNat ds with
      | none =>
        rw [hr] at h
        cases h
      | some r =>
        rw [hr] at h
        have h : some (g.toNat, r) = some pc := h
        cases h
        obtain ⟨h1, h2⟩ := walk_some hr
        refine ⟨?_, by show g.toNat < gs.length; omega, h2⟩
        unfold pceD
        rw [h1]
        congr 3
        show g = ((g.toNat : Nat) : Int)
        omega
    · rw [if_neg c] at h
      cases h
  · cases h
theorem walk_pw {ws : List Wr} : ∀ {ps : List Nat} {g e : Nat}, Pw ws g ps e → walkD ws g (ps.map fun p => .int (p : Nat)) = some ps
  | [], _, _, _ => rfl
  | p :: r, g, e, ⟨x, hx, hs, h⟩ => by
    have hl : p < ws.length := (List.getElem?_eq_some_iff.mp hx).1
    show walkD ws g (.int (p : Nat) :: r.map fun p => .int (p : Nat)) = _
    unfold walkD
    rw [if_pos ⟨by omega, by omega, by rw [Int.toNat_natCast, svW_get hx, hs]⟩, Int.toNat_natCast, svW_get hx, walk_pw h]
    rfl
theorem piece_ok {gs : List Gt} {ws : List Wr} {pc : Pce} (h : PceOk gs ws pc) : pieceD gs ws (pceD pc) = some pc := by
  obtain ⟨h1, e, h2⟩ := h
  simp only [pceD, pieceD]
  rw [if_pos ⟨by omega, by omega⟩, Int.toNat_natCast, walk_pw h2]
  rfl
theorem piece_dT {gs : List Gt} {ws : List Wr} {d : PyData} (h : dT d = false) : pieceD gs ws d = none := by
  cases d <;> first | (simp only [pieceD]; done) | cases h
theorem piece_len {gs : List Gt} {ws : List Wr} {ds : List PyData} (h : ds.length ≠ 2) : pieceD gs ws (.tuple ds) = none := by
  match ds, h with
  | [], _ => simp only [pieceD]
  | [_], _ => simp only [pieceD]
  | [_, _], h => exact absurd rfl h
  | _ :: _ :: _ :: _, _ => simp only [pieceD]
theorem piece_g {gs : List Gt} {ws : List Wr} {p w : PyData} (h : wholeD p = false) : pieceD gs ws (.tuple [p, w]) = none := by
  cases p <;> first | (simp only [pieceD]; done) | cases h
theorem piece_w {gs : List Gt} {ws : List Wr} {p w : PyData} (h : dL w = false) : pieceD gs ws (.tuple [p, w]) = none := by
  cases w <;> first | (cases p <;> (simp only [pieceD]; done)) | cases h
theorem piece_int {gs : List Gt} {ws : List Wr} {g : Int} {ds : List PyData} : (pieceD gs ws (.tuple [.int g, .list ds])).isSome = (fromD (.int g) 0 ((gs.length : Int) - 1) && (walkD ws g.toNat ds).isSome) := by
  simp only [pieceD]
  by_cases h : 0 ≤ g ∧ g < gs.length
  · rw [if_pos h]
    show _ = ((decide (0 ≤ g) && decide (g ≤ (gs.length : Int) - 1)) && _)
    rw [decide_eq_true h.1, decide_eq_true (show g ≤ (gs.length : Int) - 1 by omega), Option.isSome_map]
    rfl
  · rw [if_neg h]
    symm
    rw [Option.isSome_none, Bool.eq_false_iff]
    intro z
    simp only [fromD, Bool.and_eq_true, decide_eq_true_eq] at z
    exact h ⟨z.1.1, by omega⟩
/-- of a piece's data the piece as it stands -/
theorem dx_nats {K : PySem.W.Frag} {Av : Addr → Prop} {H : Hp} : ∀ {ps : List Nat} {vs : List V}, DxAll K Av H vs (ps.map fun p => .int (p : Nat)) → vs = nvs ps
  | [], _, h => by cases h; rfl
  | p :: r, _, h => by
    cases h with
    | cons h1 h2 =>
      cases h1
      rw [dx_nats h2]
      rfl
theorem dx_pce {K : PySem.W.Frag} {Av : Addr → Prop} {H : Hp} {v : V} {pc : Pce} (h : Dx K Av H v (pceD pc)) : PceV K H v pc := by
  unfold pceD at h
  cases h with
  | @tup a xs _ s al =>
    cases al with
    | cons h1 al =>
    cases al with
    | cons h2 al =>
    cases al
    cases h1
    cases h2 with
    | @lst l xs _ s2 _ a2 =>
      rw [dx_nats a2] at s2
      exact ⟨a, l, rfl, s, SqL.of s2⟩
theorem DxAll.get' {K : PySem.W.Frag} {Av : Addr → Prop} {H : Hp} {vs : List V} {ds : List PyData} (h : DxAll K Av H vs ds) {i : Nat} {v : V} (hv : vs[i]? = some v) : ∃ d, ds[i]? = some d ∧ Dx K Av H v d := by
  have a := h.all2
  obtain ⟨d, hd, r⟩ := a.get hv
  exact ⟨d, hd, r⟩
def spIsPieceD (K : PySem.W.Frag) (C : Addr) : Sp := fun vs H Q _ => ∃ (p ng nw : Addr) (gs : List Gt) (ws : List Wr) (v : V) (d : PyData), vs = [.ref p, v] ∧ NetAt K C H p ng nw gs ws ∧ NetOk gs ws ∧ Dx K Any H v d ∧ ∀ H', Same H H' → Q (.bl (pieceD gs ws d).isSome) H'
section
variable {P : Program} {w : World} {K : PySem.W.Frag} {mg : Str → Option Value} {base : Heap}
theorem ok_wholeD {f : Addr} {fd : FuncData} (F : Fun K "is_whole" "is_whole" sWhole f fd) (B : Bt mg) : FnOk P w K mg base CX0 1 f fd ["thing"] (spWholeD K) := by
  refine F.ok scWhole (fun vs H Q E h => ?_) (fun cdv A outer s H vs Q E hr h => ?_)
  · obtain ⟨v, d, rfl, _⟩ := h
    rfl
  · obtain ⟨v, d, rfl, hd, q⟩ := h
    refine ⟨_, pss_one <| ps_ret <| pe_and (pe_callB call_isi (by rfl) B.isi (by decide +kernel) (pa_cons (pv 0) (pa_cons (pe_bltn (v := .ty "int") (by rfl) B.int (by decide +kernel) rfl) pa_nil)))
      (pe_one (pe_not (pe_callB call_isi (by rfl) B.isi (by decide +kernel) (pa_cons (pv 0) (pa_cons (pe_bltn (v := .ty "bool") (by rfl) B.bool (by decide +kernel) rfl) pa_nil))))), ?_⟩
    obtain ⟨t, ty, k1, k2, _⟩ := hd.ty
    rw [whole_is] at q
    refine ⟨_, rfl, _, _, _, _, dI d, rfl, .ty "int", ty, kit_ty k1, dI d, rfl, ite2 (fun e1 => ?_) (fun e1 => ?_)⟩
    · rw [e1] at q
      exact ⟨_, rfl, _, _, _, _, dB d, rfl, .ty "bool", ty, kit_ty k2, dB d, rfl, q⟩
    · have e2 : dI d = false := by simpa using e1
      rw [e2] at q
      exact q
theorem ok_fromToD {f fW : Addr} {fd fdW : FuncData} (F : Fun K "is_whole_from_to" "is_whole_from_to" sFromTo f fd) (DW : DWhole P w K mg base fW fdW) (DX : FnOk P w K mg base CX0 1 fW fdW ["thing"] (spWholeD K)) : FnOk P w K mg base CX0 2 f fd ["thing", "least", "greatest"] (spFromToD K) := by
  refine F.ok scFromTo (fun vs H Q E h => ?_) (fun cdv A outer s H vs Q E hr h => ?_)
  · obtain ⟨v, d, a, b, rfl, _⟩ := h
    rfl
  · obtain ⟨v, d, a, b, rfl, hd, q⟩ := h
    have hr1 : Room 1 _ := hr.mono (by decide)
    refine ⟨_, pss_one <| ps_ret <| pe_and (pe_call DX hr1 (by rfl) DW.mg DW.kp DW.bd .nil pass0 (pa_cons (pv 0) pa_nil)) (pe_one (pe_chain op_le op_le (pv 1) (pv 0) (pv 2))), ?_⟩
    refine ⟨_, rfl, v, d, rfl, hd, wholeD d, rfl, ?_⟩
    cases hd with
    | int n =>
      refine iteT ?_
      refine ⟨_, rfl, _, rfl, _, _, rfl, rfl, _, rfl, ?_⟩
      have q : Q (.bl (decide (a ≤ n) && decide (n ≤ b))) H := q
      cases e : decide (a ≤ n) with
      | false =>
        rw [e] at q
        exact iteF q
      | true =>
        rw [e] at q
        exact iteT ⟨_, rfl, _, _, rfl, rfl, q⟩
    | bl b' => exact iteF q
    | non => exact iteF q
    | str x => exact iteF q
    | tup s a => exact iteF q
    | lst s n a => exact iteF q
    | dic e => exact iteF q
theorem ok_isPieceD {f fF C : Addr} {fd fdF : FuncData} (F : Fun K "is_piece" "is_piece" sIsPiece f fd) (B : Bt mg) (T : NT K mg C) (DFt : DFromTo P w K mg base fF fdF) (DX : FnOk P w K mg base CX0 2 fF fdF ["thing", "least", "greatest"] (spFromToD K)) : FnOk P w K mg base CX0 3 f fd ["net", "thing"] (spIsPieceD K C) := by
  refine F.ok scIsPiece (fun vs H Q E h => ?_) (fun cdv A outer s H vs Q E hr h => ?_)
  · obtain ⟨p, ng, nw, gs, ws, v, d, rfl, _⟩ := h
    rfl
  · obtain ⟨p, ng, nw, gs, ws, v, d, rfl, NA, N, hd, q⟩ := h
    have nd := scIsPiece.nd
    refine ⟨_, pss_cons (ps_if (PW.pt (pw_or (pt_not (pt_val (pe_callB call_isi (by rfl) B.isi (by decide +kernel) (pa_cons (pv 1) (pa_cons (pe_bltn (v := .ty "tuple") (by rfl) B.tuple (by decide +kernel) rfl) pa_nil))))) (pw_or1 (pt_cmpR op_ne (pe_callB call_len_seq (by rfl) B.len PySem.boot_len (pa_cons (pv 1) pa_nil)) pe_int (nomark _))))) (pss_one (ps_ret pe_bl)) pss_nil) <|
        pss_cons (ps_asg (pv 1) (pg_tup rfl (pgs_cons (pg_name (i := 2) nd rfl (.inl rfl)) (pgs_cons (pg_name (i := 3) nd rfl (.inl rfl)) pgs_nil)))) <|
        pss_cons (ps_if (PW.pt (pw_or (pt_not (pt_val (pe_call DX (hr.mono (by decide)) (by rfl) DFt.mg DFt.kp DFt.bd .nil pass0 (pa_cons (pv 2) (pa_cons pe_int (pa_cons (pe_op op_sub (pe_callB call_len_seq (by rfl) B.len PySem.boot_len (pa_cons (pe_fld (pv 0) rfl) pa_nil)) pe_int) pa_nil)))))) (pw_or1 (pt_not (pt_val (pe_callB call_isi (by rfl) B.isi (by decide +kernel) (pa_cons (pv 3) (pa_cons (pe_bltn (v := .ty "list") (by rfl) B.list (by decide +kernel) rfl) pa_nil)))))))) (pss_one (ps_ret pe_bl)) pss_nil) <|
        pss_cons (ps_for PassesOwn.never rfl (pi_list (pv 3)) (pg_name (i := 4) nd rfl (.inl rfl)) (pss_cons (ps_if (PW.pt (pw_or (pt_not (pt_val (pe_call DX (hr.mono (by decide)) (by rfl) DFt.mg DFt.kp DFt.bd .nil pass0 (pa_cons (pv 4) (pa_cons pe_int (pa_cons (pe_op op_sub (pe_callB call_len_seq (by rfl) B.len PySem.boot_len (pa_cons (pe_fld (pv 0) rfl) pa_nil)) pe_int) pa_nil)))))) (pw_or1 (pt_cmpR op_ne (pe_ix ix_tup (pe_ix ix_list (pe_fld (pv 0) rfl) (pv 4) (fun _ _ => rfl)) pe_int (fun _ _ => rfl)) (pv 2) (nomark _))))) (pss_one (ps_ret pe_bl)) pss_nil) <|
        pss_one (ps_set (i := 2) nd rfl (.inl rfl) (pe_ix ix_tup (pe_ix ix_list (pe_fld (pv 0) rfl) (pv 4) (fun _ _ => rfl)) pe_int (fun _ _ => rfl))))) <|
        pss_one (ps_ret pe_bl), ?_⟩
    obtain ⟨dx, ob⟩ := id NA.ob
    obtain ⟨gv, hgv, ga⟩ := id NA.g
    obtain ⟨wv, hwv, wa⟩ := id NA.w
    have hlg : gv.length = gs.length := ga.1
    have hlw : wv.length = ws.length := wa.1
    have q0 := q H (Same.refl H)
    obtain ⟨t, ty, _, _, k3, _⟩ := hd.ty
    refine ⟨_, rfl, _, _, _, _, dT d, rfl, .ty "tuple", ty, kit_ty k3, dT d, rfl, ?_⟩
    cases eT : dT d with
    | false =>
      rw [piece_dT eT] at q0
      exact q0
    | true =>
    refine iteF ?_
    cases hd with
    | @tup a xs ds sq al =>
      have hl : xs.length = ds.length := al.all2.1
      by_cases h2 : ds.length = 2
      rotate_left
      · rw [piece_len h2] at q0
        refine ⟨_, rfl, a, _, rfl, .inr sq, rfl, _, rfl, ite2 (fun _ => q0) (fun e => ?_)⟩
        exfalso
        apply e
        have h3 : ¬ (V.int ((xs.length : Nat) : Int) = V.int 2) := fun z => by
          injection z
          omega
        rw [decide_eq_false h3]
        all_goals rfl
      obtain ⟨dg, dw, rfl⟩ : ∃ x y, ds = [x, y] := by
        match ds, h2 with
        | [x, y], _ => exact ⟨x, y, rfl⟩
      obtain ⟨vg, vw, rfl⟩ : ∃ x y, xs = [x, y] := by
        match xs, hl with
        | [x, y], _ => exact ⟨x, y, rfl⟩
      cases al with
      | cons hg al =>
      cases al with
      | cons hw al =>
      clear al
      refine ⟨_, rfl, a, _, rfl, .inr sq, rfl, _, rfl, iteNS rfl ?_⟩
      refine ⟨_, rfl, a, _, rfl, sq, rfl, _, _, rfl, _, _, rfl, rfl, ?_⟩
      refine ⟨_, rfl, _, rfl, p, C, dx, _, _, rfl, ob, T.cl, T.nG, nf_gates _ _, ng, gv, rfl, .inl (SqL.of hgv), _, _, rfl, rfl, vg, dg, _, _, rfl, hg, fromD dg 0 (((gv.length : Nat) : Int) - 1), rfl, ?_⟩
      rw [hlg]
      cases ef : fromD dg 0 ((gs.length : Int) - 1) with
      | false =>
        refine iteT ?_
        have e0 : (pieceD gs ws (.tuple [dg, dw])).isSome = false := by
          cases eg : wholeD dg with
          | false => rw [piece_g eg]; rfl
          | true =>
            cases dg with
            | int g =>
              cases el : dL dw with
              | false => rw [piece_w el]; rfl
              | true =>
                cases dw with
                | list ds => rw [piece_int, ef]; rfl
                | _ => cases el
            | _ => cases eg
        rw [e0] at q0
        exact q0
      | true =>
      refine iteF ?_
      obtain ⟨g, rfl, hg0, hg1⟩ : ∃ g : Int, dg = .int g ∧ 0 ≤ g ∧ g < gs.length := by
        cases dg with
        | int g =>
          have ef : (decide (0 ≤ g) && decide (g ≤ (gs.length : Int) - 1)) = true := ef
          rw [Bool.and_eq_true, decide_eq_true_eq, decide_eq_true_eq] at ef
          exact ⟨g, rfl, ef.1, by omega⟩
        | _ => cases ef
      cases hg
      obtain ⟨gn, rfl⟩ : ∃ gn : Nat, g = (gn : Nat) := ⟨g.toNat, by omega⟩
      obtain ⟨t2, ty2, _, _, _, k4⟩ := hw.ty
      refine ⟨_, rfl, _, _, _, _, dL dw, rfl, .ty "list", ty2, kit_ty k4, dL dw, rfl, ?_⟩
      cases el : dL dw with
      | false =>
        rw [piece_w el] at q0
        exact iteT q0
      | true =>
      refine iteF ?_
      cases hw with
      | @lst l xs ds sl _ al2 =>
        rw [piece_int, ef, Bool.true_and, Int.toNat_natCast] at q
        have hll : xs.length = ds.length := al2.all2.1
        refine ⟨_, rfl, l, rfl, ⟨_, SqL.of sl⟩, for_list (K := K) (a := l) (xs := xs) (fun i σ H' => ∃ (g : Nat) (u4 : Option V), σ = [some (.ref p), some (.ref a), some (.int (g : Nat)), some (.ref l), u4] ∧ (walkD ws gn ds).isSome = (walkD ws g (ds.drop i)).isSome ∧ Same H H') ⟨gn, _, rfl, rfl, Same.refl H⟩ (fun i σ H2 _ ⟨_, _, _, _, sm⟩ => SqL.of (sm _ _ sl)) ?_ ?_⟩
        · rintro i x σ H1 hx ⟨g, u4, rfl, hwk, sm⟩
          obtain ⟨d, hdi, hdx⟩ := al2.get' hx
          have hil : i < ds.length := (List.getElem?_eq_some_iff.mp hdi).1
          have edr : ds.drop i = d :: ds.drop (i + 1) := by
            rw [List.drop_eq_getElem_cons hil]
            congr 1
            exact (List.getElem?_eq_some_iff.mp hdi).2
          rw [edr] at hwk
          have hdx1 : Dx K Any H1 x d := Dx.move (XM.same sm) _ hdx
          have q1 := q H1 sm
          refine gn_norm (σ' := [some (.ref p), some (.ref a), some (.int (g : Nat)), some (.ref l), some x]) rfl ?_
          refine ⟨_, rfl, _, rfl, p, C, dx, _, _, rfl, sm _ _ ob, T.cl, T.nW, nf_wires _ _, nw, wv, rfl, .inl (SqL.of (sm _ _ hwv)), _, _, rfl, rfl, x, d, _, _, rfl, hdx1, fromD d 0 (((wv.length : Nat) : Int) - 1), rfl, ?_⟩
          rw [hlw]
          cases ef2 : fromD d 0 ((ws.length : Int) - 1) with
          | false =>
            refine iteT ?_
            have e0 : (walkD ws gn ds).isSome = false := by
              rw [hwk]
              cases ew : wholeD d with
              | false => rw [walk_not ew]; rfl
              | true =>
                cases d with
                | int k => rw [walk_int, ef2]; rfl
                | _ => cases ew
            rw [e0] at q1
            exact q1
          | true =>
          obtain ⟨k, rfl, hk0, hk1⟩ : ∃ k : Int, d = .int k ∧ 0 ≤ k ∧ k < ws.length := by
            cases d with
            | int k =>
              have ef2 : (decide (0 ≤ k) && decide (k ≤ (ws.length : Int) - 1)) = true := ef2
              rw [Bool.and_eq_true, decide_eq_true_eq, decide_eq_true_eq] at ef2
              exact ⟨k, rfl, ef2.1, by omega⟩
            | _ => cases ef2
          cases hdx
          obtain ⟨kn, rfl⟩ : ∃ kn : Nat, k = (kn : Nat) := ⟨k.toNat, by omega⟩
          rw [walk_int, ef2, Bool.true_and, Int.toNat_natCast] at hwk
          have hkw : kn < ws.length := by omega
          have hxw := List.getElem?_eq_getElem hkw
          have esv := svW_get hxw
          generalize ws[kn]'hkw = y at hxw esv
          rw [esv] at hwk
          obtain ⟨_, hv', b1, b2, rfl, s1, s2⟩ := wa.getR hxw
          have tk := TK.same sm
          refine iteF ⟨_, rfl, p, C, dx, _, _, rfl, sm _ _ ob, T.cl, T.nW, nf_wires _ _, _, rfl, nw, wv, kn, _, rfl, rfl, SqL.of (sm _ _ hwv), atI_nat hv', b1, _, 0, _, rfl, rfl, tk.seq s1, atI_nat (j := 0) rfl, _, rfl, rfl, _, rfl, ?_⟩
          by_cases hg : y.1 = g
          · rw [decide_eq_true (congrArg V.int (by rw [hg])), decide_eq_true hg] at *
            refine iteF ?_
            refine ⟨_, rfl, p, C, dx, _, _, rfl, sm _ _ ob, T.cl, T.nW, nf_wires _ _, _, rfl, nw, wv, kn, _, rfl, rfl, SqL.of (sm _ _ hwv), atI_nat hv', b1, _, 1, _, rfl, rfl, tk.seq s1, atI_nat (j := 1) rfl, ?_⟩
            refine ⟨y.2.1, some (.int (kn : Nat)), rfl, ?_, sm⟩
            rw [hwk]
            rfl
          · rw [decide_eq_false hg] at hwk
            have e0 : (walkD ws gn ds).isSome = false := hwk
            rw [e0] at q1
            rw [decide_eq_false (fun z => hg (by have := V.int.inj z; omega))]
            exact iteT q1
        · rintro σ H1 ⟨g, u4, rfl, hwk, sm⟩
          rw [hll, List.drop_length] at hwk
          have q1 := q H1 sm
          rw [hwk] at q1
          exact q1
      | _ => cases el
    | _ => cases eT
end
end Lag


set_option maxRecDepth 100000
set_option maxHeartbeats 8000000
namespace Lag
open PySem PySem.Spec PyProof.Rows L2
theorem exm_self {K : PySem.W.Frag} {S : Addr} (h1 : PySem.W.subIn K (.ref S) (.type "BaseException") = some true) (h2 : PySem.W.isClsIn K S = true) (h3 : PySem.W.typeIn K (.ref S) = some (.type "type")) (h4 : PySem.W.subIn K (.ref S) (.ref S) = some true) :
    PySem.W.exmOne K (.ref S) (.ref S) = some true := by
  have e1 : (PySem.W.subIn K (.ref S) (.type "BaseException") == some true) = true := by rw [h1] <;> rfl
  have e2 : ((PySem.W.clsIn K S).isSome && PySem.W.typeIn K (.ref S) == some (.type "type")) = true := by
    have h2' : (PySem.W.clsIn K S).isSome = true := h2
    rw [h2', h3] <;> rfl
  show (if (PySem.W.subIn K (.ref S) (.type "BaseException") == some true) = true then (if ((PySem.W.clsIn K S).isSome && PySem.W.typeIn K (.ref S) == some (.type "type")) = true then PySem.W.subIn K (.ref S) (.ref S) else none) else none) = some true
  rw [if_pos e1, if_pos e2]
  exact h4
/-- what the top tells of a class under LagError that has nothing of its own -/
structure PEx (K : PySem.W.Frag) (mg : Str → Option Value) (x : Str) (C : Addr) : Prop where
  g : mg x = some (.ref C)
  q : PySem.W.excIn K C [.type "ValueError", .type "Exception", .type "BaseException", .type "object"] "ValueError.__new__" = true
  k : PySem.W.keepIn K (.ref C) = true
  e : PySem.W.subIn K (.ref C) (.type "BaseException") = some true
  t : PySem.W.typeIn K (.ref C) = some (.type "type")
  te : PySem.W.exmOne K (.ref C) (.ref C) = some true
/-! ### things that may stand where a number is asked -/
theorem all2_uniq {ws : List Wr} : ∀ {ps : List Nat} {us vs : List Wr}, All2 (fun (p : Nat) (x : Wr) => ws[p]? = some x) ps us → All2 (fun (p : Nat) (x : Wr) => ws[p]? = some x) ps vs → us = vs := by
  intro ps us vs h1 h2
  have l1 : us.length = ps.length := h1.1.symm
  have l2 : vs.length = ps.length := h2.1.symm
  refine List.ext_getElem? fun i => ?_
  by_cases hi : i < ps.length
  · have hp : ps[i]? = some ps[i] := List.getElem?_eq_getElem hi
    obtain ⟨x, hx, ex⟩ := h1.get hp
    obtain ⟨y, hy, ey⟩ := h2.get hp
    rw [hx, hy]
    rw [ex] at ey
    exact ey
  · rw [List.getElem?_eq_none (by omega), List.getElem?_eq_none (by omega)]
theorem all2_of {ws : List Wr} : ∀ {ps : List Nat}, (∀ k ∈ ps, k < ws.length) → ∃ us, All2 (fun (p : Nat) (x : Wr) => ws[p]? = some x) ps us := by
  intro ps h
  refine ⟨ps.map (svW ws), (List.length_map _).symm, fun i p x hp hx => ?_⟩
  rw [List.getElem?_map, hp] at hx
  cases hx
  have hl := h p (List.mem_of_getElem? hp)
  have e : ws[p]? = some ws[p] := List.getElem?_eq_getElem hl
  rw [e, svW_get e]
theorem all2_mem {ws us : List Wr} {ps : List Nat} (h : All2 (fun (p : Nat) (x : Wr) => ws[p]? = some x) ps us) : ∀ x ∈ us, x ∈ ws := by
  intro x hx
  obtain ⟨i, hi⟩ := List.getElem?_of_mem hx
  have hil : i < us.length := (List.getElem?_eq_some_iff.mp hi).1
  have hp : ps[i]? = some (ps[i]'(by rw [h.1]; exact hil)) := List.getElem?_eq_getElem _
  exact List.mem_of_getElem? (h.2 i _ x hp hi)
theorem perm_nat {a b : List Nat} (h : (a.map fun k => ((k : Nat) : Int)).Perm (b.map fun k => ((k : Nat) : Int))) : a.Perm b := by
  have h2 := h.map Int.toNat
  rw [List.map_map, List.map_map] at h2
  have e : ∀ l : List Nat, l.map (Int.toNat ∘ fun k : Nat => (k : Int)) = l := fun l => by
    conv => rhs; rw [← List.map_id l]
    exact List.map_congr_left fun a _ => Int.toNat_natCast a
  rw [e, e] at h2
  exact h2
mutual
theorem Dp.move {K : PySem.W.Frag} {H H' : Hp} (s : Same H H') : ∀ (d : PyData) {v : V}, Dp K H v d → Dp K H' v d
  | .none, _, h => by cases h; exact .non
  | .bool _, _, h => by cases h; exact .bl _
  | .int _, _, h => by cases h; exact .int _
  | .str _, _, h => by cases h; exact .str _
  | .list ds, _, h => by
    cases h with
    | lst q a => exact .lst (s.seq q) (DpAll.move s ds a)
  | .tuple ds, _, h => by
    cases h with
    | tup q a => exact .tup ((TK.same s).seq q) (DpAll.move s ds a)
  | .dict _, _, h => by cases h
theorem DpAll.move {K : PySem.W.Frag} {H H' : Hp} (s : Same H H') : ∀ (ds : List PyData) {vs : List V}, DpAll K H vs ds → DpAll K H' vs ds
  | [], _, h => by cases h; exact .nil
  | d :: ds, _, h => by
    cases h with
    | cons a b => exact .cons (Dp.move s d a) (DpAll.move s ds b)
end
theorem dp_same {K : PySem.W.Frag} {H H' : Hp} {d : PyData} {v : V} (h : Dp K H v d) (s : Same H H') : Dp K H' v d := Dp.move s d h
def firstB (p : Nat → Bool) : Nat → Option Nat
  | 0 => none
  | n + 1 => match firstB p n with
    | some k => some k
    | none => if p n = true then some n else none
theorem firstB_none {p : Nat → Bool} : ∀ {n : Nat}, (∀ j, j < n → p j = false) → firstB p n = none
  | 0, _ => rfl
  | n + 1, h => by
    unfold firstB
    rw [firstB_none fun j hj => h j (by omega)]
    show (if p n = true then some n else none) = none
    rw [if_neg (by rw [h n (by omega)]; exact Bool.false_ne_true)]
theorem firstB_at {p : Nat → Bool} {i : Nat} (h0 : ∀ j, j < i → p j = false) (h1 : p i = true) : ∀ {n : Nat}, i < n → firstB p n = some i
  | 0, h => absurd h (Nat.not_lt_zero _)
  | n + 1, h => by
    unfold firstB
    by_cases e : i = n
    · subst e
      rw [firstB_none h0]
      show (if p i = true then some i else none) = some i
      rw [if_pos h1]
    · rw [firstB_at h0 h1 (show i < n by omega)]
def formD : PyData := .tuple [.str "form"]
def entD (e : Ent) : PyData := .tuple [pceD e.1, .int e.2]
/-- the numbered piece that a thing is -/
def entryD (gs : List Gt) (ws : List Wr) : PyData → Option Ent
  | .tuple [p, .int m] => if 1 ≤ m then (pieceD gs ws p).map fun pc => (pc, m) else none
  | _ => none
def paperE (gs : List Gt) (ws : List Wr) : List PyData → Option (List Ent)
  | [] => some []
  | d :: r => match entryD gs ws d, paperE gs ws r with
    | some e, some es => some (e :: es)
    | _, _ => none
theorem entry_dT {gs : List Gt} {ws : List Wr} {d : PyData} (h : dT d = false) : entryD gs ws d = none := by
  cases d <;> first | (simp only [entryD]; done) | cases h
theorem entry_len {gs : List Gt} {ws : List Wr} {ds : List PyData} (h : ds.length ≠ 2) : entryD gs ws (.tuple ds) = none := by
  match ds, h with
  | [], _ => simp only [entryD]
  | [_], _ => simp only [entryD]
  | [_, _], h => exact absurd rfl h
  | _ :: _ :: _ :: _, _ => simp only [entryD]
theorem entry_m {gs : List Gt} {ws : List Wr} {p m : PyData} (h : wholeD m = false) : entryD gs ws (.tuple [p, m]) = none := by
  cases m <;> first | (simp only [entryD]; done) | cases h
theorem entry_int {gs : List Gt} {ws : List Wr} {p : PyData} {m : Int} : (entryD gs ws (.tuple [p, .int m])).isSome = ((pieceD gs ws p).isSome && decide (1 ≤ m)) := by
  simp only [entryD]
  by_cases h : 1 ≤ m
  · rw [if_pos h, decide_eq_true h, Option.isSome_map, Bool.and_true]
  · rw [if_neg h, decide_eq_false h, Bool.and_false]
    rfl
theorem entry_p {gs : List Gt} {ws : List Wr} {p m : PyData} (h : pieceD gs ws p = none) : entryD gs ws (.tuple [p, m]) = none := by
  cases m <;> first | (simp only [entryD]; done) | (simp only [entryD]; rw [h]; split <;> rfl)
theorem entry_some {gs : List Gt} {ws : List Wr} {d : PyData} {e : Ent} (h : entryD gs ws d = some e) : d = entD e ∧ PceOk gs ws e.1 ∧ 1 ≤ e.2 := by
  unfold entryD at h
  split at h
  · rename_i p m
    by_cases c : 1 ≤ m
    · rw [if_pos c] at h
      cases hp : pieceD gs ws p with
      | none => rw [hp] at h; cases h
      | some pc =>
        rw [hp] at h
        have h : some (pc, m) = some e := h
        cases h
        obtain ⟨e1, e2⟩ := piece_some hp
        exact ⟨by rw [e1]; rfl, e2, c⟩
    · rw [if_neg c] at h
      cases h
  · cases h
theorem entry_ok {gs : List Gt} {ws : List Wr} {e : Ent} (h : PceOk gs ws e.1) (hm : 1 ≤ e.2) : entryD gs ws (entD e) = some e := by
  simp only [entD, entryD]
  rw [if_pos hm, piece_ok h]
  rfl
theorem paper_all {gs : List Gt} {ws : List Wr} : ∀ {ds : List PyData}, (paperE gs ws ds).isSome = (ds.map fun d => (entryD gs ws d).isSome).all id
  | [] => rfl
  | d :: r => by
    have ih := paper_all (gs := gs) (ws := ws) (ds := r)
    simp only [paperE, List.map_cons, List.all_cons]
    rw [← ih]
    cases entryD gs ws d <;> cases paperE gs ws r <;> rfl
theorem paper_at {gs : List Gt} {ws : List Wr} : ∀ {ds : List PyData} {es : List Ent}, paperE gs ws ds = some es → All2 (fun d e => entryD gs ws d = some e) ds es
  | [], es, h => by
    cases h
    exact .nil
  | d :: r, es, h => by
    simp only [paperE] at h
    cases he : entryD gs ws d with
    | none => rw [he] at h; cases h
    | some e =>
      rw [he] at h
      cases hr : paperE gs ws r with
      | none => rw [hr] at h; cases h
      | some es' =>
        rw [hr] at h
        cases h
        exact All2.cons he (paper_at hr)
theorem dx_ent {K : PySem.W.Frag} {Av : Addr → Prop} {H : Hp} {v : V} {e : Ent} (h : Dx K Av H v (entD e)) : EntV K H v e := by
  unfold entD at h
  cases h with
  | @tup a xs _ s al =>
    cases al with
    | cons h1 al =>
    cases al with
    | cons h2 al =>
    cases al
    cases h2
    exact ⟨a, _, rfl, s, dx_pce h1⟩
theorem paper_dx {K : PySem.W.Frag} {Av : Addr → Prop} {H : Hp} {gs : List Gt} {ws : List Wr} {ds : List PyData} {vs : List V} {es : List Ent} (h : paperE gs ws ds = some es) (a : All2 (Dx K Av H) vs ds) : All2 (EntV K H) vs es ∧ ∀ e ∈ es, PceOk gs ws e.1 ∧ 1 ≤ e.2 := by
  have pa := paper_at h
  refine ⟨⟨by rw [a.1, pa.1], fun i v e hv he => ?_⟩, fun e he => ?_⟩
  · obtain ⟨d, hd, ed⟩ := pa.getR he
    obtain ⟨e1, _⟩ := entry_some ed
    have := a.2 i v d hv hd
    rw [e1] at this
    exact dx_ent this
  · obtain ⟨i, hi⟩ := List.getElem?_of_mem he
    obtain ⟨d, hd, ed⟩ := pa.getR hi
    exact (entry_some ed).2
def spNumPieceD (K : PySem.W.Frag) (C : Addr) : Sp := fun vs H Q _ => ∃ (p ng nw : Addr) (gs : List Gt) (ws : List Wr) (v : V) (d : PyData), vs = [.ref p, v] ∧ NetAt K C H p ng nw gs ws ∧ NetOk gs ws ∧ Dx K Any H v d ∧ ∀ H', Same H H' → Q (.bl (entryD gs ws d).isSome) H'
def spIsPaperD (K : PySem.W.Frag) (C : Addr) : Sp := fun vs H Q _ => ∃ (p ng nw lp : Addr) (gs : List Gt) (ws : List Wr) (xs : List V) (ds : List PyData), vs = [.ref p, .ref lp] ∧ NetAt K C H p ng nw gs ws ∧ NetOk gs ws ∧ H lp = some (.lst xs) ∧ All2 (Dx K Any H) xs ds ∧ ds.length ≤ 11000 ∧ ∀ H', Same H H' → Q (.bl (paperE gs ws ds).isSome) H'
def spIsPaperN (K : PySem.W.Frag) : Sp := fun vs H Q _ => ∃ (u v : V) (d : PyData), vs = [u, v] ∧ Dx K Any H v d ∧ dL d = false ∧ Q (.bl false) H
open Classical in
/-- a gate at which pieces and wires don't come to the same -/
noncomputable def gateP (gs : List Gt) (ws us : List Wr) (es : List Ent) (g : Nat) : Bool := decide (¬ portK (kindAt gs g) ∧ psum (dlP ws g) es ≠ wdl (dl g) us)
noncomputable def faultG (gs : List Gt) (ws us : List Wr) (es : List Ent) : PyData := match firstB (gateP gs ws us es) gs.length with
  | some k => .tuple [.str "gate", .int (k : Nat)]
  | none => .none
def spGateFaultX (K : PySem.W.Frag) (C : Addr) : Sp := fun vs H Q _ => ∃ (p ng nw lp lq : Addr) (qs : List Nat) (gs : List Gt) (ws us : List Wr) (ev : List V) (es : List Ent), vs = [.ref p, .ref lp, .ref lq] ∧ NetAt K C H p ng nw gs ws ∧ NetOk gs ws ∧ SqL K H lp ev ∧ All2 (EntV K H) ev es ∧ (∀ e ∈ es, EntOk gs ws e) ∧ All2 (fun (p : Nat) (x : Wr) => ws[p]? = some x) qs us ∧ SqL K H lq (nvs qs) ∧ ∀ r H', Same H H' → Dp K H' r (faultG gs ws us es) → Q r H'
section
variable {P : Program} {w : World} {K : PySem.W.Frag} {mg : Str → Option Value} {base : Heap}
theorem ok_numPieceD {f fI fW C : Addr} {fd fdI fdW : FuncData} (F : Fun K "is_numbered_piece" "is_numbered_piece" sNumPiece f fd) (B : Bt mg) (DIp : DIsPiece P w K mg base C fI fdI) (DIX : FnOk P w K mg base CX0 3 fI fdI ["net", "thing"] (spIsPieceD K C)) (DWh : DWhole P w K mg base fW fdW) (DWX : FnOk P w K mg base CX0 1 fW fdW ["thing"] (spWholeD K)) : FnOk P w K mg base CX0 4 f fd ["net", "thing"] (spNumPieceD K C) := by
  refine F.ok scNumPiece (fun vs H Q E h => ?_) (fun cdv A outer s H vs Q E hr h => ?_)
  · obtain ⟨p, ng, nw, gs, ws, v, d, rfl, _⟩ := h
    rfl
  · obtain ⟨p, ng, nw, gs, ws, v, d, rfl, NA, N, hd, q⟩ := h
    have nd := scNumPiece.nd
    refine ⟨_, pss_cons (ps_if (PW.pt (pw_or (pt_not (pt_val (pe_callB call_isi (by rfl) B.isi (by decide +kernel) (pa_cons (pv 1) (pa_cons (pe_bltn (v := .ty "tuple") (by rfl) B.tuple (by decide +kernel) rfl) pa_nil))))) (pw_or1 (pt_cmpR op_ne (pe_callB call_len_seq (by rfl) B.len PySem.boot_len (pa_cons (pv 1) pa_nil)) pe_int (nomark _))))) (pss_one (ps_ret pe_bl)) pss_nil) <|
        pss_cons (ps_asg (pv 1) (pg_tup rfl (pgs_cons (pg_name (i := 2) nd rfl (.inl rfl)) (pgs_cons (pg_name (i := 3) nd rfl (.inl rfl)) pgs_nil)))) <|
        pss_one (ps_ret (pe_and (pe_call DIX (hr.mono (by decide)) (by rfl) DIp.mg DIp.kp DIp.bd .nil pass0 (pa_cons (pv 0) (pa_cons (pv 2) pa_nil))) (pe_and (pe_call DWX (hr.mono (by decide)) (by rfl) DWh.mg DWh.kp DWh.bd .nil pass0 (pa_cons (pv 3) pa_nil)) (pe_one (pe_cmpR op_ge (pv 3) pe_int (nomark _)))))), ?_⟩
    have q0 := q H (Same.refl H)
    obtain ⟨t, ty, _, _, k3, _⟩ := hd.ty
    refine ⟨_, rfl, _, _, _, _, dT d, rfl, .ty "tuple", ty, kit_ty k3, dT d, rfl, ?_⟩
    cases eT : dT d with
    | false =>
      rw [entry_dT eT] at q0
      exact q0
    | true =>
    refine iteF ?_
    cases hd with
    | @tup a xs ds sq al =>
      have hl : xs.length = ds.length := al.all2.1
      by_cases h2 : ds.length = 2
      rotate_left
      · rw [entry_len h2] at q0
        refine ⟨_, rfl, a, _, rfl, .inr sq, rfl, _, rfl, ite2 (fun _ => q0) (fun e => ?_)⟩
        exfalso
        apply e
        have h3 : ¬ (V.int ((xs.length : Nat) : Int) = V.int 2) := fun z => by
          injection z
          omega
        rw [decide_eq_false h3]
        all_goals rfl
      obtain ⟨dp, dm, rfl⟩ : ∃ x y, ds = [x, y] := by
        match ds, h2 with
        | [x, y], _ => exact ⟨x, y, rfl⟩
      obtain ⟨vp, vm, rfl⟩ : ∃ x y, xs = [x, y] := by
        match xs, hl with
        | [x, y], _ => exact ⟨x, y, rfl⟩
      cases al with
      | cons hp al =>
      cases al with
      | cons hm al =>
      clear al
      refine ⟨_, rfl, a, _, rfl, .inr sq, rfl, _, rfl, iteNS rfl ?_⟩
      refine ⟨_, rfl, a, _, rfl, sq, rfl, _, _, rfl, _, _, rfl, rfl, ?_⟩
      refine ⟨_, rfl, _, rfl, p, ng, nw, gs, ws, vp, dp, rfl, NA, N, hp, fun H1 s1 => ⟨(pieceD gs ws dp).isSome, rfl, ?_⟩⟩
      cases ep : pieceD gs ws dp with
      | none =>
        rw [entry_p ep] at q
        exact iteF (q H1 s1)
      | some pc =>
      refine iteT ?_
      refine ⟨_, rfl, vm, dm, rfl, Dx.move (XM.same s1) _ hm, wholeD dm, rfl, ?_⟩
      cases ew : wholeD dm with
      | false =>
        rw [entry_m ew] at q
        exact iteF (q H1 s1)
      | true =>
      refine iteT ?_
      cases dm with
      | int m =>
        cases hm
        rw [entry_int, ep] at q
        exact ⟨_, rfl, _, _, rfl, rfl, q H1 s1⟩
      | _ => cases ew
    | _ => cases eT
theorem ok_isPaperD {f fN C : Addr} {fd fdN : FuncData} (F : Fun K "is_paper" "is_paper" sIsPaper f fd) (B : Bt mg) (DNp : DNumPiece P w K mg base C fN fdN) (DNX : FnOk P w K mg base CX0 4 fN fdN ["net", "thing"] (spNumPieceD K C)) : FnOk P w K mg base CX0 5 f fd ["net", "thing"] (spIsPaperD K C) := by
  refine F.ok scIsPaper (fun vs H Q E h => ?_) (fun cdv A outer s H vs Q E hr h => ?_)
  · obtain ⟨p, ng, nw, lp, gs, ws, xs, ds, rfl, _⟩ := h
    rfl
  · obtain ⟨p, ng, nw, lp, gs, ws, xs, ds, rfl, NA, N, hlp, al, hl, q⟩ := h
    have nd := scIsPaper.nd
    refine ⟨_, pss_one (ps_ret (pe_and (pe_callB call_isi (by rfl) B.isi (by decide +kernel) (pa_cons (pv 1) (pa_cons (pe_bltn (v := .ty "list") (by rfl) B.list (by decide +kernel) rfl) pa_nil))) (pe_one (pe_callB (cr_all rfl) (by rfl) B.all (by decide +kernel) (pa_cons (pe_lc (own := [("entry", 2)]) (g := (gName 2)) (tt := tYes) (te := (tCall (spNumPieceD K C) [] E0 (tCons (tVar 0) (tCons (tVar 2) tNil)))) rfl nd (pi_list (pv 1)) (blkOk_by (N := nIsPaper) (sc := defScope sIsPaper) (own := [("entry", 2)]) (by decide +kernel)) (fun _ _ _ _ _ => (pg_name (i := 2) nd rfl (.inl rfl))) (fun _ _ _ _ _ => pts_nil) (fun _ _ _ _ _ => (pe_call DNX (hr.mono (by decide)) (by rfl) DNp.mg DNp.kp DNp.bd .nil pass0 (pa_cons (pv 0) (pa_cons (pv 2) pa_nil))))) pa_nil))))), ?_⟩
    have hxl : xs.length = ds.length := al.1
    refine ⟨_, rfl, _, _, _, _, true, rfl, .ty "list", ty_lst (SqL.of hlp), kit_ty (by decide +kernel), true, rfl, iteT ?_⟩
    refine ⟨_, rfl, lp, rfl, ⟨_, SqL.of hlp⟩, fun D hD => ?_⟩
    refine lc_list (K := K) (a := lp) (xs := xs) (fun i Hc => Hc D = some (.lst (((ds.take i).map fun d => (entryD gs ws d).isSome).map V.bl)) ∧ Same H Hc) ⟨upd_same, same_new hD⟩ (fun i Hc _ ⟨_, sm⟩ => SqL.of (sm _ _ hlp)) ?_ ?_
    · rintro i v Hc hv ⟨hc, sm⟩
      obtain ⟨d, hd, dx⟩ := al.get hv
      have hi : i < ds.length := (List.getElem?_eq_some_iff.mp hd).1
      refine ⟨rfl, tyes ?_⟩
      refine ⟨_, rfl, _, rfl, p, ng, nw, gs, ws, v, d, rfl, NA.same sm, N, Dx.move (XM.same sm) _ dx, fun Hd sd => ⟨_, sd _ _ hc, ?_, ?_, same_mut (sm.trans sd) hD⟩⟩
      · rw [List.length_map, List.length_map, List.length_take]
        exact small11k (by omega)
      · rw [upd_same, List.take_add_one, hd, List.map_append, List.map_append]
        rfl
    rintro H1 ⟨h1, s1⟩
    rw [hxl, List.take_length] at h1
    refine ⟨D, _, rfl, SqL.of h1, ?_⟩
    rw [← paper_all]
    exact q H1 s1
theorem ok_isPaperN {f fN C : Addr} {fd fdN : FuncData} (F : Fun K "is_paper" "is_paper" sIsPaper f fd) (B : Bt mg) (DNp : DNumPiece P w K mg base C fN fdN) (DNX : FnOk P w K mg base CX0 4 fN fdN ["net", "thing"] (spNumPieceD K C)) : FnOk P w K mg base CX0 5 f fd ["net", "thing"] (spIsPaperN K) := by
  refine F.ok scIsPaper (fun vs H Q E h => ?_) (fun cdv A outer s H vs Q E hr h => ?_)
  · obtain ⟨u, v, d, rfl, _⟩ := h
    rfl
  · obtain ⟨u, v, d, rfl, hd, eL, q⟩ := h
    have nd := scIsPaper.nd
    refine ⟨_, pss_one (ps_ret (pe_and (pe_callB call_isi (by rfl) B.isi (by decide +kernel) (pa_cons (pv 1) (pa_cons (pe_bltn (v := .ty "list") (by rfl) B.list (by decide +kernel) rfl) pa_nil))) (pe_one (pe_callB (cr_all rfl) (by rfl) B.all (by decide +kernel) (pa_cons (pe_lc (own := [("entry", 2)]) (g := (gName 2)) (tt := tYes) (te := (tCall (spNumPieceD K C) [] E0 (tCons (tVar 0) (tCons (tVar 2) tNil)))) rfl nd (pi_list (pv 1)) (blkOk_by (N := nIsPaper) (sc := defScope sIsPaper) (own := [("entry", 2)]) (by decide +kernel)) (fun _ _ _ _ _ => (pg_name (i := 2) nd rfl (.inl rfl))) (fun _ _ _ _ _ => pts_nil) (fun _ _ _ _ _ => (pe_call DNX (hr.mono (by decide)) (by rfl) DNp.mg DNp.kp DNp.bd .nil pass0 (pa_cons (pv 0) (pa_cons (pv 2) pa_nil))))) pa_nil))))), ?_⟩
    obtain ⟨t, ty, _, _, _, k4⟩ := hd.ty
    rw [eL] at k4
    exact ⟨_, rfl, _, _, _, _, false, rfl, .ty "list", ty, kit_ty k4, false, rfl, iteF q⟩
theorem ok_gateFaultX {f fE fO C : Addr} {fd fdE fdO : FuncData} (F : Fun K "gate_fault" "gate_fault" sGateFault f fd) (B : Bt mg) (T : NT K mg C) (DEo : DEndOf P w K mg base C fE fdE) (DO : DOuter P w K mg base fO fdO) : FnOk P w K mg base CX0 2 f fd ["net", "paper", "places"] (spGateFaultX K C) := by
  refine F.ok scGateFault (fun vs H Q E h => ?_) (fun cdv A outer s H vs Q E hr h => ?_)
  · obtain ⟨p, ng, nw, lp, lq, qs, gs, ws, us, ev, es, rfl, _⟩ := h
    rfl
  · obtain ⟨p, ng, nw, lp, lq, qs, gs, ws, us, ev, es, rfl, NA, N, hlp, al, eok, pu, hlq, q⟩ := h
    have nd := scGateFault.nd
    refine ⟨_, pss_cons (ps_set (i := 3) nd rfl (.inl rfl) (pe_op op_rep (pe_lst (pa_cons pe_int pa_nil)) (pe_callB call_len_seq (by rfl) B.len PySem.boot_len (pa_cons (pe_fld (pv 0) rfl) pa_nil)))) <|
        pss_cons (ps_for PassesOwn.never rfl (pi_list (pv 1)) (pg_tup rfl (pgs_cons (pg_name (i := 4) nd rfl (.inl rfl)) (pgs_cons (pg_name (i := 5) nd rfl (.inl rfl)) pgs_nil))) (pss_cons (ps_augS (pv 3) (pe_ix ix_tup (pv 4) pe_int (fun _ _ => rfl)) get_list (pv 5) ip_add set_list) <|
        pss_one (ps_augS (pv 3) (pe_call DEo.ok (hr.mono (by decide)) (by rfl) DEo.mg DEo.kp DEo.bd .nil pass0 (pa_cons (pv 0) (pa_cons (pv 4) pa_nil))) get_list (pv 5) ip_sub set_list))) <|
        pss_cons (ps_for PassesOwn.never rfl (pi_list (pv 2)) (pg_name (i := 6) nd rfl (.inl rfl)) (pss_cons (ps_augS (pv 3) (pe_ix ix_tup (pe_ix ix_list (pe_fld (pv 0) rfl) (pv 6) (fun _ _ => rfl)) pe_int (fun _ _ => rfl)) get_list pe_int ip_sub set_list) <|
        pss_one (ps_augS (pv 3) (pe_ix ix_tup (pe_ix ix_list (pe_fld (pv 0) rfl) (pv 6) (fun _ _ => rfl)) pe_int (fun _ _ => rfl)) get_list pe_int ip_add set_list))) <|
        pss_cons (ps_for PassesOwn.never rfl (pi_enum (by rfl) B.enum (pa_cons (pe_fld (pv 0) rfl) pa_nil)) (pg_tup rfl (pgs_cons (pg_name (i := 7) nd rfl (.inl rfl)) (pgs_cons (pg_name (i := 8) nd rfl (.inl rfl)) pgs_nil))) (pss_one (ps_if (PW.pt (pw_and (pt_cmpR op_ne (pe_ix ix_list (pv 3) (pv 7) (fun _ _ => rfl)) pe_int (nomark _)) (pw_and1 (pt_not (pt_val (pe_call DO.ok (hr.mono (by decide)) (by rfl) DO.mg DO.kp DO.bd .nil pass0 (pa_cons (pv 8) pa_nil))))))) (pss_one (ps_ret (pe_tup (pa_cons pe_str (pa_cons (pv 7) pa_nil))))) pss_nil))) <|
        pss_one (ps_ret pe_non), ?_⟩
    obtain ⟨dx, ob⟩ := id NA.ob
    obtain ⟨gv, hgv, ga⟩ := id NA.g
    obtain ⟨wv, hwv, wa⟩ := id NA.w
    have hlg : gv.length = gs.length := ga.1
    have hlw : wv.length = ws.length := wa.1
    have hgl := N.gl
    have hwl := N.wl
    have hev : ev.length = es.length := al.1
    refine ⟨(by show 1 ≤ sizeLine; decide), fun l0 hl0 => ?_⟩
    have s2 : Same H (upd H l0 (.lst [.int 0])) := same_new hl0
    have e2 : (upd H l0 (.lst [.int 0])) l0 = some (.lst [.int 0]) := upd_same
    obtain ⟨H2, hH2⟩ : ∃ H2, H2 = upd H l0 (.lst [.int 0]) := ⟨_, rfl⟩
    rw [← hH2] at s2 e2
    rw [← hH2]
    refine ⟨_, rfl, p, C, dx, _, _, rfl, s2 _ _ ob, T.cl, T.nG, nf_gates _ _, ng, gv, rfl, .inl (SqL.of (s2 _ _ hgv)), l0, _, [.int 0], rfl, rfl, e2, by omega, by omega, ?_, fun lm hlm => ?_⟩
    · have : 1 * ((gv.length : Nat) : Int).toNat ≤ sizeLine := Nat.le_of_lt (small1000 (by omega))
      exact this
    rw [Int.toNat_natCast, hlg, rep0]
    have s3 : Same H2 (upd H2 lm (.lst ((List.replicate gs.length (0 : Int)).map V.int))) := same_new hlm
    have e3 : (upd H2 lm (.lst ((List.replicate gs.length (0 : Int)).map V.int))) lm = some (.lst ((List.replicate gs.length (0 : Int)).map V.int)) := upd_same
    obtain ⟨H3, hH3⟩ : ∃ H3, H3 = upd H2 lm (.lst ((List.replicate gs.length (0 : Int)).map V.int)) := ⟨_, rfl⟩
    rw [← hH3] at s3 e3
    refine gn_normH (σ' := [some (.ref p), some (.ref lp), some (.ref lq), some (.ref lm), none, none, none, none, none]) (H' := H3) rfl hH3.symm ?_
    have s03 := s2.trans s3
    have hlm0 : H lm = none := s2.free hlm
    -- the pieces
    refine ⟨_, rfl, lp, rfl, ⟨_, s03.seq hlp⟩, for_list (K := K) (a := lp) (xs := ev) (fun i σ H' => ∃ (u4 u5 : Option V) (ms : List Int), σ = [some (.ref p), some (.ref lp), some (.ref lq), some (.ref lm), u4, u5, none, none, none] ∧ H' lm = some (.lst (ms.map V.int)) ∧ ms.length = gs.length ∧ (∀ g, ms.getD g 0 = psum (dlP ws g) (es.take i)) ∧ Same H H')
      ⟨_, _, _, rfl, e3, List.length_replicate, (fun g => by
        rw [List.getD_eq_getElem?_getD, List.getElem?_replicate]
        split <;> rfl), s03⟩ (fun i σ H' _ ⟨_, _, _, _, _, _, _, sm⟩ => sm.seq hlp) ?_ ?_⟩
    · rintro i v σ H4 hv ⟨u4, u5, ms, rfl, hms, hml, hmg, sm⟩
      obtain ⟨e, he, a, pv', rfl, sq, b', l', rfl, sp, sl⟩ := al.get hv
      obtain ⟨⟨k1, m, k2⟩, k3, k4⟩ := eok e (List.mem_of_getElem? he)
      have hm := k2.lt N k1
      refine ⟨a, _, rfl, (TK.same sm).seq sq, rfl, _, _, rfl, _, _, rfl, rfl, ?_⟩
      refine ⟨_, rfl, _, rfl, b', _, 0, _, rfl, rfl, (TK.same sm).seq sp, atI_nat (j := 0) rfl, lm, _, e.1.1, _, rfl, rfl, SqL.of hms, sgetD_at (by omega), _, rfl, _, _, rfl, rfl, lm, _, _, e.1.1, rfl, rfl, hms, Evl.ixN_nat (by rw [List.length_map]; omega), ?_⟩
      have s5 : Same H (upd H4 lm (.lst ((ms.map V.int).set e.1.1 (.int (ms.getD e.1.1 0 + e.2))))) := same_mut sm hlm0
      have e5 : (upd H4 lm (.lst ((ms.map V.int).set e.1.1 (.int (ms.getD e.1.1 0 + e.2))))) lm = some (.lst ((ms.set e.1.1 (ms.getD e.1.1 0 + e.2)).map V.int)) := by rw [upd_same, List.map_set]
      have h5 := fun g => getD_add (ms := ms) (i := e.1.1) (g := g) (d := e.2) (by omega)
      have l5 : (ms.set e.1.1 (ms.getD e.1.1 0 + e.2)).length = gs.length := by rw [List.length_set]; exact hml
      generalize upd H4 lm (.lst ((ms.map V.int).set e.1.1 (.int (ms.getD e.1.1 0 + e.2)))) = H5 at s5 e5
      generalize ms.set e.1.1 (ms.getD e.1.1 0 + e.2) = ms1 at e5 h5 l5
      refine ⟨_, rfl, _, rfl, _, rfl, p, ng, nw, gs, ws, _, e.1, rfl, NA.same s5, N, ⟨b', l', rfl, (TK.same s5).seq sp, s5.seq sl⟩, ⟨k1, m, k2⟩, ?_⟩
      rw [endW_of k2]
      refine ⟨lm, _, m, _, rfl, rfl, SqL.of e5, sgetD_at (by omega), _, rfl, _, _, rfl, rfl, lm, _, _, m, rfl, rfl, e5, Evl.ixN_nat (by rw [List.length_map]; omega), ?_⟩
      refine ⟨_, _, ms1.set m (ms1.getD m 0 - e.2), rfl, by rw [upd_same, List.map_set], by rw [List.length_set]; exact l5, fun g => ?_, same_mut s5 hlm0⟩
      have h6 := getD_add (ms := ms1) (i := m) (g := g) (d := -e.2) (by omega)
      rw [show ms1.getD m 0 - e.2 = ms1.getD m 0 + -e.2 by omega, h6, h5 g, hmg g, List.take_add_one, he]
      show _ = psum (dlP ws g) (es.take i ++ [e])
      rw [psum_snoc, dlP_eq (gs := gs) g k2, Int.sub_mul]
      have : dl g m * -e.2 = -(dl g m * e.2) := Int.mul_neg _ _
      omega
    rintro σ H4 ⟨u4, u5, ms, rfl, hms, hml, hmg, sm⟩
    rw [hev, List.take_length] at hmg
    -- the wires
    refine ⟨_, rfl, lq, rfl, ⟨_, sm.seq hlq⟩, for_list (K := K) (a := lq) (xs := nvs qs) (fun i σ H' => ∃ (u6 : Option V) (ms : List Int), σ = [some (.ref p), some (.ref lp), some (.ref lq), some (.ref lm), u4, u5, u6, none, none] ∧ H' lm = some (.lst (ms.map V.int)) ∧ ms.length = gs.length ∧ (∀ g, ms.getD g 0 = psum (dlP ws g) es - wdl (dl g) (us.take i)) ∧ Same H H')
      ⟨_, ms, rfl, hms, hml, (fun g => by
        rw [hmg g]
        show _ = _ - (0 : Int)
        omega), sm⟩ (fun i σ H' _ ⟨_, _, _, _, _, _, sm⟩ => sm.seq hlq) ?_ ?_⟩
    · rintro i v σ H5 hv ⟨u6, ms, rfl, hms, hml, hmg, sm⟩
      obtain ⟨k, hk, rfl⟩ := nvs_of hv
      obtain ⟨x, hux, hx⟩ := pu.get hk
      have WX := N.wok x (List.mem_of_getElem? hx)
      obtain ⟨_, hwvi, a, b2, rfl, sq1, sq2⟩ := wa.getR hx
      have ob5 := sm _ _ ob
      have h1s := WX.s
      have h1e := WX.e
      refine gn_norm (σ' := [some (.ref p), some (.ref lp), some (.ref lq), some (.ref lm), u4, u5, some (.int ((k : Nat) : Int)), none, none]) rfl ?_
      refine ⟨_, rfl, _, rfl, p, C, dx, _, _, rfl, ob5, T.cl, T.nW, nf_wires _ _, _, rfl, nw, wv, k, _, rfl, rfl, SqL.of (sm _ _ hwv), atI_nat hwvi, a, _, 0, _, rfl, rfl, (TK.same sm).seq sq1, atI_nat (j := 0) rfl, lm, _, x.1, _, rfl, rfl, SqL.of hms, sgetD_at (by omega), _, _, rfl, rfl, lm, _, _, x.1, rfl, rfl, hms, Evl.ixN_nat (by rw [List.length_map]; omega), ?_⟩
      have s6 : Same H (upd H5 lm (.lst ((ms.map V.int).set x.1 (.int (ms.getD x.1 0 - 1))))) := same_mut sm hlm0
      have e6 : (upd H5 lm (.lst ((ms.map V.int).set x.1 (.int (ms.getD x.1 0 - 1))))) lm = some (.lst ((ms.set x.1 (ms.getD x.1 0 + -1)).map V.int)) := by rw [upd_same, List.map_set]; rfl
      have h6 := fun g => getD_add (ms := ms) (i := x.1) (g := g) (d := -1) (by omega)
      have l6 : (ms.set x.1 (ms.getD x.1 0 + -1)).length = gs.length := by rw [List.length_set]; exact hml
      generalize upd H5 lm (.lst ((ms.map V.int).set x.1 (.int (ms.getD x.1 0 - 1)))) = H6 at s6 e6
      generalize ms.set x.1 (ms.getD x.1 0 + -1) = ms1 at e6 h6 l6
      refine ⟨_, rfl, _, rfl, p, C, dx, _, _, rfl, s6 _ _ ob, T.cl, T.nW, nf_wires _ _, _, rfl, nw, wv, k, _, rfl, rfl, SqL.of (s6 _ _ hwv), atI_nat hwvi, a, _, 1, _, rfl, rfl, (TK.same s6).seq sq1, atI_nat (j := 1) rfl, lm, _, x.2.1, _, rfl, rfl, SqL.of e6, sgetD_at (by omega), _, _, rfl, rfl, lm, _, _, x.2.1, rfl, rfl, e6, Evl.ixN_nat (by rw [List.length_map]; omega), ?_⟩
      refine ⟨_, ms1.set x.2.1 (ms1.getD x.2.1 0 + 1), rfl, by rw [upd_same, List.map_set], by rw [List.length_set]; exact l6, fun g => ?_, same_mut s6 hlm0⟩
      have h7 := getD_add (ms := ms1) (i := x.2.1) (g := g) (d := 1) (by omega)
      rw [h7, h6 g, hmg g, List.take_add_one, hux]
      show _ = _ - wdl (dl g) (us.take i ++ [x])
      rw [wdl_snoc]
      omega
    rintro σ H5 ⟨u6, ms, rfl, hms, hml, hmg, sm⟩
    rw [nvs_len, pu.1, List.take_length] at hmg
    -- no gate without its balance
    refine ⟨_, rfl, p, C, dx, _, _, rfl, sm _ _ ob, T.cl, T.nG, nf_gates _ _, ng, gv, rfl, SqL.of (sm _ _ hgv), for_it (walk_enum (K := K) (a := ng) (xs := gv)) (fun i σ H' => ∃ (u7 u8 : Option V), σ = [some (.ref p), some (.ref lp), some (.ref lq), some (.ref lm), u4, u5, u6, u7, u8] ∧ Same H5 H' ∧ ∀ k, k < i → k < gs.length → ¬ portK (kindAt gs k) → ms.getD k 0 = 0) ⟨_, _, rfl, Same.refl _, fun k hk => absurd hk (Nat.not_lt_zero _)⟩ (fun i σ H' _ ⟨_, _, _, s, _⟩ => SqL.of (s _ _ (sm _ _ hgv))) ?_ ?_⟩
    · rintro i v σ H6 H6' hi ⟨u7, u8, rfl, s6, ok6⟩ ⟨T', x1, y, rfl, hT, rfl, ex, ey⟩
      cases ex
      obtain ⟨g, hg, gvv⟩ := ga.get ey
      have hig : i < gs.length := (List.getElem?_eq_some_iff.mp hg).1
      have sT := same_new (o := .tup [.int (i : Nat), y]) hT
      have eT : (upd H6 T' (.tup [.int (i : Nat), y])) T' = some (.tup [.int (i : Nat), y]) := upd_same
      have s7 := s6.trans sT
      generalize upd H6 T' (.tup [.int (i : Nat), y]) = H7 at sT eT s7
      refine ⟨T', _, rfl, .inl (.inl eT), rfl, _, _, rfl, _, _, rfl, rfl, ?_⟩
      refine ⟨_, rfl, _, rfl, lm, _, i, _, rfl, rfl, SqL.of (s7 _ _ hms), atI_nat (sgetD_at (by omega)), rfl, _, rfl, ?_⟩
      by_cases h0 : ms.getD i 0 = 0
      · rw [h0, decide_eq_true rfl]
        exact iteF (iteF ⟨_, _, rfl, s7, fun k hk hk2 hp => by
          by_cases e : k = i
          · rw [e]
            exact h0
          · exact ok6 k (by omega) hk2 hp⟩)
      · rw [decide_eq_false fun e => h0 (V.int.inj e)]
        refine iteT ⟨_, rfl, _, g, rfl, gvv.tk (TK.same (sm.trans s7)), fun b hb => ⟨b, rfl, ?_⟩⟩
        cases b with
        | true => exact iteF ⟨_, _, rfl, s7, fun k hk hk2 hp => by
          by_cases e : k = i
          · subst e
            exact absurd (by rw [kindAt_get hg]; exact hb.mp rfl) hp
          · exact ok6 k (by omega) hk2 hp⟩
        | false =>
          have hnp : ¬ portK (kindAt gs i) := fun hp => by
            rw [kindAt_get hg] at hp
            have := hb.mpr hp
            cases this
          have hgp : gateP gs ws us es i = true := decide_eq_true ⟨hnp, fun e => h0 (by rw [hmg i]; omega)⟩
          have ef : faultG gs ws us es = .tuple [.str "gate", .int (i : Nat)] := by
            unfold faultG
            rw [firstB_at (fun k hk => ?_) hgp hig]
            refine decide_eq_false fun ⟨k1, k2⟩ => ?_
            have := ok6 k hk (by omega) k1
            rw [hmg k] at this
            omega
          rw [ef] at q
          refine iteT ⟨_, rfl, (by show 2 ≤ sizeLine; decide), fun tt htt => ?_⟩
          exact q _ _ (sm.trans (s7.trans (same_new htt))) (.tup (.inl (.inl upd_same)) (.cons (.str _) (.cons (.int _) .nil)))
    · rintro σ H6 ⟨u7, u8, rfl, s6, ok6⟩
      have ef : faultG gs ws us es = .none := by
        unfold faultG
        rw [firstB_none (fun k hk => ?_)]
        refine decide_eq_false fun ⟨k1, k2⟩ => ?_
        have := ok6 k (by rw [hlg]; exact hk) hk k1
        rw [hmg k] at this
        omega
      rw [ef] at q
      exact q .non H6 (sm.trans s6) .non
end
end Lag


set_option maxRecDepth 100000
set_option maxHeartbeats 8000000
namespace Lag
open PySem PySem.Spec PyProof.Rows L2
abbrev sLEnds : Stmt := topS 79 -- @_law_ends
abbrev sNum : Stmt := topS 80 -- @_law_is_number
abbrev sLIsPiece : Stmt := topS 81 -- @_law_is_piece
abbrev sLRoom : Stmt := topS 82 -- @_law_room
abbrev sFixed : Stmt := topS 83 -- @_law_fixed
abbrev sWalked : Stmt := topS 86 -- @_law_walked
theorem small5k {n : Nat} (h : n ≤ 5000) : n < sizeLine := Nat.lt_of_le_of_lt h (by decide)
theorem small11k' {n : Nat} (h : n ≤ 11000) : n < sizeLine := Nat.lt_of_le_of_lt h (by decide)
def lendsL (ws : List Wr) (pc : Pce) : List Nat := pc.1 :: pc.2.map fun p => (svW ws p).2.1
theorem lends_last {ws : List Wr} (pc : Pce) : (lendsL ws pc).getLast? = some (endW ws pc.1 pc.2) := by
  obtain ⟨s, ps⟩ := pc
  unfold lendsL endW
  show (s :: ps.map fun p => (svW ws p).2.1).getLast? = some (ps.foldl (fun _ p => (svW ws p).2.1) s)
  induction ps generalizing s with
  | nil => rfl
  | cons p r ih =>
    rw [List.map_cons, List.getLast?_cons_cons, ih]
    rfl
theorem lends_wait {gs : List Gt} {ws : List Wr} (pc : Pce) : ((lendsL ws pc).map fun g => gw gs g).sum = pwt gs ws pc.1 pc.2 := by
  unfold lendsL pwt pws
  rw [List.map_cons, List.sum_cons, List.map_map]
  rfl
theorem lends_lt {gs : List Gt} {ws : List Wr} {pc : Pce} (N : NetOk gs ws) (h : PceOk gs ws pc) : ∀ g ∈ lendsL ws pc, g < gs.length := fun g hg => by
  obtain ⟨h1, e, hp⟩ := h
  rcases List.mem_cons.mp hg with z | z
  · rw [z]; exact h1
  · obtain ⟨p, hp', rfl⟩ := List.mem_map.mp z
    have hx := List.getElem?_eq_getElem (hp.places p hp')
    rw [svW_get hx]
    exact (N.wok _ (List.getElem_mem _)).e
theorem room_law (gs : List Gt) (ws : List Wr) (b : Int) (pc : Pce) : prg ws pc.2 - (if decide (b < pwt gs ws pc.1 pc.2) = true then 1 else 0) = roomF gs ws b pc := by
  unfold roomF
  by_cases h : b < pwt gs ws pc.1 pc.2
  · rw [if_pos (decide_eq_true h), if_pos h]
  · rw [if_neg (fun z => h (of_decide_eq_true z)), if_neg h]
    omega
def spLEnds (K : PySem.W.Frag) : Sp := fun vs H Q _ => ∃ (lw : Addr) (v : V) (gs : List Gt) (ws : List Wr) (pc : Pce), vs = [.ref lw, v] ∧ LW K H lw ws ∧ NetOk gs ws ∧ PceV K H v pc ∧ PceOk gs ws pc ∧ pc.2.length ≤ 5000 ∧ ∀ l H', Same H H' → H l = none → H' l = some (.lst (nvs (lendsL ws pc))) → Q (.ref l) H'
def spNumD (K : PySem.W.Frag) : Sp := fun vs H Q _ => ∃ (v : V) (d : PyData) (m : Int), vs = [v, .int m] ∧ Dx K Any H v d ∧ Q (.bl (fromD d 0 (m - 1))) H
def spLIsPieceD (K : PySem.W.Frag) : Sp := fun vs H Q _ => ∃ (lg lw : Addr) (v : V) (d : PyData) (gs : List Gt) (ws : List Wr), vs = [.ref lg, .ref lw, v] ∧ LG K H lg gs ∧ LW K H lw ws ∧ NetOk gs ws ∧ Dx K Any H v d ∧ ∀ H', Same H H' → Q (.bl (pieceD gs ws d).isSome) H'
def spLRoom (K : PySem.W.Frag) : Sp := fun vs H Q _ => ∃ (lg lw : Addr) (v : V) (gs : List Gt) (ws : List Wr) (pc : Pce) (b : Int), vs = [.ref lg, .ref lw, v, .int b] ∧ LG K H lg gs ∧ LW K H lw ws ∧ NetOk gs ws ∧ PceV K H v pc ∧ PceOk gs ws pc ∧ pc.2.length ≤ 5000 ∧ ∀ H', Same H H' → Q (.int (roomF gs ws b pc)) H'
def spFixed (K : PySem.W.Frag) : Sp := fun vs H Q _ => ∃ (lg : Addr) (g : Nat) (gs : List Gt), vs = [.ref lg, .int (g : Nat)] ∧ LG K H lg gs ∧ g < gs.length ∧ ∀ b H', (b = true ↔ portK (kindAt gs g)) → Same H H' → Q (.bl b) H'
def spWalked (K : PySem.W.Frag) : Sp := fun vs H Q _ => ∃ (wl lg lw : Addr) (gs : List Gt) (ws : List Wr), vs = [.ref wl, .ref lg, .ref lw] ∧ WellAt wl H ∧ lg ≠ wl ∧ lw ≠ wl ∧ LG K H lg gs ∧ LW K H lw ws ∧ NetOk gs ws ∧ ∀ t l pc H', Dr wl H H' → H t = none → H l = none → H' t = some (.tup [.int (pc.1 : Nat), .ref l]) → H' l = some (.lst (nvs pc.2)) → PceOk gs ws pc → pc.2.length ≤ 5 → Q (.ref t) H'
theorem nvs_intsW (r : List Nat) : nvs r = (r.map fun k => ((k : Nat) : Int)).map V.int := by
  unfold nvs
  rw [List.map_map]
  rfl
theorem port_inW {k : Str} : inV (.str k) [.str "in", .str "out"] = true ↔ portK k := by
  unfold inV portK
  simp only [List.any_cons, List.any_nil, Bool.or_false, Bool.or_eq_true]
  constructor
  · rintro (h | h)
    · left
      by_cases e : k = "in"
      · exact e
      · simp [eqV, e, Ne.symm e] at h
    · right
      by_cases e : k = "out"
      · exact e
      · simp [eqV, e, Ne.symm e] at h
  · rintro (h | h)
    · left
      subst h
      simp [eqV]
    · right
      subst h
      simp [eqV]
section
variable {P : Program} {w : World} {K : PySem.W.Frag} {mg : Str → Option Value} {base : Heap}
abbrev nLEnds : List Str := ["_law_wires_here", "_law_piece", "_law_place"]
theorem scLEnds : FnScope nLEnds ["_law_wires_here", "_law_piece"] (defScope sLEnds) := ⟨rfl, rfl, rfl, by decide +kernel, rfl, by decide +kernel, by decide +kernel⟩
abbrev DLEnds (P : Program) (w : World) (K : PySem.W.Frag) (mg : Str → Option Value) (base : Heap) := Df P w K mg base 1 "_law_ends" ["_law_wires_here", "_law_piece"] (spLEnds K)
theorem ok_lends {f : Addr} {fd : FuncData} (F : Fun K "_law_ends" "_law_ends" sLEnds f fd) (hm : mg "_law_ends" = some (.ref f)) (B : Bt mg) : DLEnds P w K mg base f fd := by
  refine ⟨?_, hm, F.kp, F.binds fun _ _ _ _ _ _ us hl => match us, hl with | [_, _], _ => rfl⟩
  refine F.ok scLEnds (fun vs H Q E h => ?_) (fun cdv A outer s H vs Q E hr h => ?_)
  · obtain ⟨lw, v, gs, ws, pc, rfl, _⟩ := h
    rfl
  · obtain ⟨lw, v, gs, ws, pc, rfl, W, N, pcv, pok, hpl, q⟩ := h
    have nd := scLEnds.nd
    refine ⟨_, pss_one (ps_ret (pe_op op_cat (pe_lst (pa_cons (pe_ix ix_tup (pv 1) pe_int (fun _ _ => rfl)) pa_nil)) (pe_lc (own := [("_law_place", 2)]) (g := (gName 2)) (tt := tYes) (te := (tOp (rIxT K) (tOp (rIxL K) (tVar 0) (tVar 2)) (tC (.int 1)))) rfl nd (pi_list (pe_ix ix_tup (pv 1) pe_int (fun _ _ => rfl))) (blkOk_by (N := nLEnds) (sc := defScope sLEnds) (own := [("_law_place", 2)]) (by decide +kernel)) (fun _ _ _ _ _ => (pg_name (i := 2) nd rfl (.inl rfl))) (fun _ _ _ _ _ => pts_nil) (fun _ _ _ _ _ => (pe_ix ix_tup (pe_ix ix_list (pv 0) (pv 2) (fun _ _ => rfl)) pe_int (fun _ _ => rfl)))))), ?_⟩
    obtain ⟨wv, hwv, wa⟩ := id W
    obtain ⟨a, l, rfl, sq, sl⟩ := id pcv
    obtain ⟨hst, e, hp⟩ := pok
    refine ⟨_, rfl, a, _, 0, _, rfl, rfl, sq, atI_nat (j := 0) rfl, (by show 1 ≤ sizeLine; decide), fun l1 hl1 => ?_⟩
    have s1 := same_new (o := .lst [.int (pc.1 : Nat)]) hl1
    have e1 : (upd H l1 (.lst [.int (pc.1 : Nat)])) l1 = some (.lst [.int (pc.1 : Nat)]) := upd_same
    generalize upd H l1 (.lst [.int (pc.1 : Nat)]) = H1 at s1 e1
    refine ⟨_, rfl, a, _, 1, _, rfl, rfl, (TK.same s1).seq sq, atI_nat (j := 1) rfl, l, rfl, ⟨_, s1.seq sl⟩, fun D hD => ?_⟩
    refine lc_list (K := K) (a := l) (xs := nvs pc.2) (fun i Hc => Hc D = some (.lst (nvs ((pc.2.take i).map fun p => (svW ws p).2.1))) ∧ Same H1 Hc) ⟨upd_same, same_new hD⟩ (fun i Hc _ ⟨_, sm⟩ => sm.seq (s1.seq sl)) ?_ ?_
    · rintro i v Hc hv ⟨hc, sm⟩
      obtain ⟨k, hk, rfl⟩ := nvs_of hv
      have hx := List.getElem?_eq_getElem (hp.places k (List.mem_of_getElem? hk))
      have esv := svW_get hx
      generalize ws[k]'(hp.places k (List.mem_of_getElem? hk)) = x at hx esv
      obtain ⟨_, hwvk, ax, b, rfl, sq1, sq2⟩ := wa.getR hx
      have smm := s1.trans sm
      have hi : i < pc.2.length := (List.getElem?_eq_some_iff.mp hk).1
      refine ⟨rfl, tyes ?_⟩
      refine ⟨_, rfl, _, rfl, lw, _, k, _, rfl, rfl, SqL.of (smm _ _ hwv), atI_nat hwvk, ax, _, 1, _, rfl, rfl, (TK.same smm).seq sq1, atI_nat (j := 1) rfl, _, hc, ?_, ?_, same_mut sm hD⟩
      · rw [nvs_len, List.length_map, List.length_take]
        exact small5k (by omega)
      · rw [upd_same, List.take_add_one, hk, List.map_append]
        show _ = some (HO.lst (List.map _ (_ ++ [(svW ws k).2.1])))
        rw [esv, List.map_append]
        rfl
    rintro H2 ⟨h2, s2⟩
    rw [nvs_len, List.take_length] at h2
    refine ⟨l1, D, _, _, rfl, rfl, s2 _ _ e1, h2, ?_, fun l3 hl3 => ?_⟩
    · rw [nvs_len, List.length_map]
      show 1 + pc.2.length ≤ sizeLine
      exact Nat.le_of_lt (small11k' (by omega))
    have s3 := same_new (o := .lst ([.int (pc.1 : Nat)] ++ nvs (pc.2.map fun p => (svW ws p).2.1))) hl3
    exact q l3 _ ((s1.trans s2).trans s3) ((s1.trans s2).free hl3) upd_same
abbrev nNum : List Str := ["_law_thing", "_law_many"]
theorem scNum : FnScope nNum ["_law_thing", "_law_many"] (defScope sNum) := ⟨rfl, rfl, rfl, by decide +kernel, rfl, by decide +kernel, by decide +kernel⟩
abbrev DNum (P : Program) (w : World) (K : PySem.W.Frag) (mg : Str → Option Value) (base : Heap) := Df P w K mg base 1 "_law_is_number" ["_law_thing", "_law_many"] (spNumD K)
theorem ok_num {f : Addr} {fd : FuncData} (F : Fun K "_law_is_number" "_law_is_number" sNum f fd) (hm : mg "_law_is_number" = some (.ref f)) (B : Bt mg) : DNum P w K mg base f fd := by
  refine ⟨?_, hm, F.kp, F.binds fun _ _ _ _ _ _ us hl => match us, hl with | [_, _], _ => rfl⟩
  refine F.ok scNum (fun vs H Q E h => ?_) (fun cdv A outer s H vs Q E hr h => ?_)
  · obtain ⟨v, d, m, rfl, _⟩ := h
    rfl
  · obtain ⟨v, d, m, rfl, hd, q⟩ := h
    have nd := scNum.nd
    refine ⟨_, pss_one (ps_ret (pe_and (pe_callB call_isi (by rfl) B.isi (by decide +kernel) (pa_cons (pv 0) (pa_cons (pe_bltn (v := .ty "int") (by rfl) B.int (by decide +kernel) rfl) pa_nil))) (pe_and (pe_not (pe_callB call_isi (by rfl) B.isi (by decide +kernel) (pa_cons (pv 0) (pa_cons (pe_bltn (v := .ty "bool") (by rfl) B.bool (by decide +kernel) rfl) pa_nil)))) (pe_one (pe_chain op_le op_lt pe_int (pv 0) (pv 1)))))), ?_⟩
    obtain ⟨t, ty, k1, k2, _⟩ := hd.ty
    refine ⟨_, rfl, _, _, _, _, dI d, rfl, .ty "int", ty, kit_ty k1, dI d, rfl, ite2 (fun e1 => ?_) (fun e1 => ?_)⟩
    · refine ⟨_, rfl, _, _, _, _, dB d, rfl, .ty "bool", ty, kit_ty k2, dB d, rfl, (!dB d), rfl, ite2 (fun e2 => ?_) (fun e2 => ?_)⟩
      · cases hd with
        | int n =>
          refine ⟨_, rfl, _, _, rfl, rfl, _, rfl, ?_⟩
          have eq2 : decide (n ≤ m - 1) = decide (n < m) := decide_eq_decide.mpr (by omega)
          have q : Q (.bl (decide (0 ≤ n) && decide (n ≤ m - 1))) H := q
          rw [eq2] at q
          cases e : decide ((0 : Int) ≤ n) with
          | false =>
            rw [e] at q
            exact iteF q
          | true =>
            rw [e] at q
            exact iteT ⟨_, rfl, _, _, rfl, rfl, q⟩
        | bl b => cases e2
        | _ => cases e1
      · have e3 : fromD d 0 (m - 1) = false := from_whole (by
          rw [whole_is]
          cases h : dB d with
          | true => cases dI d <;> rfl
          | false =>
            rw [h] at e2
            exact absurd rfl e2)
        rw [e3] at q
        exact q
    · have e3 : fromD d 0 (m - 1) = false := from_whole (by
        rw [whole_is]
        have : dI d = false := by simpa using e1
        rw [this]
        rfl)
      rw [e3] at q
      exact q
abbrev nLIsPiece : List Str := ["_law_gates_here", "_law_wires_here", "_law_thing", "_law_at", "_law_place"]
theorem scLIsPiece : FnScope nLIsPiece ["_law_gates_here", "_law_wires_here", "_law_thing"] (defScope sLIsPiece) := ⟨rfl, rfl, rfl, by decide +kernel, rfl, by decide +kernel, by decide +kernel⟩
abbrev DLIsPiece (P : Program) (w : World) (K : PySem.W.Frag) (mg : Str → Option Value) (base : Heap) := Df P w K mg base 2 "_law_is_piece" ["_law_gates_here", "_law_wires_here", "_law_thing"] (spLIsPieceD K)
theorem ok_lIsPiece {f fU : Addr} {fd fdU : FuncData} (F : Fun K "_law_is_piece" "_law_is_piece" sLIsPiece f fd) (hm : mg "_law_is_piece" = some (.ref f)) (B : Bt mg) (DNu : DNum P w K mg base fU fdU) : DLIsPiece P w K mg base f fd := by
  refine ⟨?_, hm, F.kp, F.binds fun _ _ _ _ _ _ us hl => match us, hl with | [_, _, _], _ => rfl⟩
  refine F.ok scLIsPiece (fun vs H Q E h => ?_) (fun cdv A outer s H vs Q E hr h => ?_)
  · obtain ⟨lg, lw, v, d, gs, ws, rfl, _⟩ := h
    rfl
  · obtain ⟨lg, lw, v, d, gs, ws, rfl, G, W, N, hd, q⟩ := h
    have nd := scLIsPiece.nd
    refine ⟨_, pss_cons (ps_if (PW.pt (pw_or (pt_not (pt_val (pe_callB call_isi (by rfl) B.isi (by decide +kernel) (pa_cons (pv 2) (pa_cons (pe_bltn (v := .ty "tuple") (by rfl) B.tuple (by decide +kernel) rfl) pa_nil))))) (pw_or (pt_cmpR op_ne (pe_callB call_len_seq (by rfl) B.len PySem.boot_len (pa_cons (pv 2) pa_nil)) pe_int (nomark _)) (pw_or1 (pt_not (pt_val (pe_call DNu.ok (hr.mono (by decide)) (by rfl) DNu.mg DNu.kp DNu.bd .nil pass0 (pa_cons (pe_ix ix_tup (pv 2) pe_int (fun _ _ => rfl)) (pa_cons (pe_callB call_len_seq (by rfl) B.len PySem.boot_len (pa_cons (pv 0) pa_nil)) pa_nil))))))))) (pss_one (ps_ret pe_bl)) pss_nil) <|
        pss_cons (ps_set (i := 3) nd rfl (.inl rfl) (pe_ix ix_tup (pv 2) pe_int (fun _ _ => rfl))) <|
        pss_cons (ps_if (pt_not (pt_val (pe_callB call_isi (by rfl) B.isi (by decide +kernel) (pa_cons (pe_ix ix_tup (pv 2) pe_int (fun _ _ => rfl)) (pa_cons (pe_bltn (v := .ty "list") (by rfl) B.list (by decide +kernel) rfl) pa_nil))))) (pss_one (ps_ret pe_bl)) pss_nil) <|
        pss_cons (ps_for PassesOwn.never rfl (pi_list (pe_ix ix_tup (pv 2) pe_int (fun _ _ => rfl))) (pg_name (i := 4) nd rfl (.inl rfl)) (pss_cons (ps_if (PW.pt (pw_or (pt_not (pt_val (pe_call DNu.ok (hr.mono (by decide)) (by rfl) DNu.mg DNu.kp DNu.bd .nil pass0 (pa_cons (pv 4) (pa_cons (pe_callB call_len_seq (by rfl) B.len PySem.boot_len (pa_cons (pv 1) pa_nil)) pa_nil))))) (pw_or1 (pt_cmpR op_ne (pe_ix ix_tup (pe_ix ix_list (pv 1) (pv 4) (fun _ _ => rfl)) pe_int (fun _ _ => rfl)) (pv 3) (nomark _))))) (pss_one (ps_ret pe_bl)) pss_nil) <|
        pss_one (ps_set (i := 3) nd rfl (.inl rfl) (pe_ix ix_tup (pe_ix ix_list (pv 1) (pv 4) (fun _ _ => rfl)) pe_int (fun _ _ => rfl))))) <|
        pss_one (ps_ret pe_bl), ?_⟩
    obtain ⟨gv, hgv, ga⟩ := id G
    obtain ⟨wv, hwv, wa⟩ := id W
    have hlg : gv.length = gs.length := ga.1
    have hlw : wv.length = ws.length := wa.1
    have q0 := q H (Same.refl H)
    obtain ⟨t, ty, _, _, k3, _⟩ := hd.ty
    refine ⟨_, rfl, _, _, _, _, dT d, rfl, .ty "tuple", ty, kit_ty k3, dT d, rfl, ?_⟩
    cases eT : dT d with
    | false =>
      rw [piece_dT eT] at q0
      exact iteT q0
    | true =>
    refine iteF ?_
    cases hd with
    | @tup a xs ds sq al =>
      have hl : xs.length = ds.length := al.all2.1
      by_cases h2 : ds.length = 2
      rotate_left
      · rw [piece_len h2] at q0
        have h3 : ¬ (V.int ((xs.length : Nat) : Int) = V.int 2) := fun z => by
          injection z
          omega
        refine ⟨_, rfl, a, _, rfl, .inr sq, rfl, _, rfl, ?_⟩
        rw [decide_eq_false h3]
        exact iteT q0
      obtain ⟨dg, dw, rfl⟩ : ∃ x y, ds = [x, y] := by
        match ds, h2 with
        | [x, y], _ => exact ⟨x, y, rfl⟩
      obtain ⟨vg, vw, rfl⟩ : ∃ x y, xs = [x, y] := by
        match xs, hl with
        | [x, y], _ => exact ⟨x, y, rfl⟩
      cases al with
      | cons hg al =>
      cases al with
      | cons hw al =>
      clear al
      refine ⟨_, rfl, a, _, rfl, .inr sq, rfl, false, rfl, iteF ?_⟩
      refine ⟨_, rfl, a, _, 0, _, rfl, rfl, sq, atI_nat (j := 0) rfl, _, rfl, lg, gv, rfl, .inl (SqL.of hgv), vg, dg, _, rfl, hg, fromD dg 0 (((gv.length : Nat) : Int) - 1), rfl, ?_⟩
      rw [hlg]
      cases ef : fromD dg 0 ((gs.length : Int) - 1) with
      | false =>
        refine iteT ?_
        have e0 : (pieceD gs ws (.tuple [dg, dw])).isSome = false := by
          cases eg : wholeD dg with
          | false => rw [piece_g eg]; rfl
          | true =>
            cases dg with
            | int g =>
              cases el : dL dw with
              | false => rw [piece_w el]; rfl
              | true =>
                cases dw with
                | list ds => rw [piece_int, ef]; rfl
                | _ => cases el
            | _ => cases eg
        rw [e0] at q0
        exact q0
      | true =>
      refine iteF ?_
      obtain ⟨g, rfl, hg0, hg1⟩ : ∃ g : Int, dg = .int g ∧ 0 ≤ g ∧ g < gs.length := by
        cases dg with
        | int g =>
          have ef : (decide (0 ≤ g) && decide (g ≤ (gs.length : Int) - 1)) = true := ef
          rw [Bool.and_eq_true, decide_eq_true_eq, decide_eq_true_eq] at ef
          exact ⟨g, rfl, ef.1, by omega⟩
        | _ => cases ef
      cases hg
      obtain ⟨gn, rfl⟩ : ∃ gn : Nat, g = (gn : Nat) := ⟨g.toNat, by omega⟩
      refine ⟨_, rfl, a, _, 0, _, rfl, rfl, sq, atI_nat (j := 0) rfl, ?_⟩
      refine gn_norm (σ' := [some (.ref lg), some (.ref lw), some (.ref a), some (.int (gn : Nat)), none]) rfl ?_
      obtain ⟨t2, ty2, _, _, _, k4⟩ := hw.ty
      refine ⟨_, rfl, a, _, 1, _, rfl, rfl, sq, atI_nat (j := 1) rfl, _, _, _, _, dL dw, rfl, .ty "list", ty2, kit_ty k4, dL dw, rfl, ?_⟩
      cases el : dL dw with
      | false =>
        rw [piece_w el] at q0
        exact iteT q0
      | true =>
      refine iteF ?_
      cases hw with
      | @lst l xs ds sl _ al2 =>
        rw [piece_int, ef, Bool.true_and, Int.toNat_natCast] at q
        have hll : xs.length = ds.length := al2.all2.1
        refine ⟨_, rfl, a, _, 1, _, rfl, rfl, sq, atI_nat (j := 1) rfl, l, rfl, ⟨_, SqL.of sl⟩, for_list (K := K) (a := l) (xs := xs) (fun i σ H' => ∃ (g : Nat) (u4 : Option V), σ = [some (.ref lg), some (.ref lw), some (.ref a), some (.int (g : Nat)), u4] ∧ (walkD ws gn ds).isSome = (walkD ws g (ds.drop i)).isSome ∧ Same H H') ⟨gn, _, rfl, rfl, Same.refl H⟩ (fun i σ H2 _ ⟨_, _, _, _, sm⟩ => SqL.of (sm _ _ sl)) ?_ ?_⟩
        · rintro i x σ H1 hx ⟨g, u4, rfl, hwk, sm⟩
          obtain ⟨d, hdi, hdx⟩ := al2.get' hx
          have hil : i < ds.length := (List.getElem?_eq_some_iff.mp hdi).1
          have edr : ds.drop i = d :: ds.drop (i + 1) := by
            rw [List.drop_eq_getElem_cons hil]
            congr 1
            exact (List.getElem?_eq_some_iff.mp hdi).2
          rw [edr] at hwk
          have hdx1 : Dx K Any H1 x d := Dx.move (XM.same sm) _ hdx
          have q1 := q H1 sm
          refine gn_norm (σ' := [some (.ref lg), some (.ref lw), some (.ref a), some (.int (g : Nat)), some x]) rfl ?_
          refine ⟨_, rfl, _, rfl, lw, wv, rfl, .inl (SqL.of (sm _ _ hwv)), x, d, _, rfl, hdx1, fromD d 0 (((wv.length : Nat) : Int) - 1), rfl, ?_⟩
          rw [hlw]
          cases ef2 : fromD d 0 ((ws.length : Int) - 1) with
          | false =>
            refine iteT ?_
            have e0 : (walkD ws gn ds).isSome = false := by
              rw [hwk]
              cases ew : wholeD d with
              | false => rw [walk_not ew]; rfl
              | true =>
                cases d with
                | int k => rw [walk_int, ef2]; rfl
                | _ => cases ew
            rw [e0] at q1
            exact q1
          | true =>
          obtain ⟨k, rfl, hk0, hk1⟩ : ∃ k : Int, d = .int k ∧ 0 ≤ k ∧ k < ws.length := by
            cases d with
            | int k =>
              have ef2 : (decide (0 ≤ k) && decide (k ≤ (ws.length : Int) - 1)) = true := ef2
              rw [Bool.and_eq_true, decide_eq_true_eq, decide_eq_true_eq] at ef2
              exact ⟨k, rfl, ef2.1, by omega⟩
            | _ => cases ef2
          cases hdx
          obtain ⟨kn, rfl⟩ : ∃ kn : Nat, k = (kn : Nat) := ⟨k.toNat, by omega⟩
          rw [walk_int, ef2, Bool.true_and, Int.toNat_natCast] at hwk
          have hkw : kn < ws.length := by omega
          have hxw := List.getElem?_eq_getElem hkw
          have esv := svW_get hxw
          generalize ws[kn]'hkw = y at hxw esv
          rw [esv] at hwk
          obtain ⟨_, hv', b1, b2, rfl, s1, s2⟩ := wa.getR hxw
          have tk := TK.same sm
          refine iteF ⟨_, rfl, _, rfl, lw, wv, kn, _, rfl, rfl, SqL.of (sm _ _ hwv), atI_nat hv', b1, _, 0, _, rfl, rfl, tk.seq s1, atI_nat (j := 0) rfl, _, rfl, rfl, _, rfl, ?_⟩
          by_cases hg : y.1 = g
          · rw [decide_eq_true (congrArg V.int (by rw [hg])), decide_eq_true hg] at *
            refine iteF ?_
            refine ⟨_, rfl, _, rfl, lw, wv, kn, _, rfl, rfl, SqL.of (sm _ _ hwv), atI_nat hv', b1, _, 1, _, rfl, rfl, tk.seq s1, atI_nat (j := 1) rfl, ?_⟩
            refine ⟨y.2.1, some (.int (kn : Nat)), rfl, ?_, sm⟩
            rw [hwk]
            rfl
          · rw [decide_eq_false hg] at hwk
            have e0 : (walkD ws gn ds).isSome = false := hwk
            rw [e0] at q1
            rw [decide_eq_false (fun z => hg (by have := V.int.inj z; omega))]
            exact iteT q1
        · rintro σ H1 ⟨g, u4, rfl, hwk, sm⟩
          rw [hll, List.drop_length] at hwk
          have q1 := q H1 sm
          rw [hwk] at q1
          exact q1
      | _ => cases el
    | _ => cases eT
abbrev nLRoom : List Str := ["_law_gates_here", "_law_wires_here", "_law_piece", "_law_pulse", "_law_gate", "_law_wait", "_law_place"]
theorem scLRoom : FnScope nLRoom ["_law_gates_here", "_law_wires_here", "_law_piece", "_law_pulse"] (defScope sLRoom) := ⟨rfl, rfl, rfl, by decide +kernel, rfl, by decide +kernel, by decide +kernel⟩
abbrev DLRoom (P : Program) (w : World) (K : PySem.W.Frag) (mg : Str → Option Value) (base : Heap) := Df P w K mg base 2 "_law_room" ["_law_gates_here", "_law_wires_here", "_law_piece", "_law_pulse"] (spLRoom K)
theorem ok_lRoom {f fE : Addr} {fd fdE : FuncData} (F : Fun K "_law_room" "_law_room" sLRoom f fd) (hm : mg "_law_room" = some (.ref f)) (B : Bt mg) (ms : mg "sum" = none) (DEn : DLEnds P w K mg base fE fdE) : DLRoom P w K mg base f fd := by
  refine ⟨?_, hm, F.kp, F.binds fun _ _ _ _ _ _ us hl => match us, hl with | [_, _, _, _], _ => rfl⟩
  refine F.ok scLRoom (fun vs H Q E h => ?_) (fun cdv A outer s H vs Q E hr h => ?_)
  · obtain ⟨lg, lw, v, gs, ws, pc, b, rfl, _⟩ := h
    rfl
  · obtain ⟨lg, lw, v, gs, ws, pc, b, rfl, G, W, N, pcv, pok, hpl, q⟩ := h
    have nd := scLRoom.nd
    refine ⟨_, pss_cons (ps_set (i := 5) nd rfl (.inl rfl) (pe_callB (cr_sum rfl) (by rfl) ms (by decide +kernel) (pa_cons (pe_lc (own := [("_law_gate", 4)]) (g := (gName 4)) (tt := tYes) (te := (tOp (rIxT K) (tOp (rIxL K) (tVar 0) (tVar 4)) (tC (.int 1)))) rfl nd (pi_list (pe_call DEn.ok (hr.mono (by decide)) (by rfl) DEn.mg DEn.kp DEn.bd .nil pass0 (pa_cons (pv 1) (pa_cons (pv 2) pa_nil)))) (blkOk_by (N := nLRoom) (sc := defScope sLRoom) (own := [("_law_gate", 4)]) (by decide +kernel)) (fun _ _ _ _ _ => (pg_name (i := 4) nd rfl (.inl rfl))) (fun _ _ _ _ _ => pts_nil) (fun _ _ _ _ _ => (pe_ix ix_tup (pe_ix ix_list (pv 0) (pv 4) (fun _ _ => rfl)) pe_int (fun _ _ => rfl)))) pa_nil))) <|
        pss_one (ps_ret (pe_op op_sub (pe_callB (cr_sum rfl) (by rfl) ms (by decide +kernel) (pa_cons (pe_lc (own := [("_law_place", 6)]) (g := (gName 6)) (tt := tYes) (te := (tCB (Evl.rLenS K) (tCons (tOp (rIxT K) (tOp (rIxL K) (tVar 1) (tVar 6)) (tC (.int 2))) tNil))) rfl nd (pi_list (pe_ix ix_tup (pv 2) pe_int (fun _ _ => rfl))) (blkOk_by (N := nLRoom) (sc := defScope sLRoom) (own := [("_law_place", 6)]) (by decide +kernel)) (fun _ _ _ _ _ => (pg_name (i := 6) nd rfl (.inl rfl))) (fun _ _ _ _ _ => pts_nil) (fun _ _ _ _ _ => (pe_callB call_len_seq (by rfl) B.len PySem.boot_len (pa_cons (pe_ix ix_tup (pe_ix ix_list (pv 1) (pv 6) (fun _ _ => rfl)) pe_int (fun _ _ => rfl)) pa_nil)))) pa_nil)) (pe_callTy call_int1 (by rfl) B.int (by decide +kernel) (pa_cons (pe_cmpR op_gt (pv 5) (pv 3) (nomark _)) pa_nil)))), ?_⟩
    obtain ⟨gv, hgv, ga⟩ := id G
    obtain ⟨wv, hwv, wa⟩ := id W
    obtain ⟨a, l, rfl, sq, sl⟩ := id pcv
    have hlt := lends_lt N pok
    have hll : (lendsL ws pc).length = pc.2.length + 1 := by unfold lendsL; rw [List.length_cons, List.length_map]
    refine ⟨_, rfl, _, rfl, lw, _, gs, ws, pc, rfl, W, N, pcv, pok, hpl, fun le H1 s1 hle ele => ?_⟩
    refine ⟨le, rfl, ⟨_, SqL.of ele⟩, fun D hD => ?_⟩
    refine lc_list (K := K) (a := le) (xs := nvs (lendsL ws pc)) (fun i Hc => Hc D = some (.lst ((((lendsL ws pc).take i).map fun g => gw gs g).map V.int)) ∧ Same H1 Hc) ⟨upd_same, same_new hD⟩ (fun i Hc _ ⟨_, sm⟩ => SqL.of (sm _ _ ele)) ?_ ?_
    · rintro i v Hc hv ⟨hc, sm⟩
      obtain ⟨k, hk, rfl⟩ := nvs_of hv
      have hg := List.getElem?_eq_getElem (hlt k (List.mem_of_getElem? hk))
      have egw := gw_get hg
      generalize gs[k]'(hlt k (List.mem_of_getElem? hk)) = g at hg egw
      obtain ⟨_, hgvk, ag, rfl, sqg⟩ := ga.getR hg
      have smm := s1.trans sm
      have hi : i < (lendsL ws pc).length := (List.getElem?_eq_some_iff.mp hk).1
      refine ⟨rfl, tyes ?_⟩
      refine ⟨_, rfl, _, rfl, lg, _, k, _, rfl, rfl, SqL.of (smm _ _ hgv), atI_nat hgvk, ag, _, 1, _, rfl, rfl, (TK.same smm).seq sqg, atI_nat (j := 1) rfl, _, hc, ?_, ?_, same_mut sm hD⟩
      · rw [List.length_map, List.length_map, List.length_take]
        exact small11k' (by omega)
      · rw [upd_same, List.take_add_one, hk, List.map_append, List.map_append]
        show _ = some (HO.lst (_ ++ [V.int (gw gs k)]))
        rw [egw]
    rintro H2 ⟨h2, s2⟩
    rw [nvs_len, List.take_length] at h2
    refine ⟨D, _, rfl, SqL.of h2, ?_⟩
    rw [lends_wait]
    have s12 := s1.trans s2
    refine gn_norm (σ' := [some (.ref lg), some (.ref lw), some (.ref a), some (.int b), none, some (.int (pwt gs ws pc.1 pc.2)), none]) rfl ?_
    obtain ⟨hst, e, hp⟩ := pok
    refine ⟨_, rfl, a, _, 1, _, rfl, rfl, (TK.same s12).seq sq, atI_nat (j := 1) rfl, l, rfl, ⟨_, s12.seq sl⟩, fun D3 hD3 => ?_⟩
    refine lc_list (K := K) (a := l) (xs := nvs pc.2) (fun i Hc => Hc D3 = some (.lst (((pc.2.take i).map fun p => (((svW ws p).2.2.length : Nat) : Int)).map V.int)) ∧ Same H2 Hc) ⟨upd_same, same_new hD3⟩ (fun i Hc _ ⟨_, sm⟩ => sm.seq (s12.seq sl)) ?_ ?_
    · rintro i v Hc hv ⟨hc, sm⟩
      obtain ⟨k, hk, rfl⟩ := nvs_of hv
      have hx := List.getElem?_eq_getElem (hp.places k (List.mem_of_getElem? hk))
      have esv := svW_get hx
      generalize ws[k]'(hp.places k (List.mem_of_getElem? hk)) = x at hx esv
      obtain ⟨_, hwvk, ax, bx, rfl, sq1, sq2⟩ := wa.getR hx
      have smm := s12.trans sm
      have hi : i < pc.2.length := (List.getElem?_eq_some_iff.mp hk).1
      refine ⟨rfl, tyes ?_⟩
      refine ⟨_, rfl, _, rfl, lw, _, k, _, rfl, rfl, SqL.of (smm _ _ hwv), atI_nat hwvk, ax, _, 2, _, rfl, rfl, (TK.same smm).seq sq1, atI_nat (j := 2) rfl, bx, _, rfl, .inr ((TK.same smm).seq sq2), _, hc, ?_, ?_, same_mut sm hD3⟩
      · rw [List.length_map, List.length_map, List.length_take]
        exact small5k (by omega)
      · rw [upd_same, List.take_add_one, hk, List.map_append, List.map_append, List.length_map]
        show _ = some (HO.lst (_ ++ [V.int (((svW ws k).2.2.length : Nat) : Int)]))
        rw [esv]
    rintro H3 ⟨h3, s3⟩
    rw [nvs_len, List.take_length] at h3
    refine ⟨D3, _, rfl, SqL.of h3, ?_⟩
    refine ⟨_, rfl, _, rfl, _, _, rfl, rfl, .inr ⟨_, rfl, _, _, rfl, rfl, ?_⟩⟩
    have := q H3 (s12.trans s3)
    rw [← room_law] at this
    exact this
abbrev nFixed : List Str := ["_law_gates_here", "_law_gate"]
theorem scFixed : FnScope nFixed ["_law_gates_here", "_law_gate"] (defScope sFixed) := ⟨rfl, rfl, rfl, by decide +kernel, rfl, by decide +kernel, by decide +kernel⟩
abbrev DFixed (P : Program) (w : World) (K : PySem.W.Frag) (mg : Str → Option Value) (base : Heap) := Df P w K mg base 1 "_law_fixed" ["_law_gates_here", "_law_gate"] (spFixed K)
theorem ok_fixed {f : Addr} {fd : FuncData} (F : Fun K "_law_fixed" "_law_fixed" sFixed f fd) (hm : mg "_law_fixed" = some (.ref f)) : DFixed P w K mg base f fd := by
  refine ⟨?_, hm, F.kp, F.binds fun _ _ _ _ _ _ us hl => match us, hl with | [_, _], _ => rfl⟩
  refine F.ok scFixed (fun vs H Q E h => ?_) (fun cdv A outer s H vs Q E hr h => ?_)
  · obtain ⟨lg, g, gs, rfl, _⟩ := h
    rfl
  · obtain ⟨lg, g, gs, rfl, G, hg, q⟩ := h
    have nd := scFixed.nd
    refine ⟨_, pss_one (ps_ret (pe_cmpR op_in_seq (pe_ix ix_tup (pe_ix ix_list (pv 0) (pv 1) (fun _ _ => rfl)) pe_int (fun _ _ => rfl)) (pe_lst (pa_cons pe_str (pa_cons pe_str pa_nil))) (by rfl))), ?_⟩
    obtain ⟨gv, hgv, ga⟩ := id G
    obtain ⟨_, hv, a, rfl, sq⟩ := ga.getR (List.getElem?_eq_getElem hg)
    refine ⟨_, rfl, _, rfl, lg, gv, g, _, rfl, rfl, SqL.of hgv, atI_nat hv, a, _, 0, _, rfl, rfl, sq, atI_nat (j := 0) rfl, (by show 2 ≤ sizeLine; decide), fun l2 hl2 => ?_⟩
    refine ⟨l2, _, rfl, .inl (SqL.of upd_same), rfl, rfl, q _ _ ?_ (same_new hl2)⟩
    rw [kindAt_get (List.getElem?_eq_getElem hg)]
    exact port_inW
abbrev nWalked : List Str := ["_law_well_here", "_law_gates_here", "_law_wires_here", "_law_start", "_law_at", "_law_found", "_law_k", "_law_place", "_law_some"]
theorem scWalked : FnScope nWalked ["_law_well_here", "_law_gates_here", "_law_wires_here"] (defScope sWalked) := ⟨rfl, rfl, rfl, by decide +kernel, rfl, by decide +kernel, by decide +kernel⟩
abbrev DWalked (P : Program) (w : World) (K : PySem.W.Frag) (mg : Str → Option Value) (base : Heap) := Df P w K mg base 2 "_law_walked" ["_law_well_here", "_law_gates_here", "_law_wires_here"] (spWalked K)
theorem ok_walked {f fD : Addr} {fd fdD : FuncData} (F : Fun K "_law_walked" "_law_walked" sWalked f fd) (hm : mg "_law_walked" = some (.ref f)) (B : Bt mg) (DD : DDraw P w K mg base fD fdD) : DWalked P w K mg base f fd := by
  refine ⟨?_, hm, F.kp, F.binds fun _ _ _ _ _ _ us hl => match us, hl with | [_, _, _], _ => rfl⟩
  refine F.ok scWalked (fun vs H Q E h => ?_) (fun cdv A outer s H vs Q E hr h => ?_)
  · obtain ⟨wl, lg, lw, gs, ws, rfl, _⟩ := h
    rfl
  · obtain ⟨wl, lg, lw, gs, ws, rfl, hw, nlg, nlw, G, W, N, q⟩ := h
    have nd := scWalked.nd
    refine ⟨_, pss_cons (ps_set (i := 3) nd rfl (.inl rfl) (pe_call DD.ok (hr.mono (by decide)) (by rfl) DD.mg DD.kp DD.bd .nil pass0 (pa_cons (pv 0) (pa_cons (pe_callB call_len_seq (by rfl) B.len PySem.boot_len (pa_cons (pv 1) pa_nil)) pa_nil)))) <|
        pss_cons (ps_set (i := 4) nd rfl (.inr rfl) (pv 3)) <|
        pss_cons (ps_set (i := 5) nd rfl (.inl rfl) (pe_lst pa_nil)) <|
        pss_cons (ps_for PassesOwn.never rfl (pi_range1 (by rfl) B.range (pa_cons (pe_call DD.ok (hr.mono (by decide)) (by rfl) DD.mg DD.kp DD.bd .nil pass0 (pa_cons (pv 0) (pa_cons pe_int pa_nil))) pa_nil)) (pg_name (i := 6) nd rfl (.inl rfl)) (pss_cons (ps_setLc (i := 8) (own := [("_law_place", 7)]) (g := (gName 7)) (tt := (tTest (tOp rEq (tOp (rIxT K) (tOp (rIxL K) (tVar 2) (tVar 7)) (tC (.int 0))) (tVar 4)))) (te := (tVar 7)) rfl nd rfl rfl (sw_true rfl rfl rfl (by decide +kernel)) (pi_range1 (by rfl) B.range (pa_cons (pe_callB call_len_seq (by rfl) B.len PySem.boot_len (pa_cons (pv 2) pa_nil)) pa_nil)) (blkOk_by (N := nWalked) (sc := defScope sWalked) (own := [("_law_place", 7)]) (by decide +kernel)) (fun _ _ _ _ _ => (pg_name (i := 7) nd rfl (.inl rfl))) (fun _ _ _ _ _ => pts_one (pt_cmpR op_eq (pe_ix ix_tup (pe_ix ix_list (pv 2) (pv 7) (fun _ _ => rfl)) pe_int (fun _ _ => rfl)) (pv 4) (nomark _))) (fun _ _ _ _ _ => (pv 7))) <|
        pss_one (ps_if (pt_cmpR (op_neD hr.units) (pv 8) (pe_lst pa_nil) (nomark _)) (pss_cons (ps_expr (pe_bm PySem.F.plainAttrs_list PySem.F.slot_list_append PySem.F.type_list_append mt_append (pv 5) (pa_cons (pe_ix ix_list (pv 8) (pe_call DD.ok (hr.mono (by decide)) (by rfl) DD.mg DD.kp DD.bd .nil pass0 (pa_cons (pv 0) (pa_cons (pe_callB call_len_seq (by rfl) B.len PySem.boot_len (pa_cons (pv 8) pa_nil)) pa_nil))) (fun _ _ => rfl)) pa_nil))) <|
        pss_one (ps_set (i := 4) nd rfl (.inr rfl) (pe_ix ix_tup (pe_ix ix_list (pv 2) (pe_ix ix_list (pv 5) (pe_un un_neg pe_int) (fun _ _ => rfl)) (fun _ _ => rfl)) pe_int (fun _ _ => rfl)))) pss_nil))) <|
        pss_one (ps_ret (pe_tup (pa_cons (pv 3) (pa_cons (pv 5) pa_nil)))), ?_⟩
    have hgl := N.gl
    have hwl := N.wl
    obtain ⟨gv, hgv, ga⟩ := id G
    have hlg : gv.length = gs.length := ga.1
    have hg0 : 0 < gs.length := List.length_pos_iff.mpr N.ne
    refine ⟨_, rfl, _, rfl, lg, gv, rfl, .inl (SqL.of hgv), wl, _, rfl, by omega, by omega, hw, fun d H1 d0 d1 E1 => ?_⟩
    obtain ⟨st, rfl⟩ : ∃ st : Nat, d = (st : Nat) := ⟨d.toNat, by omega⟩
    have hst : st < gs.length := by omega
    refine gn_norm (σ' := [some (.ref wl), some (.ref lg), some (.ref lw), some (.int (st : Nat)), none, none, none, none, none]) rfl ?_
    refine ⟨_, rfl, ?_⟩
    refine gn_norm (σ' := [some (.ref wl), some (.ref lg), some (.ref lw), some (.int (st : Nat)), some (.int (st : Nat)), none, none, none, none]) rfl ?_
    refine ⟨(by show 0 ≤ sizeLine; decide), fun lf hlf => ?_⟩
    have u2 := Dr.ofSame E1.well (same_new (o := .lst []) hlf)
    have e2 : (upd H1 lf (.lst [])) lf = some (.lst (nvs [])) := upd_same
    have hlf0 : H lf = none := E1.free hw hlf
    have nlf : lf ≠ wl := (E1.well.ne hlf).symm
    obtain ⟨H2, hH2⟩ : ∃ H2, H2 = upd H1 lf (.lst []) := ⟨_, rfl⟩
    rw [← hH2] at u2 e2
    refine gn_normH (σ' := [some (.ref wl), some (.ref lg), some (.ref lw), some (.int (st : Nat)), some (.int (st : Nat)), some (.ref lf), none, none, none]) (H' := H2) rfl hH2.symm ?_
    have D2 := E1.trans u2
    refine ⟨_, rfl, wl, 5, rfl, by decide, by decide, D2.well, fun k H3 k0 k1 E3 => ?_⟩
    refine ⟨_, rfl, by omega, by omega, for_range (lo := 0) (n := k.toNat) (fun j σ H' => ∃ (u6 u8 : Option V) (at' : Nat) (ps : List Nat), σ = [some (.ref wl), some (.ref lg), some (.ref lw), some (.int (st : Nat)), some (.int (at' : Nat)), some (.ref lf), u6, none, u8] ∧ Dr wl H H' ∧ H' lf = some (.lst (nvs ps)) ∧ Pw ws st ps at' ∧ ps.length ≤ j) ⟨_, _, st, [], rfl, D2.trans E3, E3.but _ _ nlf e2, rfl, Nat.le_refl _⟩ ?_ ?_⟩
    · rintro j σ H4 hj ⟨u6, u8, at', ps, rfl, D4, hlf4, hpw, hpl⟩
      have W4 := W.dr nlw hw D4
      obtain ⟨wv, hwv, wa⟩ := id W4
      have hlw : wv.length = ws.length := wa.1
      have hat : at' < gs.length := hpw.lt N hst
      refine gn_norm (σ' := [some (.ref wl), some (.ref lg), some (.ref lw), some (.int (st : Nat)), some (.int (at' : Nat)), some (.ref lf), some (.int (0 + (j : Nat))), none, u8]) rfl ?_
      refine ⟨_, rfl, lw, wv, rfl, .inl (SqL.of hwv), _, rfl, by omega, by omega, fun D hD => ?_⟩
      rw [Int.toNat_natCast, hlw]
      refine lc_range (lo := 0) (n := ws.length) (fun i Hc => ∃ qs : List Nat, Hc D = some (.lst (nvs qs)) ∧ qs.length ≤ i ∧ (∀ p ∈ qs, ∃ x, ws[p]? = some x ∧ x.1 = at') ∧ Same H4 Hc) ⟨[], upd_same, Nat.le_refl _, (fun p hp => nomatch hp), same_new hD⟩ ?_ ?_
      · rintro i Hc hi ⟨qs, hc, hql, hqs, sm⟩
        have ei : (0 : Int) + ((i : Nat) : Int) = ((i : Nat) : Int) := Int.zero_add _
        rw [ei]
        have hx := List.getElem?_eq_getElem hi
        generalize ws[i]'hi = x at hx
        obtain ⟨_, hwvi, b1, b2, rfl, s1, s2⟩ := wa.getR hx
        refine ⟨rfl, _, rfl, _, rfl, lw, wv, i, _, rfl, rfl, SqL.of (sm _ _ hwv), atI_nat hwvi, b1, _, 0, _, rfl, rfl, (TK.same sm).seq s1, atI_nat (j := 0) rfl, _, rfl, rfl, _, rfl, ite2 (fun e => ?_) (fun e => ?_)⟩
        · have e : x.1 = at' := by have := V.int.inj (of_decide_eq_true e); omega
          refine ⟨_, rfl, _, hc, ?_, qs ++ [i], ?_, ?_, ?_, same_mut sm hD⟩
          · rw [nvs_len]
            exact small1000 (by omega)
          · rw [upd_same]
            unfold nvs
            rw [List.map_append]
            rfl
          · rw [List.length_append]
            show _ + 1 ≤ _
            omega
          · intro p hp
            rcases List.mem_append.mp hp with h | h
            · exact hqs p h
            · rw [List.mem_singleton.mp h]
              exact ⟨x, hx, e⟩
        · exact ⟨qs, hc, by omega, hqs, sm⟩
      rintro H5 ⟨qs, h5, hql, hqs, s5⟩
      have D5 := D4.trans (Dr.ofSame D4.well s5)
      have hlf5 := s5 _ _ hlf4
      refine gn_norm (σ' := [some (.ref wl), some (.ref lg), some (.ref lw), some (.int (st : Nat)), some (.int (at' : Nat)), some (.ref lf), some (.int (0 + (j : Nat))), none, some (.ref D)]) rfl ?_
      refine ⟨_, rfl, (by show 0 ≤ sizeLine; decide), fun l6 hl6 => ?_⟩
      have s6 : Same H5 (upd H5 l6 (.lst [])) := same_new hl6
      have e6 : (upd H5 l6 (.lst [])) l6 = some (.lst []) := upd_same
      have h56 := s6 _ _ h5
      have hlf6 := s6 _ _ hlf5
      generalize upd H5 l6 (.lst []) = H6 at s6 e6 h56 hlf6
      have D6 := D5.trans (Dr.ofSame D5.well s6)
      have W6 := W.dr nlw hw D6
      refine ⟨_, _, dp_nums (xs := qs.map fun k => ((k : Nat) : Int)) (by rw [← nvs_intsW]; exact SqL.of h56), dp_nums (xs := []) (SqL.of e6), Sh.ok (sh_nums _) (by decide), Sh.ok (sh_nums _) (by decide), _, rfl, ?_⟩
      rw [numsD_eq]
      by_cases hq : qs = []
      · subst hq
        exact iteF ⟨_, _, at', ps, rfl, D6, hlf6, hpw, by omega⟩
      have hq0 : 0 < qs.length := List.length_pos_iff.mpr hq
      rw [decide_eq_false (fun z => hq (List.map_eq_nil_iff.mp z))]
      refine iteT ?_
      refine ⟨_, rfl, .inl ⟨rfl, _, SqL.of hlf6⟩, _, rfl, _, rfl, _, rfl, D, _, rfl, .inl (SqL.of h56), wl, _, rfl, by rw [nvs_len]; omega, by rw [nvs_len]; omega, D6.well, fun z H7 z0 z1 E7 => ?_⟩
      rw [nvs_len] at z1
      have nD : D ≠ wl := fun e => by
        obtain ⟨_, hh, _⟩ := D4.well
        rw [← e, hD] at hh
        cases hh
      obtain ⟨zn, rfl⟩ : ∃ zn : Nat, z = (zn : Nat) := ⟨z.toNat, by omega⟩
      obtain ⟨pl, hpl2⟩ : ∃ pl, qs[zn]? = some pl := ⟨_, List.getElem?_eq_getElem (by omega)⟩
      obtain ⟨x, hx, hxat⟩ := hqs pl (List.mem_of_getElem? hpl2)
      have D7 := D6.trans E7
      have hlf7 := E7.but _ _ nlf hlf6
      refine ⟨D, _, _, _, rfl, rfl, SqL.of (E7.but _ _ nD h56), atI_nat (nvs_at hpl2), lf, _, _, rfl, rfl, hlf7, ?_, ?_⟩
      · rw [nvs_len]
        exact small1000 (by omega)
      have nv7 : nvs ps ++ [V.int (pl : Nat)] = nvs (ps ++ [pl]) := by
        unfold nvs
        rw [List.map_append]
        rfl
      rw [nv7]
      have D8 : Dr wl H (upd H7 lf (.lst (nvs (ps ++ [pl])))) := set_well D7 hlf0 nlf
      have e8 : (upd H7 lf (.lst (nvs (ps ++ [pl])))) lf = some (.lst (nvs (ps ++ [pl]))) := upd_same
      generalize upd H7 lf (.lst (nvs (ps ++ [pl]))) = H8 at D8 e8
      have W8 := W.dr nlw hw D8
      obtain ⟨wv8, hwv8, wa8⟩ := id W8
      obtain ⟨_, hwvp, b1, b2, rfl, s1, s2⟩ := wa8.getR hx
      have hll : (nvs (ps ++ [pl])).length = ps.length + 1 := by rw [nvs_len, List.length_append]; rfl
      have hlast : (nvs (ps ++ [pl]))[ps.length]? = some (.int (pl : Nat)) := nvs_at (by rw [List.getElem?_append_right (Nat.le_refl _), Nat.sub_self]; rfl)
      refine ⟨_, rfl, _, rfl, _, rfl, lf, _, -1, _, rfl, rfl, SqL.of e8, at_last hll hlast, lw, wv8, pl, _, rfl, rfl, SqL.of hwv8, atI_nat hwvp, b1, _, 1, _, rfl, rfl, s1, atI_nat (j := 1) rfl, ?_⟩
      refine ⟨_, _, x.2.1, ps ++ [pl], rfl, D8, e8, hpw.snoc hx hxat, ?_⟩
      rw [List.length_append]
      show _ + 1 ≤ _
      omega
    · rintro σ H4 ⟨u6, u8, at', ps, rfl, D4, hlf4, hpw, hpl⟩
      refine ⟨_, rfl, _, rfl, (by show 2 ≤ sizeLine; decide), fun t ht => ?_⟩
      refine q t lf (st, ps) _ (D4.trans (Dr.ofSame D4.well (same_new ht))) (D4.free hw ht) hlf0 upd_same ((same_new ht) _ _ hlf4) ⟨hst, at', hpw⟩ (by show ps.length ≤ 5; omega)
end
end Lag


set_option maxRecDepth 100000
set_option maxHeartbeats 8000000
namespace Lag
open PySem PySem.Spec PyProof.Rows L2
abbrev sLEntry : Stmt := topS 84 -- @_law_is_entry
/-- draws of great numbers too -/
def spDrawB : Sp := fun vs H Q _ => ∃ (w : Addr) (n : Int), vs = [.ref w, .int n] ∧ 0 < n ∧ n.natAbs.log2 < 9000 ∧ WellAt w H ∧ ∀ d H', 0 ≤ d → d < n → Dr w H H' → Q (.int d) H'
def spLEntry (K : PySem.W.Frag) : Sp := fun vs H Q _ => ∃ (lg lw : Addr) (v : V) (d : PyData) (gs : List Gt) (ws : List Wr), vs = [.ref lg, .ref lw, v] ∧ LG K H lg gs ∧ LW K H lw ws ∧ NetOk gs ws ∧ Dx K Any H v d ∧ ∀ H', Same H H' → Q (.bl (entryD gs ws d).isSome) H'
mutual
theorem Dx.dp {K : PySem.W.Frag} {Av : Addr → Prop} {H : Hp} : ∀ (d : PyData) {v : V}, Dx K Av H v d → d.canLay0 = true → Dp K H v d
  | .none, _, h, _ => by cases h; exact .non
  | .bool _, _, h, _ => by cases h; exact .bl _
  | .int _, _, h, _ => by cases h; exact .int _
  | .str _, _, h, _ => by cases h; exact .str _
  | .list ds, _, h, e => by
    cases h with
    | lst q n a => exact .lst (SqL.of q) (DxAll.dp ds a (by simpa [PyData.canLay0] using e))
  | .tuple ds, _, h, e => by
    cases h with
    | tup q a => exact .tup q (DxAll.dp ds a (by simpa [PyData.canLay0] using e))
  | .dict _, _, _, e => by cases e
theorem DxAll.dp {K : PySem.W.Frag} {Av : Addr → Prop} {H : Hp} : ∀ (ds : List PyData) {vs : List V}, DxAll K Av H vs ds → PyData.canLayAll0 ds = true → DpAll K H vs ds
  | [], _, h, _ => by cases h; exact .nil
  | d :: ds, _, h, e => by
    cases h with
    | cons a b =>
      have e' : d.canLay0 = true ∧ PyData.canLayAll0 ds = true := by simpa [PyData.canLayAll0] using e
      exact .cons (Dx.dp d a e'.1) (DxAll.dp ds b e'.2)
end
theorem list_nilU {ds : List PyData} : PyData.eqv (.list ds) (.list []) = decide (ds = []) := by
  cases ds with
  | nil => rfl
  | cons _ _ => rfl
section
variable {P : Program} {w : World} {K : PySem.W.Frag} {mg : Str → Option Value} {base : Heap}
theorem ok_drawB {f : Addr} {fd : FuncData} (F : Fun K "_law_draw" "_law_draw" sDraw f fd) (hm : mg "_law_draw" = some (.ref f)) : FnOk P w K mg base CX0 1 f fd ["_law_well_here", "_law_many"] spDrawB := by
  refine F.ok scDraw (fun vs H Q E h => ?_) (fun cdv A outer s H vs Q E hr h => ?_)
  · obtain ⟨wl, n, rfl, _⟩ := h
    rfl
  · obtain ⟨wl, n, rfl, hn, hn2, ⟨_, hw, a, b, c, rfl⟩, q⟩ := h
    have nd := scDraw.nd
    refine ⟨_, pss_cons (ps_if (pt_cmpR op_gt (pe_ix ix_list (pv 0) pe_int (fun _ _ => rfl)) pe_int (nomark _)) (pss_cons (ps_set (i := 2) nd rfl (.inl rfl) (pe_op op_mod (pe_ix ix_list (pv 0) pe_int (fun _ _ => rfl)) (pv 1))) <|
        pss_cons (ps_asg (pe_op op_fdivW (pe_ix ix_list (pv 0) pe_int (fun _ _ => rfl)) (pv 1)) (pg_sub (pv 0) pe_int set_list)) <|
        pss_one (ps_ret (pv 2))) pss_nil) <|
        pss_cons (ps_asg (pe_op op_add (pe_ix ix_list (pv 0) pe_int (fun _ _ => rfl)) pe_int) (pg_sub (pv 0) pe_int set_list)) <|
        pss_cons (ps_set (i := 3) nd rfl (.inl rfl) (pe_op op_add (pe_op op_mod (pe_ix ix_list (pv 0) pe_int (fun _ _ => rfl)) pe_int) (pe_op op_mul (pe_op op_fdivW (pe_ix ix_list (pv 0) pe_int (fun _ _ => rfl)) pe_int) pe_int))) <|
        pss_cons (ps_set (i := 3) nd rfl (.inl rfl) (pe_op op_mod (pe_op op_mul (pe_op op_add (pe_op op_add (pv 3) (pe_op op_mul pe_int (pe_ix ix_list (pv 0) pe_int (fun _ _ => rfl)))) pe_int) pe_int) pe_int)) <|
        pss_cons (ps_set (i := 3) nd rfl (.inl rfl) (pe_op op_mod (pe_op op_mul (pv 3) (pe_op op_add (pe_op op_add (pe_op op_fdiv (pv 3) pe_int) pe_int) (pe_ix ix_list (pv 0) pe_int (fun _ _ => rfl)))) pe_int)) <|
        pss_one (ps_ret (pe_op op_mod (pe_op op_mod (pe_op op_mul (pv 3) (pe_op op_add (pe_op op_fdiv (pv 3) pe_int) pe_int)) pe_int) (pv 1))), ?_⟩
    refine ⟨_, rfl, wl, _, 0, .int a, rfl, rfl, SqL.of hw, atI_nat (j := 0) rfl, _, _, rfl, rfl, _, rfl, ite2 (fun e => ?_) (fun e => ?_)⟩
    · refine ⟨_, rfl, wl, _, 0, .int a, rfl, rfl, SqL.of hw, atI_nat (j := 0) rfl, _, rfl, _, _, rfl, rfl, hn, ?_⟩
      refine ⟨_, rfl, wl, _, 0, .int a, rfl, rfl, SqL.of hw, atI_nat (j := 0) rfl, _, rfl, _, _, rfl, rfl, ⟨hn, hn2⟩, ?_⟩
      refine ⟨_, rfl, wl, _, 0, 0, rfl, rfl, hw, rfl, ?_⟩
      refine ⟨_, rfl, ?_⟩
      exact q _ _ (Int.emod_nonneg _ (by omega)) (Int.emod_lt_of_pos _ hn) ⟨But.upd, ⟨_, upd_same, _, _, _, rfl⟩⟩
    · have h1 : (upd H wl (HO.lst [.int a, .int b, .int (c + 1)])) wl = some (.lst [.int a, .int b, .int (c + 1)]) := upd_same
      refine ⟨_, rfl, wl, _, 2, .int c, rfl, rfl, SqL.of hw, atI_nat (j := 2) rfl, _, _, rfl, rfl, ?_⟩
      refine ⟨_, rfl, wl, _, 2, 2, rfl, rfl, hw, rfl, ?_⟩
      refine ⟨_, rfl, wl, _, 1, .int b, rfl, rfl, SqL.of h1, atI_nat (j := 1) rfl, _, _, rfl, rfl, (by show (0 : Int) < 2147483629; decide), ?_⟩
      refine ⟨_, rfl, wl, _, 1, .int b, rfl, rfl, SqL.of h1, atI_nat (j := 1) rfl, _, _, rfl, rfl, wide_div (j := 2147483629) (b := 32) (by decide) (by decide) (by decide) (by decide), _, _, rfl, rfl, .inr ⟨by decide, by decide⟩, _, _, rfl, rfl, ?_⟩
      refine ⟨_, rfl, _, rfl, wl, _, 2, .int (c + 1), rfl, rfl, SqL.of h1, atI_nat (j := 2) rfl, _, _, rfl, rfl, .inl ⟨by decide, by decide⟩, _, _, rfl, rfl, _, _, rfl, rfl, _, _, rfl, rfl, .inr ⟨by decide, by decide⟩, _, _, rfl, rfl, (by show (0 : Int) < 2147483647; decide), ?_⟩
      refine ⟨_, rfl, _, rfl, _, _, rfl, rfl, ⟨by decide, by decide⟩, _, _, rfl, rfl, _, rfl, wl, _, 2, .int (c + 1), rfl, rfl, SqL.of h1, atI_nat (j := 2) rfl, _, _, rfl, rfl, _, _, rfl, rfl, .inl (mod_b (by decide) (by decide)), _, _, rfl, rfl, (by show (0 : Int) < 2147483629; decide), ?_⟩
      refine ⟨_, rfl, _, rfl, _, _, rfl, rfl, ⟨by decide, by decide⟩, _, _, rfl, rfl, _, _, rfl, rfl, .inl (mod_b (by decide) (by decide)), _, _, rfl, rfl, (by show (0 : Int) < 2147483399; decide), _, rfl, _, _, rfl, rfl, hn, ?_⟩
      exact q _ _ (Int.emod_nonneg _ (by omega)) (Int.emod_lt_of_pos _ hn) ⟨But.upd, ⟨_, h1, _, _, _, rfl⟩⟩
abbrev nLEntry : List Str := ["_law_gates_here", "_law_wires_here", "_law_entry"]
theorem scLEntry : FnScope nLEntry ["_law_gates_here", "_law_wires_here", "_law_entry"] (defScope sLEntry) := ⟨rfl, rfl, rfl, by decide +kernel, rfl, by decide +kernel, by decide +kernel⟩
abbrev DLEntry (P : Program) (w : World) (K : PySem.W.Frag) (mg : Str → Option Value) (base : Heap) := Df P w K mg base 3 "_law_is_entry" ["_law_gates_here", "_law_wires_here", "_law_entry"] (spLEntry K)
theorem ok_lentry {f fI : Addr} {fd fdI : FuncData} (F : Fun K "_law_is_entry" "_law_is_entry" sLEntry f fd) (hm : mg "_law_is_entry" = some (.ref f)) (B : Bt mg) (DIp : DLIsPiece P w K mg base fI fdI) : DLEntry P w K mg base f fd := by
  refine ⟨?_, hm, F.kp, F.binds fun _ _ _ _ _ _ us hl => match us, hl with | [_, _, _], _ => rfl⟩
  refine F.ok scLEntry (fun vs H Q E h => ?_) (fun cdv A outer s H vs Q E hr h => ?_)
  · obtain ⟨lg, lw, v, d, gs, ws, rfl, _⟩ := h
    rfl
  · obtain ⟨lg, lw, v, d, gs, ws, rfl, G, W, N, hd, q⟩ := h
    have nd := scLEntry.nd
    refine ⟨_, pss_cons (ps_if (PW.pt (pw_or (pt_not (pt_val (pe_callB call_isi (by rfl) B.isi (by decide +kernel) (pa_cons (pv 2) (pa_cons (pe_bltn (v := .ty "tuple") (by rfl) B.tuple (by decide +kernel) rfl) pa_nil))))) (pw_or (pt_cmpR op_ne (pe_callB call_len_seq (by rfl) B.len PySem.boot_len (pa_cons (pv 2) pa_nil)) pe_int (nomark _)) (pw_or1 (pt_not (pt_val (pe_call DIp.ok (hr.mono (by decide)) (by rfl) DIp.mg DIp.kp DIp.bd .nil pass0 (pa_cons (pv 0) (pa_cons (pv 1) (pa_cons (pe_ix ix_tup (pv 2) pe_int (fun _ _ => rfl)) pa_nil)))))))))) (pss_one (ps_ret pe_bl)) pss_nil) <|
        pss_one (ps_ret (pe_and (pe_callB call_isi (by rfl) B.isi (by decide +kernel) (pa_cons (pe_ix ix_tup (pv 2) pe_int (fun _ _ => rfl)) (pa_cons (pe_bltn (v := .ty "int") (by rfl) B.int (by decide +kernel) rfl) pa_nil))) (pe_and (pe_not (pe_callB call_isi (by rfl) B.isi (by decide +kernel) (pa_cons (pe_ix ix_tup (pv 2) pe_int (fun _ _ => rfl)) (pa_cons (pe_bltn (v := .ty "bool") (by rfl) B.bool (by decide +kernel) rfl) pa_nil)))) (pe_one (pe_cmpR op_gt (pe_ix ix_tup (pv 2) pe_int (fun _ _ => rfl)) pe_int (nomark _)))))), ?_⟩
    have q0 := q H (Same.refl H)
    obtain ⟨t, ty, _, _, k3, _⟩ := hd.ty
    refine ⟨_, rfl, _, _, _, _, dT d, rfl, .ty "tuple", ty, kit_ty k3, dT d, rfl, ?_⟩
    cases eT : dT d with
    | false =>
      rw [entry_dT eT] at q0
      exact iteT q0
    | true =>
    refine iteF ?_
    cases hd with
    | @tup a xs ds sq al =>
      have hl : xs.length = ds.length := al.all2.1
      by_cases h2 : ds.length = 2
      rotate_left
      · rw [entry_len h2] at q0
        have h3 : ¬ (V.int ((xs.length : Nat) : Int) = V.int 2) := fun z => by
          injection z
          omega
        refine ⟨_, rfl, a, _, rfl, .inr sq, rfl, _, rfl, ?_⟩
        rw [decide_eq_false h3]
        exact iteT q0
      obtain ⟨dp, dm, rfl⟩ : ∃ x y, ds = [x, y] := by
        match ds, h2 with
        | [x, y], _ => exact ⟨x, y, rfl⟩
      obtain ⟨vp, vm, rfl⟩ : ∃ x y, xs = [x, y] := by
        match xs, hl with
        | [x, y], _ => exact ⟨x, y, rfl⟩
      cases al with
      | cons hp al =>
      cases al with
      | cons hm al =>
      clear al
      refine ⟨_, rfl, a, _, rfl, .inr sq, rfl, _, rfl, ?_⟩
      have h3 : (V.int ((([vp, vm] : List V).length : Nat) : Int) = V.int 2) := rfl
      rw [decide_eq_true h3]
      refine iteF ?_
      refine ⟨_, rfl, _, rfl, _, rfl, a, _, 0, _, rfl, rfl, sq, atI_nat (j := 0) rfl, lg, lw, vp, dp, gs, ws, rfl, G, W, N, hp, fun H1 s1 => ⟨(pieceD gs ws dp).isSome, rfl, ?_⟩⟩
      cases ep : pieceD gs ws dp with
      | none =>
        rw [entry_p ep] at q
        exact iteT (q H1 s1)
      | some pc =>
      refine iteF ?_
      have hm1 := Dx.move (XM.same s1) _ hm
      have sq1 := (TK.same s1).seq sq
      obtain ⟨t2, ty2, k1, k2, _⟩ := hm1.ty
      refine ⟨_, rfl, a, _, 1, _, rfl, rfl, sq1, atI_nat (j := 1) rfl, _, _, _, _, dI dm, rfl, .ty "int", ty2, kit_ty k1, dI dm, rfl, ?_⟩
      cases ei : dI dm with
      | false =>
        rw [entry_m (by rw [whole_is, ei]; rfl)] at q
        exact iteF (q H1 s1)
      | true =>
      refine iteT ?_
      refine ⟨_, rfl, a, _, 1, _, rfl, rfl, sq1, atI_nat (j := 1) rfl, _, _, _, _, dB dm, rfl, .ty "bool", ty2, kit_ty k2, ?_⟩
      cases eb : dB dm with
      | true =>
        rw [entry_m (by rw [whole_is, ei, eb]; rfl)] at q
        exact ⟨true, rfl, false, rfl, iteF (q H1 s1)⟩
      | false =>
      refine ⟨false, rfl, true, rfl, iteT ?_⟩
      have ew : wholeD dm = true := by rw [whole_is, ei, eb]; rfl
      cases dm with
      | int m =>
        cases hm
        rw [entry_int, ep] at q
        refine ⟨_, rfl, a, _, 1, _, rfl, rfl, sq1, atI_nat (j := 1) rfl, _, _, rfl, rfl, ?_⟩
        have := q H1 s1
        have e : decide (1 ≤ m) = decide (0 < m) := decide_eq_decide.mpr (by omega)
        rw [e] at this
        exact this
      | _ => cases ew
    | _ => cases eT
end
end Lag


set_option maxRecDepth 100000
set_option maxHeartbeats 8000000
namespace Lag
open PySem PySem.Spec PyProof.Rows L2
theorem nats_inj : ∀ {a b : List Nat}, PyData.list (a.map fun k => .int (k : Nat)) = .list (b.map fun k => .int (k : Nat)) → b = a := by
  intro a b h
  injection h with h
  have h2 := congrArg (List.map fun d : PyData => match d with | .int i => i.toNat | _ => 0) h
  rw [List.map_map, List.map_map] at h2
  have e : ∀ l : List Nat, l.map ((fun d : PyData => match d with | .int i => i.toNat | _ => 0) ∘ fun k : Nat => PyData.int (k : Nat)) = l := fun l => by
    conv => rhs; rw [← List.map_id l]
    exact List.map_congr_left fun a _ => Int.toNat_natCast a
  rw [e, e] at h2
  exact h2.symm
theorem fn_cx0 {P : Program} {w : World} {K : PySem.W.Frag} {mg : Str → Option Value} {base : Heap} {CX : CXT} {k : Nat} {f : Addr} {fd : FuncData} {ps : List Str} {sp : Sp} (F : FnOk P w K mg base CX0 k f fd ps sp) : FnOk P w K mg base CX k f fd ps sp :=
  ⟨F.len, fun A outer s H args us vs Q E hr he hb hv hs => codeAny_mono (F.run A outer s H args us vs Q E hr he hb hv hs) fun r s' h => by
    cases r with
    | error e => exact False.elim h
    | ok fl =>
      cases fl with
      | ret u => exact h
      | next => exact False.elim h
      | brk => exact False.elim h
      | cont => exact False.elim h⟩
theorem fn_or {P : Program} {w : World} {K : PySem.W.Frag} {mg : Str → Option Value} {base : Heap} {CX : CXT} {k : Nat} {f : Addr} {fd : FuncData} {ps : List Str} {sp sp' : Sp} (F : FnOk P w K mg base CX k f fd ps sp) (F' : FnOk P w K mg base CX k f fd ps sp') : FnOk P w K mg base CX k f fd ps (fun vs H Q E => sp vs H Q E ∨ sp' vs H Q E) :=
  ⟨fun vs H Q E h => h.elim (F.len vs H Q E) (F'.len vs H Q E), fun A outer s H args us vs Q E hr he hb hv hs => hs.elim (F.run A outer s H args us vs Q E hr he hb hv) (F'.run A outer s H args us vs Q E hr he hb hv)⟩
theorem form_sh : Sh 1 formD := sh_tuple fun d hd => by
  rw [List.mem_singleton.mp hd]
  exact ⟨by decide +kernel, Nat.zero_le _⟩
theorem faultG_or (gs : List Gt) (ws us : List Wr) (es : List Ent) : (faultG gs ws us es = .none ∨ ∃ l, faultG gs ws us es = .tuple l) ∧ Sh 1 (faultG gs ws us es) := by
  unfold faultG
  split
  · exact ⟨.inr ⟨_, rfl⟩, sh_tuple fun d hd => by
      simp only [List.mem_cons, List.not_mem_nil, or_false] at hd
      rcases hd with rfl | rfl
      · exact ⟨by decide +kernel, Nat.zero_le _⟩
      · exact sh_int _⟩
  · exact ⟨.inl rfl, rfl, Nat.zero_le _⟩
theorem Dx.l {K : PySem.W.Frag} {Av : Addr → Prop} {H : Hp} {v : V} {d : PyData} (h : Dx K Av H v d) (e : dL d = true) : ∃ l xs ds, v = .ref l ∧ d = .list ds ∧ H l = some (.lst xs) ∧ Av l ∧ DxAll K Av H xs ds := by
  cases h with
  | lst s n a => exact ⟨_, _, _, rfl, rfl, s, n, a⟩
  | _ => cases e
theorem dp_none {K : PySem.W.Frag} {H : Hp} {v : V} (h : Dp K H v .none) : v = .non := by
  cases h
  rfl
theorem dp_tup {K : PySem.W.Frag} {H : Hp} {v : V} {l : List PyData} (h : Dp K H v (.tuple l)) : ∃ t, v = .ref t := by
  cases h
  exact ⟨_, rfl⟩
theorem dp_formU {K : PySem.W.Frag} {H : Hp} {t : Addr} (e : H t = some (.tup [.str "form"])) : Dp K H (.ref t) formD := .tup (.inl (.inl e)) (.cons (.str _) .nil)
def Shrt (gs : List Gt) (ws : List Wr) (e : PyData) : Prop := Sh 50 e ∧ ∀ en, entryD gs ws e = some en → en.1.2.length ≤ 1000
def C2 (gs : List Gt) (ws : List Wr) (b : PyData) : Prop := ∀ es, b = .list es → es.length ≤ 11000 ∧ ∀ e ∈ es, Shrt gs ws e
theorem c2_no {gs : List Gt} {ws : List Wr} {a : PyData} (h : dL a = false) : C2 gs ws a := fun ds e => by rw [e] at h; cases h
theorem sh_none {k : Nat} : Sh k .none := ⟨rfl, Nat.zero_le _⟩
theorem sh_pce (g : Int) (qs : List Nat) : Sh 2 (.tuple [.int g, .list (qs.map fun p => .int (p : Nat))]) := sh_tuple fun d hd => by
  simp only [List.mem_cons, List.not_mem_nil, or_false] at hd
  rcases hd with rfl | rfl
  · exact sh_int _
  · exact sh_list fun d hd => by
      obtain ⟨p, _, rfl⟩ := List.mem_map.mp hd
      exact sh_int _
theorem sh_pceT (g : Int) (qs : List Nat) : Sh 2 (.tuple [.int g, .tuple (qs.map fun p => .int (p : Nat))]) := sh_tuple fun d hd => by
  simp only [List.mem_cons, List.not_mem_nil, or_false] at hd
  rcases hd with rfl | rfl
  · exact sh_int _
  · exact sh_tuple fun d hd => by
      obtain ⟨p, _, rfl⟩ := List.mem_map.mp hd
      exact sh_int _
theorem sh_up {k m : Nat} {d : PyData} (h : Sh k d) (hk : k ≤ m) : Sh m d := ⟨h.1, Nat.le_trans h.2 hk⟩
theorem sh_pair {k : Nat} {x y : PyData} (hx : Sh k x) (hy : Sh k y) : Sh (k + 1) (.tuple [x, y]) := sh_tuple fun d hd => by
  simp only [List.mem_cons, List.not_mem_nil, or_false] at hd
  rcases hd with rfl | rfl
  · exact hx
  · exact hy
theorem shrt_ent {gs : List Gt} {ws : List Wr} {g : Int} {qs : List Nat} {m : PyData} (h : qs.length ≤ 1000) (hm : Sh 2 m) : Shrt gs ws (.tuple [.tuple [.int g, .list (qs.map fun p => .int (p : Nat))], m]) := by
  refine ⟨sh_up (sh_pair (sh_pce g qs) hm) (by decide), fun en he => ?_⟩
  obtain ⟨e1, _⟩ := entry_some he
  unfold entD pceD at e1
  injection e1 with e1
  injection e1 with e2 _
  injection e2 with e2
  injection e2 with _ e3
  injection e3 with e3 _
  have := nats_inj e3
  rw [this]
  exact h
theorem shrt_entT {gs : List Gt} {ws : List Wr} {g : Int} {qs : List Nat} {m : PyData} (hm : Sh 2 m) : Shrt gs ws (.tuple [.tuple [.int g, .tuple (qs.map fun p => .int (p : Nat))], m]) := by
  refine ⟨sh_up (sh_pair (sh_pceT g qs) hm) (by decide), fun en he => ?_⟩
  obtain ⟨e1, _⟩ := entry_some he
  unfold entD pceD at e1
  injection e1 with e1
  injection e1 with e2 _
  injection e2 with e2
  injection e2 with _ e3
  injection e3 with e3 _
  cases e3
theorem shrt_entD {gs : List Gt} {ws : List Wr} {e : Ent} (h : e.1.2.length ≤ 1000) : Shrt gs ws (entD e) := shrt_ent h (sh_int _)
theorem dx_natsX {K : PySem.W.Frag} {Av : Addr → Prop} {H : Hp} : ∀ qs : List Nat, DxAll K Av H (nvs qs) (qs.map fun p => .int (p : Nat))
  | [] => .nil
  | q :: r => .cons (.int _) (dx_natsX r)
theorem c2_ents {gs : List Gt} {ws : List Wr} {es : List Ent} (h : es.length ≤ 11000) (o : ∀ e ∈ es, EntOk gs ws e) : C2 gs ws (.list (es.map entD)) := fun ds e => by
  cases e
  refine ⟨by rw [List.length_map]; exact h, fun e he => ?_⟩
  obtain ⟨en, hen, rfl⟩ := List.mem_map.mp he
  exact shrt_entD (o en hen).2.1
theorem at_lastU {xs : List V} {v : V} {j : Nat} (h : xs.length = j + 1) (hv : xs[j]? = some v) : atI xs (-1) = some v := by
  unfold atI ixN
  rw [if_neg (by decide), if_pos (by omega)]
  show xs[(-1 + (xs.length : Int)).toNat]? = some v
  rw [show (-1 + (xs.length : Int)).toNat = j by omega]
  exact hv
open Classical in
/-- the fault of a thing as a paper -/
noncomputable def paperD (gs : List Gt) (ws : List Wr) : PyData → PyData
  | .list es => match paperE gs ws es with
    | some ents => faultG gs ws ws ents
    | none => formD
  | _ => formD
def boundP (gs : List Gt) (ws : List Wr) (b : Int) : PyData → Int
  | .list es => regsum ws - psum (roomF gs ws b) ((paperE gs ws es).getD [])
  | _ => 0
theorem paper_dL {gs : List Gt} {ws : List Wr} {d : PyData} (h : dL d = false) : paperD gs ws d = formD := by
  cases d <;> first | (simp only [paperD]; done) | cases h
theorem paper_e {gs : List Gt} {ws : List Wr} {es : List PyData} (h : paperE gs ws es = none) : paperD gs ws (.list es) = formD := by
  simp only [paperD]
  rw [h]
theorem paper_g {gs : List Gt} {ws : List Wr} {es : List PyData} {ents : List Ent} (h : paperE gs ws es = some ents) : paperD gs ws (.list es) = faultG gs ws ws ents := by
  simp only [paperD]
  rw [h]
theorem paper_or (gs : List Gt) (ws : List Wr) (d : PyData) : (paperD gs ws d = .none ∨ ∃ l, paperD gs ws d = .tuple l) ∧ Sh 1 (paperD gs ws d) := by
  unfold paperD
  split
  · split
    · exact faultG_or ..
    · exact ⟨.inr ⟨_, rfl⟩, form_sh⟩
  · exact ⟨.inr ⟨_, rfl⟩, form_sh⟩
theorem paper_good {gs : List Gt} {ws : List Wr} {d : PyData} (h : paperD gs ws d = .none) : ∃ (es : List PyData) (ents : List Ent), d = .list es ∧ paperE gs ws es = some ents ∧ (∀ b, boundP gs ws b d = regsum ws - psum (roomF gs ws b) ents) := by
  unfold paperD at h
  split at h
  · rename_i es
    split at h
    · rename_i ents he
      refine ⟨es, ents, rfl, he, fun b => ?_⟩
      simp only [boundP]
      rw [he]
      rfl
    · cases h
  · cases h
theorem ents_ok {gs : List Gt} {ws : List Wr} {K : PySem.W.Frag} {Av : Addr → Prop} {H : Hp} {vs : List V} {ds : List PyData} {ents : List Ent} (c : C2 gs ws (.list ds)) (h : paperE gs ws ds = some ents) (a : All2 (Dx K Av H) vs ds) : All2 (EntV K H) vs ents ∧ (∀ e ∈ ents, EntOk gs ws e) ∧ ents.length ≤ 11000 := by
  obtain ⟨ea, eok⟩ := paper_dx h a
  have pat := paper_at h
  obtain ⟨l1, l2⟩ := c _ rfl
  refine ⟨ea, fun e he => ?_, by rw [← pat.1]; exact l1⟩
  obtain ⟨i, hi⟩ := List.getElem?_of_mem he
  obtain ⟨dd, hdd, z⟩ := pat.getR hi
  obtain ⟨k1, k2⟩ := eok e he
  exact ⟨k1, (l2 dd (List.mem_of_getElem? hdd)).2 e z, k2⟩
def spPaperFaultD (K : PySem.W.Frag) (C : Addr) : Sp := fun vs H Q _ => ∃ (p ng nw : Addr) (gs : List Gt) (ws : List Wr) (b : Int) (v : V) (d : PyData), vs = [.ref p, .int b, v] ∧ NetAt K C H p ng nw gs ws ∧ NetOk gs ws ∧ 0 ≤ b ∧ Dx K Any H v d ∧ C2 gs ws d ∧ ∀ r H', Same H H' → Dp K H' r (paperD gs ws d) → Q r H'
def spBoundOfD (K : PySem.W.Frag) (C CP : Addr) : Sp := fun vs H Q E => ∃ (p ng nw : Addr) (gs : List Gt) (ws : List Wr) (b : Int) (v : V) (d : PyData), vs = [.ref p, v, .int b] ∧ NetAt K C H p ng nw gs ws ∧ NetOk gs ws ∧ 0 ≤ b ∧ Dx K Any H v d ∧ C2 gs ws d ∧ (paperD gs ws d = .none → ∀ H', Same H H' → Q (.int (boundP gs ws b d)) H') ∧ (paperD gs ws d ≠ .none → ∀ H', Same H H' → E (.ref CP) none H')
section
variable {P : Program} {w : World} {K : PySem.W.Frag} {mg : Str → Option Value} {base : Heap}
theorem ok_paperFaultD {f fC fP fG C : Addr} {fd fdC fdP fdG : FuncData} (F : Fun K "paper_fault" "paper_fault" sPaperFault f fd) (B : Bt mg) (T : NT K mg C) (DCb : DChkB P w K mg base fC fdC) (DPp : DIsPaper P w K mg base C fP fdP) (DPX : FnOk P w K mg base CX0 5 fP fdP ["net", "thing"] (spIsPaperD K C)) (DPN : FnOk P w K mg base CX0 5 fP fdP ["net", "thing"] (spIsPaperN K)) (DGf : DGateFault P w K mg base C fG fdG) (DGX : FnOk P w K mg base CX0 2 fG fdG ["net", "paper", "places"] (spGateFaultX K C)) : FnOk P w K mg base CX0 6 f fd ["net", "beat", "thing"] (spPaperFaultD K C) := by
  refine F.ok scPaperFault (fun vs H Q E h => ?_) (fun cdv A outer s H vs Q E hr h => ?_)
  · obtain ⟨p, ng, nw, gs, ws, b, v, d, rfl, _⟩ := h
    rfl
  · obtain ⟨p, ng, nw, gs, ws, b, v, d, rfl, NA, N, hb, hd, c2, q⟩ := h
    have nd := scPaperFault.nd
    refine ⟨_, pss_cons (ps_expr (pe_call DCb.ok (hr.mono (by decide)) (by rfl) DCb.mg DCb.kp DCb.bd .nil pass0 (pa_cons (pv 1) pa_nil))) <|
        pss_cons (ps_if (pt_not (pt_val (pe_call (fn_or DPX DPN) (hr.mono (by decide)) (by rfl) DPp.mg DPp.kp DPp.bd .nil pass0 (pa_cons (pv 0) (pa_cons (pv 2) pa_nil))))) (pss_one (ps_ret (pe_tup (pa_cons pe_str pa_nil)))) pss_nil) <|
        pss_one (ps_ret (pe_call DGX (hr.mono (by decide)) (by rfl) DGf.mg DGf.kp DGf.bd .nil pass0 (pa_cons (pv 0) (pa_cons (pv 2) (pa_cons (pe_listRg rfl (by rfl) B.list (prg_1 (by rfl) B.range (pe_callB call_len_seq (by rfl) B.len PySem.boot_len (pa_cons (pe_fld (pv 0) rfl) pa_nil)))) pa_nil))))), ?_⟩
    have form : paperD gs ws d = formD → ∀ H1, Same H H1 → 1 ≤ sizeLine ∧ ∀ t, H1 t = none → Q (.ref t) (upd H1 t (.tup [.str "form"])) := fun e H1 s1 => ⟨by decide, fun t ht => q _ _ (s1.trans (same_new ht)) (by rw [e]; exact dp_formU upd_same)⟩
    obtain ⟨dx, ob⟩ := id NA.ob
    obtain ⟨wv, hwv, wa⟩ := id NA.w
    have hlw : wv.length = ws.length := wa.1
    have hwl := N.wl
    refine ⟨_, rfl, b, rfl, hb, ?_⟩
    cases eL : dL d with
    | false => exact ⟨_, rfl, _, rfl, .inr ⟨_, v, d, rfl, hd, eL, false, rfl, iteT (form (paper_dL eL) H (Same.refl H))⟩⟩
    | true =>
    obtain ⟨lp, xp, dsp, rfl, rfl, elp, _, alp⟩ := hd.l eL
    have ap := alp.all2
    refine ⟨_, rfl, _, rfl, .inl ⟨p, ng, nw, lp, gs, ws, xp, dsp, rfl, NA, N, elp, ap, (c2 _ rfl).1, fun H1 s1 => ⟨(paperE gs ws dsp).isSome, rfl, ?_⟩⟩⟩
    cases hpe : paperE gs ws dsp with
    | none => exact iteT (form (paper_e hpe) H1 s1)
    | some ents =>
    refine iteF ?_
    obtain ⟨ea, eok, _⟩ := ents_ok c2 hpe ap
    rw [paper_g hpe] at q
    refine ⟨_, rfl, _, rfl, _, rfl, p, C, dx, _, _, rfl, s1 _ _ ob, T.cl, T.nW, nf_wires _ _, nw, wv, rfl, .inl (SqL.of (s1 _ _ hwv)), _, rfl, RgOk.of_le (by omega) (by omega) (by omega) (by omega), fun lq hlq => ?_⟩
    rw [rgV_nat, hlw]
    have s2 : Same H1 (upd H1 lq (.lst ((List.range ws.length).map fun i => V.int (i : Nat)))) := same_new hlq
    have e2 : (upd H1 lq (.lst ((List.range ws.length).map fun i => V.int (i : Nat)))) lq = some (.lst (nvs (List.range ws.length))) := upd_same
    generalize upd H1 lq (.lst ((List.range ws.length).map fun i => V.int (i : Nat))) = H2 at s2 e2
    have s12 := s1.trans s2
    exact ⟨p, ng, nw, lp, lq, List.range ws.length, gs, ws, ws, xp, ents, rfl, NA.same s12, N, SqL.of (s12 _ _ elp), ea.imp fun _ _ r => r.same s12, eok, range_all2 ws, SqL.of e2, fun r H3 s3 dp3 => q r H3 (s12.trans s3) dp3⟩
theorem ok_boundOfD {f fP fR fI C CP : Addr} {fd fdP fdR fdI : FuncData} (F : Fun K "bound_of" "bound_of" sBoundOf f fd) (DPf : DPaperFault P w K mg base C fP fdP) (DX : FnOk P w K mg base CX0 6 fP fdP ["net", "beat", "thing"] (spPaperFaultD K C)) (DRg : DRegisters P w K mg base C fR fdR) (DRi : DRoomIn P w K mg base C fI fdI) (NP : PEx K mg "NoPaper" CP) : FnOk P w K mg base (L2.CX P w) 7 f fd ["net", "thing", "beat"] (spBoundOfD K C CP) := by
  refine F.okX scBoundOf (fun vs H Q E h => ?_) (fun cdv A outer s H vs Q E hr h => ?_)
  · obtain ⟨p, ng, nw, gs, ws, b, v, d, rfl, _⟩ := h
    rfl
  · obtain ⟨p, ng, nw, gs, ws, b, v, d, rfl, NA, N, hb, hd, c2, q, qn⟩ := h
    have nd := scBoundOf.nd
    refine ⟨_, pss_cons (ps_if (pt_cmpR op_notN (pe_call DX (hr.mono (by decide)) (by rfl) DPf.mg DPf.kp DPf.bd .nil pass0 (pa_cons (pv 0) (pa_cons (pv 2) (pa_cons (pv 1) pa_nil)))) pe_non (nomark _)) (pss_one (ps_raise rfl (takes_of rfl rfl rfl rfl) (pmk_own PySem.F.excBase_ValueError NP.q NP.g NP.k (raises_own NP.e NP.t) (by rfl)))) pss_nil) <|
        pss_one (ps_ret (pe_op op_sub (pe_call DRg.ok (hr.mono (by decide)) (by rfl) DRg.mg DRg.kp DRg.bd .nil pass0 (pa_cons (pv 0) pa_nil)) (pe_call DRi.ok (hr.mono (by decide)) (by rfl) DRi.mg DRi.kp DRi.bd .nil pass0 (pa_cons (pv 0) (pa_cons (pv 2) (pa_cons (pv 1) pa_nil)))))), ?_⟩
    refine ⟨_, rfl, _, rfl, _, rfl, p, ng, nw, gs, ws, b, v, d, rfl, NA, N, hb, hd, c2, fun r H1 s1 dp => ?_⟩
    rcases (paper_or gs ws d).1 with g | ⟨l, g⟩
    rotate_left
    · rw [g] at dp
      obtain ⟨t, rfl⟩ := dp_tup dp
      exact ⟨rfl, _, rfl, iteT (qn (by rw [g]; exact fun z => by cases z) H1 s1)⟩
    have dp0 := dp
    rw [g] at dp0
    cases dp_none dp0
    refine ⟨rfl, _, rfl, iteF ?_⟩
    obtain ⟨es, ents, rfl, hpe, hbd⟩ := paper_good g
    have hbd := hbd b
    cases hd with
    | @lst lp xp _ elp _ alp =>
    obtain ⟨ea, eok, hel⟩ := ents_ok c2 hpe alp.all2
    refine ⟨_, rfl, p, ng, nw, gs, ws, rfl, NA.same s1, N, fun H2 s2 => ?_⟩
    have s12 := s1.trans s2
    refine ⟨_, rfl, _, rfl, _, rfl, p, ng, nw, lp, gs, ws, b, xp, ents, rfl, NA.same s12, N, SqL.of (s12 _ _ elp), ea.imp fun _ _ r => r.same s12, eok, hel, fun H3 s3 => ⟨_, _, rfl, rfl, ?_⟩⟩
    have := q g H3 (s12.trans s3)
    rw [hbd] at this
    exact this
end
end Lag

set_option maxRecDepth 100000
set_option maxHeartbeats 8000000
namespace Lag
open PySem PySem.Spec PyProof.Rows L2
abbrev sLFault : Stmt := topS 85 -- @_law_fault
def spLFaultP (K : PySem.W.Frag) : Sp := fun vs H Q _ => ∃ (lg lw : Addr) (gs : List Gt) (ws : List Wr) (v : V) (d : PyData), vs = [.ref lg, .ref lw, v] ∧ LG K H lg gs ∧ LW K H lw ws ∧ NetOk gs ws ∧ Dx K Any H v d ∧ C2 gs ws d ∧ ∀ r H', Same H H' → Dp K H' r (paperD gs ws d) → Q r H'
section
variable {P : Program} {w : World} {K : PySem.W.Frag} {mg : Str → Option Value} {base : Heap}
abbrev nLFault : List Str := ["_law_gates_here", "_law_wires_here", "_law_thing", "_law_entry", "_law_sums", "_law_start", "_law_end", "_law_some", "_law_piece", "_law_many", "_law_ends_here", "_law_gate"]
theorem scLFault : FnScope nLFault ["_law_gates_here", "_law_wires_here", "_law_thing"] (defScope sLFault) := ⟨rfl, rfl, rfl, by decide +kernel, rfl, by decide +kernel, by decide +kernel⟩
abbrev DLFault (P : Program) (w : World) (K : PySem.W.Frag) (mg : Str → Option Value) (base : Heap) := Df P w K mg base 4 "_law_fault" ["_law_gates_here", "_law_wires_here", "_law_thing"] (spLFaultP K)
theorem ok_lfaultP {f fE fN fX : Addr} {fd fdE fdN fdX : FuncData} (F : Fun K "_law_fault" "_law_fault" sLFault f fd) (hm : mg "_law_fault" = some (.ref f)) (B : Bt mg) (DEy : DLEntry P w K mg base fE fdE) (DEn : DLEnds P w K mg base fN fdN) (DFx : DFixed P w K mg base fX fdX) : DLFault P w K mg base f fd := by
  refine ⟨?_, hm, F.kp, F.binds fun _ _ _ _ _ _ us hl => match us, hl with | [_, _, _], _ => rfl⟩
  refine F.ok scLFault (fun vs H Q E h => ?_) (fun cdv A outer s H vs Q E hr h => ?_)
  · obtain ⟨lg, lw, gs, ws, v, d, rfl, _⟩ := h
    rfl
  · obtain ⟨lg, lw, gs, ws, v, d, rfl, G, W, N, hd, c2, q⟩ := h
    have nd := scLFault.nd
    refine ⟨_, pss_cons (ps_if (pt_not (pt_val (pe_callB call_isi (by rfl) B.isi (by decide +kernel) (pa_cons (pv 2) (pa_cons (pe_bltn (v := .ty "list") (by rfl) B.list (by decide +kernel) rfl) pa_nil))))) (pss_one (ps_ret (pe_tup (pa_cons pe_str pa_nil)))) pss_nil) <|
        pss_cons (ps_if (pt_cmpR (op_neD hr.units) (pe_lc (own := [("_law_entry", 3)]) (g := (gName 3)) (tt := (tNot (tB (tCall (spLEntry K) [] E0 (tCons (tVar 0) (tCons (tVar 1) (tCons (tVar 3) tNil))))))) (te := (tVar 3)) rfl nd (pi_list (pv 2)) (blkOk_by (N := nLFault) (sc := defScope sLFault) (own := [("_law_entry", 3)]) (by decide +kernel)) (fun _ _ _ _ _ => (pg_name (i := 3) nd rfl (.inl rfl))) (fun _ _ _ _ _ => pts_one (pt_not (pt_val (pe_call DEy.ok (hr.mono (by decide)) (by rfl) DEy.mg DEy.kp DEy.bd .nil pass0 (pa_cons (pv 0) (pa_cons (pv 1) (pa_cons (pv 3) pa_nil))))))) (fun _ _ _ _ _ => (pv 3))) (pe_lst pa_nil) (nomark _)) (pss_one (ps_ret (pe_tup (pa_cons pe_str pa_nil)))) pss_nil) <|
        pss_cons (ps_set (i := 4) nd rfl (.inl rfl) (pe_op op_rep (pe_lst (pa_cons pe_int pa_nil)) (pe_callB call_len_seq (by rfl) B.len PySem.boot_len (pa_cons (pv 0) pa_nil)))) <|
        pss_cons (ps_for PassesOwn.never rfl (pi_list (pv 1)) (pg_tup rfl (pgs_cons (pg_name (i := 5) nd rfl (.inl rfl)) (pgs_cons (pg_name (i := 6) nd rfl (.inl rfl)) (pgs_cons (pg_name (i := 7) nd rfl (.inl rfl)) pgs_nil)))) (pss_cons (ps_asg (pe_op op_sub (pe_ix ix_list (pv 4) (pv 5) (fun _ _ => rfl)) pe_int) (pg_sub (pv 4) (pv 5) set_list)) <|
        pss_one (ps_asg (pe_op op_add (pe_ix ix_list (pv 4) (pv 6) (fun _ _ => rfl)) pe_int) (pg_sub (pv 4) (pv 6) set_list)))) <|
        pss_cons (ps_for PassesOwn.never rfl (pi_list (pv 2)) (pg_tup rfl (pgs_cons (pg_name (i := 8) nd rfl (.inl rfl)) (pgs_cons (pg_name (i := 9) nd rfl (.inl rfl)) pgs_nil))) (pss_cons (ps_set (i := 10) nd rfl (.inl rfl) (pe_call DEn.ok (hr.mono (by decide)) (by rfl) DEn.mg DEn.kp DEn.bd .nil pass0 (pa_cons (pv 1) (pa_cons (pv 8) pa_nil)))) <|
        pss_cons (ps_asg (pe_op op_add (pe_ix ix_list (pv 4) (pe_ix ix_list (pv 10) pe_int (fun _ _ => rfl)) (fun _ _ => rfl)) (pv 9)) (pg_sub (pv 4) (pe_ix ix_list (pv 10) pe_int (fun _ _ => rfl)) set_list)) <|
        pss_one (ps_asg (pe_op op_sub (pe_ix ix_list (pv 4) (pe_ix ix_list (pv 10) (pe_un un_neg pe_int) (fun _ _ => rfl)) (fun _ _ => rfl)) (pv 9)) (pg_sub (pv 4) (pe_ix ix_list (pv 10) (pe_un un_neg pe_int) (fun _ _ => rfl)) set_list)))) <|
        pss_cons (ps_for PassesOwn.never rfl (pi_range1 (by rfl) B.range (pa_cons (pe_callB call_len_seq (by rfl) B.len PySem.boot_len (pa_cons (pv 0) pa_nil)) pa_nil)) (pg_name (i := 11) nd rfl (.inl rfl)) (pss_one (ps_if (PW.pt (pw_and (pt_not (pt_val (pe_call DFx.ok (hr.mono (by decide)) (by rfl) DFx.mg DFx.kp DFx.bd .nil pass0 (pa_cons (pv 0) (pa_cons (pv 11) pa_nil))))) (pw_and1 (pt_cmpR op_ne (pe_ix ix_list (pv 4) (pv 11) (fun _ _ => rfl)) pe_int (nomark _))))) (pss_one (ps_ret (pe_tup (pa_cons pe_str (pa_cons (pv 11) pa_nil))))) pss_nil))) <|
        pss_one (ps_ret pe_non), ?_⟩
    have form : paperD gs ws d = formD → ∀ H1, Same H H1 → 1 ≤ sizeLine ∧ ∀ t, H1 t = none → Q (.ref t) (upd H1 t (.tup [.str "form"])) := fun e H1 s1 => ⟨by decide, fun t ht => q _ _ (s1.trans (same_new ht)) (by rw [e]; exact dp_formU upd_same)⟩
    obtain ⟨t, ty, _, _, _, k4⟩ := hd.ty
    refine ⟨_, rfl, _, _, _, _, dL d, rfl, .ty "list", ty, kit_ty k4, dL d, rfl, ?_⟩
    cases eL : dL d with
    | false => exact iteT (form (paper_dL eL) H (Same.refl H))
    | true =>
      refine iteF ?_
      obtain ⟨lp, xp, dsp, rfl, rfl, elp, _, alp⟩ := hd.l eL
      obtain ⟨l1, shx0⟩ := c2 _ rfl
      have shx : ∀ e ∈ dsp, Sh 50 e := fun e he => (shx0 e he).1
      have ap := alp.all2
      have hxl : xp.length = dsp.length := ap.1
      -- the bad ones
      refine ⟨_, rfl, lp, rfl, ⟨_, SqL.of elp⟩, fun D hD => ?_⟩
      refine lc_list (K := K) (a := lp) (xs := xp) (fun i Hc => ∃ (bv : List V) (bd : List PyData), Hc D = some (.lst bv) ∧ All2 (Dx K Any H) bv bd ∧ bd.length ≤ i ∧ (∀ e ∈ bd, Sh 50 e) ∧ (bd = [] ↔ ((dsp.take i).map fun d => (entryD gs ws d).isSome).all id = true) ∧ Same H Hc) ⟨[], [], upd_same, .nil, Nat.le_refl _, (fun e h => nomatch h), ⟨fun _ => rfl, fun _ => rfl⟩, same_new hD⟩ (fun i Hc _ ⟨_, _, _, _, _, _, _, sm⟩ => SqL.of (sm _ _ elp)) ?_ ?_
      · rintro i v Hc hv ⟨bv, bd, hc, ba, bl, bs, biff, sm⟩
        obtain ⟨e, he, dx⟩ := ap.get hv
        have hi : i < dsp.length := (List.getElem?_eq_some_iff.mp he).1
        have hbl := ba.1
        have smm := sm
        refine ⟨rfl, _, rfl, _, rfl, _, rfl, lg, lw, v, e, gs, ws, rfl, G.same' smm, W.same' smm, N, Dx.move (XM.same smm) _ dx, fun Hd sd => ⟨(entryD gs ws e).isSome, rfl, ?_⟩⟩
        have etk : ((dsp.take (i + 1)).map fun d => (entryD gs ws d).isSome).all id = (((dsp.take i).map fun d => (entryD gs ws d).isSome).all id && (entryD gs ws e).isSome) := by
          rw [List.take_add_one, he, List.map_append, List.all_append]
          show (_ && ((entryD gs ws e).isSome && true)) = _
          rw [Bool.and_true]
        cases hp : (entryD gs ws e).isSome with
        | true =>
          refine iteF ⟨bv, bd, sd _ _ hc, ba, by omega, bs, ?_, sm.trans sd⟩
          rw [etk, hp, Bool.and_true]
          exact biff
        | false =>
          refine iteT ⟨_, rfl, bv, sd _ _ hc, ?_, bv ++ [v], bd ++ [e], upd_same, ba.snoc dx, ?_, ?_, ?_, same_mut (sm.trans sd) hD⟩
          · exact small11k (by omega)
          · rw [List.length_append]
            show _ + 1 ≤ _
            omega
          · intro e' he'
            rcases List.mem_append.mp he' with h | h
            · exact bs e' h
            · rw [List.mem_singleton.mp h]
              exact shx e (List.mem_of_getElem? he)
          · rw [etk, hp, Bool.and_false]
            exact ⟨fun z => by simp at z, fun z => nomatch z⟩
      rintro H2 ⟨bv, bd, h2, ba, bl, bs, biff, s2⟩
      rw [hxl, List.take_length, ← paper_all] at biff
      refine ⟨(by show 0 ≤ sizeLine; decide), fun l6 hl6 => ?_⟩
      have s3 : Same H2 (upd H2 l6 (.lst [])) := same_new hl6
      have e3 : (upd H2 l6 (.lst [])) l6 = some (.lst []) := upd_same
      have h23 := s3 _ _ h2
      generalize upd H2 l6 (.lst []) = H3 at s3 e3 h23
      have s03 := s2.trans s3
      refine ⟨_, _, Dx.dp (.list bd) (Dx.lst h23 trivial (DxAll.from2 (ba.imp fun _ _ r => r.same s03))) (sh_list bs).1, Dp.lst (SqL.of e3) .nil, Sh.ok (sh_list bs) (by decide), by decide +kernel, _, rfl, ?_⟩
      rw [list_nilU]
      cases hpe : paperE gs ws dsp with
      | none =>
        rw [decide_eq_false fun z => by
          have := biff.mp z
          rw [hpe] at this
          cases this]
        exact iteT (form (paper_e hpe) H3 s03)
      | some es =>
      rw [decide_eq_true (biff.mpr (by rw [hpe]; rfl))]
      refine iteF ?_
      obtain ⟨ea, eok', _⟩ := ents_ok c2 hpe ap
      rw [paper_g hpe] at q
      obtain ⟨gv, hgv, ga⟩ := id G
      obtain ⟨wv, hwv, wa⟩ := id W
      have hlg : gv.length = gs.length := ga.1
      have hlw : wv.length = ws.length := wa.1
      have hgl := N.gl
      have hev : xp.length = es.length := ea.1
      -- the sums
      refine ⟨(by show 1 ≤ sizeLine; decide), fun l0 hl0 => ?_⟩
      have s4 : Same H3 (upd H3 l0 (.lst [.int 0])) := same_new hl0
      have e4 : (upd H3 l0 (.lst [.int 0])) l0 = some (.lst [.int 0]) := upd_same
      obtain ⟨H4, hH4⟩ : ∃ H4, H4 = upd H3 l0 (.lst [.int 0]) := ⟨_, rfl⟩
      rw [← hH4] at s4 e4
      rw [← hH4]
      have s04 := s03.trans s4
      refine ⟨_, rfl, lg, gv, rfl, .inl (SqL.of (s04 _ _ hgv)), l0, _, [.int 0], rfl, rfl, e4, by omega, by omega, ?_, fun lm hlm => ?_⟩
      · have : 1 * ((gv.length : Nat) : Int).toNat ≤ sizeLine := Nat.le_of_lt (small1000 (by omega))
        exact this
      rw [Int.toNat_natCast, hlg, rep0]
      have s5 : Same H4 (upd H4 lm (.lst ((List.replicate gs.length (0 : Int)).map V.int))) := same_new hlm
      have e5 : (upd H4 lm (.lst ((List.replicate gs.length (0 : Int)).map V.int))) lm = some (.lst ((List.replicate gs.length (0 : Int)).map V.int)) := upd_same
      obtain ⟨H5, hH5⟩ : ∃ H5, H5 = upd H4 lm (.lst ((List.replicate gs.length (0 : Int)).map V.int)) := ⟨_, rfl⟩
      rw [← hH5] at s5 e5
      refine gn_normH (σ' := [some (.ref lg), some (.ref lw), some (.ref lp), none, some (.ref lm), none, none, none, none, none, none, none]) (H' := H5) rfl hH5.symm ?_
      have s05 := s04.trans s5
      have hlm0 : H lm = none := s04.free hlm
      -- the wires
      refine ⟨_, rfl, lw, rfl, ⟨_, SqL.of (s05 _ _ hwv)⟩, for_list (K := K) (a := lw) (xs := wv) (fun i σ H' => ∃ (w5 w6 w7 : Option V) (ms : List Int), σ = [some (.ref lg), some (.ref lw), some (.ref lp), none, some (.ref lm), w5, w6, w7, none, none, none, none] ∧ H' lm = some (.lst (ms.map V.int)) ∧ ms.length = gs.length ∧ (∀ g, ms.getD g 0 = 0 - wdl (dl g) (ws.take i)) ∧ Same H H')
        ⟨_, _, _, _, rfl, e5, List.length_replicate, (fun g => by
          rw [List.getD_eq_getElem?_getD, List.getElem?_replicate]
          show _ = (0 : Int) - 0
          split <;> rfl), s05⟩ (fun i σ H' _ ⟨_, _, _, _, _, _, _, _, sm⟩ => SqL.of (sm _ _ hwv)) ?_ ?_⟩
      · rintro i v σ H6 hv ⟨w5, w6, w7, ms, rfl, hms, hml, hmg, sm⟩
        obtain ⟨x, hx, a', b2, rfl, sq1, sq2⟩ := wa.get hv
        have WX := N.wok x (List.mem_of_getElem? hx)
        have h1s := WX.s
        have h1e := WX.e
        refine ⟨a', _, rfl, (TK.same sm).seq sq1, rfl, _, _, rfl, _, _, rfl, _, _, rfl, rfl, ?_⟩
        refine gn_norm (σ' := [some (.ref lg), some (.ref lw), some (.ref lp), none, some (.ref lm), some (.int (x.1 : Nat)), some (.int (x.2.1 : Nat)), some (.ref b2), none, none, none, none]) rfl ?_
        refine ⟨_, rfl, _, rfl, lm, _, x.1, _, rfl, rfl, SqL.of hms, atI_nat (sgetD_at (by omega)), _, _, rfl, rfl, ?_⟩
        refine ⟨_, rfl, _, rfl, lm, _, _, x.1, rfl, rfl, hms, Evl.ixN_nat (by rw [List.length_map]; omega), ?_⟩
        have s6 : Same H (upd H6 lm (.lst ((ms.map V.int).set x.1 (.int (ms.getD x.1 0 - 1))))) := same_mut sm hlm0
        have e6 : (upd H6 lm (.lst ((ms.map V.int).set x.1 (.int (ms.getD x.1 0 - 1))))) lm = some (.lst ((ms.set x.1 (ms.getD x.1 0 + -1)).map V.int)) := by rw [upd_same, List.map_set]; rfl
        have h6 := fun g => getD_add (ms := ms) (i := x.1) (g := g) (d := -1) (by omega)
        have l6 : (ms.set x.1 (ms.getD x.1 0 + -1)).length = gs.length := by rw [List.length_set]; exact hml
        generalize upd H6 lm (.lst ((ms.map V.int).set x.1 (.int (ms.getD x.1 0 - 1)))) = H7 at s6 e6
        generalize ms.set x.1 (ms.getD x.1 0 + -1) = ms1 at e6 h6 l6
        refine ⟨_, rfl, _, rfl, lm, _, x.2.1, _, rfl, rfl, SqL.of e6, atI_nat (sgetD_at (by omega)), _, _, rfl, rfl, ?_⟩
        refine ⟨_, rfl, _, rfl, lm, _, _, x.2.1, rfl, rfl, e6, Evl.ixN_nat (by rw [List.length_map]; omega), ?_⟩
        refine ⟨_, _, _, ms1.set x.2.1 (ms1.getD x.2.1 0 + 1), rfl, by rw [upd_same, List.map_set], by rw [List.length_set]; exact l6, fun g => ?_, same_mut s6 hlm0⟩
        have h7 := getD_add (ms := ms1) (i := x.2.1) (g := g) (d := 1) (by omega)
        rw [h7, h6 g, hmg g, List.take_add_one, hx]
        show _ = _ - wdl (dl g) (ws.take i ++ [x])
        rw [wdl_snoc]
        omega
      rintro σ H6 ⟨w5, w6, w7, ms0, rfl, hms0, hml0, hmg0, sm0⟩
      rw [hlw, List.take_length] at hmg0
      -- the pieces
      refine ⟨_, rfl, lp, rfl, ⟨_, SqL.of (sm0 _ _ elp)⟩, for_list (K := K) (a := lp) (xs := xp) (fun i σ H' => ∃ (u6 u7 u8 : Option V) (ms : List Int), σ = [some (.ref lg), some (.ref lw), some (.ref lp), none, some (.ref lm), w5, w6, w7, u6, u7, u8, none] ∧ H' lm = some (.lst (ms.map V.int)) ∧ ms.length = gs.length ∧ (∀ g, ms.getD g 0 = psum (dlP ws g) (es.take i) - wdl (dl g) ws) ∧ Same H H')
        ⟨_, _, _, ms0, rfl, hms0, hml0, (fun g => hmg0 g), sm0⟩ (fun i σ H' _ ⟨_, _, _, _, _, _, _, _, sm⟩ => SqL.of (sm _ _ elp)) ?_ ?_⟩
      · rintro i v σ H7 hv ⟨u6, u7, u8, ms, rfl, hms, hml, hmg, sm⟩
        obtain ⟨e, he, ae, pv', rfl, sqe, pcv⟩ := ea.get hv
        obtain ⟨pok, plen, _⟩ := eok' e (List.mem_of_getElem? he)
        obtain ⟨k1, m, k2⟩ := id pok
        have hm := k2.lt N k1
        refine ⟨ae, _, rfl, (TK.same sm).seq sqe, rfl, _, _, rfl, _, _, rfl, rfl, ?_⟩
        refine gn_norm (σ' := [some (.ref lg), some (.ref lw), some (.ref lp), none, some (.ref lm), w5, w6, w7, some pv', some (.int e.2), u8, none]) rfl ?_
        refine ⟨_, rfl, _, rfl, lw, _, gs, ws, e.1, rfl, W.same' sm, N, pcv.same sm, pok, by omega, fun le H8 s8 hle ele => ?_⟩
        have sm8 := sm.trans s8
        have hms8 := s8 _ _ hms
        refine gn_norm (σ' := [some (.ref lg), some (.ref lw), some (.ref lp), none, some (.ref lm), w5, w6, w7, some pv', some (.int e.2), some (.ref le), none]) rfl ?_
        have hll : (nvs (lendsL ws e.1)).length = e.1.2.length + 1 := by rw [nvs_len]; unfold lendsL; rw [List.length_cons, List.length_map]
        have hlast : (nvs (lendsL ws e.1))[e.1.2.length]? = some (.int (m : Nat)) := by
          have := lends_last (ws := ws) e.1
          rw [List.getLast?_eq_getElem?, endW_of k2] at this
          refine nvs_at ?_
          rw [← this]
          congr 1
          unfold lendsL
          rw [List.length_cons, List.length_map]
          rfl
        refine ⟨_, rfl, _, rfl, le, _, 0, _, rfl, rfl, SqL.of ele, atI_nat (j := 0) rfl, lm, _, e.1.1, _, rfl, rfl, SqL.of hms8, atI_nat (sgetD_at (by omega)), _, rfl, _, _, rfl, rfl, ?_⟩
        refine ⟨_, rfl, _, rfl, le, _, 0, _, rfl, rfl, SqL.of ele, atI_nat (j := 0) rfl, lm, _, _, e.1.1, rfl, rfl, hms8, Evl.ixN_nat (by rw [List.length_map]; omega), ?_⟩
        have s9 : Same H (upd H8 lm (.lst ((ms.map V.int).set e.1.1 (.int (ms.getD e.1.1 0 + e.2))))) := same_mut sm8 hlm0
        have e9 : (upd H8 lm (.lst ((ms.map V.int).set e.1.1 (.int (ms.getD e.1.1 0 + e.2))))) lm = some (.lst ((ms.set e.1.1 (ms.getD e.1.1 0 + e.2)).map V.int)) := by rw [upd_same, List.map_set]
        have ele9 : (upd H8 lm (.lst ((ms.map V.int).set e.1.1 (.int (ms.getD e.1.1 0 + e.2))))) le = some (.lst (nvs (lendsL ws e.1))) := by rw [upd_ne (ne_of_none hms hle).symm]; exact ele
        have h9 := fun g => getD_add (ms := ms) (i := e.1.1) (g := g) (d := e.2) (by omega)
        have l9 : (ms.set e.1.1 (ms.getD e.1.1 0 + e.2)).length = gs.length := by rw [List.length_set]; exact hml
        generalize upd H8 lm (.lst ((ms.map V.int).set e.1.1 (.int (ms.getD e.1.1 0 + e.2)))) = H9 at s9 e9 ele9
        generalize ms.set e.1.1 (ms.getD e.1.1 0 + e.2) = ms1 at e9 h9 l9
        refine ⟨_, rfl, _, rfl, _, rfl, le, _, -1, _, rfl, rfl, SqL.of ele9, at_lastU hll hlast, lm, _, m, _, rfl, rfl, SqL.of e9, atI_nat (sgetD_at (by omega)), _, rfl, _, _, rfl, rfl, ?_⟩
        refine ⟨_, rfl, _, rfl, _, rfl, le, _, -1, _, rfl, rfl, SqL.of ele9, at_lastU hll hlast, lm, _, _, m, rfl, rfl, e9, Evl.ixN_nat (by rw [List.length_map]; omega), ?_⟩
        refine ⟨_, _, _, ms1.set m (ms1.getD m 0 - e.2), rfl, by rw [upd_same, List.map_set], by rw [List.length_set]; exact l9, fun g => ?_, same_mut s9 hlm0⟩
        have h6 := getD_add (ms := ms1) (i := m) (g := g) (d := -e.2) (by omega)
        rw [show ms1.getD m 0 - e.2 = ms1.getD m 0 + -e.2 by omega, h6, h9 g, hmg g, List.take_add_one, he]
        show _ = psum (dlP ws g) (es.take i ++ [e]) - _
        rw [psum_snoc, dlP_eq (gs := gs) g k2, Int.sub_mul]
        have : dl g m * -e.2 = -(dl g m * e.2) := Int.mul_neg _ _
        omega
      rintro σ H7 ⟨u6, u7, u8, ms, rfl, hms, hml, hmg, sm⟩
      rw [hev, List.take_length] at hmg
      -- the first gate
      refine ⟨_, rfl, lg, gv, rfl, .inl (SqL.of (sm _ _ hgv)), _, rfl, by omega, by omega, ?_⟩
      rw [Int.toNat_natCast, hlg]
      refine for_range (lo := 0) (n := gs.length) (fun i σ H' => ∃ u9 : Option V, σ = [some (.ref lg), some (.ref lw), some (.ref lp), none, some (.ref lm), w5, w6, w7, u6, u7, u8, u9] ∧ Same H7 H' ∧ ∀ k, k < i → ¬ portK (kindAt gs k) → ms.getD k 0 = 0) ⟨_, rfl, Same.refl _, fun k hk => absurd hk (Nat.not_lt_zero _)⟩ ?_ ?_
      · rintro i σ H8 hi ⟨u9, rfl, s8, bef⟩
        have ei : (0 : Int) + ((i : Nat) : Int) = ((i : Nat) : Int) := Int.zero_add _
        rw [ei]
        refine gn_norm (σ' := [some (.ref lg), some (.ref lw), some (.ref lp), none, some (.ref lm), w5, w6, w7, u6, u7, u8, some (.int (i : Nat))]) rfl ?_
        have sm8 := sm.trans s8
        refine ⟨_, rfl, _, rfl, lg, i, gs, rfl, G.same' sm8, hi, fun c H9 hc s9 => ⟨c, rfl, ?_⟩⟩
        have s89 := s8.trans s9
        cases c with
        | true =>
          refine iteF (iteF ⟨_, rfl, s89, fun k hk hp => ?_⟩)
          by_cases e : k = i
          · subst e
            exact absurd (hc.mp rfl) hp
          · exact bef k (by omega) hp
        | false =>
          have hnp : ¬ portK (kindAt gs i) := fun hp => nomatch hc.mpr hp
          refine iteT ⟨_, rfl, _, rfl, lm, _, i, _, rfl, rfl, SqL.of (s89 _ _ hms), atI_nat (sgetD_at (by omega)), rfl, _, rfl, ?_⟩
          by_cases h0 : ms.getD i 0 = 0
          · rw [h0, decide_eq_true rfl]
            exact iteF ⟨_, rfl, s89, fun k hk hp => by
              by_cases e : k = i
              · rw [e]
                exact h0
              · exact bef k (by omega) hp⟩
          · rw [decide_eq_false fun e => h0 (V.int.inj e)]
            have hgp : gateP gs ws ws es i = true := decide_eq_true ⟨hnp, fun e => h0 (by rw [hmg i]; omega)⟩
            have ef : faultG gs ws ws es = .tuple [.str "gate", .int (i : Nat)] := by
              unfold faultG
              rw [firstB_at (fun k hk => ?_) hgp hi]
              refine decide_eq_false fun ⟨k1, k2⟩ => ?_
              have := bef k hk k1
              rw [hmg k] at this
              omega
            rw [ef] at q
            refine iteT ⟨_, rfl, (by show 2 ≤ sizeLine; decide), fun tt htt => ?_⟩
            exact q _ _ ((sm.trans s89).trans (same_new htt)) (.tup (.inl (.inl upd_same)) (.cons (.str _) (.cons (.int _) .nil)))
      rintro σ H8 ⟨u9, rfl, s8, bef⟩
      have ef : faultG gs ws ws es = .none := by
        unfold faultG
        rw [firstB_none (fun k hk => ?_)]
        refine decide_eq_false fun ⟨k1, k2⟩ => ?_
        have := bef k hk k1
        rw [hmg k] at this
        omega
      rw [ef] at q
      exact q .non H8 (sm.trans s8) .non
end
end Lag

set_option maxRecDepth 100000
set_option maxHeartbeats 8000000
namespace Lag
open PySem PySem.Spec PyProof.Rows L2
/-- an entry whose list is neither the well nor one of two others -/
def EntX (K : PySem.W.Frag) (wl lq : Addr) (H : Hp) (v : V) (e : Ent) : Prop := ∃ a t l, v = .ref a ∧ SqT K H a [.ref t, .int e.2] ∧ SqT K H t [.int ((e.1.1 : Nat) : Int), .ref l] ∧ H l = some (.lst (nvs e.1.2)) ∧ l ≠ wl ∧ l ≠ lq
theorem EntX.dr {K : PySem.W.Frag} {wl lq : Addr} {H H' : Hp} {v : V} {e : Ent} (h : EntX K wl lq H v e) (W : WellAt wl H) (d : Dr wl H H') : EntX K wl lq H' v e := by
  obtain ⟨a, t, l, e0, h1, h2, h3, h4, h5⟩ := h
  exact ⟨a, t, l, e0, (TK.dr W d.but).seq h1, (TK.dr W d.but).seq h2, d.but _ _ h4 h3, h4, h5⟩
theorem EntX.put {K : PySem.W.Frag} {wl lq : Addr} {H : Hp} {v : V} {e : Ent} {xs : List V} {o : HO} (h : EntX K wl lq H v e) (el : H lq = some (.lst xs)) : EntX K wl lq (upd H lq o) v e := by
  obtain ⟨a, t, l, e0, h1, h2, h3, h4, h5⟩ := h
  exact ⟨a, t, l, e0, (TK.lst el).seq h1, (TK.lst el).seq h2, by rw [upd_ne h5]; exact h3, h4, h5⟩
theorem EntX.of {K : PySem.W.Frag} {wl lq lq' : Addr} {H : Hp} {v : V} {e : Ent} (h : EntX K wl lq H v e) (n : ∀ l, H l = some (.lst (nvs e.1.2)) → l ≠ lq') : EntX K wl lq' H v e := by
  obtain ⟨a, t, l, e0, h1, h2, h3, h4, h5⟩ := h
  exact ⟨a, t, l, e0, h1, h2, h3, h4, n l h3⟩
theorem NetAt.drW {K : PySem.W.Frag} {C wl p ng nw : Addr} {H H' : Hp} {gs : List Gt} {ws : List Wr} (n : NetAt K C H p ng nw gs ws) (W : WellAt wl H) (n3 : p ≠ wl) (n4 : ng ≠ wl) (n5 : nw ≠ wl) (d : Dr wl H H') : NetAt K C H' p ng nw gs ws := by
  obtain ⟨dx, h⟩ := n.ob
  exact ⟨⟨dx, d.but _ _ n3 h⟩, n.g.dr n4 W d, n.w.dr n5 W d, n.ne⟩
abbrev sLPaper : Stmt := topS 87 -- @_law_paper
theorem e30 : (10 : Int) ^ 30 = 1000000000000000000000000000000 := by decide
def EntG (gs : List Gt) (ws : List Wr) (e : Ent) : Prop := EntOk gs ws e ∧ e.2 ≤ 10 ^ 30 ∧ e.1.2.length ≤ 900
def spLPaper (K : PySem.W.Frag) (C : Addr) : Sp := fun vs H Q _ => ∃ (wl p ng nw lg lw : Addr) (gs : List Gt) (ws : List Wr), vs = [.ref wl, .ref p, .ref lg, .ref lw] ∧ WellAt wl H ∧ p ≠ wl ∧ ng ≠ wl ∧ nw ≠ wl ∧ lg ≠ wl ∧ lw ≠ wl ∧ NetAt K C H p ng nw gs ws ∧ LG K H lg gs ∧ LW K H lw ws ∧ NetOk gs ws ∧ gs.length ≤ 7 ∧ ws.length ≤ 21 ∧ ∀ (lp : Addr) (ev : List V) (es : List Ent) (H' : Hp), Dr wl H H' → H lp = none → H' lp = some (.lst ev) → All2 (EntX K wl lp H') ev es → (∀ e ∈ es, EntG gs ws e) → es.length ≤ 60 → Q (.ref lp) H'
section
variable {P : Program} {w : World} {K : PySem.W.Frag} {mg : Str → Option Value} {base : Heap}
abbrev nLPaper : List Str := ["_law_well_here", "_law_net", "_law_gates_here", "_law_wires_here", "_law_way", "_law_place", "_law_found", "_law_k", "_law_piece", "_law_ends_here"]
theorem scLPaper : FnScope nLPaper ["_law_well_here", "_law_net", "_law_gates_here", "_law_wires_here"] (defScope sLPaper) := ⟨rfl, rfl, rfl, by decide +kernel, rfl, by decide +kernel, by decide +kernel⟩
abbrev DLPaper (P : Program) (w : World) (K : PySem.W.Frag) (mg : Str → Option Value) (base : Heap) (C : Addr) := Df P w K mg base 9 "_law_paper" ["_law_well_here", "_law_net", "_law_gates_here", "_law_wires_here"] (spLPaper K C)
theorem ok_lpaper {f fD fF fL fW fE C : Addr} {fd fdD fdF fdL fdW fdE : FuncData} (F : Fun K "_law_paper" "_law_paper" sLPaper f fd) (hm : mg "_law_paper" = some (.ref f)) (B : Bt mg) (DD : DDraw P w K mg base fD fdD) (DDB : FnOk P w K mg base CX0 1 fD fdD ["_law_well_here", "_law_many"] spDrawB) (DFw : DFewest P w K mg base C fF fdF) (DLB : DLeastBeat P w K mg base C fL fdL) (DWk : DWalked P w K mg base fW fdW) (DEn : DLEnds P w K mg base fE fdE) : DLPaper P w K mg base C f fd := by
  refine ⟨?_, hm, F.kp, F.binds fun _ _ _ _ _ _ us hl => match us, hl with | [_, _, _, _], _ => rfl⟩
  refine F.ok scLPaper (fun vs H Q E h => ?_) (fun cdv A outer s H vs Q E hr h => ?_)
  · obtain ⟨wl, p, ng, nw, lg, lw, gs, ws, rfl, _⟩ := h
    rfl
  · obtain ⟨wl, p, ng, nw, lg, lw, gs, ws, rfl, hw, np, nng, nnw, nlg, nlw, NA, G, W, N, hg7, hw21, q⟩ := h
    have nd := scLPaper.nd
    refine ⟨_, pss_cons (ps_set (i := 4) nd rfl (.inl rfl) (pe_call DD.ok (hr.mono (by decide)) (by rfl) DD.mg DD.kp DD.bd .nil pass0 (pa_cons (pv 0) (pa_cons pe_int pa_nil)))) <|
        pss_cons (ps_if (pt_cmpR op_eq (pv 4) pe_int (nomark _)) (pss_one (ps_ret (pe_ix ix_tup (pe_call DFw.ok (hr.mono (by decide)) (by rfl) DFw.mg DFw.kp DFw.bd .nil pass0 (pa_cons (pv 1) (pa_cons (pe_op op_add (pe_ix ix_tup (pe_call DLB.ok (hr.mono (by decide)) (by rfl) DLB.mg DLB.kp DLB.bd .nil pass0 (pa_cons (pv 1) pa_nil)) pe_int (fun _ _ => rfl)) (pe_call DD.ok (hr.mono (by decide)) (by rfl) DD.mg DD.kp DD.bd .nil pass0 (pa_cons (pv 0) (pa_cons pe_int pa_nil)))) pa_nil))) pe_int (fun _ _ => rfl)))) pss_nil) <|
        pss_cons (ps_setLc (i := 6) (own := [("_law_place", 5)]) (g := (gName 5)) (tt := tYes) (te := (tTup (tCons (tTup (tCons (tOp (rIxT K) (tOp (rIxL K) (tVar 3) (tVar 5)) (tC (.int 0))) (tCons (tLst (tCons (tVar 5) tNil)) tNil))) (tCons (tC (.int 1)) tNil)))) rfl nd rfl rfl (sw_true rfl rfl rfl (by decide +kernel)) (pi_range1 (by rfl) B.range (pa_cons (pe_callB call_len_seq (by rfl) B.len PySem.boot_len (pa_cons (pv 3) pa_nil)) pa_nil)) (blkOk_by (N := nLPaper) (sc := defScope sLPaper) (own := [("_law_place", 5)]) (by decide +kernel)) (fun _ _ _ _ _ => (pg_name (i := 5) nd rfl (.inl rfl))) (fun _ _ _ _ _ => pts_nil) (fun _ _ _ _ _ => (pe_tup (pa_cons (pe_tup (pa_cons (pe_ix ix_tup (pe_ix ix_list (pv 3) (pv 5) (fun _ _ => rfl)) pe_int (fun _ _ => rfl)) (pa_cons (pe_lst (pa_cons (pv 5) pa_nil)) pa_nil))) (pa_cons pe_int pa_nil))))) <|
        pss_cons (ps_for PassesOwn.never rfl (pi_range1 (by rfl) B.range (pa_cons (pv 4) pa_nil)) (pg_name (i := 7) nd rfl (.inl rfl)) (pss_cons (ps_set (i := 8) nd rfl (.inl rfl) (pe_call DWk.ok (hr.mono (by decide)) (by rfl) DWk.mg DWk.kp DWk.bd .nil pass0 (pa_cons (pv 0) (pa_cons (pv 2) (pa_cons (pv 3) pa_nil))))) <|
        pss_cons (ps_set (i := 9) nd rfl (.inl rfl) (pe_call DEn.ok (hr.mono (by decide)) (by rfl) DEn.mg DEn.kp DEn.bd .nil pass0 (pa_cons (pv 3) (pa_cons (pv 8) pa_nil)))) <|
        pss_one (ps_if (PW.pt (pw_or (PW.pt (pw_and (pt_cmpR op_lt (pv 4) pe_int (nomark _)) (pw_and1 (pt_cmpR op_eq (pe_ix ix_list (pv 9) pe_int (fun _ _ => rfl)) (pe_ix ix_list (pv 9) (pe_un un_neg pe_int) (fun _ _ => rfl)) (nomark _))))) (pw_or1 (PW.pt (pw_and (pt_cmpR op_eq (pv 4) pe_int (nomark _)) (pw_and1 (pt_cmpR op_eq (pe_call DD.ok (hr.mono (by decide)) (by rfl) DD.mg DD.kp DD.bd .nil pass0 (pa_cons (pv 0) (pa_cons pe_int pa_nil))) pe_int (nomark _)))))))) (pss_one (ps_expr (pe_bm PySem.F.plainAttrs_list PySem.F.slot_list_append PySem.F.type_list_append mt_append (pv 6) (pa_cons (pe_tup (pa_cons (pv 8) (pa_cons (pe_op op_add pe_int (pe_call DDB (hr.mono (by decide)) (by rfl) DD.mg DD.kp DD.bd .nil pass0 (pa_cons (pv 0) (pa_cons (pe_op op_pow pe_int pe_int) pa_nil)))) pa_nil))) pa_nil)))) pss_nil))) <|
        pss_one (ps_ret (pv 6)), ?_⟩
    have hgl := N.gl
    have hwl := N.wl
    refine ⟨_, rfl, wl, 4, rfl, by decide, by decide, hw, fun dw H1 dw0 dw1 E1 => ?_⟩
    refine gn_norm (σ' := [some (.ref wl), some (.ref p), some (.ref lg), some (.ref lw), some (.int dw), none, none, none, none, none]) rfl ?_
    have NA1 := NA.drW hw np nng nnw E1
    have W1 := W.dr nlw hw E1
    have G1 := G.dr nlg hw E1
    refine ⟨_, rfl, rfl, _, rfl, ite2 (fun _ => ?_) (fun _ => ?_)⟩
    · refine ⟨_, rfl, _, rfl, p, ng, nw, gs, ws, rfl, NA1, N, by omega, fun t2 l2 B2 L2 H2 s2 et2 _ _ IL F2 _ hB => ?_⟩
      have D2 := E1.trans (Dr.ofSame E1.well s2)
      refine ⟨t2, _, 0, _, rfl, rfl, .inl (.inl et2), atI_nat (j := 0) rfl, _, rfl, wl, 9, rfl, by decide, by decide, D2.well, fun d3 H3 d30 d31 E3 => ⟨_, _, rfl, rfl, ?_⟩⟩
      have D3 := D2.trans E3
      refine ⟨p, ng, nw, gs, ws, B2 + d3, rfl, NA.drW hw np nng nnw D3, N, by omega, ⟨L2, F2.mono (by omega)⟩, fun tt ll lp m L ev es H4 s4 ett _ _ hlp elp ea eok _ _ _ _ _ _ hgg hnum hlen => ?_⟩
      refine ⟨tt, _, 2, _, rfl, rfl, .inl (.inl ett), atI_nat (j := 2) rfl, ?_⟩
      have D4 := D3.trans (Dr.ofSame D3.well s4)
      have h49 : gs.length * gs.length ≤ 7 * 7 := Nat.mul_le_mul hg7 hg7
      refine q lp ev es H4 D4 (D3.free hw hlp) elp ⟨ea.1, fun i v e hv he => ?_⟩ (fun e he => ⟨eok e he, hnum e he, hlen e he⟩) (by omega)
      obtain ⟨a, t, l, e0, h1, h2, h3, h4⟩ := ea.2 i v e hv he
      refine ⟨a, t, l, e0, h1, h2, h3, fun z => h4 ?_, fun z => ?_⟩
      · obtain ⟨xs, ex, _⟩ := D3.well
        rw [z, ex]
        exact fun y => by cases y
      · rw [z, elp] at h3
        injection h3 with h3
        injection h3 with h3
        rw [h3] at hv
        obtain ⟨k, _, ek⟩ := nvs_of hv
        rw [e0] at ek
        cases ek
    obtain ⟨wv, hwv, wa⟩ := id W1
    have hlw : wv.length = ws.length := wa.1
    -- the wires once each
    refine ⟨_, rfl, lw, wv, rfl, .inl (SqL.of hwv), _, rfl, by omega, by omega, fun lf hlf => ?_⟩
    have nlf : lf ≠ wl := (E1.well.ne hlf).symm
    rw [Int.toNat_natCast, hlw]
    refine lc_range (lo := 0) (n := ws.length) (fun i Hc => ∃ (ev : List V) (es : List Ent), Hc lf = some (.lst ev) ∧ All2 (EntX K wl lf Hc) ev es ∧ es.length ≤ i ∧ (∀ e ∈ es, EntG gs ws e) ∧ Dr wl H1 Hc) ⟨[], [], upd_same, .nil, Nat.le_refl _, (fun e h => nomatch h), Dr.new E1.well hlf⟩ ?_ ?_
    · rintro k Hc hkw ⟨ev, es, hc, ha, hl, hok, dc⟩
      have ei : (0 : Int) + ((k : Nat) : Int) = ((k : Nat) : Int) := Int.zero_add _
      rw [ei]
      have hx := List.getElem?_eq_getElem hkw
      generalize ws[k]'hkw = x at hx
      obtain ⟨_, hwvi, b1, b2, rfl, sq1, sq2⟩ := wa.getR hx
      have WX := N.wok x (List.mem_of_getElem? hx)
      have hel := ha.1
      refine ⟨rfl, tyes ?_⟩
      refine ⟨_, rfl, _, rfl, lw, wv, k, _, rfl, rfl, SqL.of (dc.but _ _ nlw hwv), atI_nat hwvi, b1, _, 0, _, rfl, rfl, (TK.dr E1.well dc.but).seq sq1, atI_nat (j := 0) rfl, _, rfl, (by show 1 ≤ sizeLine; decide), fun l hl' => ?_⟩
      have s1 : Same Hc (upd Hc l (.lst [.int (k : Nat)])) := same_new hl'
      have f1 : (upd Hc l (.lst [.int (k : Nat)])) l = some (.lst (nvs [k])) := upd_same
      generalize upd Hc l (.lst [.int (k : Nat)]) = H5 at s1 f1
      refine ⟨(by show 2 ≤ sizeLine; decide), fun t ht => ?_⟩
      have s2 : Same H5 (upd H5 t (.tup [.int (x.1 : Nat), .ref l])) := same_new ht
      have f2 : (upd H5 t (.tup [.int (x.1 : Nat), .ref l])) t = some (.tup [.int (x.1 : Nat), .ref l]) := upd_same
      generalize upd H5 t (.tup [.int (x.1 : Nat), .ref l]) = H6 at s2 f2
      refine ⟨(by show 2 ≤ sizeLine; decide), fun a ha' => ?_⟩
      have s3 : Same H6 (upd H6 a (.tup [.ref t, .int 1])) := same_new ha'
      have f3 : (upd H6 a (.tup [.ref t, .int 1])) a = some (.tup [.ref t, .int 1]) := upd_same
      generalize upd H6 a (.tup [.ref t, .int 1]) = H7 at s3 f3
      have s13 := s1.trans (s2.trans s3)
      have d7 := dc.trans (Dr.ofSame dc.well s13)
      have hc7 := s13 _ _ hc
      have nl1 : l ≠ wl := (dc.well.ne hl').symm
      have nl2 : l ≠ lf := (ne_of_none hc hl').symm
      have ex : EntX K wl lf H7 (.ref a) ((x.1, [k]), 1) := ⟨a, t, l, rfl, .inl (.inl f3), .inl (.inl (s3 _ _ f2)), (s2.trans s3) _ _ f1, nl1, nl2⟩
      refine ⟨ev, hc7, small1000 (by omega), ev ++ [.ref a], es ++ [((x.1, [k]), 1)], upd_same, ?_, ?_, ?_, set_well d7 hlf nlf⟩
      · exact ((ha.imp fun _ _ r => (r.dr dc.well (Dr.ofSame dc.well s13)).put hc7)).snoc (ex.put hc7)
      · rw [List.length_append]
        show _ + 1 ≤ _
        omega
      · intro e he
        rcases List.mem_append.mp he with z | z
        · exact hok e z
        · rw [List.mem_singleton.mp z]
          exact ⟨⟨⟨WX.s, x.2.1, x, hx, rfl, rfl⟩, by show 1 ≤ 1000; decide, by show (1 : Int) ≤ 1; decide⟩, by show (1 : Int) ≤ 10 ^ 30; rw [e30]; decide, by show 1 ≤ 900; decide⟩
    rintro H5 ⟨ev0, es0, hlf5, ha5, hl5, hok5, D5⟩
    refine gn_norm (σ' := [some (.ref wl), some (.ref p), some (.ref lg), some (.ref lw), some (.int dw), none, some (.ref lf), none, none, none]) rfl ?_
    -- walked pieces
    refine ⟨_, rfl, _, rfl, by omega, by omega, ?_⟩
    refine for_range (lo := 0) (n := dw.toNat) (fun i σ H' => ∃ (u7 u8 u9 : Option V) (ev : List V) (es : List Ent), σ = [some (.ref wl), some (.ref p), some (.ref lg), some (.ref lw), some (.int dw), none, some (.ref lf), u7, u8, u9] ∧ H' lf = some (.lst ev) ∧ All2 (EntX K wl lf H') ev es ∧ es.length ≤ 21 + i ∧ (∀ e ∈ es, EntG gs ws e) ∧ Dr wl H1 H') ⟨_, _, _, ev0, es0, rfl, hlf5, ha5, by omega, hok5, D5⟩ ?_ ?_
    · rintro i σ Hc hi ⟨u7, u8, u9, ev, es, rfl, hlfc, hac, hlc, hokc, dc⟩
      have hel := hac.1
      refine gn_norm (σ' := [some (.ref wl), some (.ref p), some (.ref lg), some (.ref lw), some (.int dw), none, some (.ref lf), some (.int (0 + (i : Nat))), u8, u9]) rfl ?_
      refine ⟨_, rfl, _, rfl, _, rfl, wl, lg, lw, gs, ws, rfl, dc.well, nlg, nlw, G1.dr nlg E1.well dc, W1.dr nlw E1.well dc, N, fun t l pc Hd Ed ht hl' et el okp lenp => ?_⟩
      have nl1 : l ≠ wl := (dc.well.ne hl').symm
      have nl2 : l ≠ lf := (ne_of_none hlfc hl').symm
      have dd := dc.trans Ed
      have hlfd := Ed.but _ _ nlf hlfc
      have had := hac.imp fun _ _ r => r.dr dc.well Ed
      refine gn_norm (σ' := [some (.ref wl), some (.ref p), some (.ref lg), some (.ref lw), some (.int dw), none, some (.ref lf), some (.int (0 + (i : Nat))), some (.ref t), u9]) rfl ?_
      refine ⟨_, rfl, _, rfl, lw, _, gs, ws, pc, rfl, W1.dr nlw E1.well dd, N, ⟨t, l, rfl, .inl (.inl et), SqL.of el⟩, okp, by omega, fun le He se hle ele => ?_⟩
      refine gn_norm (σ' := [some (.ref wl), some (.ref p), some (.ref lg), some (.ref lw), some (.int dw), none, some (.ref lf), some (.int (0 + (i : Nat))), some (.ref t), some (.ref le)]) rfl ?_
      have de : Dr wl Hd He := Dr.ofSame Ed.well se
      obtain ⟨m, k2⟩ := id okp.2
      have hll : (nvs (lendsL ws pc)).length = pc.2.length + 1 := by rw [nvs_len]; unfold lendsL; rw [List.length_cons, List.length_map]
      have hlast : (nvs (lendsL ws pc))[pc.2.length]? = some (.int (m : Nat)) := by
        have := lends_last (ws := ws) pc
        rw [List.getLast?_eq_getElem?, endW_of k2] at this
        refine nvs_at ?_
        rw [← this]
        congr 1
        unfold lendsL
        rw [List.length_cons, List.length_map]
        rfl
      have keep : ∀ {Hx : Hp}, Dr wl Hd Hx → ∃ (u7 u8 u9 : Option V) (ev : List V) (es : List Ent), [some (.ref wl), some (.ref p), some (.ref lg), some (.ref lw), some (.int dw), none, some (.ref lf), some (.int (0 + (i : Nat))), some (.ref t), some (.ref le)] = [some (.ref wl), some (.ref p), some (.ref lg), some (.ref lw), some (.int dw), none, some (.ref lf), u7, u8, u9] ∧ Hx lf = some (.lst ev) ∧ All2 (EntX K wl lf Hx) ev es ∧ es.length ≤ 21 + (i + 1) ∧ (∀ e ∈ es, EntG gs ws e) ∧ Dr wl H1 Hx := fun dx => ⟨_, _, _, ev, es, rfl, dx.but _ _ nlf hlfd, had.imp fun _ _ r => r.dr Ed.well dx, by omega, hokc, dd.trans dx⟩
      refine ⟨_, rfl, _, _, rfl, rfl, _, rfl, ite2 (fun _ => ?_) (fun _ => ?_)⟩
      · refine ⟨_, rfl, le, _, 0, _, rfl, rfl, SqL.of ele, atI_nat (j := 0) rfl, _, rfl, _, rfl, le, _, -1, _, rfl, rfl, SqL.of ele, at_lastU hll hlast, rfl, _, rfl, ite2 (fun _ => ?_) (fun _ => ?_)⟩
        · refine ⟨_, rfl, .inl ⟨rfl, _, SqL.of ((de).but _ _ nlf hlfd)⟩, _, rfl, _, rfl, _, _, rfl, rfl, ⟨by decide, by decide, by decide⟩, wl, _, rfl, by decide, by decide +kernel, (de).well, fun z Hz z0 z1 Ez => ⟨_, _, rfl, rfl, (by show 2 ≤ sizeLine; decide), fun a ha => ?_⟩⟩
          have dz := (de).trans Ez
          have s9 := same_new (o := .tup [.ref t, .int (1 + z)]) ha
          have f9 : (upd Hz a (.tup [.ref t, .int (1 + z)])) a = some (.tup [.ref t, .int (1 + z)]) := upd_same
          have d9 := dz.trans (Dr.ofSame dz.well s9)
          generalize upd Hz a (.tup [.ref t, .int (1 + z)]) = H9 at s9 f9 d9
          have hlf9 := d9.but _ _ nlf hlfd
          have tk9 := TK.dr Ed.well d9.but
          have ex : EntX K wl lf H9 (.ref a) (pc, 1 + z) := ⟨a, t, l, rfl, .inl (.inl f9), tk9.seq (.inl (.inl et)), d9.but _ _ nl1 el, nl1, nl2⟩
          refine ⟨lf, _, _, rfl, rfl, hlf9, small1000 (by omega), ?_⟩
          refine ⟨_, _, _, ev ++ [.ref a], es ++ [(pc, 1 + z)], rfl, upd_same, ((had.imp fun _ _ r => (r.dr Ed.well d9).put hlf9)).snoc (ex.put hlf9), ?_, fun e he => ?_, set_well (dd.trans d9) hlf nlf⟩
          · rw [List.length_append]
            show _ + 1 ≤ _
            omega
          · rcases List.mem_append.mp he with z' | z'
            · exact hokc e z'
            · rw [List.mem_singleton.mp z']
              have z2 : z < 100000000000000000000 := z1
              exact ⟨⟨okp, by show pc.2.length ≤ 1000; omega, by show (1 : Int) ≤ 1 + z; omega⟩, by show 1 + z ≤ 10 ^ 30; rw [e30]; omega, by show pc.2.length ≤ 900; omega⟩
        · refine ⟨_, rfl, rfl, _, rfl, ite2 (fun _ => ?_) (fun _ => keep de)⟩
          refine ⟨_, rfl, wl, 4, rfl, by decide, by decide, de.well, fun dy Hy dy0 dy1 Ey => ⟨rfl, _, rfl, ite2 (fun _ => ?_) (fun _ => keep (de.trans Ey))⟩⟩
          refine ⟨_, rfl, .inl ⟨rfl, _, SqL.of ((de.trans Ey).but _ _ nlf hlfd)⟩, _, rfl, _, rfl, _, _, rfl, rfl, ⟨by decide, by decide, by decide⟩, wl, _, rfl, by decide, by decide +kernel, (de.trans Ey).well, fun z Hz z0 z1 Ez => ⟨_, _, rfl, rfl, (by show 2 ≤ sizeLine; decide), fun a ha => ?_⟩⟩
          have dz := (de.trans Ey).trans Ez
          have s9 := same_new (o := .tup [.ref t, .int (1 + z)]) ha
          have f9 : (upd Hz a (.tup [.ref t, .int (1 + z)])) a = some (.tup [.ref t, .int (1 + z)]) := upd_same
          have d9 := dz.trans (Dr.ofSame dz.well s9)
          generalize upd Hz a (.tup [.ref t, .int (1 + z)]) = H9 at s9 f9 d9
          have hlf9 := d9.but _ _ nlf hlfd
          have tk9 := TK.dr Ed.well d9.but
          have ex : EntX K wl lf H9 (.ref a) (pc, 1 + z) := ⟨a, t, l, rfl, .inl (.inl f9), tk9.seq (.inl (.inl et)), d9.but _ _ nl1 el, nl1, nl2⟩
          refine ⟨lf, _, _, rfl, rfl, hlf9, small1000 (by omega), ?_⟩
          refine ⟨_, _, _, ev ++ [.ref a], es ++ [(pc, 1 + z)], rfl, upd_same, ((had.imp fun _ _ r => (r.dr Ed.well d9).put hlf9)).snoc (ex.put hlf9), ?_, fun e he => ?_, set_well (dd.trans d9) hlf nlf⟩
          · rw [List.length_append]
            show _ + 1 ≤ _
            omega
          · rcases List.mem_append.mp he with z' | z'
            · exact hokc e z'
            · rw [List.mem_singleton.mp z']
              have z2 : z < 100000000000000000000 := z1
              exact ⟨⟨okp, by show pc.2.length ≤ 1000; omega, by show (1 : Int) ≤ 1 + z; omega⟩, by show 1 + z ≤ 10 ^ 30; rw [e30]; omega, by show pc.2.length ≤ 900; omega⟩
      · refine ⟨_, rfl, rfl, _, rfl, ite2 (fun _ => ?_) (fun _ => keep de)⟩
        refine ⟨_, rfl, wl, 4, rfl, by decide, by decide, de.well, fun dy Hy dy0 dy1 Ey => ⟨rfl, _, rfl, ite2 (fun _ => ?_) (fun _ => keep (de.trans Ey))⟩⟩
        refine ⟨_, rfl, .inl ⟨rfl, _, SqL.of ((de.trans Ey).but _ _ nlf hlfd)⟩, _, rfl, _, rfl, _, _, rfl, rfl, ⟨by decide, by decide, by decide⟩, wl, _, rfl, by decide, by decide +kernel, (de.trans Ey).well, fun z Hz z0 z1 Ez => ⟨_, _, rfl, rfl, (by show 2 ≤ sizeLine; decide), fun a ha => ?_⟩⟩
        have dz := (de.trans Ey).trans Ez
        have s9 := same_new (o := .tup [.ref t, .int (1 + z)]) ha
        have f9 : (upd Hz a (.tup [.ref t, .int (1 + z)])) a = some (.tup [.ref t, .int (1 + z)]) := upd_same
        have d9 := dz.trans (Dr.ofSame dz.well s9)
        generalize upd Hz a (.tup [.ref t, .int (1 + z)]) = H9 at s9 f9 d9
        have hlf9 := d9.but _ _ nlf hlfd
        have tk9 := TK.dr Ed.well d9.but
        have ex : EntX K wl lf H9 (.ref a) (pc, 1 + z) := ⟨a, t, l, rfl, .inl (.inl f9), tk9.seq (.inl (.inl et)), d9.but _ _ nl1 el, nl1, nl2⟩
        refine ⟨lf, _, _, rfl, rfl, hlf9, small1000 (by omega), ?_⟩
        refine ⟨_, _, _, ev ++ [.ref a], es ++ [(pc, 1 + z)], rfl, upd_same, ((had.imp fun _ _ r => (r.dr Ed.well d9).put hlf9)).snoc (ex.put hlf9), ?_, fun e he => ?_, set_well (dd.trans d9) hlf nlf⟩
        · rw [List.length_append]
          show _ + 1 ≤ _
          omega
        · rcases List.mem_append.mp he with z' | z'
          · exact hokc e z'
          · rw [List.mem_singleton.mp z']
            have z2 : z < 100000000000000000000 := z1
            exact ⟨⟨okp, by show pc.2.length ≤ 1000; omega, by show (1 : Int) ≤ 1 + z; omega⟩, by show 1 + z ≤ 10 ^ 30; rw [e30]; omega, by show pc.2.length ≤ 900; omega⟩
    rintro σ Hc ⟨u7, u8, u9, ev, es, rfl, hlfc, hac, hlc, hokc, dc⟩
    have Dc := E1.trans dc
    exact ⟨_, rfl, q lf ev es Hc Dc (E1.free hw hlf) hlfc hac hokc (by omega)⟩
end
end Lag

set_option maxRecDepth 100000
set_option maxHeartbeats 8000000
namespace Lag
open PySem PySem.Spec PyProof.Rows L2
theorem dx_dr {K : PySem.W.Frag} {wl : Addr} {Av : Addr → Prop} {H H' : Hp} {d : PyData} {v : V} (n : ∀ a, Av a → a ≠ wl) (h : Dx K Av H v d) (W : WellAt wl H) (D : Dr wl H H') : Dx K Av H' v d := Dx.move ⟨fun a xs k e => ⟨D.but _ _ (n a k) e, k⟩, fun a xs s => (TK.dr W D.but).seq s, fun a e => D.but _ _ (fun z => by
  obtain ⟨ys, e', _⟩ := W
  rw [z, e'] at e
  cases e) e⟩ d h
/-- a row of things, their lists of a kind -/
def OG (K : PySem.W.Frag) (wl : Addr) (Av : Addr → Prop) (H : Hp) (xs : List V) (ds : List PyData) : Prop := (∀ a, Av a → a ≠ wl) ∧ All2 (Dx K Av H) xs ds
section
variable {K : PySem.W.Frag} {wl : Addr} {Av : Addr → Prop} {H H' : Hp} {xs ys : List V} {ds es : List PyData}
theorem OG.same (h : OG K wl Av H xs ds) (s : Same H H') : OG K wl Av H' xs ds := ⟨h.1, h.2.imp fun _ _ r => r.same s⟩
theorem OG.dr (h : OG K wl Av H xs ds) (W : WellAt wl H) (D : Dr wl H H') : OG K wl Av H' xs ds := ⟨h.1, h.2.imp fun _ _ r => dx_dr h.1 r W D⟩
theorem OG.take (h : OG K wl Av H xs ds) (n : Nat) : OG K wl Av H (xs.take n) (ds.take n) := ⟨h.1, h.2.take n⟩
theorem OG.drop (h : OG K wl Av H xs ds) (n : Nat) : OG K wl Av H (xs.drop n) (ds.drop n) := ⟨h.1, h.2.drop n⟩
theorem OG.app (h : OG K wl Av H xs ds) (h' : OG K wl Av H ys es) : OG K wl Av H (xs ++ ys) (ds ++ es) := ⟨h.1, h.2.append h'.2⟩
theorem OG.rev (h : OG K wl Av H xs ds) : OG K wl Av H xs.reverse ds.reverse := ⟨h.1, All2.reverse h.2⟩
theorem OG.one {v : V} {d : PyData} (n : ∀ a, Av a → a ≠ wl) (h : Dx K Av H v d) : OG K wl Av H [v] [d] := ⟨n, (All2.nil.snoc h : All2 _ ([] ++ [v]) ([] ++ [d]))⟩
theorem OG.len (h : OG K wl Av H xs ds) : xs.length = ds.length := h.2.1
theorem OG.more {Av' : Addr → Prop} (h : OG K wl Av H xs ds) (m : ∀ a ys, H a = some (.lst ys) → Av a → Av' a) (n : ∀ a, Av' a → a ≠ wl) : OG K wl Av' H xs ds := ⟨n, h.2.imp fun _ d r => Dx.move ⟨fun a ys k e => ⟨e, m a ys e k⟩, fun a ys s => s, fun a e => e⟩ d r⟩
theorem OG.fresh {c : Addr} (h : OG K wl Av H xs ds) (hc : H c = none) : OG K wl (fun a => Av a ∧ a ≠ c) (upd H c (.lst xs)) xs ds :=
  OG.same (h.more (fun a ys e k => ⟨k, ne_of_none e hc⟩) fun a k => h.1 a k.1) (same_new hc)
end
theorem short_int {i : Int} (h0 : 0 ≤ i) (h : i < 10 ^ 40) : (PyData.int i).shown.length ≤ 40 := by
  rw [PyData.shown_int]
  have h2 := digits_le h0 (k := 40) (by decide) h
  rw [asciiBytes.eq_1, List.length_map] at h2
  show (cpsOfBytes 0 0 (toString i).toByteArray.data.toList).toArray.size ≤ 40
  rw [cpsOfBytes_string, List.size_toArray, List.length_map]
  exact h2
structure Txt (k b : Nat) (d : PyData) : Prop where
  sh : Sh k d
  sw : d.showable = true
  si : d.leavesShort 40 = true
  bl : d.bulk ≤ b
theorem Txt.int {k b : Nat} {i : Int} (h0 : 0 ≤ i) (h1 : i < 10 ^ 40) : Txt k b (.int i) := by
  refine ⟨sh_int i, ?_, ?_, Nat.zero_le _⟩
  · show decide (i.natAbs.log2 < 1920) = true
    refine decide_eq_true ?_
    by_cases h : i.natAbs = 0
    · rw [h]
      decide
    · have e40 : (10 : Int) ^ 40 = 10000000000000000000000000000000000000000 := by decide
      have e2 : (2 : Nat) ^ 140 = 1393796574908163946345982392040522594123776 := by decide
      refine Nat.lt_of_lt_of_le ((Nat.log2_lt h).mpr (show i.natAbs < 2 ^ 140 by rw [e40] at h1; rw [e2]; omega)) (by decide)
  · show decide ((PyData.shown (.int i)).length ≤ 40) = true
    exact decide_eq_true (Nat.le_trans (short_int h0 h1) (by decide))
theorem txt_all {b : Nat} : ∀ {ds : List PyData}, (∀ d ∈ ds, d.showable = true ∧ d.leavesShort 40 = true ∧ d.bulk ≤ b) → PyData.showableAll ds = true ∧ PyData.leavesShortAll 40 ds = true ∧ PyData.bulkAll ds ≤ ds.length * (b + 1)
  | [], _ => ⟨rfl, rfl, Nat.zero_le _⟩
  | d :: ds, h => by
    obtain ⟨h1, h2, h3⟩ := h d (List.mem_cons_self ..)
    obtain ⟨k1, k2, k3⟩ := txt_all fun e he => h e (List.mem_cons_of_mem _ he)
    refine ⟨?_, ?_, ?_⟩
    · show (d.showable && PyData.showableAll ds) = true
      rw [h1, k1]
      rfl
    · show (d.leavesShort 40 && PyData.leavesShortAll 40 ds) = true
      rw [h2, k2]
      rfl
    · show d.bulk + 1 + PyData.bulkAll ds ≤ (ds.length + 1) * (b + 1)
      rw [Nat.succ_mul]
      omega
theorem Txt.list {k b n : Nat} {ds : List PyData} (hn : ds.length ≤ n) (h : ∀ d ∈ ds, Txt k b d) : Txt (k + 1) (n * (b + 1)) (.list ds) := by
  obtain ⟨k1, k2, k3⟩ := txt_all (b := b) fun d hd => ⟨(h d hd).sw, (h d hd).si, (h d hd).bl⟩
  exact ⟨sh_list fun d hd => (h d hd).sh, k1, k2, Nat.le_trans k3 (Nat.mul_le_mul_right _ hn)⟩
theorem Txt.tuple {k b n : Nat} {ds : List PyData} (hn : ds.length ≤ n) (h : ∀ d ∈ ds, Txt k b d) : Txt (k + 1) (n * (b + 1)) (.tuple ds) := by
  obtain ⟨k1, k2, k3⟩ := txt_all (b := b) fun d hd => ⟨(h d hd).sw, (h d hd).si, (h d hd).bl⟩
  exact ⟨sh_tuple fun d hd => (h d hd).sh, k1, k2, Nat.le_trans k3 (Nat.mul_le_mul_right _ hn)⟩
theorem Txt.mono {k b b' : Nat} {d : PyData} (h : Txt k b d) (hb : b ≤ b') : Txt k b' d := ⟨h.sh, h.sw, h.si, Nat.le_trans h.bl hb⟩
theorem Txt.fits {k b : Nat} {d : PyData} (h : Txt k b d) (hb : b ≤ 390000) : d.shown.length ≤ sizeLine := by
  have h1 := PyData.shown_le_bulk 40 (by decide) d h.si
  have h2 := Nat.le_trans h.bl hb
  have e : sizeLine = 16777216 := by decide
  rw [e]
  have h3 : (40 + 2) * d.bulk ≤ (40 + 2) * 390000 := Nat.mul_le_mul_left _ h2
  omega
theorem Txt.non {k b : Nat} : Txt k b .none := ⟨⟨rfl, Nat.zero_le _⟩, rfl, (by decide +kernel), Nat.zero_le _⟩
theorem Txt.boo {k b : Nat} (x : Bool) : Txt k b (.bool x) := ⟨⟨rfl, Nat.zero_le _⟩, rfl, (by cases x <;> decide +kernel), Nat.zero_le _⟩
theorem Txt.up {k m b : Nat} {d : PyData} (h : Txt k b d) (hk : k ≤ m) : Txt m b d := ⟨sh_up h.sh hk, h.sw, h.si, h.bl⟩
/-- an entry of a paper that can be shown -/
def EntT (gs : List Gt) (ws : List Wr) (e : PyData) : Prop := Txt 6 6100 e ∧ ∀ en, entryD gs ws e = some en → en.1.2.length ≤ 1000
theorem EntT.shrt {gs : List Gt} {ws : List Wr} {e : PyData} (h : EntT gs ws e) : Shrt gs ws e := ⟨sh_up h.1.sh (by decide), h.2⟩
/-- a word of what str tells of a thing -/
structure StrG (d : PyData) : Prop where
  sw : d.showable = true
  dp : d.depth < 60
  le : d.shown.length ≤ sizeLine
  lay : d = .dict [] ∨ d.canLay0 = true
theorem Txt.g {k b : Nat} {d : PyData} (h : Txt k b d) (hk : k < 60) (hb : b ≤ 390000) : StrG d := ⟨h.sw, Nat.lt_of_le_of_lt h.sh.2 hk, h.fits hb, .inr h.sh.1⟩
theorem rows_g {gs : List Gt} {ws : List Wr} {es : List PyData} (h : ∀ e ∈ es, EntT gs ws e) (hl : es.length ≤ 62) : C2 gs ws (.list es) ∧ StrG (.list es) := by
  refine ⟨fun ds e => ?_, Txt.g (Txt.list (n := 62) hl fun e he => (h e he).1) (by decide) (by decide)⟩
  cases e
  exact ⟨by omega, fun e he => (h e he).shrt⟩
theorem txt_places {k : Nat} {qs : List Nat} {n : Nat} (h : qs.length ≤ n) (hq : ∀ q ∈ qs, q ≤ 5000) : Txt (k + 1) (n * (0 + 1)) (.list (qs.map fun p => .int (p : Nat))) ∧ Txt (k + 1) (n * (0 + 1)) (.tuple (qs.map fun p => .int (p : Nat))) := by
  have e40 : (10 : Int) ^ 40 = 10000000000000000000000000000000000000000 := by decide
  have hi : ∀ d ∈ qs.map (fun p => PyData.int ((p : Nat) : Int)), Txt k 0 d := fun d hd => by
    obtain ⟨q, hm, rfl⟩ := List.mem_map.mp hd
    have := hq q hm
    exact .int (by omega) (by rw [e40]; omega)
  exact ⟨.list (by rw [List.length_map]; exact h) hi, .tuple (by rw [List.length_map]; exact h) hi⟩
theorem pair_mem {x y d : PyData} {p : PyData → Prop} (hx : p x) (hy : p y) (h : d ∈ [x, y]) : p d := by
  simp only [List.mem_cons, List.not_mem_nil, or_false] at h
  rcases h with rfl | rfl
  · exact hx
  · exact hy
theorem txt_ent {m p : PyData} {x : Int} (hp : Txt 1 (1010 * (0 + 1)) p) (hg : Txt 1 (1010 * (0 + 1)) (.int x)) (hm : Txt 2 (2 * (1010 * (0 + 1) + 1)) m) : Txt 3 (2 * (2 * (1010 * (0 + 1) + 1) + 1)) (.tuple [.tuple [.int x, p], m]) :=
  .tuple (n := 2) (by show 2 ≤ 2; decide) fun d hd => pair_mem (p := Txt 2 (2 * (1010 * (0 + 1) + 1))) (Txt.tuple (n := 2) (by show 2 ≤ 2; decide) fun d hd => pair_mem (p := Txt 1 (1010 * (0 + 1))) hg hp hd) hm hd
end Lag

set_option maxRecDepth 100000
set_option maxHeartbeats 8000000
namespace Lag
open PySem PySem.Spec PyProof.Rows L2
abbrev sOdd : Stmt := topS 88 -- @_law_odd
theorem e40 : (10 : Int) ^ 40 = 10000000000000000000000000000000000000000 := by decide
theorem pw_lt {ws : List Wr} : ∀ {ps : List Nat} {g e : Nat}, Pw ws g ps e → ∀ q ∈ ps, q < ws.length
  | p :: r, g, e, h, q, hq => by
    obtain ⟨x, h1, _, h3⟩ := h
    rcases List.mem_cons.mp hq with z | z
    · rw [z]
      exact (List.getElem?_eq_some_iff.mp h1).1
    · exact pw_lt h3 q z
theorem pce_lt {gs : List Gt} {ws : List Wr} {pc : Pce} (N : NetOk gs ws) (h : PceOk gs ws pc) : ∀ q ∈ pc.2, q ≤ 5000 := fun q hq => by
  obtain ⟨k1, m, k2⟩ := h
  have := pw_lt k2 q hq
  have := N.wl
  omega
theorem entT_of {gs : List Gt} {ws : List Wr} {g : Nat} {qs : List Nat} {m : Int} (N : NetOk gs ws) (h : PceOk gs ws (g, qs)) (hl : qs.length ≤ 900) (h1 : 1 ≤ m) (h2 : m ≤ 10 ^ 30) : EntT gs ws (entD ((g, qs), m)) := by
  have hg : g < gs.length := h.1
  have hgl := N.gl
  rw [e30] at h2
  show EntT gs ws (.tuple [.tuple [.int (g : Nat), .list (qs.map fun p => .int (p : Nat))], .int m])
  refine ⟨((txt_ent (txt_places (k := 0) (n := 1010) (qs := qs) (by omega) (pce_lt N h)).1 (.int (by omega) (by rw [e40]; omega)) (.int (by omega) (by rw [e40]; omega))).up (by decide)).mono (by decide), (shrt_ent (gs := gs) (ws := ws) (by omega) (sh_int _)).2⟩
theorem odd_ent {gs : List Gt} {ws : List Wr} {g j : Nat} {qs qc : List Nat} {m dg : Int} {od : PyData} (hqs : qs.length ≤ 900) (hqb : ∀ q ∈ qs, q ≤ 5000) (sc : qc.length ≤ 900) (hqcb : ∀ q ∈ qc, q ≤ 5000) (hj : j ≤ 60) (hgb : g ≤ 100) (dg0 : 0 ≤ dg) (dg1 : dg ≤ ((100 : Nat) : Int)) (hm1 : 1 ≤ m) (hm30 : m ≤ 10 ^ 30)
    (hm : od ∈ [PyData.tuple [.tuple [.int (g : Nat), .list (qs.map fun p => .int (p : Nat))], .int (m + 1)]] ++ [.tuple [.tuple [.int (g : Nat), .list (qs.map fun p => .int (p : Nat))], .int (m - 1)]] ++ [.tuple [.tuple [.int (g : Nat), .list (qs.map fun p => .int (p : Nat))], .int 0]] ++ [.tuple [.tuple [.int (g : Nat), .list (qs.map fun p => .int (p : Nat))], .bool true]] ++ [.tuple [.tuple [.int (g : Nat), .list (qc.map fun p => .int (p : Nat))], .int m]] ++ [.tuple [.tuple [.int (g : Nat), .list ((qs ++ [j]).map fun p => .int (p : Nat))], .int m]] ++ [.tuple [.tuple [.int (g : Nat), .tuple (qs.map fun p => .int (p : Nat))], .int m]] ++ [.tuple [.tuple [.int dg, .list (qs.map fun p => .int (p : Nat))], .int m]] ++ [.tuple [.tuple [.int (g : Nat), .list (qs.map fun p => .int (p : Nat))], .int m, .int 0]]) : EntT gs ws od := by
  simp only [List.cons_append, List.nil_append, List.mem_cons, List.not_mem_nil, or_false] at hm
  have tg : Txt 1 (1010 * (0 + 1)) (.int (g : Nat)) := .int (by omega) (by rw [e40]; omega)
  have tq := (txt_places (k := 0) (n := 1010) (qs := qs) (by omega) hqb)
  have ti : ∀ z : Int, 0 ≤ z → z ≤ m + 1 → Txt 2 (2 * (1010 * (0 + 1) + 1)) (.int z) := fun z h0 h1 => .int h0 (by rw [e40]; rw [e30] at hm30; omega)
  have lq : ∀ {x : Int} {us : List Nat} {mm : PyData}, us.length ≤ 1000 → Sh 2 mm → ∀ en, entryD gs ws (.tuple [.tuple [.int x, .list (us.map fun p => .int (p : Nat))], mm]) = some en → en.1.2.length ≤ 1000 := fun h s => (shrt_ent (gs := gs) (ws := ws) h s).2
  rcases hm with rfl | rfl | rfl | rfl | rfl | rfl | rfl | rfl | rfl
  · exact ⟨((txt_ent tq.1 tg (ti _ (by omega) (by omega))).up (by decide)).mono (by decide), lq (by omega) (sh_int _)⟩
  · exact ⟨((txt_ent tq.1 tg (ti _ (by omega) (by omega))).up (by decide)).mono (by decide), lq (by omega) (sh_int _)⟩
  · exact ⟨((txt_ent tq.1 tg (ti _ (by omega) (by omega))).up (by decide)).mono (by decide), lq (by omega) (sh_int _)⟩
  · exact ⟨((txt_ent tq.1 tg (.boo true)).up (by decide)).mono (by decide), lq (by omega) ⟨rfl, Nat.zero_le _⟩⟩
  · exact ⟨((txt_ent (txt_places (k := 0) (n := 1010) (by omega) hqcb).1 tg (ti _ (by omega) (by omega))).up (by decide)).mono (by decide), lq (by omega) (sh_int _)⟩
  · have hql : (qs ++ [j]).length ≤ 1000 := by rw [List.length_append]; show _ + 1 ≤ _; omega
    have hqb2 : ∀ q ∈ qs ++ [j], q ≤ 5000 := fun q hq => (List.mem_append.mp hq).elim (hqb q) fun h => by rw [List.mem_singleton.mp h]; omega
    exact ⟨((txt_ent (txt_places (k := 0) (n := 1010) (by omega) hqb2).1 tg (ti _ (by omega) (by omega))).up (by decide)).mono (by decide), lq hql (sh_int _)⟩
  · exact ⟨((txt_ent tq.2 tg (ti _ (by omega) (by omega))).up (by decide)).mono (by decide), (shrt_entT (gs := gs) (ws := ws) (sh_int _)).2⟩
  · exact ⟨((txt_ent tq.1 (.int dg0 (by rw [e40]; omega)) (ti _ (by omega) (by omega))).up (by decide)).mono (by decide), lq (by omega) (sh_int _)⟩
  · refine ⟨((Txt.tuple (k := 2) (b := 2 * (1010 * (0 + 1) + 1)) (n := 3) (by show 3 ≤ 3; decide) fun d hd => ?_).up (by decide)).mono (by decide +kernel), fun en z => by
      rw [entry_len (by show 3 ≠ 2; decide)] at z
      cases z⟩
    simp only [List.mem_cons, List.not_mem_nil, or_false] at hd
    rcases hd with rfl | rfl | rfl
    · exact Txt.tuple (n := 2) (by show 2 ≤ 2; decide) fun d hd => pair_mem (p := Txt 1 (1010 * (0 + 1))) tg tq.1 hd
    · exact ti _ (by omega) (by omega)
    · exact ti _ (by omega) (by omega)
theorem entT_all {gs : List Gt} {ws : List Wr} {es : List Ent} (N : NetOk gs ws) (h : ∀ e ∈ es, EntG gs ws e) : ∀ e ∈ es.map entD, EntT gs ws e := fun e he => by
  obtain ⟨⟨⟨g, qs⟩, m⟩, hm, rfl⟩ := List.mem_map.mp he
  obtain ⟨⟨k1, _, k2⟩, k3, k4⟩ := h _ hm
  exact entT_of N k1 k4 k2 k3
theorem odd8 : Txt 6 6100 (.list [.tuple [.int 0, .list []], .int 1]) := by
  refine ((Txt.list (k := 2) (b := 10) (n := 2) (by show 2 ≤ 2; decide) fun d hd => pair_mem (p := Txt 2 10) ?_ (.int (by decide) (by decide)) hd).up (by decide)).mono (by decide)
  exact (Txt.tuple (k := 1) (b := 2) (n := 2) (by show 2 ≤ 2; decide) fun d hd => pair_mem (p := Txt 1 2) (.int (by decide) (by decide)) ((Txt.list (ds := []) (k := 0) (b := 0) (n := 0) (by decide) fun d hd => nomatch hd).mono (by decide)) hd).mono (by decide)
/-- a thing that the law hands in -/
structure HdP (K : PySem.W.Frag) (wl : Addr) (gs : List Gt) (ws : List Wr) (H0 H : Hp) (v : V) (d : PyData) : Prop where
  x : Dx K (· ≠ wl) H v d
  s : dL d = false → StrG d
  m : ∀ es, d = .list es → (∀ e ∈ es, EntT gs ws e) ∧ es.length ≤ 62 ∧ ∃ l xs, v = .ref l ∧ H0 l = none ∧ l ≠ wl ∧ H l = some (.lst xs) ∧ OG K wl (fun b => b ≠ wl ∧ b ≠ l) H xs es
theorem HdP.nl {K : PySem.W.Frag} {wl : Addr} {gs : List Gt} {ws : List Wr} {H0 H : Hp} {v : V} {d : PyData} (x : Dx K (· ≠ wl) H v d) (s : StrG d) (n : dL d = false) : HdP K wl gs ws H0 H v d :=
  ⟨x, fun _ => s, fun es e => by rw [e] at n; cases n⟩
theorem HdP.ls {K : PySem.W.Frag} {wl : Addr} {gs : List Gt} {ws : List Wr} {H0 H : Hp} {l : Addr} {xs : List V} {ds : List PyData} (h0 : H0 l = none) (n : l ≠ wl) (el : H l = some (.lst xs)) (og : OG K wl (fun b => b ≠ wl ∧ b ≠ l) H xs ds) (t : ∀ e ∈ ds, EntT gs ws e) (hl : ds.length ≤ 62) : HdP K wl gs ws H0 H (.ref l) (.list ds) :=
  ⟨.lst el n (DxAll.from2 (og.more (Av' := (· ≠ wl)) (fun a ys _ k => k.1) fun a k => k).2), (fun z => by cases z), fun es e => by
    cases e
    exact ⟨t, hl, l, xs, rfl, h0, n, el, og⟩⟩
theorem ents_og {K : PySem.W.Frag} {wl lp : Addr} {H : Hp} {ev : List V} {es : List Ent} (h : All2 (EntX K wl lp H) ev es) : OG K wl (fun b => b ≠ wl ∧ b ≠ lp) H ev (es.map entD) := by
  refine ⟨fun a k => k.1, by rw [List.length_map]; exact h.1, fun i x y hx hy => ?_⟩
  rw [List.getElem?_map] at hy
  cases e : es[i]? with
  | none => rw [e] at hy; cases hy
  | some en =>
    rw [e] at hy
    cases hy
    obtain ⟨a, t, l, rfl, h1, h2, h3, h4, h5⟩ := h.2 i x en hx e
    exact .tup h1 (.cons (.tup h2 (.cons (.int _) (.cons (.lst h3 ⟨h4, h5⟩ (dx_natsX _)) .nil))) (.cons (.int _) .nil))
def spOdd (K : PySem.W.Frag) : Sp := fun vs H Q _ => ∃ (wl lg lw lp : Addr) (gs : List Gt) (ws : List Wr) (H0 : Hp) (ev : List V) (es : List Ent), vs = [.ref wl, .ref lg, .ref lw, .ref lp] ∧ WellAt wl H ∧ lg ≠ wl ∧ lw ≠ wl ∧ lp ≠ wl ∧ LG K H lg gs ∧ LW K H lw ws ∧ NetOk gs ws ∧ WellAt wl H0 ∧ Dr wl H0 H ∧ H lp = some (.lst ev) ∧ All2 (EntX K wl lp H) ev es ∧ (∀ e ∈ es, EntG gs ws e) ∧ es.length ≤ 60 ∧ ∀ v d H', Dr wl H H' → HdP K wl gs ws H0 H' v d → Q v H'
section
variable {P : Program} {w : World} {K : PySem.W.Frag} {mg : Str → Option Value} {base : Heap}
abbrev nOdd : List Str := ["_law_well_here", "_law_gates_here", "_law_wires_here", "_law_thing", "_law_way", "_law_at", "_law_start", "_law_places", "_law_many", "_law_entries"]
theorem scOdd : FnScope nOdd ["_law_well_here", "_law_gates_here", "_law_wires_here", "_law_thing"] (defScope sOdd) := ⟨rfl, rfl, rfl, by decide +kernel, rfl, by decide +kernel, by decide +kernel⟩
abbrev DOdd (P : Program) (w : World) (K : PySem.W.Frag) (mg : Str → Option Value) (base : Heap) := Df P w K mg base 5 "_law_odd" ["_law_well_here", "_law_gates_here", "_law_wires_here", "_law_thing"] (spOdd K)
theorem ok_odd {f fD : Addr} {fd fdD : FuncData} (F : Fun K "_law_odd" "_law_odd" sOdd f fd) (hm : mg "_law_odd" = some (.ref f)) (B : Bt mg) (DD : DDraw P w K mg base fD fdD) : DOdd P w K mg base f fd := by
  refine ⟨?_, hm, F.kp, F.binds fun _ _ _ _ _ _ us hl => match us, hl with | [_, _, _, _], _ => rfl⟩
  refine F.ok scOdd (fun vs H Q E h => ?_) (fun cdv A outer s H vs Q E hr h => ?_)
  · obtain ⟨wl, lg, lw, lp, gs, ws, H0, ev, es, rfl, _⟩ := h
    rfl
  · obtain ⟨wl, lg, lw, lp, gs, ws, H0, ev, es, rfl, hw, nlg, nlw, nlp, G, W, N, hw0, D0, hlp, ea, eg, hes, q⟩ := h
    have nd := scOdd.nd
    refine ⟨_, pss_cons (ps_set (i := 4) nd rfl (.inl rfl) (pe_call DD.ok (hr.mono (by decide)) (by rfl) DD.mg DD.kp DD.bd .nil pass0 (pa_cons (pv 0) (pa_cons pe_int pa_nil)))) <|
        pss_cons (ps_if (PW.pt (pw_or (pt_cmpR (op_eqD hr.units) (pv 3) (pe_lst pa_nil) (nomark _)) (pw_or1 (pt_cmpR op_eq (pv 4) pe_int (nomark _))))) (pss_one (ps_ret (pe_ix ix_list (pe_lst (pa_cons pe_non (pa_cons pe_dnewK (pa_cons pe_str (pa_cons (pe_callTy call_tuple_of (by rfl) B.tuple (by decide +kernel) (pa_cons (pv 3) pa_nil)) (pa_cons pe_int (pa_cons (pe_lst (pa_cons pe_non pa_nil)) (pa_cons (pe_lst (pa_cons (pe_tup pa_nil) pa_nil)) (pa_cons (pe_lst (pa_cons (pe_lst (pa_cons (pe_tup (pa_cons pe_int (pa_cons (pe_lst pa_nil) pa_nil))) (pa_cons pe_int pa_nil))) pa_nil)) pa_nil))))))))) (pe_call DD.ok (hr.mono (by decide)) (by rfl) DD.mg DD.kp DD.bd .nil pass0 (pa_cons (pv 0) (pa_cons pe_int pa_nil))) (fun _ _ => rfl)))) pss_nil) <|
        pss_cons (ps_set (i := 5) nd rfl (.inl rfl) (pe_call DD.ok (hr.mono (by decide)) (by rfl) DD.mg DD.kp DD.bd .nil pass0 (pa_cons (pv 0) (pa_cons (pe_callB call_len_seq (by rfl) B.len PySem.boot_len (pa_cons (pv 3) pa_nil)) pa_nil)))) <|
        pss_cons (ps_asg (pe_ix ix_list (pv 3) (pv 5) (fun _ _ => rfl)) (pg_tup rfl (pgs_cons (pg_tup rfl (pgs_cons (pg_name (i := 6) nd rfl (.inl rfl)) (pgs_cons (pg_name (i := 7) nd rfl (.inl rfl)) pgs_nil))) (pgs_cons (pg_name (i := 8) nd rfl (.inl rfl)) pgs_nil)))) <|
        pss_cons (ps_set (i := 9) nd rfl (.inl rfl) (pe_lst (pa_cons (pe_tup (pa_cons (pe_tup (pa_cons (pv 6) (pa_cons (pv 7) pa_nil))) (pa_cons (pe_op op_add (pv 8) pe_int) pa_nil))) (pa_cons (pe_tup (pa_cons (pe_tup (pa_cons (pv 6) (pa_cons (pv 7) pa_nil))) (pa_cons (pe_op op_sub (pv 8) pe_int) pa_nil))) (pa_cons (pe_tup (pa_cons (pe_tup (pa_cons (pv 6) (pa_cons (pv 7) pa_nil))) (pa_cons pe_int pa_nil))) (pa_cons (pe_tup (pa_cons (pe_tup (pa_cons (pv 6) (pa_cons (pv 7) pa_nil))) (pa_cons pe_bl pa_nil))) pa_nil)))))) <|
        pss_cons (ps_set (i := 9) nd rfl (.inl rfl) (pe_op op_cat (pv 9) (pe_lst (pa_cons (pe_tup (pa_cons (pe_tup (pa_cons (pv 6) (pa_cons (pe_slice sl_list (pv 7) (po_some pe_int) po_none) pa_nil))) (pa_cons (pv 8) pa_nil))) (pa_cons (pe_tup (pa_cons (pe_tup (pa_cons (pv 6) (pa_cons (pe_op op_cat (pv 7) (pe_lst (pa_cons (pv 5) pa_nil))) pa_nil))) (pa_cons (pv 8) pa_nil))) (pa_cons (pe_tup (pa_cons (pe_tup (pa_cons (pv 6) (pa_cons (pe_callTy call_tuple_of (by rfl) B.tuple (by decide +kernel) (pa_cons (pv 7) pa_nil)) pa_nil))) (pa_cons (pv 8) pa_nil))) pa_nil)))))) <|
        pss_cons (ps_set (i := 9) nd rfl (.inl rfl) (pe_op op_cat (pv 9) (pe_lst (pa_cons (pe_tup (pa_cons (pe_tup (pa_cons (pe_call DD.ok (hr.mono (by decide)) (by rfl) DD.mg DD.kp DD.bd .nil pass0 (pa_cons (pv 0) (pa_cons (pe_callB call_len_seq (by rfl) B.len PySem.boot_len (pa_cons (pv 1) pa_nil)) pa_nil))) (pa_cons (pv 7) pa_nil))) (pa_cons (pv 8) pa_nil))) (pa_cons (pe_tup (pa_cons (pe_tup (pa_cons (pv 6) (pa_cons (pv 7) pa_nil))) (pa_cons (pv 8) (pa_cons pe_int pa_nil)))) pa_nil))))) <|
        pss_cons (ps_if (pt_cmpR op_eq (pv 4) pe_int (nomark _)) (pss_one (ps_ret (pe_op op_cat (pe_slice sl_list (pv 3) po_none (po_some (pv 5))) (pe_slice sl_list (pv 3) (po_some (pe_op op_add (pv 5) pe_int)) po_none)))) pss_nil) <|
        pss_cons (ps_if (pt_cmpR op_eq (pv 4) pe_int (nomark _)) (pss_one (ps_ret (pe_op op_cat (pe_op op_cat (pe_slice sl_list (pv 3) po_none (po_some (pv 5))) (pe_lst (pa_cons (pe_ix ix_list (pv 3) (pv 5) (fun _ _ => rfl)) pa_nil))) (pe_slice sl_list (pv 3) (po_some (pv 5)) po_none)))) pss_nil) <|
        pss_one (ps_ret (pe_op op_cat (pe_op op_cat (pe_slice sl_list (pv 3) po_none (po_some (pv 5))) (pe_lst (pa_cons (pe_ix ix_list (pv 9) (pe_call DD.ok (hr.mono (by decide)) (by rfl) DD.mg DD.kp DD.bd .nil pass0 (pa_cons (pv 0) (pa_cons pe_int pa_nil))) (fun _ _ => rfl)) pa_nil))) (pe_slice sl_list (pv 3) (po_some (pe_op op_add (pv 5) pe_int)) po_none))), ?_⟩
    have hgl0 := N.gl
    have hwl0 := N.wl
    have hg0 : 0 < gs.length := List.length_pos_iff.mpr N.ne
    have OP := ents_og ea
    obtain ⟨c2, sg⟩ := rows_g (entT_all N eg) (by rw [List.length_map]; omega)
    have shl : Sh 51 (.list (es.map entD)) := sh_list fun e he => ((c2 _ rfl).2 e he).1
    have sgt : StrG (.tuple (es.map entD)) := Txt.g (Txt.tuple (n := 62) (by rw [List.length_map]; omega) fun e he => (entT_all N eg e he).1) (by decide) (by decide)
    refine ⟨_, rfl, wl, 11, rfl, by decide, by decide, hw, fun dw G1 dw0 dw1 E1 => ?_⟩
    have D1 := E1
    have hlp := E1.but _ _ nlp hlp
    have OP := OP.dr hw E1
    refine gn_norm (σ' := [some (.ref wl), some (.ref lg), some (.ref lw), some (.ref lp), some (.int dw), none, none, none, none, none]) rfl ?_
    refine ⟨_, rfl, (by show 0 ≤ sizeLine; decide), fun a0 ha0 => ?_⟩
    have na0 : a0 ≠ wl := (D1.well.ne ha0).symm
    have S2 : Same G1 (upd G1 a0 (.lst [])) := same_new ha0
    have fa0 : (upd G1 a0 (.lst [])) a0 = some (.lst []) := upd_same
    have D2 := D1.trans (Dr.ofSame D1.well S2)
    have hlp := S2 _ _ hlp
    have OP := OP.same S2
    generalize upd G1 a0 (.lst []) = G2 at S2 fa0 D2 hlp OP 
    refine ⟨_, _, Dx.dp (.list (es.map entD)) (Dx.lst (Av := Any) hlp trivial (DxAll.from2 (OP.2.imp fun _ _ r => r.any))) shl.1, Dp.lst (SqL.of fa0) .nil, Sh.ok shl (by decide), by decide +kernel, _, rfl, ?_⟩
    rw [list_nilU]
    refine ite2 (fun _ => ?_) (fun enil => ?_)
    · intro a1 ha1
      have ga1 := D0.free hw0 (D2.free hw ha1)
      have na1 : a1 ≠ wl := (D2.well.ne ha1).symm
      have S3 : Same G2 (upd G2 a1 (.dK [])) := same_new ha1
      have fa1 : (upd G2 a1 (.dK [])) a1 = some (.dK []) := upd_same
      have D3 := D2.trans (Dr.ofSame D2.well S3)
      have hlp := S3 _ _ hlp
      have OP := OP.same S3
      generalize upd G2 a1 (.dK []) = G3 at S3 fa1 D3 hlp OP 
      refine ⟨_, rfl, lp, _, rfl, .inl ⟨SqL.of hlp, fun a2 ha2 => ?_⟩⟩
      have ga2 := D0.free hw0 (D3.free hw ha2)
      have na2 : a2 ≠ wl := (D3.well.ne ha2).symm
      have S4 : Same G3 (upd G3 a2 (.tup ev)) := same_new ha2
      have fa2 : (upd G3 a2 (.tup ev)) a2 = some (.tup ev) := upd_same
      have D4 := D3.trans (Dr.ofSame D3.well S4)
      have hlp := S4 _ _ hlp
      have fa1 := S4 _ _ fa1
      have OP := OP.same S4
      generalize upd G3 a2 (.tup ev) = G4 at S4 fa2 D4 hlp fa1 OP 
      refine ⟨(by show 1 ≤ sizeLine; decide), fun a3 ha3 => ?_⟩
      have ga3 := D0.free hw0 (D4.free hw ha3)
      have na3 : a3 ≠ wl := (D4.well.ne ha3).symm
      have S5 : Same G4 (upd G4 a3 (.lst [.non])) := same_new ha3
      have fa3 : (upd G4 a3 (.lst [.non])) a3 = some (.lst [.non]) := upd_same
      have D5 := D4.trans (Dr.ofSame D4.well S5)
      have hlp := S5 _ _ hlp
      have fa1 := S5 _ _ fa1
      have fa2 := S5 _ _ fa2
      have OP := OP.same S5
      generalize upd G4 a3 (.lst [.non]) = G5 at S5 fa3 D5 hlp fa1 fa2 OP 
      refine ⟨(by show 0 ≤ sizeLine; decide), fun a4 ha4 => ?_⟩
      have ga4 := D0.free hw0 (D5.free hw ha4)
      have na4 : a4 ≠ wl := (D5.well.ne ha4).symm
      have S6 : Same G5 (upd G5 a4 (.tup [])) := same_new ha4
      have fa4 : (upd G5 a4 (.tup [])) a4 = some (.tup []) := upd_same
      have D6 := D5.trans (Dr.ofSame D5.well S6)
      have hlp := S6 _ _ hlp
      have fa1 := S6 _ _ fa1
      have fa2 := S6 _ _ fa2
      have fa3 := S6 _ _ fa3
      have OP := OP.same S6
      generalize upd G5 a4 (.tup []) = G6 at S6 fa4 D6 hlp fa1 fa2 fa3 OP 
      refine ⟨(by show 1 ≤ sizeLine; decide), fun a5 ha5 => ?_⟩
      have k4 := ne_of_none fa4 ha5
      have ga5 := D0.free hw0 (D6.free hw ha5)
      have na5 : a5 ≠ wl := (D6.well.ne ha5).symm
      have S7 : Same G6 (upd G6 a5 (.lst [.ref a4])) := same_new ha5
      have fa5 : (upd G6 a5 (.lst [.ref a4])) a5 = some (.lst [.ref a4]) := upd_same
      have D7 := D6.trans (Dr.ofSame D6.well S7)
      have hlp := S7 _ _ hlp
      have fa1 := S7 _ _ fa1
      have fa2 := S7 _ _ fa2
      have fa3 := S7 _ _ fa3
      have fa4 := S7 _ _ fa4
      have OP := OP.same S7
      generalize upd G6 a5 (.lst [.ref a4]) = G7 at S7 fa5 D7 hlp fa1 fa2 fa3 fa4 OP 
      refine ⟨(by show 0 ≤ sizeLine; decide), fun a6 ha6 => ?_⟩
      have ga6 := D0.free hw0 (D7.free hw ha6)
      have na6 : a6 ≠ wl := (D7.well.ne ha6).symm
      have S8 : Same G7 (upd G7 a6 (.lst [])) := same_new ha6
      have fa6 : (upd G7 a6 (.lst [])) a6 = some (.lst []) := upd_same
      have D8 := D7.trans (Dr.ofSame D7.well S8)
      have hlp := S8 _ _ hlp
      have fa1 := S8 _ _ fa1
      have fa2 := S8 _ _ fa2
      have fa3 := S8 _ _ fa3
      have fa4 := S8 _ _ fa4
      have fa5 := S8 _ _ fa5
      have OP := OP.same S8
      generalize upd G7 a6 (.lst []) = G8 at S8 fa6 D8 hlp fa1 fa2 fa3 fa4 fa5 OP 
      refine ⟨(by show 2 ≤ sizeLine; decide), fun a7 ha7 => ?_⟩
      have ga7 := D0.free hw0 (D8.free hw ha7)
      have na7 : a7 ≠ wl := (D8.well.ne ha7).symm
      have S9 : Same G8 (upd G8 a7 (.tup [.int 0, .ref a6])) := same_new ha7
      have fa7 : (upd G8 a7 (.tup [.int 0, .ref a6])) a7 = some (.tup [.int 0, .ref a6]) := upd_same
      have D9 := D8.trans (Dr.ofSame D8.well S9)
      have hlp := S9 _ _ hlp
      have fa1 := S9 _ _ fa1
      have fa2 := S9 _ _ fa2
      have fa3 := S9 _ _ fa3
      have fa4 := S9 _ _ fa4
      have fa5 := S9 _ _ fa5
      have fa6 := S9 _ _ fa6
      have OP := OP.same S9
      generalize upd G8 a7 (.tup [.int 0, .ref a6]) = G9 at S9 fa7 D9 hlp fa1 fa2 fa3 fa4 fa5 fa6 OP 
      refine ⟨(by show 2 ≤ sizeLine; decide), fun a8 ha8 => ?_⟩
      have k68 := ne_of_none fa6 ha8
      have ga8 := D0.free hw0 (D9.free hw ha8)
      have na8 : a8 ≠ wl := (D9.well.ne ha8).symm
      have S10 : Same G9 (upd G9 a8 (.lst [.ref a7, .int 1])) := same_new ha8
      have fa8 : (upd G9 a8 (.lst [.ref a7, .int 1])) a8 = some (.lst [.ref a7, .int 1]) := upd_same
      have D10 := D9.trans (Dr.ofSame D9.well S10)
      have hlp := S10 _ _ hlp
      have fa1 := S10 _ _ fa1
      have fa2 := S10 _ _ fa2
      have fa3 := S10 _ _ fa3
      have fa4 := S10 _ _ fa4
      have fa5 := S10 _ _ fa5
      have fa6 := S10 _ _ fa6
      have fa7 := S10 _ _ fa7
      have OP := OP.same S10
      generalize upd G9 a8 (.lst [.ref a7, .int 1]) = G10 at S10 fa8 D10 hlp fa1 fa2 fa3 fa4 fa5 fa6 fa7 OP 
      refine ⟨(by show 1 ≤ sizeLine; decide), fun a9 ha9 => ?_⟩
      have k69 := ne_of_none fa6 ha9
      have k89 := ne_of_none fa8 ha9
      have ga9 := D0.free hw0 (D10.free hw ha9)
      have na9 : a9 ≠ wl := (D10.well.ne ha9).symm
      have S11 : Same G10 (upd G10 a9 (.lst [.ref a8])) := same_new ha9
      have fa9 : (upd G10 a9 (.lst [.ref a8])) a9 = some (.lst [.ref a8]) := upd_same
      have D11 := D10.trans (Dr.ofSame D10.well S11)
      have hlp := S11 _ _ hlp
      have fa1 := S11 _ _ fa1
      have fa2 := S11 _ _ fa2
      have fa3 := S11 _ _ fa3
      have fa4 := S11 _ _ fa4
      have fa5 := S11 _ _ fa5
      have fa6 := S11 _ _ fa6
      have fa7 := S11 _ _ fa7
      have fa8 := S11 _ _ fa8
      have OP := OP.same S11
      generalize upd G10 a9 (.lst [.ref a8]) = G11 at S11 fa9 D11 hlp fa1 fa2 fa3 fa4 fa5 fa6 fa7 fa8 OP 
      refine ⟨(by show 8 ≤ sizeLine; decide), fun lz hlz => ?_⟩
      have glz := D0.free hw0 (D11.free hw hlz)
      have nlz : lz ≠ wl := (D11.well.ne hlz).symm
      have S12 : Same G11 (upd G11 lz (.lst [.non, .ref a1, .str "paper", .ref a2, .int 5, .ref a3, .ref a5, .ref a9])) := same_new hlz
      have flz : (upd G11 lz (.lst [.non, .ref a1, .str "paper", .ref a2, .int 5, .ref a3, .ref a5, .ref a9])) lz = some (.lst [.non, .ref a1, .str "paper", .ref a2, .int 5, .ref a3, .ref a5, .ref a9]) := upd_same
      have D12 := D11.trans (Dr.ofSame D11.well S12)
      have hlp := S12 _ _ hlp
      have fa1 := S12 _ _ fa1
      have fa2 := S12 _ _ fa2
      have fa3 := S12 _ _ fa3
      have fa4 := S12 _ _ fa4
      have fa5 := S12 _ _ fa5
      have fa6 := S12 _ _ fa6
      have fa7 := S12 _ _ fa7
      have fa8 := S12 _ _ fa8
      have fa9 := S12 _ _ fa9
      have OP := OP.same S12
      generalize upd G11 lz (.lst [.non, .ref a1, .str "paper", .ref a2, .int 5, .ref a3, .ref a5, .ref a9]) = G12 at S12 flz D12 hlp fa1 fa2 fa3 fa4 fa5 fa6 fa7 fa8 fa9 OP 
      refine ⟨_, rfl, wl, 8, rfl, by decide, by decide, D12.well, fun d8 G13 d80 d81 E13 => ?_⟩
      have D13 := D12.trans E13
      have hlp := E13.but _ _ nlp hlp
      have fa1 := E13.but _ _ na1 fa1
      have fa2 := E13.but _ _ na2 fa2
      have fa3 := E13.but _ _ na3 fa3
      have fa4 := E13.but _ _ na4 fa4
      have fa5 := E13.but _ _ na5 fa5
      have fa6 := E13.but _ _ na6 fa6
      have fa7 := E13.but _ _ na7 fa7
      have fa8 := E13.but _ _ na8 fa8
      have fa9 := E13.but _ _ na9 fa9
      have flz := E13.but _ _ nlz flz
      have OP := OP.dr D12.well E13
      obtain ⟨v, d, av, hv⟩ : ∃ v d, atI [V.non, .ref a1, .str "paper", .ref a2, .int 5, .ref a3, .ref a5, .ref a9] d8 = some v ∧ HdP K wl gs ws H0 G13 v d := by
        have f0 : ∀ {a : Addr} {o : HO}, G13 a = some o → True := fun _ => trivial
        rcases (by omega : d8 = 0 ∨ d8 = 1 ∨ d8 = 2 ∨ d8 = 3 ∨ d8 = 4 ∨ d8 = 5 ∨ d8 = 6 ∨ d8 = 7) with z | z | z | z | z | z | z | z <;> subst z
        · exact ⟨_, .none, rfl, .nl .non (Txt.non (k := 0) (b := 0) |>.g (by decide) (by decide)) rfl⟩
        · exact ⟨_, .dict [], rfl, .nl (.dic fa1) ⟨rfl, (by decide +kernel), (by decide +kernel), .inl rfl⟩ rfl⟩
        · exact ⟨_, .str "paper", rfl, .nl (.str _) ⟨(by decide +kernel), (by decide +kernel), (by decide +kernel), .inr (by decide +kernel)⟩ rfl⟩
        · exact ⟨_, .tuple (es.map entD), rfl, .nl (.tup (.inl (.inl fa2)) (DxAll.from2 (OP.more (Av' := (· ≠ wl)) (fun a ys _ k => k.1) fun a k => k).2)) sgt rfl⟩
        · exact ⟨_, .int 5, rfl, .nl (.int _) (Txt.int (k := 0) (b := 0) (by decide) (by decide) |>.g (by decide) (by decide)) rfl⟩
        · exact ⟨_, .list [.none], rfl, .ls (ga3) na3 fa3 (.one (fun a k => k.1) .non) (fun e he => by rw [List.mem_singleton.mp he]; exact ⟨.non, fun en z => by cases z⟩) (by show 1 ≤ 62; decide)⟩
        · exact ⟨_, .list [.tuple []], rfl, .ls (ga5) na5 fa5 (.one (fun a k => k.1) (.tup (.inl (.inl fa4)) .nil)) (fun e he => by rw [List.mem_singleton.mp he]; exact ⟨(Txt.tuple (ds := []) (k := 5) (b := 0) (n := 0) (by decide) (fun d hd => nomatch hd)).mono (by decide), fun en z => by cases z⟩) (by show 1 ≤ 62; decide)⟩
        · exact ⟨_, .list [.list [.tuple [.int 0, .list []], .int 1]], rfl, .ls (ga9) na9 fa9 (.one (fun a k => k.1) (.lst fa8 ⟨na8, k89⟩ (.cons (.tup (.inl (.inl fa7)) (.cons (.int _) (.cons (.lst fa6 ⟨na6, k69⟩ .nil) .nil))) (.cons (.int _) .nil)))) (fun e he => by rw [List.mem_singleton.mp he]; exact ⟨odd8, fun en z => by cases z⟩) (by show 1 ≤ 62; decide)⟩
      exact ⟨lz, _, d8, v, rfl, rfl, SqL.of flz, av, q _ _ _ D13 hv⟩
    have hne : es.map entD ≠ [] := fun z => enil (decide_eq_true z)
    refine ⟨_, rfl, rfl, _, rfl, ite2 (fun _ => ?_) (fun _ => ?_)⟩
    · intro a1 ha1
      have ga1 := D0.free hw0 (D2.free hw ha1)
      have na1 : a1 ≠ wl := (D2.well.ne ha1).symm
      have S3 : Same G2 (upd G2 a1 (.dK [])) := same_new ha1
      have fa1 : (upd G2 a1 (.dK [])) a1 = some (.dK []) := upd_same
      have D3 := D2.trans (Dr.ofSame D2.well S3)
      have hlp := S3 _ _ hlp
      have OP := OP.same S3
      generalize upd G2 a1 (.dK []) = G3 at S3 fa1 D3 hlp OP 
      refine ⟨_, rfl, lp, _, rfl, .inl ⟨SqL.of hlp, fun a2 ha2 => ?_⟩⟩
      have ga2 := D0.free hw0 (D3.free hw ha2)
      have na2 : a2 ≠ wl := (D3.well.ne ha2).symm
      have S4 : Same G3 (upd G3 a2 (.tup ev)) := same_new ha2
      have fa2 : (upd G3 a2 (.tup ev)) a2 = some (.tup ev) := upd_same
      have D4 := D3.trans (Dr.ofSame D3.well S4)
      have hlp := S4 _ _ hlp
      have fa1 := S4 _ _ fa1
      have OP := OP.same S4
      generalize upd G3 a2 (.tup ev) = G4 at S4 fa2 D4 hlp fa1 OP 
      refine ⟨(by show 1 ≤ sizeLine; decide), fun a3 ha3 => ?_⟩
      have ga3 := D0.free hw0 (D4.free hw ha3)
      have na3 : a3 ≠ wl := (D4.well.ne ha3).symm
      have S5 : Same G4 (upd G4 a3 (.lst [.non])) := same_new ha3
      have fa3 : (upd G4 a3 (.lst [.non])) a3 = some (.lst [.non]) := upd_same
      have D5 := D4.trans (Dr.ofSame D4.well S5)
      have hlp := S5 _ _ hlp
      have fa1 := S5 _ _ fa1
      have fa2 := S5 _ _ fa2
      have OP := OP.same S5
      generalize upd G4 a3 (.lst [.non]) = G5 at S5 fa3 D5 hlp fa1 fa2 OP 
      refine ⟨(by show 0 ≤ sizeLine; decide), fun a4 ha4 => ?_⟩
      have ga4 := D0.free hw0 (D5.free hw ha4)
      have na4 : a4 ≠ wl := (D5.well.ne ha4).symm
      have S6 : Same G5 (upd G5 a4 (.tup [])) := same_new ha4
      have fa4 : (upd G5 a4 (.tup [])) a4 = some (.tup []) := upd_same
      have D6 := D5.trans (Dr.ofSame D5.well S6)
      have hlp := S6 _ _ hlp
      have fa1 := S6 _ _ fa1
      have fa2 := S6 _ _ fa2
      have fa3 := S6 _ _ fa3
      have OP := OP.same S6
      generalize upd G5 a4 (.tup []) = G6 at S6 fa4 D6 hlp fa1 fa2 fa3 OP 
      refine ⟨(by show 1 ≤ sizeLine; decide), fun a5 ha5 => ?_⟩
      have k4 := ne_of_none fa4 ha5
      have ga5 := D0.free hw0 (D6.free hw ha5)
      have na5 : a5 ≠ wl := (D6.well.ne ha5).symm
      have S7 : Same G6 (upd G6 a5 (.lst [.ref a4])) := same_new ha5
      have fa5 : (upd G6 a5 (.lst [.ref a4])) a5 = some (.lst [.ref a4]) := upd_same
      have D7 := D6.trans (Dr.ofSame D6.well S7)
      have hlp := S7 _ _ hlp
      have fa1 := S7 _ _ fa1
      have fa2 := S7 _ _ fa2
      have fa3 := S7 _ _ fa3
      have fa4 := S7 _ _ fa4
      have OP := OP.same S7
      generalize upd G6 a5 (.lst [.ref a4]) = G7 at S7 fa5 D7 hlp fa1 fa2 fa3 fa4 OP 
      refine ⟨(by show 0 ≤ sizeLine; decide), fun a6 ha6 => ?_⟩
      have ga6 := D0.free hw0 (D7.free hw ha6)
      have na6 : a6 ≠ wl := (D7.well.ne ha6).symm
      have S8 : Same G7 (upd G7 a6 (.lst [])) := same_new ha6
      have fa6 : (upd G7 a6 (.lst [])) a6 = some (.lst []) := upd_same
      have D8 := D7.trans (Dr.ofSame D7.well S8)
      have hlp := S8 _ _ hlp
      have fa1 := S8 _ _ fa1
      have fa2 := S8 _ _ fa2
      have fa3 := S8 _ _ fa3
      have fa4 := S8 _ _ fa4
      have fa5 := S8 _ _ fa5
      have OP := OP.same S8
      generalize upd G7 a6 (.lst []) = G8 at S8 fa6 D8 hlp fa1 fa2 fa3 fa4 fa5 OP 
      refine ⟨(by show 2 ≤ sizeLine; decide), fun a7 ha7 => ?_⟩
      have ga7 := D0.free hw0 (D8.free hw ha7)
      have na7 : a7 ≠ wl := (D8.well.ne ha7).symm
      have S9 : Same G8 (upd G8 a7 (.tup [.int 0, .ref a6])) := same_new ha7
      have fa7 : (upd G8 a7 (.tup [.int 0, .ref a6])) a7 = some (.tup [.int 0, .ref a6]) := upd_same
      have D9 := D8.trans (Dr.ofSame D8.well S9)
      have hlp := S9 _ _ hlp
      have fa1 := S9 _ _ fa1
      have fa2 := S9 _ _ fa2
      have fa3 := S9 _ _ fa3
      have fa4 := S9 _ _ fa4
      have fa5 := S9 _ _ fa5
      have fa6 := S9 _ _ fa6
      have OP := OP.same S9
      generalize upd G8 a7 (.tup [.int 0, .ref a6]) = G9 at S9 fa7 D9 hlp fa1 fa2 fa3 fa4 fa5 fa6 OP 
      refine ⟨(by show 2 ≤ sizeLine; decide), fun a8 ha8 => ?_⟩
      have k68 := ne_of_none fa6 ha8
      have ga8 := D0.free hw0 (D9.free hw ha8)
      have na8 : a8 ≠ wl := (D9.well.ne ha8).symm
      have S10 : Same G9 (upd G9 a8 (.lst [.ref a7, .int 1])) := same_new ha8
      have fa8 : (upd G9 a8 (.lst [.ref a7, .int 1])) a8 = some (.lst [.ref a7, .int 1]) := upd_same
      have D10 := D9.trans (Dr.ofSame D9.well S10)
      have hlp := S10 _ _ hlp
      have fa1 := S10 _ _ fa1
      have fa2 := S10 _ _ fa2
      have fa3 := S10 _ _ fa3
      have fa4 := S10 _ _ fa4
      have fa5 := S10 _ _ fa5
      have fa6 := S10 _ _ fa6
      have fa7 := S10 _ _ fa7
      have OP := OP.same S10
      generalize upd G9 a8 (.lst [.ref a7, .int 1]) = G10 at S10 fa8 D10 hlp fa1 fa2 fa3 fa4 fa5 fa6 fa7 OP 
      refine ⟨(by show 1 ≤ sizeLine; decide), fun a9 ha9 => ?_⟩
      have k69 := ne_of_none fa6 ha9
      have k89 := ne_of_none fa8 ha9
      have ga9 := D0.free hw0 (D10.free hw ha9)
      have na9 : a9 ≠ wl := (D10.well.ne ha9).symm
      have S11 : Same G10 (upd G10 a9 (.lst [.ref a8])) := same_new ha9
      have fa9 : (upd G10 a9 (.lst [.ref a8])) a9 = some (.lst [.ref a8]) := upd_same
      have D11 := D10.trans (Dr.ofSame D10.well S11)
      have hlp := S11 _ _ hlp
      have fa1 := S11 _ _ fa1
      have fa2 := S11 _ _ fa2
      have fa3 := S11 _ _ fa3
      have fa4 := S11 _ _ fa4
      have fa5 := S11 _ _ fa5
      have fa6 := S11 _ _ fa6
      have fa7 := S11 _ _ fa7
      have fa8 := S11 _ _ fa8
      have OP := OP.same S11
      generalize upd G10 a9 (.lst [.ref a8]) = G11 at S11 fa9 D11 hlp fa1 fa2 fa3 fa4 fa5 fa6 fa7 fa8 OP 
      refine ⟨(by show 8 ≤ sizeLine; decide), fun lz hlz => ?_⟩
      have glz := D0.free hw0 (D11.free hw hlz)
      have nlz : lz ≠ wl := (D11.well.ne hlz).symm
      have S12 : Same G11 (upd G11 lz (.lst [.non, .ref a1, .str "paper", .ref a2, .int 5, .ref a3, .ref a5, .ref a9])) := same_new hlz
      have flz : (upd G11 lz (.lst [.non, .ref a1, .str "paper", .ref a2, .int 5, .ref a3, .ref a5, .ref a9])) lz = some (.lst [.non, .ref a1, .str "paper", .ref a2, .int 5, .ref a3, .ref a5, .ref a9]) := upd_same
      have D12 := D11.trans (Dr.ofSame D11.well S12)
      have hlp := S12 _ _ hlp
      have fa1 := S12 _ _ fa1
      have fa2 := S12 _ _ fa2
      have fa3 := S12 _ _ fa3
      have fa4 := S12 _ _ fa4
      have fa5 := S12 _ _ fa5
      have fa6 := S12 _ _ fa6
      have fa7 := S12 _ _ fa7
      have fa8 := S12 _ _ fa8
      have fa9 := S12 _ _ fa9
      have OP := OP.same S12
      generalize upd G11 lz (.lst [.non, .ref a1, .str "paper", .ref a2, .int 5, .ref a3, .ref a5, .ref a9]) = G12 at S12 flz D12 hlp fa1 fa2 fa3 fa4 fa5 fa6 fa7 fa8 fa9 OP 
      refine ⟨_, rfl, wl, 8, rfl, by decide, by decide, D12.well, fun d8 G13 d80 d81 E13 => ?_⟩
      have D13 := D12.trans E13
      have hlp := E13.but _ _ nlp hlp
      have fa1 := E13.but _ _ na1 fa1
      have fa2 := E13.but _ _ na2 fa2
      have fa3 := E13.but _ _ na3 fa3
      have fa4 := E13.but _ _ na4 fa4
      have fa5 := E13.but _ _ na5 fa5
      have fa6 := E13.but _ _ na6 fa6
      have fa7 := E13.but _ _ na7 fa7
      have fa8 := E13.but _ _ na8 fa8
      have fa9 := E13.but _ _ na9 fa9
      have flz := E13.but _ _ nlz flz
      have OP := OP.dr D12.well E13
      obtain ⟨v, d, av, hv⟩ : ∃ v d, atI [V.non, .ref a1, .str "paper", .ref a2, .int 5, .ref a3, .ref a5, .ref a9] d8 = some v ∧ HdP K wl gs ws H0 G13 v d := by
        have f0 : ∀ {a : Addr} {o : HO}, G13 a = some o → True := fun _ => trivial
        rcases (by omega : d8 = 0 ∨ d8 = 1 ∨ d8 = 2 ∨ d8 = 3 ∨ d8 = 4 ∨ d8 = 5 ∨ d8 = 6 ∨ d8 = 7) with z | z | z | z | z | z | z | z <;> subst z
        · exact ⟨_, .none, rfl, .nl .non (Txt.non (k := 0) (b := 0) |>.g (by decide) (by decide)) rfl⟩
        · exact ⟨_, .dict [], rfl, .nl (.dic fa1) ⟨rfl, (by decide +kernel), (by decide +kernel), .inl rfl⟩ rfl⟩
        · exact ⟨_, .str "paper", rfl, .nl (.str _) ⟨(by decide +kernel), (by decide +kernel), (by decide +kernel), .inr (by decide +kernel)⟩ rfl⟩
        · exact ⟨_, .tuple (es.map entD), rfl, .nl (.tup (.inl (.inl fa2)) (DxAll.from2 (OP.more (Av' := (· ≠ wl)) (fun a ys _ k => k.1) fun a k => k).2)) sgt rfl⟩
        · exact ⟨_, .int 5, rfl, .nl (.int _) (Txt.int (k := 0) (b := 0) (by decide) (by decide) |>.g (by decide) (by decide)) rfl⟩
        · exact ⟨_, .list [.none], rfl, .ls (ga3) na3 fa3 (.one (fun a k => k.1) .non) (fun e he => by rw [List.mem_singleton.mp he]; exact ⟨.non, fun en z => by cases z⟩) (by show 1 ≤ 62; decide)⟩
        · exact ⟨_, .list [.tuple []], rfl, .ls (ga5) na5 fa5 (.one (fun a k => k.1) (.tup (.inl (.inl fa4)) .nil)) (fun e he => by rw [List.mem_singleton.mp he]; exact ⟨(Txt.tuple (ds := []) (k := 5) (b := 0) (n := 0) (by decide) (fun d hd => nomatch hd)).mono (by decide), fun en z => by cases z⟩) (by show 1 ≤ 62; decide)⟩
        · exact ⟨_, .list [.list [.tuple [.int 0, .list []], .int 1]], rfl, .ls (ga9) na9 fa9 (.one (fun a k => k.1) (.lst fa8 ⟨na8, k89⟩ (.cons (.tup (.inl (.inl fa7)) (.cons (.int _) (.cons (.lst fa6 ⟨na6, k69⟩ .nil) .nil))) (.cons (.int _) .nil)))) (fun e he => by rw [List.mem_singleton.mp he]; exact ⟨odd8, fun en z => by cases z⟩) (by show 1 ≤ 62; decide)⟩
      exact ⟨lz, _, d8, v, rfl, rfl, SqL.of flz, av, q _ _ _ D13 hv⟩
    have hpos : 0 < ev.length := by rw [OP.len]; exact List.length_pos_iff.mpr hne
    have hxl2 : ev.length ≤ 60 := by rw [OP.len, List.length_map]; exact hes
    refine ⟨_, rfl, _, rfl, lp, ev, rfl, .inl (SqL.of hlp), wl, _, rfl, by omega, by omega, D2.well, fun dj G3 dj0 dj1 E3 => ?_⟩
    have D3 := D2.trans E3
    have hlp := E3.but _ _ nlp hlp
    have OP := OP.dr D2.well E3
    obtain ⟨j, rfl⟩ : ∃ j : Nat, dj = (j : Nat) := ⟨dj.toNat, by omega⟩
    refine gn_norm (σ' := [some (.ref wl), some (.ref lg), some (.ref lw), some (.ref lp), some (.int dw), some (.int (j : Nat)), none, none, none, none]) rfl ?_
    have hj : j < ev.length := by omega
    obtain ⟨e, ⟨hem, hje⟩, ve, hve, xe⟩ : ∃ e : Ent, (e ∈ es ∧ es[j]? = some e) ∧ ∃ ve, ev[j]? = some ve ∧ Dx K (fun b => b ≠ wl ∧ b ≠ lp) G3 ve (entD e) := by
      obtain ⟨d, hd, x⟩ := OP.2.get (List.getElem?_eq_getElem hj)
      rw [List.getElem?_map] at hd
      cases q : es[j]? with
      | none => rw [q] at hd; cases hd
      | some e =>
        rw [q] at hd
        cases hd
        exact ⟨e, ⟨List.mem_of_getElem? q, rfl⟩, _, List.getElem?_eq_getElem hj, x⟩
    obtain ⟨eok, e30', e900⟩ := eg e hem
    obtain ⟨pok, _, m1⟩ := eok
    obtain ⟨⟨g, qs⟩, m⟩ := e
    have hqs : qs.length ≤ 900 := e900
    have hqb := pce_lt N pok
    have hgb : g < gs.length := pok.1
    have hm30 : m ≤ 10 ^ 30 := e30'
    have hm1 : 1 ≤ m := m1
    obtain ⟨ae, tp, l, rfl, sqe, sqp, sl, nl, nlp1⟩ : ∃ ae tp l, ve = V.ref ae ∧ SqT K G3 ae [.ref tp, .int m] ∧ SqT K G3 tp [.int (g : Nat), .ref l] ∧ G3 l = some (.lst (nvs qs)) ∧ l ≠ wl ∧ l ≠ lp := by
      unfold entD pceD at xe
      cases xe with
      | @tup a xs _ s al =>
      cases al with
      | cons h1 al =>
      cases al with
      | cons h2 al =>
      cases al
      cases h2
      cases h1 with
      | @tup b ys _ s2 al2 =>
      cases al2 with
      | cons h3 al2 =>
      cases al2 with
      | cons h4 al2 =>
      cases al2
      cases h3
      cases h4 with
      | @lst l zs' _ s3 av al3 =>
      rw [dx_nats al3] at s3
      exact ⟨a, b, l, rfl, s, s2, s3, av.1, av.2⟩
    refine ⟨_, rfl, _, rfl, lp, _, j, .ref ae, rfl, rfl, SqL.of hlp, atI_nat hve, ae, _, rfl, sqe, rfl, _, _, rfl, tp, _, rfl, sqp, rfl, _, _, rfl, _, _, rfl, rfl, _, _, rfl, rfl, ?_⟩
    refine gn_norm (σ' := [some (.ref wl), some (.ref lg), some (.ref lw), some (.ref lp), some (.int dw), some (.int (j : Nat)), some (.int (g : Nat)), some (.ref l), some (.int m), none]) rfl ?_
    refine ⟨_, rfl, _, rfl, (by show 2 ≤ sizeLine; decide), fun c1 hc1 => ?_⟩
    have gc1 := D0.free hw0 (D3.free hw hc1)
    have nc1 : c1 ≠ wl := (D3.well.ne hc1).symm
    have S4 : Same G3 (upd G3 c1 (.tup [.int (g : Nat), .ref l])) := same_new hc1
    have fc1 : (upd G3 c1 (.tup [.int (g : Nat), .ref l])) c1 = some (.tup [.int (g : Nat), .ref l]) := upd_same
    have D4 := D3.trans (Dr.ofSame D3.well S4)
    have hlp := S4 _ _ hlp
    have sl := S4 _ _ sl
    have OP := OP.same S4
    generalize upd G3 c1 (.tup [.int (g : Nat), .ref l]) = G4 at S4 fc1 D4 hlp sl OP 
    refine ⟨_, rfl, _, _, rfl, rfl, (by show 2 ≤ sizeLine; decide), fun b1 hb1 => ?_⟩
    have gb1 := D0.free hw0 (D4.free hw hb1)
    have nb1 : b1 ≠ wl := (D4.well.ne hb1).symm
    have S5 : Same G4 (upd G4 b1 (.tup [.ref c1, .int (m + 1)])) := same_new hb1
    have fb1 : (upd G4 b1 (.tup [.ref c1, .int (m + 1)])) b1 = some (.tup [.ref c1, .int (m + 1)]) := upd_same
    have D5 := D4.trans (Dr.ofSame D4.well S5)
    have hlp := S5 _ _ hlp
    have sl := S5 _ _ sl
    have fc1 := S5 _ _ fc1
    have OP := OP.same S5
    generalize upd G4 b1 (.tup [.ref c1, .int (m + 1)]) = G5 at S5 fb1 D5 hlp sl fc1 OP 
    have OX := OG.one (K := K) (H := G5) (v := .ref b1) (d := .tuple [.tuple [.int (g : Nat), .list (qs.map fun p => .int (p : Nat))], .int (m + 1)]) (fun b (k : (fun b => b ≠ wl ∧ b ≠ lp) b) => k.1) (.tup (.inl (.inl fb1)) (.cons (.tup (.inl (.inl fc1)) (.cons (.int _) (.cons (.lst sl ⟨nl, nlp1⟩ (dx_natsX qs)) .nil))) (.cons (.int _) .nil)))
    refine ⟨_, rfl, _, rfl, (by show 2 ≤ sizeLine; decide), fun c2 hc2 => ?_⟩
    have gc2 := D0.free hw0 (D5.free hw hc2)
    have nc2 : c2 ≠ wl := (D5.well.ne hc2).symm
    have S6 : Same G5 (upd G5 c2 (.tup [.int (g : Nat), .ref l])) := same_new hc2
    have fc2 : (upd G5 c2 (.tup [.int (g : Nat), .ref l])) c2 = some (.tup [.int (g : Nat), .ref l]) := upd_same
    have D6 := D5.trans (Dr.ofSame D5.well S6)
    have hlp := S6 _ _ hlp
    have sl := S6 _ _ sl
    have OP := OP.same S6
    have OX := OX.same S6
    generalize upd G5 c2 (.tup [.int (g : Nat), .ref l]) = G6 at S6 fc2 D6 hlp sl OP OX 
    refine ⟨_, rfl, _, _, rfl, rfl, (by show 2 ≤ sizeLine; decide), fun b2 hb2 => ?_⟩
    have gb2 := D0.free hw0 (D6.free hw hb2)
    have nb2 : b2 ≠ wl := (D6.well.ne hb2).symm
    have S7 : Same G6 (upd G6 b2 (.tup [.ref c2, .int (m - 1)])) := same_new hb2
    have fb2 : (upd G6 b2 (.tup [.ref c2, .int (m - 1)])) b2 = some (.tup [.ref c2, .int (m - 1)]) := upd_same
    have D7 := D6.trans (Dr.ofSame D6.well S7)
    have hlp := S7 _ _ hlp
    have sl := S7 _ _ sl
    have fc2 := S7 _ _ fc2
    have OP := OP.same S7
    have OX := OX.same S7
    generalize upd G6 b2 (.tup [.ref c2, .int (m - 1)]) = G7 at S7 fb2 D7 hlp sl fc2 OP OX 
    have OX := OX.app (OG.one (K := K) (H := G7) (v := .ref b2) (d := .tuple [.tuple [.int (g : Nat), .list (qs.map fun p => .int (p : Nat))], .int (m - 1)]) (fun b (k : (fun b => b ≠ wl ∧ b ≠ lp) b) => k.1) (.tup (.inl (.inl fb2)) (.cons (.tup (.inl (.inl fc2)) (.cons (.int _) (.cons (.lst sl ⟨nl, nlp1⟩ (dx_natsX qs)) .nil))) (.cons (.int _) .nil))))
    refine ⟨_, rfl, _, rfl, (by show 2 ≤ sizeLine; decide), fun c3 hc3 => ?_⟩
    have gc3 := D0.free hw0 (D7.free hw hc3)
    have nc3 : c3 ≠ wl := (D7.well.ne hc3).symm
    have S8 : Same G7 (upd G7 c3 (.tup [.int (g : Nat), .ref l])) := same_new hc3
    have fc3 : (upd G7 c3 (.tup [.int (g : Nat), .ref l])) c3 = some (.tup [.int (g : Nat), .ref l]) := upd_same
    have D8 := D7.trans (Dr.ofSame D7.well S8)
    have hlp := S8 _ _ hlp
    have sl := S8 _ _ sl
    have OP := OP.same S8
    have OX := OX.same S8
    generalize upd G7 c3 (.tup [.int (g : Nat), .ref l]) = G8 at S8 fc3 D8 hlp sl OP OX 
    refine ⟨(by show 2 ≤ sizeLine; decide), fun b3 hb3 => ?_⟩
    have gb3 := D0.free hw0 (D8.free hw hb3)
    have nb3 : b3 ≠ wl := (D8.well.ne hb3).symm
    have S9 : Same G8 (upd G8 b3 (.tup [.ref c3, .int 0])) := same_new hb3
    have fb3 : (upd G8 b3 (.tup [.ref c3, .int 0])) b3 = some (.tup [.ref c3, .int 0]) := upd_same
    have D9 := D8.trans (Dr.ofSame D8.well S9)
    have hlp := S9 _ _ hlp
    have sl := S9 _ _ sl
    have fc3 := S9 _ _ fc3
    have OP := OP.same S9
    have OX := OX.same S9
    generalize upd G8 b3 (.tup [.ref c3, .int 0]) = G9 at S9 fb3 D9 hlp sl fc3 OP OX 
    have OX := OX.app (OG.one (K := K) (H := G9) (v := .ref b3) (d := .tuple [.tuple [.int (g : Nat), .list (qs.map fun p => .int (p : Nat))], .int 0]) (fun b (k : (fun b => b ≠ wl ∧ b ≠ lp) b) => k.1) (.tup (.inl (.inl fb3)) (.cons (.tup (.inl (.inl fc3)) (.cons (.int _) (.cons (.lst sl ⟨nl, nlp1⟩ (dx_natsX qs)) .nil))) (.cons (.int _) .nil))))
    refine ⟨_, rfl, _, rfl, (by show 2 ≤ sizeLine; decide), fun c4 hc4 => ?_⟩
    have gc4 := D0.free hw0 (D9.free hw hc4)
    have nc4 : c4 ≠ wl := (D9.well.ne hc4).symm
    have S10 : Same G9 (upd G9 c4 (.tup [.int (g : Nat), .ref l])) := same_new hc4
    have fc4 : (upd G9 c4 (.tup [.int (g : Nat), .ref l])) c4 = some (.tup [.int (g : Nat), .ref l]) := upd_same
    have D10 := D9.trans (Dr.ofSame D9.well S10)
    have hlp := S10 _ _ hlp
    have sl := S10 _ _ sl
    have OP := OP.same S10
    have OX := OX.same S10
    generalize upd G9 c4 (.tup [.int (g : Nat), .ref l]) = G10 at S10 fc4 D10 hlp sl OP OX 
    refine ⟨(by show 2 ≤ sizeLine; decide), fun b4 hb4 => ?_⟩
    have gb4 := D0.free hw0 (D10.free hw hb4)
    have nb4 : b4 ≠ wl := (D10.well.ne hb4).symm
    have S11 : Same G10 (upd G10 b4 (.tup [.ref c4, .bl true])) := same_new hb4
    have fb4 : (upd G10 b4 (.tup [.ref c4, .bl true])) b4 = some (.tup [.ref c4, .bl true]) := upd_same
    have D11 := D10.trans (Dr.ofSame D10.well S11)
    have hlp := S11 _ _ hlp
    have sl := S11 _ _ sl
    have fc4 := S11 _ _ fc4
    have OP := OP.same S11
    have OX := OX.same S11
    generalize upd G10 b4 (.tup [.ref c4, .bl true]) = G11 at S11 fb4 D11 hlp sl fc4 OP OX 
    have OX := OX.app (OG.one (K := K) (H := G11) (v := .ref b4) (d := .tuple [.tuple [.int (g : Nat), .list (qs.map fun p => .int (p : Nat))], .bool true]) (fun b (k : (fun b => b ≠ wl ∧ b ≠ lp) b) => k.1) (.tup (.inl (.inl fb4)) (.cons (.tup (.inl (.inl fc4)) (.cons (.int _) (.cons (.lst sl ⟨nl, nlp1⟩ (dx_natsX qs)) .nil))) (.cons (.bl _) .nil))))
    refine ⟨(by show 4 ≤ sizeLine; decide), fun l4 hl4 => ?_⟩
    have gl4 := D0.free hw0 (D11.free hw hl4)
    have nl4 : l4 ≠ wl := (D11.well.ne hl4).symm
    have S12 : Same G11 (upd G11 l4 (.lst [.ref b1, .ref b2, .ref b3, .ref b4])) := same_new hl4
    have fl4 : (upd G11 l4 (.lst [.ref b1, .ref b2, .ref b3, .ref b4])) l4 = some (.lst [.ref b1, .ref b2, .ref b3, .ref b4]) := upd_same
    have D12 := D11.trans (Dr.ofSame D11.well S12)
    have hlp := S12 _ _ hlp
    have sl := S12 _ _ sl
    have OP := OP.same S12
    have OX := OX.same S12
    generalize upd G11 l4 (.lst [.ref b1, .ref b2, .ref b3, .ref b4]) = G12 at S12 fl4 D12 hlp sl OP OX 
    refine gn_norm (σ' := [some (.ref wl), some (.ref lg), some (.ref lw), some (.ref lp), some (.int dw), some (.int (j : Nat)), some (.int (g : Nat)), some (.ref l), some (.int m), some (.ref l4)]) rfl ?_
    refine ⟨_, rfl, _, rfl, _, rfl, _, rfl, l, _, rfl, SqL.of sl, fun s1 hs1 => ?_⟩
    obtain ⟨qc, ec, sc, hqcb⟩ : ∃ qc : List Nat, cutV (nvs qs) (some 1) none = nvs qc ∧ qc.length ≤ 900 ∧ ∀ q ∈ qc, q ≤ 5000 := ⟨qs.drop 1, by rw [show (some (1 : Int)) = some (((1 : Nat)) : Int) from rfl, cut_from]; unfold nvs; rw [List.map_drop], by rw [List.length_drop]; omega, fun q hq => hqb q (List.mem_of_mem_drop hq)⟩
    rw [ec]
    have ks1p : s1 ≠ lp := (ne_of_none hlp hs1).symm
    have gs1 := D0.free hw0 (D12.free hw hs1)
    have ns1 : s1 ≠ wl := (D12.well.ne hs1).symm
    have S13 : Same G12 (upd G12 s1 (.lst (nvs qc))) := same_new hs1
    have fs1 : (upd G12 s1 (.lst (nvs qc))) s1 = some (.lst (nvs qc)) := upd_same
    have D13 := D12.trans (Dr.ofSame D12.well S13)
    have hlp := S13 _ _ hlp
    have sl := S13 _ _ sl
    have fl4 := S13 _ _ fl4
    have OP := OP.same S13
    have OX := OX.same S13
    generalize upd G12 s1 (.lst (nvs qc)) = G13 at S13 fs1 D13 hlp sl fl4 OP OX 
    refine ⟨(by show 2 ≤ sizeLine; decide), fun c5 hc5 => ?_⟩
    have gc5 := D0.free hw0 (D13.free hw hc5)
    have nc5 : c5 ≠ wl := (D13.well.ne hc5).symm
    have S14 : Same G13 (upd G13 c5 (.tup [.int (g : Nat), .ref s1])) := same_new hc5
    have fc5 : (upd G13 c5 (.tup [.int (g : Nat), .ref s1])) c5 = some (.tup [.int (g : Nat), .ref s1]) := upd_same
    have D14 := D13.trans (Dr.ofSame D13.well S14)
    have hlp := S14 _ _ hlp
    have sl := S14 _ _ sl
    have fl4 := S14 _ _ fl4
    have fs1 := S14 _ _ fs1
    have OP := OP.same S14
    have OX := OX.same S14
    generalize upd G13 c5 (.tup [.int (g : Nat), .ref s1]) = G14 at S14 fc5 D14 hlp sl fl4 fs1 OP OX 
    refine ⟨_, rfl, (by show 2 ≤ sizeLine; decide), fun b5 hb5 => ?_⟩
    have gb5 := D0.free hw0 (D14.free hw hb5)
    have nb5 : b5 ≠ wl := (D14.well.ne hb5).symm
    have S15 : Same G14 (upd G14 b5 (.tup [.ref c5, .int m])) := same_new hb5
    have fb5 : (upd G14 b5 (.tup [.ref c5, .int m])) b5 = some (.tup [.ref c5, .int m]) := upd_same
    have D15 := D14.trans (Dr.ofSame D14.well S15)
    have hlp := S15 _ _ hlp
    have sl := S15 _ _ sl
    have fl4 := S15 _ _ fl4
    have fs1 := S15 _ _ fs1
    have fc5 := S15 _ _ fc5
    have OP := OP.same S15
    have OX := OX.same S15
    generalize upd G14 b5 (.tup [.ref c5, .int m]) = G15 at S15 fb5 D15 hlp sl fl4 fs1 fc5 OP OX 
    have OX := OX.app (OG.one (K := K) (H := G15) (v := .ref b5) (d := .tuple [.tuple [.int (g : Nat), .list (qc.map fun p => .int (p : Nat))], .int m]) (fun b (k : (fun b => b ≠ wl ∧ b ≠ lp) b) => k.1) (.tup (.inl (.inl fb5)) (.cons (.tup (.inl (.inl fc5)) (.cons (.int _) (.cons (.lst fs1 ⟨ns1, ks1p⟩ (dx_natsX qc)) .nil))) (.cons (.int _) .nil))))
    refine ⟨_, rfl, _, rfl, _, rfl, (by show 1 ≤ sizeLine; decide), fun s2 hs2 => ?_⟩
    have gs2 := D0.free hw0 (D15.free hw hs2)
    have ns2 : s2 ≠ wl := (D15.well.ne hs2).symm
    have S16 : Same G15 (upd G15 s2 (.lst [.int (j : Nat)])) := same_new hs2
    have fs2 : (upd G15 s2 (.lst [.int (j : Nat)])) s2 = some (.lst [.int (j : Nat)]) := upd_same
    have D16 := D15.trans (Dr.ofSame D15.well S16)
    have hlp := S16 _ _ hlp
    have sl := S16 _ _ sl
    have fl4 := S16 _ _ fl4
    have OP := OP.same S16
    have OX := OX.same S16
    generalize upd G15 s2 (.lst [.int (j : Nat)]) = G16 at S16 fs2 D16 hlp sl fl4 OP OX 
    refine ⟨l, s2, _, _, rfl, rfl, sl, fs2, Nat.le_of_lt (small1000 (by rw [nvs_len]; show _ + 1 ≤ _; omega)), fun s3 hs3 => ?_⟩
    rw [show nvs qs ++ [V.int (j : Nat)] = nvs (qs ++ [j]) by unfold nvs; rw [List.map_append]; rfl]
    have ks3p : s3 ≠ lp := (ne_of_none hlp hs3).symm
    have gs3 := D0.free hw0 (D16.free hw hs3)
    have ns3 : s3 ≠ wl := (D16.well.ne hs3).symm
    have S17 : Same G16 (upd G16 s3 (.lst (nvs (qs ++ [j])))) := same_new hs3
    have fs3 : (upd G16 s3 (.lst (nvs (qs ++ [j])))) s3 = some (.lst (nvs (qs ++ [j]))) := upd_same
    have D17 := D16.trans (Dr.ofSame D16.well S17)
    have hlp := S17 _ _ hlp
    have sl := S17 _ _ sl
    have fl4 := S17 _ _ fl4
    have fs2 := S17 _ _ fs2
    have OP := OP.same S17
    have OX := OX.same S17
    generalize upd G16 s3 (.lst (nvs (qs ++ [j]))) = G17 at S17 fs3 D17 hlp sl fl4 fs2 OP OX 
    refine ⟨(by show 2 ≤ sizeLine; decide), fun c6 hc6 => ?_⟩
    have gc6 := D0.free hw0 (D17.free hw hc6)
    have nc6 : c6 ≠ wl := (D17.well.ne hc6).symm
    have S18 : Same G17 (upd G17 c6 (.tup [.int (g : Nat), .ref s3])) := same_new hc6
    have fc6 : (upd G17 c6 (.tup [.int (g : Nat), .ref s3])) c6 = some (.tup [.int (g : Nat), .ref s3]) := upd_same
    have D18 := D17.trans (Dr.ofSame D17.well S18)
    have hlp := S18 _ _ hlp
    have sl := S18 _ _ sl
    have fl4 := S18 _ _ fl4
    have fs3 := S18 _ _ fs3
    have OP := OP.same S18
    have OX := OX.same S18
    generalize upd G17 c6 (.tup [.int (g : Nat), .ref s3]) = G18 at S18 fc6 D18 hlp sl fl4 fs3 OP OX 
    refine ⟨_, rfl, (by show 2 ≤ sizeLine; decide), fun b6 hb6 => ?_⟩
    have gb6 := D0.free hw0 (D18.free hw hb6)
    have nb6 : b6 ≠ wl := (D18.well.ne hb6).symm
    have S19 : Same G18 (upd G18 b6 (.tup [.ref c6, .int m])) := same_new hb6
    have fb6 : (upd G18 b6 (.tup [.ref c6, .int m])) b6 = some (.tup [.ref c6, .int m]) := upd_same
    have D19 := D18.trans (Dr.ofSame D18.well S19)
    have hlp := S19 _ _ hlp
    have sl := S19 _ _ sl
    have fl4 := S19 _ _ fl4
    have fs3 := S19 _ _ fs3
    have fc6 := S19 _ _ fc6
    have OP := OP.same S19
    have OX := OX.same S19
    generalize upd G18 b6 (.tup [.ref c6, .int m]) = G19 at S19 fb6 D19 hlp sl fl4 fs3 fc6 OP OX 
    have OX := OX.app (OG.one (K := K) (H := G19) (v := .ref b6) (d := .tuple [.tuple [.int (g : Nat), .list ((qs ++ [j]).map fun p => .int (p : Nat))], .int m]) (fun b (k : (fun b => b ≠ wl ∧ b ≠ lp) b) => k.1) (.tup (.inl (.inl fb6)) (.cons (.tup (.inl (.inl fc6)) (.cons (.int _) (.cons (.lst fs3 ⟨ns3, ks3p⟩ (dx_natsX (qs ++ [j]))) .nil))) (.cons (.int _) .nil))))
    refine ⟨_, rfl, _, rfl, l, _, rfl, .inl ⟨SqL.of sl, fun s4 hs4 => ?_⟩⟩
    have gs4 := D0.free hw0 (D19.free hw hs4)
    have ns4 : s4 ≠ wl := (D19.well.ne hs4).symm
    have S20 : Same G19 (upd G19 s4 (.tup (nvs qs))) := same_new hs4
    have fs4 : (upd G19 s4 (.tup (nvs qs))) s4 = some (.tup (nvs qs)) := upd_same
    have D20 := D19.trans (Dr.ofSame D19.well S20)
    have hlp := S20 _ _ hlp
    have sl := S20 _ _ sl
    have fl4 := S20 _ _ fl4
    have OP := OP.same S20
    have OX := OX.same S20
    generalize upd G19 s4 (.tup (nvs qs)) = G20 at S20 fs4 D20 hlp sl fl4 OP OX 
    refine ⟨(by show 2 ≤ sizeLine; decide), fun c7 hc7 => ?_⟩
    have gc7 := D0.free hw0 (D20.free hw hc7)
    have nc7 : c7 ≠ wl := (D20.well.ne hc7).symm
    have S21 : Same G20 (upd G20 c7 (.tup [.int (g : Nat), .ref s4])) := same_new hc7
    have fc7 : (upd G20 c7 (.tup [.int (g : Nat), .ref s4])) c7 = some (.tup [.int (g : Nat), .ref s4]) := upd_same
    have D21 := D20.trans (Dr.ofSame D20.well S21)
    have hlp := S21 _ _ hlp
    have sl := S21 _ _ sl
    have fl4 := S21 _ _ fl4
    have fs4 := S21 _ _ fs4
    have OP := OP.same S21
    have OX := OX.same S21
    generalize upd G20 c7 (.tup [.int (g : Nat), .ref s4]) = G21 at S21 fc7 D21 hlp sl fl4 fs4 OP OX 
    refine ⟨_, rfl, (by show 2 ≤ sizeLine; decide), fun b7 hb7 => ?_⟩
    have gb7 := D0.free hw0 (D21.free hw hb7)
    have nb7 : b7 ≠ wl := (D21.well.ne hb7).symm
    have S22 : Same G21 (upd G21 b7 (.tup [.ref c7, .int m])) := same_new hb7
    have fb7 : (upd G21 b7 (.tup [.ref c7, .int m])) b7 = some (.tup [.ref c7, .int m]) := upd_same
    have D22 := D21.trans (Dr.ofSame D21.well S22)
    have hlp := S22 _ _ hlp
    have sl := S22 _ _ sl
    have fl4 := S22 _ _ fl4
    have fs4 := S22 _ _ fs4
    have fc7 := S22 _ _ fc7
    have OP := OP.same S22
    have OX := OX.same S22
    generalize upd G21 b7 (.tup [.ref c7, .int m]) = G22 at S22 fb7 D22 hlp sl fl4 fs4 fc7 OP OX 
    have OX := OX.app (OG.one (K := K) (H := G22) (v := .ref b7) (d := .tuple [.tuple [.int (g : Nat), .tuple (qs.map fun p => .int (p : Nat))], .int m]) (fun b (k : (fun b => b ≠ wl ∧ b ≠ lp) b) => k.1) (.tup (.inl (.inl fb7)) (.cons (.tup (.inl (.inl fc7)) (.cons (.int _) (.cons (.tup (.inl (.inl fs4)) (dx_natsX qs)) .nil))) (.cons (.int _) .nil))))
    refine ⟨(by show 3 ≤ sizeLine; decide), fun l5 hl5 => ?_⟩
    have gl5 := D0.free hw0 (D22.free hw hl5)
    have nl5 : l5 ≠ wl := (D22.well.ne hl5).symm
    have S23 : Same G22 (upd G22 l5 (.lst [.ref b5, .ref b6, .ref b7])) := same_new hl5
    have fl5 : (upd G22 l5 (.lst [.ref b5, .ref b6, .ref b7])) l5 = some (.lst [.ref b5, .ref b6, .ref b7]) := upd_same
    have D23 := D22.trans (Dr.ofSame D22.well S23)
    have hlp := S23 _ _ hlp
    have sl := S23 _ _ sl
    have fl4 := S23 _ _ fl4
    have OP := OP.same S23
    have OX := OX.same S23
    generalize upd G22 l5 (.lst [.ref b5, .ref b6, .ref b7]) = G23 at S23 fl5 D23 hlp sl fl4 OP OX 
    refine ⟨l4, l5, _, _, rfl, rfl, fl4, fl5, (by show 7 ≤ sizeLine; decide), fun l6 hl6 => ?_⟩
    have gl6 := D0.free hw0 (D23.free hw hl6)
    have nl6 : l6 ≠ wl := (D23.well.ne hl6).symm
    have S24 : Same G23 (upd G23 l6 (.lst ([.ref b1, .ref b2, .ref b3, .ref b4] ++ [.ref b5, .ref b6, .ref b7]))) := same_new hl6
    have fl6 : (upd G23 l6 (.lst ([.ref b1, .ref b2, .ref b3, .ref b4] ++ [.ref b5, .ref b6, .ref b7]))) l6 = some (.lst ([.ref b1, .ref b2, .ref b3, .ref b4] ++ [.ref b5, .ref b6, .ref b7])) := upd_same
    have D24 := D23.trans (Dr.ofSame D23.well S24)
    have hlp := S24 _ _ hlp
    have sl := S24 _ _ sl
    have fl4 := S24 _ _ fl4
    have fl5 := S24 _ _ fl5
    have OP := OP.same S24
    have OX := OX.same S24
    generalize upd G23 l6 (.lst ([.ref b1, .ref b2, .ref b3, .ref b4] ++ [.ref b5, .ref b6, .ref b7])) = G24 at S24 fl6 D24 hlp sl fl4 fl5 OP OX 
    refine gn_norm (σ' := [some (.ref wl), some (.ref lg), some (.ref lw), some (.ref lp), some (.int dw), some (.int (j : Nat)), some (.int (g : Nat)), some (.ref l), some (.int m), some (.ref l6)]) rfl ?_
    obtain ⟨gv, hgv, ga⟩ := G.dr nlg hw D24
    have hgl : gv.length = gs.length := ga.1
    refine ⟨_, rfl, _, rfl, _, rfl, lg, gv, rfl, .inl (SqL.of hgv), wl, _, rfl, by omega, by omega, D24.well, fun dg G25 dg0 dg1 E25 => ?_⟩
    have D25 := D24.trans E25
    have hlp := E25.but _ _ nlp hlp
    have sl := E25.but _ _ nl sl
    have fl6 := E25.but _ _ nl6 fl6
    have OP := OP.dr D24.well E25
    have OX := OX.dr D24.well E25
    refine ⟨_, rfl, (by show 2 ≤ sizeLine; decide), fun c8 hc8 => ?_⟩
    have gc8 := D0.free hw0 (D25.free hw hc8)
    have nc8 : c8 ≠ wl := (D25.well.ne hc8).symm
    have S26 : Same G25 (upd G25 c8 (.tup [.int dg, .ref l])) := same_new hc8
    have fc8 : (upd G25 c8 (.tup [.int dg, .ref l])) c8 = some (.tup [.int dg, .ref l]) := upd_same
    have D26 := D25.trans (Dr.ofSame D25.well S26)
    have hlp := S26 _ _ hlp
    have sl := S26 _ _ sl
    have fl6 := S26 _ _ fl6
    have OP := OP.same S26
    have OX := OX.same S26
    generalize upd G25 c8 (.tup [.int dg, .ref l]) = G26 at S26 fc8 D26 hlp sl fl6 OP OX 
    refine ⟨_, rfl, (by show 2 ≤ sizeLine; decide), fun b8 hb8 => ?_⟩
    have gb8 := D0.free hw0 (D26.free hw hb8)
    have nb8 : b8 ≠ wl := (D26.well.ne hb8).symm
    have S27 : Same G26 (upd G26 b8 (.tup [.ref c8, .int m])) := same_new hb8
    have fb8 : (upd G26 b8 (.tup [.ref c8, .int m])) b8 = some (.tup [.ref c8, .int m]) := upd_same
    have D27 := D26.trans (Dr.ofSame D26.well S27)
    have hlp := S27 _ _ hlp
    have sl := S27 _ _ sl
    have fl6 := S27 _ _ fl6
    have fc8 := S27 _ _ fc8
    have OP := OP.same S27
    have OX := OX.same S27
    generalize upd G26 b8 (.tup [.ref c8, .int m]) = G27 at S27 fb8 D27 hlp sl fl6 fc8 OP OX 
    have OX := OX.app (OG.one (K := K) (H := G27) (v := .ref b8) (d := .tuple [.tuple [.int dg, .list (qs.map fun p => .int (p : Nat))], .int m]) (fun b (k : (fun b => b ≠ wl ∧ b ≠ lp) b) => k.1) (.tup (.inl (.inl fb8)) (.cons (.tup (.inl (.inl fc8)) (.cons (.int _) (.cons (.lst sl ⟨nl, nlp1⟩ (dx_natsX qs)) .nil))) (.cons (.int _) .nil))))
    refine ⟨_, rfl, _, rfl, (by show 2 ≤ sizeLine; decide), fun c9 hc9 => ?_⟩
    have gc9 := D0.free hw0 (D27.free hw hc9)
    have nc9 : c9 ≠ wl := (D27.well.ne hc9).symm
    have S28 : Same G27 (upd G27 c9 (.tup [.int (g : Nat), .ref l])) := same_new hc9
    have fc9 : (upd G27 c9 (.tup [.int (g : Nat), .ref l])) c9 = some (.tup [.int (g : Nat), .ref l]) := upd_same
    have D28 := D27.trans (Dr.ofSame D27.well S28)
    have hlp := S28 _ _ hlp
    have sl := S28 _ _ sl
    have fl6 := S28 _ _ fl6
    have OP := OP.same S28
    have OX := OX.same S28
    generalize upd G27 c9 (.tup [.int (g : Nat), .ref l]) = G28 at S28 fc9 D28 hlp sl fl6 OP OX 
    refine ⟨_, rfl, (by show 3 ≤ sizeLine; decide), fun b9 hb9 => ?_⟩
    have gb9 := D0.free hw0 (D28.free hw hb9)
    have nb9 : b9 ≠ wl := (D28.well.ne hb9).symm
    have S29 : Same G28 (upd G28 b9 (.tup [.ref c9, .int m, .int 0])) := same_new hb9
    have fb9 : (upd G28 b9 (.tup [.ref c9, .int m, .int 0])) b9 = some (.tup [.ref c9, .int m, .int 0]) := upd_same
    have D29 := D28.trans (Dr.ofSame D28.well S29)
    have hlp := S29 _ _ hlp
    have sl := S29 _ _ sl
    have fl6 := S29 _ _ fl6
    have fc9 := S29 _ _ fc9
    have OP := OP.same S29
    have OX := OX.same S29
    generalize upd G28 b9 (.tup [.ref c9, .int m, .int 0]) = G29 at S29 fb9 D29 hlp sl fl6 fc9 OP OX 
    have OX := OX.app (OG.one (K := K) (H := G29) (v := .ref b9) (d := .tuple [.tuple [.int (g : Nat), .list (qs.map fun p => .int (p : Nat))], .int m, .int 0]) (fun b (k : (fun b => b ≠ wl ∧ b ≠ lp) b) => k.1) (.tup (.inl (.inl fb9)) (.cons (.tup (.inl (.inl fc9)) (.cons (.int _) (.cons (.lst sl ⟨nl, nlp1⟩ (dx_natsX qs)) .nil))) (.cons (.int _) (.cons (.int _) .nil)))))
    refine ⟨(by show 2 ≤ sizeLine; decide), fun l7 hl7 => ?_⟩
    have gl7 := D0.free hw0 (D29.free hw hl7)
    have nl7 : l7 ≠ wl := (D29.well.ne hl7).symm
    have S30 : Same G29 (upd G29 l7 (.lst [.ref b8, .ref b9])) := same_new hl7
    have fl7 : (upd G29 l7 (.lst [.ref b8, .ref b9])) l7 = some (.lst [.ref b8, .ref b9]) := upd_same
    have D30 := D29.trans (Dr.ofSame D29.well S30)
    have hlp := S30 _ _ hlp
    have sl := S30 _ _ sl
    have fl6 := S30 _ _ fl6
    have OP := OP.same S30
    have OX := OX.same S30
    generalize upd G29 l7 (.lst [.ref b8, .ref b9]) = G30 at S30 fl7 D30 hlp sl fl6 OP OX 
    refine ⟨l6, l7, _, _, rfl, rfl, fl6, fl7, (by show 9 ≤ sizeLine; decide), fun l8 hl8 => ?_⟩
    have gl8 := D0.free hw0 (D30.free hw hl8)
    have nl8 : l8 ≠ wl := (D30.well.ne hl8).symm
    have S31 : Same G30 (upd G30 l8 (.lst (([.ref b1, .ref b2, .ref b3, .ref b4] ++ [.ref b5, .ref b6, .ref b7]) ++ [.ref b8, .ref b9]))) := same_new hl8
    have fl8 : (upd G30 l8 (.lst (([.ref b1, .ref b2, .ref b3, .ref b4] ++ [.ref b5, .ref b6, .ref b7]) ++ [.ref b8, .ref b9]))) l8 = some (.lst (([.ref b1, .ref b2, .ref b3, .ref b4] ++ [.ref b5, .ref b6, .ref b7]) ++ [.ref b8, .ref b9])) := upd_same
    have D31 := D30.trans (Dr.ofSame D30.well S31)
    have hlp := S31 _ _ hlp
    have sl := S31 _ _ sl
    have fl6 := S31 _ _ fl6
    have fl7 := S31 _ _ fl7
    have OP := OP.same S31
    have OX := OX.same S31
    generalize upd G30 l8 (.lst (([.ref b1, .ref b2, .ref b3, .ref b4] ++ [.ref b5, .ref b6, .ref b7]) ++ [.ref b8, .ref b9])) = G31 at S31 fl8 D31 hlp sl fl6 fl7 OP OX 
    refine gn_norm (σ' := [some (.ref wl), some (.ref lg), some (.ref lw), some (.ref lp), some (.int dw), some (.int (j : Nat)), some (.int (g : Nat)), some (.ref l), some (.int m), some (.ref l8)]) rfl ?_
    have hxl := OP.len
    have fin : ∀ {Hz : Hp} {c : Addr} {us : List V} {ds : List PyData}, Dr wl H Hz → OG K wl (fun b => b ≠ wl ∧ b ≠ lp) Hz us ds → Hz c = none → (∀ e ∈ ds, EntT gs ws e) → ds.length ≤ 62 → Q (.ref c) (upd Hz c (.lst us)) := fun dz oz hc hm hl => q _ _ _ (dz.trans (Dr.new dz.well hc)) (.ls (D0.free hw0 (dz.free hw hc)) ((dz.well.ne hc).symm) upd_same ((oz.fresh hc).more (fun a ys _ k => ⟨k.1.1, k.2⟩) fun a k => k.1) hm hl)
    have mes : ∀ e ∈ es.map entD, EntT gs ws e := entT_all N eg
    have mt : ∀ {n : Nat}, ∀ e ∈ (es.map entD).take n, EntT gs ws e := fun e he => mes e (List.mem_of_mem_take he)
    have md : ∀ {n : Nat}, ∀ e ∈ (es.map entD).drop n, EntT gs ws e := fun e he => mes e (List.mem_of_mem_drop he)
    have hel : (es.map entD).length ≤ 60 := by rw [List.length_map]; exact hes
    refine ⟨_, rfl, rfl, _, rfl, ite2 (fun _ => ?_) (fun _ => ?_)⟩
    · refine ⟨_, rfl, _, rfl, _, rfl, lp, ev, rfl, SqL.of hlp, fun t1 ht1 => ?_⟩
      rw [cut_to]
      have gt1 := D0.free hw0 (D31.free hw ht1)
      have nt1 : t1 ≠ wl := (D31.well.ne ht1).symm
      have S32 : Same G31 (upd G31 t1 (.lst (ev.take j))) := same_new ht1
      have ft1 : (upd G31 t1 (.lst (ev.take j))) t1 = some (.lst (ev.take j)) := upd_same
      have D32 := D31.trans (Dr.ofSame D31.well S32)
      have hlp := S32 _ _ hlp
      have sl := S32 _ _ sl
      have fl8 := S32 _ _ fl8
      have OP := OP.same S32
      have OX := OX.same S32
      generalize upd G31 t1 (.lst (ev.take j)) = G32 at S32 ft1 D32 hlp sl fl8 OP OX 
      refine ⟨_, rfl, _, rfl, _, _, rfl, rfl, _, rfl, lp, ev, rfl, SqL.of hlp, fun t2 ht2 => ?_⟩
      rw [show ((j : Nat) : Int) + 1 = ((j + 1 : Nat) : Int) from rfl, cut_from]
      have gt2 := D0.free hw0 (D32.free hw ht2)
      have nt2 : t2 ≠ wl := (D32.well.ne ht2).symm
      have S33 : Same G32 (upd G32 t2 (.lst (ev.drop (j + 1)))) := same_new ht2
      have ft2 : (upd G32 t2 (.lst (ev.drop (j + 1)))) t2 = some (.lst (ev.drop (j + 1))) := upd_same
      have D33 := D32.trans (Dr.ofSame D32.well S33)
      have hlp := S33 _ _ hlp
      have sl := S33 _ _ sl
      have fl8 := S33 _ _ fl8
      have ft1 := S33 _ _ ft1
      have OP := OP.same S33
      have OX := OX.same S33
      generalize upd G32 t2 (.lst (ev.drop (j + 1))) = G33 at S33 ft2 D33 hlp sl fl8 ft1 OP OX 
      refine ⟨t1, t2, _, _, rfl, rfl, ft1, ft2, Nat.le_of_lt (small1000 (by simp only [List.length_append, List.length_take, List.length_drop, List.length_cons, List.length_nil]; omega)), fun t3 ht3 => ?_⟩
      exact fin D33 ((OP.take j).app (OP.drop (j + 1))) ht3 (fun e he => (List.mem_append.mp he).elim (mt e) (md e)) (by simp only [List.length_append, List.length_take, List.length_drop, List.length_cons, List.length_nil]; omega)
    refine ⟨_, rfl, rfl, _, rfl, ite2 (fun _ => ?_) (fun _ => ?_)⟩
    · refine ⟨_, rfl, _, rfl, _, rfl, lp, ev, rfl, SqL.of hlp, fun t1 ht1 => ?_⟩
      rw [cut_to]
      have gt1 := D0.free hw0 (D31.free hw ht1)
      have nt1 : t1 ≠ wl := (D31.well.ne ht1).symm
      have S32 : Same G31 (upd G31 t1 (.lst (ev.take j))) := same_new ht1
      have ft1 : (upd G31 t1 (.lst (ev.take j))) t1 = some (.lst (ev.take j)) := upd_same
      have D32 := D31.trans (Dr.ofSame D31.well S32)
      have hlp := S32 _ _ hlp
      have sl := S32 _ _ sl
      have fl8 := S32 _ _ fl8
      have OP := OP.same S32
      have OX := OX.same S32
      generalize upd G31 t1 (.lst (ev.take j)) = G32 at S32 ft1 D32 hlp sl fl8 OP OX 
      refine ⟨_, rfl, _, rfl, lp, _, j, .ref ae, rfl, rfl, SqL.of hlp, atI_nat hve, (by show 1 ≤ sizeLine; decide), fun t2 ht2 => ?_⟩
      have gt2 := D0.free hw0 (D32.free hw ht2)
      have nt2 : t2 ≠ wl := (D32.well.ne ht2).symm
      have S33 : Same G32 (upd G32 t2 (.lst [.ref ae])) := same_new ht2
      have ft2 : (upd G32 t2 (.lst [.ref ae])) t2 = some (.lst [.ref ae]) := upd_same
      have D33 := D32.trans (Dr.ofSame D32.well S33)
      have hlp := S33 _ _ hlp
      have sl := S33 _ _ sl
      have fl8 := S33 _ _ fl8
      have ft1 := S33 _ _ ft1
      have OP := OP.same S33
      have OX := OX.same S33
      generalize upd G32 t2 (.lst [.ref ae]) = G33 at S33 ft2 D33 hlp sl fl8 ft1 OP OX 
      refine ⟨t1, t2, _, _, rfl, rfl, ft1, ft2, Nat.le_of_lt (small1000 (by simp only [List.length_append, List.length_take, List.length_drop, List.length_cons, List.length_nil]; omega)), fun t3 ht3 => ?_⟩
      have gt3 := D0.free hw0 (D33.free hw ht3)
      have nt3 : t3 ≠ wl := (D33.well.ne ht3).symm
      have S34 : Same G33 (upd G33 t3 (.lst (ev.take j ++ [.ref ae]))) := same_new ht3
      have ft3 : (upd G33 t3 (.lst (ev.take j ++ [.ref ae]))) t3 = some (.lst (ev.take j ++ [.ref ae])) := upd_same
      have D34 := D33.trans (Dr.ofSame D33.well S34)
      have hlp := S34 _ _ hlp
      have sl := S34 _ _ sl
      have fl8 := S34 _ _ fl8
      have ft1 := S34 _ _ ft1
      have ft2 := S34 _ _ ft2
      have OP := OP.same S34
      have OX := OX.same S34
      generalize upd G33 t3 (.lst (ev.take j ++ [.ref ae])) = G34 at S34 ft3 D34 hlp sl fl8 ft1 ft2 OP OX 
      refine ⟨_, rfl, _, rfl, _, rfl, lp, ev, rfl, SqL.of hlp, fun t4 ht4 => ?_⟩
      rw [cut_from]
      have gt4 := D0.free hw0 (D34.free hw ht4)
      have nt4 : t4 ≠ wl := (D34.well.ne ht4).symm
      have S35 : Same G34 (upd G34 t4 (.lst (ev.drop j))) := same_new ht4
      have ft4 : (upd G34 t4 (.lst (ev.drop j))) t4 = some (.lst (ev.drop j)) := upd_same
      have D35 := D34.trans (Dr.ofSame D34.well S35)
      have hlp := S35 _ _ hlp
      have sl := S35 _ _ sl
      have fl8 := S35 _ _ fl8
      have ft1 := S35 _ _ ft1
      have ft2 := S35 _ _ ft2
      have ft3 := S35 _ _ ft3
      have OP := OP.same S35
      have OX := OX.same S35
      generalize upd G34 t4 (.lst (ev.drop j)) = G35 at S35 ft4 D35 hlp sl fl8 ft1 ft2 ft3 OP OX 
      refine ⟨t3, t4, _, _, rfl, rfl, ft3, ft4, Nat.le_of_lt (small1000 (by simp only [List.length_append, List.length_take, List.length_drop, List.length_cons, List.length_nil]; omega)), fun t5 ht5 => ?_⟩
      have OE : OG K wl (fun b => b ≠ wl ∧ b ≠ lp) G35 [V.ref ae] [entD ((g, qs), m)] := by
        obtain ⟨d, hd, x⟩ := OP.2.get hve
        obtain ⟨v2, hv2, x2⟩ := OP.2.getR (List.getElem?_map .. ▸ (by rw [hje]; rfl : (es[j]?).map entD = some (entD ((g, qs), m))))
        rw [hve] at hv2
        cases hv2
        exact .one (fun a k => k.1) x2
      exact fin D35 (((OP.take j).app OE).app (OP.drop j)) ht5 (fun e he => (List.mem_append.mp he).elim (fun h => (List.mem_append.mp h).elim (mt e) fun h => by rw [List.mem_singleton.mp h]; exact entT_of N pok hqs hm1 hm30) (md e)) (by simp only [List.length_append, List.length_take, List.length_drop, List.length_cons, List.length_nil]; omega)
    refine ⟨_, rfl, _, rfl, _, rfl, lp, ev, rfl, SqL.of hlp, fun t1 ht1 => ?_⟩
    rw [cut_to]
    have gt1 := D0.free hw0 (D31.free hw ht1)
    have nt1 : t1 ≠ wl := (D31.well.ne ht1).symm
    have S32 : Same G31 (upd G31 t1 (.lst (ev.take j))) := same_new ht1
    have ft1 : (upd G31 t1 (.lst (ev.take j))) t1 = some (.lst (ev.take j)) := upd_same
    have D32 := D31.trans (Dr.ofSame D31.well S32)
    have hlp := S32 _ _ hlp
    have sl := S32 _ _ sl
    have fl8 := S32 _ _ fl8
    have OP := OP.same S32
    have OX := OX.same S32
    generalize upd G31 t1 (.lst (ev.take j)) = G32 at S32 ft1 D32 hlp sl fl8 OP OX 
    refine ⟨_, rfl, _, rfl, wl, 9, rfl, by decide, by decide, D32.well, fun d9 G33 d90 d91 E33 => ?_⟩
    have D33 := D32.trans E33
    have hlp := E33.but _ _ nlp hlp
    have sl := E33.but _ _ nl sl
    have fl8 := E33.but _ _ nl8 fl8
    have ft1 := E33.but _ _ nt1 ft1
    have OP := OP.dr D32.well E33
    have OX := OX.dr D32.well E33
    obtain ⟨i9, rfl⟩ : ∃ i9 : Nat, d9 = (i9 : Nat) := ⟨d9.toNat, by omega⟩
    obtain ⟨ov, od, hov, xov, sov⟩ : ∃ ov od, (([V.ref b1, V.ref b2, V.ref b3, V.ref b4] ++ [V.ref b5, V.ref b6, V.ref b7]) ++ [V.ref b8, V.ref b9])[i9]? = some ov ∧ Dx K (fun b => b ≠ wl ∧ b ≠ lp) G33 ov od ∧ EntT gs ws od := by
      have hj9 : i9 < (([V.ref b1, V.ref b2, V.ref b3, V.ref b4] ++ [V.ref b5, V.ref b6, V.ref b7]) ++ [V.ref b8, V.ref b9]).length := by show i9 < 9; omega
      obtain ⟨d, hd, x⟩ := OX.2.get (show ([V.ref b1] ++ [V.ref b2] ++ [V.ref b3] ++ [V.ref b4] ++ [V.ref b5] ++ [V.ref b6] ++ [V.ref b7] ++ [V.ref b8] ++ [V.ref b9])[i9]? = some _ from List.getElem?_eq_getElem hj9)
      refine ⟨_, d, List.getElem?_eq_getElem hj9, x, ?_⟩
      exact odd_ent (g := g) (qs := qs) (qc := qc) (j := j) (m := m) (dg := dg) hqs hqb sc hqcb (Nat.le_trans (Nat.le_of_lt hj) hxl2) (Nat.le_trans (Nat.le_of_lt hgb) hgl0) dg0 (Int.le_trans (Int.le_of_lt dg1) (by rw [hgl]; exact Int.ofNat_le.mpr hgl0)) hm1 hm30 (List.mem_of_getElem? hd)
    have OV : OG K wl (fun b => b ≠ wl ∧ b ≠ lp) G33 [ov] [od] := .one (fun a k => k.1) xov
    refine ⟨l8, _, i9, ov, rfl, rfl, SqL.of fl8, atI_nat hov, (by show 1 ≤ sizeLine; decide), fun t2 ht2 => ?_⟩
    have gt2 := D0.free hw0 (D33.free hw ht2)
    have nt2 : t2 ≠ wl := (D33.well.ne ht2).symm
    have S34 : Same G33 (upd G33 t2 (.lst [ov])) := same_new ht2
    have ft2 : (upd G33 t2 (.lst [ov])) t2 = some (.lst [ov]) := upd_same
    have D34 := D33.trans (Dr.ofSame D33.well S34)
    have hlp := S34 _ _ hlp
    have sl := S34 _ _ sl
    have fl8 := S34 _ _ fl8
    have ft1 := S34 _ _ ft1
    have OP := OP.same S34
    have OX := OX.same S34
    have OV := OV.same S34
    generalize upd G33 t2 (.lst [ov]) = G34 at S34 ft2 D34 hlp sl fl8 ft1 OP OX OV 
    refine ⟨t1, t2, _, _, rfl, rfl, ft1, ft2, Nat.le_of_lt (small1000 (by simp only [List.length_append, List.length_take, List.length_drop, List.length_cons, List.length_nil]; omega)), fun t3 ht3 => ?_⟩
    have gt3 := D0.free hw0 (D34.free hw ht3)
    have nt3 : t3 ≠ wl := (D34.well.ne ht3).symm
    have S35 : Same G34 (upd G34 t3 (.lst (ev.take j ++ [ov]))) := same_new ht3
    have ft3 : (upd G34 t3 (.lst (ev.take j ++ [ov]))) t3 = some (.lst (ev.take j ++ [ov])) := upd_same
    have D35 := D34.trans (Dr.ofSame D34.well S35)
    have hlp := S35 _ _ hlp
    have sl := S35 _ _ sl
    have fl8 := S35 _ _ fl8
    have ft1 := S35 _ _ ft1
    have ft2 := S35 _ _ ft2
    have OP := OP.same S35
    have OX := OX.same S35
    have OV := OV.same S35
    generalize upd G34 t3 (.lst (ev.take j ++ [ov])) = G35 at S35 ft3 D35 hlp sl fl8 ft1 ft2 OP OX OV 
    refine ⟨_, rfl, _, rfl, _, _, rfl, rfl, _, rfl, lp, ev, rfl, SqL.of hlp, fun t4 ht4 => ?_⟩
    rw [show ((j : Nat) : Int) + 1 = ((j + 1 : Nat) : Int) from rfl, cut_from]
    have gt4 := D0.free hw0 (D35.free hw ht4)
    have nt4 : t4 ≠ wl := (D35.well.ne ht4).symm
    have S36 : Same G35 (upd G35 t4 (.lst (ev.drop (j + 1)))) := same_new ht4
    have ft4 : (upd G35 t4 (.lst (ev.drop (j + 1)))) t4 = some (.lst (ev.drop (j + 1))) := upd_same
    have D36 := D35.trans (Dr.ofSame D35.well S36)
    have hlp := S36 _ _ hlp
    have sl := S36 _ _ sl
    have fl8 := S36 _ _ fl8
    have ft1 := S36 _ _ ft1
    have ft2 := S36 _ _ ft2
    have ft3 := S36 _ _ ft3
    have OP := OP.same S36
    have OX := OX.same S36
    have OV := OV.same S36
    generalize upd G35 t4 (.lst (ev.drop (j + 1))) = G36 at S36 ft4 D36 hlp sl fl8 ft1 ft2 ft3 OP OX OV 
    refine ⟨t3, t4, _, _, rfl, rfl, ft3, ft4, Nat.le_of_lt (small1000 (by simp only [List.length_append, List.length_take, List.length_drop, List.length_cons, List.length_nil]; omega)), fun t5 ht5 => ?_⟩
    exact fin D36 (((OP.take j).app OV).app (OP.drop (j + 1))) ht5 (fun e he => (List.mem_append.mp he).elim (fun h => (List.mem_append.mp h).elim (mt e) fun h => by rw [List.mem_singleton.mp h]; exact sov) (md e)) (by simp only [List.length_append, List.length_take, List.length_drop, List.length_cons, List.length_nil]; omega)
end
end Lag

set_option maxRecDepth 100000
set_option maxHeartbeats 4000000
/-! ### try with several except clauses, each with a name or without -/
namespace L2
open PySem PySem.Spec PyProof.Rows
/-- a clause: the class that it names, the slot of its own name, what its suite does -/
structure Cl where
  c : Value
  i : Option Nat
  ts : Addr → Value → Option Addr → TS
/-- behind the suite the clause's own name is gone -/
def Cl.ends (k : Cl) (D : Ends) : Ends := match k.i with
  | none => D
  | some i => ⟨fun s h => D.nx (s.set i none) h, D.rt, fun s h => D.bk (s.set i none) h, fun s h => D.ct (s.set i none) h⟩
def Cl.in_ (k : Cl) (a : Addr) (σ : St) : St := match k.i with
  | none => σ
  | some i => σ.set i (some (.ref a))
def wCls (K : PySem.W.Frag) (Wo : WX) (D : Ends) : List Cl → WX
  | [] => Wo
  | k :: l => fun cls d σ H => ∃ b : Bool, PySem.W.exmOne K cls k.c = some b ∧ (b = true → ∀ a, H a = none → k.ts a cls d (k.ends D) (k.in_ a σ) H) ∧ (b = false → wCls K Wo D l cls d σ H)
inductive ClsOk (X : Cx) : List ExceptHandler → List Cl → Prop
  | nil : ClsOk X [] []
  | bare {x : Str} {c : Value} {ts : Addr → Value → Option Addr → TS} {b1 : Stmt} {ss : List Stmt} {p1 p2 : Pos} {hs : List ExceptHandler} {l : List Cl} (hc : Names X x c)
      (su : ∀ (a : Addr) (oe : Obj) (cls : Value) (d : Option Addr) (pn : List (Addr × Obj)), Zc cls d oe → (∃ vs, oe.data = .fields vs) → PSs (X.suite a ((a, oe) :: pn)) (b1 :: ss) (ts a cls d)) (r : ClsOk X hs l) :
      ClsOk X (.ExceptHandler (some (.Name x p1)) none (b1 :: ss) p2 :: hs) (⟨c, none, ts⟩ :: l)
  | named {x n : Str} {c : Value} {i : Nat} {ts : Addr → Value → Option Addr → TS} {b1 : Stmt} {ss : List Stmt} {p1 p2 : Pos} {hs : List ExceptHandler} {l : List Cl} (hi : X.N[i]? = some n) (hl : X.env.kindOf n = some .local) (hc : Names X x c)
      (su : ∀ (a : Addr) (oe : Obj) (cls : Value) (d : Option Addr) (pn : List (Addr × Obj)), Zc cls d oe → (∃ vs, oe.data = .fields vs) → PSs (X.suite a ((a, oe) :: pn)) (b1 :: ss) (ts a cls d)) (r : ClsOk X hs l) :
      ClsOk X (.ExceptHandler (some (.Name x p1)) (some n) (b1 :: ss) p2 :: hs) (⟨c, some i, ts⟩ :: l)
section
variable {X : Cx} {body : List Stmt} {h0 : ExceptHandler} {hs : List ExceptHandler} {l : List Cl} {pos : Pos} {tb : WX → TS} {Wo : WX}
theorem ps_try_cls (hst : X.stack = X.env :: X.outer) (hfr : X.env.frame = some X.env.locals) (hN : X.N.Nodup) (tk : Takes X Wo)
    (hb : ∀ (W : WX) (pn : List (Addr × Obj)) (xe : Value → Shared → Prop), Takes (X.tr pn xe) W → PassesOwn (model X.prog X.w) X.A X.env xe → PSs (X.tr pn xe) body (tb W))
    (hh : ClsOk X (h0 :: hs) l) : PS X (.Try body (h0 :: hs) [] [] pos) (fun D σ H => tb (wCls X.K Wo D l) D σ H) := by
  constructor
  intro pins s σ H D I h
  have ok := I.ok
  have frs0 : X.A.frames = some (X.env :: X.outer) := hst ▸ ok.frames
  refine wpAny_Try_except (wpAny_mono ((hb (wCls X.K Wo D l) (X.pn ++ pins)
    (fun e t1 => wpAny (model X.prog X.w) X.A (noteFrame e X.env)
      (fun _ t2 => wpAny (model X.prog X.w) X.A (setFlight e none)
        (fun _ t3 => wpAny (model X.prog X.w) X.A (handleBy e X.env (h0 :: hs)) (SP X pins D) X.xe t3) X.xe t2) X.xe t1)
    ?_ PassesOwn.looking).run [] s σ H D (I.toTry _) h) ?_ fun e t1 he => he)
  · intro u t xx
    have goal : wpAny (model X.prog X.w) X.A (noteFrame u X.env) (fun _ t2 => wpAny (model X.prog X.w) X.A (setFlight u none) (fun _ t3 => wpAny (model X.prog X.w) X.A (handleBy u X.env (h0 :: hs)) (SP X pins D) X.xe t3) X.xe t2) X.xe t := by
      obtain ⟨a, B, sI, pins', σ', H', cls, d, rfl, J0, nb, up, sky0, na, os, ag, w⟩ := xx
      have J : Inv X pins σ' H' sI := J0.ofTry ok
      have sky : Sky B (X.env :: X.outer) a (Zc cls d) X.env.locals t.heap := hst ▸ sky0
      refine Sky.land Zc.steady frs0 hfr sky fun h3 fl3 up3 => ?_
      have J3 : Inv X pins σ' H' { t with heap := h3 } := J.landed nb fl3.1 (up.trans up3) os ag
      obtain ⟨oe, vs, he, hz, hd⟩ := fl3.there
      have off : a ∉ frs (X.env :: X.outer) := fun hm => by
        obtain ⟨_, o', e', no⟩ := fl3.2.2.1.mem hm
        rw [he] at e'
        cases e'
        exact no _ hd
      have offL : a ≠ X.env.locals := fun z => off (List.mem_filterMap.mpr ⟨X.env, by simp, by rw [hfr, z]⟩)
      have offF : a ∉ X.fs := fun hm => by
        obtain ⟨e, hm2, q⟩ := List.mem_filterMap.mp hm
        exact off (List.mem_filterMap.mpr ⟨e, List.mem_cons_of_mem _ hm2, q⟩)
      have S3 := J3.suite he hd na offL offF
      -- is it of the class that is named
      suffices go : ∀ {hs' : List ExceptHandler} {l' : List Cl}, ClsOk X hs' l' → wCls X.K Wo D l' cls d σ' H' → wpAny (model X.prog X.w) X.A (handleBy (.ref a) X.env hs') (SP X pins D) X.xe { t with heap := h3 } from go hh w
      have typ : PySem.W.Looks (model X.prog X.w) h3 (typeOf (.ref a)) cls := by
        intro A Q E s k q
        exact wpAny_typeOf_ref (k _ _ he) (by rw [hz.1]; exact q)
      have nm : ∀ {x : Str} {c : Value} {p1 : Pos} {Q E : Value → Shared → Prop}, Names X x c → Q c { t with heap := h3 } → wpAny (model X.prog X.w) (X.A.mark (some (.ref a))) (eval (.Name x p1) X.env) Q E { t with heap := h3 } := by
        intro x c p1 Q E hc q
        rcases hc with ⟨g1, g2, g3 | ⟨g3, g4, g5⟩⟩
        · exact ld_glob (X := X.suite a ((a, oe) :: (X.pn ++ pins))) S3 g1 g3 q g2
        · exact ld_blt (X := X.suite a ((a, oe) :: (X.pn ++ pins))) S3 g1 g3 g4 q g5 g2
      intro hs' l' ck
      induction ck with
      | nil =>
        intro w
        apply wpAny_handleBy_nil
        obtain ⟨_, _, _, ob, us, T, oT, ts', g1, _, g3, g4, _⟩ := id fl3
        unfold PySem.passOn
        refine wpAny_bind (wpAny_field g1 g3 g4 ?_)
        have nn : ¬ ((Value.ref T == Value.none) = true) := by simp
        rw [if_neg nn]
        have out : wpAny (model X.prog X.w) X.A (setFlight (.ref a) X.env.frame) (fun _ t4 => wpAny (model X.prog X.w) X.A (throw (.ref a) : Sem Flow) (SP X pins D) X.xe t4) X.xe { t with heap := h3 } := by
          rw [hfr]
          refine HandSPX.setFlight_upZ fl3 fun h4 hh4 up4 => wpAny_throw (tk _ _ ?_)
          exact ⟨a, B, sI, pins, σ', H', cls, d, rfl, J, nb, (up.trans up3).trans up4, .inr (.inr (hst ▸ hh4)), na, os, ag, w⟩
        first
          | exact wpAny_bind (wpAny_pure (wpAny_bind out))
          | exact wpAny_bind out
      | bare hc su r ih =>
        rintro ⟨b, eb, yes, no⟩
        refine wpAny_handleBy_cons (codeAny_handlers_test (nm hc ((PySem.W.exm_one (M := model X.prog X.w) J3.kIn typ eb).here ?_))) (fun q => by cases q)
        cases b
        · exact ih (no rfl)
        · refine codeAny_handlers_suite (HandSPX.lands_againZ fl3 fun h4 fl4 up4 => ?_)
          have J4 : Inv X pins σ' H' { t with heap := h4 } := J.landed nb fl4.1 ((up.trans up3).trans up4) os ag
          obtain ⟨o4, v4, he4, hz4, hd4⟩ := fl4.there
          have S4 := J4.suite he4 hd4 na offL offF
          refine wpAny_mono ((su a o4 cls d (X.pn ++ pins) hz4 ⟨_, hd4⟩).run [] _ _ H' _ S4 (yes rfl a na)) (fun f t6 hp => ?_) (fun _ _ z => False.elim z)
          cases f
          case next => exact ⟨_, _, hp.choose_spec.choose_spec.1.unsuite ok, hp.choose_spec.choose_spec.2⟩
          case brk => exact ⟨_, _, hp.choose_spec.choose_spec.1.unsuite ok, hp.choose_spec.choose_spec.2⟩
          case cont => exact ⟨_, _, hp.choose_spec.choose_spec.1.unsuite ok, hp.choose_spec.choose_spec.2⟩
          case ret u =>
            obtain ⟨v6, σ6, H6, S6, r6, q6⟩ := hp
            exact ⟨v6, σ6, H6, S6.unsuite ok, r6, q6⟩
      | @named x n c i ts b1 ss p1 p2 hs2 l2 hi hl hc su r ih =>
        rintro ⟨b, eb, yes, no⟩
        refine wpAny_handleBy_cons (codeAny_handlers_test (nm hc ((PySem.W.exm_one (M := model X.prog X.w) J3.kIn typ eb).here ?_))) (fun q => by cases q)
        cases b
        · exact ih (no rfl)
        · refine codeAny_handlers_suite_as (HandSPX.lands_againZ fl3 fun h4 fl4 up4 => ?_)
          have J4 : Inv X pins σ' H' { t with heap := h4 } := J.landed nb fl4.1 ((up.trans up3).trans up4) os ag
          obtain ⟨o4, v4, he4, hz4, hd4⟩ := fl4.there
          have S4 := J4.suite he4 hd4 na offL offF
          refine store_ok (X := X.suite a ((a, o4) :: (X.pn ++ pins))) (v := .ref a) S4 hN hi (.inl hl) rfl (fun t5 S5 => ?_) (.inr hl)
          refine wpAny_mono ((su a o4 cls d (X.pn ++ pins) hz4 ⟨_, hd4⟩).run [] t5 _ H' _ S5 (yes rfl a na)) (fun f t6 hp => ?_) (fun _ _ z => False.elim z)
          have gone : ∀ {σ6 : St} {H6 : Hp} {Q : Shared → Prop}, Inv (X.suite a ((a, o4) :: (X.pn ++ pins))) [] σ6 H6 t6 → (∀ t7, Inv X pins (σ6.set i none) H6 t7 → Q t7) →
              wpAny (model X.prog X.w) X.A (do bindName X.env n .none; unbindBehindTheSuite X.env n p2) (fun _ t7 => Q t7) X.xe t6 := by
            intro σ6 H6 Q S6 hq
            exact gone_ok (S6.unsuite ok) hN hi hl hq
          cases f
          case next =>
            obtain ⟨σ6, H6, S6, q6⟩ := hp
            exact gone S6 fun t7 J7 => ⟨_, _, J7, q6⟩
          case brk =>
            obtain ⟨σ6, H6, S6, q6⟩ := hp
            exact gone S6 fun t7 J7 => ⟨_, _, J7, q6⟩
          case cont =>
            obtain ⟨σ6, H6, S6, q6⟩ := hp
            exact gone S6 fun t7 J7 => ⟨_, _, J7, q6⟩
          case ret u =>
            obtain ⟨v6, σ6, H6, S6, r6, q6⟩ := hp
            exact gone S6 fun t7 J7 => ⟨_, _, _, J7, r6, q6⟩
    exact goal
  · intro f t1 hp
    cases f
    case next =>
      obtain ⟨σ', H', J', q⟩ := hp
      exact wpAny_execs_nil ⟨σ', H', J'.ofTry ok, q⟩
    case brk =>
      obtain ⟨σ', H', J', q⟩ := hp
      exact ⟨σ', H', J'.ofTry ok, q⟩
    case cont =>
      obtain ⟨σ', H', J', q⟩ := hp
      exact ⟨σ', H', J'.ofTry ok, q⟩
    case ret u =>
      obtain ⟨v, σ', H', J', r, q⟩ := hp
      exact ⟨v, σ', H', J'.ofTry ok, r, q⟩
end
end L2


set_option maxRecDepth 100000
set_option maxHeartbeats 4000000
/-! ### isinstance of a caught error that has fields of its own, and of several classes at once -/
namespace PySem.W
open PySem PySem.Spec PySem.Calls PyProof.Rows
section
variable {prog : Program} {w : World} {A : Around} {E : Value → Shared → Prop} {s : Shared} {K : Frag} {x D : Addr} {ox : Obj} {od : Option Obj}
theorem cls_found {D : Addr} {a g : Value} {n : Str} (hd : hasDictIn K D = true) (h1 : findIn K (.ref D) n = some (some a)) (h2 : specialIn K a "__get__" = some (some g)) (h3 : takesIn K a = some true) : findObj K D od n = some (.bind g a) := by
  obtain ⟨cd, hc, _⟩ := any_some hd
  unfold findObj
  rw [hc, Option.bind_some, h1, Option.bind_some]
  simp [h2, h3]
theorem cls_of_exc {Q : Option Value → Shared → Prop} (C1 : findIn K (.ref D) "__getattribute__" = some (some (.builtin "BaseException.__getattribute__"))) (C2 : findIn K (.ref D) "__getattr__" = some none) (C3 : subIn K (.ref D) (.type "BaseException") = some true)
    (C4 : hasDictIn K D = true) (C5 : findIn K (.ref D) "__class__" = some (some (.builtin "object.__class__"))) (C6 : specialIn K (.builtin "object.__class__") "__get__" = some (some (.builtin "getset_descriptor.__get__"))) (C7 : takesIn K (.builtin "object.__class__") = some true) (C8 : mroIn K D (.type "object") = some true)
    (X : K.In s.heap) (I : InstAt s.heap x ox D od) (h : Q (some (.ref D)) { s with toks := s.toks + 1 }) : wpAny (model prog w) A (getAttr? (.ref x) "__class__") Q E s := by
  have fnd := cls_found (od := od) C4 C5 C6 C7
  obtain ⟨hp, g, d, t, os⟩ := s
  have t0 := I.type (M := model prog w)
  have t1 := looks_findIn (M := model prog w) X C1
  have t2 := looks_findIn (M := model prog w) X C2
  have t3 := looks_find (M := model prog w) X I fnd
  have isE : Looks (model prog w) hp (isInstance (.ref x) (.type "BaseException")) true := t0.andThen (looks_subIn X C3)
  have own : (Value.builtin "BaseException.__getattribute__" == Value.builtin "object.__getattribute__") = false := by decide +kernel
  have q1 : (onTheHeap (Value.ref D) && Value.builtin "BaseException.__getattribute__" == Value.builtin "object.__getattribute__") = false := by rw [own]; rfl
  unfold getAttr? getAttrBy? getAttrBy
  refine wpAny_bind (wpAny_mkText (wpAny_bind (wpAny_attempt (wpAny_holding (wpAny_bind (t0.at (wpAny_bind (t1.at ?_))))))))
  show wpAny _ _ (if (onTheHeap (Value.ref D) && Value.builtin "BaseException.__getattribute__" == Value.builtin "object.__getattribute__") = true then _ else _) _ _ _
  rw [q1, if_neg Bool.false_ne_true]
  unfold getAttrByItsOwn hookBefore
  refine wpAny_bind ?_
  rw [if_pos (show onTheHeap (Value.ref D) = true from rfl)]
  refine t2.at (wpAny_bind (wpAny_attempt (wpAny_holding ?_)))
  unfold callGetattribute
  rw [show (false && onTheHeap (Value.builtin "BaseException.__getattribute__")) = false from rfl, if_neg Bool.false_ne_true]
  unfold boundAndCalled
  rw [PySem.F.excAttr_ValueError.ga.bind (.ref x)]
  refine wpAny_bind (wpAny_pure ?_)
  show wpAny _ _ (call (.builtin "BaseException.__getattribute__") [.ref x, .str "__class__" t]) _ _ _
  refine wpAny_call (codeAny_call_builtin PySem.F.excAttr_ValueError.ga.plain PySem.F.entry_bexc_ga ?_)
  refine @check_slot (model prog w) _ _ ⟨hp, g, d, t + 1, os⟩ "BaseException.__getattribute__" "BaseException" "__getattribute__" (.ref x) [.str "__class__" t] [] _ (by decide +kernel) (by decide +kernel) isE (PySem.F.args_bexc_ga (.ref x) (.str "__class__" t)) ?_
  unfold Builtin.«object.__getattribute__»
  refine wpAny_bind (wpAny_of_eq (a := ((Value.ref x : Value), [Value.str "__class__" t])) (by first | rfl | (simp only [slotArgs]; rfl)) ?_)
  refine wpAny_bind (wpAny_pure (wpAny_bind (t0.at (wpAny_bind (t3.at ?_)))))
  show wpAny _ _ (holding [Value.builtin "object.__class__"] (call (.builtin "getset_descriptor.__get__") [.builtin "object.__class__", .ref x, .ref D]) >>= ret) _ _ _
  refine wpAny_bind (wpAny_holding (wpAny_call (class_get (s := ⟨hp, g, d, t + 1, os⟩) (ox := ox) (od := od) X I C8 ?_)))
  refine wpAny_pure ?_
  show wpAny _ _ (handedOut (.ref D)) _ _ _
  rw [handedOut_of (v := .ref D) rfl]
  first
    | exact wpAny_pure (wpAny_pure h)
    | exact wpAny_pure h
    | exact wpAny_pure (wpAny_bind (wpAny_pure (wpAny_pure h)))
theorem kitD (C1 : findIn K (.ref D) "__getattribute__" = some (some (.builtin "BaseException.__getattribute__"))) (C2 : findIn K (.ref D) "__getattr__" = some none) (C3 : subIn K (.ref D) (.type "BaseException") = some true)
    (C4 : hasDictIn K D = true) (C5 : findIn K (.ref D) "__class__" = some (some (.builtin "object.__class__"))) (C6 : specialIn K (.builtin "object.__class__") "__get__" = some (some (.builtin "getset_descriptor.__get__"))) (C7 : takesIn K (.builtin "object.__class__") = some true) (C8 : mroIn K D (.type "object") = some true) :
    KitX K (.ref x) (.ref D) (fun h => InstAt h x ox D od) := by
  have isC : ∃ c d cd sl, K.lookup D = some ⟨c, d, .cls cd, sl⟩ := by
    obtain ⟨cd, hc, _⟩ := any_some C4
    unfold clsIn at hc
    split at hc
    · exact ⟨_, _, _, _, by assumption⟩
    · cases hc
  obtain ⟨c, d, cd, sl, ho⟩ := isC
  refine ⟨fun _ _ _ I => I.type, fun M h X _ => ?_, fun h tp dd its n sl' X htp => ?_, fun X I k => cls_of_exc C1 C2 C3 C4 C5 C6 C7 C8 X I k⟩
  · intro A' Q' E' s' k q
    unfold isType loadHead
    exact wpAny_bind (wpAny_loadPart (k _ _ (X _ _ ho)) (wpAny_pure q))
  · refine Bool.eq_false_iff.mpr fun q => ?_
    have e : D = tp := Value.ref.inj (beq_iff_eq.mp q)
    rw [← e, X _ _ ho] at htp
    cases htp
end
end PySem.W
namespace L2
open PySem PySem.Spec PyProof.Rows
/-- the fields of the error, where it has some -/
def XdAt (d : Option Addr) (H : Hp) : Prop := d = none ∨ ∃ (dd : Addr) (fs : List (Str × V)), d = some dd ∧ H dd = some (.xd fs)
def rIs1 (K : PySem.W.Frag) (D a : Addr) (d : Option Addr) : List V → Hp → VK → Prop := fun xs H Q => ∃ (c : V) (cv : Value) (b : Bool), xs = [.ref a, c] ∧ XdAt d H ∧ (∀ u, RelV c u → u = cv) ∧ PySem.W.kitOne K (.ref D) cv = some b ∧ Q (.bl b) H
def rIsN (K : PySem.W.Frag) (D a : Addr) (d : Option Addr) : List V → Hp → VK → Prop := fun xs H Q => ∃ (t : Addr) (cs : List V) (cvs : List Value) (b : Bool), xs = [.ref a, .ref t] ∧ XdAt d H ∧ SqT K H t cs ∧ (∀ us, Vals cs us → us = cvs) ∧ PySem.W.kitAny K (.ref D) cvs = some b ∧ Q (.bl b) H
section
variable {X : Cx} {a D : Addr} {oe : Obj} {d : Option Addr} {pn pins : List (Addr × Obj)} {σ : St} {H : Hp} {s : Shared}
theorem inst_suite (I : Inv (X.suite a ((a, oe) :: pn)) pins σ H s) (hz : Zc (.ref D) d oe) (hf : ∃ vs, oe.data = .fields vs) (hx : XdAt d H) : ∃ od, PySem.W.InstAt s.heap a oe D od := by
  obtain ⟨hget, _⟩ := I.pin (a, oe) (List.mem_append.mpr (.inl List.mem_cons_self))
  obtain ⟨vs, hv⟩ := hf
  rcases hx with rfl | ⟨dd, fs, rfl, ea⟩
  · exact ⟨none, hget, hz.1, by unfold PySem.W.notCls; rw [hv] <;> rfl, by rw [hz.2]; trivial⟩
  · have hx : ObjOk X.prog X.w H s.heap dd (.xd fs) := I.hok dd _ ea
    obtain ⟨mA, hns, _⟩ := hx
    obtain ⟨od, ho, _⟩ := lookIn_ns hns
    exact ⟨some od, hget, hz.1, by unfold PySem.W.notCls; rw [hv] <;> rfl, by rw [hz.2]; exact ho⟩
theorem call_is1 (C : ExcC X.K D) (hz : Zc (.ref D) d oe) (hf : ∃ vs, oe.data = .fields vs) : CallR (X.suite a ((a, oe) :: pn)) (.builtin "isinstance") (rIs1 X.K D a d) := by
  intro pins s σ H xs us Q I r h
  obtain ⟨c, cv, b, rfl, hx, hcv, e, q⟩ := h
  obtain ⟨u1, u2, rfl, rx, rt⟩ := vals2 r
  cases rx
  have ec := hcv _ rt
  subst ec
  obtain ⟨od, J⟩ := inst_suite I hz hf hx
  exact PySem.W.kia_one (PySem.W.kitD C.hg C.hk C.hs C.hd C.ha C.hn C.ht C.hm) I.kIn J e (fun z => nomatch z) fun tk => ⟨.bl b, H, I.kept (t' := tk) fun _ _ z => z, rfl, q⟩
theorem call_isN (C : ExcC X.K D) (hz : Zc (.ref D) d oe) (hf : ∃ vs, oe.data = .fields vs) : CallR (X.suite a ((a, oe) :: pn)) (.builtin "isinstance") (rIsN X.K D a d) := by
  intro pins s σ H xs us Q I r h
  obtain ⟨t, cs, cvs, b, rfl, hx, sq, hcv, e, q⟩ := h
  obtain ⟨u1, u2, rfl, rx, rt⟩ := vals2 r
  cases rx
  cases rt
  obtain ⟨od, J⟩ := inst_suite I hz hf hx
  obtain ⟨its, rv, ⟨o, ho, hc, n, hd⟩, _⟩ := I.tuple sq
  have ei := hcv _ rv
  subst ei
  obtain ⟨o1, o2, o3, o4⟩ := o
  dsimp only at hc hd
  subst hc hd
  exact PySem.W.kia_tup (PySem.W.kitD C.hg C.hk C.hs C.hd C.ha C.hn C.ht C.hm) I.kIn J ho e (fun z => nomatch z) fun tk => ⟨.bl b, H, I.kept (t' := tk) fun _ _ z => z, rfl, q⟩
end
end L2


set_option maxRecDepth 100000
set_option maxHeartbeats 8000000
namespace Lag
open PySem PySem.Spec PyProof.Rows L2
abbrev sLBound : Stmt := topS 89 -- @_law_bound
theorem pss_if {X : Cx} {ss : List Stmt} {p : Prop} {t : TS} (h : p → PSs X ss t) : PSs X ss (fun D σ H => p ∧ (σ.length = X.N.length → t D σ H)) := ⟨fun pins s σ H D I hh => (h hh.1).run pins s σ H D I (hh.2 I.len)⟩
theorem vals_refs : ∀ (l : List Addr) (us : List Value), Vals (l.map V.ref) us → us = l.map Value.ref
  | [], us, r => by
    cases r
    rfl
  | a :: l, us, r => by
    cases r with
    | cons r1 r2 =>
      cases r1
      rw [vals_refs l _ r2]
      rfl
/-- the classes that _law_bound asks for -/
structure BndC (K : PySem.W.Frag) (mg : Str → Option Value) (C0 CB CT CP : Addr) : Prop where
  g0 : mg "LagError" = some (.ref C0)
  gB : mg "NoBeat" = some (.ref CB)
  gT : mg "NoLagsThere" = some (.ref CT)
  gP : mg "NoPaper" = some (.ref CP)
  mI : mg "isinstance" = none
  eP : PySem.W.exmOne K (.ref CP) (.ref C0) = some true
  kPP : PySem.W.kitOne K (.ref CP) (.ref CP) = some true
  aP : PySem.W.kitAny K (.ref CP) [.ref CB, .ref CT] = some false
  xP : ExcC K CP
def spLBound (K : PySem.W.Frag) (C : Addr) : Sp := fun vs H Q _ => ∃ (p ng nw : Addr) (gs : List Gt) (ws : List Wr) (b : Int) (v : V) (d : PyData), vs = [.ref p, v, .int b] ∧ NetAt K C H p ng nw gs ws ∧ NetOk gs ws ∧ 0 ≤ b ∧ Dx K Any H v d ∧ C2 gs ws d ∧ (paperD gs ws d = .none → ∀ H', Same H H' → Q (.int (boundP gs ws b d)) H') ∧ (paperD gs ws d ≠ .none → ∀ H', Same H H' → Q (.str "paper") H')
section
variable {P : Program} {w : World} {K : PySem.W.Frag} {mg : Str → Option Value} {base : Heap}
abbrev nLBound : List Str := ["_law_net", "_law_thing", "_law_pulse", "_law_found", "e"]
theorem scLBound : FnScope nLBound ["_law_net", "_law_thing", "_law_pulse"] (defScope sLBound) := ⟨rfl, rfl, rfl, by decide +kernel, rfl, by decide +kernel, by decide +kernel⟩
abbrev DLBound (P : Program) (w : World) (K : PySem.W.Frag) (mg : Str → Option Value) (base : Heap) (C : Addr) := Df P w K mg base 8 "_law_bound" ["_law_net", "_law_thing", "_law_pulse"] (spLBound K C)
theorem ok_lbound {f fB C C0 CB CT CP : Addr} {fd fdB : FuncData} (F : Fun K "_law_bound" "_law_bound" sLBound f fd) (hm : mg "_law_bound" = some (.ref f)) (B : Bt mg) (R : BndC K mg C0 CB CT CP) (DBo : DBoundOf P w K mg base C fB fdB) (DX : FnOk P w K mg base (L2.CX P w) 7 fB fdB ["net", "thing", "beat"] (spBoundOfD K C CP)) : DLBound P w K mg base C f fd := by
  refine ⟨?_, hm, F.kp, F.binds fun _ _ _ _ _ _ us hl => match us, hl with | [_, _, _], _ => rfl⟩
  refine F.ok scLBound (fun vs H Q E h => ?_) (fun cdv A outer s H vs Q E hr h => ?_)
  · obtain ⟨p, ng, nw, gs, ws, b, v, d, rfl, _⟩ := h
    rfl
  · obtain ⟨p, ng, nw, gs, ws, b, v, d, rfl, NA, N, hb, hd, shs, q, qn⟩ := h
    have nd := scLBound.nd
    refine ⟨_, pss_cons (ps_try_cls (tb := fun W => tAsg (tCallS (spBoundOfD K C CP) (WE W) (tCons (tVar 0) (tCons (tVar 1) (tCons (tVar 2) tNil)))) (gName 3)) (Wo := fun _ _ _ _ => False)
        (l := [⟨.ref C0, some 4, fun a cls d D σ H => (cls = .ref CP ∧ d = none) ∧ (σ.length = 5 → tRet (tOp (rIxL K) (tLst (tCons (tC (.str "other")) (tCons (tC (.str "paper")) tNil))) (tCB rInt1 (tCons (tAndV (tCB (rIs1 K CP a none) (tCons (tVar 4) (tCons (tC (.ref CP)) tNil))) (tNotV (tCB (rIsN K CP a none) (tCons (tVar 4) (tCons (tTup (tCons (tC (.ref CB)) (tCons (tC (.ref CT)) tNil))) tNil))))) tNil))) D σ H)⟩])
        rfl rfl nd takes0 (fun W pn xe tk _ => pss_one (ps_set (i := 3) nd rfl (.inl rfl) (pe_callS DX (hr.mono (by decide)) (by rfl) DBo.mg DBo.kp DBo.bd (fun σ => passAt tk σ) (pa_cons (pv 0) (pa_cons (pv 1) (pa_cons (pv 2) pa_nil))))))
        (ClsOk.named rfl rfl ⟨rfl, by decide, .inl R.g0⟩ (fun a oe cls d pn hz hf => pss_if (fun ⟨e1, e2⟩ => by
          subst e1 e2
          exact pss_one (ps_ret (pe_ix ix_list (pe_lst (pa_cons pe_str (pa_cons pe_str pa_nil))) (pe_callTy call_int1 (by rfl) B.int (by decide +kernel) (pa_cons (pe_and (pe_callB (call_is1 R.xP hz hf) (by rfl) R.mI (by decide +kernel) (pa_cons (pv 4) (pa_cons (pe_glob (v := .ref CP) (by rfl) R.gP rfl) pa_nil))) (pe_one (pe_not (pe_callB (call_isN R.xP hz hf) (by rfl) R.mI (by decide +kernel) (pa_cons (pv 4) (pa_cons (pe_tup (pa_cons (pe_glob (v := .ref CB) (by rfl) R.gB rfl) (pa_cons (pe_glob (v := .ref CT) (by rfl) R.gT rfl) pa_nil))) pa_nil)))))) pa_nil)) (fun _ _ => rfl))))) .nil)) <|
      pss_one (ps_ret (pv 3)), ?_⟩
    refine ⟨_, rfl, _, rfl, _, rfl, p, ng, nw, gs, ws, b, v, d, rfl, NA, N, hb, hd, shs, fun g H1 s1 => ?_, fun g H1 s1 => ?_⟩
    · exact ⟨_, rfl, q g H1 s1⟩
    · refine ⟨true, R.eP, fun _ a ha => ⟨⟨rfl, rfl⟩, fun hl => ?_⟩, fun z => by cases z⟩
      refine ⟨(by show 2 ≤ sizeLine; decide), fun l1 hl1 => ?_⟩
      have s2 := same_new (o := .lst [.str "other", .str "paper"]) hl1
      have e2 : (upd H1 l1 (.lst [.str "other", .str "paper"])) l1 = some (.lst [.str "other", .str "paper"]) := upd_same
      generalize upd H1 l1 (.lst [.str "other", .str "paper"]) = H2 at s2 e2
      refine ⟨_, rfl, .ref CP, .ref CP, true, rfl, .inl rfl, (fun u hu => hu), R.kPP, true, rfl, iteT ?_⟩
      refine ⟨_, rfl, (by show 2 ≤ sizeLine; decide), fun t2 ht2 => ?_⟩
      have s4 := same_new (o := .tup [.ref CB, .ref CT]) ht2
      refine ⟨t2, _, _, false, rfl, .inl rfl, SqT.of upd_same, vals_refs [CB, CT], R.aP, false, rfl, .inr ⟨_, rfl, ?_⟩⟩
      exact ⟨l1, _, 1, _, rfl, rfl, SqL.of (s4 _ _ e2), atI_nat (j := 1) rfl, qn g _ ((s1.trans s2).trans s4)⟩
end
end Lag


set_option maxRecDepth 100000
set_option maxHeartbeats 8000000
namespace Lag
open PySem PySem.Spec PyProof.Rows L2
theorem fun_okG {P : Program} {w : World} {K : PySem.W.Frag} {mg : Str → Option Value} {base : Heap} {x qual : Str} {st : Stmt} {f : Addr} {fd : FuncData} {N ps : List Str} {k : Nat} {sp : Sp} (F : Fun K x qual st f fd) (S : FnScope N ps (defScope st)) (len : ∀ vs H Q E, sp vs H Q E → vs.length = ps.length)
    (hbody : ∀ (cdv : Value) (A : Around) (outer : List Env) (s : Shared) (H : Hp) (vs : List V) (Q : VK) (E : XK), (A.deeper (envOfC qual (defScope st) s.heap.objs.size f cdv)).guards = some [] → Room k (A.deeper (envOfC qual (defScope st) s.heap.objs.size f cdv)) → sp vs H Q E →
      ∃ t, PSs (cxOf CX0 P w K mg base N qual (defScope st) f cdv A outer s H E).nox (defBody st) t ∧ t { nx := fun _ H' => Q .non H', rt := Q } (start N vs) H) : FnG P w K mg base CX0 (k + 1) f fd ps sp := by
  obtain ⟨oc, od, kV, doc, pm, an, cdv, ct, osl, rfl, lk, hcd⟩ := F.ex
  refine fnG_of lk hcd S len fun A outer s H vs Q E hg hr hsp => ?_
  obtain ⟨t, h, q⟩ := hbody cdv A outer s H vs Q E hg hr hsp
  exact ⟨t, h.nox, q⟩
abbrev sLaw : Stmt := topS 90 -- @law
theorem HdP.c2 {K : PySem.W.Frag} {wl : Addr} {gs : List Gt} {ws : List Wr} {H0 H : Hp} {v : V} {d : PyData} (h : HdP K wl gs ws H0 H v d) : C2 gs ws d := fun es e => by
  obtain ⟨h1, h2, _⟩ := h.m es e
  exact (rows_g h1 h2).1 es rfl
theorem HdP.sg {K : PySem.W.Frag} {wl : Addr} {gs : List Gt} {ws : List Wr} {H0 H : Hp} {v : V} {d : PyData} (h : HdP K wl gs ws H0 H v d) : StrG d := by
  cases e : dL d with
  | false => exact h.s e
  | true =>
    obtain ⟨es, rfl⟩ : ∃ es, d = .list es := by
      cases d <;> first | exact ⟨_, rfl⟩ | cases e
    obtain ⟨h1, h2, _⟩ := h.m es rfl
    exact (rows_g h1 h2).2
theorem StrG.ok {K : PySem.W.Frag} {Av : Addr → Prop} {H : Hp} {v : V} {d : PyData} (h : StrG d) (x : Dx K Av H v d) : StrOk K H v d := by
  rcases h.lay with e | e
  · rw [e] at x
    cases x with
    | dic z => exact .inr ⟨_, rfl, z, e⟩
  · exact .inl (Dx.dp d x e)
theorem og_put {K : PySem.W.Frag} {wl l : Addr} {H : Hp} {ys xs : List V} {ds : List PyData} {o : HO} (el : H l = some (.lst ys)) (h : OG K wl (fun b => b ≠ wl ∧ b ≠ l) H xs ds) : OG K wl (fun b => b ≠ wl ∧ b ≠ l) (upd H l o) xs ds := ⟨h.1, h.2.imp fun _ d r => Dx.move ⟨fun b ys k e => ⟨by rw [upd_ne k.2]; exact e, k⟩, fun b ys s => (TK.lst el).seq s, fun b e => by
    have n : b ≠ l := fun z => by
      rw [z, el] at e
      cases e
    rw [upd_ne n]
    exact e⟩ d r⟩
theorem mem_cutK {xs : List V} {lo hi : Option Int} {v : V} (h : v ∈ cutV xs lo hi) : v ∈ xs := List.mem_of_mem_drop (List.mem_of_mem_take h)
def spLaw (K : PySem.W.Frag) : Sp := fun vs H Q _ => ∃ (a : Addr) (ns : List Int), vs = [.ref a] ∧ SqL K H a (ns.map V.int) ∧ ns.length ≤ 63 ∧ ∀ H', Q (.bl true) H'
theorem psum_comm {f : Pce → Int} (es : List Ent) : (es.map fun e => e.2 * f e.1).sum = psum f es := by
  unfold psum
  congr 1
  exact List.map_congr_left fun e _ => Int.mul_comm _ _
theorem regsum_eq (us : List Wr) : (us.map fun x => ((x.2.2.length : Nat) : Int)).sum = regsum us := rfl
theorem dpall_dr {K : PySem.W.Frag} {H H' : Hp} : ∀ (ds : List PyData) {vs : List V}, (∀ e ∈ ds, (∃ x, e = .str x) ∨ ∃ i, e = .int i) → DpAll K H vs ds → DpAll K H' vs ds
  | [], _, _, a => by cases a; exact .nil
  | e :: r, _, hs, a => by
    cases a with
    | cons h1 h2 =>
      refine .cons ?_ (dpall_dr r (fun x hx => hs x (List.mem_cons_of_mem _ hx)) h2)
      rcases hs e (List.mem_cons_self ..) with ⟨x, rfl⟩ | ⟨i, rfl⟩
      · cases h1; exact .str _
      · cases h1; exact .int _
/-- data of words and numbers only stays whatever is drawn -/
theorem dp_dr {K : PySem.W.Frag} {wl : Addr} {H H' : Hp} {v : V} {d : PyData} (h : Dp K H v d) (sc : ∃ ds : List PyData, (d = .tuple ds ∨ d = .none) ∧ ∀ e ∈ ds, (∃ x, e = .str x) ∨ ∃ i, e = .int i) (W : WellAt wl H) (D : Dr wl H H') : Dp K H' v d := by
  obtain ⟨ds, e | e, hs⟩ := sc
  · subst e
    cases h with
    | tup q a =>
      exact .tup ((TK.dr W D.but).seq q) (dpall_dr ds hs a)
  · subst e
    rw [dp_none h]
    exact .non
theorem paper_sc (gs : List Gt) (ws : List Wr) (d : PyData) : ∃ ds : List PyData, (paperD gs ws d = .tuple ds ∨ paperD gs ws d = .none) ∧ ∀ e ∈ ds, (∃ x, e = .str x) ∨ ∃ i, e = .int i := by
  have form : ∃ ds : List PyData, (formD = .tuple ds ∨ formD = .none) ∧ ∀ e ∈ ds, (∃ x, e = .str x) ∨ ∃ i, e = .int i := ⟨_, .inl rfl, fun e he => .inl ⟨_, List.mem_singleton.mp he⟩⟩
  unfold paperD
  split
  · split
    · unfold faultG
      split
      · refine ⟨_, .inl rfl, fun e he => ?_⟩
        simp only [List.mem_cons, List.not_mem_nil, or_false] at he
        rcases he with rfl | rfl
        · exact .inl ⟨_, rfl⟩
        · exact .inr ⟨_, rfl⟩
      · exact ⟨[], .inr rfl, fun e he => nomatch he⟩
    · exact form
  · exact form
section
variable {P : Program} {w : World} {K : PySem.W.Frag} {mg : Str → Option Value} {base : Heap}
abbrev nLaw : List Str := ["_law_script", "_law_cell", "_law_well_here", "_law_odd_here", "_law_gates_here", "_law_wires_here", "_law_net", "_law_thing", "_law_due", "_law_kept", "_law_pulse", "_law_bound_here", "_law_wire", "_law_piece", "_law_many", "_law_last"]
theorem scLaw : FnScope nLaw ["_law_script"] (defScope sLaw) := ⟨rfl, rfl, rfl, by decide +kernel, rfl, by decide +kernel, by decide +kernel⟩
theorem ok_law {f fWl fD fP fI fTh fOd fFa fSf fBd fRo C : Addr} {fd fdWl fdD fdP fdI fdTh fdOd fdFa fdSf fdBd fdRo : FuncData} (F : Fun K "law" "law" sLaw f fd) (B : Bt mg) (ms : mg "sum" = none) (T : NT K mg C) (DWl : DWell P w K mg base fWl fdWl) (DD : DDraw P w K mg base fD fdD) (DP : DLParts P w K mg base fP fdP)
    (MK : Mk K C fI) (init : FnOk P w K mg base CX0 6 fI fdI ["self", "gates", "wires"] (spInit K C)) (bI : Binds K fdI ["self", "gates", "wires"] []) (DPa : DLPaper P w K mg base C fTh fdTh) (DOd : DOdd P w K mg base fOd fdOd) (DFa : DLFault P w K mg base fFa fdFa) (DPf : DPaperFault P w K mg base C fSf fdSf) (DPX : FnOk P w K mg base CX0 6 fSf fdSf ["net", "beat", "thing"] (spPaperFaultD K C)) (DBd : DLBound P w K mg base C fBd fdBd) (DRo : DLRoom P w K mg base fRo fdRo) :
    FnG P w K mg base CX0 14 f fd ["_law_script"] (spLaw K) := by
  refine fun_okG F scLaw (fun vs H Q E h => ?_) (fun cdv A outer s H vs Q E gd hr h => ?_)
  · obtain ⟨a, ns, rfl, _⟩ := h
    rfl
  · obtain ⟨a, ns, rfl, hS, hlen, q⟩ := h
    have nd := scLaw.nd
    have hu : (A.deeper (envOfC "law" (defScope sLaw) s.heap.objs.size f cdv)).units + 65 < cLine := by have := hr.un; omega
    refine ⟨_, pss_cons (ps_for PassesOwn.never rfl (pi_list (pe_op op_cat (pe_lst (pa_cons pe_int (pa_cons pe_int pa_nil))) (pe_slice sl_list (pv 0) po_none (po_some pe_int)))) (pg_name (i := 1) nd rfl (.inl rfl)) (pss_cons (ps_set (i := 2) nd rfl (.inl rfl) (pe_call DWl.ok (hr.mono (by decide)) (by rfl) DWl.mg DWl.kp DWl.bd .nil pass0 (pa_cons (pv 1) pa_nil))) <|
        pss_cons (ps_set (i := 3) nd rfl (.inl rfl) (pe_call DD.ok (hr.mono (by decide)) (by rfl) DD.mg DD.kp DD.bd .nil pass0 (pa_cons (pv 2) (pa_cons pe_int pa_nil)))) <|
        pss_cons (ps_asg (pe_call DP.ok (hr.mono (by decide)) (by rfl) DP.mg DP.kp DP.bd .nil pass0 (pa_cons (pv 2) pa_nil)) (pg_tup rfl (pgs_cons (pg_name (i := 4) nd rfl (.inr rfl)) (pgs_cons (pg_name (i := 5) nd rfl (.inr rfl)) pgs_nil)))) <|
        pss_cons (ps_set (i := 6) nd rfl (.inl rfl) (pe_make MK init (hr.mono (by decide)) (by rfl) T.mg bI .nil pass0 (pa_cons (pe_callTy call_list_of (by rfl) B.list (by decide +kernel) (pa_cons (pv 4) pa_nil)) (pa_cons (pe_callTy call_list_of (by rfl) B.list (by decide +kernel) (pa_cons (pv 5) pa_nil)) pa_nil)))) <|
        pss_cons (ps_set (i := 7) nd rfl (.inl rfl) (pe_call DPa.ok (hr.mono (by decide)) (by rfl) DPa.mg DPa.kp DPa.bd .nil pass0 (pa_cons (pv 2) (pa_cons (pv 6) (pa_cons (pv 4) (pa_cons (pv 5) pa_nil)))))) <|
        Evl.pss_cut (ps_if (pt_cmpR op_gt (pv 3) pe_int (nomark _)) (pss_one (ps_set (i := 7) nd rfl (.inl rfl) (pe_call DOd.ok (hr.mono (by decide)) (by rfl) DOd.mg DOd.kp DOd.bd .nil pass0 (pa_cons (pv 2) (pa_cons (pv 4) (pa_cons (pv 5) (pa_cons (pv 7) pa_nil))))))) pss_nil) <|
        pss_cons (ps_set (i := 8) nd rfl (.inl rfl) (pe_call DFa.ok (hr.mono (by decide)) (by rfl) DFa.mg DFa.kp DFa.bd .nil pass0 (pa_cons (pv 4) (pa_cons (pv 5) (pa_cons (pv 7) pa_nil))))) <|
        pss_cons (ps_set (i := 9) nd rfl (.inl rfl) (pe_callTy (call_strX gd hu) (by rfl) B.str (by decide +kernel) (pa_cons (pv 7) pa_nil))) <|
        pss_cons (ps_for PassesOwn.never rfl (pi_list (pe_lst (pa_cons pe_int (pa_cons (pe_op op_add pe_int (pe_call DD.ok (hr.mono (by decide)) (by rfl) DD.mg DD.kp DD.bd .nil pass0 (pa_cons (pv 2) (pa_cons pe_int pa_nil)))) (pa_cons (pe_call DD.ok (hr.mono (by decide)) (by rfl) DD.mg DD.kp DD.bd .nil pass0 (pa_cons (pv 2) (pa_cons pe_int pa_nil))) pa_nil))))) (pg_name (i := 10) nd rfl (.inr rfl)) (pss_cons (ps_if (pt_cmpR (op_neD hr.units) (pe_call DPX (hr.mono (by decide)) (by rfl) DPf.mg DPf.kp DPf.bd .nil pass0 (pa_cons (pv 6) (pa_cons (pv 10) (pa_cons (pv 7) pa_nil)))) (pv 8) (nomark _)) (pss_one (ps_ret pe_bl)) pss_nil) <|
        pss_cons (ps_set (i := 11) nd rfl (.inl rfl) pe_str) <|
        Evl.pss_cut (ps_if (pt_cmpR op_isN (pv 8) pe_non (nomark _)) (pss_cons (ps_set (i := 11) nd rfl (.inl rfl) (pe_callB (cr_sum rfl) (by rfl) ms (by decide +kernel) (pa_cons (pe_lc (own := [("_law_wire", 12)]) (g := (gName 12)) (tt := tYes) (te := (tCB (Evl.rLenS K) (tCons (tOp (rIxT K) (tVar 12) (tC (.int 2))) tNil))) rfl nd (pi_list (pv 5)) (blkOk_by (N := nLaw) (sc := defScope sLaw) (own := [("_law_wire", 12)]) (by decide +kernel)) (fun _ _ _ _ _ => (pg_name (i := 12) nd rfl (.inl rfl))) (fun _ _ _ _ _ => pts_nil) (fun _ _ _ _ _ => (pe_callB call_len_seq (by rfl) B.len PySem.boot_len (pa_cons (pe_ix ix_tup (pv 12) pe_int (fun _ _ => rfl)) pa_nil)))) pa_nil))) <|
        pss_one (ps_set (i := 11) nd rfl (.inl rfl) (pe_op op_sub (pv 11) (pe_callB (cr_sum rfl) (by rfl) ms (by decide +kernel) (pa_cons (pe_lc (own := [("_law_piece", 13), ("_law_many", 14)]) (g := (gTup K 2 (gCons (gName 13) (gCons (gName 14) gNil)))) (tt := tYes) (te := (tOp (rI CMul fun i j => .int (i * j)) (tVar 14) (tCall (spLRoom K) [] E0 (tCons (tVar 4) (tCons (tVar 5) (tCons (tVar 13) (tCons (tVar 10) tNil))))))) rfl nd (pi_list (pv 7)) (blkOk_by (N := nLaw) (sc := defScope sLaw) (own := [("_law_piece", 13), ("_law_many", 14)]) (by decide +kernel)) (fun _ _ _ _ _ => (pg_tup rfl (pgs_cons (pg_name (i := 13) nd rfl (.inl rfl)) (pgs_cons (pg_name (i := 14) nd rfl (.inl rfl)) pgs_nil)))) (fun _ _ _ _ _ => pts_nil) (fun _ _ _ _ _ => (pe_op op_mul (pv 14) (pe_call DRo.ok (hr.mono (by decide)) (by rfl) DRo.mg DRo.kp DRo.bd .nil pass0 (pa_cons (pv 4) (pa_cons (pv 5) (pa_cons (pv 13) (pa_cons (pv 10) pa_nil)))))))) pa_nil))))) pss_nil) <|
        pss_one (ps_if (PW.pt (pw_or (pt_cmpR (op_neD hr.units) (pe_call DBd.ok (hr.mono (by decide)) (by rfl) DBd.mg DBd.kp DBd.bd .nil pass0 (pa_cons (pv 6) (pa_cons (pv 7) (pa_cons (pv 10) pa_nil)))) (pv 11) (nomark _)) (pw_or1 (pt_cmpR op_ne (pe_callTy (call_strX gd hu) (by rfl) B.str (by decide +kernel) (pa_cons (pv 7) pa_nil)) (pv 9) (nomark _))))) (pss_one (ps_ret pe_bl)) pss_nil))) <|
        pss_one (ps_if (PW.pt (pw_and (pt_val (pe_callB call_isi (by rfl) B.isi (by decide +kernel) (pa_cons (pv 7) (pa_cons (pe_bltn (v := .ty "list") (by rfl) B.list (by decide +kernel) rfl) pa_nil)))) (pw_and1 (pt_cmpR (op_neD hr.units) (pv 7) (pe_lst pa_nil) (nomark _))))) (pss_cons (ps_set (i := 15) nd rfl (.inl rfl) (pe_bm0 PySem.F.plainAttrs_list PySem.F.slot_list_pop PySem.F.type_list_pop mt_pop (pv 7))) <|
        pss_cons (ps_if (pt_cmpR (op_neD hr.units) (pe_call DPX (hr.mono (by decide)) (by rfl) DPf.mg DPf.kp DPf.bd .nil pass0 (pa_cons (pv 6) (pa_cons pe_int (pa_cons (pv 7) pa_nil)))) (pe_call DFa.ok (hr.mono (by decide)) (by rfl) DFa.mg DFa.kp DFa.bd .nil pass0 (pa_cons (pv 4) (pa_cons (pv 5) (pa_cons (pv 7) pa_nil)))) (nomark _)) (pss_one (ps_ret pe_bl)) pss_nil) <|
        pss_cons (ps_expr (pe_bm PySem.F.plainAttrs_list PySem.F.slot_list_insert PySem.F.type_list_insert mt_insert (pv 7) (pa_cons pe_int (pa_cons (pv 15) pa_nil)))) <|
        pss_one (ps_if (pt_cmpR (op_neD hr.units) (pe_call DPX (hr.mono (by decide)) (by rfl) DPf.mg DPf.kp DPf.bd .nil pass0 (pa_cons (pv 6) (pa_cons pe_int (pa_cons (pv 7) pa_nil)))) (pe_call DFa.ok (hr.mono (by decide)) (by rfl) DFa.mg DFa.kp DFa.bd .nil pass0 (pa_cons (pv 4) (pa_cons (pv 5) (pa_cons (pv 7) pa_nil)))) (nomark _)) (pss_one (ps_ret pe_bl)) pss_nil)) pss_nil))) <|
        pss_one (ps_ret pe_bl), ?_⟩
    refine ⟨(by show 2 ≤ sizeLine; decide), fun l1 hl1 => ?_⟩
    have s1 : Same H (upd H l1 (.lst [.int 0, .int 3])) := same_new hl1
    have e1 : (upd H l1 (.lst [.int 0, .int 3])) l1 = some (.lst [.int 0, .int 3]) := upd_same
    generalize upd H l1 (.lst [.int 0, .int 3]) = H1 at s1 e1
    refine ⟨_, rfl, _, rfl, a, _, rfl, s1.seq hS, fun l2 hl2 => ?_⟩
    have hcl : (cutV (ns.map V.int) none (some 8)).length ≤ 63 := by
      have := cutV_length (ns.map V.int) none (some 8)
      rw [List.length_map] at this
      omega
    refine ⟨l1, l2, _, _, rfl, rfl, same_new hl2 _ _ e1, upd_same, ?_, fun l3 hl3 => ?_⟩
    · show 2 + _ ≤ sizeLine
      exact Nat.le_of_lt (small1000 (by omega))
    refine ⟨l3, rfl, ⟨_, SqL.of upd_same⟩, for_list (K := K) (a := l3) (xs := [.int 0, .int 3] ++ cutV (ns.map V.int) none (some 8)) (fun i σ H' => ∃ t1 t2 t3 t4 t5 t6 t7 t8 t9 t10 t11 t15 : Option V, σ = [some (.ref a), t1, t2, t3, t4, t5, t6, t7, t8, t9, t10, t11, none, none, none, t15] ∧ H' l3 = some (.lst ([.int 0, .int 3] ++ cutV (ns.map V.int) none (some 8))))
      ⟨_, _, _, _, _, _, _, _, _, _, _, _, rfl, upd_same⟩ (fun i σ H' _ ⟨_, _, _, _, _, _, _, _, _, _, _, _, _, e⟩ => SqL.of e) ?_ ?_⟩
    · rintro i x σ H0 ex ⟨t1, t2, t3, t4, t5, t6, t7, t8, t9, t10, t11, t15, rfl, e3⟩
      obtain ⟨c, rfl⟩ : ∃ c, x = V.int c := by
        rcases List.mem_append.mp (List.mem_of_getElem? ex) with hm | hm
        · rcases List.mem_cons.mp hm with hm | hm
          · exact ⟨0, hm⟩
          · rcases List.mem_cons.mp hm with hm | hm
            · exact ⟨3, hm⟩
            · cases hm
        · obtain ⟨c, _, rfl⟩ := List.mem_map.mp (mem_cutK hm)
          exact ⟨c, rfl⟩
      refine gn_norm (σ' := [some (.ref a), some (.int c), t2, t3, t4, t5, t6, t7, t8, t9, t10, t11, none, none, none, t15]) rfl ?_
      refine ⟨_, rfl, c, rfl, fun wl H1 hwl sw W1 => ?_⟩
      have n3 := ne_of_none e3 hwl
      refine gn_norm (σ' := [some (.ref a), some (.int c), some (.ref wl), t3, t4, t5, t6, t7, t8, t9, t10, t11, none, none, none, t15]) rfl ?_
      refine ⟨_, rfl, wl, 3, rfl, by decide, by decide, W1, fun od H2a od0 od1 Ea => ?_⟩
      refine gn_norm (σ' := [some (.ref a), some (.int c), some (.ref wl), some (.int od), t4, t5, t6, t7, t8, t9, t10, t11, none, none, none, t15]) rfl ?_
      refine ⟨_, rfl, wl, rfl, Ea.well, fun gs ws lg lw pp H2 N gl7 wl21 rl4 D2' hlg hlw nlgw G2 Wr2 ep => ?_⟩
      have D2 := Ea.trans D2'
      have nlg : lg ≠ wl := (Ea.well.ne hlg).symm
      have nlw : lw ≠ wl := (Ea.well.ne hlw).symm
      refine ⟨pp, _, rfl, .inl (.inl ep), rfl, _, _, rfl, _, _, rfl, rfl, ?_⟩
      refine gn_norm (σ' := [some (.ref a), some (.int c), some (.ref wl), some (.int od), some (.ref lg), some (.ref lw), t6, t7, t8, t9, t10, t11, none, none, none, t15]) rfl ?_
      obtain ⟨gv7, hgv7, ga7⟩ := id G2
      obtain ⟨wv7, hwv7, wa7⟩ := id Wr2
      refine ⟨_, rfl, lg, gv7, rfl, .inl (SqL.of hgv7), fun lga7 hlga7 => ?_⟩
      have sa7 : Same H2 (upd H2 lga7 (.lst gv7)) := same_new hlga7
      have ea7 : (upd H2 lga7 (.lst gv7)) lga7 = some (.lst gv7) := upd_same
      generalize upd H2 lga7 (.lst gv7) = Ha7 at sa7 ea7
      refine ⟨_, rfl, lw, wv7, rfl, .inl (SqL.of (sa7 _ _ hwv7)), fun lwa7 hlwa7 => ?_⟩
      have sb7 : Same Ha7 (upd Ha7 lwa7 (.lst wv7)) := same_new hlwa7
      have eb7 : (upd Ha7 lwa7 (.lst wv7)) lwa7 = some (.lst wv7) := upd_same
      generalize upd Ha7 lwa7 (.lst wv7) = Hb7 at sb7 eb7
      have sab7 := sa7.trans sb7
      have Gb7 : LG K Hb7 lga7 gs := ⟨gv7, sb7 _ _ ea7, ga7.imp fun _ _ r => r.tk (TK.same sab7)⟩
      have Wb7 : LW K Hb7 lwa7 ws := ⟨wv7, eb7, wa7.imp fun _ _ r => r.tk (TK.same sab7)⟩
      refine net_in Gb7.rg Wb7.rw N fun p ng nw H7 NA7 sn7 hp7 hng7 hnw7 => ?_
      have s7 := sab7.trans sn7
      have np : p ≠ wl := ((D2.well).same sab7 |>.ne hp7).symm
      have nng : ng ≠ wl := ((D2.well).same sab7 |>.ne hng7).symm
      have nnw : nw ≠ wl := ((D2.well).same sab7 |>.ne hnw7).symm
      have D7 := D2.trans (Dr.ofSame D2.well s7)
      have G7 := G2.same' s7
      have W7 := Wr2.same' s7
      have V7 := D7.well
      refine gn_norm (σ' := [some (.ref a), some (.int c), some (.ref wl), some (.int od), some (.ref lg), some (.ref lw), some (.ref p), t7, t8, t9, t10, t11, none, none, none, t15]) rfl ?_
      -- the thing
      refine ⟨_, rfl, _, rfl, _, rfl, _, rfl, wl, p, ng, nw, lg, lw, gs, ws, rfl, V7, np, nng, nnw, nlg, nlw, NA7, G7, W7, N, gl7, wl21, fun lp ev es H8 E8 hlp elp ea eg hes => ?_⟩
      have nlp : lp ≠ wl := (V7.ne hlp).symm
      refine gn_norm (σ' := [some (.ref a), some (.int c), some (.ref wl), some (.int od), some (.ref lg), some (.ref lw), some (.ref p), some (.ref lp), t8, t9, t10, t11, none, none, none, t15]) rfl ?_
      refine ⟨fun σ Hx => ∃ (v : V) (d : PyData), σ = [some (.ref a), some (.int c), some (.ref wl), some (.int od), some (.ref lg), some (.ref lw), some (.ref p), some v, t8, t9, t10, t11, none, none, none, t15] ∧ Dr wl H7 Hx ∧ HdP K wl gs ws H7 Hx v d, ?_, ?_⟩
      · refine ⟨_, rfl, _, _, rfl, rfl, _, rfl, ite2 (fun _ => ?_) (fun _ => ⟨.ref lp, .list (es.map entD), rfl, E8, .ls hlp nlp elp (ents_og ea) (entT_all N eg) (by rw [List.length_map]; omega)⟩)⟩
        exact ⟨_, rfl, _, rfl, _, rfl, _, rfl, wl, lg, lw, lp, gs, ws, H7, ev, es, rfl, E8.well, nlg, nlw, nlp, G7.dr nlg V7 E8, W7.dr nlw V7 E8, N, V7, E8, elp, ea, eg, hes, fun v d H9 E9 hd => ⟨v, d, rfl, E8.trans E9, hd⟩⟩
      rintro σ H9 ⟨v, d, rfl, D9, hd⟩
      have V9 := D9.well
      have c2 := hd.c2
      have sg := hd.sg
      refine ⟨_, rfl, _, rfl, _, rfl, lg, lw, gs, ws, v, d, rfl, G7.dr nlg V7 D9, W7.dr nlw V7 D9, N, hd.x.any, c2, fun r H10 s10 dp10 => ?_⟩
      refine gn_norm (σ' := [some (.ref a), some (.int c), some (.ref wl), some (.int od), some (.ref lg), some (.ref lw), some (.ref p), some v, some r, t9, t10, t11, none, none, none, t15]) rfl ?_
      have D10 := D9.trans (Dr.ofSame V9 s10)
      have hdx : ∀ {Hx : Hp}, Dr wl H9 Hx → Dx K (· ≠ wl) Hx v d := fun dx => dx_dr (fun _ k => k) hd.x V9 dx
      have sh := ((paper_or gs ws d).2).ok (by decide)
      have eq := SeqAt.eqv_refl _ ((paper_or gs ws d).2).1
      have E910 := Dr.ofSame V9 s10
      refine ⟨_, rfl, v, d, rfl, sg.ok (hdx E910), sg.sw, sg.dp, sg.le, ?_⟩
      refine gn_norm (σ' := [some (.ref a), some (.int c), some (.ref wl), some (.int od), some (.ref lg), some (.ref lw), some (.ref p), some v, some r, some (.str (strD d)), t10, t11, none, none, none, t15]) rfl ?_
      -- the pulses
      refine ⟨_, rfl, wl, 9, rfl, by decide, by decide, D10.well, fun d1 H11 d10 d11 E11 => ⟨_, _, rfl, rfl, _, rfl, wl, 300, rfl, by decide, by decide, E11.well, fun d2 H12 d20 d21 E12 => ⟨(by show 3 ≤ sizeLine; decide), fun lu hlu => ?_⟩⟩⟩
      have E1012 := (E11.trans E12).trans (Dr.ofSame E12.well (same_new (o := .lst [.int 0, .int (5 + d1), .int d2]) hlu))
      have nlu : lu ≠ wl := (E12.well.ne hlu).symm
      have fu : (upd H12 lu (.lst [.int 0, .int (5 + d1), .int d2])) lu = some (.lst [.int 0, .int (5 + d1), .int d2]) := upd_same
      generalize upd H12 lu (.lst [.int 0, .int (5 + d1), .int d2]) = H13 at E1012 fu
      have hx0 : ∀ x ∈ [V.int 0, .int (5 + d1), .int d2], ∃ z, x = V.int z ∧ 0 ≤ z := fun x hx => by
        simp only [List.mem_cons, List.not_mem_nil, or_false] at hx
        rcases hx with rfl | rfl | rfl
        · exact ⟨_, rfl, by omega⟩
        · exact ⟨_, rfl, by omega⟩
        · exact ⟨_, rfl, by omega⟩
      generalize ([V.int 0, .int (5 + d1), .int d2] : List V) = pxs at fu hx0
      have D13 := D10.trans E1012
      have V13 := D13.well
      have dp13 : Dp K H13 r (paperD gs ws d) := by
        rcases (paper_or gs ws d).1 with z | ⟨l, z⟩
        · rw [z] at dp10 ⊢
          rw [dp_none dp10]
          exact .non
        · exact dp_dr dp10 (paper_sc gs ws d) D10.well E1012
      refine ⟨lu, rfl, ⟨_, SqL.of fu⟩, for_list (K := K) (a := lu) (xs := pxs) (fun i σ H' => ∃ u9 u10 : Option V, σ = [some (.ref a), some (.int c), some (.ref wl), some (.int od), some (.ref lg), some (.ref lw), some (.ref p), some v, some r, some (.str (strD d)), u9, u10, none, none, none, t15] ∧ Same H13 H') ⟨_, _, rfl, Same.refl _⟩ (fun i σ H' _ ⟨_, _, _, s⟩ => SqL.of (s _ _ fu)) ?_ ?_⟩
      · rintro j x σ Hc hx ⟨u9, u10, rfl, sc⟩
        obtain ⟨pu, rfl, hpu⟩ := hx0 x (List.mem_of_getElem? hx)
        have Dc := D13.trans (Dr.ofSame V13 sc)
        have E9c := (E910.trans E1012).trans (Dr.ofSame V13 sc)
        have NAc := NA7.drW V7 np nng nnw Dc
        have Gc := G7.dr nlg V7 Dc
        have Wc := W7.dr nlw V7 Dc
        have hdc := hdx E9c
        refine gn_norm (σ' := [some (.ref a), some (.int c), some (.ref wl), some (.int od), some (.ref lg), some (.ref lw), some (.ref p), some v, some r, some (.str (strD d)), some (.int pu), u10, none, none, none, t15]) rfl ?_
        refine ⟨_, rfl, _, rfl, _, rfl, p, ng, nw, gs, ws, pu, v, d, rfl, NAc, N, hpu, hdc.any, c2, fun r2 H14 s14 dp14 => ?_⟩
        refine ⟨_, rfl, _, _, dp14, dp_same dp13 (sc.trans s14), sh, sh, false, (by rw [eq]; rfl), iteF ?_⟩
        delta tNext tSeq tAsg tC
        dsimp only
        refine gn_norm (σ' := [some (.ref a), some (.int c), some (.ref wl), some (.int od), some (.ref lg), some (.ref lw), some (.ref p), some v, some r, some (.str (strD d)), some (.int pu), some (.str "paper"), none, none, none, t15]) rfl ?_
        have s1314 := sc.trans s14
        have hd14 := Dx.move (XM.same s14) _ hdc.any
        refine ⟨fun σ Hx => ∃ x : V, σ = [some (.ref a), some (.int c), some (.ref wl), some (.int od), some (.ref lg), some (.ref lw), some (.ref p), some v, some r, some (.str (strD d)), some (.int pu), some x, none, none, none, t15] ∧ Same H14 Hx ∧ ((paperD gs ws d = .none ∧ x = .int (boundP gs ws pu d)) ∨ (paperD gs ws d ≠ .none ∧ x = .str "paper")), ?_, ?_⟩
        · rcases (paper_or gs ws d).1 with z | ⟨l, z⟩
          rotate_left
          · have dpz := dp13
            rw [z] at dpz
            obtain ⟨tt, rfl⟩ := dp_tup dpz
            exact ⟨_, rfl, rfl, _, rfl, iteF ⟨_, rfl, Same.refl _, .inr ⟨(by rw [z]; exact fun y => by cases y), rfl⟩⟩⟩
          have dpz := dp13
          rw [z] at dpz
          cases dp_none dpz
          refine ⟨_, rfl, rfl, _, rfl, iteT ?_⟩
          obtain ⟨dse, ents, rfl, hpe, hbd⟩ := paper_good z
          have hbd := hbd pu
          cases hd14 with
          | @lst lp2 xp _ elp2 _ alp =>
          obtain ⟨ea2, eok', hel2⟩ := ents_ok c2 hpe alp.all2
          have W14 := Wc.same' s14
          have G14 := Gc.same' s14
          obtain ⟨wv, hwv, wa⟩ := id W14
          have hwl9 := N.wl
          have hlw : wv.length = ws.length := wa.1
          refine ⟨_, rfl, lw, rfl, ⟨_, SqL.of hwv⟩, fun D hD => ?_⟩
          refine lc_list (K := K) (a := lw) (xs := wv) (fun i Hc => Hc D = some (.lst (((ws.take i).map fun x => ((x.2.2.length : Nat) : Int)).map V.int)) ∧ Same H14 Hc) ⟨upd_same, same_new hD⟩ (fun i Hc _ ⟨_, sm⟩ => SqL.of (sm _ _ hwv)) ?_ ?_
          · rintro i v Hc hv ⟨hc, sm⟩
            obtain ⟨x, hx, a', b2, rfl, sq1, sq3⟩ := wa.get hv
            have hi : i < ws.length := (List.getElem?_eq_some_iff.mp hx).1
            refine ⟨rfl, tyes ?_⟩
            refine ⟨_, rfl, a', _, 2, _, rfl, rfl, (TK.same sm).seq sq1, atI_nat (j := 2) rfl, b2, _, rfl, .inr ((TK.same sm).seq sq3), _, hc, ?_, ?_, same_mut sm hD⟩
            · rw [List.length_map, List.length_map, List.length_take]
              exact small1000 (by omega)
            · rw [upd_same, List.take_add_one, hx, List.map_append, List.map_append, List.length_map]
              rfl
          rintro H15 ⟨h15, s15⟩
          rw [hlw, List.take_length] at h15
          refine ⟨D, _, rfl, SqL.of h15, ?_⟩
          refine gn_norm (σ' := [some (.ref a), some (.int c), some (.ref wl), some (.int od), some (.ref lg), some (.ref lw), some (.ref p), some (.ref lp2), some .non, some (.str (strD (.list dse))), some (.int pu), some (.int ((ws.map fun x => ((x.2.2.length : Nat) : Int)).sum)), none, none, none, t15]) rfl ?_
          refine ⟨_, rfl, _, rfl, lp2, rfl, ⟨_, SqL.of (s15 _ _ elp2)⟩, fun D2 hD2 => ?_⟩
          refine lc_list (K := K) (a := lp2) (xs := xp) (fun i Hc => Hc D2 = some (.lst (((ents.take i).map fun e => e.2 * roomF gs ws pu e.1).map V.int)) ∧ Same H15 Hc) ⟨upd_same, same_new hD2⟩ (fun i Hc _ ⟨_, sm⟩ => SqL.of ((s15.trans sm) _ _ elp2)) ?_ ?_
          · rintro i v Hc hv ⟨hc, sm⟩
            obtain ⟨e, he, ae, pv', rfl, sqe, pcv⟩ := ea2.get hv
            have smm := s15.trans sm
            obtain ⟨pok, plen, _⟩ := eok' e (List.mem_of_getElem? he)
            have hi : i < ents.length := (List.getElem?_eq_some_iff.mp he).1
            have hel : xp.length = ents.length := ea2.1
            have rb := room_bd (b := pu) N pok plen
            refine ⟨ae, _, rfl, (TK.same smm).seq sqe, rfl, _, _, rfl, _, _, rfl, rfl, rfl, tyes ?_⟩
            refine ⟨_, rfl, _, rfl, _, rfl, _, rfl, _, rfl, lg, lw, pv', gs, ws, e.1, pu, rfl, G14.same' smm, W14.same' smm, N, pcv.same smm, pok, by omega, fun Hd sd => ⟨_, _, rfl, rfl, .inr ⟨?_, ?_⟩, _, sd _ _ hc, ?_, ?_, same_mut (sm.trans sd) hD2⟩⟩
            · exact Int.lt_of_lt_of_le (by decide) rb.1
            · exact Int.lt_of_le_of_lt rb.2 (by decide)
            · rw [List.length_map, List.length_map, List.length_take]
              exact small11k (by omega)
            · rw [upd_same, List.take_add_one, he, List.map_append, List.map_append]
              rfl
          rintro H16 ⟨h16, s16⟩
          rw [ea2.1, List.take_length] at h16
          refine ⟨D2, _, rfl, SqL.of h16, _, _, rfl, rfl, ?_⟩
          refine ⟨_, rfl, s15.trans s16, .inl ⟨z, ?_⟩⟩
          rw [hbd, psum_comm, regsum_eq]
        rintro σ H15 ⟨x, rfl, s15, hx15⟩
        have s1415 := s14.trans s15
        have done : Same H13 H15 := sc.trans s1415
        have kept : ∀ {H16 : Hp}, Same H15 H16 → Dx K (· ≠ wl) H16 v d := fun s16 => hdx ((E910.trans E1012).trans (Dr.ofSame V13 (done.trans s16)))
        refine ⟨_, rfl, _, rfl, _, rfl, p, ng, nw, gs, ws, pu, v, d, rfl, NAc.same s1415, N, hpu, (Dx.move (XM.same s1415) _ hdc).any, c2, fun z H16 s16 => ?_, fun z H16 s16 => ?_⟩
        · rcases hx15 with ⟨_, rfl⟩ | ⟨nz, _⟩
          · refine ⟨_, rfl, _, _, Dp.int _, Dp.int _, (sh_int (k := 0) _).ok (by decide), (sh_int (k := 0) _).ok (by decide), false, ?_, iteF ?_⟩
            · rw [SeqAt.eqv_refl _ (sh_int (k := 0) _).1]
              rfl
            · exact ⟨_, rfl, v, d, rfl, sg.ok (kept s16), sg.sw, sg.dp, sg.le, _, rfl, rfl, _, rfl, iteNS rfl ⟨_, _, rfl, done.trans s16⟩⟩
          · exact absurd z nz
        · rcases hx15 with ⟨y, _⟩ | ⟨_, rfl⟩
          · exact absurd y z
          · exact ⟨_, rfl, _, _, Dp.str _, Dp.str _, by decide +kernel, by decide +kernel, false, by decide +kernel, iteF ⟨_, rfl, v, d, rfl, sg.ok (kept s16), sg.sw, sg.dp, sg.le, _, rfl, rfl, _, rfl, iteNS rfl ⟨_, _, rfl, done.trans s16⟩⟩⟩
      rintro σ H20 ⟨u9, u10, rfl, s20⟩
      have D20 := D13.trans (Dr.ofSame V13 s20)
      have E920 := (E910.trans E1012).trans (Dr.ofSame V13 s20)
      have fin : ∀ {Hx : Hp} {w15 : Option V}, Dr wl H7 Hx → ∃ t1 t2 t3 t4 t5 t6 t7 t8 t9 t10 t11 t15 : Option V, [some (.ref a), some (.int c), some (.ref wl), some (.int od), some (.ref lg), some (.ref lw), some (.ref p), some v, some r, some (.str (strD d)), u9, u10, none, none, none, w15] = [some (.ref a), t1, t2, t3, t4, t5, t6, t7, t8, t9, t10, t11, none, none, none, t15] ∧ Hx l3 = some (.lst ([.int 0, .int 3] ++ cutV (ns.map V.int) none (some 8))) := fun dx => ⟨_, _, _, _, _, _, _, _, _, _, _, _, rfl, (D7.trans dx).but _ _ n3 (sw _ _ e3)⟩
      obtain ⟨ty, hty, _, _, _, k4⟩ := hd.x.ty
      obtain ⟨ty2, hty2, _, _, _, k42⟩ := (hdx E920).ty
      refine ⟨_, rfl, _, _, _, _, dL d, rfl, .ty "list", hty2, kit_ty k42, dL d, rfl, ?_⟩
      cases eL : dL d with
      | false => exact iteF (fin D20)
      | true =>
      obtain ⟨es0, rfl⟩ : ∃ es0, d = .list es0 := by
        cases d <;> first | exact ⟨_, rfl⟩ | cases eL
      obtain ⟨eT, e62, lt, xs, rfl, h70, nlt, elt, og⟩ := hd.m es0 rfl
      have elt20 := E920.but _ _ nlt elt
      have og20 := og.dr V9 E920
      refine iteT ⟨_, rfl, (by show 0 ≤ sizeLine; decide), fun l6 hl6 => ?_⟩
      have s6 : Same H20 (upd H20 l6 (.lst [])) := same_new hl6
      have e6 : (upd H20 l6 (.lst [])) l6 = some (.lst []) := upd_same
      generalize upd H20 l6 (.lst []) = H21 at s6 e6
      have shl : Sh 51 (.list es0) := sh_list fun e he => ((c2 _ rfl).2 e he).1
      have D21 := D20.trans (Dr.ofSame D20.well s6)
      have elt21 := s6 _ _ elt20
      have og21 := og20.same s6
      refine ⟨_, _, Dx.dp (.list es0) (Dx.lst (Av := Any) elt21 trivial (DxAll.from2 (og21.2.imp fun _ _ r => r.any))) shl.1, Dp.lst (SqL.of e6) .nil, Sh.ok shl (by decide), by decide +kernel, _, rfl, ?_⟩
      rw [list_nilU]
      by_cases h0 : es0 = []
      · rw [decide_eq_true h0]
        exact iteF (fin D21)
      rw [decide_eq_false h0]
      refine iteT ?_
      have hxl : xs.length = es0.length := og.len
      have hpos : 0 < es0.length := List.length_pos_iff.mpr h0
      obtain ⟨y, hy⟩ : ∃ y, xs[xs.length - 1]? = some y := ⟨_, List.getElem?_eq_getElem (by omega)⟩
      obtain ⟨yd, hyd, dxy⟩ := og21.2.get hy
      refine ⟨_, rfl, .inl ⟨rfl, _, SqL.of elt21⟩, lt, xs, y, rfl, rfl, elt21, hy, ?_⟩
      refine gn_norm (σ' := [some (.ref a), some (.int c), some (.ref wl), some (.int od), some (.ref lg), some (.ref lw), some (.ref p), some (.ref lt), some r, some (.str (strD (.list es0))), u9, u10, none, none, none, some y]) rfl ?_
      -- popped
      have ogD : OG K wl (fun b => b ≠ wl ∧ b ≠ lt) H21 xs.dropLast es0.dropLast := by
        rw [List.dropLast_eq_take, List.dropLast_eq_take, hxl]
        exact og21.take _
      have og1 := og_put elt21 (o := .lst xs.dropLast) ogD
      have oy1 := og_put elt21 (o := .lst xs.dropLast) (OG.one (wl := wl) (fun a k => k.1) dxy)
      have d1 : Dr wl H7 (upd H21 lt (.lst xs.dropLast)) := set_well D21 h70 nlt
      have f1 : (upd H21 lt (.lst xs.dropLast)) lt = some (.lst xs.dropLast) := upd_same
      generalize upd H21 lt (.lst xs.dropLast) = G1 at og1 oy1 d1 f1
      have c21 := (rows_g (gs := gs) (ws := ws) (es := es0.dropLast) (fun e he => eT e (List.mem_of_mem_take (by rw [← List.dropLast_eq_take]; exact he))) (by rw [List.length_dropLast]; omega)).1
      have x1 : Dx K Any G1 (.ref lt) (.list es0.dropLast) := .lst f1 trivial (DxAll.from2 (og1.2.imp fun _ _ r => r.any))
      refine ⟨_, rfl, _, rfl, p, ng, nw, gs, ws, 5, .ref lt, .list es0.dropLast, rfl, NA7.drW V7 np nng nnw d1, N, by decide, x1, c21, fun r1 G2' sg1 dpg => ?_⟩
      have d2 := d1.trans (Dr.ofSame d1.well sg1)
      refine ⟨_, rfl, _, rfl, _, rfl, lg, lw, gs, ws, .ref lt, .list es0.dropLast, rfl, G7.dr nlg V7 d2, W7.dr nlw V7 d2, N, x1.same sg1, c21, fun r2 G3 sg2 dpg2 => ?_⟩
      have shq := paper_or gs ws (.list es0.dropLast)
      refine ⟨_, _, dp_same dpg sg2, dpg2, shq.2.ok (by decide), shq.2.ok (by decide), false, (by rw [SeqAt.eqv_refl _ shq.2.1]; rfl), iteF ?_⟩
      have sg12 := sg1.trans sg2
      have og3 := og1.same sg12
      have oy3 := oy1.same sg12
      have f3 := sg12 _ _ f1
      have d3 := d2.trans (Dr.ofSame d2.well sg2)
      -- put before the others
      refine ⟨_, rfl, .inl ⟨rfl, _, SqL.of f3⟩, _, rfl, lt, _, 0, _, rfl, rfl, f3, small1000 (by rw [List.length_dropLast]; omega), by decide, by decide, ?_⟩
      have og4 := og_put f3 (o := .lst (xs.dropLast.take (0 : Int).toNat ++ [y] ++ xs.dropLast.drop (0 : Int).toNat)) (oy3.app og3)
      have d4 : Dr wl H7 (upd G3 lt (.lst (xs.dropLast.take (0 : Int).toNat ++ [y] ++ xs.dropLast.drop (0 : Int).toNat))) := set_well d3 h70 nlt
      have f4 : (upd G3 lt (.lst (xs.dropLast.take (0 : Int).toNat ++ [y] ++ xs.dropLast.drop (0 : Int).toNat))) lt = some (.lst ([y] ++ xs.dropLast)) := by
        rw [upd_same, show (0 : Int).toNat = 0 from rfl, List.take_zero, List.drop_zero, List.nil_append]
      generalize upd G3 lt (.lst (xs.dropLast.take (0 : Int).toNat ++ [y] ++ xs.dropLast.drop (0 : Int).toNat)) = G4 at og4 d4 f4
      have c24 := (rows_g (gs := gs) (ws := ws) (es := [yd] ++ es0.dropLast) (fun e he => (List.mem_append.mp he).elim (fun h => by rw [List.mem_singleton.mp h]; exact eT yd (List.mem_of_getElem? hyd)) fun h => eT e (List.mem_of_mem_take (by rw [← List.dropLast_eq_take]; exact h))) (by rw [List.length_append, List.length_dropLast]; show 1 + _ ≤ _; omega)).1
      have x4 : Dx K Any G4 (.ref lt) (.list ([yd] ++ es0.dropLast)) := .lst f4 trivial (DxAll.from2 (og4.2.imp fun _ _ r => r.any))
      refine ⟨_, rfl, _, rfl, p, ng, nw, gs, ws, 5, .ref lt, _, rfl, NA7.drW V7 np nng nnw d4, N, by decide, x4, c24, fun r3 G6 sg6 dpg6 => ?_⟩
      have d6 := d4.trans (Dr.ofSame d4.well sg6)
      refine ⟨_, rfl, _, rfl, _, rfl, lg, lw, gs, ws, .ref lt, _, rfl, G7.dr nlg V7 d6, W7.dr nlw V7 d6, N, x4.same sg6, c24, fun r4 G8 sg7 dpg7 => ?_⟩
      have shq2 := paper_or gs ws (.list ([yd] ++ es0.dropLast))
      refine ⟨_, _, dp_same dpg6 sg7, dpg7, shq2.2.ok (by decide), shq2.2.ok (by decide), false, (by rw [SeqAt.eqv_refl _ shq2.2.1]; rfl), iteF ?_⟩
      exact fin (d6.trans (Dr.ofSame d6.well sg7))
    · rintro σ H' ⟨_, _, _, _, _, _, _, _, _, _, _, _, rfl, e3⟩
      exact q H'
end
end Lag

set_option maxRecDepth 100000
set_option maxHeartbeats 8000000
namespace Lag
open PySem PySem.Spec PyProof.Rows L2
theorem exm_of {K : PySem.W.Frag} {S C : Addr} (h1 : PySem.W.subIn K (.ref C) (.type "BaseException") = some true) (h2 : PySem.W.isClsIn K C = true) (h3 : PySem.W.typeIn K (.ref C) = some (.type "type")) (h4 : PySem.W.subIn K (.ref S) (.ref C) = some true) :
    PySem.W.exmOne K (.ref S) (.ref C) = some true := by
  have e1 : (PySem.W.subIn K (.ref C) (.type "BaseException") == some true) = true := by rw [h1] <;> rfl
  have e2 : ((PySem.W.clsIn K C).isSome && PySem.W.typeIn K (.ref C) == some (.type "type")) = true := by
    have h2' : (PySem.W.clsIn K C).isSome = true := h2
    rw [h2', h3] <;> rfl
  show (if (PySem.W.subIn K (.ref C) (.type "BaseException") == some true) = true then (if ((PySem.W.clsIn K C).isSome && PySem.W.typeIn K (.ref C) == some (.type "type")) = true then PySem.W.subIn K (.ref S) (.ref C) else none) else none) = some true
  rw [if_pos e1, if_pos e2]
  exact h4
theorem kit_type {K : PySem.W.Frag} {S : Addr} {T : String} {b : Bool} (h1 : PySem.W.kitMeta T = true) (h2 : PySem.W.subIn K (.ref S) (.type T) = some b) : PySem.W.kitOne K (.ref S) (.type T) = some b := by
  have e0 : ((Value.ref S) == (Value.type T)) = false := rfl
  show (if ((Value.ref S) == (Value.type T)) = true then some true else (if PySem.W.kitMeta T = true then PySem.W.subIn K (.ref S) (.type T) else none)) = some b
  rw [e0, if_neg (by decide), if_pos h1]
  exact h2
theorem kit_not {K : PySem.W.Frag} {S C : Addr} (h2 : PySem.W.isClsIn K C = true) (h3 : PySem.W.typeIn K (.ref C) = some (.type "type")) (h4 : PySem.W.subIn K (.ref S) (.ref S) = some true) (h5 : PySem.W.subIn K (.ref S) (.ref C) = some false) :
    PySem.W.kitOne K (.ref S) (.ref C) = some false := by
  have ne : ¬ (((Value.ref S) == (Value.ref C)) = true) := fun z => by
    have z' : S = C := by
      have z2 := beq_iff_eq.mp z
      cases z2
      rfl
    rw [z'] at h4 h5
    rw [h4] at h5
    cases h5
  have e2 : ((PySem.W.clsIn K C).isSome && PySem.W.typeIn K (.ref C) == some (.type "type")) = true := by
    have h2' : (PySem.W.clsIn K C).isSome = true := h2
    rw [h2', h3] <;> rfl
  show (if ((Value.ref S) == (Value.ref C)) = true then some true else (if ((PySem.W.clsIn K C).isSome && PySem.W.typeIn K (.ref C) == some (.type "type")) = true then PySem.W.subIn K (.ref S) (.ref C) else none)) = some false
  rw [if_neg ne, if_pos e2]
  exact h5
theorem exm_any {K : PySem.W.Frag} {S C : Addr} {b : Bool} (h1 : PySem.W.subIn K (.ref C) (.type "BaseException") = some true) (h2 : PySem.W.isClsIn K C = true) (h3 : PySem.W.typeIn K (.ref C) = some (.type "type")) (h4 : PySem.W.subIn K (.ref S) (.ref C) = some b) :
    PySem.W.exmOne K (.ref S) (.ref C) = some b := by
  have e1 : (PySem.W.subIn K (.ref C) (.type "BaseException") == some true) = true := by rw [h1] <;> rfl
  have e2 : ((PySem.W.clsIn K C).isSome && PySem.W.typeIn K (.ref C) == some (.type "type")) = true := by
    have h2' : (PySem.W.clsIn K C).isSome = true := h2
    rw [h2', h3] <;> rfl
  show (if (PySem.W.subIn K (.ref C) (.type "BaseException") == some true) = true then (if ((PySem.W.clsIn K C).isSome && PySem.W.typeIn K (.ref C) == some (.type "type")) = true then PySem.W.subIn K (.ref S) (.ref C) else none) else none) = some b
  rw [if_pos e1, if_pos e2]
  exact h4
theorem kitAny_cons {K : PySem.W.Frag} {t c : Value} {r : List Value} {b : Bool} (h : PySem.W.kitOne K t c = some false) (h2 : PySem.W.kitAny K t r = some b) : PySem.W.kitAny K t (c :: r) = some b := by
  unfold PySem.W.kitAny
  rw [h]
  exact h2
theorem all_mk {l : PySem.W.OpenLaw} {w : World} {K : PySem.W.Frag} {h : Heap} {mg : Str → Option Value} {fa C : Addr} (X : K.In h) (G : h.Ns mainGlobals mg) (hfa : mg "law" = some (.ref fa))
    {C0 CB CT CP : Addr}
    {fd0 : Addr} {odd0 and0 : Option Addr} {sld0 : Array (Option Value)} {ocd0 kVd0 dcd0 pmd0 cdd0 ctd0 : Value}
    {fd1 : Addr} {odd1 and1 : Option Addr} {sld1 : Array (Option Value)} {ocd1 kVd1 dcd1 pmd1 cdd1 ctd1 : Value}
    {fd2 : Addr} {odd2 and2 : Option Addr} {sld2 : Array (Option Value)} {ocd2 kVd2 dcd2 pmd2 cdd2 ctd2 : Value}
    {fd3 : Addr} {odd3 and3 : Option Addr} {sld3 : Array (Option Value)} {ocd3 kVd3 dcd3 pmd3 cdd3 ctd3 : Value}
    {fd4 : Addr} {odd4 and4 : Option Addr} {sld4 : Array (Option Value)} {ocd4 kVd4 dcd4 pmd4 cdd4 ctd4 : Value}
    {fd5 : Addr} {odd5 and5 : Option Addr} {sld5 : Array (Option Value)} {ocd5 kVd5 dcd5 pmd5 cdd5 ctd5 : Value}
    {fd6 : Addr} {odd6 and6 : Option Addr} {sld6 : Array (Option Value)} {ocd6 kVd6 dcd6 pmd6 cdd6 ctd6 : Value}
    {fd7 : Addr} {odd7 and7 : Option Addr} {sld7 : Array (Option Value)} {ocd7 kVd7 dcd7 pmd7 cdd7 ctd7 : Value}
    {fd8 : Addr} {odd8 and8 : Option Addr} {sld8 : Array (Option Value)} {ocd8 kVd8 dcd8 pmd8 cdd8 ctd8 : Value}
    {fd9 : Addr} {odd9 and9 : Option Addr} {sld9 : Array (Option Value)} {ocd9 kVd9 dcd9 pmd9 cdd9 ctd9 : Value}
    {fd10 : Addr} {odd10 and10 : Option Addr} {sld10 : Array (Option Value)} {ocd10 kVd10 dcd10 pmd10 cdd10 ctd10 : Value}
    {fd11 : Addr} {odd11 and11 : Option Addr} {sld11 : Array (Option Value)} {ocd11 kVd11 dcd11 pmd11 cdd11 ctd11 : Value}
    {fd12 : Addr} {odd12 and12 : Option Addr} {sld12 : Array (Option Value)} {ocd12 kVd12 dcd12 pmd12 cdd12 ctd12 : Value}
    {fd13 : Addr} {odd13 and13 : Option Addr} {sld13 : Array (Option Value)} {ocd13 kVd13 dcd13 pmd13 cdd13 ctd13 : Value}
    {fd14 : Addr} {odd14 and14 : Option Addr} {sld14 : Array (Option Value)} {ocd14 kVd14 dcd14 pmd14 cdd14 ctd14 : Value}
    {fd15 : Addr} {odd15 and15 : Option Addr} {sld15 : Array (Option Value)} {ocd15 kVd15 dcd15 pmd15 cdd15 ctd15 : Value}
    {fd16 : Addr} {odd16 and16 : Option Addr} {sld16 : Array (Option Value)} {ocd16 kVd16 dcd16 pmd16 cdd16 ctd16 : Value}
    {fd17 : Addr} {odd17 and17 : Option Addr} {sld17 : Array (Option Value)} {ocd17 kVd17 dcd17 pmd17 cdd17 ctd17 : Value}
    {fd18 : Addr} {odd18 and18 : Option Addr} {sld18 : Array (Option Value)} {ocd18 kVd18 dcd18 pmd18 cdd18 ctd18 : Value}
    {fd19 : Addr} {odd19 and19 : Option Addr} {sld19 : Array (Option Value)} {ocd19 kVd19 dcd19 pmd19 cdd19 ctd19 : Value}
    {fd20 : Addr} {odd20 and20 : Option Addr} {sld20 : Array (Option Value)} {ocd20 kVd20 dcd20 pmd20 cdd20 ctd20 : Value}
    {fd21 : Addr} {odd21 and21 : Option Addr} {sld21 : Array (Option Value)} {ocd21 kVd21 dcd21 pmd21 cdd21 ctd21 : Value}
    {fd22 : Addr} {odd22 and22 : Option Addr} {sld22 : Array (Option Value)} {ocd22 kVd22 dcd22 pmd22 cdd22 ctd22 : Value}
    {fd23 : Addr} {odd23 and23 : Option Addr} {sld23 : Array (Option Value)} {ocd23 kVd23 dcd23 pmd23 cdd23 ctd23 : Value}
    {fd24 : Addr} {odd24 and24 : Option Addr} {sld24 : Array (Option Value)} {ocd24 kVd24 dcd24 pmd24 cdd24 ctd24 : Value}
    {fd25 : Addr} {odd25 and25 : Option Addr} {sld25 : Array (Option Value)} {ocd25 kVd25 dcd25 pmd25 cdd25 ctd25 : Value}
    {fd26 : Addr} {odd26 and26 : Option Addr} {sld26 : Array (Option Value)} {ocd26 kVd26 dcd26 pmd26 cdd26 ctd26 : Value}
    {fd27 : Addr} {odd27 and27 : Option Addr} {sld27 : Array (Option Value)} {ocd27 kVd27 dcd27 pmd27 cdd27 ctd27 : Value}
    {fd28 : Addr} {odd28 and28 : Option Addr} {sld28 : Array (Option Value)} {ocd28 kVd28 dcd28 pmd28 cdd28 ctd28 : Value}
    {fd29 : Addr} {odd29 and29 : Option Addr} {sld29 : Array (Option Value)} {ocd29 kVd29 dcd29 pmd29 cdd29 ctd29 : Value}
    {fd30 : Addr} {odd30 and30 : Option Addr} {sld30 : Array (Option Value)} {ocd30 kVd30 dcd30 pmd30 cdd30 ctd30 : Value}
    {fd31 : Addr} {odd31 and31 : Option Addr} {sld31 : Array (Option Value)} {ocd31 kVd31 dcd31 pmd31 cdd31 ctd31 : Value}
    {fd32 : Addr} {odd32 and32 : Option Addr} {sld32 : Array (Option Value)} {ocd32 kVd32 dcd32 pmd32 cdd32 ctd32 : Value}
    {fd33 : Addr} {odd33 and33 : Option Addr} {sld33 : Array (Option Value)} {ocd33 kVd33 dcd33 pmd33 cdd33 ctd33 : Value}
    {fd34 : Addr} {odd34 and34 : Option Addr} {sld34 : Array (Option Value)} {ocd34 kVd34 dcd34 pmd34 cdd34 ctd34 : Value}
    {fd35 : Addr} {odd35 and35 : Option Addr} {sld35 : Array (Option Value)} {ocd35 kVd35 dcd35 pmd35 cdd35 ctd35 : Value}
    {fd36 : Addr} {odd36 and36 : Option Addr} {sld36 : Array (Option Value)} {ocd36 kVd36 dcd36 pmd36 cdd36 ctd36 : Value}
    {fd37 : Addr} {odd37 and37 : Option Addr} {sld37 : Array (Option Value)} {ocd37 kVd37 dcd37 pmd37 cdd37 ctd37 : Value}
    {fd38 : Addr} {odd38 and38 : Option Addr} {sld38 : Array (Option Value)} {ocd38 kVd38 dcd38 pmd38 cdd38 ctd38 : Value}
    {fd39 : Addr} {odd39 and39 : Option Addr} {sld39 : Array (Option Value)} {ocd39 kVd39 dcd39 pmd39 cdd39 ctd39 : Value}
    {fd40 : Addr} {odd40 and40 : Option Addr} {sld40 : Array (Option Value)} {ocd40 kVd40 dcd40 pmd40 cdd40 ctd40 : Value}
    {fd41 : Addr} {odd41 and41 : Option Addr} {sld41 : Array (Option Value)} {ocd41 kVd41 dcd41 pmd41 cdd41 ctd41 : Value}
    {fd42 : Addr} {odd42 and42 : Option Addr} {sld42 : Array (Option Value)} {ocd42 kVd42 dcd42 pmd42 cdd42 ctd42 : Value}
    {fd43 : Addr} {odd43 and43 : Option Addr} {sld43 : Array (Option Value)} {ocd43 kVd43 dcd43 pmd43 cdd43 ctd43 : Value}
    {fd44 : Addr} {odd44 and44 : Option Addr} {sld44 : Array (Option Value)} {ocd44 kVd44 dcd44 pmd44 cdd44 ctd44 : Value}
    {fd45 : Addr} {odd45 and45 : Option Addr} {sld45 : Array (Option Value)} {ocd45 kVd45 dcd45 pmd45 cdd45 ctd45 : Value}
    {fd46 : Addr} {odd46 and46 : Option Addr} {sld46 : Array (Option Value)} {ocd46 kVd46 dcd46 pmd46 cdd46 ctd46 : Value}
    {fd47 : Addr} {odd47 and47 : Option Addr} {sld47 : Array (Option Value)} {ocd47 kVd47 dcd47 pmd47 cdd47 ctd47 : Value}
    {fd48 : Addr} {odd48 and48 : Option Addr} {sld48 : Array (Option Value)} {ocd48 kVd48 dcd48 pmd48 cdd48 ctd48 : Value}
    {fd49 : Addr} {odd49 and49 : Option Addr} {sld49 : Array (Option Value)} {ocd49 kVd49 dcd49 pmd49 cdd49 ctd49 : Value}
    {fd50 : Addr} {odd50 and50 : Option Addr} {sld50 : Array (Option Value)} {ocd50 kVd50 dcd50 pmd50 cdd50 ctd50 : Value}
    {fd51 : Addr} {odd51 and51 : Option Addr} {sld51 : Array (Option Value)} {ocd51 kVd51 dcd51 pmd51 cdd51 ctd51 : Value}
    {fd52 : Addr} {odd52 and52 : Option Addr} {sld52 : Array (Option Value)} {ocd52 kVd52 dcd52 pmd52 cdd52 ctd52 : Value}
    {fd53 : Addr} {odd53 and53 : Option Addr} {sld53 : Array (Option Value)} {ocd53 kVd53 dcd53 pmd53 cdd53 ctd53 : Value}
    {fd54 : Addr} {odd54 and54 : Option Addr} {sld54 : Array (Option Value)} {ocd54 kVd54 dcd54 pmd54 cdd54 ctd54 : Value}
    {fd55 : Addr} {odd55 and55 : Option Addr} {sld55 : Array (Option Value)} {ocd55 kVd55 dcd55 pmd55 cdd55 ctd55 : Value}
    {fd56 : Addr} {odd56 and56 : Option Addr} {sld56 : Array (Option Value)} {ocd56 kVd56 dcd56 pmd56 cdd56 ctd56 : Value}
    {fd57 : Addr} {odd57 and57 : Option Addr} {sld57 : Array (Option Value)} {ocd57 kVd57 dcd57 pmd57 cdd57 ctd57 : Value}
    {fd58 : Addr} {odd58 and58 : Option Addr} {sld58 : Array (Option Value)} {ocd58 kVd58 dcd58 pmd58 cdd58 ctd58 : Value}
    {fd59 : Addr} {odd59 and59 : Option Addr} {sld59 : Array (Option Value)} {ocd59 kVd59 dcd59 pmd59 cdd59 ctd59 : Value}
    {fd60 : Addr} {odd60 and60 : Option Addr} {sld60 : Array (Option Value)} {ocd60 kVd60 dcd60 pmd60 cdd60 ctd60 : Value}
    {fd61 : Addr} {odd61 and61 : Option Addr} {sld61 : Array (Option Value)} {ocd61 kVd61 dcd61 pmd61 cdd61 ctd61 : Value}
    {fm0 : Addr} {odm0 anm0 : Option Addr} {slm0 : Array (Option Value)} {ocm0 kVm0 dcm0 pmm0 cdm0 ctm0 : Value}
    {tGW tGA tGL : Tok}
    {aK nnK : Nat} {ddK : Option Addr} {ssK : Array (Option Value)} {tK0 tK1 tK2 tK3 tK4 tK5 tK6 tK7 : Tok}
    {aW nnW : Nat} {ddW : Option Addr} {ssW : Array (Option Value)} {tW0 tW1 : Tok}
    {aF nnF : Nat} {ddF : Option Addr} {ssF : Array (Option Value)} {tF0 tF1 : Tok}
    (aC : PySem.W.nsIn K mainGlobals "Net" = some (some (.ref C)))
    (ad0 : PySem.W.nsIn K mainGlobals "is_whole" = some (some (.ref fd0)))
    (ld0 : K.lookup fd0 = some ⟨ocd0, odd0, .func (PySem.W.fnOf "is_whole" "is_whole" (defArgs sWhole) (defBody sWhole) (defScope sWhole) .none kVd0 dcd0 pmd0 and0 cdd0 ctd0), sld0⟩)
    (cd0 : PySem.W.codeIn K cdd0 "is_whole" = true)
    (kd0 : PySem.W.keepIn K (.ref fd0) = true)
    (ad1 : PySem.W.nsIn K mainGlobals "is_whole_from_to" = some (some (.ref fd1)))
    (ld1 : K.lookup fd1 = some ⟨ocd1, odd1, .func (PySem.W.fnOf "is_whole_from_to" "is_whole_from_to" (defArgs sFromTo) (defBody sFromTo) (defScope sFromTo) .none kVd1 dcd1 pmd1 and1 cdd1 ctd1), sld1⟩)
    (cd1 : PySem.W.codeIn K cdd1 "is_whole_from_to" = true)
    (kd1 : PySem.W.keepIn K (.ref fd1) = true)
    (ad2 : PySem.W.nsIn K mainGlobals "is_worth" = some (some (.ref fd2)))
    (ld2 : K.lookup fd2 = some ⟨ocd2, odd2, .func (PySem.W.fnOf "is_worth" "is_worth" (defArgs sWorth) (defBody sWorth) (defScope sWorth) .none kVd2 dcd2 pmd2 and2 cdd2 ctd2), sld2⟩)
    (cd2 : PySem.W.codeIn K cdd2 "is_worth" = true)
    (kd2 : PySem.W.keepIn K (.ref fd2) = true)
    (ad3 : PySem.W.nsIn K mainGlobals "is_gate" = some (some (.ref fd3)))
    (ld3 : K.lookup fd3 = some ⟨ocd3, odd3, .func (PySem.W.fnOf "is_gate" "is_gate" (defArgs sIsGate) (defBody sIsGate) (defScope sIsGate) .none kVd3 dcd3 pmd3 and3 cdd3 ctd3), sld3⟩)
    (cd3 : PySem.W.codeIn K cdd3 "is_gate" = true)
    (kd3 : PySem.W.keepIn K (.ref fd3) = true)
    (ad4 : PySem.W.nsIn K mainGlobals "check_gates" = some (some (.ref fd4)))
    (ld4 : K.lookup fd4 = some ⟨ocd4, odd4, .func (PySem.W.fnOf "check_gates" "check_gates" (defArgs sChkGates) (defBody sChkGates) (defScope sChkGates) .none kVd4 dcd4 pmd4 and4 cdd4 ctd4), sld4⟩)
    (cd4 : PySem.W.codeIn K cdd4 "check_gates" = true)
    (kd4 : PySem.W.keepIn K (.ref fd4) = true)
    (ad5 : PySem.W.nsIn K mainGlobals "is_wire" = some (some (.ref fd5)))
    (ld5 : K.lookup fd5 = some ⟨ocd5, odd5, .func (PySem.W.fnOf "is_wire" "is_wire" (defArgs sIsWire) (defBody sIsWire) (defScope sIsWire) .none kVd5 dcd5 pmd5 and5 cdd5 ctd5), sld5⟩)
    (cd5 : PySem.W.codeIn K cdd5 "is_wire" = true)
    (kd5 : PySem.W.keepIn K (.ref fd5) = true)
    (ad6 : PySem.W.nsIn K mainGlobals "is_taken" = some (some (.ref fd6)))
    (ld6 : K.lookup fd6 = some ⟨ocd6, odd6, .func (PySem.W.fnOf "is_taken" "is_taken" (defArgs sTaken) (defBody sTaken) (defScope sTaken) .none kVd6 dcd6 pmd6 and6 cdd6 ctd6), sld6⟩)
    (cd6 : PySem.W.codeIn K cdd6 "is_taken" = true)
    (kd6 : PySem.W.keepIn K (.ref fd6) = true)
    (ad7 : PySem.W.nsIn K mainGlobals "check_wires" = some (some (.ref fd7)))
    (ld7 : K.lookup fd7 = some ⟨ocd7, odd7, .func (PySem.W.fnOf "check_wires" "check_wires" (defArgs sChkWires) (defBody sChkWires) (defScope sChkWires) .none kVd7 dcd7 pmd7 and7 cdd7 ctd7), sld7⟩)
    (cd7 : PySem.W.codeIn K cdd7 "check_wires" = true)
    (kd7 : PySem.W.keepIn K (.ref fd7) = true)
    (ad8 : PySem.W.nsIn K mainGlobals "order_along" = some (some (.ref fd8)))
    (ld8 : K.lookup fd8 = some ⟨ocd8, odd8, .func (PySem.W.fnOf "order_along" "order_along" (defArgs sAlong) (defBody sAlong) (defScope sAlong) .none kVd8 dcd8 pmd8 and8 cdd8 ctd8), sld8⟩)
    (cd8 : PySem.W.codeIn K cdd8 "order_along" = true)
    (kd8 : PySem.W.keepIn K (.ref fd8) = true)
    (ad9 : PySem.W.nsIn K mainGlobals "bare_order" = some (some (.ref fd9)))
    (ld9 : K.lookup fd9 = some ⟨ocd9, odd9, .func (PySem.W.fnOf "bare_order" "bare_order" (defArgs sOrder) (defBody sOrder) (defScope sOrder) .none kVd9 dcd9 pmd9 and9 cdd9 ctd9), sld9⟩)
    (cd9 : PySem.W.codeIn K cdd9 "bare_order" = true)
    (kd9 : PySem.W.keepIn K (.ref fd9) = true)
    (ad10 : PySem.W.nsIn K mainGlobals "check_rings" = some (some (.ref fd10)))
    (ld10 : K.lookup fd10 = some ⟨ocd10, odd10, .func (PySem.W.fnOf "check_rings" "check_rings" (defArgs sChkRings) (defBody sChkRings) (defScope sChkRings) .none kVd10 dcd10 pmd10 and10 cdd10 ctd10), sld10⟩)
    (cd10 : PySem.W.codeIn K cdd10 "check_rings" = true)
    (kd10 : PySem.W.keepIn K (.ref fd10) = true)
    (ad11 : PySem.W.nsIn K mainGlobals "is_outer" = some (some (.ref fd11)))
    (ld11 : K.lookup fd11 = some ⟨ocd11, odd11, .func (PySem.W.fnOf "is_outer" "is_outer" (defArgs sOuter) (defBody sOuter) (defScope sOuter) .none kVd11 dcd11 pmd11 and11 cdd11 ctd11), sld11⟩)
    (cd11 : PySem.W.codeIn K cdd11 "is_outer" = true)
    (kd11 : PySem.W.keepIn K (.ref fd11) = true)
    (ad12 : PySem.W.nsIn K mainGlobals "best_from" = some (some (.ref fd12)))
    (ld12 : K.lookup fd12 = some ⟨ocd12, odd12, .func (PySem.W.fnOf "best_from" "best_from" (defArgs sBestFrom) (defBody sBestFrom) (defScope sBestFrom) .none kVd12 dcd12 pmd12 and12 cdd12 ctd12), sld12⟩)
    (cd12 : PySem.W.codeIn K cdd12 "best_from" = true)
    (kd12 : PySem.W.keepIn K (.ref fd12) = true)
    (ad13 : PySem.W.nsIn K mainGlobals "way_to" = some (some (.ref fd13)))
    (ld13 : K.lookup fd13 = some ⟨ocd13, odd13, .func (PySem.W.fnOf "way_to" "way_to" (defArgs sWayTo) (defBody sWayTo) (defScope sWayTo) .none kVd13 dcd13 pmd13 and13 cdd13 ctd13), sld13⟩)
    (cd13 : PySem.W.codeIn K cdd13 "way_to" = true)
    (kd13 : PySem.W.keepIn K (.ref fd13) = true)
    (ad14 : PySem.W.nsIn K mainGlobals "wait_of" = some (some (.ref fd14)))
    (ld14 : K.lookup fd14 = some ⟨ocd14, odd14, .func (PySem.W.fnOf "wait_of" "wait_of" (defArgs sWaitOf) (defBody sWaitOf) (defScope sWaitOf) .none kVd14 dcd14 pmd14 and14 cdd14 ctd14), sld14⟩)
    (cd14 : PySem.W.codeIn K cdd14 "wait_of" = true)
    (kd14 : PySem.W.keepIn K (.ref fd14) = true)
    (ad15 : PySem.W.nsIn K mainGlobals "room_of" = some (some (.ref fd15)))
    (ld15 : K.lookup fd15 = some ⟨ocd15, odd15, .func (PySem.W.fnOf "room_of" "room_of" (defArgs sRoomOf) (defBody sRoomOf) (defScope sRoomOf) .none kVd15 dcd15 pmd15 and15 cdd15 ctd15), sld15⟩)
    (cd15 : PySem.W.codeIn K cdd15 "room_of" = true)
    (kd15 : PySem.W.keepIn K (.ref fd15) = true)
    (ad16 : PySem.W.nsIn K mainGlobals "spots_in" = some (some (.ref fd16)))
    (ld16 : K.lookup fd16 = some ⟨ocd16, odd16, .func (PySem.W.fnOf "spots_in" "spots_in" (defArgs sSpotsIn) (defBody sSpotsIn) (defScope sSpotsIn) .none kVd16 dcd16 pmd16 and16 cdd16 ctd16), sld16⟩)
    (cd16 : PySem.W.codeIn K cdd16 "spots_in" = true)
    (kd16 : PySem.W.keepIn K (.ref fd16) = true)
    (ad17 : PySem.W.nsIn K mainGlobals "spots_of" = some (some (.ref fd17)))
    (ld17 : K.lookup fd17 = some ⟨ocd17, odd17, .func (PySem.W.fnOf "spots_of" "spots_of" (defArgs sSpotsOf) (defBody sSpotsOf) (defScope sSpotsOf) .none kVd17 dcd17 pmd17 and17 cdd17 ctd17), sld17⟩)
    (cd17 : PySem.W.codeIn K cdd17 "spots_of" = true)
    (kd17 : PySem.W.keepIn K (.ref fd17) = true)
    (ad18 : PySem.W.nsIn K mainGlobals "lags_at" = some (some (.ref fd18)))
    (ld18 : K.lookup fd18 = some ⟨ocd18, odd18, .func (PySem.W.fnOf "lags_at" "lags_at" (defArgs sLagsAt) (defBody sLagsAt) (defScope sLagsAt) .none kVd18 dcd18 pmd18 and18 cdd18 ctd18), sld18⟩)
    (cd18 : PySem.W.codeIn K cdd18 "lags_at" = true)
    (kd18 : PySem.W.keepIn K (.ref fd18) = true)
    (ad19 : PySem.W.nsIn K mainGlobals "bounds_for" = some (some (.ref fd19)))
    (ld19 : K.lookup fd19 = some ⟨ocd19, odd19, .func (PySem.W.fnOf "bounds_for" "bounds_for" (defArgs sBoundsFor) (defBody sBoundsFor) (defScope sBoundsFor) .none kVd19 dcd19 pmd19 and19 cdd19 ctd19), sld19⟩)
    (cd19 : PySem.W.codeIn K cdd19 "bounds_for" = true)
    (kd19 : PySem.W.keepIn K (.ref fd19) = true)
    (ad20 : PySem.W.nsIn K mainGlobals "ring_from" = some (some (.ref fd20)))
    (ld20 : K.lookup fd20 = some ⟨ocd20, odd20, .func (PySem.W.fnOf "ring_from" "ring_from" (defArgs sRingFrom) (defBody sRingFrom) (defScope sRingFrom) .none kVd20 dcd20 pmd20 and20 cdd20 ctd20), sld20⟩)
    (cd20 : PySem.W.codeIn K cdd20 "ring_from" = true)
    (kd20 : PySem.W.keepIn K (.ref fd20) = true)
    (ad21 : PySem.W.nsIn K mainGlobals "settle" = some (some (.ref fd21)))
    (ld21 : K.lookup fd21 = some ⟨ocd21, odd21, .func (PySem.W.fnOf "settle" "settle" (defArgs sSettle) (defBody sSettle) (defScope sSettle) .none kVd21 dcd21 pmd21 and21 cdd21 ctd21), sld21⟩)
    (cd21 : PySem.W.codeIn K cdd21 "settle" = true)
    (kd21 : PySem.W.keepIn K (.ref fd21) = true)
    (ad22 : PySem.W.nsIn K mainGlobals "check_beat" = some (some (.ref fd22)))
    (ld22 : K.lookup fd22 = some ⟨ocd22, odd22, .func (PySem.W.fnOf "check_beat" "check_beat" (defArgs sChkBeat) (defBody sChkBeat) (defScope sChkBeat) .none kVd22 dcd22 pmd22 and22 cdd22 ctd22), sld22⟩)
    (cd22 : PySem.W.codeIn K cdd22 "check_beat" = true)
    (kd22 : PySem.W.keepIn K (.ref fd22) = true)
    (ad23 : PySem.W.nsIn K mainGlobals "for_beat" = some (some (.ref fd23)))
    (ld23 : K.lookup fd23 = some ⟨ocd23, odd23, .func (PySem.W.fnOf "for_beat" "for_beat" (defArgs sForBeat) (defBody sForBeat) (defScope sForBeat) .none kVd23 dcd23 pmd23 and23 cdd23 ctd23), sld23⟩)
    (cd23 : PySem.W.codeIn K cdd23 "for_beat" = true)
    (kd23 : PySem.W.keepIn K (.ref fd23) = true)
    (ad24 : PySem.W.nsIn K mainGlobals "between" = some (some (.ref fd24)))
    (ld24 : K.lookup fd24 = some ⟨ocd24, odd24, .func (PySem.W.fnOf "between" "between" (defArgs sBetween) (defBody sBetween) (defScope sBetween) .none kVd24 dcd24 pmd24 and24 cdd24 ctd24), sld24⟩)
    (cd24 : PySem.W.codeIn K cdd24 "between" = true)
    (kd24 : PySem.W.keepIn K (.ref fd24) = true)
    (ad25 : PySem.W.nsIn K mainGlobals "least_beat" = some (some (.ref fd25)))
    (ld25 : K.lookup fd25 = some ⟨ocd25, odd25, .func (PySem.W.fnOf "least_beat" "least_beat" (defArgs sLeastBeat) (defBody sLeastBeat) (defScope sLeastBeat) .none kVd25 dcd25 pmd25 and25 cdd25 ctd25), sld25⟩)
    (cd25 : PySem.W.codeIn K cdd25 "least_beat" = true)
    (kd25 : PySem.W.keepIn K (.ref fd25) = true)
    (ad26 : PySem.W.nsIn K mainGlobals "is_piece" = some (some (.ref fd26)))
    (ld26 : K.lookup fd26 = some ⟨ocd26, odd26, .func (PySem.W.fnOf "is_piece" "is_piece" (defArgs sIsPiece) (defBody sIsPiece) (defScope sIsPiece) .none kVd26 dcd26 pmd26 and26 cdd26 ctd26), sld26⟩)
    (cd26 : PySem.W.codeIn K cdd26 "is_piece" = true)
    (kd26 : PySem.W.keepIn K (.ref fd26) = true)
    (ad27 : PySem.W.nsIn K mainGlobals "end_of" = some (some (.ref fd27)))
    (ld27 : K.lookup fd27 = some ⟨ocd27, odd27, .func (PySem.W.fnOf "end_of" "end_of" (defArgs sEndOf) (defBody sEndOf) (defScope sEndOf) .none kVd27 dcd27 pmd27 and27 cdd27 ctd27), sld27⟩)
    (cd27 : PySem.W.codeIn K cdd27 "end_of" = true)
    (kd27 : PySem.W.keepIn K (.ref fd27) = true)
    (ad28 : PySem.W.nsIn K mainGlobals "ends_of" = some (some (.ref fd28)))
    (ld28 : K.lookup fd28 = some ⟨ocd28, odd28, .func (PySem.W.fnOf "ends_of" "ends_of" (defArgs sEndsOf) (defBody sEndsOf) (defScope sEndsOf) .none kVd28 dcd28 pmd28 and28 cdd28 ctd28), sld28⟩)
    (cd28 : PySem.W.codeIn K cdd28 "ends_of" = true)
    (kd28 : PySem.W.keepIn K (.ref fd28) = true)
    (ad29 : PySem.W.nsIn K mainGlobals "both_ways" = some (some (.ref fd29)))
    (ld29 : K.lookup fd29 = some ⟨ocd29, odd29, .func (PySem.W.fnOf "both_ways" "both_ways" (defArgs sBothWays) (defBody sBothWays) (defScope sBothWays) .none kVd29 dcd29 pmd29 and29 cdd29 ctd29), sld29⟩)
    (cd29 : PySem.W.codeIn K cdd29 "both_ways" = true)
    (kd29 : PySem.W.keepIn K (.ref fd29) = true)
    (ad30 : PySem.W.nsIn K mainGlobals "change_along" = some (some (.ref fd30)))
    (ld30 : K.lookup fd30 = some ⟨ocd30, odd30, .func (PySem.W.fnOf "change_along" "change_along" (defArgs sChange) (defBody sChange) (defScope sChange) .none kVd30 dcd30 pmd30 and30 cdd30 ctd30), sld30⟩)
    (cd30 : PySem.W.codeIn K cdd30 "change_along" = true)
    (kd30 : PySem.W.keepIn K (.ref fd30) = true)
    (ad31 : PySem.W.nsIn K mainGlobals "least_flow" = some (some (.ref fd31)))
    (ld31 : K.lookup fd31 = some ⟨ocd31, odd31, .func (PySem.W.fnOf "least_flow" "least_flow" (defArgs sLeastFlow) (defBody sLeastFlow) (defScope sLeastFlow) .none kVd31 dcd31 pmd31 and31 cdd31 ctd31), sld31⟩)
    (cd31 : PySem.W.codeIn K cdd31 "least_flow" = true)
    (kd31 : PySem.W.keepIn K (.ref fd31) = true)
    (ad32 : PySem.W.nsIn K mainGlobals "near_lags" = some (some (.ref fd32)))
    (ld32 : K.lookup fd32 = some ⟨ocd32, odd32, .func (PySem.W.fnOf "near_lags" "near_lags" (defArgs sNearLags) (defBody sNearLags) (defScope sNearLags) .none kVd32 dcd32 pmd32 and32 cdd32 ctd32), sld32⟩)
    (cd32 : PySem.W.codeIn K cdd32 "near_lags" = true)
    (kd32 : PySem.W.keepIn K (.ref fd32) = true)
    (ad33 : PySem.W.nsIn K mainGlobals "registers" = some (some (.ref fd33)))
    (ld33 : K.lookup fd33 = some ⟨ocd33, odd33, .func (PySem.W.fnOf "registers" "registers" (defArgs sRegisters) (defBody sRegisters) (defScope sRegisters) .none kVd33 dcd33 pmd33 and33 cdd33 ctd33), sld33⟩)
    (cd33 : PySem.W.codeIn K cdd33 "registers" = true)
    (kd33 : PySem.W.keepIn K (.ref fd33) = true)
    (ad34 : PySem.W.nsIn K mainGlobals "plain_flow" = some (some (.ref fd34)))
    (ld34 : K.lookup fd34 = some ⟨ocd34, odd34, .func (PySem.W.fnOf "plain_flow" "plain_flow" (defArgs sPlainFlow) (defBody sPlainFlow) (defScope sPlainFlow) .none kVd34 dcd34 pmd34 and34 cdd34 ctd34), sld34⟩)
    (cd34 : PySem.W.codeIn K cdd34 "plain_flow" = true)
    (kd34 : PySem.W.keepIn K (.ref fd34) = true)
    (ad35 : PySem.W.nsIn K mainGlobals "paper_of" = some (some (.ref fd35)))
    (ld35 : K.lookup fd35 = some ⟨ocd35, odd35, .func (PySem.W.fnOf "paper_of" "paper_of" (defArgs sPaperOf) (defBody sPaperOf) (defScope sPaperOf) .none kVd35 dcd35 pmd35 and35 cdd35 ctd35), sld35⟩)
    (cd35 : PySem.W.codeIn K cdd35 "paper_of" = true)
    (kd35 : PySem.W.keepIn K (.ref fd35) = true)
    (ad36 : PySem.W.nsIn K mainGlobals "room_in" = some (some (.ref fd36)))
    (ld36 : K.lookup fd36 = some ⟨ocd36, odd36, .func (PySem.W.fnOf "room_in" "room_in" (defArgs sRoomIn) (defBody sRoomIn) (defScope sRoomIn) .none kVd36 dcd36 pmd36 and36 cdd36 ctd36), sld36⟩)
    (cd36 : PySem.W.codeIn K cdd36 "room_in" = true)
    (kd36 : PySem.W.keepIn K (.ref fd36) = true)
    (ad37 : PySem.W.nsIn K mainGlobals "is_numbered_piece" = some (some (.ref fd37)))
    (ld37 : K.lookup fd37 = some ⟨ocd37, odd37, .func (PySem.W.fnOf "is_numbered_piece" "is_numbered_piece" (defArgs sNumPiece) (defBody sNumPiece) (defScope sNumPiece) .none kVd37 dcd37 pmd37 and37 cdd37 ctd37), sld37⟩)
    (cd37 : PySem.W.codeIn K cdd37 "is_numbered_piece" = true)
    (kd37 : PySem.W.keepIn K (.ref fd37) = true)
    (ad38 : PySem.W.nsIn K mainGlobals "is_paper" = some (some (.ref fd38)))
    (ld38 : K.lookup fd38 = some ⟨ocd38, odd38, .func (PySem.W.fnOf "is_paper" "is_paper" (defArgs sIsPaper) (defBody sIsPaper) (defScope sIsPaper) .none kVd38 dcd38 pmd38 and38 cdd38 ctd38), sld38⟩)
    (cd38 : PySem.W.codeIn K cdd38 "is_paper" = true)
    (kd38 : PySem.W.keepIn K (.ref fd38) = true)
    (ad39 : PySem.W.nsIn K mainGlobals "gate_fault" = some (some (.ref fd39)))
    (ld39 : K.lookup fd39 = some ⟨ocd39, odd39, .func (PySem.W.fnOf "gate_fault" "gate_fault" (defArgs sGateFault) (defBody sGateFault) (defScope sGateFault) .none kVd39 dcd39 pmd39 and39 cdd39 ctd39), sld39⟩)
    (cd39 : PySem.W.codeIn K cdd39 "gate_fault" = true)
    (kd39 : PySem.W.keepIn K (.ref fd39) = true)
    (ad40 : PySem.W.nsIn K mainGlobals "paper_fault" = some (some (.ref fd40)))
    (ld40 : K.lookup fd40 = some ⟨ocd40, odd40, .func (PySem.W.fnOf "paper_fault" "paper_fault" (defArgs sPaperFault) (defBody sPaperFault) (defScope sPaperFault) .none kVd40 dcd40 pmd40 and40 cdd40 ctd40), sld40⟩)
    (cd40 : PySem.W.codeIn K cdd40 "paper_fault" = true)
    (kd40 : PySem.W.keepIn K (.ref fd40) = true)
    (ad41 : PySem.W.nsIn K mainGlobals "bound_of" = some (some (.ref fd41)))
    (ld41 : K.lookup fd41 = some ⟨ocd41, odd41, .func (PySem.W.fnOf "bound_of" "bound_of" (defArgs sBoundOf) (defBody sBoundOf) (defScope sBoundOf) .none kVd41 dcd41 pmd41 and41 cdd41 ctd41), sld41⟩)
    (cd41 : PySem.W.codeIn K cdd41 "bound_of" = true)
    (kd41 : PySem.W.keepIn K (.ref fd41) = true)
    (ad42 : PySem.W.nsIn K mainGlobals "let_bounds" = some (some (.ref fd42)))
    (ld42 : K.lookup fd42 = some ⟨ocd42, odd42, .func (PySem.W.fnOf "let_bounds" "let_bounds" (defArgs sLetBounds) (defBody sLetBounds) (defScope sLetBounds) .none kVd42 dcd42 pmd42 and42 cdd42 ctd42), sld42⟩)
    (cd42 : PySem.W.codeIn K cdd42 "let_bounds" = true)
    (kd42 : PySem.W.keepIn K (.ref fd42) = true)
    (ad43 : PySem.W.nsIn K mainGlobals "fewest" = some (some (.ref fd43)))
    (ld43 : K.lookup fd43 = some ⟨ocd43, odd43, .func (PySem.W.fnOf "fewest" "fewest" (defArgs sFewest) (defBody sFewest) (defScope sFewest) .none kVd43 dcd43 pmd43 and43 cdd43 ctd43), sld43⟩)
    (cd43 : PySem.W.codeIn K cdd43 "fewest" = true)
    (kd43 : PySem.W.keepIn K (.ref fd43) = true)
    (ad44 : PySem.W.nsIn K mainGlobals "_law_well" = some (some (.ref fd44)))
    (ld44 : K.lookup fd44 = some ⟨ocd44, odd44, .func (PySem.W.fnOf "_law_well" "_law_well" (defArgs sWell) (defBody sWell) (defScope sWell) .none kVd44 dcd44 pmd44 and44 cdd44 ctd44), sld44⟩)
    (cd44 : PySem.W.codeIn K cdd44 "_law_well" = true)
    (kd44 : PySem.W.keepIn K (.ref fd44) = true)
    (ad45 : PySem.W.nsIn K mainGlobals "_law_draw" = some (some (.ref fd45)))
    (ld45 : K.lookup fd45 = some ⟨ocd45, odd45, .func (PySem.W.fnOf "_law_draw" "_law_draw" (defArgs sDraw) (defBody sDraw) (defScope sDraw) .none kVd45 dcd45 pmd45 and45 cdd45 ctd45), sld45⟩)
    (cd45 : PySem.W.codeIn K cdd45 "_law_draw" = true)
    (kd45 : PySem.W.keepIn K (.ref fd45) = true)
    (ad46 : PySem.W.nsIn K mainGlobals "_law_worths" = some (some (.ref fd46)))
    (ld46 : K.lookup fd46 = some ⟨ocd46, odd46, .func (PySem.W.fnOf "_law_worths" "_law_worths" (defArgs sLWorths) (defBody sLWorths) (defScope sLWorths) .none kVd46 dcd46 pmd46 and46 cdd46 ctd46), sld46⟩)
    (cd46 : PySem.W.codeIn K cdd46 "_law_worths" = true)
    (kd46 : PySem.W.keepIn K (.ref fd46) = true)
    (ad47 : PySem.W.nsIn K mainGlobals "_law_gates" = some (some (.ref fd47)))
    (ld47 : K.lookup fd47 = some ⟨ocd47, odd47, .func (PySem.W.fnOf "_law_gates" "_law_gates" (defArgs sLGates) (defBody sLGates) (defScope sLGates) .none kVd47 dcd47 pmd47 and47 cdd47 ctd47), sld47⟩)
    (cd47 : PySem.W.codeIn K cdd47 "_law_gates" = true)
    (kd47 : PySem.W.keepIn K (.ref fd47) = true)
    (ad48 : PySem.W.nsIn K mainGlobals "_law_wires" = some (some (.ref fd48)))
    (ld48 : K.lookup fd48 = some ⟨ocd48, odd48, .func (PySem.W.fnOf "_law_wires" "_law_wires" (defArgs sLWires) (defBody sLWires) (defScope sLWires) .none kVd48 dcd48 pmd48 and48 cdd48 ctd48), sld48⟩)
    (cd48 : PySem.W.codeIn K cdd48 "_law_wires" = true)
    (kd48 : PySem.W.keepIn K (.ref fd48) = true)
    (ad49 : PySem.W.nsIn K mainGlobals "_law_parts" = some (some (.ref fd49)))
    (ld49 : K.lookup fd49 = some ⟨ocd49, odd49, .func (PySem.W.fnOf "_law_parts" "_law_parts" (defArgs sLParts) (defBody sLParts) (defScope sLParts) .none kVd49 dcd49 pmd49 and49 cdd49 ctd49), sld49⟩)
    (cd49 : PySem.W.codeIn K cdd49 "_law_parts" = true)
    (kd49 : PySem.W.keepIn K (.ref fd49) = true)
    (ad50 : PySem.W.nsIn K mainGlobals "_law_ends" = some (some (.ref fd50)))
    (ld50 : K.lookup fd50 = some ⟨ocd50, odd50, .func (PySem.W.fnOf "_law_ends" "_law_ends" (defArgs sLEnds) (defBody sLEnds) (defScope sLEnds) .none kVd50 dcd50 pmd50 and50 cdd50 ctd50), sld50⟩)
    (cd50 : PySem.W.codeIn K cdd50 "_law_ends" = true)
    (kd50 : PySem.W.keepIn K (.ref fd50) = true)
    (ad51 : PySem.W.nsIn K mainGlobals "_law_is_number" = some (some (.ref fd51)))
    (ld51 : K.lookup fd51 = some ⟨ocd51, odd51, .func (PySem.W.fnOf "_law_is_number" "_law_is_number" (defArgs sNum) (defBody sNum) (defScope sNum) .none kVd51 dcd51 pmd51 and51 cdd51 ctd51), sld51⟩)
    (cd51 : PySem.W.codeIn K cdd51 "_law_is_number" = true)
    (kd51 : PySem.W.keepIn K (.ref fd51) = true)
    (ad52 : PySem.W.nsIn K mainGlobals "_law_is_piece" = some (some (.ref fd52)))
    (ld52 : K.lookup fd52 = some ⟨ocd52, odd52, .func (PySem.W.fnOf "_law_is_piece" "_law_is_piece" (defArgs sLIsPiece) (defBody sLIsPiece) (defScope sLIsPiece) .none kVd52 dcd52 pmd52 and52 cdd52 ctd52), sld52⟩)
    (cd52 : PySem.W.codeIn K cdd52 "_law_is_piece" = true)
    (kd52 : PySem.W.keepIn K (.ref fd52) = true)
    (ad53 : PySem.W.nsIn K mainGlobals "_law_room" = some (some (.ref fd53)))
    (ld53 : K.lookup fd53 = some ⟨ocd53, odd53, .func (PySem.W.fnOf "_law_room" "_law_room" (defArgs sLRoom) (defBody sLRoom) (defScope sLRoom) .none kVd53 dcd53 pmd53 and53 cdd53 ctd53), sld53⟩)
    (cd53 : PySem.W.codeIn K cdd53 "_law_room" = true)
    (kd53 : PySem.W.keepIn K (.ref fd53) = true)
    (ad54 : PySem.W.nsIn K mainGlobals "_law_fixed" = some (some (.ref fd54)))
    (ld54 : K.lookup fd54 = some ⟨ocd54, odd54, .func (PySem.W.fnOf "_law_fixed" "_law_fixed" (defArgs sFixed) (defBody sFixed) (defScope sFixed) .none kVd54 dcd54 pmd54 and54 cdd54 ctd54), sld54⟩)
    (cd54 : PySem.W.codeIn K cdd54 "_law_fixed" = true)
    (kd54 : PySem.W.keepIn K (.ref fd54) = true)
    (ad55 : PySem.W.nsIn K mainGlobals "_law_is_entry" = some (some (.ref fd55)))
    (ld55 : K.lookup fd55 = some ⟨ocd55, odd55, .func (PySem.W.fnOf "_law_is_entry" "_law_is_entry" (defArgs sLEntry) (defBody sLEntry) (defScope sLEntry) .none kVd55 dcd55 pmd55 and55 cdd55 ctd55), sld55⟩)
    (cd55 : PySem.W.codeIn K cdd55 "_law_is_entry" = true)
    (kd55 : PySem.W.keepIn K (.ref fd55) = true)
    (ad56 : PySem.W.nsIn K mainGlobals "_law_fault" = some (some (.ref fd56)))
    (ld56 : K.lookup fd56 = some ⟨ocd56, odd56, .func (PySem.W.fnOf "_law_fault" "_law_fault" (defArgs sLFault) (defBody sLFault) (defScope sLFault) .none kVd56 dcd56 pmd56 and56 cdd56 ctd56), sld56⟩)
    (cd56 : PySem.W.codeIn K cdd56 "_law_fault" = true)
    (kd56 : PySem.W.keepIn K (.ref fd56) = true)
    (ad57 : PySem.W.nsIn K mainGlobals "_law_walked" = some (some (.ref fd57)))
    (ld57 : K.lookup fd57 = some ⟨ocd57, odd57, .func (PySem.W.fnOf "_law_walked" "_law_walked" (defArgs sWalked) (defBody sWalked) (defScope sWalked) .none kVd57 dcd57 pmd57 and57 cdd57 ctd57), sld57⟩)
    (cd57 : PySem.W.codeIn K cdd57 "_law_walked" = true)
    (kd57 : PySem.W.keepIn K (.ref fd57) = true)
    (ad58 : PySem.W.nsIn K mainGlobals "_law_paper" = some (some (.ref fd58)))
    (ld58 : K.lookup fd58 = some ⟨ocd58, odd58, .func (PySem.W.fnOf "_law_paper" "_law_paper" (defArgs sLPaper) (defBody sLPaper) (defScope sLPaper) .none kVd58 dcd58 pmd58 and58 cdd58 ctd58), sld58⟩)
    (cd58 : PySem.W.codeIn K cdd58 "_law_paper" = true)
    (kd58 : PySem.W.keepIn K (.ref fd58) = true)
    (ad59 : PySem.W.nsIn K mainGlobals "_law_odd" = some (some (.ref fd59)))
    (ld59 : K.lookup fd59 = some ⟨ocd59, odd59, .func (PySem.W.fnOf "_law_odd" "_law_odd" (defArgs sOdd) (defBody sOdd) (defScope sOdd) .none kVd59 dcd59 pmd59 and59 cdd59 ctd59), sld59⟩)
    (cd59 : PySem.W.codeIn K cdd59 "_law_odd" = true)
    (kd59 : PySem.W.keepIn K (.ref fd59) = true)
    (ad60 : PySem.W.nsIn K mainGlobals "_law_bound" = some (some (.ref fd60)))
    (ld60 : K.lookup fd60 = some ⟨ocd60, odd60, .func (PySem.W.fnOf "_law_bound" "_law_bound" (defArgs sLBound) (defBody sLBound) (defScope sLBound) .none kVd60 dcd60 pmd60 and60 cdd60 ctd60), sld60⟩)
    (cd60 : PySem.W.codeIn K cdd60 "_law_bound" = true)
    (kd60 : PySem.W.keepIn K (.ref fd60) = true)
    (ad61 : PySem.W.nsIn K mainGlobals "law" = some (some (.ref fd61)))
    (ld61 : K.lookup fd61 = some ⟨ocd61, odd61, .func (PySem.W.fnOf "law" "law" (defArgs sLaw) (defBody sLaw) (defScope sLaw) .none kVd61 dcd61 pmd61 and61 cdd61 ctd61), sld61⟩)
    (cd61 : PySem.W.codeIn K cdd61 "law" = true)
    (kd61 : PySem.W.keepIn K (.ref fd61) = true)
    (am0 : PySem.W.findIn K (.ref C) "__init__" = some (some (.ref fm0)))
    (im0 : PySem.W.isFn K (.ref fm0) = true)
    (lm0 : K.lookup fm0 = some ⟨ocm0, odm0, .func (PySem.W.fnOf "__init__" "Net.__init__" (defArgs sInit) (defBody sInit) (defScope sInit) .none kVm0 dcm0 pmm0 anm0 cdm0 ctm0), slm0⟩)
    (cm0 : PySem.W.codeIn K cdm0 "Net.__init__" = true)
    (km0 : PySem.W.keepIn K (.ref fm0) = true)
    (pgC : PySem.W.plainGet K C Str.empty = true)
    (hdC : PySem.W.hasDictIn K C = true)
    (poC : PySem.W.plainOver K C = true)
    (saC : PySem.W.findIn K (.ref C) "__setattr__" = some (some (.builtin "object.__setattr__")))
    (mkC : PySem.W.makesIn K C = true)
    (kcC : PySem.W.keepIn K (.ref C) = true)
    (nG : PySem.W.findIn K (.ref C) "gates" = some none)
    (nW : PySem.W.findIn K (.ref C) "wires" = some none)
    (aL0 : PySem.W.nsIn K mainGlobals "LagError" = some (some (.ref C0)))
    (eC0 : PySem.W.subIn K (.ref C0) (.type "BaseException") = some true)
    (iC0 : PySem.W.isClsIn K C0 = true)
    (tC0 : PySem.W.typeIn K (.ref C0) = some (.type "type"))
    (aNP : PySem.W.nsIn K mainGlobals "NoPaper" = some (some (.ref CP)))
    (qNP : PySem.W.excIn K CP [.type "ValueError", .type "Exception", .type "BaseException", .type "object"] "ValueError.__new__" = true)
    (kkNP : PySem.W.keepIn K (.ref CP) = true)
    (eNP : PySem.W.subIn K (.ref CP) (.type "BaseException") = some true)
    (ttNP : PySem.W.typeIn K (.ref CP) = some (.type "type"))
    (ciNP : PySem.W.isClsIn K CP = true)
    (sNP : PySem.W.subIn K (.ref CP) (.ref CP) = some true)
    (aNB : PySem.W.nsIn K mainGlobals "NoBeat" = some (some (.ref CB)))
    (aNT : PySem.W.nsIn K mainGlobals "NoLagsThere" = some (some (.ref CT)))
    (ttNB : PySem.W.typeIn K (.ref CB) = some (.type "type"))
    (ciNB : PySem.W.isClsIn K CB = true)
    (ttNT : PySem.W.typeIn K (.ref CT) = some (.type "type"))
    (ciNT : PySem.W.isClsIn K CT = true)
    (xgNP : PySem.W.findIn K (.ref CP) "__getattribute__" = some (some (.builtin "BaseException.__getattribute__")))
    (xkNP : PySem.W.findIn K (.ref CP) "__getattr__" = some none)
    (xdNP : PySem.W.hasDictIn K CP = true)
    (xaNP : PySem.W.findIn K (.ref CP) "__class__" = some (some (.builtin "object.__class__")))
    (xmNP : PySem.W.mroIn K CP (.type "object") = some true)
    (s0NP : PySem.W.subIn K (.ref CP) (.ref C0) = some true)
    (uNPNB : PySem.W.subIn K (.ref CP) (.ref CB) = some false)
    (uNPNT : PySem.W.subIn K (.ref CP) (.ref CT) = some false)
    (xn : PySem.W.specialIn K (.builtin "object.__class__") "__get__" = some (some (.builtin "getset_descriptor.__get__")))
    (xt : PySem.W.takesIn K (.builtin "object.__class__") = some true)
    (zisi : PySem.W.nsIn K mainGlobals "isinstance" = some none)
    (zint : PySem.W.nsIn K mainGlobals "int" = some none)
    (zbool : PySem.W.nsIn K mainGlobals "bool" = some none)
    (zlen : PySem.W.nsIn K mainGlobals "len" = some none)
    (ztuple : PySem.W.nsIn K mainGlobals "tuple" = some none)
    (zstr : PySem.W.nsIn K mainGlobals "str" = some none)
    (zlist : PySem.W.nsIn K mainGlobals "list" = some none)
    (zall : PySem.W.nsIn K mainGlobals "all" = some none)
    (zenum : PySem.W.nsIn K mainGlobals "enumerate" = some none)
    (zzip : PySem.W.nsIn K mainGlobals "zip" = some none)
    (zrange : PySem.W.nsIn K mainGlobals "range" = some none)
    (zmax : PySem.W.nsIn K mainGlobals "max" = some none)
    (zsum : PySem.W.nsIn K mainGlobals "sum" = some none)
    (zmin : PySem.W.nsIn K mainGlobals "min" = some none)
    (zsorted : PySem.W.nsIn K mainGlobals "sorted" = some none)
    (zset : PySem.W.nsIn K mainGlobals "set" = some none)
    (gGW : PySem.W.nsIn K mainGlobals "GREATEST_WORTH" = some (some (.int 96 tGW)))
    (gGA : PySem.W.nsIn K mainGlobals "GREATEST_WAIT" = some (some (.int 100 tGA)))
    (gGL : PySem.W.nsIn K mainGlobals "GREATEST_LAG" = some (some (.int 500 tGL)))
    (gK : PySem.W.nsIn K mainGlobals "KINDS" = some (some (.ref aK)))
    (oK : K.lookup aK = some ⟨.type "tuple", ddK, .seq #[.str "in" tK0, .str "out" tK1, .str "sum" tK2, .str "times" tK3, .str "most" tK4, .str "least" tK5, .str "first" tK6, .str "one" tK7] nnK, ssK⟩)
    (gW : PySem.W.nsIn K mainGlobals "OUTER_KINDS" = some (some (.ref aW)))
    (oW : K.lookup aW = some ⟨.type "tuple", ddW, .seq #[.str "in" tW0, .str "out" tW1] nnW, ssW⟩)
    (gF : PySem.W.nsIn K mainGlobals "KINDS_WITH_A_WIRE" = some (some (.ref aF)))
    (oF : K.lookup aF = some ⟨.type "tuple", ddF, .seq #[.str "out" tF0, .str "first" tF1] nnF, ssF⟩) :
    ∃ fd : FuncData, (∀ (s : Shared) (v : Value), BindsTo s fd ⟨[v], []⟩ [("_law_script", v)]) ∧ ∀ base : Heap, K.In base → base.Ns mainGlobals mg → FnG l.prog w K mg base CX0 14 fa fd ["_law_script"] (spLaw K) := by
  have e := hfa.symm.trans (PySem.W.mg_of X G ad61)
  cases e
  have Fd0 := fun_mk (st := sWhole) ld0 cd0 kd0
  have Fd1 := fun_mk (st := sFromTo) ld1 cd1 kd1
  have Fd2 := fun_mk (st := sWorth) ld2 cd2 kd2
  have Fd3 := fun_mk (st := sIsGate) ld3 cd3 kd3
  have Fd4 := fun_mk (st := sChkGates) ld4 cd4 kd4
  have Fd5 := fun_mk (st := sIsWire) ld5 cd5 kd5
  have Fd6 := fun_mk (st := sTaken) ld6 cd6 kd6
  have Fd7 := fun_mk (st := sChkWires) ld7 cd7 kd7
  have Fd8 := fun_mk (st := sAlong) ld8 cd8 kd8
  have Fd9 := fun_mk (st := sOrder) ld9 cd9 kd9
  have Fd10 := fun_mk (st := sChkRings) ld10 cd10 kd10
  have Fd11 := fun_mk (st := sOuter) ld11 cd11 kd11
  have Fd12 := fun_mk (st := sBestFrom) ld12 cd12 kd12
  have Fd13 := fun_mk (st := sWayTo) ld13 cd13 kd13
  have Fd14 := fun_mk (st := sWaitOf) ld14 cd14 kd14
  have Fd15 := fun_mk (st := sRoomOf) ld15 cd15 kd15
  have Fd16 := fun_mk (st := sSpotsIn) ld16 cd16 kd16
  have Fd17 := fun_mk (st := sSpotsOf) ld17 cd17 kd17
  have Fd18 := fun_mk (st := sLagsAt) ld18 cd18 kd18
  have Fd19 := fun_mk (st := sBoundsFor) ld19 cd19 kd19
  have Fd20 := fun_mk (st := sRingFrom) ld20 cd20 kd20
  have Fd21 := fun_mk (st := sSettle) ld21 cd21 kd21
  have Fd22 := fun_mk (st := sChkBeat) ld22 cd22 kd22
  have Fd23 := fun_mk (st := sForBeat) ld23 cd23 kd23
  have Fd24 := fun_mk (st := sBetween) ld24 cd24 kd24
  have Fd25 := fun_mk (st := sLeastBeat) ld25 cd25 kd25
  have Fd26 := fun_mk (st := sIsPiece) ld26 cd26 kd26
  have Fd27 := fun_mk (st := sEndOf) ld27 cd27 kd27
  have Fd28 := fun_mk (st := sEndsOf) ld28 cd28 kd28
  have Fd29 := fun_mk (st := sBothWays) ld29 cd29 kd29
  have Fd30 := fun_mk (st := sChange) ld30 cd30 kd30
  have Fd31 := fun_mk (st := sLeastFlow) ld31 cd31 kd31
  have Fd32 := fun_mk (st := sNearLags) ld32 cd32 kd32
  have Fd33 := fun_mk (st := sRegisters) ld33 cd33 kd33
  have Fd34 := fun_mk (st := sPlainFlow) ld34 cd34 kd34
  have Fd35 := fun_mk (st := sPaperOf) ld35 cd35 kd35
  have Fd36 := fun_mk (st := sRoomIn) ld36 cd36 kd36
  have Fd37 := fun_mk (st := sNumPiece) ld37 cd37 kd37
  have Fd38 := fun_mk (st := sIsPaper) ld38 cd38 kd38
  have Fd39 := fun_mk (st := sGateFault) ld39 cd39 kd39
  have Fd40 := fun_mk (st := sPaperFault) ld40 cd40 kd40
  have Fd41 := fun_mk (st := sBoundOf) ld41 cd41 kd41
  have Fd42 := fun_mk (st := sLetBounds) ld42 cd42 kd42
  have Fd43 := fun_mk (st := sFewest) ld43 cd43 kd43
  have Fd44 := fun_mk (st := sWell) ld44 cd44 kd44
  have Fd45 := fun_mk (st := sDraw) ld45 cd45 kd45
  have Fd46 := fun_mk (st := sLWorths) ld46 cd46 kd46
  have Fd47 := fun_mk (st := sLGates) ld47 cd47 kd47
  have Fd48 := fun_mk (st := sLWires) ld48 cd48 kd48
  have Fd49 := fun_mk (st := sLParts) ld49 cd49 kd49
  have Fd50 := fun_mk (st := sLEnds) ld50 cd50 kd50
  have Fd51 := fun_mk (st := sNum) ld51 cd51 kd51
  have Fd52 := fun_mk (st := sLIsPiece) ld52 cd52 kd52
  have Fd53 := fun_mk (st := sLRoom) ld53 cd53 kd53
  have Fd54 := fun_mk (st := sFixed) ld54 cd54 kd54
  have Fd55 := fun_mk (st := sLEntry) ld55 cd55 kd55
  have Fd56 := fun_mk (st := sLFault) ld56 cd56 kd56
  have Fd57 := fun_mk (st := sWalked) ld57 cd57 kd57
  have Fd58 := fun_mk (st := sLPaper) ld58 cd58 kd58
  have Fd59 := fun_mk (st := sOdd) ld59 cd59 kd59
  have Fd60 := fun_mk (st := sLBound) ld60 cd60 kd60
  have Fd61 := fun_mk (st := sLaw) ld61 cd61 kd61
  have Fm0 := fun_mk (st := sInit) lm0 cm0 km0
  have B : Bt mg := ⟨PySem.W.mg_none_of X G zisi, PySem.W.mg_none_of X G zint, PySem.W.mg_none_of X G zbool, PySem.W.mg_none_of X G zlen, PySem.W.mg_none_of X G ztuple, PySem.W.mg_none_of X G zstr, PySem.W.mg_none_of X G zlist, PySem.W.mg_none_of X G zall, PySem.W.mg_none_of X G zenum, PySem.W.mg_none_of X G zzip, PySem.W.mg_none_of X G zrange, PySem.W.mg_none_of X G zmax⟩
  have b_sum := PySem.W.mg_none_of X G zsum
  have b_min := PySem.W.mg_none_of X G zmin
  have b_sorted := PySem.W.mg_none_of X G zsorted
  have b_set := PySem.W.mg_none_of X G zset
  have Cn : Cns K mg aK aW aF := ⟨⟨_, PySem.W.mg_of X G gGW⟩, ⟨_, PySem.W.mg_of X G gGA⟩, PySem.W.mg_of X G gK, fun _ => .inr ⟨_, _, _, oK, rfl, rfl, (by show 8 ≤ sizeLine; decide), .cons ⟨_, rfl⟩ (.cons ⟨_, rfl⟩ (.cons ⟨_, rfl⟩ (.cons ⟨_, rfl⟩ (.cons ⟨_, rfl⟩ (.cons ⟨_, rfl⟩ (.cons ⟨_, rfl⟩ (.cons ⟨_, rfl⟩ (.nil))))))))⟩, PySem.W.mg_of X G gW, fun _ => .inr ⟨_, _, _, oW, rfl, rfl, (by show 2 ≤ sizeLine; decide), .cons ⟨_, rfl⟩ (.cons ⟨_, rfl⟩ (.nil))⟩, PySem.W.mg_of X G gF, fun _ => .inr ⟨_, _, _, oF, rfl, rfl, (by show 2 ≤ sizeLine; decide), .cons ⟨_, rfl⟩ (.cons ⟨_, rfl⟩ (.nil))⟩⟩
  have i_GL : ∃ t, mg "GREATEST_LAG" = some (.int 500 t) := ⟨_, PySem.W.mg_of X G gGL⟩
  have T : NT K mg C := ⟨⟨pgC, hdC, poC, saC⟩, nG, nW, PySem.W.mg_of X G aC⟩
  have bm0 := Fm0.binds (ps := ["self", "gates", "wires"]) fun _ _ _ _ _ _ us hl => match us, hl with | [_, _, _], _ => rfl
  refine ⟨PySem.W.fnOf "law" "law" (defArgs sLaw) (defBody sLaw) (defScope sLaw) .none kVd61 dcd61 pmd61 and61 cdd61 ctd61, fun s v => .of_eq rfl, fun base _ _ => ?_⟩
  have whole := ok_whole (P := l.prog) (w := w) (base := base) Fd0 (PySem.W.mg_of X G ad0) B
  have ft := ok_fromTo (P := l.prog) (w := w) (base := base) Fd1 (PySem.W.mg_of X G ad1) whole
  have wo := ok_worth (P := l.prog) (w := w) (base := base) Fd2 (PySem.W.mg_of X G ad2) Cn ft
  have ig := ok_isGate (P := l.prog) (w := w) (base := base) Fd3 (PySem.W.mg_of X G ad3) B Cn ft
  have cg := ok_chkGates (P := l.prog) (w := w) (base := base) Fd4 (PySem.W.mg_of X G ad4) B ig
  have iw := ok_isWire (P := l.prog) (w := w) (base := base) Fd5 (PySem.W.mg_of X G ad5) B ft wo
  have tk := ok_taken (P := l.prog) (w := w) (base := base) Fd6 (PySem.W.mg_of X G ad6)
  have cw := ok_chkWires (P := l.prog) (w := w) (base := base) Fd7 (PySem.W.mg_of X G ad7) B Cn iw tk
  have al := ok_along (P := l.prog) (w := w) (base := base) Fd8 (PySem.W.mg_of X G ad8) B
  have od := ok_order (P := l.prog) (w := w) (base := base) Fd9 (PySem.W.mg_of X G ad9) B al
  have cr := ok_chkRings (P := l.prog) (w := w) (base := base) Fd10 (PySem.W.mg_of X G ad10) B od
  have init := ok_init (P := l.prog) (w := w) (base := base) Fm0 T B cg cw cr
  have MK : Mk K C fm0 := ⟨mkC, am0, im0, kcC⟩
  have ou := ok_outer (P := l.prog) (w := w) (base := base) Fd11 (PySem.W.mg_of X G ad11) Cn
  have bf := ok_bestFrom (P := l.prog) (w := w) (base := base) Fd12 (PySem.W.mg_of X G ad12) B T
  have wy := ok_wayTo (P := l.prog) (w := w) (base := base) Fd13 (PySem.W.mg_of X G ad13) B T
  have wto := ok_waitOf (P := l.prog) (w := w) (base := base) Fd14 (PySem.W.mg_of X G ad14) B b_sum T
  have rmo := ok_roomOf (P := l.prog) (w := w) (base := base) Fd15 (PySem.W.mg_of X G ad15) B b_sum T wto
  have spi := ok_spotsIn (P := l.prog) (w := w) (base := base) Fd16 (PySem.W.mg_of X G ad16) B T
  have spo := ok_spotsOf (P := l.prog) (w := w) (base := base) Fd17 (PySem.W.mg_of X G ad17) B T ou
  have lat := ok_lagsAt (P := l.prog) (w := w) (base := base) Fd18 (PySem.W.mg_of X G ad18) B T spo
  have bdf := ok_boundsFor (P := l.prog) (w := w) (base := base) Fd19 (PySem.W.mg_of X G ad19) B b_sorted T spo bf wy rmo
  have rgf := ok_ringF (P := l.prog) (w := w) (base := base) Fd20 (PySem.W.mg_of X G ad20) B
  have stl := ok_settle (P := l.prog) (w := w) (base := base) Fd21 (PySem.W.mg_of X G ad21) B rgf
  have chb := ok_chkB (P := l.prog) (w := w) (base := base) Fd22 (PySem.W.mg_of X G ad22) whole
  have fbt := ok_forBeat (P := l.prog) (w := w) (base := base) Fd23 (PySem.W.mg_of X G ad23) B T chb stl spi bdf lat
  have btw := ok_between (P := l.prog) (w := w) (base := base) Fd24 (PySem.W.mg_of X G ad24) B b_sorted T bf
  have lbt := ok_leastBeat (P := l.prog) (w := w) (base := base) Fd25 (PySem.W.mg_of X G ad25) B b_sorted b_set btw fbt
  have isp := ok_isPiece (P := l.prog) (w := w) (base := base) Fd26 (PySem.W.mg_of X G ad26) B T ft
  have eof := ok_endOf (P := l.prog) (w := w) (base := base) Fd27 (PySem.W.mg_of X G ad27) B T
  have eso := ok_endsOf (P := l.prog) (w := w) (base := base) Fd28 (PySem.W.mg_of X G ad28) eof
  have bw := ok_bothWays (P := l.prog) (w := w) (base := base) Fd29 (PySem.W.mg_of X G ad29) B
  have ca := ok_change (P := l.prog) (w := w) (base := base) Fd30 (PySem.W.mg_of X G ad30) B b_min
  have lf := ok_leastFlow (P := l.prog) (w := w) (base := base) Fd31 (PySem.W.mg_of X G ad31) B bw stl ca
  have nl := ok_nearLags (P := l.prog) (w := w) (base := base) Fd32 (PySem.W.mg_of X G ad32) B T i_GL stl lat
  have rg := ok_registers (P := l.prog) (w := w) (base := base) Fd33 (PySem.W.mg_of X G ad33) B T b_sum
  have pl := ok_plainFlow (P := l.prog) (w := w) (base := base) Fd34 (PySem.W.mg_of X G ad34) B T eso
  have po := ok_paperOf (P := l.prog) (w := w) (base := base) Fd35 (PySem.W.mg_of X G ad35) B
  have ri := ok_roomIn (P := l.prog) (w := w) (base := base) Fd36 (PySem.W.mg_of X G ad36) B b_sum rmo
  have np := ok_numPiece (P := l.prog) (w := w) (base := base) Fd37 (PySem.W.mg_of X G ad37) B isp whole
  have pp := ok_isPaper (P := l.prog) (w := w) (base := base) Fd38 (PySem.W.mg_of X G ad38) B np
  have gf := ok_gateFault (P := l.prog) (w := w) (base := base) Fd39 (PySem.W.mg_of X G ad39) B T eof ou
  have pf := ok_paperFault (P := l.prog) (w := w) (base := base) Fd40 (PySem.W.mg_of X G ad40) B T chb pp gf
  have bo := ok_boundOf (P := l.prog) (w := w) (base := base) Fd41 (PySem.W.mg_of X G ad41) pf rg ri
  have lb := ok_letBounds (P := l.prog) (w := w) (base := base) Fd42 (PySem.W.mg_of X G ad42) fbt bdf
  have fw := ok_fewest (P := l.prog) (w := w) (base := base) Fd43 (PySem.W.mg_of X G ad43) B T lb lf spi pl po bo nl
  have wel := ok_well (P := l.prog) (w := w) (base := base) Fd44 (PySem.W.mg_of X G ad44) B
  have drw := ok_draw (P := l.prog) (w := w) (base := base) Fd45 (PySem.W.mg_of X G ad45)
  have lga := ok_lgates (P := l.prog) (w := w) (base := base) Fd47 (PySem.W.mg_of X G ad47) B drw
  have lwo := ok_lworths (P := l.prog) (w := w) (base := base) Fd46 (PySem.W.mg_of X G ad46) B drw
  have lwi := ok_lwires (P := l.prog) (w := w) (base := base) Fd48 (PySem.W.mg_of X G ad48) B drw lwo
  have lpa := ok_lparts (P := l.prog) (w := w) (base := base) Fd49 (PySem.W.mg_of X G ad49) B drw lga lwi
  have NP : PEx K mg "NoPaper" CP := ⟨PySem.W.mg_of X G aNP, qNP, kkNP, eNP, ttNP, exm_self eNP ciNP ttNP sNP⟩
  have R : BndC K mg C0 CB CT CP := ⟨PySem.W.mg_of X G aL0, PySem.W.mg_of X G aNB, PySem.W.mg_of X G aNT, PySem.W.mg_of X G aNP, B.isi, exm_of eC0 iC0 tC0 s0NP, if_pos (beq_self_eq_true _), (kitAny_cons (kit_not ciNB ttNB sNP uNPNB) (kitAny_cons (kit_not ciNT ttNT sNP uNPNT) rfl)), ⟨xgNP, xkNP, eNP, xdNP, xaNP, xn, xt, xmNP⟩⟩
  have whD := ok_wholeD (P := l.prog) (w := w) (base := base) Fd0 B
  have ftD := ok_fromToD (P := l.prog) (w := w) (base := base) Fd1 whole whD
  have ipD := ok_isPieceD (P := l.prog) (w := w) (base := base) Fd26 B T ft ftD
  have npD := ok_numPieceD (P := l.prog) (w := w) (base := base) Fd37 B isp ipD whole whD
  have ppD := ok_isPaperD (P := l.prog) (w := w) (base := base) Fd38 B np npD
  have ppN := ok_isPaperN (P := l.prog) (w := w) (base := base) Fd38 B np npD
  have gfX := ok_gateFaultX (P := l.prog) (w := w) (base := base) Fd39 B T eof ou
  have pfD := ok_paperFaultD (P := l.prog) (w := w) (base := base) Fd40 B T chb pp ppD ppN gf gfX
  have boD := ok_boundOfD (P := l.prog) (w := w) (base := base) Fd41 pf pfD rg ri NP
  have drB := ok_drawB (P := l.prog) (w := w) (base := base) Fd45 drw.mg
  have len' := ok_lends (P := l.prog) (w := w) (base := base) Fd50 (PySem.W.mg_of X G ad50) B
  have lnu := ok_num (P := l.prog) (w := w) (base := base) Fd51 (PySem.W.mg_of X G ad51) B
  have lip := ok_lIsPiece (P := l.prog) (w := w) (base := base) Fd52 (PySem.W.mg_of X G ad52) B lnu
  have lro := ok_lRoom (P := l.prog) (w := w) (base := base) Fd53 (PySem.W.mg_of X G ad53) B b_sum len'
  have lfx := ok_fixed (P := l.prog) (w := w) (base := base) Fd54 (PySem.W.mg_of X G ad54)
  have ley := ok_lentry (P := l.prog) (w := w) (base := base) Fd55 (PySem.W.mg_of X G ad55) B lip
  have lfa := ok_lfaultP (P := l.prog) (w := w) (base := base) Fd56 (PySem.W.mg_of X G ad56) B ley len' lfx
  have lwk := ok_walked (P := l.prog) (w := w) (base := base) Fd57 (PySem.W.mg_of X G ad57) B drw
  have lpp := ok_lpaper (P := l.prog) (w := w) (base := base) Fd58 (PySem.W.mg_of X G ad58) B drw drB fw lbt lwk len'
  have lod := ok_odd (P := l.prog) (w := w) (base := base) Fd59 (PySem.W.mg_of X G ad59) B drw
  have lbd := ok_lbound (P := l.prog) (w := w) (base := base) Fd60 (PySem.W.mg_of X G ad60) B R bo boD
  exact ok_law Fd61 B b_sum T wel drw lpa MK init bm0 lpp lod lfa pf pfD lbd lro
end Lag

set_option maxRecDepth 100000
open PySem PySem.W PyProof.Rows
set_option maxRecDepth 100000 in
set_option maxHeartbeats 0 in
theorem PySem.Challenge.cw_lagshift_k71_papers_judged_holds : PySem.Challenge.rw_lagshift_k71_papers_judged.Holds := by
  w_on; o_law; k_head; (case hw => w_witness2)
  k_fill
  refine Lag.walkG_of (l := PySem.Challenge.rw_lagshift_k71_papers_judged) (n := 63) (k := 14) (x := "_law_script") (CX := fun _ => L2.CX0) (sp := fun w => Lag.spLaw _) rfl (by decide) rfl ⟨rfl, by decide, by decide⟩ (fun w h Y => PySem.W.kIn_of Y) ?F (fun _ _ a ns hl _ hS => ⟨a, ns, rfl, hS, hl, fun _ => rfl⟩) (fun _ _ _ _ _ h => h)
  case F =>
    intro w mg fa h KX G hmg
    refine' Lag.all_mk KX G hmg ?aC ?ad0 ?ld0 ?cd0 ?kd0 ?ad1 ?ld1 ?cd1 ?kd1 ?ad2 ?ld2 ?cd2 ?kd2 ?ad3 ?ld3 ?cd3 ?kd3 ?ad4 ?ld4 ?cd4 ?kd4 ?ad5 ?ld5 ?cd5 ?kd5 ?ad6 ?ld6 ?cd6 ?kd6 ?ad7 ?ld7 ?cd7 ?kd7 ?ad8 ?ld8 ?cd8 ?kd8 ?ad9 ?ld9 ?cd9 ?kd9 ?ad10 ?ld10 ?cd10 ?kd10 ?ad11 ?ld11 ?cd11 ?kd11 ?ad12 ?ld12 ?cd12 ?kd12 ?ad13 ?ld13 ?cd13 ?kd13 ?ad14 ?ld14 ?cd14 ?kd14 ?ad15 ?ld15 ?cd15 ?kd15 ?ad16 ?ld16 ?cd16 ?kd16 ?ad17 ?ld17 ?cd17 ?kd17 ?ad18 ?ld18 ?cd18 ?kd18 ?ad19 ?ld19 ?cd19 ?kd19 ?ad20 ?ld20 ?cd20 ?kd20 ?ad21 ?ld21 ?cd21 ?kd21 ?ad22 ?ld22 ?cd22 ?kd22 ?ad23 ?ld23 ?cd23 ?kd23 ?ad24 ?ld24 ?cd24 ?kd24 ?ad25 ?ld25 ?cd25 ?kd25 ?ad26 ?ld26 ?cd26 ?kd26 ?ad27 ?ld27 ?cd27 ?kd27 ?ad28 ?ld28 ?cd28 ?kd28 ?ad29 ?ld29 ?cd29 ?kd29 ?ad30 ?ld30 ?cd30 ?kd30 ?ad31 ?ld31 ?cd31 ?kd31 ?ad32 ?ld32 ?cd32 ?kd32 ?ad33 ?ld33 ?cd33 ?kd33 ?ad34 ?ld34 ?cd34 ?kd34 ?ad35 ?ld35 ?cd35 ?kd35 ?ad36 ?ld36 ?cd36 ?kd36 ?ad37 ?ld37 ?cd37 ?kd37 ?ad38 ?ld38 ?cd38 ?kd38 ?ad39 ?ld39 ?cd39 ?kd39 ?ad40 ?ld40 ?cd40 ?kd40 ?ad41 ?ld41 ?cd41 ?kd41 ?ad42 ?ld42 ?cd42 ?kd42 ?ad43 ?ld43 ?cd43 ?kd43 ?ad44 ?ld44 ?cd44 ?kd44 ?ad45 ?ld45 ?cd45 ?kd45 ?ad46 ?ld46 ?cd46 ?kd46 ?ad47 ?ld47 ?cd47 ?kd47 ?ad48 ?ld48 ?cd48 ?kd48 ?ad49 ?ld49 ?cd49 ?kd49 ?ad50 ?ld50 ?cd50 ?kd50 ?ad51 ?ld51 ?cd51 ?kd51 ?ad52 ?ld52 ?cd52 ?kd52 ?ad53 ?ld53 ?cd53 ?kd53 ?ad54 ?ld54 ?cd54 ?kd54 ?ad55 ?ld55 ?cd55 ?kd55 ?ad56 ?ld56 ?cd56 ?kd56 ?ad57 ?ld57 ?cd57 ?kd57 ?ad58 ?ld58 ?cd58 ?kd58 ?ad59 ?ld59 ?cd59 ?kd59 ?ad60 ?ld60 ?cd60 ?kd60 ?ad61 ?ld61 ?cd61 ?kd61 ?am0 ?im0 ?lm0 ?cm0 ?km0 ?pgC ?hdC ?poC ?saC ?mkC ?kcC ?nG ?nW ?aL0 ?eC0 ?iC0 ?tC0 ?aNP ?qNP ?kkNP ?eNP ?ttNP ?ciNP ?sNP ?aNB ?aNT ?ttNB ?ciNB ?ttNT ?ciNT ?xgNP ?xkNP ?xdNP ?xaNP ?xmNP ?s0NP ?uNPNB ?uNPNT ?xn ?xt ?zisi ?zint ?zbool ?zlen ?ztuple ?zstr ?zlist ?zall ?zenum ?zzip ?zrange ?zmax ?zsum ?zmin ?zsorted ?zset ?gGW ?gGA ?gGL ?gK ?oK ?gW ?oW ?gF ?oF
    (case aC => k_is)
    (case ad0 => k_is)
    (case ld0 => k_is)
    (case cd0 => k_is)
    (case kd0 => k_is)
    (case ad1 => k_is)
    (case ld1 => k_is)
    (case cd1 => k_is)
    (case kd1 => k_is)
    (case ad2 => k_is)
    (case ld2 => k_is)
    (case cd2 => k_is)
    (case kd2 => k_is)
    (case ad3 => k_is)
    (case ld3 => k_is)
    (case cd3 => k_is)
    (case kd3 => k_is)
    (case ad4 => k_is)
    (case ld4 => k_is)
    (case cd4 => k_is)
    (case kd4 => k_is)
    (case ad5 => k_is)
    (case ld5 => k_is)
    (case cd5 => k_is)
    (case kd5 => k_is)
    (case ad6 => k_is)
    (case ld6 => k_is)
    (case cd6 => k_is)
    (case kd6 => k_is)
    (case ad7 => k_is)
    (case ld7 => k_is)
    (case cd7 => k_is)
    (case kd7 => k_is)
    (case ad8 => k_is)
    (case ld8 => k_is)
    (case cd8 => k_is)
    (case kd8 => k_is)
    (case ad9 => k_is)
    (case ld9 => k_is)
    (case cd9 => k_is)
    (case kd9 => k_is)
    (case ad10 => k_is)
    (case ld10 => k_is)
    (case cd10 => k_is)
    (case kd10 => k_is)
    (case ad11 => k_is)
    (case ld11 => k_is)
    (case cd11 => k_is)
    (case kd11 => k_is)
    (case ad12 => k_is)
    (case ld12 => k_is)
    (case cd12 => k_is)
    (case kd12 => k_is)
    (case ad13 => k_is)
    (case ld13 => k_is)
    (case cd13 => k_is)
    (case kd13 => k_is)
    (case ad14 => k_is)
    (case ld14 => k_is)
    (case cd14 => k_is)
    (case kd14 => k_is)
    (case ad15 => k_is)
    (case ld15 => k_is)
    (case cd15 => k_is)
    (case kd15 => k_is)
    (case ad16 => k_is)
    (case ld16 => k_is)
    (case cd16 => k_is)
    (case kd16 => k_is)
    (case ad17 => k_is)
    (case ld17 => k_is)
    (case cd17 => k_is)
    (case kd17 => k_is)
    (case ad18 => k_is)
    (case ld18 => k_is)
    (case cd18 => k_is)
    (case kd18 => k_is)
    (case ad19 => k_is)
    (case ld19 => k_is)
    (case cd19 => k_is)
    (case kd19 => k_is)
    (case ad20 => k_is)
    (case ld20 => k_is)
    (case cd20 => k_is)
    (case kd20 => k_is)
    (case ad21 => k_is)
    (case ld21 => k_is)
    (case cd21 => k_is)
    (case kd21 => k_is)
    (case ad22 => k_is)
    (case ld22 => k_is)
    (case cd22 => k_is)
    (case kd22 => k_is)
    (case ad23 => k_is)
    (case ld23 => k_is)
    (case cd23 => k_is)
    (case kd23 => k_is)
    (case ad24 => k_is)
    (case ld24 => k_is)
    (case cd24 => k_is)
    (case kd24 => k_is)
    (case ad25 => k_is)
    (case ld25 => k_is)
    (case cd25 => k_is)
    (case kd25 => k_is)
    (case ad26 => k_is)
    (case ld26 => k_is)
    (case cd26 => k_is)
    (case kd26 => k_is)
    (case ad27 => k_is)
    (case ld27 => k_is)
    (case cd27 => k_is)
    (case kd27 => k_is)
    (case ad28 => k_is)
    (case ld28 => k_is)
    (case cd28 => k_is)
    (case kd28 => k_is)
    (case ad29 => k_is)
    (case ld29 => k_is)
    (case cd29 => k_is)
    (case kd29 => k_is)
    (case ad30 => k_is)
    (case ld30 => k_is)
    (case cd30 => k_is)
    (case kd30 => k_is)
    (case ad31 => k_is)
    (case ld31 => k_is)
    (case cd31 => k_is)
    (case kd31 => k_is)
    (case ad32 => k_is)
    (case ld32 => k_is)
    (case cd32 => k_is)
    (case kd32 => k_is)
    (case ad33 => k_is)
    (case ld33 => k_is)
    (case cd33 => k_is)
    (case kd33 => k_is)
    (case ad34 => k_is)
    (case ld34 => k_is)
    (case cd34 => k_is)
    (case kd34 => k_is)
    (case ad35 => k_is)
    (case ld35 => k_is)
    (case cd35 => k_is)
    (case kd35 => k_is)
    (case ad36 => k_is)
    (case ld36 => k_is)
    (case cd36 => k_is)
    (case kd36 => k_is)
    (case ad37 => k_is)
    (case ld37 => k_is)
    (case cd37 => k_is)
    (case kd37 => k_is)
    (case ad38 => k_is)
    (case ld38 => k_is)
    (case cd38 => k_is)
    (case kd38 => k_is)
    (case ad39 => k_is)
    (case ld39 => k_is)
    (case cd39 => k_is)
    (case kd39 => k_is)
    (case ad40 => k_is)
    (case ld40 => k_is)
    (case cd40 => k_is)
    (case kd40 => k_is)
    (case ad41 => k_is)
    (case ld41 => k_is)
    (case cd41 => k_is)
    (case kd41 => k_is)
    (case ad42 => k_is)
    (case ld42 => k_is)
    (case cd42 => k_is)
    (case kd42 => k_is)
    (case ad43 => k_is)
    (case ld43 => k_is)
    (case cd43 => k_is)
    (case kd43 => k_is)
    (case ad44 => k_is)
    (case ld44 => k_is)
    (case cd44 => k_is)
    (case kd44 => k_is)
    (case ad45 => k_is)
    (case ld45 => k_is)
    (case cd45 => k_is)
    (case kd45 => k_is)
    (case ad46 => k_is)
    (case ld46 => k_is)
    (case cd46 => k_is)
    (case kd46 => k_is)
    (case ad47 => k_is)
    (case ld47 => k_is)
    (case cd47 => k_is)
    (case kd47 => k_is)
    (case ad48 => k_is)
    (case ld48 => k_is)
    (case cd48 => k_is)
    (case kd48 => k_is)
    (case ad49 => k_is)
    (case ld49 => k_is)
    (case cd49 => k_is)
    (case kd49 => k_is)
    (case ad50 => k_is)
    (case ld50 => k_is)
    (case cd50 => k_is)
    (case kd50 => k_is)
    (case ad51 => k_is)
    (case ld51 => k_is)
    (case cd51 => k_is)
    (case kd51 => k_is)
    (case ad52 => k_is)
    (case ld52 => k_is)
    (case cd52 => k_is)
    (case kd52 => k_is)
    (case ad53 => k_is)
    (case ld53 => k_is)
    (case cd53 => k_is)
    (case kd53 => k_is)
    (case ad54 => k_is)
    (case ld54 => k_is)
    (case cd54 => k_is)
    (case kd54 => k_is)
    (case ad55 => k_is)
    (case ld55 => k_is)
    (case cd55 => k_is)
    (case kd55 => k_is)
    (case ad56 => k_is)
    (case ld56 => k_is)
    (case cd56 => k_is)
    (case kd56 => k_is)
    (case ad57 => k_is)
    (case ld57 => k_is)
    (case cd57 => k_is)
    (case kd57 => k_is)
    (case ad58 => k_is)
    (case ld58 => k_is)
    (case cd58 => k_is)
    (case kd58 => k_is)
    (case ad59 => k_is)
    (case ld59 => k_is)
    (case cd59 => k_is)
    (case kd59 => k_is)
    (case ad60 => k_is)
    (case ld60 => k_is)
    (case cd60 => k_is)
    (case kd60 => k_is)
    (case ad61 => k_is)
    (case ld61 => k_is)
    (case cd61 => k_is)
    (case kd61 => k_is)
    (case am0 => k_is)
    (case im0 => k_is)
    (case lm0 => k_is)
    (case cm0 => k_is)
    (case km0 => k_is)
    (case pgC => k_is)
    (case hdC => k_is)
    (case poC => k_is)
    (case saC => k_is)
    (case mkC => k_is)
    (case kcC => k_is)
    (case nG => k_is)
    (case nW => k_is)
    (case aL0 => k_is)
    (case eC0 => k_is)
    (case iC0 => k_is)
    (case tC0 => k_is)
    (case aNP => k_is)
    (case qNP => k_exc)
    (case kkNP => k_is)
    (case eNP => k_is)
    (case ttNP => k_is)
    (case ciNP => k_is)
    (case sNP => first | rfl | k_is)
    (case aNB => k_is)
    (case aNT => k_is)
    (case ttNB => k_is)
    (case ciNB => k_is)
    (case ttNT => k_is)
    (case ciNT => k_is)
    (case xgNP => k_is)
    (case xkNP => k_is)
    (case xdNP => k_is)
    (case xaNP => k_is)
    (case xmNP => k_is)
    (case s0NP => k_is)
    (case uNPNB => k_is)
    (case uNPNT => k_is)
    (case xn => k_is)
    (case xt => k_is)
    (case zisi => k_is)
    (case zint => k_is)
    (case zbool => k_is)
    (case zlen => k_is)
    (case ztuple => k_is)
    (case zstr => k_is)
    (case zlist => k_is)
    (case zall => k_is)
    (case zenum => k_is)
    (case zzip => k_is)
    (case zrange => k_is)
    (case zmax => k_is)
    (case zsum => k_is)
    (case zmin => k_is)
    (case zsorted => k_is)
    (case zset => k_is)
    (case gGW => k_is)
    (case gGA => k_is)
    (case gGL => k_is)
    (case gK => k_is)
    (case oK => k_is)
    (case gW => k_is)
    (case oW => k_is)
    (case gF => k_is)
    (case oF => k_is)

