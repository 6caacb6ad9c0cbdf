import PyProof.Rows.All
import Wide.All
import OpenK.AllK
import Wide.FinOn
import HandS.ForMost
import HandS.IsInst
import HandS.Evl
import HandS.Flow
import HandS.Conv
import HandS.Wide
import HandS.Walk
import HandS.Zip
import HandS.OwnEq
import HandS.Style
import HandS.TupAny
import HandS.NamedTupSort
import KE.LtSeq
import HandS.SortInts
import HandS.SetFor
import HandS.TupSets
import HandS.Words
import HandS.SortRule
import PySem.Challenge.RW_lagshift_k52_whole_rings_bound_the_beat
set_option Elab.async false
set_option linter.all false
set_option maxRecDepth 100000
set_option maxHeartbeats 4000000
namespace Lag
open PySem PySem.Spec PyProof.Rows L2
/-! ### the text by its places -/
def topS (i : Nat) : Stmt := PySem.Challenge.pw_lagshift_k52_whole_rings_bound_the_beat.main.body.getD i (.Pass ⟨0, 0, 0, 0⟩)
abbrev sCellAt : Stmt := topS 66 -- @_law_cell_at
/-! ### heaps -/
/-- all stands as it stood but at w -/
def But (w : Addr) (H H' : Hp) : Prop := ∀ b o, b ≠ w → H b = some o → H' b = some o
theorem But.refl (w : Addr) (H : Hp) : But w H H := fun _ _ _ h => h
theorem But.trans {w : Addr} {H H1 H2 : Hp} (a : But w H H1) (b : But w H1 H2) : But w H H2 := fun c o n h => b c o n (a c o n h)
theorem But.same {w : Addr} {H H1 : Hp} (a : Same H H1) : But w H H1 := fun c o _ h => a c o h
theorem But.upd {w : Addr} {H : Hp} {o : HO} : But w H (upd H w o) := fun c u n h => by rw [upd_ne n]; exact h
theorem But.new {w p : Addr} {H : Hp} {o : HO} (h : H p = none) : But w H (L2.upd H p o) := fun c u n e => by rw [upd_ne (ne_of_none e h)]; exact e
theorem same_new {H : Hp} {p : Addr} {o : HO} (h : H p = none) : Same H (upd H p o) := fun b x e => by rw [upd_ne (ne_of_none e h)]; exact e
/-- an object that H does not know may be changed -/
theorem same_mut {H H' : Hp} {p : Addr} {o : HO} (e : Same H H') (h : H p = none) : Same H (upd H' p o) := fun a u ha => by rw [upd_ne (ne_of_none ha h)]; exact e a u ha
theorem But.mut {w p : Addr} {H H' : Hp} {o : HO} (e : But w H H') (h : H p = none) : But w H (L2.upd H' p o) := fun a u n ha => by rw [upd_ne (ne_of_none ha h)]; exact e a u n ha
theorem But.seq {K : PySem.W.Frag} {w a : Addr} {H H' : Hp} {xs : List V} (e : But w H H') (n : a ≠ w) (h : SqL K H a xs) : SqL K H' a xs := by
  rcases h with (h | ⟨o, h⟩) | h
  · exact .inl (.inl (e _ _ n h))
  · exact .inl (.inr ⟨o, e _ _ n h⟩)
  · exact .inr h
/-- at w the state: one number, or three -/
def StOk (xs : List V) : Prop := (∃ a : Int, xs = [.int a]) ∨ ∃ a b c : Int, xs = [.int a, .int b, .int c]
def WellAt (w : Addr) (H : Hp) : Prop := ∃ xs : List V, H w = some (.lst xs) ∧ StOk xs
theorem WellAt.new {w p : Addr} {H : Hp} {o : HO} (W : WellAt w H) (h : H p = none) : WellAt w (upd H p o) := by
  obtain ⟨xs, e, k⟩ := W
  exact ⟨xs, by rw [upd_ne (ne_of_none e h)]; exact e, k⟩
theorem WellAt.same {w : Addr} {H H' : Hp} (W : WellAt w H) (s : Same H H') : WellAt w H' := by
  obtain ⟨xs, e, k⟩ := W
  exact ⟨xs, s _ _ e, k⟩
theorem WellAt.ne {w p : Addr} {H : Hp} (W : WellAt w H) (h : H p = none) : w ≠ p := by
  obtain ⟨xs, e, k⟩ := W
  exact ne_of_none e h
/-- a draw of the well: what stood stands, the well is one -/
structure Dr (w : Addr) (H H' : Hp) : Prop where
  but : But w H H'
  well : WellAt w H'
theorem Dr.trans {w : Addr} {H H1 H2 : Hp} (a : Dr w H H1) (b : Dr w H1 H2) : Dr w H H2 := ⟨a.but.trans b.but, b.well⟩
theorem Dr.free {w p : Addr} {H H' : Hp} (d : Dr w H H') (W : WellAt w H) (h : H' p = none) : H p = none := by
  cases q : H p with
  | none => rfl
  | some o =>
    have n : p ≠ w := (d.well.ne h).symm
    rw [d.but _ _ n q] at h
    cases h
/-! ### the promises of the draws -/
def spCellAt (K : PySem.W.Frag) : Sp := fun vs H Q _ => ∃ (a : Addr) (ns : List Int) (k : Int), vs = [.ref a, .int k] ∧ 0 ≤ k ∧ SqL K H a (ns.map V.int) ∧ ∀ z : Int, Q (.int z) H
section
variable {P : Program} {w : World} {K : PySem.W.Frag} {mg : Str → Option Value} {base : Heap}
/-- a def at its name: it keeps its promise, its name holds it, its arguments bind -/
structure Df (P : Program) (w : World) (K : PySem.W.Frag) (mg : Str → Option Value) (base : Heap) (k : Nat) (name : Str) (ps : List Str) (sp : Sp) (f : Addr) (fd : FuncData) : Prop where
  ok : FnOk P w K mg base CX0 k f fd ps sp
  mg : mg name = some (.ref f)
  kp : PySem.W.keepIn K (.ref f) = true
  bd : Binds K fd ps []
/-! ### _law_cell_at -/
theorem scCellAt : FnScope ["_law_script", "_law_k"] ["_law_script", "_law_k"] (defScope sCellAt) := ⟨rfl, rfl, rfl, by decide +kernel, rfl, by decide +kernel, by decide +kernel⟩
abbrev DCellAt (P : Program) (w : World) (K : PySem.W.Frag) (mg : Str → Option Value) (base : Heap) := Df P w K mg base 1 "_law_cell_at" ["_law_script", "_law_k"] (spCellAt K)
theorem ok_cellAt {f : Addr} {fd : FuncData} (F : Fun K "_law_cell_at" "_law_cell_at" sCellAt f fd) (hm : mg "_law_cell_at" = some (.ref f)) (ml : mg "len" = none) : DCellAt P w K mg base f fd := by
  refine ⟨?_, hm, F.kp, F.binds fun _ _ _ _ _ _ us hl => match us, hl with | [_, _], _ => rfl⟩
  refine F.ok scCellAt (fun vs H Q E h => ?_) (fun cdv A outer s H vs Q E hr h => ?_)
  · obtain ⟨a, ns, k, rfl, _⟩ := h
    rfl
  · obtain ⟨a, ns, k, rfl, hk, hS, q⟩ := h
    refine ⟨_, pss_cons (ps_if (pt_cmpR op_lt (pv 1) (pe_callB call_len_seq (by rfl) ml PySem.boot_len (pa_cons (pv 0) pa_nil)) (nomark _))
        (pss_one (ps_ret (pe_ix ix_list (pv 0) (pv 1) (fun _ _ => rfl)))) pss_nil)
      (pss_one (ps_ret pe_int)), ?_⟩
    refine ⟨_, rfl, .ref a, rfl, a, _, rfl, .inl hS, _, _, rfl, rfl, _, rfl, ite2 (fun e => ?_) (fun e => ?_)⟩
    · have e1 : k < ((ns.map V.int).length : Int) := of_decide_eq_true e
      rw [List.length_map] at e1
      have hj : k.toNat < ns.length := by omega
      refine ⟨_, rfl, _, rfl, a, _, k, .int (ns[k.toNat]), rfl, rfl, hS, at_of (j := k.toNat) (by omega) ?_, q _⟩
      rw [List.getElem?_map, List.getElem?_eq_getElem hj]
      rfl
    · exact q 0
end
/-! ### what is kept of tuples -/
def isT : HO → Prop
  | .tup _ => True
  | .frz _ _ => True
  | _ => False
/-- tuples, and what is locked, stand as they stood -/
def TK (H H' : Hp) : Prop := ∀ a o, isT o → H a = some o → H' a = some o
theorem TK.refl (H : Hp) : TK H H := fun _ _ _ h => h
theorem TK.trans {H H1 H2 : Hp} (a : TK H H1) (b : TK H1 H2) : TK H H2 := fun c o t h => b c o t (a c o t h)
theorem TK.same {H H1 : Hp} (a : Same H H1) : TK H H1 := fun c o _ h => a c o h
theorem TK.new {p : Addr} {H : Hp} {o : HO} (h : H p = none) : TK H (upd H p o) := TK.same (same_new h)
theorem TK.lst {l : Addr} {H : Hp} {xs : List V} {o : HO} (h : H l = some (.lst xs)) : TK H (upd H l o) := fun c u t e => by
  have n : c ≠ l := fun z => by
    rw [z, h] at e
    cases e
    exact t
  rw [upd_ne n]
  exact e
theorem TK.dr {w : Addr} {H H' : Hp} (W : WellAt w H) (d : But w H H') : TK H H' := fun c u t e => by
  obtain ⟨xs, h, _⟩ := W
  have n : c ≠ w := fun z => by
    rw [z, h] at e
    cases e
    exact t
  exact d _ _ n e
theorem TK.seq {K : PySem.W.Frag} {H H' : Hp} {a : Addr} {xs : List V} (t : TK H H') (h : SqT K H a xs) : SqT K H' a xs := by
  rcases h with (h | ⟨o, h⟩) | h
  · exact .inl (.inl (t _ _ trivial h))
  · exact .inl (.inr ⟨o, t _ _ trivial h⟩)
  · exact .inr h
/-! ### gates and wires as data -/
abbrev Gt := Str × Int
abbrev Wr := Nat × Nat × List Int
def kinds : List Str := ["in", "out", "sum", "times", "most", "least", "first", "one"]
def portK (k : Str) : Prop := k = "in" ∨ k = "out"
/-- a gate -/
def GOk (g : Gt) : Prop := g.1 ∈ kinds ∧ 0 ≤ g.2 ∧ g.2 ≤ 100 ∧ (portK g.1 → g.2 = 0)
def GateV (K : PySem.W.Frag) (H : Hp) (v : V) (g : Gt) : Prop := ∃ a, v = .ref a ∧ SqT K H a [.str g.1, .int g.2]
def WireV (K : PySem.W.Frag) (H : Hp) (v : V) (x : Wr) : Prop := ∃ a b, v = .ref a ∧ SqT K H a [.int x.1, .int x.2.1, .ref b] ∧ SqT K H b (x.2.2.map V.int)
theorem GateV.tk {K : PySem.W.Frag} {H H' : Hp} {v : V} {g : Gt} (t : TK H H') (h : GateV K H v g) : GateV K H' v g := by
  obtain ⟨a, e, s⟩ := h
  exact ⟨a, e, t.seq s⟩
theorem WireV.tk {K : PySem.W.Frag} {H H' : Hp} {v : V} {x : Wr} (t : TK H H') (h : WireV K H v x) : WireV K H' v x := by
  obtain ⟨a, b, e, s, s2⟩ := h
  exact ⟨a, b, e, t.seq s, t.seq s2⟩
theorem Dr.new {wl p : Addr} {H : Hp} {o : HO} (W : WellAt wl H) (h : H p = none) : Dr wl H (upd H p o) := ⟨But.new h, W.new h⟩
def ROk (r : List Int) : Prop := ∀ x ∈ r, 0 ≤ x ∧ x ≤ 96
theorem tyes {σ : L2.St} {H : Hp} {A B : Hp → Prop} (h : A H) : tYes σ H (fun b H3 => if b = true then A H3 else B H3) := by
  show if true = true then A H else B H
  rw [if_pos rfl]
  exact h
/-! ### two lists, place by place -/
def All2 {α β : Type} (R : α → β → Prop) (xs : List α) (ys : List β) : Prop := xs.length = ys.length ∧ ∀ (i : Nat) (x : α) (y : β), xs[i]? = some x → ys[i]? = some y → R x y
section
variable {α β : Type} {R S : α → β → Prop} {xs : List α} {ys : List β} {x : α} {y : β}
theorem All2.nil : All2 R [] [] := ⟨rfl, fun i x y h => by simp at h⟩
theorem All2.imp (h : All2 R xs ys) (f : ∀ x y, R x y → S x y) : All2 S xs ys := ⟨h.1, fun i x y a b => f x y (h.2 i x y a b)⟩
theorem All2.snoc (h : All2 R xs ys) (r : R x y) : All2 R (xs ++ [x]) (ys ++ [y]) := by
  refine ⟨by simp [h.1], fun i a b ha hb => ?_⟩
  by_cases hi : i < xs.length
  · rw [List.getElem?_append_left hi] at ha
    rw [List.getElem?_append_left (by rw [← h.1]; exact hi)] at hb
    exact h.2 i a b ha hb
  · rw [List.getElem?_append_right (by omega)] at ha
    rw [List.getElem?_append_right (by rw [← h.1]; omega), ← h.1] at hb
    cases e : i - xs.length with
    | zero =>
      rw [e] at ha hb
      simp at ha hb
      subst ha hb
      exact r
    | succ n =>
      rw [e] at ha
      simp at ha
theorem All2.cons (r : R x y) (h : All2 R xs ys) : All2 R (x :: xs) (y :: ys) := by
  refine ⟨by simp [h.1], fun i a b ha hb => ?_⟩
  cases i with
  | zero =>
    simp at ha hb
    subst ha hb
    exact r
  | succ n => exact h.2 n a b (by simpa using ha) (by simpa using hb)
theorem All2.head {x : α} {y : β} (h : All2 R (x :: xs) (y :: ys)) : R x y := h.2 0 x y rfl rfl
theorem All2.tail {x : α} {y : β} (h : All2 R (x :: xs) (y :: ys)) : All2 R xs ys := ⟨by have := h.1; simp at this; exact this, fun i a b ha hb => h.2 (i + 1) a b (by simpa using ha) (by simpa using hb)⟩
theorem All2.get (h : All2 R xs ys) {i : Nat} {x : α} (e : xs[i]? = some x) : ∃ y, ys[i]? = some y ∧ R x y := by
  have hi := (List.getElem?_eq_some_iff.mp e).1
  have hj : i < ys.length := by rw [← h.1]; exact hi
  exact ⟨ys[i], List.getElem?_eq_getElem hj, h.2 i x _ e (List.getElem?_eq_getElem hj)⟩
theorem All2.getR (h : All2 R xs ys) {i : Nat} {y : β} (e : ys[i]? = some y) : ∃ x, xs[i]? = some x ∧ R x y := by
  have hi := (List.getElem?_eq_some_iff.mp e).1
  have hj : i < xs.length := by rw [h.1]; exact hi
  exact ⟨xs[i], List.getElem?_eq_getElem hj, h.2 i _ y (List.getElem?_eq_getElem hj) e⟩
theorem All2.perm {xs' : List α} (p : xs'.Perm xs) : ∀ {ys : List β}, All2 R xs ys → ∃ ys', ys'.Perm ys ∧ All2 R xs' ys' := by
  induction p with
  | nil => intro ys h; exact ⟨ys, .refl _, h⟩
  | @cons a l1 l2 p ih =>
    intro ys h
    cases ys with
    | nil => have := h.1; simp at this
    | cons y ys =>
      obtain ⟨ys', p', h'⟩ := ih h.tail
      exact ⟨y :: ys', p'.cons y, h'.cons h.head⟩
  | swap a b l =>
    intro ys h
    match ys, h with
    | [], h => have := h.1; simp at this
    | [_], h => have := h.1; simp at this
    | y :: z :: ys, h => exact ⟨z :: y :: ys, .swap _ _ _, All2.cons h.tail.head (All2.cons h.head h.tail.tail)⟩
  | trans p1 p2 ih1 ih2 =>
    intro ys h
    obtain ⟨ys1, q1, h1⟩ := ih2 h
    obtain ⟨ys2, q2, h2⟩ := ih1 h1
    exact ⟨ys2, q2.trans q1, h2⟩
end
/-! ### nets as data -/
def kindAt (gs : List Gt) (i : Nat) : Str := (gs.getD i ("", 0)).1
def cnt (ws : List Wr) (e : Nat) : Nat := ws.countP (fun x => x.2.1 == e)
/-- a wire between these gates -/
structure WOk (gs : List Gt) (x : Wr) : Prop where
  s : x.1 < gs.length
  e : x.2.1 < gs.length
  ks : kindAt gs x.1 ≠ "out"
  ke : kindAt gs x.2.1 ≠ "in"
  r : ROk x.2.2
  rl : x.2.2.length ≤ 900
structure NetOk (gs : List Gt) (ws : List Wr) : Prop where
  ne : gs ≠ []
  gl : gs.length ≤ 100
  wl : ws.length ≤ 1000
  gok : ∀ g ∈ gs, GOk g
  wok : ∀ x ∈ ws, WOk gs x
  one : ∀ e, e < gs.length → kindAt gs e = "out" → cnt ws e = 1
  some : ∀ e, e < gs.length → kindAt gs e = "first" → 1 ≤ cnt ws e
  rank : ∃ ρ : Nat → Nat, ∀ x ∈ ws, x.2.2 = [] → ρ x.1 < ρ x.2.1
/-- numbered anew: the gate k is the old gate at left's place k -/
theorem NetOk.anew {gs : List Gt} {ws : List Wr} {left : List Nat} (N : NetOk gs ws) (p : left.Perm (List.range gs.length)) {ws' : List Wr} (pw : ws'.Perm ws) :
    NetOk (left.map fun k => gs.getD k ("", 0)) (ws'.map fun x => (left.idxOf x.1, left.idxOf x.2.1, x.2.2)) := by
  have hl : left.length = gs.length := by rw [p.length_eq, List.length_range]
  have nd : left.Nodup := p.nodup_iff.mpr List.nodup_range
  have mem : ∀ i, i < gs.length → i ∈ left := fun i hi => p.mem_iff.mpr (List.mem_range.mpr hi)
  have memb : ∀ i, i ∈ left → i < gs.length := fun i hi => List.mem_range.mp (p.mem_iff.mp hi)
  have il : ∀ i, i < gs.length → left.idxOf i < left.length := fun i hi => List.idxOf_lt_length_iff.mpr (mem i hi)
  have ge : ∀ i (h : i < gs.length), left[left.idxOf i]? = Option.some i := fun i h => by
    rw [List.getElem?_eq_getElem (il i h), List.getElem_idxOf]
  have kk : ∀ i, i < gs.length → kindAt (left.map fun k => gs.getD k ("", 0)) (left.idxOf i) = kindAt gs i := fun i h => by
    unfold kindAt
    rw [List.getD_eq_getElem?_getD, List.getElem?_map, ge i h]
    rfl
  have inj : ∀ i j, i < gs.length → j < gs.length → left.idxOf i = left.idxOf j → i = j := fun i j hi hj e => by
    have h1 := ge i hi
    rw [e, ge j hj] at h1
    exact (Option.some.inj h1).symm
  have cc : ∀ e, e < gs.length → cnt (ws'.map fun x => (left.idxOf x.1, left.idxOf x.2.1, x.2.2)) (left.idxOf e) = cnt ws e := fun e he => by
    unfold cnt
    rw [List.countP_map, ← pw.countP_eq]
    refine List.countP_congr fun x hx => ?_
    have := (N.wok x (pw.mem_iff.mp hx)).e
    simp only [Function.comp, beq_iff_eq]
    exact ⟨fun z => inj _ _ this he z, fun z => by rw [z]⟩
  have back : ∀ e, e < left.length → ∃ i, i < gs.length ∧ left.idxOf i = e := fun e he => by
    refine ⟨left[e], memb _ (List.getElem_mem he), ?_⟩
    exact List.Nodup.idxOf_getElem nd e he
  obtain ⟨ρ, hρ⟩ := N.rank
  refine ⟨?_, by simpa [hl] using N.gl, by simpa [pw.length_eq] using N.wl, ?_, ?_, ?_, ?_, ?_⟩
  · intro z
    have := congrArg List.length z
    simp [hl] at this
    exact N.ne this
  · intro g hg
    obtain ⟨k, hk, rfl⟩ := List.mem_map.mp hg
    refine N.gok _ ?_
    rw [List.getD_eq_getElem?_getD, List.getElem?_eq_getElem (memb k hk)]
    exact List.getElem_mem _
  · intro y hy
    obtain ⟨x, hx, rfl⟩ := List.mem_map.mp hy
    have W := N.wok x (pw.mem_iff.mp hx)
    refine ⟨by simpa using il _ W.s, by simpa using il _ W.e, ?_, ?_, W.r, W.rl⟩
    · show kindAt _ (left.idxOf x.1) ≠ _
      rw [kk _ W.s]
      exact W.ks
    · show kindAt _ (left.idxOf x.2.1) ≠ _
      rw [kk _ W.e]
      exact W.ke
  · intro e he hk
    obtain ⟨i, hi, rfl⟩ := back e (by simpa using he)
    rw [kk i hi] at hk
    rw [cc i hi]
    exact N.one i hi hk
  · intro e he hk
    obtain ⟨i, hi, rfl⟩ := back e (by simpa using he)
    rw [kk i hi] at hk
    rw [cc i hi]
    exact N.some i hi hk
  · refine ⟨fun k => ρ (left.getD k 0), fun y hy h => ?_⟩
    obtain ⟨x, hx, rfl⟩ := List.mem_map.mp hy
    have W := N.wok x (pw.mem_iff.mp hx)
    have := hρ x (pw.mem_iff.mp hx) h
    simp only [List.getD_eq_getElem?_getD, ge _ W.s, ge _ W.e, Option.getD_some]
    exact this
theorem set_well {wl D : Addr} {H0 H : Hp} {o : HO} (d : Dr wl H0 H) (h0 : H0 D = none) (n : D ≠ wl) : Dr wl H0 (upd H D o) := by
  refine ⟨fun c u nc e => ?_, ?_⟩
  · rw [upd_ne (ne_of_none e h0)]
    exact d.but c u nc e
  · obtain ⟨xs, hx, k⟩ := d.well
    exact ⟨xs, by rw [upd_ne n.symm]; exact hx, k⟩
def tLen (K : PySem.W.Frag) (i : Nat) : TE := tCB (Evl.rLenS K) (tCons (tVar i) tNil)
/-- the wires into the gates ahead of i -/
structure WInv (gs : List Gt) (ws : List Wr) (i : Nat) : Prop where
  ok : ∀ x ∈ ws, WOk gs x ∧ (x.2.2 = [] → x.1 < x.2.1) ∧ x.2.1 < i
  one : ∀ e, e < i → kindAt gs e = "out" → cnt ws e = 1
  some : ∀ e, e < i → kindAt gs e = "first" → 1 ≤ cnt ws e
  len : ws.length ≤ 3 * i
  r2 : ∀ x ∈ ws, x.2.2.length ≤ 3
  c3 : ∀ e, cnt ws e ≤ 3
/-- .. and j wires into the gate i -/
structure WInv2 (gs : List Gt) (ws : List Wr) (i j : Nat) : Prop where
  ok : ∀ x ∈ ws, WOk gs x ∧ (x.2.2 = [] → x.1 < x.2.1) ∧ x.2.1 < i + 1
  one : ∀ e, e < i → kindAt gs e = "out" → cnt ws e = 1
  some : ∀ e, e < i → kindAt gs e = "first" → 1 ≤ cnt ws e
  here : cnt ws i = j
  len : ws.length ≤ 3 * i + j
  r2 : ∀ x ∈ ws, x.2.2.length ≤ 3
  c3 : ∀ e, e < i → cnt ws e ≤ 3
theorem WInv.go {gs : List Gt} {ws : List Wr} {i : Nat} (h : WInv gs ws i) : WInv2 gs ws i 0 := by
  refine ⟨fun x hx => ⟨(h.ok x hx).1, (h.ok x hx).2.1, by have := (h.ok x hx).2.2; omega⟩, h.one, h.some, ?_, h.len, h.r2, fun e _ => h.c3 e⟩
  unfold cnt
  rw [List.countP_eq_zero]
  intro x hx z
  have := (h.ok x hx).2.2
  simp at z
  omega
theorem WInv2.app {gs : List Gt} {ws : List Wr} {i j : Nat} {x : Wr} (h : WInv2 gs ws i j) (hx : WOk gs x) (hr : x.2.2 = [] → x.1 < x.2.1) (he : x.2.1 = i) (h2 : x.2.2.length ≤ 3) : WInv2 gs (ws ++ [x]) i (j + 1) := by
  have c : ∀ e, e < i → cnt (ws ++ [x]) e = cnt ws e := fun e he' => by
    unfold cnt
    rw [List.countP_append]
    have : (x.2.1 == e) = false := by simp; omega
    simp [List.countP_cons, this]
  refine ⟨fun y hy => ?_, fun e h1 h2 => by rw [c e h1]; exact h.one e h1 h2, fun e h1 h2 => by rw [c e h1]; exact h.some e h1 h2, ?_, by have := h.len; simp; omega, fun y hy => ?_, fun e he => by rw [c e he]; exact h.c3 e he⟩
  · rcases List.mem_append.mp hy with hy | hy
    · exact h.ok y hy
    · simp at hy
      subst hy
      exact ⟨hx, hr, by omega⟩
  · have := h.here
    unfold cnt at this ⊢
    rw [List.countP_append, this]
    simp [List.countP_cons, he]
  · rcases List.mem_append.mp hy with hy | hy
    · exact h.r2 y hy
    · simp at hy
      subst hy
      exact h2
theorem WInv2.done {gs : List Gt} {ws : List Wr} {i j : Nat} (h : WInv2 gs ws i j) (h1 : kindAt gs i = "out" → j = 1) (h2 : kindAt gs i = "first" → 1 ≤ j) (hj : j ≤ 3) : WInv gs ws (i + 1) := by
  refine ⟨fun x hx => h.ok x hx, fun e he hk => ?_, fun e he hk => ?_, by have := h.len; omega, h.r2, fun e => ?_⟩
  · by_cases hi : e = i
    · subst hi
      rw [h.here]
      exact h1 hk
    · exact h.one e (by omega) hk
  · by_cases hi : e = i
    · subst hi
      rw [h.here]
      exact h2 hk
    · exact h.some e (by omega) hk
  · rcases Nat.lt_trichotomy e i with z | z | z
    · exact h.c3 e z
    · rw [z, h.here]
      exact hj
    · have : cnt ws e = 0 := by
        unfold cnt
        rw [List.countP_eq_zero]
        intro x hx y
        have := (h.ok x hx).2.2
        simp at y
        omega
      omega
theorem WInv.net {gs : List Gt} {ws : List Wr} (h : WInv gs ws gs.length) (ne : gs ≠ []) (gl : gs.length ≤ 100) (gok : ∀ g ∈ gs, GOk g) : NetOk gs ws :=
  ⟨ne, gl, by have := h.len; omega, gok, fun x hx => (h.ok x hx).1, h.one, h.some, id, fun x hx hr => (h.ok x hx).2.1 hr⟩
/-- lists of gates, of wires, that stand tracked -/
def LG (K : PySem.W.Frag) (H : Hp) (l : Addr) (gs : List Gt) : Prop := ∃ vs, H l = some (.lst vs) ∧ All2 (GateV K H) vs gs
def LW (K : PySem.W.Frag) (H : Hp) (l : Addr) (ws : List Wr) : Prop := ∃ vs, H l = some (.lst vs) ∧ All2 (WireV K H) vs ws
theorem kindAt_get {gs : List Gt} {i : Nat} {g : Gt} (h : gs[i]? = some g) : kindAt gs i = g.1 := by
  unfold kindAt
  rw [List.getD_eq_getElem?_getD, h]
  rfl
theorem all2_eq {α β : Type} {f : β → α} : ∀ {xs : List α} {ys : List β}, All2 (fun x y => x = f y) xs ys → xs = ys.map f
  | [], [], _ => rfl
  | [], _ :: _, h => by have := h.1; simp at this
  | _ :: _, [], h => by have := h.1; simp at this
  | x :: xs, y :: ys, h => by rw [List.map_cons, ← all2_eq h.tail, ← h.head]
theorem eq_all2 {α β : Type} {f : β → α} (ys : List β) : All2 (fun x y => x = f y) (ys.map f) ys := ⟨by simp, fun i x y h1 h2 => by
  rw [List.getElem?_map, h2] at h1
  exact (Option.some.inj h1).symm⟩
theorem rgV_nat (n : Nat) : rgV 0 (n : Int) = (List.range n).map fun i => V.int (i : Nat) := by
  unfold rgV
  have : ((n : Int) - 0).toNat = n := by omega
  rw [this]
  refine List.map_congr_left fun i _ => ?_
  rw [Int.zero_add]
theorem flat_ints (l : List Nat) : (l.map fun i => V.int (i : Nat)).all flatV = true := by
  rw [List.all_eq_true]
  intro x hx
  obtain ⟨i, _, rfl⟩ := List.mem_map.mp hx
  rfl
/-- where a number stands among numbers without two alike -/
theorem idx_at {left : List Nat} {a : Nat} (h : a ∈ left) : (left.map fun i => V.int (i : Nat))[left.idxOf a]? = some (V.int (a : Nat)) := by
  rw [List.getElem?_map, List.getElem?_eq_getElem (List.idxOf_lt_length_iff.mpr h), List.getElem_idxOf]
  rfl
theorem eqV_int (a b : Int) : eqV (V.int a) (V.int b) = decide (a = b) := rfl
theorem idx_no {left : List Nat} {a m : Nat} {z : V} (nd : left.Nodup) (hm : m < left.idxOf a) (h : (left.map fun i => V.int (i : Nat))[m]? = some z) : eqV z (V.int (a : Nat)) = false := by
  rw [List.getElem?_map] at h
  cases e : left[m]? with
  | none =>
    rw [e] at h
    cases h
  | some b =>
    rw [e] at h
    cases h
    rw [eqV_int]
    refine decide_eq_false fun z => ?_
    have z : b = a := by omega
    obtain ⟨hm', eb⟩ := List.getElem?_eq_some_iff.mp e
    have := List.Nodup.idxOf_getElem nd m hm'
    rw [eb, z] at this
    omega
end Lag

set_option maxRecDepth 100000
set_option maxHeartbeats 4000000
namespace Lag
open PySem PySem.Spec PyProof.Rows L2
abbrev sWhole : Stmt := topS 10
abbrev sFromTo : Stmt := topS 11
abbrev sWorth : Stmt := topS 12
abbrev sIsGate : Stmt := topS 30
abbrev sChkGates : Stmt := topS 29
/-! ### o[i] of a list, by values -/
def rGetL (K : PySem.W.Frag) : V → V → Hp → VK → Prop := fun o i H Q => ∃ (p : Addr) (xs : List V) (j : Nat) (v : V), o = .ref p ∧ i = .int (j : Nat) ∧ SqL K H p xs ∧ xs[j]? = some v ∧ Q v H
theorem get_list {X : Cx} : PGet X (rGetL X.K) := by
  intro pins s σ H o i ov iv Q I ro ri h
  obtain ⟨p, xs, j, v, rfl, rfl, hq, he, q⟩ := h
  cases ro
  obtain ⟨t, rfl⟩ := ri
  obtain ⟨its, r, pl, hz⟩ := I.list hq
  obtain ⟨w, ew, rw'⟩ := r.get he
  have hl := r.length
  have hn := line63
  have hj : j < its.length := (List.getElem?_eq_some_iff.mp ew).1
  exact wpAny_getItem_list pl.isList (by omega) (by omega) (by simpa using ew) ⟨v, H, I, rw', q⟩
/-! ### names of built-ins, constants of the text -/
structure Bt (mg : Str → Option Value) : Prop where
  isi : mg "isinstance" = none
  int : mg "int" = none
  bool : mg "bool" = none
  len : mg "len" = none
  tuple : mg "tuple" = none
  str : mg "str" = none
  list : mg "list" = none
  all : mg "all" = none
  enum : mg "enumerate" = none
  zip : mg "zip" = none
  range : mg "range" = none
  max : mg "max" = none
structure Cns (K : PySem.W.Frag) (mg : Str → Option Value) (aK aW aF : Addr) : Prop where
  gw : ∃ t, mg "GREATEST_WORTH" = some (.int 96 t)
  ga : ∃ t, mg "GREATEST_WAIT" = some (.int 100 t)
  mK : mg "KINDS" = some (.ref aK)
  sK : ∀ H, SqT K H aK (kinds.map V.str)
  mW : mg "OUTER_KINDS" = some (.ref aW)
  sW : ∀ H, SqT K H aW [.str "in", .str "out"]
  mF : mg "KINDS_WITH_A_WIRE" = some (.ref aF)
  sF : ∀ H, SqT K H aF [.str "out", .str "first"]
theorem ty_tup {K : PySem.W.Frag} {H : Hp} {a : Addr} {xs : List V} (h : SqT K H a xs) : TyX K H (.ref a) (.type "tuple") := by
  rcases h with (h | ⟨o, h⟩) | ⟨o, its, n, hk, hc, _⟩
  · exact .base (.tup h)
  · exact .fTuple h
  · exact .kTuple hk hc
theorem ty_lst {K : PySem.W.Frag} {H : Hp} {a : Addr} {xs : List V} (h : SqL K H a xs) : TyX K H (.ref a) (.type "list") := by
  rcases h with (h | ⟨o, h⟩) | ⟨o, its, n, hk, hc, _⟩
  · exact .base (.lst h)
  · exact .base (.frz h)
  · exact .kList hk hc
/-! ### promises -/
def spWhole : Sp := fun vs H Q _ => ∃ n : Int, vs = [.int n] ∧ Q (.bl true) H
def spFromTo : Sp := fun vs H Q _ => ∃ n a b : Int, vs = [.int n, .int a, .int b] ∧ Q (.bl (decide (a ≤ n) && decide (n ≤ b))) H
def spWorth : Sp := fun vs H Q _ => ∃ n : Int, vs = [.int n] ∧ Q (.bl (decide (0 ≤ n) && decide (n ≤ 96))) H
def spIsGate (K : PySem.W.Frag) : Sp := fun vs H Q _ => ∃ (v : V) (g : Gt), vs = [v] ∧ GateV K H v g ∧ GOk g ∧ ∀ H', Same H H' → Q (.bl true) H'
/-- lists that are read -/
def RG (K : PySem.W.Frag) (H : Hp) (l : Addr) (gs : List Gt) : Prop := ∃ vs, SqL K H l vs ∧ All2 (GateV K H) vs gs
def RW (K : PySem.W.Frag) (H : Hp) (l : Addr) (ws : List Wr) : Prop := ∃ vs, SqL K H l vs ∧ All2 (WireV K H) vs ws
theorem RG.same {K : PySem.W.Frag} {H H' : Hp} {l : Addr} {gs : List Gt} (h : RG K H l gs) (s : Same H H') : RG K H' l gs := by
  obtain ⟨vs, q, a⟩ := h
  exact ⟨vs, s.seq q, a.imp fun _ _ r => r.tk (TK.same s)⟩
theorem RW.same {K : PySem.W.Frag} {H H' : Hp} {l : Addr} {ws : List Wr} (h : RW K H l ws) (s : Same H H') : RW K H' l ws := by
  obtain ⟨vs, q, a⟩ := h
  exact ⟨vs, s.seq q, a.imp fun _ _ r => r.tk (TK.same s)⟩
def spChkGates (K : PySem.W.Frag) : Sp := fun vs H Q _ => ∃ (l : Addr) (gs : List Gt), vs = [.ref l] ∧ RG K H l gs ∧ gs ≠ [] ∧ (∀ g ∈ gs, GOk g) ∧ ∀ H', Same H H' → Q .non H'
section
variable {P : Program} {w : World} {K : PySem.W.Frag} {mg : Str → Option Value} {base : Heap}
/-! ### is_whole, is_whole_from_to, is_worth -/
theorem scWhole : FnScope ["thing"] ["thing"] (defScope sWhole) := ⟨rfl, rfl, rfl, by decide +kernel, rfl, by decide +kernel, by decide +kernel⟩
abbrev DWhole (P : Program) (w : World) (K : PySem.W.Frag) (mg : Str → Option Value) (base : Heap) := Df P w K mg base 1 "is_whole" ["thing"] spWhole
theorem ok_whole {f : Addr} {fd : FuncData} (F : Fun K "is_whole" "is_whole" sWhole f fd) (hm : mg "is_whole" = some (.ref f)) (B : Bt mg) : DWhole P w K mg base f fd := by
  refine ⟨?_, hm, F.kp, F.binds fun _ _ _ _ _ _ us hl => match us, hl with | [_], _ => rfl⟩
  refine F.ok scWhole (fun vs H Q E h => ?_) (fun cdv A outer s H vs Q E hr h => ?_)
  · obtain ⟨n, rfl, _⟩ := h
    rfl
  · obtain ⟨n, rfl, q⟩ := h
    refine ⟨_, pss_one <| ps_ret <| pe_and (pe_callB call_isi (by rfl) B.isi (by decide +kernel) (pa_cons (pv 0) (pa_cons (pe_bltn (v := .ty "int") (by rfl) B.int (by decide +kernel) rfl) pa_nil)))
      (pe_one (pe_not (pe_callB call_isi (by rfl) B.isi (by decide +kernel) (pa_cons (pv 0) (pa_cons (pe_bltn (v := .ty "bool") (by rfl) B.bool (by decide +kernel) rfl) pa_nil))))), ?_⟩
    refine ⟨_, rfl, _, _, _, _, true, rfl, .ty "int", .base (.int n), kit_ty (by decide +kernel), true, rfl, iteT ?_⟩
    exact ⟨_, rfl, _, _, _, _, false, rfl, .ty "bool", .base (.int n), kit_ty (by decide +kernel), false, rfl, q⟩
theorem scFromTo : FnScope ["thing", "least", "greatest"] ["thing", "least", "greatest"] (defScope sFromTo) := ⟨rfl, rfl, rfl, by decide +kernel, rfl, by decide +kernel, by decide +kernel⟩
abbrev DFromTo (P : Program) (w : World) (K : PySem.W.Frag) (mg : Str → Option Value) (base : Heap) := Df P w K mg base 2 "is_whole_from_to" ["thing", "least", "greatest"] spFromTo
theorem ok_fromTo {f fW : Addr} {fd fdW : FuncData} (F : Fun K "is_whole_from_to" "is_whole_from_to" sFromTo f fd) (hm : mg "is_whole_from_to" = some (.ref f)) (DW : DWhole P w K mg base fW fdW) : DFromTo P w K mg base f fd := by
  refine ⟨?_, hm, F.kp, F.binds fun _ _ _ _ _ _ us hl => match us, hl with | [_, _, _], _ => rfl⟩
  refine F.ok scFromTo (fun vs H Q E h => ?_) (fun cdv A outer s H vs Q E hr h => ?_)
  · obtain ⟨n, a, b, rfl, _⟩ := h
    rfl
  · obtain ⟨n, a, b, rfl, q⟩ := h
    refine ⟨_, pss_one <| ps_ret <| pe_and (pe_call DW.ok hr (by rfl) DW.mg DW.kp DW.bd .nil pass0 (pa_cons (pv 0) pa_nil)) (pe_one (pe_chain op_le op_le (pv 1) (pv 0) (pv 2))), ?_⟩
    refine ⟨_, rfl, n, rfl, true, rfl, iteT ?_⟩
    refine ⟨_, rfl, _, rfl, _, _, rfl, rfl, _, rfl, ?_⟩
    cases e : decide (a ≤ n) with
    | false =>
      rw [e] at q
      exact iteF q
    | true =>
      rw [e] at q
      exact iteT ⟨_, rfl, _, _, rfl, rfl, q⟩
theorem scWorth : FnScope ["thing"] ["thing"] (defScope sWorth) := ⟨rfl, rfl, rfl, by decide +kernel, rfl, by decide +kernel, by decide +kernel⟩
abbrev DWorth (P : Program) (w : World) (K : PySem.W.Frag) (mg : Str → Option Value) (base : Heap) := Df P w K mg base 3 "is_worth" ["thing"] spWorth
theorem ok_worth {f fF aK aW aF : Addr} {fd fdF : FuncData} (F : Fun K "is_worth" "is_worth" sWorth f fd) (hm : mg "is_worth" = some (.ref f)) (C : Cns K mg aK aW aF) (DF : DFromTo P w K mg base fF fdF) : DWorth P w K mg base f fd := by
  obtain ⟨tg, hgw⟩ := C.gw
  refine ⟨?_, hm, F.kp, F.binds fun _ _ _ _ _ _ us hl => match us, hl with | [_], _ => rfl⟩
  refine F.ok scWorth (fun vs H Q E h => ?_) (fun cdv A outer s H vs Q E hr h => ?_)
  · obtain ⟨n, rfl, _⟩ := h
    rfl
  · obtain ⟨n, rfl, q⟩ := h
    refine ⟨_, pss_one <| ps_ret <| pe_call DF.ok hr (by rfl) DF.mg DF.kp DF.bd .nil pass0 <| pa_cons (pv 0) <| pa_cons pe_int <| pa_cons (pe_glob (v := .int 96) (by rfl) hgw ⟨_, rfl⟩) pa_nil, ?_⟩
    exact ⟨_, rfl, n, 0, 96, rfl, q⟩
/-! ### is_gate -/
theorem scIsGate : FnScope ["thing", "kind", "wait"] ["thing"] (defScope sIsGate) := ⟨rfl, rfl, rfl, by decide +kernel, rfl, by decide +kernel, by decide +kernel⟩
abbrev DIsGate (P : Program) (w : World) (K : PySem.W.Frag) (mg : Str → Option Value) (base : Heap) := Df P w K mg base 3 "is_gate" ["thing"] (spIsGate K)
theorem kinds_in {k : Str} (h : k ∈ kinds) : inV (.str k) (kinds.map V.str) = true := by
  unfold inV
  rw [List.any_eq_true]
  exact ⟨.str k, List.mem_map.mpr ⟨k, h, rfl⟩, beq_self_eq_true k⟩
theorem flat_strs (l : List Str) : (l.map V.str).all flatV = true := by
  rw [List.all_eq_true]
  intro x hx
  obtain ⟨i, _, rfl⟩ := List.mem_map.mp hx
  rfl
theorem ok_isGate {f fF aK aW aF : Addr} {fd fdF : FuncData} (F : Fun K "is_gate" "is_gate" sIsGate f fd) (hm : mg "is_gate" = some (.ref f)) (B : Bt mg) (C : Cns K mg aK aW aF) (DF : DFromTo P w K mg base fF fdF) : DIsGate P w K mg base f fd := by
  obtain ⟨tg, hga⟩ := C.ga
  refine ⟨?_, hm, F.kp, F.binds fun _ _ _ _ _ _ us hl => match us, hl with | [_], _ => rfl⟩
  refine F.ok scIsGate (fun vs H Q E h => ?_) (fun cdv A outer s H vs Q E hr h => ?_)
  · obtain ⟨v, g, rfl, _⟩ := h
    rfl
  · obtain ⟨v, g, rfl, ⟨a, rfl, sq⟩, gok, q⟩ := h
    have nd := scIsGate.nd
    refine ⟨_, pss_cons (ps_if (PW.pt (pw_or (pt_not (pt_val (pe_callB call_isi (by rfl) B.isi (by decide +kernel) (pa_cons (pv 0) (pa_cons (pe_bltn (v := .ty "tuple") (by rfl) B.tuple (by decide +kernel) rfl) pa_nil)))))
          (pw_or1 (pt_cmpR op_ne (pe_callB call_len_seq (by rfl) B.len PySem.boot_len (pa_cons (pv 0) pa_nil)) pe_int (nomark _))))) (pss_one (ps_ret pe_bl)) pss_nil) <|
      pss_cons (ps_asg (pv 0) (pg_tup (by rfl) (pgs_cons (pg_name (i := 1) nd rfl (.inl rfl)) (pgs_cons (pg_name (i := 2) nd rfl (.inl rfl)) pgs_nil)))) <|
      pss_cons (ps_if (PW.pt (pw_or (pt_not (pt_val (pe_callB call_isi (by rfl) B.isi (by decide +kernel) (pa_cons (pv 1) (pa_cons (pe_bltn (v := .ty "str") (by rfl) B.str (by decide +kernel) rfl) pa_nil)))))
          (pw_or1 (pt_cmpR op_notIn_seq (pv 1) (pe_glob (v := .ref aK) (by rfl) C.mK rfl) (by rfl))))) (pss_one (ps_ret pe_bl)) pss_nil) <|
      pss_one <| ps_ret <| pe_call DF.ok hr (by rfl) DF.mg DF.kp DF.bd .nil pass0 <| pa_cons (pv 2) <| pa_cons pe_int <| (pa_cons · pa_nil) <|
        pe_ifExp (pt_cmpR op_in_seq (pv 1) (pe_glob (v := .ref aW) (by rfl) C.mW rfl) (by rfl)) pe_int (pe_glob (v := .int 100) (by rfl) hga ⟨_, rfl⟩), ?_⟩
    refine ⟨_, rfl, _, _, _, _, true, rfl, .ty "tuple", ty_tup sq, kit_ty (by decide +kernel), true, rfl, ?_⟩
    refine iteF ⟨_, rfl, a, _, rfl, .inr sq, rfl, _, rfl, iteF ?_⟩
    refine ⟨_, rfl, a, _, rfl, sq, rfl, _, _, rfl, _, _, rfl, rfl, ?_⟩
    refine ⟨_, rfl, _, _, _, _, true, rfl, .ty "str", .base (.str g.1), kit_ty (by decide +kernel), true, rfl, ?_⟩
    refine iteF ⟨_, rfl, aK, _, rfl, .inr (C.sK H), rfl, flat_strs _, false, ?_, iteF ?_⟩
    · show V.bl (!inV (V.str g.1) (kinds.map V.str)) = V.bl false
      rw [kinds_in gok.1]
      rfl
    refine ⟨_, rfl, _, rfl, aW, _, rfl, .inr (C.sW H), rfl, rfl, _, rfl, ite2 (fun e => ?_) (fun e => ?_)⟩
    · have hp : portK g.1 := by
        have e' : inV (V.str g.1) [V.str "in", V.str "out"] = true := e
        unfold inV at e'
        rw [List.any_eq_true] at e'
        obtain ⟨x, hx, hxe⟩ := e'
        simp only [List.mem_cons, List.not_mem_nil, or_false] at hx
        rcases hx with rfl | rfl
        · exact .inl (eq_of_beq hxe).symm
        · exact .inr (eq_of_beq hxe).symm
      have h0 := gok.2.2.2 hp
      refine ⟨g.2, 0, 0, rfl, ?_⟩
      rw [h0]
      exact q H (Same.refl H)
    · refine ⟨g.2, 0, 100, rfl, ?_⟩
      rw [decide_eq_true gok.2.1, decide_eq_true gok.2.2.1]
      exact q H (Same.refl H)
end
end Lag

set_option maxRecDepth 100000
set_option maxHeartbeats 4000000
namespace Lag
open PySem PySem.Spec PyProof.Rows L2
abbrev sIsWire : Stmt := topS 32
abbrev sTaken : Stmt := topS 33
def spIsWire (K : PySem.W.Frag) : Sp := fun vs H Q _ => ∃ (v : V) (x : Wr) (n : Nat), vs = [v, .int (n : Nat)] ∧ WireV K H v x ∧ x.1 < n ∧ x.2.1 < n ∧ ROk x.2.2 ∧ x.2.2.length ≤ 1000 ∧ ∀ H', Same H H' → Q (.bl true) H'
def spTaken (K : PySem.W.Frag) : Sp := fun vs H Q _ => ∃ (v : V) (x : Wr) (lg lc : Addr) (gs : List Gt) (cs : List Nat), vs = [v, .ref lg, .ref lc] ∧ WireV K H v x ∧ RG K H lg gs ∧ SqL K H lc (cs.map fun i => V.int (i : Nat)) ∧ WOk gs x ∧ cs.length = gs.length ∧
  (kindAt gs x.2.1 = "out" → cs[x.2.1]? = some 0) ∧ Q (.bl true) H
section
variable {P : Program} {w : World} {K : PySem.W.Frag} {mg : Str → Option Value} {base : Heap}
/-! ### check_gates -/
theorem scChkGates : FnScope ["gates", "thing"] ["gates"] (defScope sChkGates) := ⟨rfl, rfl, rfl, by decide +kernel, rfl, by decide +kernel, by decide +kernel⟩
abbrev DChkGates (P : Program) (w : World) (K : PySem.W.Frag) (mg : Str → Option Value) (base : Heap) := Df P w K mg base 4 "check_gates" ["gates"] (spChkGates K)
theorem ok_chkGates {f fG : Addr} {fd fdG : FuncData} (F : Fun K "check_gates" "check_gates" sChkGates f fd) (hm : mg "check_gates" = some (.ref f)) (B : Bt mg) (DG : DIsGate P w K mg base fG fdG) : DChkGates P w K mg base f fd := by
  refine ⟨?_, hm, F.kp, F.binds fun _ _ _ _ _ _ us hl => match us, hl with | [_], _ => rfl⟩
  refine F.ok scChkGates (fun vs H Q E h => ?_) (fun cdv A outer s H vs Q E hr h => ?_)
  · obtain ⟨l, gs, rfl, _⟩ := h
    rfl
  · obtain ⟨l, gs, rfl, R, hne, gok, q⟩ := h
    have nd := scChkGates.nd
    refine ⟨_, pss_cons (ps_if (PW.pt (pw_or (pt_not (pt_val (pe_callB call_isi (by rfl) B.isi (by decide +kernel) (pa_cons (pv 0) (pa_cons (pe_bltn (v := .ty "list") (by rfl) B.list (by decide +kernel) rfl) pa_nil)))))
          (pw_or1 (pt_cmpR op_eq (pe_callB call_len_seq (by rfl) B.len PySem.boot_len (pa_cons (pv 0) pa_nil)) pe_int (nomark _))))) (pss_one ps_never) pss_nil) <|
      pss_one <| ps_for PassesOwn.never rfl (pi_list (pv 0)) (pg_name (i := 1) nd rfl (.inl rfl)) <|
        pss_one <| ps_if (pt_not (pt_val (pe_call DG.ok hr (by rfl) DG.mg DG.kp DG.bd .nil pass0 (pa_cons (pv 1) pa_nil)))) (pss_one ps_never) pss_nil, ?_⟩
    obtain ⟨gv, sg, ga⟩ := R
    have hl : gv.length = gs.length := ga.1
    have hpos : 0 < gs.length := by
      cases gs with
      | nil => exact absurd rfl hne
      | cons _ _ => simp
    refine ⟨_, rfl, _, _, _, _, true, rfl, .ty "list", ty_lst sg, kit_ty (by decide +kernel), true, rfl, ?_⟩
    refine iteF ⟨_, rfl, l, gv, rfl, .inl sg, rfl, false, ?_, iteF ?_⟩
    · show V.bl (decide (V.int (gv.length : Int) = V.int 0)) = V.bl false
      rw [decide_eq_false]
      intro z
      have := V.int.inj z
      omega
    refine ⟨_, rfl, l, rfl, ⟨_, sg⟩, for_list (K := K) (a := l) (xs := gv) (fun i σ H2 => ∃ y, σ = [some (.ref l), y] ∧ Same H H2) ⟨_, rfl, Same.refl H⟩ (fun i σ H2 _ ⟨_, _, sm⟩ => sm.seq sg) ?_ ?_⟩
    · rintro i x σ H2 hx ⟨y, rfl, sm⟩
      obtain ⟨g, hg, gv⟩ := ga.get hx
      refine ⟨_, rfl, x, g, rfl, gv.tk (TK.same sm), gok g (List.mem_of_getElem? hg), fun H3 sm3 => ⟨true, rfl, iteF ⟨_, rfl, sm.trans sm3⟩⟩⟩
    · rintro σ H2 ⟨y, rfl, sm⟩
      exact q H2 sm
/-! ### is_wire -/
abbrev nIsWire : List Str := ["thing", "many_gates", "start", "end", "held", "worth"]
theorem scIsWire : FnScope nIsWire ["thing", "many_gates"] (defScope sIsWire) := ⟨rfl, rfl, rfl, by decide +kernel, rfl, by decide +kernel, by decide +kernel⟩
abbrev DIsWire (P : Program) (w : World) (K : PySem.W.Frag) (mg : Str → Option Value) (base : Heap) := Df P w K mg base 4 "is_wire" ["thing", "many_gates"] (spIsWire K)
theorem ok_isWire {f fF fW : Addr} {fd fdF fdW : FuncData} (F : Fun K "is_wire" "is_wire" sIsWire f fd) (hm : mg "is_wire" = some (.ref f)) (B : Bt mg) (DF : DFromTo P w K mg base fF fdF) (DW : DWorth P w K mg base fW fdW) : DIsWire P w K mg base f fd := by
  refine ⟨?_, hm, F.kp, F.binds fun _ _ _ _ _ _ us hl => match us, hl with | [_, _], _ => rfl⟩
  refine F.ok scIsWire (fun vs H Q E h => ?_) (fun cdv A outer s H vs Q E hr h => ?_)
  · obtain ⟨v, x, n, rfl, _⟩ := h
    rfl
  · obtain ⟨v, x, n, rfl, ⟨a, b, rfl, sq1, sq2⟩, hs, he, rok, rl, q⟩ := h
    have nd := scIsWire.nd
    have hr2 : Room 2 _ := hr.mono (by decide)
    refine ⟨_, pss_cons (ps_if (PW.pt (pw_or (pt_not (pt_val (pe_callB call_isi (by rfl) B.isi (by decide +kernel) (pa_cons (pv 0) (pa_cons (pe_bltn (v := .ty "tuple") (by rfl) B.tuple (by decide +kernel) rfl) pa_nil)))))
          (pw_or1 (pt_cmpR op_ne (pe_callB call_len_seq (by rfl) B.len PySem.boot_len (pa_cons (pv 0) pa_nil)) pe_int (nomark _))))) (pss_one (ps_ret pe_bl)) pss_nil) <|
      pss_cons (ps_asg (pv 0) (pg_tup (by rfl) (pgs_cons (pg_name (i := 2) nd rfl (.inl rfl)) (pgs_cons (pg_name (i := 3) nd rfl (.inl rfl)) (pgs_cons (pg_name (i := 4) nd rfl (.inl rfl)) pgs_nil))))) <|
      pss_cons (ps_if (PW.pt (pw_or (pt_not (pt_val (pe_call DF.ok hr2 (by rfl) DF.mg DF.kp DF.bd .nil pass0 (pa_cons (pv 2) (pa_cons pe_int (pa_cons (pe_op op_sub (pv 1) pe_int) pa_nil))))))
          (pw_or1 (pt_not (pt_val (pe_call DF.ok hr2 (by rfl) DF.mg DF.kp DF.bd .nil pass0 (pa_cons (pv 3) (pa_cons pe_int (pa_cons (pe_op op_sub (pv 1) pe_int) pa_nil))))))))) (pss_one (ps_ret pe_bl)) pss_nil) <|
      pss_one <| ps_ret <| pe_and (pe_callB call_isi (by rfl) B.isi (by decide +kernel) (pa_cons (pv 4) (pa_cons (pe_bltn (v := .ty "tuple") (by rfl) B.tuple (by decide +kernel) rfl) pa_nil))) <| pe_one <|
        pe_callB (cr_all rfl) (by rfl) B.all (by decide +kernel) <| (pa_cons · pa_nil) <| pe_lc (own := [("worth", 5)]) (g := gName 5) (tt := tYes) (te := tCall spWorth [] E0 (tCons (tVar 5) tNil)) rfl nd (pi_tup (pv 4)) (blkOk_by (N := nIsWire) (sc := defScope sIsWire) (own := [("worth", 5)]) (by decide +kernel))
          (fun _ _ _ _ _ => pg_name (i := 5) nd rfl (.inl rfl)) (fun _ _ _ _ _ => pts_nil) (fun _ _ _ _ _ => pe_call DW.ok hr (by rfl) DW.mg DW.kp DW.bd .nil pass0 (pa_cons (pv 5) pa_nil)), ?_⟩
    refine ⟨_, rfl, _, _, _, _, true, rfl, .ty "tuple", ty_tup sq1, kit_ty (by decide +kernel), true, rfl, ?_⟩
    refine iteF ⟨_, rfl, a, _, rfl, .inr sq1, rfl, _, rfl, iteF ?_⟩
    refine ⟨_, rfl, a, _, rfl, sq1, rfl, _, _, rfl, _, _, rfl, _, _, rfl, rfl, ?_⟩
    refine ⟨_, rfl, _, rfl, _, _, rfl, rfl, _, _, _, rfl, true, ?_, iteF ?_⟩
    · rw [decide_eq_true (by omega), decide_eq_true (by omega)]
      rfl
    refine ⟨_, rfl, _, rfl, _, _, rfl, rfl, _, _, _, rfl, true, ?_, iteF ?_⟩
    · rw [decide_eq_true (by omega), decide_eq_true (by omega)]
      rfl
    refine ⟨_, rfl, _, _, _, _, true, rfl, .ty "tuple", ty_tup sq2, kit_ty (by decide +kernel), true, rfl, iteT ?_⟩
    refine ⟨_, rfl, b, rfl, ⟨_, sq2⟩, fun D hD => ?_⟩
    refine lc_tup (K := K) (a := b) (xs := x.2.2.map V.int) (fun i Hc => Hc D = some (.lst ((List.replicate i true).map V.bl)) ∧ Same H Hc) ⟨upd_same, same_new hD⟩ (fun i Hc _ ⟨_, sm⟩ => (TK.same sm).seq sq2) ?_ ?_
    · rintro i y Hc hy ⟨hc, sm⟩
      rw [List.getElem?_map] at hy
      cases ey : x.2.2[i]? with
      | none =>
        rw [ey] at hy
        cases hy
      | some z =>
      rw [ey] at hy
      cases hy
      have hz := rok z (List.mem_of_getElem? ey)
      have hi : i < x.2.2.length := (List.getElem?_eq_some_iff.mp ey).1
      refine ⟨rfl, tyes ?_⟩
      refine ⟨_, rfl, z, rfl, _, hc, by rw [List.length_map, List.length_replicate]; exact small1000 (by omega), ?_, same_mut sm hD⟩
      rw [upd_same, decide_eq_true hz.1, decide_eq_true hz.2, List.replicate_succ', List.map_append]
      rfl
    · rintro Hc ⟨hc, sm⟩
      refine ⟨D, _, rfl, SqL.of hc, ?_⟩
      have e : (List.replicate (x.2.2.map V.int).length true).all id = true := by
        rw [List.all_eq_true]
        intro y hy
        rw [List.mem_replicate] at hy
        rw [hy.2]
        rfl
      rw [e]
      exact q Hc sm
/-! ### is_taken -/
theorem scTaken : FnScope ["wire", "gates", "come", "start", "end"] ["wire", "gates", "come"] (defScope sTaken) := ⟨rfl, rfl, rfl, by decide +kernel, rfl, by decide +kernel, by decide +kernel⟩
abbrev DTaken (P : Program) (w : World) (K : PySem.W.Frag) (mg : Str → Option Value) (base : Heap) := Df P w K mg base 1 "is_taken" ["wire", "gates", "come"] (spTaken K)
theorem ok_taken {f : Addr} {fd : FuncData} (F : Fun K "is_taken" "is_taken" sTaken f fd) (hm : mg "is_taken" = some (.ref f)) : DTaken P w K mg base f fd := by
  refine ⟨?_, hm, F.kp, F.binds fun _ _ _ _ _ _ us hl => match us, hl with | [_, _, _], _ => rfl⟩
  refine F.ok scTaken (fun vs H Q E h => ?_) (fun cdv A outer s H vs Q E hr h => ?_)
  · obtain ⟨v, x, lg, lc, gs, cs, rfl, _⟩ := h
    rfl
  · obtain ⟨v, x, lg, lc, gs, cs, rfl, ⟨a, b, rfl, sq1, sq2⟩, ⟨gv, sg, ga⟩, sc, W, hcl, h0, q⟩ := h
    have nd := scTaken.nd
    refine ⟨_, pss_cons (ps_par (i := 3) (j := 4) (by rfl) nd rfl rfl (by decide) rfl rfl (pa_cons (pe_ix ix_tup (pv 0) pe_int (fun _ _ => rfl)) (pa_cons (pe_ix ix_tup (pv 0) pe_int (fun _ _ => rfl)) pa_nil)) (by rfl)) <|
      pss_cons (ps_if (PW.pt (pw_or (pt_cmpR op_eq (pe_ix ix_tup (pe_ix ix_list (pv 1) (pv 3) (fun _ _ => rfl)) pe_int (fun _ _ => rfl)) pe_str (nomark _)) (pw_or1 (pt_cmpR op_eq (pe_ix ix_tup (pe_ix ix_list (pv 1) (pv 4) (fun _ _ => rfl)) pe_int (fun _ _ => rfl)) pe_str (nomark _))))) (pss_one (ps_ret pe_bl)) pss_nil) <|
      pss_one <| ps_ret <| pe_or (pe_cmpR op_ne (pe_ix ix_tup (pe_ix ix_list (pv 1) (pv 4) (fun _ _ => rfl)) pe_int (fun _ _ => rfl)) pe_str (nomark _)) (pe_one (pe_cmpR op_eq (pe_ix ix_list (pv 2) (pv 4) (fun _ _ => rfl)) pe_int (nomark _))), ?_⟩
    have hl : gv.length = gs.length := ga.1
    obtain ⟨vs1, g1, e1, f1, a1, rfl, s1⟩ : ∃ vs1 g1, gv[x.1]? = some vs1 ∧ gs[x.1]? = some g1 ∧ GateV K H vs1 g1 := by
      have e1 : gs[x.1]? = some (gs[x.1]'W.s) := List.getElem?_eq_getElem W.s
      obtain ⟨y, hy, r⟩ := ga.getR e1
      exact ⟨y, _, hy, e1, r⟩
    obtain ⟨vs2, g2, e2, f2, a2, rfl, s2⟩ : ∃ vs2 g2, gv[x.2.1]? = some vs2 ∧ gs[x.2.1]? = some g2 ∧ GateV K H vs2 g2 := by
      have e1 : gs[x.2.1]? = some (gs[x.2.1]'W.e) := List.getElem?_eq_getElem W.e
      obtain ⟨y, hy, r⟩ := ga.getR e1
      exact ⟨y, _, hy, e1, r⟩
    have k1 := kindAt_get f1
    have k2 := kindAt_get f2
    refine ⟨_, rfl, a, _, 0, _, rfl, rfl, sq1, atI_nat (j := 0) rfl, _, rfl, a, _, 1, _, rfl, rfl, sq1, atI_nat (j := 1) rfl, _, _, rfl, ?_⟩
    refine ⟨_, rfl, _, rfl, lg, gv, _, _, rfl, rfl, sg, atI_nat e1, a1, _, 0, _, rfl, rfl, s1, atI_nat (j := 0) rfl, rfl, false, ?_, iteF ?_⟩
    · show V.bl (decide (V.str g1.1 = V.str "out")) = V.bl false
      rw [decide_eq_false]
      intro z
      exact W.ks (by rw [k1]; exact V.str.inj z)
    refine ⟨_, rfl, _, rfl, lg, gv, _, _, rfl, rfl, sg, atI_nat e2, a2, _, 0, _, rfl, rfl, s2, atI_nat (j := 0) rfl, rfl, false, ?_, iteF ?_⟩
    · show V.bl (decide (V.str g2.1 = V.str "in")) = V.bl false
      rw [decide_eq_false]
      intro z
      exact W.ke (by rw [k2]; exact V.str.inj z)
    refine ⟨_, rfl, _, rfl, lg, gv, _, _, rfl, rfl, sg, atI_nat e2, a2, _, 0, _, rfl, rfl, s2, atI_nat (j := 0) rfl, rfl, _, rfl, ite2 (fun e => ?_) (fun e => ?_)⟩
    · exact q
    · have hk : kindAt gs x.2.1 = "out" := by
        rw [k2]
        refine Classical.byContradiction fun z => e ?_
        show (!decide (V.str g2.1 = V.str "out")) = true
        rw [decide_eq_false (fun y => z (V.str.inj y))]
        rfl
      have hc := h0 hk
      refine ⟨_, rfl, _, rfl, lc, _, _, .int 0, rfl, rfl, sc, atI_nat (by rw [List.getElem?_map, hc]; rfl), rfl, q⟩
end
end Lag

set_option maxRecDepth 100000
set_option maxHeartbeats 4000000
namespace Lag
open PySem PySem.Spec PyProof.Rows L2
abbrev sChkWires : Stmt := topS 31
def cntL (n : Nat) (ws : List Wr) : List Nat := (List.range n).map (cnt ws)
theorem cntL_len (n : Nat) (ws : List Wr) : (cntL n ws).length = n := by simp [cntL]
theorem cntL_get {n e : Nat} {ws : List Wr} (h : e < n) : (cntL n ws)[e]? = some (cnt ws e) := by
  unfold cntL
  rw [List.getElem?_map, List.getElem?_range h]
  rfl
theorem cntL_nil (n : Nat) : cntL n [] = List.replicate n 0 := by
  refine List.ext_getElem? fun i => ?_
  by_cases h : i < n
  · rw [cntL_get h, List.getElem?_replicate, if_pos h]
    rfl
  · rw [List.getElem?_eq_none (by rw [cntL_len]; omega), List.getElem?_eq_none (by simp; omega)]
theorem cnt_app (ws : List Wr) (x : Wr) (e : Nat) : cnt (ws ++ [x]) e = cnt ws e + if x.2.1 = e then 1 else 0 := by
  unfold cnt
  rw [List.countP_append, List.countP_cons, List.countP_nil]
  by_cases h : x.2.1 = e <;> simp [h]
theorem cntL_app {n : Nat} {ws : List Wr} {x : Wr} (h : x.2.1 < n) : (cntL n ws).set x.2.1 (cnt ws x.2.1 + 1) = cntL n (ws ++ [x]) := by
  refine List.ext_getElem? fun i => ?_
  by_cases hi : i < n
  · rw [cntL_get hi, cnt_app, List.getElem?_set]
    by_cases e : x.2.1 = i
    · rw [if_pos e, if_pos e, if_pos (by rw [cntL_len]; exact h), e]
    · rw [if_neg e, if_neg e, cntL_get hi]
      rfl
  · rw [List.getElem?_eq_none (by rw [List.length_set, cntL_len]; omega), List.getElem?_eq_none (by rw [cntL_len]; omega)]
theorem cnt_take_lt {ws : List Wr} {i : Nat} {x : Wr} (h : ws[i]? = some x) : cnt (ws.take i) x.2.1 + 1 ≤ cnt ws x.2.1 := by
  have e : ws.take (i + 1) = ws.take i ++ [x] := by rw [List.take_add_one, h]; rfl
  have h1 : cnt (ws.take (i + 1)) x.2.1 ≤ cnt ws x.2.1 := by
    unfold cnt
    exact List.Sublist.countP_le (List.take_sublist _ _)
  rw [e, cnt_app, if_pos rfl] at h1
  exact h1
def spChkWires (K : PySem.W.Frag) : Sp := fun vs H Q _ => ∃ (lg lw : Addr) (gs : List Gt) (ws : List Wr), vs = [.ref lg, .ref lw] ∧ RG K H lg gs ∧ RW K H lw ws ∧ NetOk gs ws ∧ ∀ H', Same H H' → Q .non H'
theorem map_set' {α β : Type} (f : α → β) (l : List α) (i : Nat) (a : α) : (l.map f).set i (f a) = (l.set i a).map f := by simp [List.map_set]
section
variable {P : Program} {w : World} {K : PySem.W.Frag} {mg : Str → Option Value} {base : Heap}
theorem scChkWires : FnScope ["gates", "wires", "come", "place", "thing", "gate", "many"] ["gates", "wires"] (defScope sChkWires) := ⟨rfl, rfl, rfl, by decide +kernel, rfl, by decide +kernel, by decide +kernel⟩
abbrev DChkWires (P : Program) (w : World) (K : PySem.W.Frag) (mg : Str → Option Value) (base : Heap) := Df P w K mg base 5 "check_wires" ["gates", "wires"] (spChkWires K)
theorem ok_chkWires {f fW fT aK aW aF : Addr} {fd fdW fdT : FuncData} (F : Fun K "check_wires" "check_wires" sChkWires f fd) (hm : mg "check_wires" = some (.ref f)) (B : Bt mg) (C : Cns K mg aK aW aF) (DW : DIsWire P w K mg base fW fdW) (DT : DTaken P w K mg base fT fdT) : DChkWires P w K mg base f fd := by
  refine ⟨?_, hm, F.kp, F.binds fun _ _ _ _ _ _ us hl => match us, hl with | [_, _], _ => rfl⟩
  refine F.ok scChkWires (fun vs H Q E h => ?_) (fun cdv A outer s H vs Q E hr h => ?_)
  · obtain ⟨lg, lw, gs, ws, rfl, _⟩ := h
    rfl
  · obtain ⟨lg, lw, gs, ws, rfl, RGs, ⟨wv, sw, wa⟩, N, q⟩ := h
    have nd := scChkWires.nd
    have hr1 : Room 1 _ := hr.mono (by decide)
    refine ⟨_, pss_cons (ps_if (pt_not (pt_val (pe_callB call_isi (by rfl) B.isi (by decide +kernel) (pa_cons (pv 1) (pa_cons (pe_bltn (v := .ty "list") (by rfl) B.list (by decide +kernel) rfl) pa_nil))))) (pss_one ps_never) pss_nil) <|
      pss_cons (ps_set (i := 2) nd rfl (Or.inl rfl) (pe_op op_rep (pe_lst (pa_cons pe_int pa_nil)) (pe_callB call_len_seq (by rfl) B.len PySem.boot_len (pa_cons (pv 0) pa_nil)))) <|
      pss_cons (ps_for PassesOwn.never rfl (pi_enum (by rfl) B.enum (pa_cons (pv 1) pa_nil)) (pg_tup rfl (pgs_cons (pg_name (i := 3) nd rfl (Or.inl rfl)) (pgs_cons (pg_name (i := 4) nd rfl (Or.inl rfl)) pgs_nil))) <|
        pss_cons (ps_if (PW.pt (pw_or (pt_not (pt_val (pe_call DW.ok hr (by rfl) DW.mg DW.kp DW.bd .nil pass0 (pa_cons (pv 4) (pa_cons (pe_callB call_len_seq (by rfl) B.len PySem.boot_len (pa_cons (pv 0) pa_nil)) pa_nil)))))
            (pw_or1 (pt_not (pt_val (pe_call DT.ok hr1 (by rfl) DT.mg DT.kp DT.bd .nil pass0 (pa_cons (pv 4) (pa_cons (pv 0) (pa_cons (pv 2) pa_nil))))))))) (pss_one ps_never) pss_nil) <|
        pss_one <| ps_augS (pv 2) (pe_ix ix_tup (pv 4) pe_int (fun _ _ => rfl)) get_list pe_int ip_add set_list) <|
      pss_one <| ps_for PassesOwn.never rfl (pi_zip (by rfl) B.zip (pa_cons (pv 0) (pa_cons (pv 2) pa_nil))) (pg_tup rfl (pgs_cons (pg_name (i := 5) nd rfl (Or.inl rfl)) (pgs_cons (pg_name (i := 6) nd rfl (Or.inl rfl)) pgs_nil))) <|
        pss_one <| ps_if (PW.pt (pw_and (pt_cmpR op_in_seq (pe_ix ix_tup (pv 5) pe_int (fun _ _ => rfl)) (pe_glob (v := .ref aF) (by rfl) C.mF rfl) (by rfl)) (pw_and1 (pt_cmpR op_eq (pv 6) pe_int (nomark _))))) (pss_one ps_never) pss_nil, ?_⟩
    obtain ⟨gv, sg, ga⟩ := id RGs
    have hlg : gv.length = gs.length := ga.1
    have hlw : wv.length = ws.length := wa.1
    have hgl := N.gl
    refine ⟨_, rfl, _, _, _, _, true, rfl, .ty "list", ty_lst sw, kit_ty (by decide +kernel), true, rfl, iteF ?_⟩
    refine ⟨(by show 1 ≤ sizeLine; decide), fun l0 hl0 => ?_⟩
    refine ⟨_, rfl, lg, gv, rfl, .inl ((same_new hl0).seq sg), ?_⟩
    refine ⟨l0, _, _, rfl, rfl, upd_same, by omega, by omega, ?_, fun lc hlc => ?_⟩
    · show 1 * _ ≤ sizeLine
      have : 1 * ((gv.length : Int)).toNat ≤ 1000 := by omega
      exact Nat.le_of_lt (small1000 this)
    have sm0 : Same H (upd H l0 (.lst [.int 0])) := same_new hl0
    have hlc0 : H lc = none := sm0.free hlc
    have e0 : (List.replicate ((gv.length : Int)).toNat [V.int 0]).flatten = (cntL gs.length (ws.take 0)).map fun i => V.int (i : Nat) := by
      rw [List.take_zero, cntL_nil, List.map_replicate, ← hlg, Int.toNat_natCast]
      generalize gv.length = n
      induction n with
      | zero => rfl
      | succ n ih =>
        rw [List.replicate_succ, List.flatten_cons, ih, List.replicate_succ]
        rfl
    rw [e0]
    -- for place, thing in enumerate(wires)
    refine ⟨_, rfl, lw, wv, rfl, (sm0.trans (same_new hlc)).seq sw, for_it (walk_enum (K := K) (a := lw) (xs := wv)) (fun i σ H2 => ∃ s3 s4 : Option V, σ = [some (.ref lg), some (.ref lw), some (.ref lc), s3, s4, none, none] ∧
        H2 lc = some (.lst ((cntL gs.length (ws.take i)).map fun i => V.int (i : Nat))) ∧ Same H H2)
      ⟨_, _, rfl, upd_same, sm0.trans (same_new hlc)⟩ (fun i σ H2 _ ⟨_, _, _, _, sm⟩ => sm.seq sw) ?_ ?_⟩
    · rintro i v σ H2 H2' hi ⟨s3, s4, rfl, hc, sm⟩ ⟨T, x1, y, rfl, hT, rfl, ex, ey⟩
      cases ex
      obtain ⟨x, hx, wx⟩ := wa.get ey
      have W := N.wok x (List.mem_of_getElem? hx)
      have hxi : i < ws.length := (List.getElem?_eq_some_iff.mp hx).1
      have smT : Same H2 (upd H2 T (.tup [.int (i : Nat), y])) := same_new hT
      have sm2 := sm.trans smT
      refine ⟨T, _, rfl, .inl (.inl upd_same), rfl, _, _, rfl, _, _, rfl, rfl, ?_⟩
      refine ⟨_, rfl, _, rfl, lg, gv, rfl, .inl (sm2.seq sg), y, x, gv.length, rfl, wx.tk (TK.same sm2), by rw [hlg]; exact W.s, by rw [hlg]; exact W.e, W.r, by have := W.rl; omega, fun H3 sm3 => ⟨true, rfl, iteF ?_⟩⟩
      have sm4 := sm2.trans sm3
      have hc3 := sm3 _ _ (smT _ _ hc)
      refine ⟨_, rfl, _, rfl, _, rfl, y, x, lg, lc, gs, cntL gs.length (ws.take i), rfl, wx.tk (TK.same sm4), RGs.same sm4, SqL.of hc3, W, cntL_len _ _, fun hk => ?_, true, rfl, iteF ?_⟩
      · rw [cntL_get W.e]
        have h1 := N.one _ W.e hk
        have h2 := cnt_take_lt hx
        congr 1
        omega
      obtain ⟨a, b, rfl, sq1, sq2⟩ := wx
      have hlen : x.2.1 < (cntL gs.length (ws.take i)).length := by rw [cntL_len]; exact W.e
      refine ⟨_, rfl, _, rfl, a, _, 1, _, rfl, rfl, (TK.same sm4).seq sq1, atI_nat (j := 1) rfl, lc, _, x.2.1, .int (cnt (ws.take i) x.2.1 : Nat), rfl, rfl, SqL.of hc3, by rw [List.getElem?_map, cntL_get W.e]; rfl, _, _, rfl, rfl, lc, _, _, x.2.1, rfl, rfl, hc3, Evl.ixN_nat (by rw [List.length_map]; exact hlen), ?_⟩
      refine ⟨_, _, rfl, ?_, same_mut sm4 hlc0⟩
      have et : ws.take (i + 1) = ws.take i ++ [x] := by rw [List.take_add_one, hx]; rfl
      rw [upd_same, et, ← cntL_app W.e, ← map_set']
      rfl
    · rintro σ H2 ⟨s3, s4, rfl, hc, sm⟩
      rw [hlw, List.take_length] at hc
      -- for gate, many in zip(gates, come)
      refine ⟨_, rfl, _, rfl, lg, lc, gv, _, rfl, sm.seq sg, SqL.of hc, RZ.for_zipL (K := K) (a := lg) (b := lc) (xs := gv) (by rw [List.length_map, cntL_len]; exact hlg) (fun i σ H3 => ∃ s5 s6 : Option V, σ = [some (.ref lg), some (.ref lw), some (.ref lc), s3, s4, s5, s6] ∧ Same H2 H3)
        ⟨_, _, rfl, Same.refl H2⟩ (fun i σ H3 ⟨_, _, _, sm3⟩ => ⟨(sm.trans sm3).seq sg, SqL.of (sm3 _ _ hc)⟩) ?_ ?_⟩
      · rintro i x y T σ H3 hx hy ⟨s5, s6, rfl, sm3⟩ hT
        obtain ⟨g, hg, a, rfl, sq⟩ := ga.get hx
        have hgi : i < gs.length := (List.getElem?_eq_some_iff.mp hg).1
        rw [List.getElem?_map, cntL_get hgi] at hy
        cases hy
        have sm4 : Same H (upd H3 T (.tup [.ref a, .int (cnt ws i : Nat)])) := (sm.trans sm3).trans (same_new hT)
        refine ⟨T, _, rfl, .inl (.inl upd_same), rfl, _, _, rfl, _, _, rfl, rfl, ?_⟩
        refine ⟨_, rfl, a, _, 0, _, rfl, rfl, (TK.same sm4).seq sq, atI_nat (j := 0) rfl, aF, _, rfl, .inr (C.sF _), rfl, rfl, _, rfl, ite2 (fun e => ?_) (fun e => ?_)⟩
        · have e' : inV (V.str g.1) [V.str "out", V.str "first"] = true := e
          have hpos : 1 ≤ cnt ws i := by
            unfold inV at e'
            rw [List.any_eq_true] at e'
            obtain ⟨x, hx, hxe⟩ := e'
            simp only [List.mem_cons, List.not_mem_nil, or_false] at hx
            rcases hx with rfl | rfl
            · have := N.one i hgi (by rw [kindAt_get hg]; exact (eq_of_beq hxe).symm)
              omega
            · exact N.some i hgi (by rw [kindAt_get hg]; exact (eq_of_beq hxe).symm)
          refine ⟨_, rfl, rfl, false, ?_, iteF ⟨_, _, rfl, sm3.trans (same_new hT)⟩⟩
          show V.bl (decide (V.int (cnt ws i : Int) = V.int 0)) = V.bl false
          rw [decide_eq_false]
          intro z
          have := V.int.inj z
          omega
        · exact iteF ⟨_, _, rfl, sm3.trans (same_new hT)⟩
      · rintro σ H3 ⟨s5, s6, rfl, sm3⟩
        exact q H3 (sm.trans sm3)
end
end Lag

set_option maxRecDepth 100000
set_option maxHeartbeats 4000000
namespace Lag
open PySem PySem.Spec PyProof.Rows L2
/-! ### the order of gates along wires without registers: the mathematics -/
def bare (ws : List Wr) : List (Nat × Nat) := (ws.filter fun x => x.2.2.isEmpty).map fun x => (x.1, x.2.1)
/-- how many wires of B lead into e from gates that are not in dn -/
def mis (B : List (Nat × Nat)) (dn : List Nat) (e : Nat) : Nat := B.countP fun b => b.2 == e && !dn.contains b.1
def frm (B : List (Nat × Nat)) (g e : Nat) : Nat := B.countP fun b => b.1 == g && b.2 == e
theorem mis_split {B : List (Nat × Nat)} {dn : List Nat} {g : Nat} (h : g ∉ dn) (e : Nat) : mis B dn e = mis B (dn ++ [g]) e + frm B g e := by
  unfold mis frm
  induction B with
  | nil => rfl
  | cons b B ih =>
    rw [List.countP_cons, List.countP_cons, List.countP_cons, ih]
    by_cases h1 : b.2 = e
    · by_cases h2 : b.1 = g
      · have : b.1 ∉ dn := by rw [h2]; exact h
        simp [h1, h2, h]
        omega
      · by_cases h3 : b.1 ∈ dn
        · simp [h1, h2, h3]
        · simp [h1, h2, h3]
          omega
    · simp [h1]
theorem mis_zero {B : List (Nat × Nat)} {dn : List Nat} {e : Nat} (h : mis B dn e = 0) {b : Nat × Nat} (hb : b ∈ B) (he : b.2 = e) : b.1 ∈ dn := by
  unfold mis at h
  rw [List.countP_eq_zero] at h
  have := h b hb
  simp [he] at this
  exact this
theorem frm_drop {B : List (Nat × Nat)} {j : Nat} {b : Nat × Nat} (h : B[j]? = some b) (g e : Nat) : frm (B.drop j) g e = frm (B.drop (j + 1)) g e + if b.1 = g ∧ b.2 = e then 1 else 0 := by
  obtain ⟨hj, rfl⟩ := List.getElem?_eq_some_iff.mp h
  rw [List.drop_eq_getElem_cons hj]
  unfold frm
  rw [List.countP_cons]
  by_cases h1 : B[j].1 = g <;> by_cases h2 : B[j].2 = e <;> simp [h1, h2]
structure KI (B : List (Nat × Nat)) (n : Nat) (placed : List Nat) (d : Nat) : Prop where
  nd : placed.Nodup
  lt : ∀ e ∈ placed, e < n
  le : d ≤ placed.length
  iff : ∀ e, e < n → (e ∈ placed ↔ mis B (placed.take d) e = 0)
  top : ∀ (j e : Nat), placed[j]? = some e → ∀ b ∈ B, b.2 = e → b.1 ∈ placed.take j
structure KJ (B : List (Nat × Nat)) (n : Nat) (placed : List Nat) (d g j : Nat) : Prop where
  nd : placed.Nodup
  lt : ∀ e ∈ placed, e < n
  at_ : placed[d]? = some g
  iff : ∀ e, e < n → (e ∈ placed ↔ mis B (placed.take (d + 1)) e + frm (B.drop j) g e = 0)
  top : ∀ (j e : Nat), placed[j]? = some e → ∀ b ∈ B, b.2 = e → b.1 ∈ placed.take j
theorem take_add {l : List Nat} {d g : Nat} (h : l[d]? = some g) : l.take (d + 1) = l.take d ++ [g] := by rw [List.take_add_one, h]; rfl
theorem nodup_take {l : List Nat} {d g : Nat} (nd : l.Nodup) (h : l[d]? = some g) : g ∉ l.take d := by
  intro hm
  obtain ⟨i, hi⟩ := List.getElem?_of_mem hm
  have h1 : i < d := by
    have := (List.getElem?_eq_some_iff.mp hi).1
    rw [List.length_take] at this
    omega
  rw [List.getElem?_take_of_lt h1] at hi
  have := nd_ix nd hi h
  omega
theorem KI.go {B : List (Nat × Nat)} {n : Nat} {placed : List Nat} {d g : Nat} (h : KI B n placed d) (hg : placed[d]? = some g) : KJ B n placed d g 0 :=
  ⟨h.nd, h.lt, hg, fun e he => by rw [h.iff e he, take_add hg, mis_split (nodup_take h.nd hg), List.drop_zero], h.top⟩
theorem KJ.done {B : List (Nat × Nat)} {n : Nat} {placed : List Nat} {d g : Nat} (h : KJ B n placed d g B.length) : KI B n placed (d + 1) := by
  have hd : d < placed.length := (List.getElem?_eq_some_iff.mp h.at_).1
  refine ⟨h.nd, h.lt, hd, fun e he => ?_, h.top⟩
  rw [h.iff e he, List.drop_length]
  rfl
theorem KJ.skip {B : List (Nat × Nat)} {n : Nat} {placed : List Nat} {d g j : Nat} {b : Nat × Nat} (h : KJ B n placed d g j) (hb : B[j]? = some b) (hg : b.1 ≠ g) : KJ B n placed d g (j + 1) :=
  ⟨h.nd, h.lt, h.at_, fun e he => by rw [h.iff e he, frm_drop hb, if_neg (fun z => hg z.1)]; rfl, h.top⟩
theorem KJ.not {B : List (Nat × Nat)} {n : Nat} {placed : List Nat} {d g j : Nat} {b : Nat × Nat} (h : KJ B n placed d g j) (hb : B[j]? = some b) (hg : b.1 = g) (hn : mis B (placed.take (d + 1)) b.2 + frm (B.drop (j + 1)) g b.2 ≠ 0) : KJ B n placed d g (j + 1) := by
  refine ⟨h.nd, h.lt, h.at_, fun e he => ?_, h.top⟩
  rw [h.iff e he, frm_drop hb]
  by_cases h2 : b.2 = e
  · subst h2
    rw [if_pos ⟨hg, rfl⟩]
    omega
  · rw [if_neg (fun z => h2 z.2)]
    rfl
theorem KJ.put {B : List (Nat × Nat)} {n : Nat} {placed : List Nat} {d g j : Nat} {b : Nat × Nat} (h : KJ B n placed d g j) (hb : B[j]? = some b) (hg : b.1 = g) (hlt : b.2 < n) (hn : mis B (placed.take (d + 1)) b.2 + frm (B.drop (j + 1)) g b.2 = 0) : KJ B n (placed ++ [b.2]) d g (j + 1) := by
  have hd : d < placed.length := (List.getElem?_eq_some_iff.mp h.at_).1
  have hnot : b.2 ∉ placed := fun z => by
    have := (h.iff _ hlt).mp z
    rw [frm_drop hb, if_pos ⟨hg, rfl⟩] at this
    omega
  have et : (placed ++ [b.2]).take (d + 1) = placed.take (d + 1) := List.take_append_of_le_length (by omega)
  refine ⟨?_, ?_, ?_, ?_, ?_⟩
  · rw [List.nodup_append]
    refine ⟨h.nd, by simp, fun a ha c hc => ?_⟩
    simp at hc
    subst hc
    intro z
    exact hnot (by rw [← z]; exact ha)
  · intro e he
    rcases List.mem_append.mp he with he | he
    · exact h.lt e he
    · simp at he
      subst he
      exact hlt
  · rw [List.getElem?_append_left hd]
    exact h.at_
  · intro e he
    rw [et, List.mem_append]
    by_cases h2 : b.2 = e
    · subst h2
      simp [hn]
    · have := h.iff e he
      rw [frm_drop hb, if_neg (fun z => h2 z.2)] at this
      rw [this]
      simp
      intro z
      exact absurd z.symm h2
  · intro k e hk c hc hce
    by_cases hk' : k < placed.length
    · rw [List.getElem?_append_left hk'] at hk
      rw [List.take_append_of_le_length (by omega)]
      exact h.top k e hk c hc hce
    · have hkl : k = placed.length := by
        have := (List.getElem?_eq_some_iff.mp hk).1
        simp at this
        omega
      subst hkl
      rw [List.getElem?_append_right (by omega)] at hk
      simp at hk
      subst hk
      rw [List.take_left']
      · have := mis_zero (show mis B (placed.take (d + 1)) b.2 = 0 by omega) hc hce
        exact List.mem_of_mem_take this
      · rfl
/-- what the order is: gates without two alike, each behind those it hangs on; all whose wires come from such -/
def Ord (n : Nat) (ws : List Wr) (ord : List Nat) : Prop := KI (bare ws) n ord ord.length
theorem Ord.full {n : Nat} {ws : List Wr} {ord : List Nat} (h : Ord n ws ord) (hw : ∀ x ∈ ws, x.1 < n ∧ x.2.1 < n) (rk : ∃ ρ : Nat → Nat, ∀ x ∈ ws, x.2.2 = [] → ρ x.1 < ρ x.2.1) : ord.Perm (List.range n) := by
  obtain ⟨ρ, hρ⟩ := rk
  have all : ∀ r e, e < n → ρ e = r → e ∈ ord := by
    intro r
    induction r using Nat.strongRecOn with
    | ind r ih =>
      intro e he hr
      rw [h.iff e he, List.take_length]
      unfold mis
      rw [List.countP_eq_zero]
      intro b hb
      obtain ⟨x, hx, rfl⟩ := List.mem_map.mp hb
      rw [List.mem_filter] at hx
      have hr0 : x.2.2 = [] := by simpa using hx.2
      have := hρ x hx.1 hr0
      simp
      intro z
      exact ih (ρ x.1) (by rw [← hr, ← z]; exact this) x.1 (hw x hx.1).1 rfl
  rw [List.perm_iff_count]
  intro a
  rw [h.nd.count, List.nodup_range.count]
  by_cases ha : a < n
  · rw [if_pos (all _ a ha rfl), if_pos (List.mem_range.mpr ha)]
  · rw [if_neg (fun z => ha (h.lt a z)), if_neg (fun z => ha (List.mem_range.mp z))]
end Lag

set_option maxRecDepth 100000
set_option maxHeartbeats 8000000
namespace Lag
open PySem PySem.Spec PyProof.Rows L2
abbrev sAlong : Stmt := topS 15
abbrev sOrder : Stmt := topS 35
def PairV (K : PySem.W.Frag) (H : Hp) (v : V) (b : Nat × Nat) : Prop := ∃ a, v = .ref a ∧ SqT K H a [.int (b.1 : Nat), .int (b.2 : Nat)]
theorem PairV.tk {K : PySem.W.Frag} {H H' : Hp} {v : V} {b : Nat × Nat} (t : TK H H') (h : PairV K H v b) : PairV K H' v b := by
  obtain ⟨a, e, s⟩ := h
  exact ⟨a, e, t.seq s⟩
/-- numbers by a function of the place -/
def fnL (n : Nat) (f : Nat → Nat) : List V := (List.range n).map fun e => V.int (f e : Nat)
theorem fnL_len (n : Nat) (f : Nat → Nat) : (fnL n f).length = n := by simp [fnL]
theorem fnL_get {n e : Nat} {f : Nat → Nat} (h : e < n) : (fnL n f)[e]? = some (V.int (f e : Nat)) := by
  unfold fnL
  rw [List.getElem?_map, List.getElem?_range h]
  rfl
theorem fnL_set {n e : Nat} {f f' : Nat → Nat} {z : Int} (h : e < n) (he : (f' e : Int) = z) (ho : ∀ i, i ≠ e → f' i = f i) : (fnL n f).set e (V.int z) = fnL n f' := by
  refine List.ext_getElem? fun i => ?_
  by_cases hi : i < n
  · rw [fnL_get hi, List.getElem?_set]
    by_cases ei : e = i
    · subst ei
      rw [if_pos rfl, if_pos (by rw [fnL_len]; exact h), he]
    · rw [if_neg ei, fnL_get hi, ho i (fun z => ei z.symm)]
  · rw [List.getElem?_eq_none (by rw [List.length_set, fnL_len]; omega), List.getElem?_eq_none (by rw [fnL_len]; omega)]
theorem fnL_zero (n : Nat) (f : Nat → Nat) (h : ∀ e, f e = 0) : (List.replicate n [V.int 0]).flatten = fnL n f := by
  have e : f = fun _ => 0 := funext h
  subst e
  unfold fnL
  induction n with
  | zero => rfl
  | succ n ih =>
    rw [List.replicate_succ', List.flatten_append, ih, List.range_succ, List.map_append]
    rfl
def spOrder (K : PySem.W.Frag) : Sp := fun vs H Q _ => ∃ (n : Nat) (lw : Addr) (ws : List Wr), vs = [.int (n : Nat), .ref lw] ∧ RW K H lw ws ∧ (∀ x ∈ ws, x.1 < n ∧ x.2.1 < n) ∧ n ≤ 1000 ∧ ws.length ≤ 1000 ∧
  ∀ (ord : List Nat) (p : Addr) (H' : Hp), Ord n ws ord → Same H H' → H p = none → H' p = some (.lst (ord.map fun i => V.int (i : Nat))) → Q (.ref p) H'
def spAlong (K : PySem.W.Frag) : Sp := fun vs H Q _ => ∃ (n : Nat) (lb : Addr) (bv : List V) (B : List (Nat × Nat)), vs = [.int (n : Nat), .ref lb] ∧ SqL K H lb bv ∧ All2 (PairV K H) bv B ∧ (∀ b ∈ B, b.1 < n ∧ b.2 < n) ∧ n ≤ 1000 ∧ B.length ≤ 1000 ∧
  ∀ (ord : List Nat) (p : Addr) (H' : Hp), KI B n ord ord.length → Same H H' → H p = none → H' p = some (.lst (ord.map fun i => V.int (i : Nat))) → Q (.ref p) H'
abbrev nAlong : List Str := ["many", "pairs", "missing", "start", "end", "placed", "done", "place"]
theorem scAlong : FnScope nAlong ["many", "pairs"] (defScope sAlong) := ⟨rfl, rfl, rfl, by decide +kernel, rfl, by decide +kernel, by decide +kernel⟩
abbrev nOrder : List Str := ["many_gates", "wires", "start", "end", "held"]
theorem scOrder : FnScope nOrder ["many_gates", "wires"] (defScope sOrder) := ⟨rfl, rfl, rfl, by decide +kernel, rfl, by decide +kernel, by decide +kernel⟩
theorem bare_take {ws : List Wr} {i : Nat} {x : Wr} (h : ws[i]? = some x) : bare (ws.take (i + 1)) = if x.2.2.isEmpty then bare (ws.take i) ++ [(x.1, x.2.1)] else bare (ws.take i) := by
  unfold bare
  rw [List.take_add_one, h]
  show ((ws.take i ++ [x]).filter _).map _ = _
  rw [List.filter_append]
  by_cases e : x.2.2.isEmpty
  · rw [if_pos e, List.filter_cons, if_pos e, List.map_append]
    rfl
  · rw [if_neg e, List.filter_cons, if_neg e, List.filter_nil, List.append_nil]
theorem bare_len (ws : List Wr) : (bare ws).length ≤ ws.length := by
  unfold bare
  rw [List.length_map]
  exact List.length_filter_le _ _
theorem mis_take {B : List (Nat × Nat)} {i : Nat} {b : Nat × Nat} (h : B[i]? = some b) (e : Nat) : mis (B.take (i + 1)) [] e = mis (B.take i) [] e + if b.2 = e then 1 else 0 := by
  unfold mis
  rw [List.take_add_one, h]
  show (B.take i ++ [b]).countP _ = _
  rw [List.countP_append, List.countP_cons, List.countP_nil]
  by_cases h1 : b.2 = e <;> simp [h1]
section
variable {P : Program} {w : World} {K : PySem.W.Frag} {mg : Str → Option Value} {base : Heap}
abbrev DAlong (P : Program) (w : World) (K : PySem.W.Frag) (mg : Str → Option Value) (base : Heap) := Df P w K mg base 1 "order_along" ["many", "pairs"] (spAlong K)
theorem ok_along {f : Addr} {fd : FuncData} (F : Fun K "order_along" "order_along" sAlong f fd) (hm : mg "order_along" = some (.ref f)) (Bb : Bt mg) : DAlong P w K mg base f fd := by
  refine ⟨?_, hm, F.kp, F.binds fun _ _ _ _ _ _ us hl => match us, hl with | [_, _], _ => rfl⟩
  refine F.ok scAlong (fun vs H Q E h => ?_) (fun cdv A outer s H vs Q E hr h => ?_)
  · obtain ⟨n, lb, bv, B, rfl, _⟩ := h
    rfl
  · obtain ⟨n, lb, bv, B, rfl, sb, ba1, hBlt, hn, hwl, q⟩ := h
    have nd := scAlong.nd
    refine ⟨_, pss_cons (ps_set (i := 2) nd rfl (Or.inr rfl) (pe_op op_rep (pe_lst (pa_cons pe_int pa_nil)) (pv 0))) <|
      pss_cons (ps_for PassesOwn.never rfl (pi_list (pv 1)) (pg_tup rfl (pgs_cons (pg_name (i := 3) nd rfl (Or.inl rfl)) (pgs_cons (pg_name (i := 4) nd rfl (Or.inl rfl)) pgs_nil)))
        (pss_one (ps_augS (pv 2) (pv 4) get_list pe_int ip_add set_list))) <|
      pss_cons (ps_setLc (i := 5) (own := [("place", 7)]) (g := gName 7) (tt := tTest (tOp rEq (tOp (rIxL K) (tVar 2) (tVar 7)) (tC (.int 0)))) (te := tVar 7) rfl nd rfl rfl (sw_true rfl rfl rfl (by decide +kernel))
          (pi_range1 (by rfl) Bb.range (pa_cons (pv 0) pa_nil)) (blkOk_by (N := nAlong) (sc := defScope sAlong) (own := [("place", 7)]) (by decide +kernel)) (fun _ _ _ _ _ => pg_name (i := 7) nd rfl (Or.inl rfl))
          (fun _ _ _ _ _ => pts_one (pt_cmpR op_eq (pe_ix ix_list (pv 2) (pv 7) (fun _ _ => rfl)) pe_int (nomark _))) (fun _ _ _ _ _ => pv 7)) <|
      pss_cons (ps_set (i := 6) nd rfl (Or.inl rfl) pe_int) <|
      pss_cons (ps_while PassesOwn.never (pt_cmpR op_lt (pv 6) (pe_callB call_len_seq (by rfl) Bb.len PySem.boot_len (pa_cons (pv 5) pa_nil)) (nomark _)) <|
        pss_cons (ps_for PassesOwn.never rfl (pi_list (pv 1)) (pg_tup rfl (pgs_cons (pg_name (i := 3) nd rfl (Or.inl rfl)) (pgs_cons (pg_name (i := 4) nd rfl (Or.inl rfl)) pgs_nil))) <|
          pss_one <| ps_if (pt_cmpR op_eq (pv 3) (pe_ix ix_list (pv 5) (pv 6) (fun _ _ => rfl)) (nomark _))
            (pss_cons (ps_augS (pv 2) (pv 4) get_list pe_int ip_sub set_list) <| pss_one <| ps_if (pt_cmpR op_eq (pe_ix ix_list (pv 2) (pv 4) (fun _ _ => rfl)) pe_int (nomark _))
              (pss_one (ps_expr (pe_bm PySem.F.plainAttrs_list PySem.F.slot_list_append PySem.F.type_list_append mt_append (pv 5) (pa_cons (pv 4) pa_nil)))) pss_nil) pss_nil) <|
        pss_one <| ps_aug (i := 6) nd rfl (Or.inl rfl) pe_int ip_add) <|
      pss_one <| ps_ret (pv 5), ?_⟩
    have hbl : bv.length ≤ 1000 := by
      rw [ba1.1]
      omega
    -- missing = [0] * many_gates
    refine ⟨(by show 1 ≤ sizeLine; decide), fun l0 hl0 => ?_⟩
    have sm2 : Same H (upd H l0 (.lst [.int 0])) := same_new hl0
    refine ⟨_, rfl, l0, _, _, rfl, rfl, upd_same, by omega, by omega, ?_, fun lm hlm => ?_⟩
    · show 1 * _ ≤ sizeLine
      have : 1 * ((n : Int)).toNat ≤ 1000 := by omega
      exact Nat.le_of_lt (small1000 this)
    rw [Int.toNat_natCast, fnL_zero n (mis (B.take 0) []) (fun e => by simp [mis])]
    have sm3 : Same H (upd (upd H l0 (.lst [.int 0])) lm (.lst (fnL n (mis (B.take 0) [])))) := sm2.trans (same_new hlm)
    have hm1 : H lm = none := sm2.free hlm
    -- for start, end in bare: missing[end] += 1
    refine ⟨_, rfl, lb, rfl, ⟨_, sm3.seq sb⟩, for_list (K := K) (a := lb) (xs := bv) (fun i σ H4 => ∃ s4 s5 : Option V, σ = [some (.int (n : Nat)), some (.ref lb), some (.ref lm), s4, s5, none, none, none] ∧
        H4 lm = some (.lst (fnL n (mis (B.take i) []))) ∧ Same H H4) ⟨_, _, rfl, upd_same, sm3⟩ (fun i σ H4 _ ⟨_, _, _, _, sm⟩ => sm.seq sb) ?_ ?_⟩
    · rintro i x σ H4 hx ⟨s4, s5, rfl, hml, sm4⟩
      obtain ⟨b, hbb, a, rfl, sq⟩ := ba1.get hx
      have hlt := hBlt b (List.mem_of_getElem? hbb)
      refine ⟨a, _, rfl, (TK.same sm4).seq sq, rfl, _, _, rfl, _, _, rfl, rfl, ?_⟩
      refine ⟨_, rfl, _, rfl, lm, _, b.2, _, rfl, rfl, SqL.of hml, fnL_get hlt.2, _, _, rfl, rfl, lm, _, _, b.2, rfl, rfl, hml, Evl.ixN_nat (by rw [fnL_len]; exact hlt.2), ?_⟩
      refine ⟨_, _, rfl, ?_, same_mut sm4 hm1⟩
      rw [upd_same]
      refine congrArg (fun z => some (HO.lst z)) (fnL_set hlt.2 ?_ ?_)
      · rw [mis_take hbb, if_pos rfl]
        show ((mis (B.take i) [] b.2 + 1 : Nat) : Int) = ((mis (B.take i) [] b.2 : Nat) : Int) + 1
        omega
      · intro j hj
        rw [mis_take hbb, if_neg (fun z => hj z.symm)]
        rfl
    · rintro σ H4 ⟨s4, s5, rfl, hml, sm4⟩
      rw [ba1.1, List.take_length] at hml
      -- placed = [gate for gate in range(many_gates) if missing[gate] == 0]
      refine ⟨_, rfl, _, rfl, by omega, by omega, fun lp hlp => ?_⟩
      refine lc_range (lo := 0) (n := ((n : Int)).toNat) (fun i Hc => Hc lp = some (.lst (((List.range i).filter fun e => mis B [] e == 0).map fun i => V.int (i : Nat))) ∧ Same H4 Hc) ⟨upd_same, same_new hlp⟩ ?_ ?_
      · rintro i Hc hi ⟨hc, sm⟩
        have hi' : i < n := by omega
        have hlen : (((List.range i).filter fun e => mis B [] e == 0).map fun i => V.int (i : Nat)).length ≤ 1000 := by
          rw [List.length_map]
          have := List.length_filter_le (fun e => mis B [] e == 0) (List.range i)
          rw [List.length_range] at this
          omega
        have e0 : (0 : Int) + (i : Int) = (i : Int) := Int.zero_add _
        rw [e0]
        refine ⟨rfl, ?_⟩
        refine ⟨_, rfl, _, rfl, lm, _, _, _, rfl, rfl, SqL.of (sm _ _ hml), atI_nat (fnL_get hi'), rfl, _, rfl, ite2 (fun e => ?_) (fun e => ?_)⟩
        · have hz : mis B [] i = 0 := by
            have := V.int.inj (of_decide_eq_true e)
            omega
          refine ⟨_, rfl, _, hc, Nat.lt_of_le_of_lt hlen (small1000 (Nat.le_refl _)), ?_, same_mut sm hlp⟩
          rw [upd_same, List.range_succ, List.filter_append, List.map_append, List.filter_cons, if_pos (by rw [hz]; rfl)]
          rfl
        · have hz : ¬ (mis B [] i == 0) = true := fun z => by
            apply e
            rw [beq_iff_eq] at z
            rw [z]
            rfl
          refine ⟨?_, sm⟩
          rw [List.range_succ, List.filter_append, List.filter_cons, if_neg hz, List.filter_nil, List.append_nil]
          exact hc
      · rintro H5 ⟨hp5, sm5⟩
        rw [Int.toNat_natCast] at hp5
        have k0 : KI B n ((List.range n).filter fun e => mis B [] e == 0) 0 := by
          refine ⟨List.nodup_range.sublist List.filter_sublist, fun e he => List.mem_range.mp (List.mem_filter.mp he).1, Nat.zero_le _, fun e he => ?_, fun j e hj b hb hbe => ?_⟩
          · rw [List.mem_filter, List.take_zero]
            simp [he]
          · have hm0 := (List.mem_filter.mp (List.mem_of_getElem? hj)).2
            rw [beq_iff_eq] at hm0
            have := mis_zero hm0 hb hbe
            simp at this
        -- the while
        have hp0 : H lp = none := sm4.free hlp
        refine ⟨fun m σ H6 => ∃ (placed : List Nat) (d : Nat) (s4 s5 : Option V), σ = [some (.int (n : Nat)), some (.ref lb), some (.ref lm), s4, s5, some (.ref lp), some (.int (d : Nat)), none] ∧
          KI B n placed d ∧ H6 lp = some (.lst (placed.map fun i => V.int (i : Nat))) ∧ H6 lm = some (.lst (fnL n (mis B (placed.take d)))) ∧ Same H H6 ∧ m = n - d, ?_, ?_⟩
        · have h5m := sm5 _ _ hml
          have e0 : mis B [] = mis B (((List.range n).filter fun e => mis B [] e == 0).take 0) := by rw [List.take_zero]
          rw [e0] at h5m
          exact ⟨n, _, 0, _, _, rfl, k0, hp5, h5m, sm4.trans sm5, rfl⟩
        · rintro m σ H6 ⟨placed, d, s4, s5, rfl, ki, hp6, hm6, sm6, rfl⟩
          have hp1 : H lp = none := sm4.free hlp
          have npm : lp ≠ lm := fun z => by
            rw [z, hml] at hlp
            cases hlp
          refine ⟨_, rfl, _, rfl, lp, _, rfl, .inl (SqL.of hp6), _, _, rfl, rfl, _, rfl, ite2 (fun e => ?_) (fun e => ?_)⟩
          · have hd : d < placed.length := by
              have e' : (d : Int) < ((placed.map fun i => V.int (i : Nat)).length : Int) := of_decide_eq_true e
              rw [List.length_map] at e'
              omega
            have hpl : ∀ placed : List Nat, placed.Nodup → (∀ e ∈ placed, e < n) → placed.length ≤ n := fun l hnd hlt => by
              have h1 : l.length = (l.filter fun e => decide (e < n)).length := by
                rw [List.filter_eq_self.mpr]
                intro a ha
                exact decide_eq_true (hlt a ha)
              have h2 := List.Nodup.length_le_of_subset hnd (l₂ := List.range n) (fun a ha => List.mem_range.mpr (hlt a ha))
              rw [List.length_range] at h2
              exact h2
            have hdn := hpl placed ki.nd ki.lt
            have hg : placed[d]? = some placed[d] := List.getElem?_eq_getElem hd
            refine ⟨fun σ H7 => ∃ (placed : List Nat) (s4 s5 : Option V), σ = [some (.int (n : Nat)), some (.ref lb), some (.ref lm), s4, s5, some (.ref lp), some (.int ((d : Nat) + 1)), none] ∧
              KI B n placed (d + 1) ∧ H7 lp = some (.lst (placed.map fun i => V.int (i : Nat))) ∧ H7 lm = some (.lst (fnL n (mis B (placed.take (d + 1))))) ∧ Same H H7, ?_, ?_⟩
            · rintro σ' H' ⟨placed', t4, t5, rfl, ki', hp', hm', sm'⟩
              exact ⟨n - (d + 1), by omega, placed', d + 1, t4, t5, rfl, ki', hp', hm', sm', rfl⟩
            · have e1 : mis B (placed.take d) = fun e => mis B (placed.take (d + 1)) e + frm (B.drop 0) placed[d] e := funext fun e => by
                rw [take_add hg, List.drop_zero]
                exact mis_split (nodup_take ki.nd hg) e
              rw [e1] at hm6
              generalize placed[d] = g at hg hm6
              refine ⟨_, rfl, lb, rfl, ⟨_, sm6.seq sb⟩, for_list (K := K) (a := lb) (xs := bv) (fun j σ H7 => ∃ (placed : List Nat) (s4 s5 : Option V), σ = [some (.int (n : Nat)), some (.ref lb), some (.ref lm), s4, s5, some (.ref lp), some (.int (d : Nat)), none] ∧
                  KJ B n placed d g j ∧ H7 lp = some (.lst (placed.map fun i => V.int (i : Nat))) ∧ H7 lm = some (.lst (fnL n fun e => mis B (placed.take (d + 1)) e + frm (B.drop j) g e)) ∧ Same H H7)
                ⟨placed, _, _, rfl, ki.go hg, hp6, hm6, sm6⟩ (fun i σ H4 _ ⟨_, _, _, _, _, _, _, sm⟩ => sm.seq sb) ?_ ?_⟩
              · rintro j x σ H7 hx ⟨placed, s4, s5, rfl, kj, hp7, hm7, sm7⟩
                obtain ⟨b, hbb, a, rfl, sq⟩ := ba1.get hx
                have hlt := hBlt b (List.mem_of_getElem? hbb)
                refine ⟨a, _, rfl, (TK.same sm7).seq sq, rfl, _, _, rfl, _, _, rfl, rfl, ?_⟩
                refine ⟨_, rfl, _, rfl, _, rfl, lp, _, _, _, rfl, rfl, SqL.of hp7, atI_nat (j := d) (by rw [List.getElem?_map, kj.at_]; rfl), rfl, _, rfl, ite2 (fun e => ?_) (fun e => ?_)⟩
                · have hbg : b.1 = g := by
                    have := V.int.inj (of_decide_eq_true e)
                    omega
                  have hfd : ∀ e, frm (B.drop j) g e = frm (B.drop (j + 1)) g e + if b.1 = g ∧ b.2 = e then 1 else 0 := fun e => frm_drop hbb g e
                  refine ⟨_, rfl, _, rfl, lm, _, b.2, _, rfl, rfl, SqL.of hm7, fnL_get hlt.2, _, _, rfl, rfl, lm, _, _, b.2, rfl, rfl, hm7, Evl.ixN_nat (by rw [fnL_len]; exact hlt.2), ?_⟩
                  have e2 : (fnL n fun e => mis B (placed.take (d + 1)) e + frm (B.drop j) g e).set b.2 (V.int (((mis B (placed.take (d + 1)) b.2 + frm (B.drop j) g b.2 : Nat) : Int) - 1)) = fnL n fun e => mis B (placed.take (d + 1)) e + frm (B.drop (j + 1)) g e := by
                    refine fnL_set hlt.2 ?_ ?_
                    · rw [hfd, if_pos ⟨hbg, rfl⟩]
                      omega
                    · intro i hi
                      rw [hfd, if_neg (fun z => hi z.2.symm)]
                      rfl
                  have hm8 : (upd H7 lm (.lst (fnL n fun e => mis B (placed.take (d + 1)) e + frm (B.drop (j + 1)) g e))) lm = some (.lst (fnL n fun e => mis B (placed.take (d + 1)) e + frm (B.drop (j + 1)) g e)) := upd_same
                  rw [← e2] at hm8
                  have hp8 : (upd H7 lm (.lst ((fnL n fun e => mis B (placed.take (d + 1)) e + frm (B.drop j) g e).set b.2 (V.int (((mis B (placed.take (d + 1)) b.2 + frm (B.drop j) g b.2 : Nat) : Int) - 1))))) lp = some (.lst (placed.map fun i => V.int (i : Nat))) := by
                    rw [upd_ne npm]
                    exact hp7
                  have sm8 := same_mut (p := lm) (o := .lst ((fnL n fun e => mis B (placed.take (d + 1)) e + frm (B.drop j) g e).set b.2 (V.int (((mis B (placed.take (d + 1)) b.2 + frm (B.drop j) g b.2 : Nat) : Int) - 1)))) sm7 hm1
                  have hg8 : ((fnL n fun e => mis B (placed.take (d + 1)) e + frm (B.drop j) g e).set b.2 (V.int (((mis B (placed.take (d + 1)) b.2 + frm (B.drop j) g b.2 : Nat) : Int) - 1)))[b.2]? = some (V.int ((mis B (placed.take (d + 1)) b.2 + frm (B.drop (j + 1)) g b.2 : Nat) : Int)) := by
                    rw [e2]
                    exact fnL_get hlt.2
                  have hm9 := hm8
                  rw [e2] at hm9
                  refine ⟨_, rfl, _, rfl, lm, _, _, _, rfl, rfl, SqL.of upd_same, atI_nat hg8, rfl, _, rfl, ite2 (fun e3 => ?_) (fun e3 => ?_)⟩
                  · have hz : mis B (placed.take (d + 1)) b.2 + frm (B.drop (j + 1)) g b.2 = 0 := by
                      have := V.int.inj (of_decide_eq_true e3)
                      omega
                    have hlp1 := hpl placed kj.nd kj.lt
                    have hdl : d < placed.length := (List.getElem?_eq_some_iff.mp kj.at_).1
                    refine ⟨_, rfl, .inl ⟨rfl, _, SqL.of hp8⟩, _, rfl, lp, _, _, rfl, rfl, hp8, by rw [List.length_map]; exact small1000 (by omega), ?_⟩
                    refine ⟨placed ++ [b.2], _, _, rfl, kj.put hbb hbg hlt.2 hz, ?_, ?_, same_mut sm8 hp1⟩
                    · rw [upd_same, List.map_append]
                      rfl
                    · rw [upd_ne npm.symm, List.take_append_of_le_length (by omega), ← e2]
                      exact upd_same
                  · have hz : mis B (placed.take (d + 1)) b.2 + frm (B.drop (j + 1)) g b.2 ≠ 0 := fun z => by
                      apply e3
                      rw [z]
                      rfl
                    refine ⟨placed, _, _, rfl, kj.not hbb hbg hz, hp8, ?_, sm8⟩
                    rw [← e2]
                    exact upd_same
                · have hbg : b.1 ≠ g := fun z => by
                    apply e
                    rw [z]
                    exact decide_eq_true rfl
                  refine ⟨placed, _, _, rfl, kj.skip hbb hbg, hp7, ?_, sm7⟩
                  have : (fun e => mis B (placed.take (d + 1)) e + frm (B.drop (j + 1)) g e) = fun e => mis B (placed.take (d + 1)) e + frm (B.drop j) g e := funext fun e => by
                    rw [frm_drop hbb, if_neg (fun z => hbg z.1)]
                    rfl
                  rw [this]
                  exact hm7
              · rintro σ H7 ⟨placed, s4, s5, rfl, kj, hp7, hm7, sm7⟩
                rw [ba1.1] at kj hm7
                refine ⟨_, rfl, _, _, rfl, rfl, placed, _, _, rfl, kj.done, hp7, ?_, sm7⟩
                rw [List.drop_length] at hm7
                exact hm7
          · have hd : d = placed.length := by
              have e' : ¬ (d : Int) < ((placed.map fun i => V.int (i : Nat)).length : Int) := fun z => e (decide_eq_true z)
              rw [List.length_map] at e'
              have := ki.le
              omega
            subst hd
            exact ⟨_, rfl, q placed lp H6 ki sm6 hp0 hp6⟩
abbrev DOrder (P : Program) (w : World) (K : PySem.W.Frag) (mg : Str → Option Value) (base : Heap) := Df P w K mg base 2 "bare_order" ["many_gates", "wires"] (spOrder K)
theorem ok_order {f fA : Addr} {fd fdA : FuncData} (F : Fun K "bare_order" "bare_order" sOrder f fd) (hm : mg "bare_order" = some (.ref f)) (B : Bt mg) (DA : DAlong P w K mg base fA fdA) : DOrder P w K mg base f fd := by
  refine ⟨?_, hm, F.kp, F.binds fun _ _ _ _ _ _ us hl => match us, hl with | [_, _], _ => rfl⟩
  refine F.ok scOrder (fun vs H Q E h => ?_) (fun cdv A outer s H vs Q E hr h => ?_)
  · obtain ⟨n, lw, ws, rfl, _⟩ := h
    rfl
  · obtain ⟨n, lw, ws, rfl, ⟨wv, sw, wa⟩, hws, hn, hwl, q⟩ := h
    have nd := scOrder.nd
    refine ⟨_, pss_one <| ps_ret <| pe_call DA.ok hr (by rfl) DA.mg DA.kp DA.bd .nil pass0 <| pa_cons (pv 0) <| (pa_cons · pa_nil) <|
      pe_lc (own := [("start", 2), ("end", 3), ("held", 4)]) (g := gTup K 3 (gCons (gName 2) (gCons (gName 3) (gCons (gName 4) gNil)))) (tt := tTest (tOp rEq (tCB (Evl.rLenS K) (tCons (tVar 4) tNil)) (tC (.int 0)))) (te := tTup (tCons (tVar 2) (tCons (tVar 3) tNil))) rfl nd
        (pi_list (pv 1)) (blkOk_by (N := nOrder) (sc := defScope sOrder) (own := [("start", 2), ("end", 3), ("held", 4)]) (by decide +kernel))
        (fun _ _ _ _ _ => pg_tup rfl (pgs_cons (pg_name (i := 2) nd rfl (Or.inl rfl)) (pgs_cons (pg_name (i := 3) nd rfl (Or.inl rfl)) (pgs_cons (pg_name (i := 4) nd rfl (Or.inl rfl)) pgs_nil))))
        (fun _ _ _ _ _ => pts_one (pt_cmpR op_eq (pe_callB call_len_seq (by rfl) B.len PySem.boot_len (pa_cons (pv 4) pa_nil)) pe_int (nomark _)))
        (fun _ _ _ _ _ => pe_tup (pa_cons (pv 2) (pa_cons (pv 3) pa_nil))), ?_⟩
    have hlw : wv.length = ws.length := wa.1
    -- bare = [..]
    refine ⟨_, rfl, _, rfl, lw, rfl, ⟨_, sw⟩, fun lb hlb => ?_⟩
    refine lc_list (K := K) (a := lw) (xs := wv) (fun i Hc => ∃ bv, Hc lb = some (.lst bv) ∧ All2 (PairV K Hc) bv (bare (ws.take i)) ∧ Same H Hc) ⟨[], upd_same, by simpa [bare] using All2.nil, same_new hlb⟩ (fun i Hc _ ⟨_, _, _, sm⟩ => sm.seq sw) ?_ ?_
    · rintro i x Hc hx ⟨bv, hb, ba, sm⟩
      obtain ⟨y, hy, a, b, rfl, sq1, sq2⟩ := wa.get hx
      have hyi : i < ws.length := (List.getElem?_eq_some_iff.mp hy).1
      have t := TK.same sm
      have hbl : bv.length ≤ 1000 := by
        rw [ba.1]
        have := bare_len (ws.take i)
        rw [List.length_take] at this
        omega
      refine ⟨a, _, rfl, t.seq sq1, rfl, _, _, rfl, _, _, rfl, _, _, rfl, rfl, rfl, ?_⟩
      refine ⟨_, rfl, b, _, rfl, .inr (t.seq sq2), rfl, _, rfl, ite2 (fun e => ?_) (fun e => ?_)⟩
      · have he : y.2.2.isEmpty = true := by
          have e' : (((y.2.2.map V.int).length : Nat) : Int) = 0 := V.int.inj (of_decide_eq_true e)
          rw [List.length_map] at e'
          rw [List.isEmpty_iff, ← List.length_eq_zero_iff]
          omega
        refine ⟨_, rfl, _, rfl, (by show 2 ≤ sizeLine; decide), fun p hp => ?_⟩
        have smp : Same Hc (upd Hc p (.tup [.int (y.1 : Nat), .int (y.2.1 : Nat)])) := same_new hp
        have npb : p ≠ lb := fun z => by
          rw [z, hb] at hp
          cases hp
        have t2 : TK Hc (upd (upd Hc p (.tup [.int (y.1 : Nat), .int (y.2.1 : Nat)])) lb (.lst (bv ++ [.ref p]))) := (TK.new hp).trans (TK.lst (smp _ _ hb))
        refine ⟨bv, smp _ _ hb, Nat.lt_of_le_of_lt hbl (small1000 (Nat.le_refl _)), bv ++ [.ref p], upd_same, ?_, same_mut (sm.trans smp) hlb⟩
        rw [bare_take hy, if_pos he]
        exact (ba.imp fun _ _ r => r.tk t2).snoc ⟨p, rfl, .inl (.inl (by rw [upd_ne npb]; exact upd_same))⟩
      · have he : ¬ y.2.2.isEmpty = true := fun z => by
          apply e
          rw [List.isEmpty_iff] at z
          rw [z]
          rfl
        exact ⟨bv, hb, by rw [bare_take hy, if_neg he]; exact ba, sm⟩
    · rintro H1 ⟨bv, hb1, ba1, sm1⟩
      rw [hlw, List.take_length] at ba1
      have hbl : bv.length ≤ 1000 := by
        rw [ba1.1]
        have := bare_len ws
        omega
      have hBlt : ∀ b ∈ bare ws, b.1 < n ∧ b.2 < n := by
        intro b hb
        obtain ⟨x, hx, rfl⟩ := List.mem_map.mp hb
        rw [List.mem_filter] at hx
        exact hws x hx.1
      exact ⟨n, lb, bv, bare ws, rfl, SqL.of hb1, ba1, hBlt, hn, by have := bare_len ws; omega, fun ord p H2 ki s2 hp h2 => q ord p H2 ki (sm1.trans s2) (sm1.free hp) h2⟩
end
end Lag

set_option maxRecDepth 100000
set_option maxHeartbeats 4000000
namespace Lag
open PySem PySem.Spec PyProof.Rows L2
abbrev sChkRings : Stmt := topS 34
abbrev sInit : Stmt := inClass (topS 26) 0
abbrev sEq : Stmt := inClass (topS 26) 1
abbrev sIns : Stmt := inClass (topS 26) 2
abbrev sOuts : Stmt := inClass (topS 26) 3
def spChkRings (K : PySem.W.Frag) : Sp := fun vs H Q _ => ∃ (n : Nat) (lw : Addr) (ws : List Wr), vs = [.int (n : Nat), .ref lw] ∧ RW K H lw ws ∧ (∀ x ∈ ws, x.1 < n ∧ x.2.1 < n) ∧ n ≤ 1000 ∧ ws.length ≤ 1000 ∧
  (∃ ρ : Nat → Nat, ∀ x ∈ ws, x.2.2 = [] → ρ x.1 < ρ x.2.1) ∧ ∀ H', Same H H' → Q .non H'
/-! ### a net's object -/
def nf (lg lw : Addr) : List (Str × V) := putF "wires" (.ref lw) (putF "gates" (.ref lg) [])
theorem gw_ne : ¬ (("gates" : Str) = "wires") := by decide +kernel
theorem nf_eq (lg lw : Addr) : nf lg lw = ([("gates", V.ref lg), ("wires", V.ref lw)] : List (Str × V)) := by
  show (if ("gates" : Str) = "wires" then [(("gates" : Str), V.ref lw)] else (("gates" : Str), V.ref lg) :: putF "wires" (V.ref lw) []) = ([("gates", V.ref lg), ("wires", V.ref lw)] : List (Str × V))
  rw [if_neg gw_ne]
  all_goals rfl
theorem nf_gates (lg lw : Addr) : (nf lg lw).lookup ("gates" : Str) = some (.ref lg) := by
  unfold nf
  rw [lookup_putF, if_neg gw_ne, lookup_putF, if_pos rfl]
theorem nf_wires (lg lw : Addr) : (nf lg lw).lookup ("wires" : Str) = some (.ref lw) := by
  unfold nf
  rw [lookup_putF, if_pos rfl]
theorem nf_no (lg lw : Addr) {m : Str} (h1 : ¬ m = "wires") (h2 : ¬ m = "gates") : (nf lg lw).lookup m = none := by
  unfold nf
  rw [lookup_putF, if_neg h1, lookup_putF, if_neg h2]
  all_goals rfl
/-- the class as the top has made it -/
structure NT (K : PySem.W.Frag) (mg : Str → Option Value) (C : Addr) : Prop where
  cl : Cls K C
  nG : NoAttr K C "gates"
  nW : NoAttr K C "wires"
  mg : mg "Net" = some (.ref C)
/-- a net at p: its own lists at lg, lw -/
structure NetAt (K : PySem.W.Frag) (C : Addr) (H : Hp) (p lg lw : Addr) (gs : List Gt) (ws : List Wr) : Prop where
  ob : ∃ dx, H p = some (.ins C dx (nf lg lw))
  g : LG K H lg gs
  w : LW K H lw ws
  ne : lg ≠ lw
theorem LG.same {K : PySem.W.Frag} {H H' : Hp} {l : Addr} {gs : List Gt} (h : LG K H l gs) (s : Same H H') : LG K H' l gs := by
  obtain ⟨vs, q, a⟩ := h
  exact ⟨vs, s _ _ q, a.imp fun _ _ r => r.tk (TK.same s)⟩
theorem LW.same {K : PySem.W.Frag} {H H' : Hp} {l : Addr} {ws : List Wr} (h : LW K H l ws) (s : Same H H') : LW K H' l ws := by
  obtain ⟨vs, q, a⟩ := h
  exact ⟨vs, s _ _ q, a.imp fun _ _ r => r.tk (TK.same s)⟩
theorem LG.rg {K : PySem.W.Frag} {H : Hp} {l : Addr} {gs : List Gt} (h : LG K H l gs) : RG K H l gs := by
  obtain ⟨vs, q, a⟩ := h
  exact ⟨vs, SqL.of q, a⟩
theorem LW.rw {K : PySem.W.Frag} {H : Hp} {l : Addr} {ws : List Wr} (h : LW K H l ws) : RW K H l ws := by
  obtain ⟨vs, q, a⟩ := h
  exact ⟨vs, SqL.of q, a⟩
theorem NetAt.same {K : PySem.W.Frag} {C : Addr} {H H' : Hp} {p lg lw : Addr} {gs : List Gt} {ws : List Wr} (n : NetAt K C H p lg lw gs ws) (s : Same H H') : NetAt K C H' p lg lw gs ws := by
  obtain ⟨dx, h⟩ := n.ob
  exact ⟨⟨dx, s _ _ h⟩, n.g.same s, n.w.same s, n.ne⟩
def spInit (K : PySem.W.Frag) (C : Addr) : Sp := fun vs H Q _ => ∃ (p dx lg lw : Addr) (gs : List Gt) (ws : List Wr), vs = [.ref p, .ref lg, .ref lw] ∧ H p = some (.ins C dx []) ∧ RG K H lg gs ∧ RW K H lw ws ∧ NetOk gs ws ∧
  ∀ (H' : Hp) (lg' lw' : Addr), NetAt K C H' p lg' lw' gs ws → H lg' = none → H lw' = none → (∀ b o, H b = some o → b ≠ p → H' b = some o) → Q .non H'
/-- the places of a kind, rising -/
def plc (gs : List Gt) (k : Str) (n : Nat) : List Nat := (List.range n).filter fun i => decide (kindAt gs i = k)
def spPlaces (K : PySem.W.Frag) : Sp := fun vs H Q _ => ∃ (k : Str) (lg : Addr) (gs : List Gt), vs = [.str k, .ref lg] ∧ RG K H lg gs ∧ gs.length ≤ 1000 ∧
  ∀ p H', H p = none → Same H H' → H' p = some (.lst ((plc gs k gs.length).map fun i => V.int (i : Nat))) → Q (.ref p) H'
def spPorts (K : PySem.W.Frag) (C : Addr) (k : Str) : Sp := fun vs H Q _ => ∃ (p lg lw : Addr) (gs : List Gt) (ws : List Wr), vs = [.ref p] ∧ NetAt K C H p lg lw gs ws ∧ gs.length ≤ 1000 ∧
  ∀ l H', H l = none → Same H H' → H' l = some (.lst ((plc gs k gs.length).map fun i => V.int (i : Nat))) → Q (.ref l) H'
section
variable {P : Program} {w : World} {K : PySem.W.Frag} {mg : Str → Option Value} {base : Heap}
theorem scChkRings : FnScope ["many_gates", "wires", "placed"] ["many_gates", "wires"] (defScope sChkRings) := ⟨rfl, rfl, rfl, by decide +kernel, rfl, by decide +kernel, by decide +kernel⟩
abbrev DChkRings (P : Program) (w : World) (K : PySem.W.Frag) (mg : Str → Option Value) (base : Heap) := Df P w K mg base 3 "check_rings" ["many_gates", "wires"] (spChkRings K)
theorem ok_chkRings {f fO : Addr} {fd fdO : FuncData} (F : Fun K "check_rings" "check_rings" sChkRings f fd) (hm : mg "check_rings" = some (.ref f)) (B : Bt mg) (DO : DOrder P w K mg base fO fdO) : DChkRings P w K mg base f fd := by
  refine ⟨?_, hm, F.kp, F.binds fun _ _ _ _ _ _ us hl => match us, hl with | [_, _], _ => rfl⟩
  refine F.ok scChkRings (fun vs H Q E h => ?_) (fun cdv A outer s H vs Q E hr h => ?_)
  · obtain ⟨n, lw, ws, rfl, _⟩ := h
    rfl
  · obtain ⟨n, lw, ws, rfl, R, hws, hn, hwl, rk, q⟩ := h
    have nd := scChkRings.nd
    refine ⟨_, pss_cons (ps_set (i := 2) nd rfl (Or.inl rfl) (pe_call DO.ok hr (by rfl) DO.mg DO.kp DO.bd .nil pass0 (pa_cons (pv 0) (pa_cons (pv 1) pa_nil)))) <|
      pss_one <| ps_if (pt_cmpR op_lt (pe_callB call_len_seq (by rfl) B.len PySem.boot_len (pa_cons (pv 2) pa_nil)) (pv 0) (nomark _)) (pss_one ps_never) pss_nil, ?_⟩
    refine ⟨_, rfl, _, rfl, n, lw, ws, rfl, R, hws, hn, hwl, fun ord p H1 ho sm hp h1 => ?_⟩
    have hpl : ord.length = n := by rw [(ho.full hws rk).length_eq, List.length_range]
    refine ⟨_, rfl, p, _, rfl, .inl (SqL.of h1), _, rfl, _, _, rfl, rfl, false, ?_, iteF (q H1 sm)⟩
    show V.bl (decide (((ord.map fun i => V.int (i : Nat)).length : Int) < (n : Int))) = V.bl false
    rw [decide_eq_false]
    rw [List.length_map, hpl]
    omega
theorem scInit : FnScope ["self", "gates", "wires"] ["self", "gates", "wires"] (defScope sInit) := ⟨rfl, rfl, rfl, by decide +kernel, rfl, by decide +kernel, by decide +kernel⟩
theorem ok_init {f fG fW fR C : Addr} {fd fdG fdW fdR : FuncData} (F : Fun K "__init__" "Net.__init__" sInit f fd) (T : NT K mg C) (B : Bt mg) (DG : DChkGates P w K mg base fG fdG) (DW : DChkWires P w K mg base fW fdW) (DR : DChkRings P w K mg base fR fdR) :
    FnOk P w K mg base CX0 6 f fd ["self", "gates", "wires"] (spInit K C) := by
  refine F.ok scInit (fun vs H Q E h => ?_) (fun cdv A outer s H vs Q E hr h => ?_)
  · obtain ⟨p, dx, lg, lw, gs, ws, rfl, _⟩ := h
    rfl
  · obtain ⟨p, dx, lg, lw, gs, ws, rfl, hp, RGs, RWs, N, q⟩ := h
    have hr4 : Room 4 _ := hr.mono (by decide)
    have hr2 : Room 3 _ := hr.mono (by decide)
    refine ⟨_, pss_cons (ps_expr (pe_call DG.ok hr4 (by rfl) DG.mg DG.kp DG.bd .nil pass0 (pa_cons (pv 1) pa_nil))) <|
      pss_cons (ps_expr (pe_call DW.ok hr (by rfl) DW.mg DW.kp DW.bd .nil pass0 (pa_cons (pv 1) (pa_cons (pv 2) pa_nil)))) <|
      pss_cons (ps_expr (pe_call DR.ok hr2 (by rfl) DR.mg DR.kp DR.bd .nil pass0 (pa_cons (pe_callB call_len_seq (by rfl) B.len PySem.boot_len (pa_cons (pv 1) pa_nil)) (pa_cons (pv 2) pa_nil)))) <|
      pss_cons (ps_fld (pv 0) (pe_callTy call_list_of (by rfl) B.list (by decide +kernel) (pa_cons (pv 1) pa_nil)) rfl) <|
      pss_one (ps_fld (pv 0) (pe_callTy call_list_of (by rfl) B.list (by decide +kernel) (pa_cons (pv 2) pa_nil)) rfl), ?_⟩
    refine ⟨_, rfl, lg, gs, rfl, RGs, N.ne, N.gok, fun H1 sm1 => ?_⟩
    refine ⟨_, rfl, _, rfl, lg, lw, gs, ws, rfl, RGs.same sm1, RWs.same sm1, N, fun H2 sm2 => ?_⟩
    have s2 := sm1.trans sm2
    obtain ⟨gv, sg, ga⟩ := RGs.same s2
    have hlg : gv.length = gs.length := ga.1
    refine ⟨_, rfl, lg, gv, rfl, .inl sg, _, rfl, gv.length, lw, ws, rfl, RWs.same s2, fun x hx => ?_, by have := N.gl; omega, N.wl, N.rank, fun H3 sm3 => ?_⟩
    · rw [hlg]
      exact ⟨(N.wok x hx).s, (N.wok x hx).e⟩
    have s3 := s2.trans sm3
    obtain ⟨gv3, sg3, ga3⟩ := RGs.same s3
    obtain ⟨wv3, sw3, wa3⟩ := RWs.same s3
    have hp3 := s3 _ _ hp
    refine ⟨_, rfl, lg, gv3, rfl, .inl sg3, fun l1 hl1 => ?_⟩
    have np1 : p ≠ l1 := ne_of_none hp3 hl1
    have sm4 : Same H3 (upd H3 l1 (.lst gv3)) := same_new hl1
    refine ⟨_, rfl, p, C, dx, [], rfl, sm4 _ _ hp3, T.cl, T.nG, (by show 0 < 1000; decide), ?_⟩
    have hw4 : SqL K (upd (upd H3 l1 (.lst gv3)) p (.ins C dx (putF "gates" (.ref l1) []))) lw wv3 := by
      rcases sm4.seq sw3 with (h | ⟨o, h⟩) | h
      · have n : lw ≠ p := fun z => by
          rw [z, sm4 _ _ hp3] at h
          cases h
        exact .inl (.inl (by rw [upd_ne n]; exact h))
      · have n : lw ≠ p := fun z => by
          rw [z, sm4 _ _ hp3] at h
          cases h
        exact .inl (.inr ⟨o, by rw [upd_ne n]; exact h⟩)
      · exact .inr h
    refine ⟨_, rfl, lw, wv3, rfl, .inl hw4, fun l2 hl2 => ?_⟩
    have np2 : p ≠ l2 := fun z => by
      rw [← z, upd_same] at hl2
      cases hl2
    have h11 : (upd (upd H3 l1 (.lst gv3)) p (.ins C dx (putF "gates" (.ref l1) []))) l1 = some (.lst gv3) := by
      rw [upd_ne np1.symm]
      exact upd_same
    have n12 : l1 ≠ l2 := ne_of_none h11 hl2
    have hl2' : H3 l2 = none := by
      rw [upd_ne np2.symm, upd_ne n12.symm] at hl2
      exact hl2
    refine ⟨_, rfl, p, C, dx, _, rfl, (by rw [upd_ne np2]; exact upd_same), T.cl, T.nW, (by show 1 < 1000; decide), ?_⟩
    have keep : ∀ b o, b ≠ p → H3 b = some o → (upd (upd (upd (upd H3 l1 (.lst gv3)) p (.ins C dx (putF "gates" (.ref l1) []))) l2 (.lst wv3)) p (.ins C dx (putF "wires" (.ref l2) (putF "gates" (.ref l1) [])))) b = some o := fun b o nb e => by
      rw [upd_ne nb, upd_ne (ne_of_none e hl2'), upd_ne nb, upd_ne (ne_of_none e hl1)]
      exact e
    have tk : TK H3 (upd (upd (upd (upd H3 l1 (.lst gv3)) p (.ins C dx (putF "gates" (.ref l1) []))) l2 (.lst wv3)) p (.ins C dx (putF "wires" (.ref l2) (putF "gates" (.ref l1) [])))) := fun b o t e => keep b o (fun z => by
      rw [z, hp3] at e
      cases e
      exact t) e
    refine q _ l1 l2 ⟨⟨dx, upd_same⟩, ⟨gv3, ?_, ga3.imp fun _ _ r => r.tk tk⟩, ⟨wv3, ?_, wa3.imp fun _ _ r => r.tk tk⟩, n12⟩ (s3.free hl1) (s3.free hl2') fun b o e nb => keep b o nb (s3 _ _ e)
    · rw [upd_ne np1.symm, upd_ne n12, upd_ne np1.symm]
      exact upd_same
    · rw [upd_ne np2.symm]
      exact upd_same
/-! ### places_of, ins, outs -/
abbrev nPlaces : List Str := ["kind", "gates", "number", "gate"]
theorem plc_succ {gs : List Gt} {k : Str} {i : Nat} : plc gs k (i + 1) = if kindAt gs i = k then plc gs k i ++ [i] else plc gs k i := by
  unfold plc
  rw [List.range_succ, List.filter_append, List.filter_cons]
  by_cases h : kindAt gs i = k
  · rw [if_pos h, if_pos (decide_eq_true h)]
    rfl
  · rw [if_neg h, if_neg (by simp [h]), List.filter_nil, List.append_nil]
theorem plc_len (gs : List Gt) (k : Str) (n : Nat) : (plc gs k n).length ≤ n := by
  unfold plc
  have := List.length_filter_le (fun i => decide (kindAt gs i = k)) (List.range n)
  rw [List.length_range] at this
  exact this
end
end Lag

set_option maxRecDepth 100000
set_option maxHeartbeats 4000000
namespace Lag
open PySem PySem.Spec PyProof.Rows L2
/-! ### == and != by an own __eq__, whatever the other thing is -/
section
variable {X : Cx} {pins : List (Addr × Obj)} {σ : L2.St} {H : Hp} {s : Shared}
/-- what typeOf says -/
def TyL (X : Cx) (s : Shared) (v tb : Value) : Prop := PySem.W.Looks (model X.prog X.w) s.heap (typeOf v) tb
theorem ty_looks {y : V} {v tb : Value} (I : Inv X pins σ H s) (r : RelV y v) (t : TyOf X.K H y tb) : TyL X s v tb := by
  cases t with
  | non => cases r; exact .of_pure rfl
  | bl b => cases r; exact .of_pure rfl
  | int i => obtain ⟨t, rfl⟩ := r; exact .of_pure rfl
  | str x => obtain ⟨t, rfl⟩ := r; exact .of_pure rfl
  | flt x => obtain ⟨t, rfl⟩ := r; exact .of_pure rfl
  | @lst a xs ea =>
    cases r
    obtain ⟨_, _, n, _, h1⟩ := (show ObjOk X.prog X.w H s.heap a (.lst xs) from I.hok a _ ea)
    exact (PySem.W.Looks.ld h1).andThen .now
  | @frz a ob xs ea =>
    cases r
    obtain ⟨_, _, _, n, _, h1⟩ := (show ObjOk X.prog X.w H s.heap a (.frz ob (.lst xs)) from I.hok a _ ea)
    exact (PySem.W.Looks.ld h1).andThen .now
  | @tup a xs ea =>
    cases r
    obtain ⟨_, _, _, o, h1, h2, _⟩ := (show ObjOk X.prog X.w H s.heap a (.tup xs) from I.hok a _ ea)
    exact h2 ▸ (PySem.W.Looks.ld h1).andThen .now
  | @dK a kvs ea =>
    cases r
    obtain ⟨_, _, vs, _, o, es, ep, h1, h2, _⟩ := (show ObjOk X.prog X.w H s.heap a (.dK kvs) from I.hok a _ ea)
    exact h2.1 ▸ (PySem.W.Looks.ld h1).andThen .now
  | @dT a kvs ea =>
    cases r
    obtain ⟨_, _, xs, _, o, es, ep, h1, h2, _⟩ := (show ObjOk X.prog X.w H s.heap a (.dT kvs) from I.hok a _ ea)
    exact h2.1 ▸ (PySem.W.Looks.ld h1).andThen .now
  | @ins a C dx fs ea cl ha hn htk hm =>
    cases r
    obtain ⟨mA, O, _⟩ := ins_get I.hok ea
    obtain ⟨od, J, _⟩ := O.look
    exact J.type
/-- a call of a def from within -/
theorem call_own {n : Nat} {f : Addr} {fd : FuncData} {ps : List Str} {sp : Sp} {xs : List V} {us : List Value} {Q : VK} {A : Around} (F : FnOk X.prog X.w X.K X.mg X.base CX0 n f fd ps sp) (hb : Binds X.K fd ps []) (sb : Sub X n A) (I : Inv X pins σ H s) (rx : Vals xs us)
    (h : sp xs H Q E0) : wpAny (model X.prog X.w) A (call (.ref f) us) (EP X pins σ Q) X.xe s := by
  have e0 : Env0 X.prog X.w X.K X.mg X.base A X.stack s H := by
    have e := I.env0
    exact ⟨by rw [sb.fr]; exact e.frames, e.mod, e.bs, e.bsz, e.funs, e.frf, e.hok, e.bare⟩
  have hl := F.len _ _ _ _ h
  have hl' : us.length = ps.length := by rw [← rx.length, hl]
  refine wpAny_call (codeAny_mono (F.run A X.stack s H ⟨us, []⟩ us xs _ E0 sb.room e0 (by
    have := hb s us I.kIn (by simpa using hl')
    simpa using this) rx h) fun r s' hq => ?_)
  cases r with
  | error e => exact False.elim hq
  | ok fl =>
    cases fl with
    | ret w => exact I.after hq
    | next => exact False.elim hq
    | brk => exact False.elim hq
    | cont => exact False.elim hq
/-- a special method that is a built-in -/
theorem ifBound_B {M : Model} {K : PySem.W.Frag} {A : Around} {E : Value → Shared → Prop} {s : Shared} {x C : Addr} {ox : Obj} {od : Option Obj} {name : Str} {id : String} {args : List Value} {Q : Option Value → Shared → Prop} (X : K.In s.heap) (I : PySem.W.InstAt s.heap x ox C od)
    (hs : PySem.W.findIn K (.ref C) name = some (some (.builtin id))) (hb : ∀ self, bindSpecial (.builtin id) self = pure (.builtin id, [self]))
    (h : wpAny M A (call (.builtin id) (.ref x :: args)) (fun v => Q (some v)) E s) : wpAny M A (callSpecialIfBound? (.ref x) name args) Q E s := by
  simp only [callSpecialIfBound?, bindSpecialIfBound?]
  refine wpAny_holding (wpAny_bind (wpAny_bind (wpAny_bind (I.type.here ((PySem.W.looks_findIn X hs).here ?_)))))
  refine wpAny_bind (wpAny_askSetting (wpAny_ite ?_))
  have fin : wpAny M A (call (.builtin id) ([.ref x] ++ args) >>= fun v => pure (some v)) Q E s := wpAny_bind (wpAny_mono h (fun v s' h' => wpAny_pure h') fun _ _ h' => h')
  split
  · exact wpAny_bind (wpAny_of_eq (hb _) (wpAny_pure (by exact fin)))
  · exact wpAny_tryCatch (wpAny_bind (wpAny_of_eq (hb _) (wpAny_pure (by exact fin))))
theorem bind_ne (self : Value) : bindSpecial (.builtin "object.__ne__") self = pure (.builtin "object.__ne__", [self]) := PySem.F.slot_tuple_iterator_ne.bind self
theorem ne_body {K : PySem.W.Frag} {prog : Program} {w : World} {A : Around} {E : Value → Shared → Prop} {s : Shared} {x C f : Addr} {ox : Obj} {od : Option Obj} {b : Value} {Q : Fin → Shared → Prop} (X : K.In s.heap) (I : PySem.W.InstAt s.heap x ox C od)
    (hs : PySem.W.findIn K (.ref C) "__eq__" = some (some (.ref f))) (hf : PySem.W.isFn K (.ref f) = true) (hu : A.units < cLine)
    (hcall : wpAny (model prog w) A (call (.ref f) [.ref x, b]) (fun v s' => ∃ c, v = .bool c ∧ Q (.done (.ret (.bool (!c)))) s') E s) :
    wpAny (model prog w) A (Builtin.«object.__ne__» ⟨[.ref x, b], []⟩) Q E s := by
  obtain ⟨h, g, d, t, os⟩ := s
  unfold Builtin.«object.__ne__»
  repeat (first
    | with_reducible refine wpAny_cRoomFor hu ?_
    | (refine wpAny_bind (m := callSpecialIfBound? (.ref x) (Str.ofString "__eq__") [b])
        (PySem.W.ifBound_K X I hs hf (wpAny_mono hcall (fun r s' hr => by
          obtain ⟨c, rfl, hq⟩ := hr
          repeat (first | exact hq | exact wpAny_pure hq | exact wpAny_truthy_bool hq | (refine wpAny_bind (m := truthy (.bool _)) (wpAny_truthy_bool ?_)) | wp_step)) fun _ _ e => e)))
    | wp_step)
theorem op_eqO {n : Nat} {C f : Addr} {fd : FuncData} {ps : List Str} {sp : Sp} (F : FnOk X.prog X.w X.K X.mg X.base CX0 n f fd ps sp) (hs : PySem.W.findIn X.K (.ref C) "__eq__" = some (some (.ref f))) (hf : PySem.W.isFn X.K (.ref f) = true) (hb : Binds X.K fd ps []) (hr : Room n X.A) :
    OpR X (compareOp .Eq) (fun x y H Q => ∃ a dx fs tb, x = .ref a ∧ H a = some (.ins C dx fs) ∧ TyOf X.K H y tb ∧ PySem.W.notFirst X.K C tb = true ∧ sp [x, y] H (fun v H' => ∃ c, v = .bl c ∧ Q v H') E0) := by
  intro pins s σ H x y u v Q I rx ry h
  obtain ⟨a, dx, fs, tb, rfl, ha, ty, nf, q⟩ := h
  cases rx
  obtain ⟨mA, J, _⟩ := ins_get I.hok ha
  obtain ⟨od, J, _⟩ := J.look
  obtain ⟨m, hF⟩ := I.fr
  show wpAny (model X.prog X.w) X.A (richCompare .Eq (.ref a) v) (EP X pins σ Q) X.xe s
  refine PySem.W.cmp_K (op := .Eq) (tb := tb) hr.units0 hF I.ok.mod.kin J (ty_looks I ry ty) nf hs hf ?_
  refine wpAny_mono (call_own F hb ⟨hr, rfl⟩ I (.cons (show RelV (V.ref a) (Value.ref a) from rfl) (.cons ry .nil)) q) (fun r s' z => ?_) fun _ _ x => x
  obtain ⟨z, H', I', rz, c, ez, q'⟩ := z
  subst ez
  cases rz
  exact ⟨.bl c, H', I', rfl, q'⟩
theorem op_neO {n : Nat} {C f : Addr} {fd : FuncData} {ps : List Str} {sp : Sp} (F : FnOk X.prog X.w X.K X.mg X.base CX0 n f fd ps sp) (hs : PySem.W.findIn X.K (.ref C) "__eq__" = some (some (.ref f))) (hn : PySem.W.findIn X.K (.ref C) "__ne__" = some (some (.builtin "object.__ne__")))
    (ho : PySem.W.mroIn X.K C (.type "object") = some true) (hf : PySem.W.isFn X.K (.ref f) = true) (hb : Binds X.K fd ps []) (hr : Room (n + 1) X.A) :
    OpR X (compareOp .NotEq) (fun x y H Q => ∃ a dx fs tb, x = .ref a ∧ H a = some (.ins C dx fs) ∧ TyOf X.K H y tb ∧ PySem.W.notFirst X.K C tb = true ∧ sp [x, y] H (fun v H' => ∃ c, v = .bl c ∧ Q (.bl (!c)) H') E0) := by
  intro pins s σ H x y u v Q I rx ry h
  obtain ⟨a, dx, fs, tb, rfl, ha, ty, nf, q⟩ := h
  cases rx
  obtain ⟨mA, J, _⟩ := ins_get I.hok ha
  obtain ⟨od, J, _⟩ := J.look
  have hb' := ty_looks I ry ty
  have sb : Sub X (n + 1) X.A := ⟨hr, rfl⟩
  show wpAny (model X.prog X.w) X.A (richCompare .NotEq (.ref a) v) (EP X pins σ Q) X.xe s
  have one : wpAny (model X.prog X.w) X.A (tryCompare (.ref a) "__ne__" v) (fun r s' => ∃ w, r = some w ∧ EP X pins σ Q w s') X.xe s := by
    unfold tryCompare
    refine wpAny_bind (ifBound_B I.kIn J hn bind_ne (wpAny_call (codeAny_call_builtin PySem.F.slot_tuple_iterator_ne.plain PySem.F.cmpEntry_ne
      (PySem.W.check_slot PySem.F.cmpKind_ne PySem.F.cmpSplit_ne (J.type.andThen (PySem.W.looks_mroIn I.kIn ho)) (PySem.F.cmpArgs_ne _ _)
        (ne_body I.kIn J hs hf sb.in1.room.units0 (wpAny_mono (call_own F hb sb.in1 I (.cons (show RelV (V.ref a) (Value.ref a) from rfl) (.cons ry .nil)) q) (fun r s' z => ?_) fun _ _ x => x))))))
    obtain ⟨z, H', I', rz, c, ez, q'⟩ := z
    subst ez
    cases rz
    have fin : EP X pins σ Q (.bool (!c)) s' := ⟨.bl (!c), H', I', rfl, q'⟩
    first | exact ⟨c, rfl, wpAny_pure ⟨_, rfl, fin⟩⟩ | exact ⟨c, rfl, wpAny_pure (wpAny_pure ⟨_, rfl, fin⟩)⟩ | exact ⟨c, rfl, ⟨_, rfl, fin⟩⟩
  unfold richCompare
  simp only [oneThing_ref]
  refine wpAny_holding (wpAny_bind (wpAny_cRoomFor hr.units0 ?_))
  refine wpAny_bind (J.type.here (wpAny_bind (hb'.here ?_)))
  split
  · rename_i q'
    have e : PySem.W.subIn X.K tb (.ref C) = some false := by
      rcases Bool.or_eq_true_iff.mp nf with e | e
      · rw [beq_iff_eq.mp e] at q'; simp at q'
      · exact beq_iff_eq.mp e
    refine wpAny_bind ((PySem.W.looks_subIn I.kIn e).here ?_)
    simp only [Bool.false_eq_true, if_false]
    refine wpAny_bind (wpAny_mono one (fun r s' z => ?_) fun _ _ e => e)
    obtain ⟨v, rfl, hq⟩ := z
    exact wpAny_pure hq
  · refine wpAny_bind (wpAny_pure ?_)
    simp only [Bool.false_eq_true, if_false]
    refine wpAny_bind (wpAny_mono one (fun r s' z => ?_) fun _ _ e => e)
    obtain ⟨v, rfl, hq⟩ := z
    exact wpAny_pure hq
end
end Lag

set_option maxRecDepth 100000
set_option maxHeartbeats 4000000
namespace Lag
open PySem PySem.Spec PyProof.Rows L2
/-! ### nets as data that is compared -/
def gateD (g : Gt) : PyData := .tuple [.str g.1, .int g.2]
def gatesD (gs : List Gt) : PyData := .list (gs.map gateD)
def wireD (x : Wr) : PyData := .tuple [.int (x.1 : Nat), .int (x.2.1 : Nat), .tuple (x.2.2.map PyData.int)]
def wiresD (ws : List Wr) : PyData := .list (ws.map wireD)
def intsD (l : List Nat) : PyData := .list (l.map fun i => .int (i : Nat))
theorem eqvAll_map {α : Type} [DecidableEq α] {f : α → PyData} (h : ∀ x y, PyData.eqv (f x) (f y) = decide (x = y)) : ∀ xs ys : List α, PyData.eqvAll (xs.map f) (ys.map f) = decide (xs = ys)
  | [], [] => rfl
  | [], _ :: _ => rfl
  | _ :: _, [] => rfl
  | x :: xs, y :: ys => by
    show (PyData.eqv (f x) (f y) && PyData.eqvAll (xs.map f) (ys.map f)) = _
    rw [h, eqvAll_map h xs ys, Bool.eq_iff_iff]
    simp
theorem gateD_eq (a b : Gt) : PyData.eqv (gateD a) (gateD b) = decide (a = b) := by
  show ((a.1 == b.1) && ((a.2 == b.2) && true)) = _
  rw [Bool.eq_iff_iff]
  simp [Prod.ext_iff]
theorem gatesD_eq (a b : List Gt) : PyData.eqv (gatesD a) (gatesD b) = decide (a = b) := eqvAll_map gateD_eq a b
theorem intD_eq (a b : Int) : PyData.eqv (.int a) (.int b) = decide (a = b) := rfl
theorem wireD_eq (a b : Wr) : PyData.eqv (wireD a) (wireD b) = decide (a = b) := by
  show ((((a.1 : Nat) : Int) == ((b.1 : Nat) : Int)) && ((((a.2.1 : Nat) : Int) == ((b.2.1 : Nat) : Int)) && (PyData.eqvAll (a.2.2.map PyData.int) (b.2.2.map PyData.int) && true))) = _
  rw [eqvAll_map intD_eq, Bool.eq_iff_iff]
  simp only [Bool.and_eq_true, beq_iff_eq, decide_eq_true_eq, and_true]
  constructor
  · rintro ⟨h1, h2, h3⟩
    exact Prod.ext (by omega) (Prod.ext (by show a.2.1 = b.2.1; omega) h3)
  · rintro rfl
    exact ⟨rfl, rfl, rfl⟩
theorem wiresD_eq (a b : List Wr) : PyData.eqv (wiresD a) (wiresD b) = decide (a = b) := eqvAll_map wireD_eq a b
theorem natD_eq (a b : Nat) : PyData.eqv (.int (a : Nat)) (.int (b : Nat)) = decide (a = b) := by
  show (((a : Nat) : Int) == ((b : Nat) : Int)) = _
  rw [Bool.eq_iff_iff]
  simp
  omega
theorem intsD_eq (a b : List Nat) : PyData.eqv (intsD a) (intsD b) = decide (a = b) := eqvAll_map natD_eq a b
theorem lay_all {ds : List PyData} : (∀ d ∈ ds, PyData.canLay0 d = true) → PyData.canLayAll0 ds = true := by
  induction ds with
  | nil => intro _; rfl
  | cons d ds ih =>
    intro h
    show (PyData.canLay0 d && PyData.canLayAll0 ds) = true
    rw [h d (List.mem_cons_self ..), ih fun x hx => h x (List.mem_cons_of_mem _ hx)]
    rfl
theorem depth_all {ds : List PyData} {k : Nat} : (∀ d ∈ ds, PyData.depth d ≤ k) → PyData.depthAll ds ≤ k := by
  induction ds with
  | nil => intro _; exact Nat.zero_le _
  | cons d ds ih =>
    intro h
    show max (PyData.depth d) (PyData.depthAll ds) ≤ k
    have h1 := h d (List.mem_cons_self ..)
    have h2 := ih fun x hx => h x (List.mem_cons_of_mem _ hx)
    omega
/-- such data may be compared, to the depth k -/
def Sh (k : Nat) (d : PyData) : Prop := PyData.canLay0 d = true ∧ PyData.depth d ≤ k
theorem Sh.ok {k : Nat} {d : PyData} (h : Sh k d) (hk : k ≤ 64) : SeqAt.shaped d = true := by
  show (PyData.canLay0 d && decide (PyData.depth d ≤ 64)) = true
  rw [h.1, decide_eq_true (Nat.le_trans h.2 hk)]
  rfl
theorem sh_list {k : Nat} {ds : List PyData} (h : ∀ d ∈ ds, Sh k d) : Sh (k + 1) (.list ds) := ⟨lay_all fun d hd => (h d hd).1, Nat.succ_le_succ (depth_all fun d hd => (h d hd).2)⟩
theorem sh_tuple {k : Nat} {ds : List PyData} (h : ∀ d ∈ ds, Sh k d) : Sh (k + 1) (.tuple ds) := ⟨lay_all fun d hd => (h d hd).1, Nat.succ_le_succ (depth_all fun d hd => (h d hd).2)⟩
theorem sh_int {k : Nat} (i : Int) : Sh k (.int i) := ⟨rfl, Nat.zero_le _⟩
theorem kinds_str : ∀ k ∈ kinds, PyData.canLay0 (.str k) = true := by decide +kernel
theorem sh_kind {k : Nat} {z : Str} (h : z ∈ kinds) : Sh k (.str z) := ⟨kinds_str z h, Nat.zero_le _⟩
theorem sh_gates {gs : List Gt} (h : ∀ g ∈ gs, GOk g) : Sh 2 (gatesD gs) := by
  refine sh_list fun d hd => ?_
  obtain ⟨g, hg, rfl⟩ := List.mem_map.mp hd
  refine sh_tuple fun d hd => ?_
  simp only [List.mem_cons, List.not_mem_nil, or_false] at hd
  rcases hd with rfl | rfl
  · exact sh_kind (h g hg).1
  · exact sh_int _
theorem sh_wires (ws : List Wr) : Sh 3 (wiresD ws) := by
  refine sh_list fun d hd => ?_
  obtain ⟨g, hg, rfl⟩ := List.mem_map.mp hd
  refine sh_tuple fun d hd => ?_
  simp only [List.mem_cons, List.not_mem_nil, or_false] at hd
  rcases hd with rfl | rfl | rfl
  · exact sh_int _
  · exact sh_int _
  · refine sh_tuple fun d hd => ?_
    obtain ⟨i, _, rfl⟩ := List.mem_map.mp hd
    exact sh_int _
theorem sh_ints (l : List Nat) : Sh 1 (intsD l) := by
  refine sh_list fun d hd => ?_
  obtain ⟨i, _, rfl⟩ := List.mem_map.mp hd
  exact sh_int _
section
variable {K : PySem.W.Frag} {H : Hp}
theorem dp_all {α : Type} {R : V → α → Prop} {f : α → PyData} (h : ∀ v x, R v x → Dp K H v (f x)) : ∀ {vs : List V} {xs : List α}, All2 R vs xs → DpAll K H vs (xs.map f)
  | [], [], _ => .nil
  | [], _ :: _, a => by have := a.1; simp at this
  | _ :: _, [], a => by have := a.1; simp at this
  | _ :: _, _ :: _, a => .cons (h _ _ a.head) (dp_all h a.tail)
theorem GateV.dp {v : V} {g : Gt} (h : GateV K H v g) : Dp K H v (gateD g) := by
  obtain ⟨a, rfl, s⟩ := h
  exact .tup s (.cons (.str _) (.cons (.int _) .nil))
theorem ints_dp : ∀ l : List Int, DpAll K H (l.map V.int) (l.map PyData.int)
  | [] => .nil
  | i :: l => .cons (.int i) (ints_dp l)
theorem nats_dp : ∀ l : List Nat, DpAll K H (l.map fun i => V.int (i : Nat)) (l.map fun i => PyData.int (i : Nat))
  | [] => .nil
  | i :: l => .cons (.int _) (nats_dp l)
theorem WireV.dp {v : V} {x : Wr} (h : WireV K H v x) : Dp K H v (wireD x) := by
  obtain ⟨a, b, rfl, s1, s2⟩ := h
  exact .tup s1 (.cons (.int _) (.cons (.int _) (.cons (.tup s2 (ints_dp _)) .nil)))
theorem RG.dp {l : Addr} {gs : List Gt} (h : RG K H l gs) : Dp K H (.ref l) (gatesD gs) := by
  obtain ⟨vs, s, a⟩ := h
  exact .lst s (dp_all (fun _ _ r => GateV.dp r) a)
theorem RW.dp {l : Addr} {ws : List Wr} (h : RW K H l ws) : Dp K H (.ref l) (wiresD ws) := by
  obtain ⟨vs, s, a⟩ := h
  exact .lst s (dp_all (fun _ _ r => WireV.dp r) a)
theorem dp_ints {l : Addr} {xs : List Nat} (h : SqL K H l (xs.map fun i => V.int (i : Nat))) : Dp K H (.ref l) (intsD xs) := .lst h (nats_dp xs)
end
/-! ### Net.__eq__ -/
structure NTy (K : PySem.W.Frag) (C : Addr) : Prop where
  ha : PySem.W.findIn K (.ref C) "__class__" = some (some (.builtin "object.__class__"))
  hn : PySem.W.specialIn K (.builtin "object.__class__") "__get__" = some (some (.builtin "getset_descriptor.__get__"))
  htk : PySem.W.takesIn K (.builtin "object.__class__") = some true
  hm : PySem.W.mroIn K C (.type "object") = some true
theorem ty_net {K : PySem.W.Frag} {mg : Str → Option Value} {C : Addr} {H : Hp} {p dx : Addr} {fs : List (Str × V)} (T : NT K mg C) (Y : NTy K C) (h : H p = some (.ins C dx fs)) : TyOf K H (.ref p) (.ref C) := .ins h T.cl Y.ha Y.hn Y.htk Y.hm
def spEqN (K : PySem.W.Frag) (C : Addr) : Sp := fun vs H Q _ => ∃ (p lg lw : Addr) (gs : List Gt) (ws : List Wr) (y : V), vs = [.ref p, y] ∧ NetAt K C H p lg lw gs ws ∧
  ((∃ (q lg' lw' : Addr) (gs' : List Gt) (ws' : List Wr), y = .ref q ∧ NetAt K C H q lg' lw' gs' ws' ∧ (∀ g ∈ gs, GOk g) ∧ (∀ g ∈ gs', GOk g) ∧ Q (.bl (decide (gs = gs') && decide (ws = ws'))) H) ∨
    (∃ t, TyX K H y t ∧ PySem.W.kitOne K t (.ref C) = some false ∧ Q (.bl false) H))
section
variable {P : Program} {w : World} {K : PySem.W.Frag} {mg : Str → Option Value} {base : Heap}
theorem scEq : FnScope ["self", "other"] ["self", "other"] (defScope sEq) := ⟨rfl, rfl, rfl, by decide +kernel, rfl, by decide +kernel, by decide +kernel⟩
theorem kit_self {K : PySem.W.Frag} (C : Addr) : PySem.W.kitOne K (.ref C) (.ref C) = some true := by
  unfold PySem.W.kitOne
  rw [if_pos (beq_self_eq_true _)]
theorem ok_eqN {f C : Addr} {fd : FuncData} (F : Fun K "__eq__" "Net.__eq__" sEq f fd) (T : NT K mg C) (Y : NTy K C) (B : Bt mg) : FnOk P w K mg base CX0 1 f fd ["self", "other"] (spEqN K C) := by
  refine F.ok scEq (fun vs H Q E h => ?_) (fun cdv A outer s H vs Q E hr h => ?_)
  · obtain ⟨p, lg, lw, gs, ws, y, rfl, _⟩ := h
    rfl
  · obtain ⟨p, lg, lw, gs, ws, y, rfl, N, h⟩ := h
    refine ⟨_, pss_one <| ps_ret <| pe_and (pe_callB call_isi (by rfl) B.isi (by decide +kernel) (pa_cons (pv 1) (pa_cons (pe_glob (v := .ref C) (by rfl) T.mg rfl) pa_nil))) <|
      pe_and (pe_cmpR (op_eqD hr.units) (pe_fld (pv 0) rfl) (pe_fld (pv 1) rfl) (nomark _)) <| pe_one <| pe_cmpR (op_eqD hr.units) (pe_fld (pv 0) rfl) (pe_fld (pv 1) rfl) (nomark _), ?_⟩
    obtain ⟨dx, hp⟩ := N.ob
    rcases h with ⟨q, lg', lw', gs', ws', rfl, N', gok, gok', k⟩ | ⟨t, ty, kt, k⟩
    · obtain ⟨dx', hq⟩ := N'.ob
      refine ⟨_, rfl, _, _, _, _, true, rfl, .own C, .base (ty_net T Y hq), kit_self C, true, rfl, iteT ?_⟩
      refine ⟨_, rfl, p, C, dx, _, _, rfl, hp, T.cl, T.nG, nf_gates _ _, _, rfl, q, C, dx', _, _, rfl, hq, T.cl, T.nG, nf_gates _ _, _, _, N.g.rg.dp, N'.g.rg.dp, (sh_gates gok).ok (by decide), (sh_gates gok').ok (by decide), _, rfl, ?_⟩
      rw [gatesD_eq]
      cases e : decide (gs = gs') with
      | false =>
        rw [e] at k
        exact iteF k
      | true =>
        rw [e] at k
        refine iteT ⟨_, rfl, p, C, dx, _, _, rfl, hp, T.cl, T.nW, nf_wires _ _, _, rfl, q, C, dx', _, _, rfl, hq, T.cl, T.nW, nf_wires _ _, _, _, N.w.rw.dp, N'.w.rw.dp, (sh_wires _).ok (by decide), (sh_wires _).ok (by decide), ?_⟩
        rw [wiresD_eq]
        exact k
    · exact ⟨_, rfl, _, _, _, _, false, rfl, .own C, ty, kt, false, rfl, iteF k⟩
end
end Lag

set_option maxRecDepth 100000
set_option maxHeartbeats 4000000
namespace Lag
open PySem PySem.Spec PyProof.Rows L2
/-! ### what keeps a net a net -/
theorem kindAt_set {gs : List Gt} {i j : Nat} {g : Gt} (h : i < gs.length) : kindAt (gs.set i g) j = if j = i then g.1 else kindAt gs j := by
  unfold kindAt
  rw [List.getD_eq_getElem?_getD, List.getD_eq_getElem?_getD, List.getElem?_set]
  by_cases e : i = j
  · subst e
    rw [if_pos rfl, if_pos h, if_pos rfl]
    rfl
  · rw [if_neg e, if_neg (fun z => e z.symm)]
/-- another gate at a place whose gate is no port: no port, and no first where it was none -/
theorem NetOk.setG {gs : List Gt} {ws : List Wr} (N : NetOk gs ws) {i : Nat} {g : Gt} (hi : i < gs.length) (hg : GOk g) (h1 : g.1 ≠ "out") (h2 : g.1 ≠ "in") (h3 : g.1 = "first" → kindAt gs i = "first") : NetOk (gs.set i g) ws := by
  have kk := @kindAt_set gs i
  refine ⟨?_, by rw [List.length_set]; exact N.gl, N.wl, ?_, fun x hx => ?_, fun e he hk => ?_, fun e he hk => ?_, N.rank⟩
  · intro z
    have := congrArg List.length z
    rw [List.length_set] at this
    exact N.ne (List.length_eq_zero_iff.mp this)
  · intro y hy
    rcases List.mem_or_eq_of_mem_set hy with hy | hy
    · exact N.gok y hy
    · rw [hy]
      exact hg
  · have W := N.wok x hx
    refine ⟨by rw [List.length_set]; exact W.s, by rw [List.length_set]; exact W.e, ?_, ?_, W.r, W.rl⟩
    · rw [kk hi]
      split
      · exact h1
      · exact W.ks
    · rw [kk hi]
      split
      · exact h2
      · exact W.ke
  · rw [List.length_set] at he
    rw [kk hi] at hk
    split at hk
    · exact absurd hk h1
    · exact N.one e he hk
  · rw [List.length_set] at he
    rw [kk hi] at hk
    split at hk
    · rename_i hei
      subst hei
      exact N.some _ he (h3 hk)
    · exact N.some e he hk
theorem kindAt_app {gs : List Gt} {g : Gt} {j : Nat} (h : j < gs.length) : kindAt (gs ++ [g]) j = kindAt gs j := by
  unfold kindAt
  rw [List.getD_eq_getElem?_getD, List.getD_eq_getElem?_getD, List.getElem?_append_left h]
theorem NetOk.addIn {gs : List Gt} {ws : List Wr} (N : NetOk gs ws) (hl : gs.length < 100) : NetOk (gs ++ [(("in" : Str), (0 : Int))]) ws := by
  have kl : kindAt (gs ++ [(("in" : Str), (0 : Int))]) gs.length = "in" := by
    unfold kindAt
    rw [List.getD_eq_getElem?_getD, List.getElem?_append_right (Nat.le_refl _), Nat.sub_self]
    rfl
  refine ⟨by simp, by simp; omega, N.wl, ?_, fun x hx => ?_, fun e he hk => ?_, fun e he hk => ?_, N.rank⟩
  · intro y hy
    rcases List.mem_append.mp hy with hy | hy
    · exact N.gok y hy
    · simp at hy
      subst hy
      exact ⟨by show ("in" : Str) ∈ kinds; decide +kernel, Int.le_refl 0, (by show (0 : Int) ≤ 100; decide), fun _ => rfl⟩
  · have W := N.wok x hx
    exact ⟨by have := W.s; simp; omega, by have := W.e; simp; omega, by rw [kindAt_app W.s]; exact W.ks, by rw [kindAt_app W.e]; exact W.ke, W.r, W.rl⟩
  · by_cases h : e < gs.length
    · rw [kindAt_app h] at hk
      exact N.one e h hk
    · have : e = gs.length := by simp at he; omega
      subst this
      rw [kl] at hk
      exact absurd hk (by decide +kernel)
  · by_cases h : e < gs.length
    · rw [kindAt_app h] at hk
      exact N.some e h hk
    · have : e = gs.length := by simp at he; omega
      subst this
      rw [kl] at hk
      exact absurd hk (by decide +kernel)
theorem cnt_set {ws : List Wr} {i : Nat} {x y : Wr} (h : ws[i]? = some x) (he : y.2.1 = x.2.1) (e : Nat) : cnt (ws.set i y) e = cnt ws e := by
  obtain ⟨hi, rfl⟩ := List.getElem?_eq_some_iff.mp h
  have h1 : ws.set i y = ws.take i ++ y :: ws.drop (i + 1) := List.set_eq_take_append_cons_drop .. |>.trans (by rw [if_pos hi])
  have h2 : ws = ws.take i ++ ws[i] :: ws.drop (i + 1) := by rw [List.getElem_cons_drop, List.take_append_drop]
  unfold cnt
  conv => rhs; rw [h2]
  rw [h1, List.countP_append, List.countP_append, List.countP_cons, List.countP_cons, he]
/-- a wire with other registers, one at least -/
theorem NetOk.setW {gs : List Gt} {ws : List Wr} (N : NetOk gs ws) {i : Nat} {x : Wr} {r : List Int} (h : ws[i]? = Option.some x) (hr : ROk r) (hl : r.length ≤ 900) (hne : r ≠ []) : NetOk gs (ws.set i (x.1, x.2.1, r)) := by
  have W := N.wok x (List.mem_of_getElem? h)
  obtain ⟨ρ, hρ⟩ := N.rank
  refine ⟨N.ne, N.gl, by rw [List.length_set]; exact N.wl, N.gok, fun y hy => ?_, fun e he hk => ?_, fun e he hk => ?_, ρ, fun y hy hyr => ?_⟩
  · rcases List.mem_or_eq_of_mem_set hy with hy | hy
    · exact N.wok y hy
    · rw [hy]
      exact ⟨W.s, W.e, W.ks, W.ke, hr, hl⟩
  · rw [cnt_set (y := (x.1, x.2.1, r)) h rfl]
    exact N.one e he hk
  · rw [cnt_set (y := (x.1, x.2.1, r)) h rfl]
    exact N.some e he hk
  · rcases List.mem_or_eq_of_mem_set hy with hy | hy
    · exact hρ y hy hyr
    · rw [hy] at hyr
      exact absurd hyr hne
theorem NetOk.perm {gs : List Gt} {ws ws' : List Wr} (N : NetOk gs ws) (p : ws'.Perm ws) : NetOk gs ws' := by
  obtain ⟨ρ, hρ⟩ := N.rank
  have c : ∀ e, cnt ws' e = cnt ws e := fun e => p.countP_eq _
  exact ⟨N.ne, N.gl, by rw [p.length_eq]; exact N.wl, N.gok, fun x hx => N.wok x (p.mem_iff.mp hx), fun e he hk => by rw [c]; exact N.one e he hk, fun e he hk => by rw [c]; exact N.some e he hk, ρ, fun x hx h => hρ x (p.mem_iff.mp hx) h⟩
/-! ### slices -/
theorem take_min {α : Type} (l : List α) (k : Nat) : l.take (min k l.length) = l.take k := by
  by_cases h : k ≤ l.length
  · rw [Nat.min_eq_left h]
  · rw [Nat.min_eq_right (by omega), List.take_length, List.take_of_length_le (by omega)]
theorem drop_min {α : Type} (l : List α) (k : Nat) : l.drop (min k l.length) = l.drop k := by
  by_cases h : k ≤ l.length
  · rw [Nat.min_eq_left h]
  · rw [Nat.min_eq_right (by omega), List.drop_length, List.drop_of_length_le (by omega)]
theorem cut_to {xs : List V} (k : Nat) : cutV xs none (some (k : Int)) = xs.take k := by
  unfold cutV
  rw [HT.sIx_none, HT.sIx_nat, List.drop_zero, Nat.sub_zero, take_min]
theorem cut_from {xs : List V} (k : Nat) : cutV xs (some (k : Int)) none = xs.drop k := by
  unfold cutV
  rw [HT.sIx_none, HT.sIx_nat, drop_min]
  exact List.take_of_length_le (by rw [List.length_drop]; omega)
theorem cut_mid {xs : List V} (j k : Nat) : cutV xs (some (j : Int)) (some (k : Int)) = (xs.take k).drop j := by
  unfold cutV
  rw [HT.sIx_nat, HT.sIx_nat, List.drop_take, drop_min]
  by_cases h : j ≤ xs.length
  · by_cases h2 : k ≤ xs.length
    · rw [Nat.min_eq_left h, Nat.min_eq_left h2]
    · rw [List.take_of_length_le (by rw [List.length_drop]; omega), List.take_of_length_le (by rw [List.length_drop]; omega)]
  · rw [List.drop_of_length_le (by omega)]
    simp
section
variable {α β : Type} {R : α → β → Prop} {xs xs' : List α} {ys ys' : List β}
theorem All2.take (h : All2 R xs ys) (k : Nat) : All2 R (xs.take k) (ys.take k) := by
  refine ⟨by rw [List.length_take, List.length_take, h.1], fun i x y hx hy => ?_⟩
  have hi : i < k := by
    have := (List.getElem?_eq_some_iff.mp hx).1
    rw [List.length_take] at this
    omega
  rw [List.getElem?_take_of_lt hi] at hx hy
  exact h.2 i x y hx hy
theorem All2.drop (h : All2 R xs ys) (k : Nat) : All2 R (xs.drop k) (ys.drop k) := by
  refine ⟨by rw [List.length_drop, List.length_drop, h.1], fun i x y hx hy => ?_⟩
  rw [List.getElem?_drop] at hx hy
  exact h.2 _ x y hx hy
theorem All2.append (h : All2 R xs ys) (h' : All2 R xs' ys') : All2 R (xs ++ xs') (ys ++ ys') := by
  induction xs generalizing ys with
  | nil =>
    cases ys with
    | nil => exact h'
    | cons _ _ => have := h.1; simp at this
  | cons x xs ih =>
    cases ys with
    | nil => have := h.1; simp at this
    | cons y ys => exact All2.cons h.head (ih h.tail)
theorem All2.reverse (h : All2 R xs ys) : All2 R xs.reverse ys.reverse := by
  induction xs generalizing ys with
  | nil =>
    cases ys with
    | nil => exact h
    | cons _ _ => have := h.1; simp at this
  | cons x xs ih =>
    cases ys with
    | nil => have := h.1; simp at this
    | cons y ys =>
      rw [List.reverse_cons, List.reverse_cons]
      exact (ih h.tail).snoc h.head
theorem All2.one {x : α} {y : β} (r : R x y) : All2 R [x] [y] := All2.cons r All2.nil
end
theorem set_cut {α : Type} {l : List α} {i : Nat} {y : α} (h : i < l.length) : l.take i ++ [y] ++ l.drop (i + 1) = l.set i y := by
  rw [List.set_eq_take_append_cons_drop, if_pos h, List.append_assoc]
  rfl
theorem swap_perm {α : Type} (l : List α) (i : Nat) : (l.take i ++ ((l.take (i + 2)).drop i).reverse ++ l.drop (i + 2)).Perm l := by
  have e : l = l.take i ++ (l.take (i + 2)).drop i ++ l.drop (i + 2) := by
    have h1 : l.take i = (l.take (i + 2)).take i := by rw [List.take_take, Nat.min_eq_left (by omega)]
    rw [h1, List.take_append_drop, List.take_append_drop]
  conv => rhs; rw [e]
  exact ((List.Perm.refl _).append (List.reverse_perm _)).append (List.Perm.refl _)
end Lag

set_option maxRecDepth 100000
set_option maxHeartbeats 8000000
namespace Lag
open PySem PySem.Spec PyProof.Rows L2
abbrev sDigit : Stmt := topS 67 -- @_law_digit
abbrev sGates : Stmt := topS 68 -- @_law_gates
abbrev sLWorths : Stmt := topS 69 -- @_law_worths
theorem st_norm {f : L2.St → Hp → Prop} {σ σ' : L2.St} {H : Hp} (e : σ = σ') (h : f σ' H) : f σ H := e ▸ h
theorem gn_norm {i : Nat} {x : V} {σ σ' : L2.St} {H : Hp} {N : L2.St → Hp → Prop} (e : σ.set i (some x) = σ') (h : N σ' H) : gName i x σ H N := by
  subst e
  exact h
theorem All2.pushT {α : Type} {R : Hp → V → α → Prop} {H H2 : Hp} {D : Addr} {acc : List V} {l : List α} {v : V} {x : α} {o : HO} (mono : ∀ {H H' : Hp} {v : V} {x : α}, TK H H' → R H v x → R H' v x) (h : All2 (R H) acc l) (hD : H2 D = some (.lst acc)) (t : TK H H2) (r : R H2 v x) : All2 (R (upd H2 D o)) (acc ++ [v]) (l ++ [x]) :=
  (h.imp fun _ _ r => mono (t.trans (TK.lst hD)) r).snoc (mono (TK.lst hD) r)
def rTupOf (K : PySem.W.Frag) : List V → Hp → VK → Prop := fun xs H Q => ∃ p ys, xs = [.ref p] ∧ ((SqL K H p ys ∧ ∀ l, H l = none → Q (.ref l) (upd H l (.tup ys))) ∨ (SqT K H p ys ∧ Q (.ref p) H))
theorem mod_b {x n : Int} (h : 0 < n) (hn : n ≤ 4294967296) : -(2 ^ 64) < x % n ∧ x % n < 2 ^ 64 := by
  have h1 := Int.emod_nonneg x (show n ≠ 0 by omega)
  have h2 := Int.emod_lt_of_pos x h
  constructor
  · have e : (-(2 ^ 64) : Int) = -18446744073709551616 := by decide
    omega
  · have e : (2 ^ 64 : Int) = 18446744073709551616 := by decide
    omega
/-! ### _law_digit -/
def spDraw : Sp := fun vs H Q _ => ∃ (w : Addr) (n : Int), vs = [.ref w, .int n] ∧ 0 < n ∧ n < 1000000 ∧ WellAt w H ∧ ∀ d H', 0 ≤ d → d < n → Dr w H H' → Q (.int d) H'
section
variable {P : Program} {w : World} {K : PySem.W.Frag} {mg : Str → Option Value} {base : Heap}
abbrev nDigit : List Str := ["_law_state", "_law_base", "_law_cell", "_law_found", "_law_number"]
theorem scDigit : FnScope nDigit ["_law_state", "_law_base"] (defScope sDigit) := ⟨rfl, rfl, rfl, by decide +kernel, rfl, by decide +kernel, by decide +kernel⟩
abbrev DDraw (P : Program) (w : World) (K : PySem.W.Frag) (mg : Str → Option Value) (base : Heap) := Df P w K mg base 1 "_law_digit" ["_law_state", "_law_base"] spDraw
theorem ok_digit {f : Addr} {fd : FuncData} (F : Fun K "_law_digit" "_law_digit" sDigit f fd) (hm : mg "_law_digit" = some (.ref f)) (B : Bt mg) : DDraw P w K mg base f fd := by
  refine ⟨?_, hm, F.kp, F.binds fun _ _ _ _ _ _ us hl => match us, hl with | [_, _], _ => rfl⟩
  refine F.ok scDigit (fun vs H Q E h => ?_) (fun cdv A outer s H vs Q E hr h => ?_)
  · obtain ⟨wl, n, rfl, _⟩ := h
    rfl
  · obtain ⟨wl, n, rfl, hn, hn2, ⟨xs, hw, hst⟩, q⟩ := h
    have nd := scDigit.nd
    refine ⟨_, Evl.pss_cut (ps_if (pt_cmpR op_eq (pe_callB call_len_seq (by rfl) B.len PySem.boot_len (pa_cons (pv 0) pa_nil)) pe_int (nomark _))
        (pss_cons (ps_set (i := 2) nd rfl (.inl rfl) (pe_ix ix_list (pv 0) pe_int (fun _ _ => rfl))) <|
          pss_cons (ps_asg (pe_ix ix_list (pe_lst (pa_cons pe_int (pa_cons (pv 2) pa_nil))) (pe_callTy call_int1 (by rfl) B.int (by decide +kernel) (pa_cons (pe_cmpR op_ge (pv 2) (pe_op op_pow pe_int pe_int) (nomark _)) pa_nil)) (fun _ _ => rfl)) (pg_sub (pv 0) pe_int set_list)) <|
          pss_one <| ps_expr <| pe_bm PySem.F.plainAttrs_list PySem.F.slot_list_extend PySem.F.type_list_extend mt_extend (pv 0) <| (pa_cons · pa_nil) <| pe_lst (pa_cons (pe_op op_mod (pv 2) pe_int) (pa_cons pe_int pa_nil))) pss_nil) <|
      pss_cons (ps_if (pt_cmpR op_gt (pe_ix ix_list (pv 0) pe_int (fun _ _ => rfl)) pe_int (nomark _))
        (pss_cons (ps_set (i := 3) nd rfl (Or.inl rfl) (pe_op op_mod (pe_ix ix_list (pv 0) pe_int (fun _ _ => rfl)) (pv 1)))
        (pss_cons (ps_asg (pe_op op_fdiv (pe_ix ix_list (pv 0) pe_int (fun _ _ => rfl)) (pv 1)) (pg_sub (pv 0) pe_int set_list))
        (pss_one (ps_ret (pv 3))))) pss_nil)
      (pss_cons (ps_asg (pe_op op_add (pe_ix ix_list (pv 0) pe_int (fun _ _ => rfl)) pe_int) (pg_sub (pv 0) pe_int set_list))
      (pss_cons (ps_set (i := 4) nd rfl (Or.inl rfl) (pe_op op_mod (pe_op op_mul (pe_op op_add (pe_op op_add (pe_ix ix_list (pv 0) pe_int (fun _ _ => rfl)) (pe_op op_mul pe_int (pe_ix ix_list (pv 0) pe_int (fun _ _ => rfl)))) pe_int) pe_int) pe_int))
      (pss_cons (ps_set (i := 4) nd rfl (Or.inl rfl) (pe_op op_mod (pe_op op_mul (pv 4) (pe_op op_add (pe_op op_fdiv (pv 4) pe_int) pe_int)) pe_int))
      (pss_one (ps_ret (pe_op op_mod (pe_op op_mod (pe_op op_mul (pv 4) (pe_op op_add (pe_op op_fdiv (pv 4) pe_int) pe_int)) pe_int) (pv 1))))))), ?_⟩
    refine ⟨fun σ H' => ∃ (a b c : Int) (s2 : Option V), σ = [some (.ref wl), some (.int n), s2, none, none] ∧ H' wl = some (.lst [.int a, .int b, .int c]) ∧ But wl H H', ?_, ?_⟩
    · refine ⟨_, rfl, wl, xs, rfl, .inl (SqL.of hw), rfl, _, rfl, ite2 (fun e => ?_) (fun e => ?_)⟩
      · have e' : ((xs.length : Nat) : Int) = 1 := V.int.inj (of_decide_eq_true e)
        rcases hst with ⟨a, rfl⟩ | ⟨a, b, c, rfl⟩
        · refine ⟨_, rfl, wl, _, 0, .int a, rfl, rfl, SqL.of hw, atI_nat (j := 0) rfl, ?_⟩
          refine ⟨_, rfl, (by show 2 ≤ sizeLine; decide), fun l hl => ?_⟩
          have nl : wl ≠ l := ne_of_none hw hl
          refine ⟨_, rfl, _, _, rfl, rfl, ⟨by decide, by decide, by decide⟩, _, _, rfl, rfl, .inr ⟨_, rfl, ?_⟩⟩
          refine ⟨l, _, _, .int (if decide (10 ^ (18 : Int).toNat ≤ a) = true then a else 0), rfl, rfl, SqL.of upd_same, ?_, ?_⟩
          · cases decide (10 ^ (18 : Int).toNat ≤ a) with
            | true => rfl
            | false => rfl
          generalize (if decide (10 ^ (18 : Int).toNat ≤ a) = true then a else 0) = a2
          have hw1 : (upd H l (.lst [.int 0, .int a])) wl = some (.lst [.int a]) := by
            rw [upd_ne nl]
            exact hw
          have b1 : But wl H (upd H l (.lst [.int 0, .int a])) := But.new hl
          generalize upd H l (.lst [.int 0, .int a]) = H1 at hw1 b1
          refine ⟨_, rfl, wl, _, 0, 0, rfl, rfl, hw1, rfl, ?_⟩
          have hw2 : (upd H1 wl (.lst [.int a2])) wl = some (.lst [.int a2]) := upd_same
          have b2 : But wl H (upd H1 wl (.lst [.int a2])) := b1.trans But.upd
          show _
          refine ⟨_, rfl, .inl ⟨rfl, _, SqL.of hw2⟩, _, rfl, _, _, rfl, rfl, (by show (0 : Int) < 2147483647; decide), (by show 2 ≤ sizeLine; decide), fun l2 hl2 => ?_⟩
          have nl2 : wl ≠ l2 := ne_of_none hw2 hl2
          refine ⟨wl, l2, [.int a2], _, rfl, rfl, by rw [upd_ne nl2]; exact hw2, upd_same, (by show 1 + 2 ≤ sizeLine; decide), ?_⟩
          exact ⟨_, _, _, _, rfl, upd_same, (b2.trans (But.new hl2)).trans But.upd⟩
        · exact absurd e' (by show ¬ ((3 : Nat) : Int) = 1; decide)
      · rcases hst with ⟨a, rfl⟩ | ⟨a, b, c, rfl⟩
        · exact absurd rfl e
        · exact ⟨a, b, c, _, rfl, hw, But.refl _ _⟩
    rintro σ H0 ⟨a, b, c, s2, rfl, hw0, b0⟩
    have dr : ∀ {a b c : Int} {H' : Hp}, But wl H H' → H' wl = some (.lst [.int a, .int b, .int c]) → Dr wl H H' := fun hb h => ⟨hb, _, h, .inr ⟨_, _, _, rfl⟩⟩
    refine ⟨_, rfl, wl, _, 0, .int a, rfl, rfl, SqL.of hw0, atI_nat (j := 0) rfl, _, _, rfl, rfl, _, rfl, ite2 (fun e => ?_) (fun e => ?_)⟩
    · refine ⟨_, rfl, wl, _, 0, .int a, rfl, rfl, SqL.of hw0, atI_nat (j := 0) rfl, _, rfl, _, _, rfl, rfl, hn, ?_⟩
      refine ⟨_, rfl, wl, _, 0, .int a, rfl, rfl, SqL.of hw0, atI_nat (j := 0) rfl, _, rfl, _, _, rfl, rfl, ⟨hn, by omega⟩, ?_⟩
      refine ⟨_, rfl, wl, _, 0, 0, rfl, rfl, hw0, rfl, ?_⟩
      refine ⟨_, rfl, ?_⟩
      exact q _ _ (Int.emod_nonneg _ (by omega)) (Int.emod_lt_of_pos _ hn) (dr (b0.trans But.upd) upd_same)
    · have h1 : (upd H0 wl (HO.lst [.int a, .int b, .int (c + 1)])) wl = some (.lst [.int a, .int b, .int (c + 1)]) := upd_same
      refine ⟨_, rfl, wl, _, 2, .int c, rfl, rfl, SqL.of hw0, atI_nat (j := 2) rfl, _, _, rfl, rfl, ?_⟩
      refine ⟨_, rfl, wl, _, 2, 2, rfl, rfl, hw0, rfl, ?_⟩
      refine ⟨_, rfl, wl, _, 1, .int b, rfl, rfl, SqL.of h1, atI_nat (j := 1) rfl, _, rfl, wl, _, 2, .int (c + 1), rfl, rfl, SqL.of h1, atI_nat (j := 2) rfl, _, _, rfl, rfl, .inl ⟨by decide, by decide⟩, _, _, rfl, rfl, _, _, rfl, rfl, _, _, rfl, rfl, .inr ⟨by decide, by decide⟩, _, _, rfl, rfl, (by show (0 : Int) < 2147483647; decide), ?_⟩
      refine ⟨_, rfl, _, rfl, _, _, rfl, rfl, ⟨by decide, by decide⟩, _, _, rfl, rfl, _, _, rfl, rfl, .inl (mod_b (by decide) (by decide)), _, _, rfl, rfl, (by show (0 : Int) < 2147483647; decide), ?_⟩
      refine ⟨_, rfl, _, rfl, _, _, rfl, rfl, ⟨by decide, by decide⟩, _, _, rfl, rfl, _, _, rfl, rfl, .inl (mod_b (by decide) (by decide)), _, _, rfl, rfl, (by show (0 : Int) < 2147483399; decide), _, rfl, _, _, rfl, rfl, hn, ?_⟩
      exact q _ _ (Int.emod_nonneg _ (by omega)) (Int.emod_lt_of_pos _ hn) (dr (b0.trans But.upd) h1)
end
/-! ### _law_gates -/
def inG : Gt := ("in", 0)
def outG : Gt := ("out", 0)
def innP (k : Str) : Bool := k != "in" && k != "out"
def nInn (gs : List Gt) : Nat := gs.countP fun g => innP g.1
structure GSh (gs : List Gt) (a b : Nat) : Prop where
  ex : ∃ mid c, gs = List.replicate a inG ++ mid ++ List.replicate c outG ∧ mid.length = b ∧ 1 ≤ c ∧ c ≤ 2 ∧ ∀ g ∈ mid, GOk g ∧ g.1 ≠ "in" ∧ g.1 ≠ "out"
  a2 : a ≤ 2
  b1 : 1 ≤ b
  b2 : b ≤ 20
def spGates (K : PySem.W.Frag) : Sp := fun vs H Q _ => ∃ (wl : Addr) (m : Int), vs = [.ref wl, .int m] ∧ 0 < m ∧ m ≤ 20 ∧ WellAt wl H ∧ ∀ t lg gs (a b : Nat) H', Dr wl H H' → H' t = some (.tup [.ref lg, .int (a : Nat), .int (b : Nat)]) → H lg = none → LG K H' lg gs → GSh gs a b → (b : Int) ≤ m → Q (.ref t) H'
def inner7 : List Str := ["sum", "times", "most", "least", "first", "one", "sum"]
theorem inner7_ok : ∀ k ∈ inner7, k ∈ kinds ∧ k ≠ "in" ∧ k ≠ "out" := by decide +kernel
theorem rep_flat {α : Type} (n : Nat) (x : α) : (List.replicate n [x]).flatten = List.replicate n x := by
  induction n with
  | zero => rfl
  | succ n ih => rw [List.replicate_succ, List.flatten_cons, ih, List.replicate_succ]; rfl
theorem all2_rep {α β : Type} {R : α → β → Prop} {x : α} {y : β} (h : R x y) : ∀ n, All2 R (List.replicate n x) (List.replicate n y)
  | 0 => All2.nil
  | n + 1 => All2.cons h (all2_rep h n)
section
variable {P : Program} {w : World} {K : PySem.W.Frag} {mg : Str → Option Value} {base : Heap}
abbrev nGates : List Str := ["_law_state", "_law_most", "_law_inner", "_law_ins", "_law_gates_here", "_law_k", "_law_kind"]
theorem scGates : FnScope nGates ["_law_state", "_law_most"] (defScope sGates) := ⟨rfl, rfl, rfl, by decide +kernel, rfl, by decide +kernel, by decide +kernel⟩
abbrev DGates (P : Program) (w : World) (K : PySem.W.Frag) (mg : Str → Option Value) (base : Heap) := Df P w K mg base 2 "_law_gates" ["_law_state", "_law_most"] (spGates K)
theorem ok_gates {f fD : Addr} {fd fdD : FuncData} (F : Fun K "_law_gates" "_law_gates" sGates f fd) (hm : mg "_law_gates" = some (.ref f)) (B : Bt mg) (DD : DDraw P w K mg base fD fdD) : DGates P w K mg base f fd := by
  refine ⟨?_, hm, F.kp, F.binds fun _ _ _ _ _ _ us hl => match us, hl with | [_, _], _ => rfl⟩
  refine F.ok scGates (fun vs H Q E h => ?_) (fun cdv A outer s H vs Q E hr h => ?_)
  · obtain ⟨wl, m, rfl, _⟩ := h
    rfl
  · obtain ⟨wl, m, rfl, hm0, hm1, hw, q⟩ := h
    have nd := scGates.nd
    refine ⟨_, pss_cons (ps_set (i := 2) nd rfl (.inl rfl) (pe_op op_add pe_int (pe_call DD.ok hr (by rfl) DD.mg DD.kp DD.bd .nil pass0 (pa_cons (pv 0) (pa_cons (pv 1) pa_nil))))) <|
      pss_cons (ps_set (i := 3) nd rfl (.inl rfl) (pe_call DD.ok hr (by rfl) DD.mg DD.kp DD.bd .nil pass0 (pa_cons (pv 0) (pa_cons pe_int pa_nil)))) <|
      pss_cons (ps_set (i := 4) nd rfl (.inl rfl) (pe_op op_rep (pe_lst (pa_cons (pe_tup (pa_cons pe_str (pa_cons pe_int pa_nil))) pa_nil)) (pv 3))) <|
      pss_cons (ps_for PassesOwn.never rfl (pi_range1 (by rfl) B.range (pa_cons (pv 2) pa_nil)) (pg_name (i := 5) nd rfl (.inl rfl)) <|
        pss_cons (ps_set (i := 6) nd rfl (.inl rfl) (pe_ix ix_list (pe_lst (pa_cons pe_str (pa_cons pe_str (pa_cons pe_str (pa_cons pe_str (pa_cons pe_str (pa_cons pe_str (pa_cons pe_str pa_nil)))))))) (pe_call DD.ok hr (by rfl) DD.mg DD.kp DD.bd .nil pass0 (pa_cons (pv 0) (pa_cons pe_int pa_nil))) (fun _ _ => rfl))) <|
        pss_one <| ps_expr <| pe_bm PySem.F.plainAttrs_list PySem.F.slot_list_append PySem.F.type_list_append mt_append (pv 4) <| (pa_cons · pa_nil) <| pe_tup <| pa_cons (pv 6) <| (pa_cons · pa_nil) <|
          pe_ix ix_list (pe_lst (pa_cons (pe_call DD.ok hr (by rfl) DD.mg DD.kp DD.bd .nil pass0 (pa_cons (pv 0) (pa_cons pe_int pa_nil))) (pa_cons (pe_call DD.ok hr (by rfl) DD.mg DD.kp DD.bd .nil pass0 (pa_cons (pv 0) (pa_cons pe_int pa_nil))) (pa_cons pe_int (pa_cons pe_int pa_nil))))) (pe_call DD.ok hr (by rfl) DD.mg DD.kp DD.bd .nil pass0 (pa_cons (pv 0) (pa_cons pe_int pa_nil))) (fun _ _ => rfl)) <|
      pss_one <| ps_ret <| pe_tup <| pa_cons (pe_op op_cat (pv 4) (pe_op op_rep (pe_lst (pa_cons (pe_tup (pa_cons pe_str (pa_cons pe_int pa_nil))) pa_nil)) (pe_op op_add pe_int (pe_call DD.ok hr (by rfl) DD.mg DD.kp DD.bd .nil pass0 (pa_cons (pv 0) (pa_cons pe_int pa_nil)))))) <| pa_cons (pv 3) <| pa_cons (pv 2) pa_nil, ?_⟩
    refine ⟨_, rfl, _, rfl, wl, m, rfl, hm0, by omega, hw, fun d1 H1 d10 d11 E1 => ⟨_, _, rfl, rfl, ?_⟩⟩
    refine ⟨_, rfl, wl, 3, rfl, by decide, by decide, E1.well, fun d2 H2 d20 d21 E2 => ?_⟩
    obtain ⟨a, rfl⟩ : ∃ a : Nat, d2 = (a : Int) := ⟨d2.toNat, by omega⟩
    obtain ⟨b0, rfl⟩ : ∃ b : Nat, d1 = (b : Int) := ⟨d1.toNat, by omega⟩
    have D2 := E1.trans E2
    refine ⟨(by show 2 ≤ sizeLine; decide), fun t3 ht3 => ?_⟩
    have D3 := D2.trans (Dr.new (o := .tup [.str "in", .int 0]) D2.well ht3)
    have et3 : SqT K (upd H2 t3 (.tup [.str "in", .int 0])) t3 [.str "in", .int 0] := .inl (.inl upd_same)
    generalize upd H2 t3 (.tup [.str "in", .int 0]) = H3 at D3 et3
    refine ⟨(by show 1 ≤ sizeLine; decide), fun l4 hl4 => ?_⟩
    have D4 := D3.trans (Dr.new (o := .lst [.ref t3]) D3.well hl4)
    have et4 := (TK.new (o := .lst [.ref t3]) hl4).seq et3
    have el4 : (upd H3 l4 (.lst [.ref t3])) l4 = some (.lst [.ref t3]) := upd_same
    generalize upd H3 l4 (.lst [.ref t3]) = H4 at D4 et4 el4
    refine ⟨_, rfl, l4, _, _, rfl, rfl, el4, by omega, by omega, ?_, fun lg hlg => ?_⟩
    · show 1 * _ ≤ sizeLine
      exact Nat.le_of_lt (small1000 (by omega))
    rw [Int.toNat_natCast, rep_flat]
    have D5 := D4.trans (Dr.new (o := .lst (List.replicate a (V.ref t3))) D4.well hlg)
    have et5 := (TK.new (o := .lst (List.replicate a (V.ref t3))) hlg).seq et4
    have el5 : (upd H4 lg (.lst (List.replicate a (V.ref t3)))) lg = some (.lst (List.replicate a (V.ref t3))) := upd_same
    have nlg : lg ≠ wl := (D4.well.ne hlg).symm
    have hlg0 : H lg = none := D4.free hw hlg
    generalize upd H4 lg (.lst (List.replicate a (V.ref t3))) = H5 at D5 et5 el5
    refine gn_norm (σ' := [some (.ref wl), some (.int m), some (.int (1 + (b0 : Nat))), some (.int (a : Nat)), some (.ref lg), none, none]) rfl ?_
    refine ⟨_, rfl, _, rfl, by omega, by omega, for_range (lo := 0) (n := (1 + ((b0 : Nat) : Int)).toNat) (fun i σ H' => ∃ (s5 s6 : Option V) (acc : List V) (mid : List Gt), σ = [some (.ref wl), some (.int m), some (.int (1 + (b0 : Nat))), some (.int (a : Nat)), some (.ref lg), s5, s6] ∧ H' lg = some (.lst acc) ∧ All2 (GateV K H') acc (List.replicate a inG ++ mid) ∧ mid.length = i ∧ (∀ g ∈ mid, GOk g ∧ g.1 ≠ "in" ∧ g.1 ≠ "out") ∧ Dr wl H H')
      ⟨_, _, _, [], rfl, el5, by rw [List.append_nil]; exact all2_rep ⟨t3, rfl, et5⟩ a, rfl, by simp, D5⟩ ?_ ?_⟩
    · rintro i σ H6 hi ⟨s5, s6, acc, mid, rfl, hacc, haa, hml, hmid, D6⟩
      have hal : acc.length = a + i := by rw [haa.1, List.length_append, List.length_replicate, hml]
      refine ⟨(by show 7 ≤ sizeLine; decide), fun l7 hl7 => ?_⟩
      have D7 := D6.trans (Dr.new (o := .lst (inner7.map V.str)) D6.well hl7)
      have E67 := Dr.new (o := .lst (inner7.map V.str)) D6.well hl7
      refine ⟨_, rfl, wl, 7, rfl, by decide, by decide, D7.well, fun k8 H8 k80 k81 E8 => ?_⟩
      have el7 := E8.but _ _ (D6.well.ne hl7).symm (upd_same (H := H6) (a := l7) (o := .lst (inner7.map V.str)))
      have hk8 : k8.toNat < (inner7.map V.str).length := by show k8.toNat < 7; omega
      refine ⟨l7, inner7.map V.str, k8, (inner7.map V.str)[k8.toNat], rfl, rfl, SqL.of el7, at_of (j := k8.toNat) (by omega) (List.getElem?_eq_getElem hk8), ?_⟩
      obtain ⟨kd, hkd, ekd⟩ := List.mem_map.mp (List.getElem_mem hk8)
      rw [← ekd]
      have hk := inner7_ok kd hkd
      have E68 := E67.trans E8
      have D8 := D6.trans E68
      have hacc8 := E68.but _ _ nlg hacc
      refine gn_norm (σ' := [some (.ref wl), some (.int m), some (.int (1 + (b0 : Nat))), some (.int (a : Nat)), some (.ref lg), some (.int (0 + (i : Nat))), some (.str kd)]) rfl ?_
      refine ⟨_, rfl, .inl ⟨rfl, _, SqL.of hacc8⟩, _, rfl, _, rfl, wl, 10, rfl, by decide, by decide, D8.well, fun z1 H9 z10 z11 E9 => ?_⟩
      refine ⟨_, rfl, wl, 4, rfl, by decide, by decide, E9.well, fun z2 H10 z20 z21 E10 => ?_⟩
      refine ⟨(by show 4 ≤ sizeLine; decide), fun l10 hl10 => ?_⟩
      have E11 := (E9.trans E10).trans (Dr.new (o := .lst [.int z1, .int z2, .int 0, .int 100]) E10.well hl10)
      refine ⟨_, rfl, wl, 4, rfl, by decide, by decide, E11.well, fun j H12 j0 j1 E12 => ?_⟩
      have el10 := E12.but _ _ (E10.well.ne hl10).symm (upd_same (H := H10) (a := l10) (o := .lst [.int z1, .int z2, .int 0, .int 100]))
      obtain ⟨wt, hwt, w0, w1⟩ : ∃ wt : Int, ([.int z1, .int z2, .int 0, .int 100] : List V)[j.toNat]? = some (.int wt) ∧ 0 ≤ wt ∧ wt ≤ 100 := by
        rcases (by omega : j.toNat = 0 ∨ j.toNat = 1 ∨ j.toNat = 2 ∨ j.toNat = 3) with h | h | h | h <;> rw [h]
        · exact ⟨z1, rfl, z10, by omega⟩
        · exact ⟨z2, rfl, z20, by omega⟩
        · exact ⟨0, rfl, by decide, by decide⟩
        · exact ⟨100, rfl, by decide, by decide⟩
      refine ⟨l10, _, j, .int wt, rfl, rfl, SqL.of el10, at_of (j := j.toNat) (by omega) hwt, (by show 2 ≤ sizeLine; decide), fun p hp => ?_⟩
      have E13 := (E68.trans (E11.trans E12)).trans (Dr.new (o := .tup [.str kd, .int wt]) E12.well hp)
      have hacc13 := E13.but _ _ nlg hacc
      refine ⟨lg, acc, _, rfl, rfl, hacc13, small1000 (by omega), ?_⟩
      refine ⟨_, _, acc ++ [.ref p], mid ++ [(kd, wt)], rfl, upd_same, ?_, by simp [hml], fun g hg => ?_, set_well (D6.trans E13) hlg0 nlg⟩
      · rw [← List.append_assoc]
        exact All2.pushT (fun t r => GateV.tk t r) haa hacc13 (TK.dr D6.well E13.but) ⟨p, rfl, .inl (.inl upd_same)⟩
      · rcases List.mem_append.mp hg with hg | hg
        · exact hmid g hg
        · simp at hg
          subst hg
          exact ⟨⟨hk.1, w0, w1, fun hp => by
            rcases hp with z | z
            · exact absurd z hk.2.1
            · exact absurd z hk.2.2⟩, hk.2.1, hk.2.2⟩
    · rintro σ H6 ⟨s5, s6, acc, mid, rfl, hacc, haa, hml, hmid, D6⟩
      have hal : acc.length = a + mid.length := by rw [haa.1, List.length_append, List.length_replicate]
      have hml' : mid.length = 1 + b0 := by omega
      refine ⟨_, rfl, (by show 2 ≤ sizeLine; decide), fun t7 ht7 => ?_⟩
      have E7 := Dr.new (o := .tup [.str "out", .int 0]) D6.well ht7
      have et7 : SqT K (upd H6 t7 (.tup [.str "out", .int 0])) t7 [.str "out", .int 0] := .inl (.inl upd_same)
      generalize upd H6 t7 (.tup [.str "out", .int 0]) = H7 at E7 et7
      refine ⟨(by show 1 ≤ sizeLine; decide), fun l8 hl8 => ?_⟩
      have E8 := E7.trans (Dr.new (o := .lst [.ref t7]) E7.well hl8)
      have et8 := (TK.new (o := .lst [.ref t7]) hl8).seq et7
      have el8 : (upd H7 l8 (.lst [.ref t7])) l8 = some (.lst [.ref t7]) := upd_same
      have nl8 : l8 ≠ wl := (E7.well.ne hl8).symm
      generalize upd H7 l8 (.lst [.ref t7]) = H8 at E8 et8 el8
      refine ⟨_, rfl, wl, 2, rfl, by decide, by decide, E8.well, fun d9 H9 d90 d91 E9 => ⟨_, _, rfl, rfl, ?_⟩⟩
      obtain ⟨c0, rfl⟩ : ∃ c : Nat, d9 = (c : Int) := ⟨d9.toNat, by omega⟩
      have et9 := (TK.dr E8.well E9.but).seq et8
      have el9 := E9.but _ _ nl8 el8
      refine ⟨l8, _, _, rfl, rfl, el9, by omega, by omega, ?_, fun l10 hl10 => ?_⟩
      · show 1 * _ ≤ sizeLine
        exact Nat.le_of_lt (small1000 (by omega))
      have ec : (1 + ((c0 : Nat) : Int)).toNat = 1 + c0 := by omega
      rw [ec, rep_flat]
      have E10 := (E8.trans E9).trans (Dr.new (o := .lst (List.replicate (1 + c0) (V.ref t7))) E9.well hl10)
      have et10 := (TK.new (o := .lst (List.replicate (1 + c0) (V.ref t7))) hl10).seq et9
      have el10 : (upd H9 l10 (.lst (List.replicate (1 + c0) (V.ref t7)))) l10 = some (.lst (List.replicate (1 + c0) (V.ref t7))) := upd_same
      generalize upd H9 l10 (.lst (List.replicate (1 + c0) (V.ref t7))) = H10 at E10 et10 el10
      refine ⟨lg, l10, _, _, rfl, rfl, E10.but _ _ nlg hacc, el10, ?_, fun l11 hl11 => ?_⟩
      · rw [List.length_replicate, hal]
        exact Nat.le_of_lt (small1000 (by omega))
      have E11 := E10.trans (Dr.new (o := .lst (acc ++ List.replicate (1 + c0) (V.ref t7))) E10.well hl11)
      have et11 := (TK.new (o := .lst (acc ++ List.replicate (1 + c0) (V.ref t7))) hl11).seq et10
      have el11 : (upd H10 l11 (.lst (acc ++ List.replicate (1 + c0) (V.ref t7)))) l11 = some (.lst (acc ++ List.replicate (1 + c0) (V.ref t7))) := upd_same
      have hl110 : H l11 = none := (D6.trans E10).free hw hl11
      generalize upd H10 l11 (.lst (acc ++ List.replicate (1 + c0) (V.ref t7))) = H11 at E11 et11 el11
      have G11 : LG K H11 l11 (List.replicate a inG ++ mid ++ List.replicate (1 + c0) outG) := ⟨_, el11, (haa.imp fun _ _ r => r.tk (TK.dr D6.well E11.but)).append (all2_rep ⟨t7, rfl, et11⟩ _)⟩
      refine ⟨_, rfl, _, rfl, (by show 3 ≤ sizeLine; decide), fun t12 ht12 => ?_⟩
      have st : Same H11 (upd H11 t12 (.tup [.ref l11, .int (a : Nat), .int (1 + (b0 : Nat))])) := same_new ht12
      refine q t12 l11 _ a (1 + b0) _ ((D6.trans E11).trans ⟨But.same st, E11.well.same st⟩) ?_ hl110 (G11.same st) ⟨⟨mid, 1 + c0, rfl, hml', by omega, by omega, hmid⟩, by omega, by omega, by omega⟩ (by omega)
      rw [upd_same]
      rfl
end
/-! ### _law_worths -/
def spLWorths (K : PySem.W.Frag) : Sp := fun vs H Q _ => ∃ (wl : Addr) (m : Nat), vs = [.ref wl, .int (m : Nat)] ∧ m ≤ 100 ∧ WellAt wl H ∧ ∀ p rs H', Dr wl H H' → H' p = some (.tup (rs.map V.int)) → rs.length = m → ROk rs → Q (.ref p) H'
section
variable {P : Program} {w : World} {K : PySem.W.Frag} {mg : Str → Option Value} {base : Heap}
abbrev nLWorths : List Str := ["_law_state", "_law_many", "_law_k"]
theorem scLWorths : FnScope nLWorths ["_law_state", "_law_many"] (defScope sLWorths) := ⟨rfl, rfl, rfl, by decide +kernel, rfl, by decide +kernel, by decide +kernel⟩
abbrev DLWorths (P : Program) (w : World) (K : PySem.W.Frag) (mg : Str → Option Value) (base : Heap) := Df P w K mg base 2 "_law_worths" ["_law_state", "_law_many"] (spLWorths K)
theorem ok_lworths {f fD : Addr} {fd fdD : FuncData} (F : Fun K "_law_worths" "_law_worths" sLWorths f fd) (hm : mg "_law_worths" = some (.ref f)) (B : Bt mg) (DD : DDraw P w K mg base fD fdD) : DLWorths P w K mg base f fd := by
  refine ⟨?_, hm, F.kp, F.binds fun _ _ _ _ _ _ us hl => match us, hl with | [_, _], _ => rfl⟩
  refine F.ok scLWorths (fun vs H Q E h => ?_) (fun cdv A outer s H vs Q E hr h => ?_)
  · obtain ⟨wl, m, rfl, _⟩ := h
    rfl
  · obtain ⟨wl, m, rfl, hm1, hw, q⟩ := h
    have nd := scLWorths.nd
    refine ⟨_, pss_one <| ps_ret <| pe_callTy call_tuple_of (by rfl) B.tuple (by decide +kernel) <| (pa_cons · pa_nil) <| pe_lc (own := [("_law_k", 2)]) (g := gName 2) (tt := tYes) (te := tCall spDraw [] E0 (tCons (tVar 0) (tCons (tC (.int 97)) tNil))) rfl nd (pi_range1 (by rfl) B.range (pa_cons (pv 1) pa_nil)) (blkOk_by (N := nLWorths) (sc := defScope sLWorths) (own := [("_law_k", 2)]) (by decide +kernel))
      (fun _ _ _ _ _ => pg_name (i := 2) nd rfl (.inl rfl)) (fun _ _ _ _ _ => pts_nil) (fun _ _ _ _ _ => pe_call DD.ok hr (by rfl) DD.mg DD.kp DD.bd .nil pass0 (pa_cons (pv 0) (pa_cons pe_int pa_nil))), ?_⟩
    refine ⟨_, rfl, _, rfl, by omega, by omega, fun R hR => ?_⟩
    have nRw : R ≠ wl := (hw.ne hR).symm
    refine lc_range (lo := 0) (n := ((m : Int)).toNat) (fun i Hc => ∃ rs : List Int, rs.length = i ∧ ROk rs ∧ Hc R = some (.lst (rs.map V.int)) ∧ Dr wl H Hc) ⟨[], rfl, by simp [ROk], upd_same, Dr.new hw hR⟩ ?_ ?_
    · rintro i Hc hi ⟨rs, hl, hr', hc, d⟩
      refine ⟨rfl, tyes ?_⟩
      refine ⟨_, rfl, wl, 97, rfl, by decide, by decide, d.well, fun z H2 z0 z1 E => ?_⟩
      refine ⟨_, E.but _ _ nRw hc, by rw [List.length_map]; exact small1000 (by omega), rs ++ [z], by simp [hl], ?_, ?_, set_well (d.trans E) hR nRw⟩
      · intro y hy
        rcases List.mem_append.mp hy with hy | hy
        · exact hr' y hy
        · simp at hy
          subst hy
          exact ⟨z0, by omega⟩
      · rw [upd_same, List.map_append]
        rfl
    · rintro Hc ⟨rs, hl, hr', hc, d⟩
      refine ⟨R, _, rfl, .inl ⟨SqL.of hc, fun p hp => ?_⟩⟩
      exact q p rs _ (d.trans (Dr.new d.well hp)) upd_same (by omega) hr'
end
end Lag

set_option maxRecDepth 100000
set_option maxHeartbeats 8000000
namespace Lag
open PySem PySem.Spec PyProof.Rows L2
abbrev sLWires : Stmt := topS 70 -- @_law_wires
abbrev sLParts : Stmt := topS 71 -- @_law_parts
theorem kindAt_i {gs : List Gt} {i : Nat} (h : i < gs.length) : kindAt gs i = gs[i].1 := kindAt_get (List.getElem?_eq_getElem h)
theorem GSh.len {gs : List Gt} {a b : Nat} (h : GSh gs a b) : a + b + 1 ≤ gs.length ∧ gs.length ≤ a + b + 2 := by
  obtain ⟨mid, c, rfl, hm, c1, c2, _⟩ := h.ex
  rw [List.length_append, List.length_append, List.length_replicate, List.length_replicate, hm]
  omega
theorem GSh.kind {gs : List Gt} {a b i : Nat} (h : GSh gs a b) (hi : i < gs.length) : (i < a → kindAt gs i = "in") ∧ (a ≤ i → i < a + b → kindAt gs i ≠ "in" ∧ kindAt gs i ≠ "out") ∧ (a + b ≤ i → kindAt gs i = "out") := by
  obtain ⟨mid, c, rfl, hm, c1, c2, hk⟩ := h.ex
  rw [List.length_append, List.length_append, List.length_replicate, List.length_replicate, hm] at hi
  refine ⟨fun h1 => ?_, fun h1 h2 => ?_, fun h1 => ?_⟩
  · refine kindAt_get (g := inG) ?_
    rw [List.getElem?_append_left (by rw [List.length_append, List.length_replicate]; omega), List.getElem?_append_left (by rw [List.length_replicate]; exact h1), List.getElem?_replicate, if_pos h1]
  · have e : (List.replicate a inG ++ mid ++ List.replicate c outG)[i]? = some (mid[i - a]'(by omega)) := by
      rw [List.getElem?_append_left (by rw [List.length_append, List.length_replicate]; omega), List.getElem?_append_right (by rw [List.length_replicate]; exact h1), List.length_replicate, List.getElem?_eq_getElem]
    rw [kindAt_get e]
    exact (hk _ (List.getElem_mem _)).2
  · refine kindAt_get (g := outG) ?_
    rw [List.getElem?_append_right (by rw [List.length_append, List.length_replicate]; omega), List.length_append, List.length_replicate, List.getElem?_replicate, if_pos (by omega)]
theorem GSh.gok {gs : List Gt} {a b : Nat} (h : GSh gs a b) : ∀ g ∈ gs, GOk g := by
  obtain ⟨mid, c, rfl, hm, c1, c2, hk⟩ := h.ex
  intro g hg
  rcases List.mem_append.mp hg with hg | hg
  · rcases List.mem_append.mp hg with hg | hg
    · rw [List.eq_of_mem_replicate hg]
      exact ⟨by show ("in" : Str) ∈ kinds; decide +kernel, Int.le_refl 0, (by show (0 : Int) ≤ 100; decide), fun _ => rfl⟩
    · exact (hk g hg).1
  · rw [List.eq_of_mem_replicate hg]
    exact ⟨by show ("out" : Str) ∈ kinds; decide +kernel, Int.le_refl 0, (by show (0 : Int) ≤ 100; decide), fun _ => rfl⟩
def spLWires (K : PySem.W.Frag) : Sp := fun vs H Q _ => ∃ (wl lg : Addr) (gs : List Gt) (a b : Nat), vs = [.ref wl, .ref lg, .int (a : Nat), .int (b : Nat)] ∧ WellAt wl H ∧ lg ≠ wl ∧ LG K H lg gs ∧ GSh gs a b ∧ ∀ l ws H', Dr wl H H' → H l = none → LW K H' l ws → WInv gs ws gs.length → Q (.ref l) H'
section
variable {P : Program} {w : World} {K : PySem.W.Frag} {mg : Str → Option Value} {base : Heap}
abbrev nLWires : List Str := ["_law_state", "_law_gates_here", "_law_ins", "_law_inner", "_law_wires_here", "_law_end", "_law_k", "_law_start"]
theorem scLWires : FnScope nLWires ["_law_state", "_law_gates_here", "_law_ins", "_law_inner"] (defScope sLWires) := ⟨rfl, rfl, rfl, by decide +kernel, rfl, by decide +kernel, by decide +kernel⟩
abbrev DLWires (P : Program) (w : World) (K : PySem.W.Frag) (mg : Str → Option Value) (base : Heap) := Df P w K mg base 3 "_law_wires" ["_law_state", "_law_gates_here", "_law_ins", "_law_inner"] (spLWires K)
theorem ok_lwires {f fD fW : Addr} {fd fdD fdW : FuncData} (F : Fun K "_law_wires" "_law_wires" sLWires f fd) (hm : mg "_law_wires" = some (.ref f)) (B : Bt mg) (DD : DDraw P w K mg base fD fdD) (DW : DLWorths P w K mg base fW fdW) : DLWires P w K mg base f fd := by
  refine ⟨?_, hm, F.kp, F.binds fun _ _ _ _ _ _ us hl => match us, hl with | [_, _, _, _], _ => rfl⟩
  refine F.ok scLWires (fun vs H Q E h => ?_) (fun cdv A outer s H vs Q E hr h => ?_)
  · obtain ⟨wl, lg, gs, a, b, rfl, _⟩ := h
    rfl
  · obtain ⟨wl, lg, gs, a, b, rfl, hw, nlg, G, gsh, q⟩ := h
    have nd := scLWires.nd
    have hr1 : Room 1 _ := hr.mono (by decide)
    refine ⟨_, pss_cons (ps_set (i := 4) nd rfl (.inl rfl) (pe_lst pa_nil)) <|
      pss_cons (ps_for PassesOwn.never rfl (pi_range2 (by rfl) B.range (pa_cons (pv 2) (pa_cons (pe_callB call_len_seq (by rfl) B.len PySem.boot_len (pa_cons (pv 1) pa_nil)) pa_nil))) (pg_name (i := 5) nd rfl (.inl rfl)) <|
        pss_one <| ps_for PassesOwn.never rfl (pi_range1 (by rfl) B.range (pa_cons (pe_op op_add pe_int (pe_op op_mul (pe_call DD.ok hr1 (by rfl) DD.mg DD.kp DD.bd .nil pass0 (pa_cons (pv 0) (pa_cons pe_int pa_nil))) (pe_callTy call_int1 (by rfl) B.int (by decide +kernel) (pa_cons (pe_cmpR op_lt (pv 5) (pe_op op_add (pv 2) (pv 3)) (nomark _)) pa_nil)))) pa_nil)) (pg_name (i := 6) nd rfl (.inl rfl)) <|
          pss_cons (ps_set (i := 7) nd rfl (.inl rfl) (pe_call DD.ok hr1 (by rfl) DD.mg DD.kp DD.bd .nil pass0 (pa_cons (pv 0) (pa_cons (pe_op op_add (pv 2) (pv 3)) pa_nil)))) <|
          pss_one <| ps_expr <| pe_bm PySem.F.plainAttrs_list PySem.F.slot_list_append PySem.F.type_list_append mt_append (pv 4) <| (pa_cons · pa_nil) <| pe_tup <| pa_cons (pv 7) <| pa_cons (pv 5) <| (pa_cons · pa_nil) <|
            pe_call DW.ok hr (by rfl) DW.mg DW.kp DW.bd .nil pass0 (pa_cons (pv 0) (pa_cons (pe_op op_add (pe_call DD.ok hr1 (by rfl) DD.mg DD.kp DD.bd .nil pass0 (pa_cons (pv 0) (pa_cons pe_int pa_nil))) (pe_callTy call_int1 (by rfl) B.int (by decide +kernel) (pa_cons (pe_cmpR op_ge (pv 7) (pv 5) (nomark _)) pa_nil))) pa_nil))) <|
      pss_one <| ps_ret (pv 4), ?_⟩
    obtain ⟨gl1, gl2⟩ := gsh.len
    have ha2 := gsh.a2
    have hb1 := gsh.b1
    have hb2 := gsh.b2
    obtain ⟨gv, hgv, ga⟩ := id G
    have hlg : gv.length = gs.length := ga.1
    refine ⟨Nat.zero_le _, fun D hD => ?_⟩
    have nDw : D ≠ wl := (hw.ne hD).symm
    have s0 : Same H (upd H D (.lst [])) := same_new hD
    have D0 : Dr wl H (upd H D (.lst [])) := Dr.new hw hD
    refine ⟨_, rfl, _, rfl, lg, gv, rfl, .inl (s0.seq (SqL.of hgv)), _, _, rfl, ⟨by omega, by omega, by omega, by omega⟩, ?_⟩
    refine for_range (fun i σ H' => ∃ (s5 s6 s7 : Option V) (acc : List V) (ws : List Wr), σ = [some (.ref wl), some (.ref lg), some (.int (a : Nat)), some (.int (b : Nat)), some (.ref D), s5, s6, s7] ∧ H' D = some (.lst acc) ∧ All2 (WireV K H') acc ws ∧ WInv gs ws (a + i) ∧ Dr wl H H')
      ⟨_, _, _, [], [], rfl, upd_same, All2.nil, ⟨by simp, fun e he hk => ?_, fun e he hk => ?_, by simp, by simp, fun e => Nat.zero_le 3⟩, D0⟩ ?_ ?_
    · have h1 := (gsh.kind (i := e) (by omega)).1 he
      rw [h1] at hk
      exact absurd hk (by decide +kernel)
    · have h1 := (gsh.kind (i := e) (by omega)).1 he
      rw [h1] at hk
      exact absurd hk (by decide +kernel)
    · rintro i σ H1 hi ⟨s5, s6, s7, acc, ws, rfl, hacc, haa, wi, D1⟩
      rw [hlg] at hi
      have hie : a + i < gs.length := by omega
      have ee : ((a : Nat) : Int) + ((i : Nat) : Int) = ((a + i : Nat) : Int) := by omega
      rw [ee]
      generalize he : a + i = e at hie wi
      obtain ⟨k1, k2, k3⟩ := gsh.kind hie
      refine ⟨_, rfl, wl, 3, rfl, by decide, by decide, D1.well, fun d H2 d0 d1 E2 => ?_⟩
      refine ⟨_, rfl, _, rfl, _, rfl, _, _, rfl, rfl, _, _, rfl, rfl, .inr ⟨_, rfl, _, _, rfl, rfl, .inl ?_, _, _, rfl, rfl, _, rfl, ?_⟩⟩
      · have e64 : (2 ^ 64 : Int) = 18446744073709551616 := by decide
        exact ⟨by omega, by omega⟩
      have hmany : ∃ mm : Nat, (1 : Int) + d * (if decide (((e : Nat) : Int) < ((a : Nat) : Int) + ((b : Nat) : Int)) = true then 1 else 0) = (mm : Int) ∧ 1 ≤ mm ∧ mm ≤ 3 ∧ (a + b ≤ e → mm = 1) := by
        by_cases hlt : e < a + b
        · refine ⟨1 + d.toNat, ?_, by omega, by omega, fun h => by omega⟩
          rw [if_pos (decide_eq_true (by omega))]
          omega
        · refine ⟨1, ?_, by omega, by omega, fun _ => rfl⟩
          rw [if_neg (by rw [decide_eq_true_eq]; omega)]
          omega
      obtain ⟨mm, hmm, mm1, mm3, mmo⟩ := hmany
      rw [hmm]
      have D2 := D1.trans E2
      refine ⟨by omega, by omega, for_range (lo := 0) (n := ((mm : Nat) : Int).toNat) (fun j σ H' => ∃ (s6 s7 : Option V) (acc : List V) (ws : List Wr), σ = [some (.ref wl), some (.ref lg), some (.int (a : Nat)), some (.int (b : Nat)), some (.ref D), some (.int (e : Nat)), s6, s7] ∧ H' D = some (.lst acc) ∧ All2 (WireV K H') acc ws ∧ WInv2 gs ws e j ∧ Dr wl H H')
        ⟨_, _, acc, ws, rfl, E2.but _ _ nDw hacc, haa.imp fun _ _ r => r.tk (TK.dr D1.well E2.but), wi.go, D2⟩ ?_ ?_⟩
      · rintro j σ H3 hj ⟨s6', s7', acc3, ws3, rfl, hacc3, haa3, wi3, D3⟩
        have hal3 : acc3.length ≤ 200 := by
          rw [haa3.1]
          have := wi3.len
          omega
        refine ⟨_, rfl, _, rfl, _, rfl, _, _, rfl, rfl, wl, _, rfl, by omega, by omega, D3.well, fun st H4 st0 st1 E4 => ?_⟩
        obtain ⟨sx, rfl⟩ : ∃ sx : Nat, st = (sx : Int) := ⟨st.toNat, by omega⟩
        have hsx : sx < a + b := by omega
        have hacc4 := E4.but _ _ nDw hacc3
        refine ⟨_, rfl, .inl ⟨rfl, _, SqL.of hacc4⟩, _, rfl, _, rfl, _, rfl, _, rfl, wl, 3, rfl, by decide, by decide, E4.well, fun r0 H5 r00 r01 E5 => ?_⟩
        refine ⟨_, rfl, _, rfl, _, _, rfl, rfl, .inr ⟨_, rfl, _, _, rfl, rfl, ?_⟩⟩
        obtain ⟨rl, hrl, rl3, rlp⟩ : ∃ rl : Nat, r0 + (if decide (((e : Nat) : Int) ≤ ((sx : Nat) : Int)) = true then 1 else 0) = (rl : Int) ∧ rl ≤ 3 ∧ (e ≤ sx → 1 ≤ rl) := by
          by_cases hle : e ≤ sx
          · refine ⟨r0.toNat + 1, ?_, by omega, fun _ => by omega⟩
            rw [if_pos (decide_eq_true (by omega))]
            omega
          · refine ⟨r0.toNat, ?_, by omega, fun h => absurd h hle⟩
            rw [if_neg (by rw [decide_eq_true_eq]; omega)]
            omega
        refine ⟨wl, rl, congrArg (fun z => [V.ref wl, V.int z]) hrl, by omega, E5.well, fun p6 rs H6 E6 ep6 hrs hrok => ?_⟩
        refine ⟨(by show 3 ≤ sizeLine; decide), fun p hp => ?_⟩
        have E36 := E4.trans (E5.trans E6)
        have E7 := E36.trans (Dr.new (o := .tup [.int (sx : Nat), .int (e : Nat), .ref p6]) E36.well hp)
        have hacc7 := E7.but _ _ nDw hacc3
        refine ⟨D, acc3, _, rfl, rfl, hacc7, small1000 (by omega), ?_⟩
        refine ⟨_, _, acc3 ++ [.ref p], ws3 ++ [(sx, e, rs)], rfl, upd_same, All2.pushT (fun t r => WireV.tk t r) haa3 hacc7 (TK.dr D3.well E7.but) ⟨p, p6, rfl, .inl (.inl upd_same), (TK.new hp).seq (.inl (.inl ep6))⟩, wi3.app ⟨by show sx < gs.length; omega, hie, ?_, ?_, hrok, by show rs.length ≤ 900; omega⟩ (fun h => ?_) rfl (by show rs.length ≤ 3; omega), set_well (D3.trans E7) hD nDw⟩
        · show kindAt gs sx ≠ "out"
          rcases Nat.lt_or_ge sx a with h | h
          · rw [(gsh.kind (i := sx) (by omega)).1 h]
            decide +kernel
          · exact ((gsh.kind (i := sx) (by omega)).2.1 h hsx).2
        · show kindAt gs e ≠ "in"
          rcases Nat.lt_or_ge e (a + b) with h | h
          · exact (k2 (by omega) h).1
          · rw [k3 h]
            decide +kernel
        · have h : rs = [] := h
          show sx < e
          rcases Nat.lt_or_ge sx e with h2 | h2
          · exact h2
          · have := rlp h2
            rw [h] at hrs
            simp at hrs
            omega
      · rintro σ H3 ⟨s6', s7', acc3, ws3, rfl, hacc3, haa3, wi3, D3⟩
        rw [Int.toNat_natCast] at wi3
        refine ⟨_, _, _, acc3, ws3, rfl, hacc3, haa3, ?_, D3⟩
        have e2 : a + (i + 1) = e + 1 := by omega
        rw [e2]
        refine wi3.done (fun hk => mmo ?_) (fun _ => mm1) mm3
        rcases Nat.lt_or_ge e (a + b) with h | h
        · exact absurd hk (k2 (by omega) h).2
        · exact h
    · rintro σ H1 ⟨s5, s6, s7, acc, ws, rfl, hacc, haa, wi, D1⟩
      have e2 : a + (((gv.length : Nat) : Int) - ((a : Nat) : Int)).toNat = gs.length := by omega
      rw [e2] at wi
      exact ⟨_, rfl, q D ws H1 D1 hD ⟨acc, hacc, haa⟩ wi⟩
end
end Lag

set_option maxRecDepth 100000
set_option maxHeartbeats 8000000
namespace Lag
open PySem PySem.Spec PyProof.Rows L2
theorem LG.dr {K : PySem.W.Frag} {wl l : Addr} {H H' : Hp} {gs : List Gt} (h : LG K H l gs) (n : l ≠ wl) (W : WellAt wl H) (d : Dr wl H H') : LG K H' l gs := by
  obtain ⟨vs, q, a⟩ := h
  exact ⟨vs, d.but _ _ n q, a.imp fun _ _ r => r.tk (TK.dr W d.but)⟩
theorem LW.dr {K : PySem.W.Frag} {wl l : Addr} {H H' : Hp} {ws : List Wr} (h : LW K H l ws) (n : l ≠ wl) (W : WellAt wl H) (d : Dr wl H H') : LW K H' l ws := by
  obtain ⟨vs, q, a⟩ := h
  exact ⟨vs, d.but _ _ n q, a.imp fun _ _ r => r.tk (TK.dr W d.but)⟩
/-- what stands while a net is asked -/
structure RS (K : PySem.W.Frag) (C wl : Addr) (H : Hp) (lg lw p ng nw : Addr) (gs : List Gt) (ws : List Wr) : Prop where
  W : WellAt wl H
  g : LG K H lg gs
  w : LW K H lw ws
  n : NetAt K C H p ng nw gs ws
  n1 : lg ≠ wl
  n2 : lw ≠ wl
  n3 : p ≠ wl
  n4 : ng ≠ wl
  n5 : nw ≠ wl
/-! ### numbered on from t -/
def rotL (n t : Nat) : List Nat := (List.range n).drop t ++ (List.range n).take t
theorem rot_perm (n t : Nat) : (rotL n t).Perm (List.range n) := by
  unfold rotL
  refine List.perm_append_comm.trans ?_
  rw [List.take_append_drop]
theorem rot_map {gs : List Gt} (t : Nat) : ((rotL gs.length t).map fun k => gs.getD k ("", 0)) = gs.drop t ++ gs.take t := by
  have e : (List.range gs.length).map (fun k => gs.getD k ("", 0)) = gs := by
    refine List.ext_getElem? fun i => ?_
    rw [List.getElem?_map]
    by_cases h : i < gs.length
    · rw [List.getElem?_range h, List.getElem?_eq_getElem h]
      show some (gs.getD i ("", 0)) = _
      rw [List.getD_eq_getElem?_getD, List.getElem?_eq_getElem h]
      rfl
    · rw [List.getElem?_eq_none (by rw [List.length_range]; omega), List.getElem?_eq_none (by omega)]
      rfl
  unfold rotL
  rw [List.map_append, List.map_drop, List.map_take, e]
theorem rot_idx {n t i : Nat} (ht : t < n) (hi : i < n) : (((rotL n t).idxOf i : Nat) : Int) = ((i : Int) - (t : Int)) % (n : Int) := by
  have nd : (rotL n t).Nodup := (rot_perm n t).nodup_iff.mpr List.nodup_range
  have key : ∀ j, (rotL n t)[j]? = some i → (rotL n t).idxOf i = j := fun j hj => by
    obtain ⟨hjl, e⟩ := List.getElem?_eq_some_iff.mp hj
    rw [← e]
    exact List.Nodup.idxOf_getElem nd j hjl
  rcases Nat.lt_or_ge i t with h | h
  · have hj : (rotL n t)[n - t + i]? = some i := by
      unfold rotL
      rw [List.getElem?_append_right (by rw [List.length_drop, List.length_range]; omega), List.length_drop, List.length_range, List.getElem?_take_of_lt (by omega), List.getElem?_range (by omega)]
      congr 1
      omega
    rw [key _ hj]
    have : ((i : Int) - (t : Int)) % (n : Int) = ((i : Int) - (t : Int) + (n : Int)) % (n : Int) := by rw [Int.add_emod_right]
    rw [this, Int.emod_eq_of_lt (by omega) (by omega)]
    omega
  · have hj : (rotL n t)[i - t]? = some i := by
      unfold rotL
      rw [List.getElem?_append_left (by rw [List.length_drop, List.length_range]; omega), List.getElem?_drop, List.getElem?_range (by omega)]
      congr 1
      omega
    rw [key _ hj, Int.emod_eq_of_lt (by omega) (by omega)]
    omega
theorem rot_at {n t i : Nat} (hi : i < n) : (rotL n t)[(rotL n t).idxOf i]? = some i := by
  have mi : i ∈ rotL n t := (rot_perm n t).mem_iff.mpr (List.mem_range.mpr hi)
  rw [List.getElem?_eq_getElem (List.idxOf_lt_length_iff.mpr mi), List.getElem_idxOf]
theorem cnt_rot {n t : Nat} {us ws : List Wr} (hp : us.Perm ws) (hw : ∀ x ∈ ws, x.2.1 < n) (c3 : ∀ e, cnt ws e ≤ 3) : ∀ e, cnt (us.map fun x => ((rotL n t).idxOf x.1, (rotL n t).idxOf x.2.1, x.2.2)) e ≤ 3 := fun e => by
  unfold cnt
  rw [List.countP_map]
  by_cases h : ∃ x ∈ us, (rotL n t).idxOf x.2.1 = e
  · obtain ⟨x0, h0, h1⟩ := h
    refine Nat.le_trans (Nat.le_of_eq ?_) (c3 x0.2.1)
    unfold cnt
    rw [← hp.countP_eq]
    refine List.countP_congr fun x hx => ?_
    simp only [Function.comp, beq_iff_eq]
    constructor
    · intro z
      have a1 := rot_at (t := t) (hw x (hp.mem_iff.mp hx))
      rw [z, ← h1, rot_at (t := t) (hw x0 (hp.mem_iff.mp h0))] at a1
      exact (Option.some.inj a1).symm
    · intro z
      rw [z, h1]
  · rw [List.countP_eq_zero.mpr]
    · exact Nat.zero_le _
    · intro x hx z
      simp only [Function.comp, beq_iff_eq] at z
      exact h ⟨x, hx, z⟩
theorem nInn_rot (gs : List Gt) (t : Nat) : nInn (gs.drop t ++ gs.take t) = nInn gs := by
  unfold nInn
  rw [List.countP_append, Nat.add_comm, ← List.countP_append, List.take_append_drop]
theorem GSh.inn {gs : List Gt} {a b : Nat} (h : GSh gs a b) : nInn gs ≤ b := by
  obtain ⟨mid, c, e, hm, _⟩ := h.ex
  have h1 : (List.replicate a inG).countP (fun g => innP g.1) = 0 := List.countP_eq_zero.mpr fun g hg => by
    rw [List.eq_of_mem_replicate hg]
    decide +kernel
  have h2 : (List.replicate c outG).countP (fun g => innP g.1) = 0 := List.countP_eq_zero.mpr fun g hg => by
    rw [List.eq_of_mem_replicate hg]
    decide +kernel
  have h3 : mid.countP (fun g => innP g.1) ≤ mid.length := List.countP_le_length
  unfold nInn
  rw [e, List.countP_append, List.countP_append, h1, h2]
  omega
def spLParts (K : PySem.W.Frag) : Sp := fun vs H Q _ => ∃ (wl : Addr) (m : Int), vs = [.ref wl, .int m] ∧ 0 < m ∧ m ≤ 20 ∧ WellAt wl H ∧
  ∀ (gs : List Gt) (ws : List Wr) (lg lw p : Addr) (H' : Hp), NetOk gs ws → gs.length ≤ 24 → (gs.length : Int) ≤ m + 4 → (nInn gs : Int) ≤ m → ws.length ≤ 3 * gs.length → (∀ x ∈ ws, x.2.2.length ≤ 3) → ws.length ≤ 72 → ws ≠ [] → (∀ e, cnt ws e ≤ 3) → (∃ i, i < gs.length ∧ kindAt gs i ≠ "in" ∧ kindAt gs i ≠ "out") → Dr wl H H' → H lg = none → H lw = none → lg ≠ lw → LG K H' lg gs → LW K H' lw ws → H' p = some (.tup [.ref lg, .ref lw]) → Q (.ref p) H'
section
variable {P : Program} {w : World} {K : PySem.W.Frag} {mg : Str → Option Value} {base : Heap}
abbrev nLParts : List Str := ["_law_state", "_law_most", "_law_gates_here", "_law_ins", "_law_inner", "_law_wires_here", "_law_many", "_law_turn", "_law_start", "_law_end", "_law_stock"]
theorem scLParts : FnScope nLParts ["_law_state", "_law_most"] (defScope sLParts) := ⟨rfl, rfl, rfl, by decide +kernel, rfl, by decide +kernel, by decide +kernel⟩
abbrev DLParts (P : Program) (w : World) (K : PySem.W.Frag) (mg : Str → Option Value) (base : Heap) := Df P w K mg base 4 "_law_parts" ["_law_state", "_law_most"] (spLParts K)
def rotE : TE := tTup (tCons (tOp (rI (fun _ j => 0 < j) fun i j => .int (i % j)) (tOp (rI0 fun i j => .int (i - j)) (tVar 8) (tVar 7)) (tVar 6)) (tCons (tOp (rI (fun _ j => 0 < j) fun i j => .int (i % j)) (tOp (rI0 fun i j => .int (i - j)) (tVar 9) (tVar 7)) (tVar 6)) (tCons (tVar 10) tNil)))
theorem ok_lparts {f fD fG fW : Addr} {fd fdD fdG fdW : FuncData} (F : Fun K "_law_parts" "_law_parts" sLParts f fd) (hm : mg "_law_parts" = some (.ref f)) (B : Bt mg) (DD : DDraw P w K mg base fD fdD) (DG : DGates P w K mg base fG fdG) (DW : DLWires P w K mg base fW fdW) : DLParts P w K mg base f fd := by
  refine ⟨?_, hm, F.kp, F.binds fun _ _ _ _ _ _ us hl => match us, hl with | [_, _], _ => rfl⟩
  refine F.ok scLParts (fun vs H Q E h => ?_) (fun cdv A outer s H vs Q E hr h => ?_)
  · obtain ⟨wl, m, rfl, _⟩ := h
    rfl
  · obtain ⟨wl, m, rfl, hm0, hm1, hw, q⟩ := h
    have nd := scLParts.nd
    have hr2 : Room 2 _ := hr.mono (by decide)
    have hr1 : Room 1 _ := hr.mono (by decide)
    refine ⟨_, pss_cons (ps_asg (pe_call DG.ok hr2 (by rfl) DG.mg DG.kp DG.bd .nil pass0 (pa_cons (pv 0) (pa_cons (pv 1) pa_nil))) (pg_tup (by rfl) (pgs_cons (pg_name (i := 2) nd rfl (.inl rfl)) (pgs_cons (pg_name (i := 3) nd rfl (.inl rfl)) (pgs_cons (pg_name (i := 4) nd rfl (.inl rfl)) pgs_nil))))) <|
      pss_cons (ps_set (i := 5) nd rfl (.inl rfl) (pe_call DW.ok hr (by rfl) DW.mg DW.kp DW.bd .nil pass0 (pa_cons (pv 0) (pa_cons (pv 2) (pa_cons (pv 3) (pa_cons (pv 4) pa_nil)))))) <|
      pss_cons (ps_set (i := 6) nd rfl (.inr rfl) (pe_callB call_len_seq (by rfl) B.len PySem.boot_len (pa_cons (pv 2) pa_nil))) <|
      pss_cons (ps_set (i := 7) nd rfl (.inr rfl) (pe_call DD.ok hr1 (by rfl) DD.mg DD.kp DD.bd .nil pass0 (pa_cons (pv 0) (pa_cons (pv 6) pa_nil)))) <|
      pss_cons (ps_setLc (i := 5) (own := [("_law_start", 8), ("_law_end", 9), ("_law_stock", 10)]) (g := gTup K 3 (gCons (gName 8) (gCons (gName 9) (gCons (gName 10) gNil)))) (tt := tYes) (te := rotE) rfl nd rfl rfl (sw_true rfl rfl rfl (by decide +kernel)) (pi_list (pv 5)) (blkOk_by (N := nLParts) (sc := defScope sLParts) (own := [("_law_start", 8), ("_law_end", 9), ("_law_stock", 10)]) (by decide +kernel))
          (fun _ _ _ _ _ => pg_tup rfl (pgs_cons (pg_name (i := 8) nd rfl (.inl rfl)) (pgs_cons (pg_name (i := 9) nd rfl (.inl rfl)) (pgs_cons (pg_name (i := 10) nd rfl (.inl rfl)) pgs_nil)))) (fun _ _ _ _ _ => pts_nil)
          (fun _ _ _ _ _ => pe_tup (pa_cons (pe_op op_mod (pe_op op_sub (pv 8) (pv 7)) (pv 6)) (pa_cons (pe_op op_mod (pe_op op_sub (pv 9) (pv 7)) (pv 6)) (pa_cons (pv 10) pa_nil))))) <|
      Evl.pss_cut (ps_if (pt_cmpR op_eq (pe_call DD.ok hr1 (by rfl) DD.mg DD.kp DD.bd .nil pass0 (pa_cons (pv 0) (pa_cons pe_int pa_nil))) pe_int (nomark _)) (pss_one (ps_expr (pe_bm0 PySem.F.plainAttrs_list PySem.F.slot_list_reverse PySem.F.type_list_reverse mt_reverse (pv 5)))) pss_nil) <|
      pss_one <| ps_ret <| pe_tup <| pa_cons (pe_op op_cat (pe_slice sl_list (pv 2) (po_some (pv 7)) po_none) (pe_slice sl_list (pv 2) po_none (po_some (pv 7)))) <| pa_cons (pv 5) pa_nil, ?_⟩
    refine ⟨_, rfl, _, rfl, wl, m, rfl, hm0, hm1, hw, fun t1 lg0 gs a b H1 E1 et1 hlg0 G1 gsh hbm => ?_⟩
    refine ⟨t1, _, rfl, .inl (.inl et1), rfl, _, _, rfl, _, _, rfl, _, _, rfl, rfl, ?_⟩
    obtain ⟨gl1, gl2⟩ := gsh.len
    have ha2 := gsh.a2
    have hb1 := gsh.b1
    have hb2 := gsh.b2
    have nlg0 : lg0 ≠ wl := (hw.ne hlg0).symm
    refine ⟨_, rfl, _, rfl, _, rfl, _, rfl, wl, lg0, gs, a, b, rfl, E1.well, nlg0, G1, gsh, fun lw0 ws H2 E2 hlw0 W2 wi => ?_⟩
    have nlw0 : lw0 ≠ wl := (E1.well.ne hlw0).symm
    have D2 := E1.trans E2
    have G2 := G1.dr nlg0 E1.well E2
    have gne : gs ≠ [] := fun z => by
      rw [z] at gl1
      simp at gl1
    have N := wi.net gne (by omega) gsh.gok
    have hwl := wi.len
    obtain ⟨gv, hgv, ga⟩ := id G2
    have hlg : gv.length = gs.length := ga.1
    refine ⟨_, rfl, lg0, gv, rfl, .inl (SqL.of hgv), ?_⟩
    refine ⟨_, rfl, _, rfl, wl, _, rfl, by omega, by omega, E2.well, fun d H3 d0 d1 E3 => ?_⟩
    obtain ⟨t, rfl⟩ : ∃ t : Nat, d = (t : Int) := ⟨d.toNat, by omega⟩
    have ht : t < gs.length := by omega
    have D3 := D2.trans E3
    have hgv3 := E3.but _ _ nlg0 hgv
    have ga3 := ga.imp fun _ _ r => r.tk (TK.dr E2.well E3.but)
    obtain ⟨wv, hwv, wa⟩ := W2.dr nlw0 E2.well E3
    have hlw : wv.length = ws.length := wa.1
    refine gn_norm (σ' := [some (.ref wl), some (.int m), some (.ref lg0), some (.int (a : Nat)), some (.int (b : Nat)), some (.ref lw0), some (.int (gv.length : Nat)), some (.int (t : Nat)), none, none, none]) rfl ?_
    -- numbered anew
    refine ⟨_, rfl, lw0, rfl, ⟨_, SqL.of hwv⟩, fun lw hlw' => ?_⟩
    have nlw : lw ≠ wl := (E3.well.ne hlw').symm
    have hlwH : H lw = none := D3.free hw hlw'
    refine lc_list (K := K) (a := lw0) (xs := wv) (fun i Hc => ∃ acc, Hc lw = some (.lst acc) ∧ acc.length = i ∧ All2 (WireV K Hc) acc ((ws.take i).map fun x => ((rotL gs.length t).idxOf x.1, (rotL gs.length t).idxOf x.2.1, x.2.2)) ∧ Same H3 Hc) ⟨[], upd_same, rfl, by simpa using All2.nil, same_new hlw'⟩ (fun i Hc _ ⟨_, _, _, _, sm⟩ => SqL.of (sm _ _ hwv)) ?_ ?_
    · rintro i v Hc hv ⟨acc, hacc, hal, haa, sm⟩
      obtain ⟨x, hx, a', b', rfl, sq1, sq2⟩ := wa.get hv
      have hi : i < ws.length := (List.getElem?_eq_some_iff.mp hx).1
      have WX := N.wok x (List.mem_of_getElem? hx)
      have tk := TK.same sm
      refine ⟨a', _, rfl, tk.seq sq1, rfl, _, _, rfl, _, _, rfl, _, _, rfl, rfl, rfl, tyes ?_⟩
      refine ⟨_, rfl, _, rfl, _, _, rfl, rfl, _, rfl, _, _, rfl, rfl, (by show (0 : Int) < ((gv.length : Nat) : Int); omega), ?_⟩
      refine ⟨_, rfl, _, rfl, _, _, rfl, rfl, _, rfl, _, _, rfl, rfl, (by show (0 : Int) < ((gv.length : Nat) : Int); omega), _, rfl, (by show 3 ≤ sizeLine; decide), fun p hp => ?_⟩
      have sp : Same Hc (upd Hc p (.tup [.int ((((x.1 : Nat) : Int) - ((t : Nat) : Int)) % ((gv.length : Nat) : Int)), .int ((((x.2.1 : Nat) : Int) - ((t : Nat) : Int)) % ((gv.length : Nat) : Int)), .ref b'])) := same_new hp
      refine ⟨acc, sp _ _ hacc, small1000 (by omega), acc ++ [.ref p], upd_same, by simp [hal], ?_, same_mut (sm.trans sp) hlw'⟩
      rw [List.take_add_one, hx, List.map_append]
      refine All2.pushT (fun t r => WireV.tk t r) haa (sp _ _ hacc) (TK.same sp) ⟨p, b', rfl, .inl (.inl ?_), (TK.same (sm.trans sp)).seq sq2⟩
      rw [upd_same]
      show some (HO.tup [V.int _, V.int _, V.ref b']) = some (HO.tup [V.int _, V.int _, V.ref b'])
      rw [rot_idx ht WX.s, rot_idx ht WX.e, hlg]
    rintro H4 ⟨acc, hacc, hal, haa, s4⟩
    rw [hlw, List.take_length] at haa
    have D4 : Dr wl H H4 := D3.trans ⟨But.same s4, D3.well.same s4⟩
    have hne : ws ≠ [] := fun z => by
      have hk := (gsh.kind (i := a + b) (by omega)).2.2 (Nat.le_refl _)
      have := N.one (a + b) (by omega) hk
      rw [z] at this
      cases this
    have hinner : ∃ i, i < (gs.drop t ++ gs.take t).length ∧ kindAt (gs.drop t ++ gs.take t) i ≠ "in" ∧ kindAt (gs.drop t ++ gs.take t) i ≠ "out" := by
      have hk := (gsh.kind (i := a) (by omega)).2.1 (Nat.le_refl _) (by omega)
      have hmem : gs[a]'(by omega) ∈ gs.drop t ++ gs.take t := by
        have : gs[a]'(by omega) ∈ gs.take t ++ gs.drop t := by
          rw [List.take_append_drop]
          exact List.getElem_mem _
        rcases List.mem_append.mp this with h | h
        · exact List.mem_append.mpr (.inr h)
        · exact List.mem_append.mpr (.inl h)
      obtain ⟨i, hi⟩ := List.getElem?_of_mem hmem
      refine ⟨i, (List.getElem?_eq_some_iff.mp hi).1, ?_⟩
      rw [kindAt_get hi, ← kindAt_i]
      exact hk
    refine gn_norm (σ' := [some (.ref wl), some (.int m), some (.ref lg0), some (.int (a : Nat)), some (.int (b : Nat)), some (.ref lw), some (.int (gv.length : Nat)), some (.int (t : Nat)), none, none, none]) rfl ?_
    -- turned about, perhaps
    refine ⟨fun σ H' => ∃ (acc : List V) (us : List Wr), σ = [some (.ref wl), some (.int m), some (.ref lg0), some (.int (a : Nat)), some (.int (b : Nat)), some (.ref lw), some (.int (gv.length : Nat)), some (.int (t : Nat)), none, none, none] ∧ us.Perm ws ∧ H' lw = some (.lst acc) ∧ All2 (WireV K H') acc (us.map fun x => ((rotL gs.length t).idxOf x.1, (rotL gs.length t).idxOf x.2.1, x.2.2)) ∧ Dr wl H H' ∧ H' lg0 = some (.lst gv) ∧ All2 (GateV K H') gv gs, ?_, ?_⟩
    · refine ⟨_, rfl, wl, 2, rfl, by decide, by decide, D4.well, fun z H5 z0 z1 E5 => ?_⟩
      have D5 := D4.trans E5
      have h5 := E5.but _ _ nlw hacc
      have a5 := haa.imp fun _ _ r => r.tk (TK.dr D4.well E5.but)
      have g5 := E5.but _ _ nlg0 (s4 _ _ hgv3)
      have ga5 := (ga3.imp fun _ _ r => r.tk (TK.same s4)).imp fun _ _ r => r.tk (TK.dr D4.well E5.but)
      refine ⟨rfl, _, rfl, ite2 (fun e => ?_) (fun e => ⟨acc, ws, rfl, .refl _, h5, a5, D5, g5, ga5⟩)⟩
      have ngw : lg0 ≠ lw := ne_of_none hgv3 hlw'
      refine ⟨_, rfl, .inl ⟨rfl, _, SqL.of h5⟩, lw, _, rfl, rfl, h5, acc.reverse, ws.reverse, rfl, List.reverse_perm _, upd_same, ?_, set_well D5 hlwH nlw, by rw [upd_ne ngw]; exact g5, ga5.imp fun _ _ r => r.tk (TK.lst h5)⟩
      rw [List.map_reverse]
      exact (a5.imp fun _ _ r => r.tk (TK.lst h5)).reverse
    rintro σ H5 ⟨acc5, us, rfl, hp, hacc5, haa5, D5, hgv5, ga5⟩
    have NA := N.anew (rot_perm gs.length t) hp
    rw [rot_map] at NA
    refine ⟨_, rfl, _, rfl, _, rfl, lg0, gv, rfl, SqL.of hgv5, fun l6 hl6 => ?_⟩
    have s6 : Same H5 (upd H5 l6 (.lst (cutV gv (some ((t : Nat) : Int)) none))) := same_new hl6
    have el6 : (upd H5 l6 (.lst (cutV gv (some ((t : Nat) : Int)) none))) l6 = some (.lst (gv.drop t)) := by rw [upd_same, cut_from]
    generalize upd H5 l6 (.lst (cutV gv (some ((t : Nat) : Int)) none)) = H6 at s6 el6
    refine ⟨_, rfl, _, rfl, _, rfl, lg0, gv, rfl, SqL.of (s6 _ _ hgv5), fun l7 hl7 => ?_⟩
    have s7 : Same H6 (upd H6 l7 (.lst (cutV gv none (some ((t : Nat) : Int))))) := same_new hl7
    have el7 : (upd H6 l7 (.lst (cutV gv none (some ((t : Nat) : Int))))) l7 = some (.lst (gv.take t)) := by rw [upd_same, cut_to]
    generalize upd H6 l7 (.lst (cutV gv none (some ((t : Nat) : Int)))) = H7 at s7 el7
    refine ⟨l6, l7, _, _, rfl, rfl, s7 _ _ el6, el7, ?_, fun l8 hl8 => ?_⟩
    · rw [List.length_drop, List.length_take]
      exact Nat.le_of_lt (small1000 (by omega))
    have s8 : Same H7 (upd H7 l8 (.lst (gv.drop t ++ gv.take t))) := same_new hl8
    have el8 : (upd H7 l8 (.lst (gv.drop t ++ gv.take t))) l8 = some (.lst (gv.drop t ++ gv.take t)) := upd_same
    generalize upd H7 l8 (.lst (gv.drop t ++ gv.take t)) = H8 at s8 el8
    have t8 := s6.trans (s7.trans s8)
    have hl8H : H l8 = none := D5.free hw ((s6.trans s7).free hl8)
    have nl8 : l8 ≠ lw := fun z => by
      rw [z, (s6.trans s7) _ _ hacc5] at hl8
      cases hl8
    refine ⟨_, rfl, (by show 2 ≤ sizeLine; decide), fun p hp' => ?_⟩
    have s9 := t8.trans (same_new (o := .tup [.ref l8, .ref lw]) hp')
    have ga9 := ga5.imp fun _ _ r => r.tk (TK.same s9)
    have rl : ∀ x ∈ us.map (fun x : Wr => ((rotL gs.length t).idxOf x.1, (rotL gs.length t).idxOf x.2.1, x.2.2)), x.2.2.length ≤ 3 := fun y hy => by
      obtain ⟨x, hx, rfl⟩ := List.mem_map.mp hy
      exact wi.r2 x (hp.mem_iff.mp hx)
    have c3 := cnt_rot (t := t) hp (fun x hx => (N.wok x hx).e) wi.c3
    refine q _ _ l8 lw p _ NA ?_ ?_ ?_ ?_ rl ?_ ?_ c3 hinner (D5.trans ⟨But.same s9, D5.well.same s9⟩) hl8H hlwH nl8 ⟨_, same_new hp' _ _ el8, (ga9.drop t).append (ga9.take t)⟩ ⟨acc5, s9 _ _ hacc5, haa5.imp fun _ _ r => r.tk (TK.same s9)⟩ upd_same
    · rw [List.length_append, List.length_drop, List.length_take]
      omega
    · rw [List.length_append, List.length_drop, List.length_take]
      omega
    · have := nInn_rot gs t
      have := gsh.inn
      omega
    · rw [List.length_map, hp.length_eq, List.length_append, List.length_drop, List.length_take]
      omega
    · rw [List.length_map, hp.length_eq]
      omega
    · intro z
      have := List.map_eq_nil_iff.mp z
      rw [this] at hp
      exact hne hp.nil_eq.symm
end
end Lag

set_option maxRecDepth 100000
set_option maxHeartbeats 8000000
namespace Lag
open PySem PySem.Spec PyProof.Rows L2
theorem slA {K : PySem.W.Frag} {H : Hp} {a : Addr} {xs : List V} {lo hi : Option Int} {Q : VK} (sq : SqT K H a xs) (q : ∀ b H', Same H H' → SqT K H' b (cutV xs lo hi) → Q (.ref b) H') : rSlA K (.ref a) lo hi H Q := by
  refine ⟨a, xs, rfl, sq, fun z => q a H (Same.refl _) ?_, fun _ p hp => q p _ (same_new hp) (.inl (.inl upd_same))⟩
  unfold cutV
  rw [z.1, z.2, List.drop_zero, Nat.sub_zero, List.take_length]
  exact sq
/-! ### lists of tuples of numbers, as data; what moving keeps -/
def numsD (l : List Int) : PyData := .list (l.map PyData.int)
theorem numsD_eq (a b : List Int) : PyData.eqv (numsD a) (numsD b) = decide (a = b) := eqvAll_map (fun x y => intD_eq x y) a b
theorem sh_nums (l : List Int) : Sh 1 (numsD l) := by
  refine sh_list fun d hd => ?_
  obtain ⟨i, _, rfl⟩ := List.mem_map.mp hd
  exact sh_int _
theorem dp_nums {K : PySem.W.Frag} {H : Hp} {l : Addr} {xs : List Int} (h : SqL K H l (xs.map V.int)) : Dp K H (.ref l) (numsD xs) := .lst h (ints_dp xs)
theorem rep_flat' {α : Type} (n : Nat) (x : α) : (List.replicate n [x]).flatten = List.replicate n x := by
  induction n with
  | zero => rfl
  | succ n ih => rw [List.replicate_succ, List.flatten_cons, ih, List.replicate_succ]; rfl
theorem all2_rep' {α β : Type} {R : α → β → Prop} {x : α} {y : β} (h : R x y) : ∀ n, All2 R (List.replicate n x) (List.replicate n y)
  | 0 => All2.nil
  | n + 1 => All2.cons h (all2_rep' h n)
section
variable {K : PySem.W.Frag} {C : Addr} {H : Hp}
theorem net_in {Q : Addr → Hp → Prop} {lg lw : Addr} {gs : List Gt} {ws : List Wr} (R : RG K H lg gs) (R2 : RW K H lw ws) (N : NetOk gs ws)
    (q : ∀ p ng nw H', NetAt K C H' p ng nw gs ws → Same H H' → H p = none → H ng = none → H nw = none → Q p H') :
    ∀ x dx, H x = none → H dx = none → dx ≠ x → spInit K C (.ref x :: ([.ref lg, .ref lw] ++ [])) (upd (upd H dx (.own x)) x (.ins C dx [])) (fun v H' => v = .non ∧ Q x H') E0 := by
  intro x dx hx hdx ne
  have s0 : Same H (upd (upd H dx (.own x)) x (.ins C dx [])) := fun b o e => by
    rw [upd_ne (ne_of_none e hx), upd_ne (ne_of_none e hdx)]
    exact e
  refine ⟨x, dx, lg, lw, gs, ws, rfl, upd_same, R.same s0, R2.same s0, N, fun H' ng nw A h1 h2 k => ⟨rfl, ?_⟩⟩
  exact q x ng nw H' A (Same.made hx hdx k) hx (s0.free h1) (s0.free h2)
end
def tupD (l : List Int) : PyData := .tuple (l.map PyData.int)
theorem tupD_eq (a b : List Int) : PyData.eqv (tupD a) (tupD b) = decide (a = b) := eqvAll_map (fun x y => intD_eq x y) a b
theorem sh_tup (l : List Int) : Sh 1 (tupD l) := by
  refine sh_tuple fun d hd => ?_
  obtain ⟨i, _, rfl⟩ := List.mem_map.mp hd
  exact sh_int _
theorem dp_tup {K : PySem.W.Frag} {H : Hp} {l : Addr} {xs : List Int} (h : SqT K H l (xs.map V.int)) : Dp K H (.ref l) (tupD xs) := .tup h (ints_dp xs)
def tupsD (l : List (List Int)) : PyData := .list (l.map tupD)
theorem tupsD_eq (a b : List (List Int)) : PyData.eqv (tupsD a) (tupsD b) = decide (a = b) := eqvAll_map tupD_eq a b
theorem sh_tups (l : List (List Int)) : Sh 2 (tupsD l) := by
  refine sh_list fun d hd => ?_
  obtain ⟨i, _, rfl⟩ := List.mem_map.mp hd
  exact sh_tup i
/-- a tuple of numbers -/
def TupV (K : PySem.W.Frag) (H : Hp) (v : V) (xs : List Int) : Prop := ∃ a, v = .ref a ∧ SqT K H a (xs.map V.int)
theorem TupV.tk {K : PySem.W.Frag} {H H' : Hp} {v : V} {xs : List Int} (t : TK H H') (h : TupV K H v xs) : TupV K H' v xs := by
  obtain ⟨a, e, s⟩ := h
  exact ⟨a, e, t.seq s⟩
def TL (K : PySem.W.Frag) (H : Hp) (l : Addr) (xss : List (List Int)) : Prop := ∃ vs, H l = some (.lst vs) ∧ All2 (TupV K H) vs xss
theorem TL.same {K : PySem.W.Frag} {H H' : Hp} {l : Addr} {xss : List (List Int)} (h : TL K H l xss) (s : Same H H') : TL K H' l xss := by
  obtain ⟨vs, e, a⟩ := h
  exact ⟨vs, s _ _ e, a.imp fun _ _ r => r.tk (TK.same s)⟩
theorem TL.dp {K : PySem.W.Frag} {H : Hp} {l : Addr} {xss : List (List Int)} (h : TL K H l xss) : Dp K H (.ref l) (tupsD xss) := by
  obtain ⟨vs, e, a⟩ := h
  refine .lst (SqL.of e) (dp_all (fun v xs hv => ?_) a)
  obtain ⟨b, rfl, s⟩ := hv
  exact dp_tup s
def endsL (ws : List Wr) : List (Nat × Nat) := ws.map fun x => (x.1, x.2.1)
def regsL (ws : List Wr) : List Int := ws.map fun x => ((x.2.2.length : Nat) : Int)
/-- the ends, as tuples -/
def endsT (ws : List Wr) : List (List Int) := (endsL ws).map fun e => [((e.1 : Nat) : Int), ((e.2 : Nat) : Int)]
theorem endsT_take {ws : List Wr} {i : Nat} {x : Wr} (h : ws[i]? = some x) : endsT (ws.take (i + 1)) = endsT (ws.take i) ++ [[((x.1 : Nat) : Int), ((x.2.1 : Nat) : Int)]] := by
  unfold endsT endsL
  rw [List.take_add_one, h, List.map_append, List.map_append]
  rfl
theorem regsL_take {ws : List Wr} {i : Nat} {x : Wr} (h : ws[i]? = some x) : regsL (ws.take (i + 1)) = regsL (ws.take i) ++ [((x.2.2.length : Nat) : Int)] := by
  unfold regsL
  rw [List.take_add_one, h, List.map_append]
  rfl
theorem regsL_len (ws : List Wr) : (regsL ws).length = ws.length := List.length_map ..
theorem getD_at {ts : List Int} {g : Nat} (h : g < ts.length) : (ts.map V.int)[g]? = some (.int (ts.getD g 0)) := by
  rw [List.getElem?_map, List.getElem?_eq_getElem h, List.getD_eq_getElem?_getD, List.getElem?_eq_getElem h]
  rfl
end Lag

set_option maxRecDepth 100000
set_option maxHeartbeats 8000000
namespace Lag
open PySem PySem.Spec PyProof.Rows L2
/-! ### nets woven: a wire of all streams, and the wire in which they stand by turns -/
abbrev Fm := Nat × Nat × List (List Int)
def oneF (i : Nat) (f : Fm) : Wr := (f.1, f.2.1, f.2.2.getD i [])
def ilv (L : Nat) (xss : List (List Int)) : List Int := (List.range L).flatMap fun j => xss.map fun xs => xs.getD j 0
def wovF (f : Fm) : Wr := (f.1, f.2.1, ilv (f.2.2.headD []).length f.2.2)
/-- as many streams, of as many registers -/
structure FOk (k : Nat) (f : Fm) : Prop where
  k : f.2.2.length = k
  l : ∃ L, ∀ xs ∈ f.2.2, xs.length = L
theorem turn_by (y : Nat → Int) (R : Nat → List Int) : ∀ n, ((List.range n).flatMap fun j => y j :: R j) ++ [y n] = y 0 :: ((List.range n).flatMap fun j => R j ++ [y (j + 1)])
  | 0 => rfl
  | n + 1 => by
    rw [List.range_succ, List.flatMap_append, List.flatMap_append]
    have ih := turn_by y R n
    have h1 : ([n].flatMap fun j => y j :: R j) = y n :: R n := by simp
    have h2 : ([n].flatMap fun j => R j ++ [y (j + 1)]) = R n ++ [y (n + 1)] := by simp
    rw [h1, h2]
    have e : (List.range n).flatMap (fun j => y j :: R j) ++ (y n :: R n) ++ [y (n + 1)] = ((List.range n).flatMap (fun j => y j :: R j) ++ [y n]) ++ (R n ++ [y (n + 1)]) := by simp
    rw [e, ih]
    rfl
theorem flat_congr {f g : Nat → List Int} : ∀ n, (∀ j, j < n → f j = g j) → (List.range n).flatMap f = (List.range n).flatMap g
  | 0, _ => rfl
  | n + 1, h => by
    rw [List.range_succ, List.flatMap_append, List.flatMap_append, flat_congr n fun j hj => h j (by omega)]
    have : ([n].flatMap f) = [n].flatMap g := by simp [h n (by omega)]
    rw [this]
theorem ilv_rot {L : Nat} {a t : Int} {l : List Int} {r : List (List Int)} (hl : l.length = L) : ilv (L + 1) ((a :: l) :: r) ++ [t] = a :: ilv (L + 1) (r ++ [l ++ [t]]) := by
  have h := turn_by (fun j => ((a :: l) ++ [t]).getD j 0) (fun j => r.map fun xs => xs.getD j 0) (L + 1)
  have e0 : ((a :: l) ++ [t]).getD (L + 1) 0 = t := by
    rw [List.getD_eq_getElem?_getD, List.getElem?_append_right (by simp [hl])]
    simp [hl]
  have e1 : ((List.range (L + 1)).flatMap fun j => ((a :: l) ++ [t]).getD j 0 :: r.map fun xs => xs.getD j 0) = ilv (L + 1) ((a :: l) :: r) := by
    refine flat_congr _ fun j hj => ?_
    rw [List.map_cons]
    congr 1
    rw [List.getD_eq_getElem?_getD, List.getElem?_append_left (by simp [hl]; omega), ← List.getD_eq_getElem?_getD]
  have e2 : ((List.range (L + 1)).flatMap fun j => (r.map fun xs => xs.getD j 0) ++ [((a :: l) ++ [t]).getD (j + 1) 0]) = ilv (L + 1) (r ++ [l ++ [t]]) := by
    refine flat_congr _ fun j hj => ?_
    rw [List.map_append]
    rfl
  have h' : ((List.range (L + 1)).flatMap fun j => ((a :: l) ++ [t]).getD j 0 :: r.map fun xs => xs.getD j 0) ++ [((a :: l) ++ [t]).getD (L + 1) 0] = ((a :: l) ++ [t]).getD 0 0 :: ((List.range (L + 1)).flatMap fun j => (r.map fun xs => xs.getD j 0) ++ [((a :: l) ++ [t]).getD (j + 1) 0]) := h
  rw [e0, e1, e2] at h'
  exact h'
end Lag

set_option maxRecDepth 100000
set_option maxHeartbeats 8000000
namespace Lag
open PySem PySem.Spec PyProof.Rows L2
theorem ilv_len {L : Nat} (xss : List (List Int)) : (ilv L xss).length = L * xss.length := by
  unfold ilv
  induction L with
  | zero => simp
  | succ n ih =>
    rw [List.range_succ, List.flatMap_append, List.length_append, ih, Nat.add_mul, Nat.one_mul]
    simp
theorem ilv_mem {L : Nat} {xss : List (List Int)} {z : Int} (h : z ∈ ilv L xss) : ∃ xs ∈ xss, ∃ j, z = xs.getD j 0 := by
  obtain ⟨j, _, h⟩ := List.mem_flatMap.mp h
  obtain ⟨xs, hx, rfl⟩ := List.mem_map.mp h
  exact ⟨xs, hx, j, rfl⟩
/-- the woven net is one -/
theorem NetOk.woven {gs : List Gt} {F : List Fm} {k : Nat} (hk : 0 < k) (hk4 : k ≤ 4) (ok : ∀ f ∈ F, FOk k f) (N : ∀ i, i < k → NetOk gs (F.map (oneF i))) (hl : ∀ f ∈ F, ∀ xs ∈ f.2.2, xs.length ≤ 200) : NetOk gs (F.map wovF) := by
  have N0 := N 0 hk
  have c : ∀ e, cnt (F.map wovF) e = cnt (F.map (oneF 0)) e := fun e => by
    unfold cnt
    rw [List.countP_map, List.countP_map]
    rfl
  have hd : ∀ f ∈ F, f.2.2.headD [] = f.2.2.getD 0 [] := fun f _ => by
    cases f.2.2 <;> rfl
  obtain ⟨ρ, hρ⟩ := N0.rank
  refine ⟨N0.ne, N0.gl, by have := N0.wl; rw [List.length_map] at this ⊢; exact this, N0.gok, fun y hy => ?_, fun e he hk => by rw [c]; exact N0.one e he hk, fun e he hk => by rw [c]; exact N0.some e he hk, ρ, fun y hy h0 => ?_⟩
  · obtain ⟨f, hf, rfl⟩ := List.mem_map.mp hy
    have W := N0.wok (oneF 0 f) (List.mem_map.mpr ⟨f, hf, rfl⟩)
    have hkf := (ok f hf).k
    refine ⟨W.s, W.e, W.ks, W.ke, fun z hz => ?_, ?_⟩
    · obtain ⟨xs, hx, j, rfl⟩ := ilv_mem hz
      obtain ⟨i, hi⟩ := List.getElem?_of_mem hx
      have hik : i < k := by
        have := (List.getElem?_eq_some_iff.mp hi).1
        omega
      have Wi := (N i hik).wok (oneF i f) (List.mem_map.mpr ⟨f, hf, rfl⟩)
      have e : (oneF i f).2.2 = xs := by
        show f.2.2.getD i [] = xs
        rw [List.getD_eq_getElem?_getD, hi]
        rfl
      have hr := Wi.r
      rw [e] at hr
      rw [List.getD_eq_getElem?_getD]
      cases ej : xs[j]? with
      | none => exact ⟨by decide, by decide⟩
      | some z => exact hr z (List.mem_of_getElem? ej)
    · show (ilv _ f.2.2).length ≤ 900
      rw [ilv_len, hkf, hd f hf]
      have h2 : (f.2.2.getD 0 []).length ≤ 200 := by
        rw [List.getD_eq_getElem?_getD, List.getElem?_eq_getElem (by omega)]
        exact hl f hf _ (List.getElem_mem _)
      have := Nat.mul_le_mul h2 hk4
      omega
  · obtain ⟨f, hf, rfl⟩ := List.mem_map.mp hy
    have hkf := (ok f hf).k
    refine hρ (oneF 0 f) (List.mem_map.mpr ⟨f, hf, rfl⟩) ?_
    show f.2.2.getD 0 [] = []
    have h1 : (ilv (f.2.2.headD []).length f.2.2).length = 0 := by
      have : ilv (f.2.2.headD []).length f.2.2 = [] := h0
      rw [this]
      rfl
    rw [ilv_len, hkf, hd f hf] at h1
    rcases Nat.mul_eq_zero.mp h1 with h | h
    · exact List.length_eq_zero_iff.mp h
    · omega
end Lag

set_option maxRecDepth 100000
set_option maxHeartbeats 8000000
namespace Lag
open PySem PySem.Spec PyProof.Rows L2
abbrev sOneForm : Stmt := topS 28 -- @are_of_one_form
abbrev sAsMany : Stmt := topS 61 -- @have_as_many
abbrev sChkNets : Stmt := topS 60 -- @check_nets
/-- a net, told by its address -/
def NetV (K : PySem.W.Frag) (C : Addr) (H : Hp) (gs : List Gt) (v : V) (ws : List Wr) : Prop := ∃ p ng nw, v = .ref p ∧ NetAt K C H p ng nw gs ws
theorem NetV.same {K : PySem.W.Frag} {C : Addr} {H H' : Hp} {gs : List Gt} {v : V} {ws : List Wr} (h : NetV K C H gs v ws) (s : Same H H') : NetV K C H' gs v ws := by
  obtain ⟨p, ng, nw, e, n⟩ := h
  exact ⟨p, ng, nw, e, n.same s⟩
/-- a list of nets with the same gates -/
def NSL (K : PySem.W.Frag) (C : Addr) (H : Hp) (l : Addr) (gs : List Gt) (wss : List (List Wr)) : Prop := ∃ vs, H l = some (.lst vs) ∧ All2 (NetV K C H gs) vs wss
theorem NSL.same {K : PySem.W.Frag} {C l : Addr} {H H' : Hp} {gs : List Gt} {wss : List (List Wr)} (h : NSL K C H l gs wss) (s : Same H H') : NSL K C H' l gs wss := by
  obtain ⟨vs, e, a⟩ := h
  exact ⟨vs, s _ _ e, a.imp fun _ _ r => r.same s⟩
def spOneForm (K : PySem.W.Frag) (C : Addr) : Sp := fun vs H Q _ => ∃ (p ng nw p' ng' nw' : Addr) (gs : List Gt) (ws ws' : List Wr), vs = [.ref p, .ref p'] ∧ NetAt K C H p ng nw gs ws ∧ NetAt K C H p' ng' nw' gs ws' ∧ NetOk gs ws ∧ endsL ws = endsL ws' ∧ ∀ H', Same H H' → Q (.bl true) H'
def spAsMany (K : PySem.W.Frag) (C : Addr) : Sp := fun vs H Q _ => ∃ (p ng nw p' ng' nw' : Addr) (gs : List Gt) (ws ws' : List Wr), vs = [.ref p, .ref p'] ∧ NetAt K C H p ng nw gs ws ∧ NetAt K C H p' ng' nw' gs ws' ∧ NetOk gs ws ∧ regsL ws = regsL ws' ∧ ∀ H', Same H H' → Q (.bl true) H'
def spChkNets (K : PySem.W.Frag) (C : Addr) : Sp := fun vs H Q _ => ∃ (l : Addr) (gs : List Gt) (wss : List (List Wr)) (w0 : List Wr), vs = [.ref l] ∧ NSL K C H l gs wss ∧ wss[0]? = some w0 ∧ wss.length ≤ 4 ∧ (∀ ws ∈ wss, NetOk gs ws ∧ endsL ws = endsL w0 ∧ regsL ws = regsL w0) ∧ ∀ H', Same H H' → Q .non H'
section
variable {P : Program} {w : World} {K : PySem.W.Frag} {mg : Str → Option Value} {base : Heap}
abbrev nOneForm : List Str := ["net", "other", "wire"]
abbrev tCut22 (K : PySem.W.Frag) : TE := tSl (rSlA K) (tVar 2) tNoPart (tPart (tC (.int 2)))
theorem scOneForm : FnScope nOneForm ["net", "other"] (defScope sOneForm) := ⟨rfl, rfl, rfl, by decide +kernel, rfl, by decide +kernel, by decide +kernel⟩
abbrev DOneForm (P : Program) (w : World) (K : PySem.W.Frag) (mg : Str → Option Value) (base : Heap) (C : Addr) := Df P w K mg base 1 "are_of_one_form" ["net", "other"] (spOneForm K C)
theorem ok_oneForm {f C : Addr} {fd : FuncData} (F : Fun K "are_of_one_form" "are_of_one_form" sOneForm f fd) (hm : mg "are_of_one_form" = some (.ref f)) (T : NT K mg C) : DOneForm P w K mg base C f fd := by
  refine ⟨?_, hm, F.kp, F.binds fun _ _ _ _ _ _ us hl => match us, hl with | [_, _], _ => rfl⟩
  refine F.ok scOneForm (fun vs H Q E h => ?_) (fun cdv A outer s H vs Q E hr h => ?_)
  · obtain ⟨p, ng, nw, p', ng', nw', gs, ws, ws', rfl, _⟩ := h
    rfl
  · obtain ⟨p, ng, nw, p', ng', nw', gs, ws, ws', rfl, NA, NB, N, he, q⟩ := h
    have nd := scOneForm.nd
    refine ⟨_, pss_one <| ps_ret <| pe_and (pe_cmpR (op_eqD hr.units) (pe_fld (pv 0) rfl) (pe_fld (pv 1) rfl) (nomark _)) <| pe_one <| pe_cmpR (op_eqD hr.units)
      (pe_lc (own := [("wire", 2)]) (g := gName 2) (tt := tYes) (te := tCut22 K) rfl nd (pi_list (pe_fld (pv 0) rfl)) (blkOk_by (N := nOneForm) (sc := defScope sOneForm) (own := [("wire", 2)]) (by decide +kernel)) (fun _ _ _ _ _ => pg_name (i := 2) nd rfl (.inl rfl)) (fun _ _ _ _ _ => pts_nil) (fun _ _ _ _ _ => pe_slice sl_tupA (pv 2) po_none (po_some pe_int)))
      (pe_lc (own := [("wire", 2)]) (g := gName 2) (tt := tYes) (te := tCut22 K) rfl nd (pi_list (pe_fld (pv 1) rfl)) (blkOk_by (N := nOneForm) (sc := defScope sOneForm) (own := [("wire", 2)]) (by decide +kernel)) (fun _ _ _ _ _ => pg_name (i := 2) nd rfl (.inl rfl)) (fun _ _ _ _ _ => pts_nil) (fun _ _ _ _ _ => pe_slice sl_tupA (pv 2) po_none (po_some pe_int))) (nomark _), ?_⟩
    obtain ⟨dx, ob⟩ := id NA.ob
    obtain ⟨dx', ob'⟩ := id NB.ob
    have hwl := N.wl
    have hwl' : ws'.length = ws.length := by
      have := congrArg List.length he
      unfold endsL at this
      rw [List.length_map, List.length_map] at this
      exact this.symm
    refine ⟨_, rfl, p, C, dx, _, _, rfl, ob, T.cl, T.nG, nf_gates _ _, _, rfl, p', C, dx', _, _, rfl, ob', T.cl, T.nG, nf_gates _ _, _, _, NA.g.rg.dp, NB.g.rg.dp, (sh_gates N.gok).ok (by decide), (sh_gates N.gok).ok (by decide), true, ?_, iteT ?_⟩
    · rw [gatesD_eq, decide_eq_true rfl]
    obtain ⟨wv, hwv, wa⟩ := id NA.w
    refine ⟨_, rfl, p, C, dx, _, _, rfl, ob, T.cl, T.nW, nf_wires _ _, nw, rfl, ⟨_, SqL.of hwv⟩, fun D hD => ?_⟩
    refine lc_list (K := K) (a := nw) (xs := wv) (fun i Hc => ∃ acc, Hc D = some (.lst acc) ∧ acc.length = i ∧ All2 (TupV K Hc) acc (endsT (ws.take i)) ∧ Same H Hc) ⟨[], upd_same, rfl, All2.nil, same_new hD⟩ (fun i Hc _ ⟨_, _, _, _, sm⟩ => SqL.of (sm _ _ hwv)) ?_ ?_
    · rintro i v Hc hv ⟨acc, hc, hal, aa, sm⟩
      obtain ⟨x, hx, a, b, rfl, sq1, sq2⟩ := wa.get hv
      have hi : i < ws.length := (List.getElem?_eq_some_iff.mp hx).1
      refine ⟨rfl, tyes ?_⟩
      refine ⟨_, rfl, _, rfl, slA ((TK.same sm).seq sq1) fun c H' s' sc => ?_⟩
      refine ⟨acc, s' _ _ hc, small1000 (by omega), acc ++ [.ref c], upd_same, by rw [List.length_append, hal]; rfl, ?_, same_mut (sm.trans s') hD⟩
      rw [endsT_take hx]
      have t' := TK.lst (o := .lst (acc ++ [.ref c])) (s' _ _ hc)
      exact (aa.imp fun _ _ z => (z.tk (TK.same s')).tk t').snoc ⟨c, rfl, t'.seq sc⟩
    rintro H1 ⟨acc1, hc1, _, aa1, s1⟩
    rw [wa.1, List.take_length] at aa1
    have K1 : TL K H1 D (endsT ws) := ⟨_, hc1, aa1⟩
    have NB1 := NB.same s1
    obtain ⟨dx1, ob1⟩ := id NB1.ob
    obtain ⟨wv1, hwv1, wa1⟩ := id NB1.w
    refine ⟨_, rfl, p', C, dx1, _, _, rfl, ob1, T.cl, T.nW, nf_wires _ _, nw', rfl, ⟨_, SqL.of hwv1⟩, fun D2 hD2 => ?_⟩
    refine lc_list (K := K) (a := nw') (xs := wv1) (fun i Hc => ∃ acc, Hc D2 = some (.lst acc) ∧ acc.length = i ∧ All2 (TupV K Hc) acc (endsT (ws'.take i)) ∧ Same H1 Hc) ⟨[], upd_same, rfl, All2.nil, same_new hD2⟩ (fun i Hc _ ⟨_, _, _, _, sm⟩ => SqL.of (sm _ _ hwv1)) ?_ ?_
    · rintro i v Hc hv ⟨acc, hc, hal, aa, sm⟩
      obtain ⟨x, hx, a, b, rfl, sq1, sq2⟩ := wa1.get hv
      have hi : i < ws'.length := (List.getElem?_eq_some_iff.mp hx).1
      refine ⟨rfl, tyes ?_⟩
      refine ⟨_, rfl, _, rfl, slA ((TK.same sm).seq sq1) fun c H' s' sc => ?_⟩
      refine ⟨acc, s' _ _ hc, small1000 (by omega), acc ++ [.ref c], upd_same, by rw [List.length_append, hal]; rfl, ?_, same_mut (sm.trans s') hD2⟩
      rw [endsT_take hx]
      have t' := TK.lst (o := .lst (acc ++ [.ref c])) (s' _ _ hc)
      exact (aa.imp fun _ _ z => (z.tk (TK.same s')).tk t').snoc ⟨c, rfl, t'.seq sc⟩
    rintro H2 ⟨acc2, hc2, _, aa2, s2⟩
    rw [wa1.1, List.take_length] at aa2
    have K2 : TL K H2 D2 (endsT ws') := ⟨_, hc2, aa2⟩
    refine ⟨_, _, (K1.same s2).dp, K2.dp, Sh.ok (sh_tups _) (by decide), Sh.ok (sh_tups _) (by decide), ?_⟩
    have et : endsT ws = endsT ws' := by
      unfold endsT
      rw [he]
    rw [tupsD_eq, decide_eq_true et]
    exact q H2 (s1.trans s2)
abbrev nAsMany : List Str := ["net", "other", "wire"]
abbrev tLen2 (K : PySem.W.Frag) : TE := tCB (Evl.rLenS K) (tCons (tOp (rIxT K) (tVar 2) (tC (.int 2))) tNil)
theorem scAsMany : FnScope nAsMany ["net", "other"] (defScope sAsMany) := ⟨rfl, rfl, rfl, by decide +kernel, rfl, by decide +kernel, by decide +kernel⟩
abbrev DAsMany (P : Program) (w : World) (K : PySem.W.Frag) (mg : Str → Option Value) (base : Heap) (C : Addr) := Df P w K mg base 1 "have_as_many" ["net", "other"] (spAsMany K C)
theorem ok_asMany {f C : Addr} {fd : FuncData} (F : Fun K "have_as_many" "have_as_many" sAsMany f fd) (hm : mg "have_as_many" = some (.ref f)) (B : Bt mg) (T : NT K mg C) : DAsMany P w K mg base C f fd := by
  refine ⟨?_, hm, F.kp, F.binds fun _ _ _ _ _ _ us hl => match us, hl with | [_, _], _ => rfl⟩
  refine F.ok scAsMany (fun vs H Q E h => ?_) (fun cdv A outer s H vs Q E hr h => ?_)
  · obtain ⟨p, ng, nw, p', ng', nw', gs, ws, ws', rfl, _⟩ := h
    rfl
  · obtain ⟨p, ng, nw, p', ng', nw', gs, ws, ws', rfl, NA, NB, N, he, q⟩ := h
    have nd := scAsMany.nd
    refine ⟨_, pss_one <| ps_ret <| pe_cmpR (op_eqD hr.units)
      (pe_lc (own := [("wire", 2)]) (g := gName 2) (tt := tYes) (te := tLen2 K) rfl nd (pi_list (pe_fld (pv 0) rfl)) (blkOk_by (N := nAsMany) (sc := defScope sAsMany) (own := [("wire", 2)]) (by decide +kernel)) (fun _ _ _ _ _ => pg_name (i := 2) nd rfl (.inl rfl)) (fun _ _ _ _ _ => pts_nil) (fun _ _ _ _ _ => pe_callB call_len_seq (by rfl) B.len PySem.boot_len (pa_cons (pe_ix ix_tup (pv 2) pe_int (fun _ _ => rfl)) pa_nil)))
      (pe_lc (own := [("wire", 2)]) (g := gName 2) (tt := tYes) (te := tLen2 K) rfl nd (pi_list (pe_fld (pv 1) rfl)) (blkOk_by (N := nAsMany) (sc := defScope sAsMany) (own := [("wire", 2)]) (by decide +kernel)) (fun _ _ _ _ _ => pg_name (i := 2) nd rfl (.inl rfl)) (fun _ _ _ _ _ => pts_nil) (fun _ _ _ _ _ => pe_callB call_len_seq (by rfl) B.len PySem.boot_len (pa_cons (pe_ix ix_tup (pv 2) pe_int (fun _ _ => rfl)) pa_nil))) (nomark _), ?_⟩
    obtain ⟨dx, ob⟩ := id NA.ob
    have hwl := N.wl
    have hwl' : ws'.length = ws.length := by
      have := congrArg List.length he
      rw [regsL_len, regsL_len] at this
      exact this.symm
    obtain ⟨wv, hwv, wa⟩ := id NA.w
    refine ⟨_, rfl, p, C, dx, _, _, rfl, ob, T.cl, T.nW, nf_wires _ _, nw, rfl, ⟨_, SqL.of hwv⟩, fun D hD => ?_⟩
    refine lc_list (K := K) (a := nw) (xs := wv) (fun i Hc => Hc D = some (.lst ((regsL (ws.take i)).map V.int)) ∧ Same H Hc) ⟨by rw [upd_same]; rfl, same_new hD⟩ (fun i Hc _ ⟨_, sm⟩ => SqL.of (sm _ _ hwv)) ?_ ?_
    · rintro i v Hc hv ⟨hc, sm⟩
      obtain ⟨x, hx, a, b, rfl, sq1, sq2⟩ := wa.get hv
      have hi : i < ws.length := (List.getElem?_eq_some_iff.mp hx).1
      have tk := TK.same sm
      refine ⟨rfl, tyes ?_⟩
      refine ⟨_, rfl, a, _, _, .ref b, rfl, rfl, tk.seq sq1, atI_nat (j := 2) rfl, b, _, rfl, .inr (tk.seq sq2), _, hc, ?_, ?_, same_mut sm hD⟩
      · rw [List.length_map, regsL_len, List.length_take]
        exact small1000 (by omega)
      · rw [upd_same, regsL_take hx, List.map_append, List.length_map]
        rfl
    rintro H1 ⟨hc1, s1⟩
    rw [wa.1, List.take_length] at hc1
    have NB1 := NB.same s1
    obtain ⟨dx1, ob1⟩ := id NB1.ob
    obtain ⟨wv1, hwv1, wa1⟩ := id NB1.w
    refine ⟨_, rfl, p', C, dx1, _, _, rfl, ob1, T.cl, T.nW, nf_wires _ _, nw', rfl, ⟨_, SqL.of hwv1⟩, fun D2 hD2 => ?_⟩
    refine lc_list (K := K) (a := nw') (xs := wv1) (fun i Hc => Hc D2 = some (.lst ((regsL (ws'.take i)).map V.int)) ∧ Same H1 Hc) ⟨by rw [upd_same]; rfl, same_new hD2⟩ (fun i Hc _ ⟨_, sm⟩ => SqL.of (sm _ _ hwv1)) ?_ ?_
    · rintro i v Hc hv ⟨hc, sm⟩
      obtain ⟨x, hx, a, b, rfl, sq1, sq2⟩ := wa1.get hv
      have hi : i < ws'.length := (List.getElem?_eq_some_iff.mp hx).1
      have tk := TK.same sm
      refine ⟨rfl, tyes ?_⟩
      refine ⟨_, rfl, a, _, _, .ref b, rfl, rfl, tk.seq sq1, atI_nat (j := 2) rfl, b, _, rfl, .inr (tk.seq sq2), _, hc, ?_, ?_, same_mut sm hD2⟩
      · rw [List.length_map, regsL_len, List.length_take]
        exact small1000 (by omega)
      · rw [upd_same, regsL_take hx, List.map_append, List.length_map]
        rfl
    rintro H2 ⟨hc2, s2⟩
    rw [wa1.1, List.take_length] at hc2
    refine ⟨_, _, dp_nums (SqL.of (s2 _ _ hc1)), dp_nums (SqL.of hc2), Sh.ok (sh_nums _) (by decide), Sh.ok (sh_nums _) (by decide), ?_⟩
    rw [numsD_eq, decide_eq_true he]
    exact q H2 (s1.trans s2)
abbrev nChkNets : List Str := ["nets", "thing", "net"]
theorem scChkNets : FnScope nChkNets ["nets"] (defScope sChkNets) := ⟨rfl, rfl, rfl, by decide +kernel, rfl, by decide +kernel, by decide +kernel⟩
abbrev DChkNets (P : Program) (w : World) (K : PySem.W.Frag) (mg : Str → Option Value) (base : Heap) (C : Addr) := Df P w K mg base 2 "check_nets" ["nets"] (spChkNets K C)
theorem ok_chkNets {f fO fA C : Addr} {fd fdO fdA : FuncData} (F : Fun K "check_nets" "check_nets" sChkNets f fd) (hm : mg "check_nets" = some (.ref f)) (B : Bt mg) (T : NT K mg C) (Y : NTy K C) (mo : ∃ t, mg "MOST_STREAMS" = some (.int 4 t)) (DO : DOneForm P w K mg base C fO fdO) (DA : DAsMany P w K mg base C fA fdA) : DChkNets P w K mg base C f fd := by
  obtain ⟨tm, hmo⟩ := mo
  refine ⟨?_, hm, F.kp, F.binds fun _ _ _ _ _ _ us hl => match us, hl with | [_], _ => rfl⟩
  refine F.ok scChkNets (fun vs H Q E h => ?_) (fun cdv A outer s H vs Q E hr h => ?_)
  · obtain ⟨l, gs, wss, w0, rfl, _⟩ := h
    rfl
  · obtain ⟨l, gs, wss, w0, rfl, NS, h0, h4, hok, q⟩ := h
    have nd := scChkNets.nd
    refine ⟨_, pss_cons (ps_if (PW.pt (pw_or (pt_not (pt_val (pe_callB call_isi (by rfl) B.isi (by decide +kernel) (pa_cons (pv 0) (pa_cons (pe_bltn (v := .ty "list") (by rfl) B.list (by decide +kernel) rfl) pa_nil))))) (pw_or1 (pt_not (pt_chain op_le op_le pe_int (pe_callB call_len_seq (by rfl) B.len PySem.boot_len (pa_cons (pv 0) pa_nil)) (pe_glob (v := .int 4) (by rfl) hmo ⟨_, rfl⟩)))))) (pss_one ps_never) pss_nil) <|
      pss_cons (ps_if (pt_not (pt_val (pe_callB (cr_all rfl) (by rfl) B.all (by decide +kernel) <| (pa_cons · pa_nil) <| pe_lc (own := [("thing", 1)]) (g := gName 1) (tt := tYes) (te := tCB (rIsi K) (tCons (tVar 1) (tCons (tC (.ref C)) tNil))) rfl nd (pi_list (pv 0)) (blkOk_by (N := nChkNets) (sc := defScope sChkNets) (own := [("thing", 1)]) (by decide +kernel))
          (fun _ _ _ _ _ => pg_name (i := 1) nd rfl (.inl rfl)) (fun _ _ _ _ _ => pts_nil) (fun _ _ _ _ _ => pe_callB call_isi (by rfl) B.isi (by decide +kernel) (pa_cons (pv 1) (pa_cons (pe_glob (v := .ref C) (by rfl) T.mg rfl) pa_nil)))))) (pss_one ps_never) pss_nil) <|
      pss_one <| ps_for PassesOwn.never rfl (pi_list (pv 0)) (pg_name (i := 2) nd rfl (.inl rfl)) <|
        pss_one <| ps_if (PW.pt (pw_or (pt_not (pt_val (pe_call DO.ok hr (by rfl) DO.mg DO.kp DO.bd .nil pass0 (pa_cons (pv 2) (pa_cons (pe_ix ix_list (pv 0) pe_int (fun _ _ => rfl)) pa_nil))))) (pw_or1 (pt_not (pt_val (pe_call DA.ok hr (by rfl) DA.mg DA.kp DA.bd .nil pass0 (pa_cons (pv 2) (pa_cons (pe_ix ix_list (pv 0) pe_int (fun _ _ => rfl)) pa_nil)))))))) (pss_one ps_never) pss_nil, ?_⟩
    obtain ⟨nv, hnv, na⟩ := id NS
    have hnl : nv.length = wss.length := na.1
    have hpos : 0 < wss.length := (List.getElem?_eq_some_iff.mp h0).1
    refine ⟨_, rfl, _, _, _, _, true, rfl, .ty "list", ty_lst (SqL.of hnv), kit_ty (by decide +kernel), true, rfl, iteF ?_⟩
    refine ⟨_, rfl, l, _, rfl, .inl (SqL.of hnv), _, _, rfl, rfl, true, ?_, iteT ⟨_, _, rfl, rfl, true, ?_, iteF ?_⟩⟩
    · show V.bl (decide ((1 : Int) ≤ ((nv.length : Nat) : Int))) = V.bl true
      rw [decide_eq_true (by omega)]
    · show V.bl (decide (((nv.length : Nat) : Int) ≤ 4)) = V.bl true
      rw [decide_eq_true (by omega)]
    refine ⟨_, rfl, l, rfl, ⟨_, SqL.of hnv⟩, fun D hD => ?_⟩
    refine lc_list (K := K) (a := l) (xs := nv) (fun i Hc => Hc D = some (.lst ((List.replicate i true).map V.bl)) ∧ Same H Hc) ⟨upd_same, same_new hD⟩ (fun i Hc _ ⟨_, sm⟩ => SqL.of (sm _ _ hnv)) ?_ ?_
    · rintro i v Hc hv ⟨hc, sm⟩
      obtain ⟨ws, hws, p, ng, nw, rfl, NA⟩ := na.get hv
      have hi : i < wss.length := (List.getElem?_eq_some_iff.mp hws).1
      obtain ⟨dx, ob⟩ := id (NA.same sm).ob
      refine ⟨rfl, tyes ?_⟩
      refine ⟨_, rfl, _, _, _, _, true, rfl, .own C, .base (ty_net T Y ob), kit_self C, _, hc, by rw [List.length_map, List.length_replicate]; exact small1000 (by omega), ?_, same_mut sm hD⟩
      rw [upd_same, List.replicate_succ', List.map_append]
      rfl
    rintro H1 ⟨hc1, s1⟩
    refine ⟨D, _, rfl, SqL.of hc1, true, ?_, iteF ?_⟩
    · have e : (List.replicate nv.length true).all id = true := by
        rw [List.all_eq_true]
        intro y hy
        rw [List.mem_replicate] at hy
        rw [hy.2]
        rfl
      rw [e]
    refine ⟨_, rfl, l, rfl, ⟨_, SqL.of (s1 _ _ hnv)⟩, for_list (K := K) (a := l) (xs := nv) (fun i σ Hc => ∃ (s2 : Option V), σ = [some (.ref l), none, s2] ∧ Same H Hc) ⟨_, rfl, s1⟩ (fun i σ Hc _ ⟨_, _, sm⟩ => SqL.of (sm _ _ hnv)) ?_ ?_⟩
    · rintro i v σ Hc hv ⟨s2, rfl, sm⟩
      obtain ⟨ws, hws, p, ng, nw, rfl, NA⟩ := na.get hv
      obtain ⟨v0, hv0, p0, ng0, nw0, rfl, NA0⟩ := na.getR h0
      obtain ⟨N, h1, h2⟩ := hok ws (List.mem_of_getElem? hws)
      refine gn_norm (σ' := [some (.ref l), none, some (.ref p)]) rfl ?_
      refine ⟨_, rfl, _, rfl, l, _, _, .ref p0, rfl, rfl, SqL.of (sm _ _ hnv), atI_nat (j := 0) hv0, p, ng, nw, p0, ng0, nw0, gs, ws, w0, rfl, NA.same sm, NA0.same sm, N, h1, fun H3 s3 => ⟨true, rfl, iteF ?_⟩⟩
      have sm3 := sm.trans s3
      exact ⟨_, rfl, _, rfl, l, _, _, .ref p0, rfl, rfl, SqL.of (sm3 _ _ hnv), atI_nat (j := 0) hv0, p, ng, nw, p0, ng0, nw0, gs, ws, w0, rfl, NA.same sm3, NA0.same sm3, N, h2, fun H4 s4 => ⟨true, rfl, iteF ⟨_, rfl, sm3.trans s4⟩⟩⟩
    · rintro σ Hc ⟨s2, rfl, sm⟩
      exact q Hc sm
end
end Lag

set_option maxRecDepth 100000
set_option maxHeartbeats 8000000
namespace Lag
open PySem PySem.Spec PyProof.Rows L2
abbrev sWovenW : Stmt := topS 62 -- @woven_wire
abbrev sWoven : Stmt := topS 59 -- @woven
/-- any loop over a walk, its turn told by Bd -/
theorem walk_go {J : It} {n : Nat} {G : Hp → Prop} {Y : Nat → Hp → V → Hp → Prop} (w : Walk J n G Y) {Bd : (Hp → Prop) → V → Hp → Prop} {Qd : Hp → Prop} {H0 : Hp} (Pv : Nat → Hp → Prop) (h0 : Pv 0 H0) (hG : ∀ i H, i ≤ n → Pv i H → G H)
    (hs : ∀ i x H H', i < n → Pv i H → Y i H x H' → Bd (Pv (i + 1)) x H') (hd : ∀ H, Pv n H → Qd H) :
    ∃ W : Nat → Nat → Hp → Prop, (∃ m, W 0 m H0) ∧ ∀ i m H, W i m H → (J.stop i H ∧ Qd H) ∨ (J.go i H ∧ ∃ Nx : Hp → Prop, (∀ H', Nx H' → ∃ m', m' < m ∧ W (i + 1) m' H') ∧ ∀ x H', J.yld i H x H' → Bd Nx x H') := by
  refine ⟨fun i m H => m = n - i ∧ i ≤ n ∧ Pv i H, ⟨n, by simp, Nat.zero_le _, h0⟩, ?_⟩
  rintro i m H ⟨rfl, hi, p⟩
  have q := hG i H hi p
  by_cases hlt : i < n
  · exact .inr ⟨w.goes i H hlt q, Pv (i + 1), fun H' p' => ⟨n - (i + 1), by omega, rfl, hlt, p'⟩, fun x H' y => hs i x H H' hlt p (w.yields i H x H' hlt q y)⟩
  · have e : i = n := by omega
    subst e
    exact .inl ⟨w.stops H q, hd H p⟩
/-- these nets are the streams of a family -/
structure Fam (gs : List Gt) (F : List Fm) (k : Nat) (wss : List (List Wr)) : Prop where
  pos : 0 < k
  k4 : k ≤ 4
  len : wss.length = k
  ok : ∀ f ∈ F, FOk k f
  one : ∀ (i : Nat) ws, wss[i]? = some ws → ws = F.map (oneF i)
  net : ∀ ws ∈ wss, NetOk gs ws
  l : ∀ f ∈ F, ∀ xs ∈ f.2.2, xs.length ≤ 200
theorem ilv_succ (n : Nat) (xss : List (List Int)) : ilv (n + 1) xss = ilv n xss ++ xss.map fun xs => xs.getD n 0 := by
  unfold ilv
  rw [List.range_succ, List.flatMap_append]
  simp
def spWovenW (K : PySem.W.Frag) (C : Addr) : Sp := fun vs H Q _ => ∃ (l : Addr) (j k : Nat) (gs : List Gt) (F : List Fm) (wss : List (List Wr)) (f : Fm), vs = [.ref l, .int (j : Nat)] ∧ NSL K C H l gs wss ∧ Fam gs F k wss ∧ F[j]? = some f ∧ ∀ t H', Same H H' → WireV K H' (.ref t) (wovF f) → Q (.ref t) H'
section
variable {P : Program} {w : World} {K : PySem.W.Frag} {mg : Str → Option Value} {base : Heap}
abbrev nWovenW : List Str := ["nets", "place", "start", "end", "held", "k", "net"]
theorem scWovenW : FnScope nWovenW ["nets", "place"] (defScope sWovenW) := ⟨rfl, rfl, rfl, by decide +kernel, rfl, by decide +kernel, by decide +kernel⟩
abbrev DWovenW (P : Program) (w : World) (K : PySem.W.Frag) (mg : Str → Option Value) (base : Heap) (C : Addr) := Df P w K mg base 1 "woven_wire" ["nets", "place"] (spWovenW K C)
theorem ok_wovenW {f C : Addr} {fd : FuncData} (F : Fun K "woven_wire" "woven_wire" sWovenW f fd) (hm : mg "woven_wire" = some (.ref f)) (B : Bt mg) (T : NT K mg C) : DWovenW P w K mg base C f fd := by
  refine ⟨?_, hm, F.kp, F.binds fun _ _ _ _ _ _ us hl => match us, hl with | [_, _], _ => rfl⟩
  refine F.ok scWovenW (fun vs H Q E h => ?_) (fun cdv A outer s H vs Q E hr h => ?_)
  · obtain ⟨l, j, k, gs, F, wss, f, rfl, _⟩ := h
    rfl
  · obtain ⟨l, j, k, gs, Fs, wss, fm, rfl, NS, Fa, hf, q⟩ := h
    have nd := scWovenW.nd
    refine ⟨_, pss_cons (ps_asg (pe_ix ix_list (pe_fld (pe_ix ix_list (pv 0) pe_int (fun _ _ => rfl)) rfl) (pv 1) (fun _ _ => rfl)) (pg_tup (by rfl) (pgs_cons (pg_name (i := 2) nd rfl (.inl rfl)) (pgs_cons (pg_name (i := 3) nd rfl (.inl rfl)) (pgs_cons (pg_name (i := 4) nd rfl (.inl rfl)) pgs_nil))))) <|
      pss_one <| ps_ret <| pe_tup <| pa_cons (pv 2) <| pa_cons (pv 3) <| (pa_cons · pa_nil) <| pe_callTy call_tuple_of (by rfl) B.tuple (by decide +kernel) <| (pa_cons · pa_nil) <|
        pe_lc2 (own := [("k", 5), ("net", 6)]) (vs1 := [6]) (g := gName 5) (tt := tYes) (wi1 := iList K (tVar 0)) (g1 := gName 6) (tt1 := tYes) (te := tOp (rIxT K) (tOp (rIxT K) (tOp (rIxL K) (tFld K (tVar 6) "wires") (tVar 1)) (tC (.int 2))) (tVar 5)) rfl nd (pi_range1 (by rfl) B.range (pa_cons (pe_callB call_len_seq (by rfl) B.len PySem.boot_len (pa_cons (pv 4) pa_nil)) pa_nil)) (blkOk_by (N := nWovenW) (sc := defScope sWovenW) (own := [("k", 5), ("net", 6)]) (by decide +kernel)) (by decide)
          (fun _ _ _ _ _ => pg_name (i := 5) nd rfl (.inl rfl)) (fun _ _ _ _ _ => pts_nil) (fun _ _ _ _ _ => pi_list (pv 0)) (fun _ _ _ _ _ => pg_name (i := 6) nd rfl (.inl rfl)) (fun _ _ _ _ _ => pts_nil)
          (fun _ _ _ _ _ => pe_ix ix_tup (pe_ix ix_tup (pe_ix ix_list (pe_fld (pv 6) rfl) (pv 1) (fun _ _ => rfl)) pe_int (fun _ _ => rfl)) (pv 5) (fun _ _ => rfl)), ?_⟩
    obtain ⟨nv, hnv, na⟩ := id NS
    have hnl : nv.length = k := by rw [na.1, Fa.len]
    have hjF : j < Fs.length := (List.getElem?_eq_some_iff.mp hf).1
    have fok := Fa.ok fm (List.mem_of_getElem? hf)
    have fl := Fa.l fm (List.mem_of_getElem? hf)
    have hfk := fok.k
    obtain ⟨L, hL⟩ := fok.l
    -- a stream's wire
    have wire : ∀ (i : Nat) ws, wss[i]? = some ws → ws[j]? = some (oneF i fm) := fun i ws h => by
      rw [Fa.one i ws h, List.getElem?_map, hf]
      rfl
    obtain ⟨w0, hw0⟩ : ∃ w0, wss[0]? = some w0 := ⟨_, List.getElem?_eq_getElem (by rw [Fa.len]; exact Fa.pos)⟩
    obtain ⟨v0, hv0, p0, ng0, nw0, rfl, NA0⟩ := na.getR hw0
    obtain ⟨dx0, ob0⟩ := id NA0.ob
    obtain ⟨wv0, hwv0, wa0⟩ := id NA0.w
    obtain ⟨x0, hx0, a0, b0, rfl, sq0, sr0⟩ := wa0.getR (wire 0 w0 hw0)
    have hlen0 : (oneF 0 fm).2.2.length = L := by
      show (fm.2.2.getD 0 []).length = L
      rw [List.getD_eq_getElem?_getD, List.getElem?_eq_getElem (by rw [hfk]; exact Fa.pos)]
      exact hL _ (List.getElem_mem _)
    have hL200 : L ≤ 200 := by
      have := fl (fm.2.2[0]'(by rw [hfk]; exact Fa.pos)) (List.getElem_mem _)
      rw [hL _ (List.getElem_mem _)] at this
      exact this
    refine ⟨_, rfl, l, _, _, .ref p0, rfl, rfl, SqL.of hnv, atI_nat (j := 0) hv0, p0, C, dx0, _, _, rfl, ob0, T.cl, T.nW, nf_wires _ _, _, rfl, nw0, _, _, .ref a0, rfl, rfl, SqL.of hwv0, atI_nat hx0, a0, _, rfl, sq0, rfl, _, _, rfl, _, _, rfl, _, _, rfl, rfl, ?_⟩
    refine gn_norm (σ' := [some (.ref l), some (.int (j : Nat)), some (.int (fm.1 : Nat)), some (.int (fm.2.1 : Nat)), some (.ref b0), none, none]) rfl ?_
    have h4 := Fa.k4
    refine ⟨_, rfl, _, rfl, _, rfl, b0, _, rfl, .inr sr0, _, rfl, by rw [List.length_map]; omega, by rw [List.length_map, hlen0]; omega, fun D hD => ?_⟩
    rw [Int.toNat_natCast, List.length_map, hlen0]
    refine walk_go (walk_range (lo := 0) (n := L)) (fun i Hc => Hc D = some (.lst ((ilv i fm.2.2).map V.int)) ∧ Same H Hc) ⟨upd_same, same_new hD⟩ (fun _ _ _ _ => trivial) ?_ ?_
    · rintro i x Hc Hc' hi ⟨hc, sm⟩ ⟨rfl, rfl⟩
      refine ⟨rfl, tyes ?_⟩
      refine ⟨_, rfl, l, rfl, ⟨_, SqL.of (sm _ _ hnv)⟩, ?_⟩
      refine walk_go (walk_list (K := K) (a := l) (xs := nv)) (fun m Hd => Hd D = some (.lst ((ilv i fm.2.2 ++ (fm.2.2.take m).map fun xs => xs.getD i 0).map V.int)) ∧ Same H Hd) ⟨by rw [hc, List.take_zero, List.map_nil, List.append_nil], sm⟩ (fun m Hd _ ⟨_, sm⟩ => SqL.of (sm _ _ hnv)) ?_ ?_
      · rintro m y Hd Hd' hm' ⟨hcd, smd⟩ ⟨rfl, hy⟩
        obtain ⟨ws, hws, p, ng, nw, rfl, NA⟩ := na.get hy
        obtain ⟨dx, ob⟩ := id (NA.same smd).ob
        obtain ⟨wv, hwv, wa⟩ := id (NA.same smd).w
        obtain ⟨x, hx, a, b, rfl, sq, sr⟩ := wa.getR (wire m ws hws)
        have hmk : m < fm.2.2.length := by
          rw [hfk, ← hnl]
          exact hm'
        have hxs : fm.2.2.getD m [] = fm.2.2[m] := by
          rw [List.getD_eq_getElem?_getD, List.getElem?_eq_getElem hmk]
          rfl
        have hlm : ((oneF m fm).2.2).length = L := by
          show (fm.2.2.getD m []).length = L
          rw [hxs]
          exact hL _ (List.getElem_mem _)
        refine ⟨rfl, tyes ?_⟩
        refine ⟨_, rfl, p, C, dx, _, _, rfl, ob, T.cl, T.nW, nf_wires _ _, _, rfl, nw, _, _, .ref a, rfl, rfl, SqL.of hwv, atI_nat hx, a, _, _, .ref b, rfl, rfl, sq, atI_nat (j := 2) rfl, _, rfl, b, _, _, .int ((fm.2.2.getD m []).getD i 0), rfl, rfl, sr, ?_, _, hcd, ?_, ?_, same_mut smd hD⟩
        · have := getD_at (ts := fm.2.2.getD m []) (g := i) (by rw [show (fm.2.2.getD m []).length = L from hlm]; exact hi)
          rw [Int.zero_add]
          exact atI_nat this
        · rw [List.length_map, List.length_append, ilv_len, List.length_map, List.length_take]
          have : i * fm.2.2.length ≤ 200 * 4 := Nat.mul_le_mul (by omega) (by omega)
          exact small1000 (by omega)
        · rw [upd_same, List.take_add_one, List.getElem?_eq_getElem hmk, List.map_append, List.map_append, List.map_append, hxs]
          rw [List.map_append, List.append_assoc]
          rfl
      · rintro Hd ⟨hcd, smd⟩
        refine ⟨?_, smd⟩
        rw [hcd, hnl, ← hfk, List.take_length, ilv_succ]
    · rintro H1 ⟨hc1, s1⟩
      refine ⟨D, _, rfl, .inl ⟨SqL.of hc1, fun b hb => ?_⟩⟩
      have s2 := s1.trans (same_new (o := .tup ((ilv L fm.2.2).map V.int)) hb)
      have e2 : (upd H1 b (.tup ((ilv L fm.2.2).map V.int))) b = some (.tup ((ilv L fm.2.2).map V.int)) := upd_same
      generalize upd H1 b (.tup ((ilv L fm.2.2).map V.int)) = H2 at s2 e2
      refine ⟨(by show 3 ≤ sizeLine; decide), fun t ht => ?_⟩
      have s3 : Same H2 (upd H2 t (.tup [.int (fm.1 : Nat), .int (fm.2.1 : Nat), .ref b])) := same_new ht
      have hh : (fm.2.2.headD []).length = L := by
        have e : fm.2.2.headD [] = fm.2.2.getD 0 [] := by
          cases fm.2.2 <;> rfl
        rw [e]
        exact hlen0
      refine q t _ (s2.trans s3) ⟨t, b, rfl, .inl (.inl upd_same), .inl (.inl ?_)⟩
      show _ = some (HO.tup ((ilv (fm.2.2.headD []).length fm.2.2).map V.int))
      rw [hh]
      exact s3 _ _ e2
end
end Lag

set_option maxRecDepth 100000
set_option maxHeartbeats 8000000
namespace Lag
open PySem PySem.Spec PyProof.Rows L2
abbrev sChkStreams : Stmt := topS 64 -- @check_streams
abbrev sSlowed : Stmt := topS 63 -- @slowed
theorem Fam.ends {gs : List Gt} {F : List Fm} {k : Nat} {wss : List (List Wr)} (h : Fam gs F k wss) {w0 ws : List Wr} (h0 : wss[0]? = some w0) (hm : ws ∈ wss) : endsL ws = endsL w0 ∧ regsL ws = regsL w0 := by
  obtain ⟨i, hi⟩ := List.getElem?_of_mem hm
  have hik : i < k := by
    have := (List.getElem?_eq_some_iff.mp hi).1
    rw [h.len] at this
    exact this
  rw [h.one i ws hi, h.one 0 w0 h0]
  unfold endsL regsL
  rw [List.map_map, List.map_map, List.map_map, List.map_map]
  refine ⟨rfl, List.map_congr_left fun f hf => ?_⟩
  obtain ⟨L, hL⟩ := (h.ok f hf).l
  have hk := (h.ok f hf).k
  have e : ∀ j, j < k → (f.2.2.getD j []).length = L := fun j hj => by
    rw [List.getD_eq_getElem?_getD, List.getElem?_eq_getElem (by omega)]
    exact hL _ (List.getElem_mem _)
  show (((f.2.2.getD i []).length : Nat) : Int) = (((f.2.2.getD 0 []).length : Nat) : Int)
  rw [e i hik, e 0 h.pos]
theorem Fam.woven {gs : List Gt} {F : List Fm} {k : Nat} {wss : List (List Wr)} (h : Fam gs F k wss) : NetOk gs (F.map wovF) := by
  refine NetOk.woven h.pos h.k4 h.ok (fun i hi => ?_) h.l
  have hl : i < wss.length := by rw [h.len]; exact hi
  have e := h.one i _ (List.getElem?_eq_getElem hl)
  rw [← e]
  exact h.net _ (List.getElem_mem hl)
def spWoven (K : PySem.W.Frag) (C : Addr) : Sp := fun vs H Q _ => ∃ (l : Addr) (k : Nat) (gs : List Gt) (F : List Fm) (wss : List (List Wr)), vs = [.ref l] ∧ NSL K C H l gs wss ∧ Fam gs F k wss ∧ ∀ p' ng' nw' H', Same H H' → NetAt K C H' p' ng' nw' gs (F.map wovF) → H p' = none → H ng' = none → H nw' = none → Q (.ref p') H'
def spChkStreams : Sp := fun vs H Q _ => ∃ k : Nat, vs = [.int (k : Nat)] ∧ 0 < k ∧ k ≤ 4 ∧ Q .non H
/-- so many times this net -/
def repF (k : Nat) (ws : List Wr) : List Fm := ws.map fun x => (x.1, x.2.1, List.replicate k x.2.2)
theorem rep_fam {gs : List Gt} {ws : List Wr} {k : Nat} (N : NetOk gs ws) (hk : 0 < k) (h4 : k ≤ 4) (hl : ∀ x ∈ ws, x.2.2.length ≤ 200) : Fam gs (repF k ws) k (List.replicate k ws) := by
  refine ⟨hk, h4, List.length_replicate .., fun f hf => ?_, fun i us hi => ?_, fun us hu => ?_, fun f hf xs hx => ?_⟩
  · obtain ⟨x, hx, rfl⟩ := List.mem_map.mp hf
    exact ⟨List.length_replicate .., x.2.2.length, fun xs h => by rw [List.eq_of_mem_replicate h]⟩
  · have hik : i < k := by
      have := (List.getElem?_eq_some_iff.mp hi).1
      rw [List.length_replicate] at this
      exact this
    rw [List.getElem?_replicate, if_pos hik] at hi
    have e : ws = us := Option.some.inj hi
    rw [← e]
    unfold repF
    rw [List.map_map]
    conv => lhs; rw [← List.map_id ws]
    refine List.map_congr_left fun x _ => ?_
    refine Prod.ext rfl (Prod.ext rfl ?_)
    show x.2.2 = (List.replicate k x.2.2).getD i []
    rw [List.getD_eq_getElem?_getD, List.getElem?_replicate, if_pos hik]
    rfl
  · rw [List.eq_of_mem_replicate hu]
    exact N
  · obtain ⟨x, hx', rfl⟩ := List.mem_map.mp hf
    rw [List.eq_of_mem_replicate (show xs ∈ List.replicate k x.2.2 from hx)]
    exact hl x hx'
def spSlowed (K : PySem.W.Frag) (C : Addr) : Sp := fun vs H Q _ => ∃ (p ng nw : Addr) (k : Nat) (gs : List Gt) (ws : List Wr), vs = [.ref p, .int (k : Nat)] ∧ NetAt K C H p ng nw gs ws ∧ NetOk gs ws ∧ 0 < k ∧ k ≤ 4 ∧ (∀ x ∈ ws, x.2.2.length ≤ 200) ∧ ∀ p' ng' nw' H', Same H H' → NetAt K C H' p' ng' nw' gs ((repF k ws).map wovF) → H p' = none → H ng' = none → H nw' = none → Q (.ref p') H'
section
variable {P : Program} {w : World} {K : PySem.W.Frag} {mg : Str → Option Value} {base : Heap}
theorem scWoven : FnScope ["nets", "place"] ["nets"] (defScope sWoven) := ⟨rfl, rfl, rfl, by decide +kernel, rfl, by decide +kernel, by decide +kernel⟩
abbrev DWoven (P : Program) (w : World) (K : PySem.W.Frag) (mg : Str → Option Value) (base : Heap) (C : Addr) := Df P w K mg base 8 "woven" ["nets"] (spWoven K C)
theorem ok_woven {f fC fW fI C : Addr} {fd fdC fdW fdI : FuncData} (F : Fun K "woven" "woven" sWoven f fd) (hm : mg "woven" = some (.ref f)) (B : Bt mg) (T : NT K mg C) (DC : DChkNets P w K mg base C fC fdC) (DW : DWovenW P w K mg base C fW fdW) (MK : Mk K C fI) (init : FnOk P w K mg base CX0 6 fI fdI ["self", "gates", "wires"] (spInit K C)) (bI : Binds K fdI ["self", "gates", "wires"] []) : DWoven P w K mg base C f fd := by
  refine ⟨?_, hm, F.kp, F.binds fun _ _ _ _ _ _ us hl => match us, hl with | [_], _ => rfl⟩
  refine F.ok scWoven (fun vs H Q E h => ?_) (fun cdv A outer s H vs Q E hr h => ?_)
  · obtain ⟨l, k, gs, F, wss, rfl, _⟩ := h
    rfl
  · obtain ⟨l, k, gs, Fs, wss, rfl, NS, Fa, q⟩ := h
    have nd := scWoven.nd
    have hr2 : Room 2 _ := hr.mono (by decide)
    have hr1 : Room 1 _ := hr.mono (by decide)
    refine ⟨_, pss_cons (ps_expr (pe_call DC.ok hr2 (by rfl) DC.mg DC.kp DC.bd .nil pass0 (pa_cons (pv 0) pa_nil))) <|
      pss_one <| ps_ret <| pe_make MK init hr (by rfl) T.mg bI .nil pass0 <| pa_cons (pe_fld (pe_ix ix_list (pv 0) pe_int (fun _ _ => rfl)) rfl) <| (pa_cons · pa_nil) <|
        pe_lc (own := [("place", 1)]) (g := gName 1) (tt := tYes) (te := tCall (spWovenW K C) [] E0 (tCons (tVar 0) (tCons (tVar 1) tNil))) rfl nd (pi_range1 (by rfl) B.range (pa_cons (pe_callB call_len_seq (by rfl) B.len PySem.boot_len (pa_cons (pe_fld (pe_ix ix_list (pv 0) pe_int (fun _ _ => rfl)) rfl) pa_nil)) pa_nil)) (blkOk_by (N := ["nets", "place"]) (sc := defScope sWoven) (own := [("place", 1)]) (by decide +kernel)) (fun _ _ _ _ _ => pg_name (i := 1) nd rfl (.inl rfl)) (fun _ _ _ _ _ => pts_nil)
          (fun _ _ _ _ _ => pe_call DW.ok hr1 (by rfl) DW.mg DW.kp DW.bd .nil pass0 (pa_cons (pv 0) (pa_cons (pv 1) pa_nil))), ?_⟩
    obtain ⟨w0, hw0⟩ : ∃ w0, wss[0]? = some w0 := ⟨_, List.getElem?_eq_getElem (by rw [Fa.len]; exact Fa.pos)⟩
    refine ⟨_, rfl, l, gs, wss, w0, rfl, NS, hw0, by rw [Fa.len]; exact Fa.k4, fun ws hws => ⟨Fa.net ws hws, Fa.ends hw0 hws⟩, fun H1 s1 => ?_⟩
    have NS1 := NS.same s1
    obtain ⟨nv, hnv, na⟩ := id NS1
    obtain ⟨v0, hv0, p0, ng0, nw0, rfl, NA0⟩ := na.getR hw0
    obtain ⟨dx0, ob0⟩ := id NA0.ob
    obtain ⟨wv0, hwv0, wa0⟩ := id NA0.w
    have NW := Fa.woven
    have hFl : wv0.length = Fs.length := by rw [wa0.1, Fa.one 0 w0 hw0, List.length_map]
    have hFw : Fs.length ≤ 1000 := by
      have := NW.wl
      rw [List.length_map] at this
      exact this
    refine ⟨_, rfl, l, _, _, .ref p0, rfl, rfl, SqL.of hnv, atI_nat (j := 0) hv0, p0, C, dx0, _, _, rfl, ob0, T.cl, T.nG, nf_gates _ _, ?_⟩
    refine ⟨_, rfl, l, _, _, .ref p0, rfl, rfl, SqL.of hnv, atI_nat (j := 0) hv0, p0, C, dx0, _, _, rfl, ob0, T.cl, T.nW, nf_wires _ _, nw0, _, rfl, .inl (SqL.of hwv0), _, rfl, by omega, by omega, fun D hD => ?_⟩
    rw [Int.toNat_natCast]
    refine lc_range (lo := 0) (n := wv0.length) (fun i Hc => ∃ acc, Hc D = some (.lst acc) ∧ acc.length = i ∧ All2 (WireV K Hc) acc ((Fs.take i).map wovF) ∧ Same H1 Hc) ⟨[], upd_same, rfl, All2.nil, same_new hD⟩ ?_ ?_
    · rintro i Hc hi ⟨acc, hc, hal, aa, sm⟩
      have hiF : i < Fs.length := by omega
      refine ⟨rfl, tyes ?_⟩
      refine ⟨_, rfl, _, rfl, l, i, k, gs, Fs, wss, Fs[i], by rw [Int.zero_add]; rfl, NS1.same sm, Fa, List.getElem?_eq_getElem hiF, fun t H2 s2 wt => ?_⟩
      refine ⟨acc, s2 _ _ hc, small1000 (by omega), acc ++ [.ref t], upd_same, by rw [List.length_append, hal]; rfl, ?_, same_mut (sm.trans s2) hD⟩
      rw [List.take_add_one, List.getElem?_eq_getElem hiF, List.map_append]
      have t' := TK.lst (o := .lst (acc ++ [.ref t])) (s2 _ _ hc)
      exact (aa.imp fun _ _ z => (z.tk (TK.same s2)).tk t').snoc (wt.tk t')
    rintro H2 ⟨acc2, hc2, _, aa2, s2⟩
    rw [hFl, List.take_length] at aa2
    have W2 : LW K H2 D (Fs.map wovF) := ⟨_, hc2, aa2⟩
    have G2 := (NA0.same s2).g
    refine net_in G2.rg W2.rw NW fun p' ng' nw' H3 NA3 s3 h1 h2 h3 => ?_
    have s12 := s1.trans s2
    exact q p' ng' nw' H3 (s12.trans s3) NA3 (s12.free h1) (s12.free h2) (s12.free h3)
theorem scChkStreams : FnScope ["k"] ["k"] (defScope sChkStreams) := ⟨rfl, rfl, rfl, by decide +kernel, rfl, by decide +kernel, by decide +kernel⟩
abbrev DChkStreams (P : Program) (w : World) (K : PySem.W.Frag) (mg : Str → Option Value) (base : Heap) := Df P w K mg base 3 "check_streams" ["k"] spChkStreams
theorem ok_chkStreams {f fF : Addr} {fd fdF : FuncData} (F : Fun K "check_streams" "check_streams" sChkStreams f fd) (hm : mg "check_streams" = some (.ref f)) (mo : ∃ t, mg "MOST_STREAMS" = some (.int 4 t)) (DF : DFromTo P w K mg base fF fdF) : DChkStreams P w K mg base f fd := by
  obtain ⟨tm, hmo⟩ := mo
  refine ⟨?_, hm, F.kp, F.binds fun _ _ _ _ _ _ us hl => match us, hl with | [_], _ => rfl⟩
  refine F.ok scChkStreams (fun vs H Q E h => ?_) (fun cdv A outer s H vs Q E hr h => ?_)
  · obtain ⟨k, rfl, _⟩ := h
    rfl
  · obtain ⟨k, rfl, h0, h4, q⟩ := h
    refine ⟨_, pss_one <| ps_if (pt_not (pt_val (pe_call DF.ok hr (by rfl) DF.mg DF.kp DF.bd .nil pass0 (pa_cons (pv 0) (pa_cons pe_int (pa_cons (pe_glob (v := .int 4) (by rfl) hmo ⟨_, rfl⟩) pa_nil)))))) (pss_one ps_never) pss_nil, ?_⟩
    refine ⟨_, rfl, (k : Int), 1, 4, rfl, true, ?_, iteF q⟩
    rw [decide_eq_true (show (1 : Int) ≤ (k : Int) by omega), decide_eq_true (show (k : Int) ≤ 4 by omega)]
    rfl
theorem scSlowed : FnScope ["net", "k"] ["net", "k"] (defScope sSlowed) := ⟨rfl, rfl, rfl, by decide +kernel, rfl, by decide +kernel, by decide +kernel⟩
abbrev DSlowed (P : Program) (w : World) (K : PySem.W.Frag) (mg : Str → Option Value) (base : Heap) (C : Addr) := Df P w K mg base 9 "slowed" ["net", "k"] (spSlowed K C)
theorem ok_slowed {f fC fW C : Addr} {fd fdC fdW : FuncData} (F : Fun K "slowed" "slowed" sSlowed f fd) (hm : mg "slowed" = some (.ref f)) (DC : DChkStreams P w K mg base fC fdC) (DW : DWoven P w K mg base C fW fdW) : DSlowed P w K mg base C f fd := by
  refine ⟨?_, hm, F.kp, F.binds fun _ _ _ _ _ _ us hl => match us, hl with | [_, _], _ => rfl⟩
  refine F.ok scSlowed (fun vs H Q E h => ?_) (fun cdv A outer s H vs Q E hr h => ?_)
  · obtain ⟨p, ng, nw, k, gs, ws, rfl, _⟩ := h
    rfl
  · obtain ⟨p, ng, nw, k, gs, ws, rfl, NA, N, h0, h4, hl, q⟩ := h
    have hr3 : Room 3 _ := hr.mono (by decide)
    refine ⟨_, pss_cons (ps_expr (pe_call DC.ok hr3 (by rfl) DC.mg DC.kp DC.bd .nil pass0 (pa_cons (pv 1) pa_nil))) <|
      pss_one <| ps_ret (pe_call DW.ok hr (by rfl) DW.mg DW.kp DW.bd .nil pass0 (pa_cons (pe_op op_rep (pe_lst (pa_cons (pv 0) pa_nil)) (pv 1)) pa_nil)), ?_⟩
    refine ⟨_, rfl, k, rfl, h0, h4, ?_⟩
    refine ⟨_, rfl, (by show 1 ≤ sizeLine; decide), fun l0 hl0 => ?_⟩
    have s1 : Same H (upd H l0 (.lst [.ref p])) := same_new hl0
    have e1 : (upd H l0 (.lst [.ref p])) l0 = some (.lst [.ref p]) := upd_same
    generalize upd H l0 (.lst [.ref p]) = H1 at s1 e1
    refine ⟨_, rfl, l0, _, _, rfl, rfl, e1, by omega, by omega, ?_, fun l1 hl1 => ?_⟩
    · rw [Int.toNat_natCast]
      show 1 * _ ≤ sizeLine
      exact Nat.le_of_lt (small1000 (by omega))
    rw [Int.toNat_natCast, rep_flat']
    have s2 := s1.trans (same_new (o := .lst (List.replicate k (V.ref p))) hl1)
    have e2 : (upd H1 l1 (.lst (List.replicate k (V.ref p)))) l1 = some (.lst (List.replicate k (V.ref p))) := upd_same
    generalize upd H1 l1 (.lst (List.replicate k (V.ref p))) = H2 at s2 e2
    have NS : NSL K C H2 l1 gs (List.replicate k ws) := ⟨_, e2, all2_rep' ⟨p, ng, nw, rfl, NA.same s2⟩ k⟩
    exact ⟨l1, k, gs, repF k ws, List.replicate k ws, rfl, NS, rep_fam N h0 h4 hl, fun p' ng' nw' H3 s3 NA3 h1 h2 h3 => q p' ng' nw' H3 (s2.trans s3) NA3 (s2.free h1) (s2.free h2) (s2.free h3)⟩
end
end Lag

set_option maxRecDepth 100000
namespace Lag
open PySem PySem.Spec PyProof.Rows L2
/-! ### rings: every row of wires that closes, told from its least place (mathematics only) -/
def stA (ws : List Wr) (p : Nat) : Nat := (ws.getD p (0, 0, [])).1
def enA (ws : List Wr) (p : Nat) : Nat := (ws.getD p (0, 0, [])).2.1
def endL (ws : List Wr) (r : List Nat) : Nat := enA ws (r.getLastD 0)
def begL (ws : List Wr) (r : List Nat) : Nat := stA ws (r.headD 0)
inductive Rw (ws : List Wr) : List Nat → Prop where
  | one {p : Nat} : p < ws.length → Rw ws [p]
  | snoc {r : List Nat} {p : Nat} : Rw ws r → p < ws.length → stA ws p = endL ws r → endL ws r ∉ r.map (stA ws) → Rw ws (r ++ [p])
def longR (ws : List Wr) (r : List Nat) : List (List Nat) := ((List.range ws.length).filter fun p => decide (stA ws p = endL ws r ∧ endL ws r ∉ r.map (stA ws))).map fun p => r ++ [p]
def rowsL (ws : List Wr) : Nat → List (List Nat)
  | 0 => (List.range ws.length).map fun p => [p]
  | k + 1 => (rowsL ws k).flatMap (longR ws)
structure RingR (ws : List Wr) (r : List Nat) : Prop where
  rw : Rw ws r
  cl : endL ws r = begL ws r
  mn : ∀ p ∈ r, r.headD 0 ≤ p
theorem endL_snoc (ws : List Wr) (r : List Nat) (p : Nat) : endL ws (r ++ [p]) = enA ws p := by
  unfold endL
  rw [List.getLastD_eq_getLast?, List.getLast?_concat]
  rfl
theorem begL_app {ws : List Wr} {r : List Nat} (s : List Nat) (h : r ≠ []) : begL ws (r ++ s) = begL ws r := by
  cases r with
  | nil => exact absurd rfl h
  | cons a b => rfl
theorem head_app {r : List Nat} (s : List Nat) (h : r ≠ []) : (r ++ s).headD 0 = r.headD 0 := by
  cases r with
  | nil => exact absurd rfl h
  | cons a b => rfl
theorem beg_mem {ws : List Wr} {r : List Nat} (h : r ≠ []) : begL ws r ∈ r.map (stA ws) := by
  cases r with
  | nil => exact absurd rfl h
  | cons a b => exact List.mem_map.mpr ⟨a, List.mem_cons_self, rfl⟩
theorem snoc_of {α : Type} {l : List α} (h : l ≠ []) : ∃ r p, l = r ++ [p] := ⟨l.dropLast, l.getLast h, (List.dropLast_concat_getLast h).symm⟩
section
variable {ws : List Wr} {r : List Nat}
theorem Rw.ne (h : Rw ws r) : r ≠ [] := by
  cases h with
  | one => exact List.cons_ne_nil _ _
  | snoc => exact List.append_ne_nil_of_right_ne_nil _ (List.cons_ne_nil _ _)
theorem Rw.lt (h : Rw ws r) : ∀ p ∈ r, p < ws.length := by
  induction h with
  | one hp =>
    intro p h
    rw [List.mem_singleton.mp h]
    exact hp
  | snoc _ hp _ _ ih =>
    intro p h
    rcases List.mem_append.mp h with z | z
    · exact ih p z
    · rw [List.mem_singleton.mp z]
      exact hp
theorem Rw.nd (h : Rw ws r) : (r.map (stA ws)).Nodup := by
  induction h with
  | one hp => exact List.nodup_cons.mpr ⟨List.not_mem_nil, List.nodup_nil⟩
  | snoc _ hp e ne ih =>
    rw [List.map_append, List.nodup_append]
    refine ⟨ih, List.nodup_cons.mpr ⟨List.not_mem_nil, List.nodup_nil⟩, fun a ha b hb z => ?_⟩
    have := List.mem_singleton.mp hb
    subst z
    rw [this, e] at ha
    exact ne ha
theorem Rw.nodup (h : Rw ws r) : r.Nodup := List.Pairwise.of_map (stA ws) (fun a b z e => z (by rw [e])) h.nd
theorem Rw.len (h : Rw ws r) : r.length ≤ ws.length := by
  have := List.Nodup.length_le_of_subset h.nodup (l₂ := List.range ws.length) fun p hp => List.mem_range.mpr (h.lt p hp)
  rwa [List.length_range] at this
/-- what stands in front -/
theorem Rw.pre {p : Nat} (h : Rw ws (r ++ [p])) (n : r ≠ []) : Rw ws r ∧ stA ws p = endL ws r ∧ endL ws r ∉ r.map (stA ws) := by
  generalize e : r ++ [p] = l at h
  cases h with
  | one hp =>
    have := congrArg List.length e
    rw [List.length_append] at this
    have h0 : r.length = 0 := by
      have : r.length + 1 = 1 := this
      omega
    exact absurd (List.eq_nil_of_length_eq_zero h0) n
  | snoc h1 h2 h3 h4 =>
    obtain ⟨rfl, e2⟩ := List.append_inj' e rfl
    cases e2
    exact ⟨h1, h3, h4⟩
theorem Rw.front : ∀ {s : List Nat}, Rw ws (r ++ s) → r ≠ [] → Rw ws r := by
  intro s
  induction hn : s.length generalizing s with
  | zero =>
    intro h _
    rw [List.eq_nil_of_length_eq_zero hn, List.append_nil] at h
    exact h
  | succ n ih =>
    intro h hr
    obtain ⟨s', p, rfl⟩ := snoc_of (l := s) (fun z => by rw [z] at hn; cases hn)
    rw [← List.append_assoc] at h
    exact ih (s := s') (by rw [List.length_append] at hn; exact Nat.succ.inj hn) (h.pre (fun z => hr (List.append_eq_nil_iff.mp z).1)).1 hr
theorem mem_rows : ∀ {k : Nat} {r : List Nat}, r ∈ rowsL ws k ↔ r.length = k + 1 ∧ Rw ws r
  | 0, r => by
    unfold rowsL
    rw [List.mem_map]
    constructor
    · rintro ⟨p, hp, rfl⟩
      exact ⟨rfl, .one (List.mem_range.mp hp)⟩
    · rintro ⟨hl, h⟩
      match r, hl with
      | [p], _ => exact ⟨p, List.mem_range.mpr (h.lt p List.mem_cons_self), rfl⟩
  | k + 1, r => by
    unfold rowsL
    rw [List.mem_flatMap]
    constructor
    · rintro ⟨s, hs, hr⟩
      obtain ⟨hl, h⟩ := mem_rows.mp hs
      obtain ⟨p, hp, rfl⟩ := List.mem_map.mp hr
      obtain ⟨h1, h2⟩ := List.mem_filter.mp hp
      obtain ⟨h3, h4⟩ := of_decide_eq_true h2
      exact ⟨by rw [List.length_append, hl]; rfl, .snoc h (List.mem_range.mp h1) h3 h4⟩
    · rintro ⟨hl, h⟩
      obtain ⟨s, p, rfl⟩ := snoc_of h.ne
      rw [List.length_append] at hl
      have hl : s.length = k + 1 := Nat.succ.inj hl
      obtain ⟨h1, h2, h3⟩ := h.pre (fun z => by rw [z] at hl; cases hl)
      refine ⟨s, mem_rows.mpr ⟨hl, h1⟩, List.mem_map.mpr ⟨p, List.mem_filter.mpr ⟨List.mem_range.mpr (h.lt p (by simp)), decide_eq_true ⟨h2, h3⟩⟩, rfl⟩⟩
theorem rows_nd : ∀ k, (rowsL ws k).Nodup
  | 0 => by
    unfold rowsL
    exact List.Pairwise.map (R := fun a b => a ≠ b) _ (fun a b h z => h (List.cons.inj z).1) List.nodup_range
  | k + 1 => by
    unfold rowsL
    refine List.pairwise_flatMap.mpr ⟨fun s _ => ?_, List.Pairwise.imp (fun {a b} hne c h1 d h2 e => ?_) (rows_nd k)⟩
    · refine List.Pairwise.map (R := fun a b => a ≠ b) _ (fun a b h z => ?_) (List.Pairwise.filter _ List.nodup_range)
      have := List.append_cancel_left z
      exact h (List.cons.inj this).1
    · obtain ⟨p, _, rfl⟩ := List.mem_map.mp h1
      obtain ⟨p', _, rfl⟩ := List.mem_map.mp h2
      exact hne (List.append_inj' e rfl).1
/-- the rings, as rows grow -/
def ringB (ws : List Wr) (r : List Nat) : Bool := decide (endL ws r = begL ws r ∧ ∀ p ∈ r, r.headD 0 ≤ p)
def foundK (ws : List Wr) (k : Nat) : List (List Nat) := (rowsL ws k).filter (ringB ws)
def foundL (ws : List Wr) (n : Nat) : List (List Nat) := (List.range n).flatMap (foundK ws)
theorem mem_found : r ∈ foundL ws (ws.length + 1) ↔ RingR ws r := by
  unfold foundL foundK ringB
  rw [List.mem_flatMap]
  constructor
  · rintro ⟨k, _, h⟩
    obtain ⟨h1, h2⟩ := List.mem_filter.mp h
    obtain ⟨h3, h4⟩ := of_decide_eq_true h2
    exact ⟨(mem_rows.mp h1).2, h3, h4⟩
  · intro h
    have hl := h.rw.len
    have hp : 0 < r.length := List.length_pos_iff.mpr h.rw.ne
    exact ⟨r.length - 1, List.mem_range.mpr (by omega), List.mem_filter.mpr ⟨mem_rows.mpr ⟨by omega, h.rw⟩, decide_eq_true ⟨h.cl, h.mn⟩⟩⟩
theorem found_nd (n : Nat) : (foundL ws n).Nodup := by
  unfold foundL
  refine List.pairwise_flatMap.mpr ⟨fun k _ => List.Pairwise.filter _ (rows_nd k), List.Pairwise.imp ?_ List.nodup_range⟩
  intro a b hne c h1 d h2 e
  subst e
  have e1 := (mem_rows.mp (List.mem_filter.mp h1).1).1
  have e2 := (mem_rows.mp (List.mem_filter.mp h2).1).1
  omega
end
/-! ### a walk that turns back early -/
structure FrOk (ws : List Wr) (fr : List Nat → Nat → Bool) : Prop where
  beg : ∀ path, fr path (begL ws path) = true
  back : ∀ path q, q < ws.length → path.headD 0 < q → fr path (enA ws q) = true → stA ws q ∉ path.map (stA ws) → stA ws q ≠ endL ws path → fr path (stA ws q) = true
  sound : ∀ path g, fr path g = true → g = begL ws path ∨ g ∉ path.map (stA ws) ∧ g ≠ endL ws path
def nextR (ws : List Wr) (fr : List Nat → Nat → Bool) (path : List Nat) : List Nat := (List.range ws.length).filter fun p => decide (path.headD 0 < p ∧ stA ws p = endL ws path ∧ fr path (enA ws p) = true)
def walkR (ws : List Wr) (fr : List Nat → Nat → Bool) : Nat → List Nat → List (List Nat)
  | 0, _ => []
  | f + 1, path => if endL ws path = begL ws path then [path] else (nextR ws fr path).flatMap fun p => walkR ws fr f (path ++ [p])
section
variable {ws : List Wr} {fr : List Nat → Nat → Bool}
/-- a row under way -/
structure Und (ws : List Wr) (path : List Nat) : Prop where
  rw : Rw ws path
  mn : ∀ p ∈ path, path.headD 0 ≤ p
  en : endL ws path = begL ws path ∨ endL ws path ∉ path.map (stA ws)
theorem Und.next (F : FrOk ws fr) {path : List Nat} {p : Nat} (u : Und ws path) (ne : endL ws path ≠ begL ws path) (h : p ∈ nextR ws fr path) : Und ws (path ++ [p]) := by
  obtain ⟨h1, h2⟩ := List.mem_filter.mp h
  obtain ⟨h3, h4, h5⟩ := of_decide_eq_true h2
  have hn := u.rw.ne
  refine ⟨.snoc u.rw (List.mem_range.mp h1) h4 (u.en.resolve_left ne), fun q hq => ?_, ?_⟩
  · rw [head_app _ hn]
    rcases List.mem_append.mp hq with z | z
    · exact u.mn q z
    · rw [List.mem_singleton.mp z]
      exact Nat.le_of_lt h3
  · rw [endL_snoc, begL_app _ hn]
    rcases F.sound path _ h5 with z | ⟨z1, z2⟩
    · exact .inl z
    · refine .inr fun z => ?_
      rw [List.map_append] at z
      rcases List.mem_append.mp z with z | z
      · exact z1 z
      · have := List.mem_singleton.mp z
        rw [this, h4] at z2
        exact z2 rfl
theorem walk_pre : ∀ {f : Nat} {path r : List Nat}, r ∈ walkR ws fr f path → ∃ s, r = path ++ s
  | 0, _, _, h => nomatch h
  | f + 1, path, r, h => by
    unfold walkR at h
    split at h
    · exact ⟨[], by rw [List.mem_singleton.mp h, List.append_nil]⟩
    · obtain ⟨p, _, hr⟩ := List.mem_flatMap.mp h
      obtain ⟨s, e⟩ := walk_pre hr
      exact ⟨p :: s, by rw [e, List.append_assoc]; rfl⟩
theorem walk_sound (F : FrOk ws fr) : ∀ {f : Nat} {path r : List Nat}, Und ws path → r ∈ walkR ws fr f path → RingR ws r
  | 0, _, _, _, h => nomatch h
  | f + 1, path, r, u, h => by
    unfold walkR at h
    split at h
    · rename_i c
      rw [List.mem_singleton.mp h]
      exact ⟨u.rw, c, u.mn⟩
    · rename_i c
      obtain ⟨p, hp, hr⟩ := List.mem_flatMap.mp h
      exact walk_sound F (u.next F c hp) hr
theorem free_at (F : FrOk ws fr) {path : List Nat} (hn : path ≠ []) : ∀ {t s : List Nat}, s ≠ [] → RingR ws (path ++ (s ++ t)) → fr path (endL ws (path ++ s)) = true
  | [], s, hs, h => by
    rw [List.append_nil] at h
    rw [h.cl, begL_app _ hn]
    exact F.beg path
  | q :: t, s, hs, h => by
    have e : path ++ (s ++ q :: t) = path ++ ((s ++ [q]) ++ t) := by simp
    rw [e] at h
    have ih := free_at F hn (t := t) (s := s ++ [q]) (by simp) h
    have e2 : path ++ (s ++ [q]) = (path ++ s) ++ [q] := (List.append_assoc ..).symm
    rw [e2, endL_snoc] at ih
    have hr : Rw ws ((path ++ s) ++ [q]) := by
      have := h.rw
      rw [← List.append_assoc, e2] at this
      exact this.front (by simp)
    have hps : path ++ s ≠ [] := fun z => hn (List.append_eq_nil_iff.mp z).1
    obtain ⟨r1, r2, r3⟩ := hr.pre hps
    rw [← r2]
    have nd := hr.nd
    rw [List.map_append, List.map_append, List.nodup_append] at nd
    obtain ⟨n1, _, n3⟩ := nd
    refine F.back path q (hr.lt q (by simp)) ?_ ih (fun z => n3 _ (List.mem_append.mpr (.inl z)) _ (List.mem_singleton.mpr rfl) rfl) fun z => ?_
    · have hm := h.mn q (by simp)
      rw [head_app _ hn] at hm
      have nq : path.headD 0 ≠ q := fun z => by
        have nd2 := hr.nodup
        rw [List.append_assoc, List.nodup_append] at nd2
        refine nd2.2.2 (path.headD 0) ?_ q (by simp) z
        cases path with
        | nil => exact absurd rfl hn
        | cons a b => exact List.mem_cons_self
      omega
    · -- the first behind the path begins where the path ends
      cases s with
      | nil => exact hs rfl
      | cons p s' =>
        have hp : Rw ws (path ++ [p]) := by
          have e3 : (path ++ p :: s') ++ [q] = (path ++ [p]) ++ (s' ++ [q]) := by simp
          rw [e3] at hr
          exact hr.front (by simp)
        obtain ⟨_, p2, _⟩ := hp.pre hn
        refine n3 (stA ws p) (List.mem_append.mpr (.inr (List.mem_map.mpr ⟨p, List.mem_cons_self, rfl⟩))) _ (List.mem_singleton.mpr rfl) ?_
        rw [p2, z]
theorem walk_full (F : FrOk ws fr) : ∀ {f : Nat} {path s : List Nat}, path ≠ [] → RingR ws (path ++ s) → s.length < f → path ++ s ∈ walkR ws fr f path
  | 0, _, _, _, _, h => absurd h (Nat.not_lt_zero _)
  | f + 1, path, s, hn, h, hl => by
    unfold walkR
    cases s with
    | nil =>
      rw [List.append_nil] at h
      rw [if_pos h.cl, List.append_nil]
      exact List.mem_singleton.mpr rfl
    | cons p t =>
      have e : path ++ p :: t = (path ++ [p]) ++ t := by simp
      have hr : Rw ws (path ++ [p]) := by
        have := h.rw
        rw [e] at this
        exact this.front (by simp)
      obtain ⟨r1, r2, r3⟩ := hr.pre hn
      have nc : ¬ endL ws path = begL ws path := fun z => r3 (by rw [z]; exact beg_mem hn)
      rw [if_neg nc]
      refine List.mem_flatMap.mpr ⟨p, List.mem_filter.mpr ⟨List.mem_range.mpr (hr.lt p (by simp)), decide_eq_true ⟨?_, r2, ?_⟩⟩, ?_⟩
      · have hm := h.mn p (by simp)
        rw [head_app _ hn] at hm
        have nq : path.headD 0 ≠ p := fun z => by
          have nd2 := hr.nodup
          rw [List.nodup_append] at nd2
          refine nd2.2.2 (path.headD 0) ?_ p (by simp) z
          cases path with
          | nil => exact absurd rfl hn
          | cons a b => exact List.mem_cons_self
        omega
      · have := free_at F hn (s := [p]) (t := t) (by simp) (by rw [← List.append_assoc]; rw [← e]; exact h)
        rwa [endL_snoc] at this
      · rw [e]
        rw [e] at h
        exact walk_full F (by simp) h (by simpa using hl)
def walks (ws : List Wr) (fr : List Nat → Nat → Bool) : List (List Nat) := (List.range ws.length).flatMap fun p => walkR ws fr (ws.length + 1) [p]
theorem mem_walks (F : FrOk ws fr) {r : List Nat} : r ∈ walks ws fr ↔ RingR ws r := by
  unfold walks
  rw [List.mem_flatMap]
  constructor
  · rintro ⟨p, hp, h⟩
    refine walk_sound F ⟨.one (List.mem_range.mp hp), fun q hq => by rw [List.mem_singleton.mp hq]; exact Nat.le_refl _, ?_⟩ h
    by_cases z : endL ws [p] = begL ws [p]
    · exact .inl z
    · exact .inr fun y => z (List.mem_singleton.mp y)
  · intro h
    have hn := h.rw.ne
    have hl := h.rw.len
    have hlt := h.rw.lt
    cases r with
    | nil => exact absurd rfl hn
    | cons p t =>
      refine ⟨p, List.mem_range.mpr (hlt p List.mem_cons_self), ?_⟩
      have := walk_full F (path := [p]) (s := t) (f := ws.length + 1) (by simp) h (by
        have : (p :: t).length = t.length + 1 := rfl
        omega)
      exact this
/-- told in order -/
theorem walk_lt : ∀ {f : Nat} {path : List Nat}, (walkR ws fr f path).Pairwise (· < ·)
  | 0, _ => List.Pairwise.nil
  | f + 1, path => by
    unfold walkR
    split
    · exact List.pairwise_singleton _ _
    · unfold nextR
      refine List.pairwise_flatMap.mpr ⟨fun p _ => walk_lt, List.Pairwise.imp (fun {p q} hpq a ha b hb => ?_) (List.Pairwise.filter _ List.pairwise_lt_range)⟩
      obtain ⟨s, rfl⟩ := walk_pre ha
      obtain ⟨t, rfl⟩ := walk_pre hb
      rw [List.append_assoc, List.append_assoc]
      exact List.append_left_lt (List.Lex.rel hpq)
theorem walks_lt : (walks ws fr).Pairwise (· < ·) := by
  unfold walks
  refine List.pairwise_flatMap.mpr ⟨fun p _ => walk_lt, List.Pairwise.imp (fun {p q} hpq a ha b hb => ?_) List.pairwise_lt_range⟩
  obtain ⟨s, rfl⟩ := walk_pre ha
  obtain ⟨t, rfl⟩ := walk_pre hb
  exact List.Lex.rel hpq
end
end Lag

set_option maxRecDepth 100000
set_option maxHeartbeats 4000000
/-! ### sorted of lists of numbers -/
namespace LsL
open PySem PySem.W PySem.Calls PyProof.Rows PySem.SeqAt Builtin
theorem first_suc {e r : Nat → Bool} {fin : Bool} : ∀ l : List Nat, firstLt e r fin (l.map Nat.succ) = firstLt (fun j => e (j + 1)) (fun j => r (j + 1)) fin l
  | [] => rfl
  | j :: t => by
    rw [List.map_cons]
    unfold firstLt
    rw [first_suc t]
theorem first_lex : ∀ ns ms : List Int, firstLt (fun j => ns.getD j 0 == ms.getD j 0) (fun j => decide (ns.getD j 0 < ms.getD j 0)) (decide (ns.length < ms.length)) (List.range (min ns.length ms.length)) = HT.lexLt ns ms
  | [], [] => rfl
  | [], y :: ys => by
    show firstLt _ _ (decide (0 < ys.length + 1)) (List.range (min 0 (ys.length + 1))) = true
    rw [Nat.zero_min]
    show decide (0 < ys.length + 1) = true
    exact decide_eq_true (by omega)
  | x :: xs, [] => by
    show firstLt _ _ (decide (xs.length + 1 < 0)) (List.range (min (xs.length + 1) 0)) = false
    rw [Nat.min_zero]
    show decide (xs.length + 1 < 0) = false
    exact decide_eq_false (by omega)
  | x :: xs, y :: ys => by
    have ih := first_lex xs ys
    show firstLt _ _ (decide (xs.length + 1 < ys.length + 1)) (List.range (min (xs.length + 1) (ys.length + 1))) = _
    rw [Nat.succ_min_succ, List.range_succ_eq_map, HT.lexLt_cons]
    have ed : decide (xs.length + 1 < ys.length + 1) = decide (xs.length < ys.length) := by
      by_cases z : xs.length < ys.length
      · rw [decide_eq_true z, decide_eq_true (by omega)]
      · rw [decide_eq_false z, decide_eq_false (by omega)]
    rw [ed]
    by_cases z : x = y
    · rw [if_pos z, firstLt_yes (by show (x == y) = true; rw [z]; simp), first_suc]
      exact ih
    · rw [if_neg z, firstLt_no (by show (x == y) = false; simp [z])]
      rfl
def IsLi (h : Heap) (v : Value) (ns : List Int) : Prop := ∃ (a : Addr) (items : Array Value), v = .ref a ∧ h.IsList a items ∧ IntsAre items.toList ns
theorem ints_len : ∀ {vs : List Value} {ns : List Int}, IntsAre vs ns → vs.length = ns.length := fun h => by
  induction h with
  | nil => rfl
  | cons _ _ _ ih => simp [ih]
theorem ints_at : ∀ {vs : List Value} {ns : List Int}, IntsAre vs ns → ∀ (j : Nat) (h : j < vs.length), ∃ t, vs[j] = .int (ns.getD j 0) t := fun h => by
  induction h with
  | nil => exact fun j h => absurd h (Nat.not_lt_zero _)
  | cons _ _ _ ih =>
    intro j hj
    cases j with
    | zero => exact ⟨_, rfl⟩
    | succ j => exact ih j (Nat.lt_of_succ_lt_succ hj)
theorem IsLi.keeps {h h' : Heap} {v : Value} {ns : List Int} (x : IsLi h v ns) (k : ∀ b o, v = .ref b → h.get? b = some o → h'.get? b = some o) : IsLi h' v ns := by
  obtain ⟨a, items, e, ⟨o, ho, hc⟩, i⟩ := x
  exact ⟨a, items, e, ⟨o, k _ _ e ho, hc⟩, i⟩
theorem IsLi.type {M : Model} {h : Heap} {v : Value} {ns : List Int} (x : IsLi h v ns) : Looks M h (typeOf v) (.type "list") := by
  obtain ⟨a, items, rfl, ⟨o, ho, hc, n, hd⟩, i⟩ := x
  have z : Looks M h (typeOf (.ref a)) o.cls := (Looks.ld ho).andThen .now
  rw [hc] at z
  exact z
section
variable {prog : Program} {w : World} {A : Around} {E : Value → Shared → Prop} {s : Shared}
theorem lt_li {v u : Value} {ns ms : List Int} {Q : Bool → Shared → Prop} (hu : A.units < cLine) (hv : IsLi s.heap v ns) (hw : IsLi s.heap u ms) (h : Q (HT.lexLt ns ms) s) : wpAny (model prog w) A (keyLt' oneType' v u) Q E s := by
  obtain ⟨a, items, rfl, la, ia⟩ := hv
  obtain ⟨b, items2, rfl, lb, ib⟩ := hw
  obtain ⟨o, ho, hc, _⟩ := id la
  rw [keyLt'_oneType, oneLt'_eq]
  simp only [if_true]
  refine wpAny_bind (wpAny_cRoomFor hu ?_)
  have l1 := ints_len ia
  have l2 := ints_len ib
  rw [Array.length_toList] at l1 l2
  rw [← first_lex ns ms, ← l1, ← l2] at h
  refine wpAny_bind (wpAny_callSpecialIfBound?_slot (T := "list") ⟨_, ho, hc⟩ F.slot_list_lt (call_list_lt (e := fun j => ns.getD j 0 == ms.getD j 0) (r := fun j => decide (ns.getD j 0 < ms.getD j 0)) la lb (fun j j1 j2 => ?_) (fun j j1 j2 _ => ?_) ?_))
  · obtain ⟨t, e⟩ := ints_at ia j (by simpa using j1)
    obtain ⟨t2, e2⟩ := ints_at ib j (by simpa using j2)
    rw [Array.getElem_toList] at e e2
    rw [e, e2]
    exact EqAt.int_int _ _ _ _
  · obtain ⟨t, e⟩ := ints_at ia j (by simpa using j1)
    obtain ⟨t2, e2⟩ := ints_at ib j (by simpa using j2)
    rw [Array.getElem_toList] at e e2
    rw [e, e2]
    exact fun prog w E Q h => wpAny_lt_int h
  · exact wpAny_truthy_bool h
theorem li_sortable {a : Addr} {vs : List Value} {k : Value → List Int} (h2 : 2 ≤ vs.length) (hu : A.units < cLine) (hv : ∀ v ∈ vs, IsLi s.heap v (k v)) (ha : ∀ v ∈ vs, v ≠ .ref a) :
    SrtO.SortableO prog w A s a vs fun v u => HT.lexLt (k v) (k u) := by
  intro h' keep
  have hv' : ∀ v ∈ vs, IsLi h' v (k v) := fun v hm => (hv v hm).keeps fun b o e g => keep b o (fun z => ha v hm (by rw [e, z])) g
  refine ⟨oneType', fun Q E hq => ?_, ?_⟩
  · exact kas_kind (s := { s with heap := h' }) (T := .type "list") h2 (fun v hm => (hv' v hm).type) (by first | decide +kernel | rfl) (by first | decide +kernel | rfl) hq
  · intro p q hp hq
    exact lt_li (s := { s with heap := h' }) (Q := fun r s' => s' = _ ∧ r = HT.lexLt (k p.1) (k q.1)) (E := fun _ _ => False) hu (hv' p.1 hp) (hv' q.1 hq) ⟨rfl, rfl⟩
theorem sorted_li {l : Addr} {vs : List Value} {k : Value → List Int} {Q : Value → Shared → Prop} (hu : A.units + 2 < cLine) (hl : s.heap.IsList l vs.toArray) (hz : vs.length ≤ sizeLine) (hv : ∀ v ∈ vs, IsLi s.heap v (k v))
    (h : ∀ (h' : Heap) (d : Addr) (out : List Value), SrtO.Srtd (fun v u => HT.lexLt (k v) (k u)) out → SrtO.Stb (fun v u => HT.lexLt (k v) (k u)) out vs → (∀ b o, s.heap.get? b = some o → h'.get? b = some o) → s.heap.objs.size ≤ d → (∃ n, h'.get? d = some (seqObj "list" out.toArray n)) → Q (.ref d) { s with heap := h' }) :
    wpAny (model prog w) A (call (.builtin "sorted") [.ref l]) Q E s := by
  refine SrtO.sorted_ord (NtL.swo_lexL k) hl hz (fun h2 h₁ a ha kk => ?_) fun out hs hb => ?_
  · refine li_sortable (s := { s with heap := h₁ }) h2 (by show A.units + 2 < cLine; omega) (fun v hm => (hv v hm).keeps fun b o e g => (kk b o g).2) fun v hm z => ?_
    obtain ⟨b, items, e, ⟨o, ho, _⟩, _⟩ := hv v hm
    rw [e] at z
    exact (kk b o ho).1 (Value.ref.inj z)
  · exact h _ _ out hs hb (fun b o e => sortedAll_old e) (Nat.le_succ _) (sortedAll_at s.heap vs out.toArray)
end
end LsL
namespace L2
open PySem PySem.Spec PyProof.Rows
def ltL (k : V → List Int) (x y : V) : Bool := HT.lexLt (k x) (k y)
theorem ltL_swo (k : V → List Int) : SrtO.Swo (ltL k) := NtL.swo_lexL k
/-- sorted(xs), xs a list of lists of ints -/
def rSortedLL (K : PySem.W.Frag) : List V → Hp → VK → Prop := fun vs H Q => ∃ (a : Addr) (xs : List V) (k : V → List Int), vs = [V.ref a] ∧ SqL K H a xs ∧ (∀ x ∈ xs, ∃ t, x = V.ref t ∧ H t = some (.lst ((k x).map V.int))) ∧
  ∀ ys p, SrtO.Srtd (ltL k) ys → SrtO.Stb (ltL k) ys xs → H p = none → Q (.ref p) (upd H p (.lst ys))
section
variable {X : Cx}
theorem cr_sortedLL (hu : X.A.units + 64 < cLine) : CallR X (.builtin "sorted") (rSortedLL X.K) := by
  intro pins s σ H vs us Q I r h
  obtain ⟨a, xs, k, rfl, hs, hx, q⟩ := h
  obtain ⟨its, rv, hl, hz⟩ := I.list hs
  obtain ⟨u, rfl, ru⟩ := vals1 r
  obtain rfl : u = Value.ref a := ru
  obtain ⟨e1, e2⟩ := refs_back rv fun x m => by
    obtain ⟨t, e, _⟩ := hx x m
    exact ⟨t, e⟩
  refine LsL.sorted_li (k := fun u => k (backV u)) (by show X.A.units + _ < cLine; omega) hl.isList (by rw [← rv.length]; exact hz) (fun v hv => ?_) fun h' d out h1 h2 kp hd hn => ?_
  · obtain ⟨t, rfl⟩ := e2 v hv
    have hm : V.ref t ∈ xs := by rw [e1]; exact List.mem_map.mpr ⟨_, hv, rfl⟩
    obtain ⟨t', e, ht⟩ := hx _ hm
    cases e
    obtain ⟨_, its2, n, r2, hob⟩ := I.hok _ _ ht
    exact ⟨t, its2.toArray, rfl, ⟨_, hob, rfl, n, rfl⟩, intsAre_of r2⟩
  · have h3 : ∀ u ∈ out, ∃ a, u = Value.ref a := fun u hu => e2 u (h2.perm.mem_iff.mp hu)
    obtain ⟨n, hn⟩ := hn
    have hb : SrtO.Stb (ltL k) (out.map backV) xs := by
      rw [e1]
      exact SrtO.Stb.map (ltL_swo k) backV h2
    refine ⟨.ref d, upd H d (.lst (out.map backV)), I.laid (t' := s.toks) kp hd ⟨?_, out, n, vals_back h3, hn⟩, rfl, q _ d (SrtO.srtd_map h1) hb (I.hok.fresh hd)⟩
    rw [hb.len]
    exact hz
end
end L2

set_option maxRecDepth 100000
namespace Lag
open PySem PySem.Spec PyProof.Rows L2
def intsN (r : List Nat) : List Int := r.map fun (p : Nat) => ((p : Nat) : Int)
theorem lex_nats : ∀ a b : List Nat, HT.lexLt (intsN a) (intsN b) = decide (a < b)
  | [], [] => rfl
  | [], y :: ys => by
    rw [decide_eq_true (List.nil_lt_cons y ys)]
    rfl
  | x :: xs, [] => by
    rw [decide_eq_false (List.not_lt_nil _)]
    rfl
  | x :: xs, y :: ys => by
    show HT.lexLt (((x : Nat) : Int) :: intsN xs) (((y : Nat) : Int) :: intsN ys) = _
    rw [HT.lexLt_cons, lex_nats xs ys]
    by_cases z : x = y
    · subst z
      rw [if_pos rfl]
      by_cases c : xs < ys
      · rw [decide_eq_true c, decide_eq_true (List.cons_lt_cons_iff.mpr (.inr ⟨rfl, c⟩))]
      · rw [decide_eq_false c, decide_eq_false fun h => c ((List.cons_lt_cons_iff.mp h).elim (fun h => absurd h (Nat.lt_irrefl _)) fun h => h.2)]
    · rw [if_neg (by omega)]
      by_cases c : x < y
      · rw [decide_eq_true (by omega : ((x : Nat) : Int) < y), decide_eq_true (List.cons_lt_cons_iff.mpr (.inl c))]
      · rw [decide_eq_false (by omega : ¬ ((x : Nat) : Int) < y), decide_eq_false fun h => (List.cons_lt_cons_iff.mp h).elim c fun h => z h.1]
theorem lt_uniq : ∀ {l m : List (List Nat)}, l.Pairwise (· < ·) → m.Pairwise (· < ·) → (∀ a, a ∈ l ↔ a ∈ m) → l = m
  | [], [], _, _, _ => rfl
  | [], b :: m, _, _, h => absurd ((h b).mpr List.mem_cons_self) List.not_mem_nil
  | a :: l, [], _, _, h => absurd ((h a).mp List.mem_cons_self) List.not_mem_nil
  | a :: l, b :: m, h1, h2, h => by
    obtain ⟨a1, a2⟩ := List.pairwise_cons.mp h1
    obtain ⟨b1, b2⟩ := List.pairwise_cons.mp h2
    have e : a = b := by
      rcases List.mem_cons.mp ((h a).mp List.mem_cons_self) with z | z
      · exact z
      · rcases List.mem_cons.mp ((h b).mpr List.mem_cons_self) with y | y
        · exact y.symm
        · exact absurd (List.lt_trans (a1 b y) (b1 a z)) (List.lt_irrefl _)
    subst e
    rw [lt_uniq a2 b2 fun c => ⟨fun z => ?_, fun z => ?_⟩]
    · rcases List.mem_cons.mp ((h c).mp (List.mem_cons_of_mem _ z)) with y | y
      · exact absurd (a1 c z) (by rw [y]; exact List.lt_irrefl _)
      · exact y
    · rcases List.mem_cons.mp ((h c).mpr (List.mem_cons_of_mem _ z)) with y | y
      · exact absurd (b1 c z) (by rw [y]; exact List.lt_irrefl _)
      · exact y
/-- what the law sorts is what the walk tells -/
theorem rings_sorted {ws : List Wr} {fr : List Nat → Nat → Bool} (F : FrOk ws fr) {ls : List (List Nat)} (hp : ls.Perm (foundL ws (ws.length + 1))) (hs : ls.Pairwise fun a b => ¬ b < a) : ls = walks ws fr := by
  have nd : ls.Nodup := hp.nodup_iff.mpr (found_nd _)
  refine lt_uniq ?_ walks_lt fun a => (hp.mem_iff.trans mem_found).trans (mem_walks F).symm
  refine List.Pairwise.imp (fun {a b} h => ?_) (hs.and nd)
  rcases List.le_iff_lt_or_eq.mp (List.not_lt.mp h.1) with z | z
  · exact z
  · exact absurd z h.2
end Lag
namespace Lag
open PySem PySem.Spec PyProof.Rows L2
/-- the gates from which one comes back to the path's beginning, behind its first place, past the path -/
inductive Back (ws : List Wr) (path : List Nat) : Nat → Prop where
  | beg : Back ws path (begL ws path)
  | back {q : Nat} : q < ws.length → path.headD 0 < q → Back ws path (enA ws q) → stA ws q ∉ path.map (stA ws) → stA ws q ≠ endL ws path → Back ws path (stA ws q)
noncomputable def frB (ws : List Wr) (path : List Nat) (g : Nat) : Bool := @decide (Back ws path g) (Classical.propDecidable _)
theorem frB_iff {ws : List Wr} {path : List Nat} {g : Nat} : frB ws path g = true ↔ Back ws path g := by
  unfold frB
  exact @decide_eq_true_iff _ (Classical.propDecidable _)
theorem frB_ok (ws : List Wr) : FrOk ws (frB ws) := ⟨fun path => frB_iff.mpr .beg, fun path q h1 h2 h3 h4 h5 => frB_iff.mpr (.back h1 h2 (frB_iff.mp h3) h4 h5), fun path g h => by
  cases frB_iff.mp h with
  | beg => exact .inl rfl
  | back _ _ _ h4 h5 => exact .inr ⟨h4, h5⟩⟩
end Lag

set_option maxRecDepth 100000
namespace Lag
open PySem PySem.Spec PyProof.Rows L2
/-! ### how many rows there may be: few wires end at one gate -/
inductive ChB (ws : List Wr) : List Nat → Prop where
  | one {p : Nat} : p < ws.length → ChB ws [p]
  | cons {p : Nat} {r : List Nat} : p < ws.length → enA ws p = begL ws r → r ≠ [] → ChB ws r → ChB ws (p :: r)
section
variable {ws : List Wr}
theorem endL_cons (p : Nat) {r : List Nat} (h : r ≠ []) : endL ws (p :: r) = endL ws r := by
  cases r with
  | nil => exact absurd rfl h
  | cons a b => rfl
theorem ChB.snoc {r : List Nat} (h : ChB ws r) {q : Nat} (hq : q < ws.length) (e : stA ws q = endL ws r) : ChB ws (r ++ [q]) := by
  induction h with
  | one hp => exact .cons hp e.symm (List.cons_ne_nil _ _) (.one hq)
  | @cons p r hp e2 hn _ ih =>
    rw [endL_cons p hn] at e
    exact .cons hp (e2.trans (begL_app [_] hn).symm) (fun z => hn (List.append_eq_nil_iff.mp z).1) (ih e)
theorem Rw.ch {r : List Nat} (h : Rw ws r) : ChB ws r := by
  induction h with
  | one hp => exact .one hp
  | snoc _ hp e _ ih => exact ih.snoc hp e
def rowsBk (ws : List Wr) : Nat → List (List Nat)
  | 0 => (List.range ws.length).map fun p => [p]
  | k + 1 => (rowsBk ws k).flatMap fun r => ((List.range ws.length).filter fun p => decide (enA ws p = begL ws r)).map fun p => p :: r
theorem ChB.mem {r : List Nat} (h : ChB ws r) : ∃ k, r.length = k + 1 ∧ r ∈ rowsBk ws k := by
  induction h with
  | one hp => exact ⟨0, rfl, List.mem_map.mpr ⟨_, List.mem_range.mpr hp, rfl⟩⟩
  | cons hp e hn _ ih =>
    obtain ⟨k, hk, hm⟩ := ih
    exact ⟨k + 1, by rw [List.length_cons, hk], List.mem_flatMap.mpr ⟨_, hm, List.mem_map.mpr ⟨_, List.mem_filter.mpr ⟨List.mem_range.mpr hp, decide_eq_true e⟩, rfl⟩⟩⟩
theorem flat_le {α β : Type} {f : α → List β} {d : Nat} : ∀ {l : List α}, (∀ a ∈ l, (f a).length ≤ d) → (l.flatMap f).length ≤ l.length * d
  | [], _ => Nat.zero_le _
  | a :: l, h => by
    rw [List.flatMap_cons, List.length_append, List.length_cons, Nat.succ_mul]
    have h1 := h a List.mem_cons_self
    have h2 := flat_le (f := f) (l := l) fun b hb => h b (List.mem_cons_of_mem _ hb)
    omega
def inTo (ws : List Wr) (g : Nat) : List Nat := (List.range ws.length).filter fun p => decide (enA ws p = g)
theorem rowsBk_le {d : Nat} (hd : ∀ g, (inTo ws g).length ≤ d) : ∀ k, (rowsBk ws k).length ≤ ws.length * d ^ k
  | 0 => by
    unfold rowsBk
    rw [List.length_map, List.length_range, Nat.pow_zero, Nat.mul_one]
    exact Nat.le_refl _
  | k + 1 => by
    unfold rowsBk
    refine Nat.le_trans (flat_le (d := d) fun r _ => ?_) ?_
    · rw [List.length_map]
      exact hd _
    · rw [Nat.pow_succ, ← Nat.mul_assoc]
      exact Nat.mul_le_mul_right _ (rowsBk_le hd k)
theorem rows_le {d : Nat} (hd : ∀ g, (inTo ws g).length ≤ d) (k : Nat) : (rowsL ws k).length ≤ ws.length * d ^ k :=
  Nat.le_trans (List.Nodup.length_le_of_subset (rows_nd k) fun r hr => by
    obtain ⟨hl, h⟩ := mem_rows.mp hr
    obtain ⟨k', hk, hm⟩ := h.ch.mem
    have : k' = k := by omega
    rw [this] at hm
    exact hm) (rowsBk_le hd k)
/-- rows have no more wires than there are gates to start from -/
theorem rows_nil {n k : Nat} (hs : ∀ p, p < ws.length → stA ws p < n) (h : n ≤ k) : rowsL ws k = [] := by
  refine List.eq_nil_iff_forall_not_mem.mpr fun r hr => ?_
  obtain ⟨hl, h1⟩ := mem_rows.mp hr
  have := List.Nodup.length_le_of_subset h1.nd (l₂ := List.range n) fun g hg => by
    obtain ⟨p, hp, rfl⟩ := List.mem_map.mp hg
    exact List.mem_range.mpr (hs p (h1.lt p hp))
  rw [List.length_map, List.length_range] at this
  omega
end
end Lag

set_option maxRecDepth 100000
namespace Lag
open PySem PySem.Spec PyProof.Rows L2
section
variable {ws : List Wr} {fr : List Nat → Nat → Bool}
theorem walk_iff (F : FrOk ws fr) {M f : Nat} {path r : List Nat} (hM : ∀ r, Rw ws r → r.length ≤ M) (u : Und ws path) (h : M + 1 ≤ f + path.length) : r ∈ walkR ws fr f path ↔ RingR ws r ∧ ∃ s, r = path ++ s := by
  constructor
  · exact fun z => ⟨walk_sound F u z, walk_pre z⟩
  · rintro ⟨h1, s, rfl⟩
    have := hM _ h1.rw
    rw [List.length_append] at this
    exact walk_full F u.rw.ne h1 (by omega)
/-- enough fuel is enough -/
theorem walk_fuel (F : FrOk ws fr) {M f f' : Nat} {path : List Nat} (hM : ∀ r, Rw ws r → r.length ≤ M) (u : Und ws path) (h : M + 1 ≤ f + path.length) (h' : M + 1 ≤ f' + path.length) : walkR ws fr f path = walkR ws fr f' path :=
  lt_uniq walk_lt walk_lt fun _ => (walk_iff F hM u h).trans (walk_iff F hM u h').symm
/-- the rings from the places below m that may come next -/
def nexts (ws : List Wr) (fr : List Nat → Nat → Bool) (f : Nat) (path : List Nat) (m : Nat) : List (List Nat) :=
  ((List.range m).filter fun p => decide (path.headD 0 < p ∧ stA ws p = endL ws path ∧ fr path (enA ws p) = true)).flatMap fun p => walkR ws fr f (path ++ [p])
theorem nexts_yes {f m : Nat} {path : List Nat} (h : path.headD 0 < m ∧ stA ws m = endL ws path ∧ fr path (enA ws m) = true) : nexts ws fr f path (m + 1) = nexts ws fr f path m ++ walkR ws fr f (path ++ [m]) := by
  unfold nexts
  rw [List.range_succ, List.filter_append, List.flatMap_append, List.filter_cons, if_pos (decide_eq_true h), List.filter_nil, List.flatMap_cons, List.flatMap_nil, List.append_nil]
theorem nexts_no {f m : Nat} {path : List Nat} (h : ¬ (path.headD 0 < m ∧ stA ws m = endL ws path ∧ fr path (enA ws m) = true)) : nexts ws fr f path (m + 1) = nexts ws fr f path m := by
  unfold nexts
  rw [List.range_succ, List.filter_append, List.flatMap_append, List.filter_cons, if_neg (by rw [decide_eq_false h]; exact Bool.false_ne_true), List.filter_nil, List.flatMap_nil, List.append_nil]
theorem nexts_low {f : Nat} {path : List Nat} : ∀ {m : Nat}, m ≤ path.headD 0 + 1 → nexts ws fr f path m = []
  | 0, _ => rfl
  | m + 1, h => by
    rw [nexts_no (fun z => by have := z.1; omega)]
    exact nexts_low (by omega)
theorem nexts_len {f m : Nat} {path : List Nat} : ∀ d, (nexts ws fr f path m).length ≤ (nexts ws fr f path (m + d)).length
  | 0 => Nat.le_refl _
  | d + 1 => by
    refine Nat.le_trans (nexts_len d) ?_
    rw [← Nat.add_assoc]
    by_cases z : path.headD 0 < m + d ∧ stA ws (m + d) = endL ws path ∧ fr path (enA ws (m + d)) = true
    · rw [nexts_yes z, List.length_append]
      omega
    · rw [nexts_no z]
      exact Nat.le_refl _
theorem walk_nexts {f : Nat} {path : List Nat} (h : endL ws path ≠ begL ws path) : walkR ws fr (f + 1) path = nexts ws fr f path ws.length := by
  show (if endL ws path = begL ws path then [path] else _) = _
  rw [if_neg h]
  rfl
theorem walk_stop {f : Nat} {path : List Nat} (h : endL ws path = begL ws path) : walkR ws fr (f + 1) path = [path] := by
  show (if endL ws path = begL ws path then [path] else _) = _
  rw [if_pos h]
/-- as many rings as the law finds -/
theorem walks_len (F : FrOk ws fr) : (walks ws fr).length = (foundL ws (ws.length + 1)).length := by
  have nd : (walks ws fr).Nodup := by
    refine List.Pairwise.imp (fun {a b} (h : a < b) => ?_) (walks_lt (ws := ws) (fr := fr))
    intro e
    subst e
    exact List.lt_irrefl _ h
  exact Nat.le_antisymm (List.Nodup.length_le_of_subset nd fun r hr => mem_found.mpr ((mem_walks F).mp hr)) (List.Nodup.length_le_of_subset (found_nd _) fun r hr => (mem_walks F).mpr (mem_found.mp hr))
end
end Lag

set_option maxRecDepth 100000
set_option maxHeartbeats 8000000
namespace Lag
open PySem PySem.Spec PyProof.Rows L2
abbrev sBack : Stmt := topS 52 -- @gates_back
abbrev natV (r : List Nat) : List V := r.map fun i => V.int (i : Nat)
def wst (ws : List Wr) (k : Nat) : Nat := (ws.getD k (0, 0, [])).1
def wen (ws : List Wr) (k : Nat) : Nat := (ws.getD k (0, 0, [])).2.1
theorem wst_at {ws : List Wr} {k : Nat} {x : Wr} (h : ws[k]? = some x) : wst ws k = x.1 := by
  unfold wst
  rw [List.getD_eq_getElem?_getD, h]
  rfl
theorem wen_at {ws : List Wr} {k : Nat} {x : Wr} (h : ws[k]? = some x) : wen ws k = x.2.1 := by
  unfold wen
  rw [List.getD_eq_getElem?_getD, h]
  rfl
theorem nat_in {k : Nat} {r : List Nat} : inV (.int (k : Nat)) (natV r) = decide (k ∈ r) := by
  rw [Bool.eq_iff_iff, decide_eq_true_iff]
  unfold inV
  rw [List.any_eq_true]
  constructor
  · rintro ⟨v, hv, he⟩
    obtain ⟨i, hi, rfl⟩ := List.mem_map.mp hv
    have he' : ((i : Nat) : Int) = ((k : Nat) : Int) := eq_of_beq (α := Int) he
    have e : i = k := by omega
    rw [← e]
    exact hi
  · intro h
    exact ⟨_, List.mem_map.mpr ⟨k, h, rfl⟩, (beq_self_eq_true ((k : Nat) : Int) : _)⟩
theorem nat_flat (r : List Nat) : (natV r).all flatV = true := by
  rw [List.all_eq_true]
  intro v hv
  obtain ⟨i, _, rfl⟩ := List.mem_map.mp hv
  rfl
theorem nat_len (r : List Nat) : (natV r).length = r.length := List.length_map ..
theorem nat_get {r : List Nat} {i k : Nat} (h : r[i]? = some k) : (natV r)[i]? = some (.int (k : Nat)) := by
  rw [List.getElem?_map, h]
  rfl
theorem nodup_le {n : Nat} {l : List Nat} (hnd : l.Nodup) (hlt : ∀ e ∈ l, e < n) : l.length ≤ n := by
  have h2 := List.Nodup.length_le_of_subset hnd (l₂ := List.range n) (fun a ha => List.mem_range.mpr (hlt a ha))
  rw [List.length_range] at h2
  exact h2
/-- found's i-th gate is done, up to this place -/
def ClB (ws : List Wr) (pa fs : List Nat) (k0 i lim : Nat) : Prop := ∀ q, k0 < q → q < lim → q < ws.length → fs[i]? = some (wen ws q) → wst ws q ∉ pa → wst ws q ∈ fs
theorem ClB.app {ws : List Wr} {pa fs : List Nat} {k0 i lim : Nat} (h : ClB ws pa fs k0 i lim) (hi : i < fs.length) (x : Nat) : ClB ws pa (fs ++ [x]) k0 i lim := fun q h1 h2 h3 h4 h5 => by
  rw [List.getElem?_append_left hi] at h4
  exact List.mem_append.mpr (.inl (h q h1 h2 h3 h4 h5))
theorem ClB.next {ws : List Wr} {pa fs : List Nat} {k0 i lim : Nat} (h : ClB ws pa fs k0 i lim) (n : fs[i]? = some (wen ws lim) → wst ws lim ∉ pa → wst ws lim ∈ fs) : ClB ws pa fs k0 i (lim + 1) := fun q h1 h2 h3 h4 h5 => by
  by_cases z : q = lim
  · rw [z] at h4 h5 ⊢
    exact n h4 h5
  · exact h q h1 (by omega) h3 h4 h5
def spBack (K : PySem.W.Frag) (C : Addr) : Sp := fun vs H Q _ => ∃ (p ng nw lp : Addr) (gs : List Gt) (ws : List Wr) (k0 : Nat) (r : List Nat), vs = [.ref p, .ref lp] ∧ NetAt K C H p ng nw gs ws ∧ NetOk gs ws ∧ H lp = some (.lst (natV (k0 :: r))) ∧ (∀ k ∈ k0 :: r, k < ws.length) ∧ r.length ≤ 100 ∧
  ∀ lf fs H', Same H H' → H lf = none → H' lf = some (.lst (natV fs)) → (∀ g, g ∈ fs ↔ Back ws (k0 :: r) g) → Q (.ref lf) H'
section
variable {P : Program} {w : World} {K : PySem.W.Frag} {mg : Str → Option Value} {base : Heap}
abbrev nBack : List Str := ["net", "path", "place", "passed", "found", "done", "start", "end", "held"]
theorem scBack : FnScope nBack ["net", "path"] (defScope sBack) := ⟨rfl, rfl, rfl, by decide +kernel, rfl, by decide +kernel, by decide +kernel⟩
abbrev DBack (P : Program) (w : World) (K : PySem.W.Frag) (mg : Str → Option Value) (base : Heap) (C : Addr) := Df P w K mg base 1 "gates_back" ["net", "path"] (spBack K C)
theorem ok_back {f C : Addr} {fd : FuncData} (F : Fun K "gates_back" "gates_back" sBack f fd) (hm : mg "gates_back" = some (.ref f)) (B : Bt mg) (T : NT K mg C) : DBack P w K mg base C f fd := by
  refine ⟨?_, hm, F.kp, F.binds fun _ _ _ _ _ _ us hl => match us, hl with | [_, _], _ => rfl⟩
  refine F.ok scBack (fun vs H Q E h => ?_) (fun cdv A outer s H vs Q E hr h => ?_)
  · obtain ⟨p, ng, nw, lp, gs, ws, k0, r, rfl, _⟩ := h
    rfl
  · obtain ⟨p, ng, nw, lp, gs, ws, k0, r, rfl, NA, N, hlp, hlt, hrl, q⟩ := h
    have nd := scBack.nd
    refine ⟨_, pss_cons (ps_setLc (i := 3) (own := [("place", 2)]) (g := gName 2) (tt := tYes) (te := tOp (rIxT K) (tOp (rIxL K) (tFld K (tVar 0) "wires") (tVar 2)) (tC (.int 0))) rfl nd rfl rfl (sw_true rfl rfl rfl (by decide +kernel)) (pi_list (pv 1)) (blkOk_by (N := nBack) (sc := defScope sBack) (own := [("place", 2)]) (by decide +kernel)) (fun _ _ _ _ _ => pg_name (i := 2) nd rfl (.inl rfl)) (fun _ _ _ _ _ => pts_nil)
          (fun _ _ _ _ _ => pe_ix ix_tup (pe_ix ix_list (pe_fld (pv 0) rfl) (pv 2) (fun _ _ => rfl)) pe_int (fun _ _ => rfl))) <|
      pss_cons (ps_expr (pe_bm PySem.F.plainAttrs_list PySem.F.slot_list_append PySem.F.type_list_append mt_append (pv 3) (pa_cons (pe_ix ix_tup (pe_ix ix_list (pe_fld (pv 0) rfl) (pe_ix ix_list (pv 1) (pe_un un_neg pe_int) (fun _ _ => rfl)) (fun _ _ => rfl)) pe_int (fun _ _ => rfl)) pa_nil))) <|
      pss_cons (ps_set (i := 4) nd rfl (.inl rfl) (pe_lst (pa_cons (pe_ix ix_list (pv 3) pe_int (fun _ _ => rfl)) pa_nil))) <|
      pss_cons (ps_set (i := 5) nd rfl (.inl rfl) pe_int) <|
      pss_cons (ps_while PassesOwn.never (pt_cmpR op_lt (pv 5) (pe_callB call_len_seq (by rfl) B.len PySem.boot_len (pa_cons (pv 4) pa_nil)) (nomark _)) <|
        pss_cons (ps_for PassesOwn.never rfl (pi_list (pe_slice sl_list (pe_fld (pv 0) rfl) (po_some (pe_op op_add (pe_ix ix_list (pv 1) pe_int (fun _ _ => rfl)) pe_int)) po_none)) (pg_tup rfl (pgs_cons (pg_name (i := 6) nd rfl (.inl rfl)) (pgs_cons (pg_name (i := 7) nd rfl (.inl rfl)) (pgs_cons (pg_name (i := 8) nd rfl (.inl rfl)) pgs_nil)))) <|
          pss_one <| ps_if (PW.pt (pw_and (pt_cmpR op_eq (pv 7) (pe_ix ix_list (pv 4) (pv 5) (fun _ _ => rfl)) (nomark _)) (pw_and (pt_cmpR op_notIn_seq (pv 6) (pv 3) (by rfl)) (pw_and1 (pt_cmpR op_notIn_seq (pv 6) (pv 4) (by rfl))))))
            (pss_one (ps_expr (pe_bm PySem.F.plainAttrs_list PySem.F.slot_list_append PySem.F.type_list_append mt_append (pv 4) (pa_cons (pv 6) pa_nil)))) pss_nil) <|
        pss_one <| ps_aug (i := 5) nd rfl (Or.inl rfl) pe_int ip_add) <|
      pss_one <| ps_ret (pv 4), ?_⟩
    have hgl := N.gl
    have hwl := N.wl
    obtain ⟨dx, ob⟩ := id NA.ob
    obtain ⟨wv, hwv, wa⟩ := id NA.w
    have hlw : wv.length = ws.length := wa.1
    have rl1 : ((k0 :: r).map (wst ws)).length = r.length + 1 := by simp
    -- passed
    refine ⟨_, rfl, lp, rfl, ⟨_, SqL.of hlp⟩, fun D hD => ?_⟩
    refine lc_list (K := K) (a := lp) (xs := natV (k0 :: r)) (fun i Hc => Hc D = some (.lst (natV (((k0 :: r).map (wst ws)).take i))) ∧ Same H Hc) ⟨upd_same, same_new hD⟩ (fun i Hc _ ⟨_, sm⟩ => SqL.of (sm _ _ hlp)) ?_ ?_
    · rintro i v Hc hv ⟨hc, sm⟩
      obtain ⟨k, hk, rfl⟩ : ∃ k, (k0 :: r)[i]? = some k ∧ v = .int (k : Nat) := by
        rw [List.getElem?_map] at hv
        cases e : (k0 :: r)[i]? with
        | none => rw [e] at hv; cases hv
        | some k => rw [e] at hv; cases hv; exact ⟨k, rfl, rfl⟩
      have hkl := hlt k (List.mem_of_getElem? hk)
      obtain ⟨x, hx⟩ : ∃ x, ws[k]? = some x := ⟨_, List.getElem?_eq_getElem hkl⟩
      obtain ⟨v, hv', a, b, rfl, s1, s2⟩ := wa.getR hx
      refine ⟨rfl, tyes ?_⟩
      refine ⟨_, rfl, p, C, dx, _, _, rfl, sm _ _ ob, T.cl, T.nW, nf_wires _ _, _, rfl, nw, wv, _, _, rfl, rfl, SqL.of (sm _ _ hwv), atI_nat hv', a, _, _, .int x.1, rfl, rfl, (TK.same sm).seq s1, atI_nat (j := 0) rfl, _, hc, ?_, ?_, same_mut sm hD⟩
      · rw [nat_len, List.length_take, rl1]
        exact small1000 (by omega)
      · rw [upd_same, List.take_add_one, List.getElem?_map, hk]
        show _ = some (HO.lst (natV (_ ++ [wst ws k])))
        rw [wst_at hx]
        show _ = some (HO.lst (List.map _ (_ ++ _)))
        rw [List.map_append]
        rfl
    rintro H1 ⟨hD1, sm1⟩
    rw [nat_len, List.length_cons, ← rl1, List.take_length] at hD1
    -- passed.append
    obtain ⟨r0, kl, hrk⟩ : ∃ r0 kl, k0 :: r = r0 ++ [kl] := ⟨_, _, (List.dropLast_concat_getLast (List.cons_ne_nil _ _)).symm⟩
    have hkl := hlt kl (by rw [hrk]; simp)
    obtain ⟨x, hx⟩ : ∃ x, ws[kl]? = some x := ⟨_, List.getElem?_eq_getElem hkl⟩
    obtain ⟨v, hv', a, b, rfl, s1, s2⟩ := wa.getR hx
    have ee : endL ws (k0 :: r) = x.2.1 := by
      rw [hrk]
      exact (endL_snoc ws r0 kl).trans (wen_at hx)
    refine ⟨_, rfl, .inl ⟨rfl, _, SqL.of hD1⟩, _, rfl, p, C, dx, _, _, rfl, sm1 _ _ ob, T.cl, T.nW, nf_wires _ _, _, rfl, _, rfl, lp, _, _, .int (kl : Nat), rfl, rfl, SqL.of (sm1 _ _ hlp), ?_, nw, wv, _, _, rfl, rfl, SqL.of (sm1 _ _ hwv), atI_nat hv', a, _, _, .int x.2.1, rfl, rfl, (TK.same sm1).seq s1, atI_nat (j := 1) rfl, D, _, _, rfl, rfl, hD1, ?_, ?_⟩
    · rw [hrk]
      show atI (List.map _ (_ ++ _)) _ = _
      rw [List.map_append]
      exact atI_last _ _
    · rw [nat_len, rl1]
      exact small1000 (by omega)
    have hD2 : (upd H1 D (.lst (natV ((k0 :: r).map (wst ws)) ++ [.int x.2.1]))) D = some (.lst (natV ((k0 :: r).map (wst ws) ++ [endL ws (k0 :: r)]))) := by
      rw [upd_same, ee]
      show _ = some (HO.lst (List.map _ (_ ++ _)))
      rw [List.map_append]
      rfl
    have sm2 : Same H (upd H1 D (.lst (natV ((k0 :: r).map (wst ws)) ++ [.int x.2.1]))) := same_mut sm1 hD
    generalize upd H1 D (.lst (natV ((k0 :: r).map (wst ws)) ++ [.int x.2.1])) = H2 at hD2 sm2
    -- found
    generalize hpa : (k0 :: r).map (wst ws) ++ [endL ws (k0 :: r)] = pa at hD2 q
    have hpa0 : pa[0]? = some (wst ws k0) := by rw [← hpa]; rfl
    refine ⟨_, rfl, D, _, _, .int (wst ws k0 : Nat), rfl, rfl, SqL.of hD2, atI_nat (j := 0) (nat_get hpa0), (by show 1 ≤ sizeLine; decide), fun lf hlf => ?_⟩
    have nfD : D ≠ lf := ne_of_none hD2 hlf
    have sm3 := sm2.trans (same_new (o := .lst [.int (wst ws k0 : Nat)]) hlf)
    have hf3 : (upd H2 lf (.lst [.int (wst ws k0 : Nat)])) lf = some (.lst (natV [wst ws k0])) := upd_same
    have hD3 : (upd H2 lf (.lst [.int (wst ws k0 : Nat)])) D = some (.lst (natV pa)) := by rw [upd_ne nfD]; exact hD2
    have hlf0 : H lf = none := sm2.free hlf
    generalize upd H2 lf (.lst [.int (wst ws k0 : Nat)]) = H3 at sm3 hf3 hD3
    -- the while
    have hk0 := hlt k0 (List.mem_cons_self ..)
    have hw0 : wst ws k0 < gs.length := by
      obtain ⟨y, hy⟩ : ∃ y, ws[k0]? = some y := ⟨_, List.getElem?_eq_getElem hk0⟩
      rw [wst_at hy]
      exact (N.wok y (List.mem_of_getElem? hy)).s
    refine ⟨fun m σ H4 => ∃ (fs : List Nat) (d : Nat) (s6 s7 s8 : Option V), σ = [some (.ref p), some (.ref lp), none, some (.ref D), some (.ref lf), some (.int (d : Nat)), s6, s7, s8] ∧ fs.Nodup ∧ (∀ f ∈ fs, f < gs.length ∧ Back ws (k0 :: r) f) ∧ wst ws k0 ∈ fs ∧ (∀ i, i < d → ClB ws pa fs k0 i ws.length) ∧ d ≤ fs.length ∧ H4 lf = some (.lst (natV fs)) ∧ H4 D = some (.lst (natV pa)) ∧ Same H H4 ∧ m = gs.length - d, ?_, ?_⟩
    · exact ⟨gs.length, [wst ws k0], 0, _, _, _, rfl, (by simp), (fun f hf => by
        rw [List.mem_singleton] at hf
        rw [hf]
        exact ⟨hw0, .beg⟩), List.mem_singleton.mpr rfl, (fun i hi => absurd hi (Nat.not_lt_zero _)), Nat.zero_le _, hf3, hD3, sm3, rfl⟩
    rintro m σ H4 ⟨fs, d, s6, s7, s8, rfl, fnd, fok, f0, fcl, hd, hf4, hD4, sm4, rfl⟩
    refine ⟨_, rfl, _, rfl, lf, _, rfl, .inl (SqL.of hf4), _, _, rfl, rfl, _, rfl, ite2 (fun e => ?_) (fun e => ?_)⟩
    · have hdl : d < fs.length := by
        have e' : (d : Int) < ((natV fs).length : Int) := of_decide_eq_true e
        rw [nat_len] at e'
        omega
      have hfl := nodup_le fnd fun f hf => (fok f hf).1
      refine ⟨fun σ H5 => ∃ (fs : List Nat) (s6 s7 s8 : Option V), σ = [some (.ref p), some (.ref lp), none, some (.ref D), some (.ref lf), some (.int ((d : Nat) + 1)), s6, s7, s8] ∧ fs.Nodup ∧ (∀ f ∈ fs, f < gs.length ∧ Back ws (k0 :: r) f) ∧ wst ws k0 ∈ fs ∧ (∀ i, i < d + 1 → ClB ws pa fs k0 i ws.length) ∧ d + 1 ≤ fs.length ∧ H5 lf = some (.lst (natV fs)) ∧ H5 D = some (.lst (natV pa)) ∧ Same H H5, ?_, ?_⟩
      · rintro σ' H' ⟨fs', t6, t7, t8, rfl, a1, a2, a21, a22, a3, a4, a5, a6⟩
        exact ⟨gs.length - (d + 1), by omega, fs', d + 1, t6, t7, t8, rfl, a1, a2, a21, a22, a3, a4, a5, a6, rfl⟩
      refine ⟨_, rfl, p, C, dx, _, _, rfl, sm4 _ _ ob, T.cl, T.nW, nf_wires _ _, _, rfl, lp, _, _, .int (k0 : Nat), rfl, rfl, SqL.of (sm4 _ _ hlp), atI_nat (j := 0) rfl, _, _, rfl, rfl, _, rfl, nw, wv, rfl, SqL.of (sm4 _ _ hwv), fun ls hls => ?_⟩
      have hls0 : H ls = none := sm4.free hls
      have hcut : cutV wv (some ((k0 : Nat) + 1 : Int)) none = wv.drop (k0 + 1) := by
        have := cut_from (xs := wv) (k0 + 1)
        exact this
      rw [hcut]
      have sm5 := sm4.trans (same_new (o := .lst (wv.drop (k0 + 1))) hls)
      have e5 : (upd H4 ls (.lst (wv.drop (k0 + 1)))) ls = some (.lst (wv.drop (k0 + 1))) := upd_same
      have f5 : (upd H4 ls (.lst (wv.drop (k0 + 1)))) lf = some (.lst (natV fs)) := by rw [upd_ne (ne_of_none hf4 hls)]; exact hf4
      have D5 : (upd H4 ls (.lst (wv.drop (k0 + 1)))) D = some (.lst (natV pa)) := by rw [upd_ne (ne_of_none hD4 hls)]; exact hD4
      have nls : ls ≠ lf := fun z => by
        rw [z, hf4] at hls
        cases hls
      generalize upd H4 ls (.lst (wv.drop (k0 + 1))) = H5 at sm5 e5 f5 D5
      refine ⟨ls, rfl, ⟨_, SqL.of e5⟩, for_list (K := K) (a := ls) (xs := wv.drop (k0 + 1)) (fun j σ H6 => ∃ (fs : List Nat) (s6 s7 s8 : Option V), σ = [some (.ref p), some (.ref lp), none, some (.ref D), some (.ref lf), some (.int (d : Nat)), s6, s7, s8] ∧ fs.Nodup ∧ (∀ f ∈ fs, f < gs.length ∧ Back ws (k0 :: r) f) ∧ wst ws k0 ∈ fs ∧ (∀ i, i < d → ClB ws pa fs k0 i ws.length) ∧ ClB ws pa fs k0 d (k0 + 1 + j) ∧ d + 1 ≤ fs.length ∧ H6 lf = some (.lst (natV fs)) ∧ H6 D = some (.lst (natV pa)) ∧ H6 ls = some (.lst (wv.drop (k0 + 1))) ∧ Same H H6)
        ⟨fs, _, _, _, rfl, fnd, fok, f0, fcl, (fun q h1 h2 _ _ _ => by omega), hdl, f5, D5, e5, sm5⟩ (fun i σ H6 _ ⟨_, _, _, _, _, _, _, _, _, _, _, _, _, z, _⟩ => SqL.of z) ?_ ?_⟩
      · rintro j v σ H6 hv ⟨fs, s6, s7, s8, rfl, fnd, fok, f0, fcl, fcd, hdl, f6, D6, e6, sm6⟩
        rw [List.getElem?_drop] at hv
        obtain ⟨x, hx, a, b, rfl, q1, q2⟩ := wa.get hv
        have W := N.wok x (List.mem_of_getElem? hx)
        have hfl := nodup_le fnd fun f hf => (fok f hf).1
        obtain ⟨g, hg⟩ : ∃ g, fs[d]? = some g := ⟨_, List.getElem?_eq_getElem (by omega)⟩
        refine ⟨a, _, rfl, (TK.same sm6).seq q1, rfl, _, _, rfl, _, _, rfl, _, _, rfl, rfl, ?_⟩
        have keep : (fs[d]? = some (wen ws (k0 + 1 + j)) → wst ws (k0 + 1 + j) ∉ pa → wst ws (k0 + 1 + j) ∈ fs) → ∃ (fs : List Nat) (t6 t7 t8 : Option V), [some (.ref p), some (.ref lp), none, some (.ref D), some (.ref lf), some (.int (d : Nat)), some (V.int x.1), some (V.int x.2.1), some (V.ref b)] = [some (.ref p), some (.ref lp), none, some (.ref D), some (.ref lf), some (.int (d : Nat)), t6, t7, t8] ∧ fs.Nodup ∧ (∀ f ∈ fs, f < gs.length ∧ Back ws (k0 :: r) f) ∧ wst ws k0 ∈ fs ∧ (∀ i, i < d → ClB ws pa fs k0 i ws.length) ∧ ClB ws pa fs k0 d (k0 + 1 + (j + 1)) ∧ d + 1 ≤ fs.length ∧ H6 lf = some (.lst (natV fs)) ∧ H6 D = some (.lst (natV pa)) ∧ H6 ls = some (.lst (wv.drop (k0 + 1))) ∧ Same H H6 := fun n => ⟨fs, _, _, _, rfl, fnd, fok, f0, fcl, fcd.next n, hdl, f6, D6, e6, sm6⟩
        have ew := wst_at hx
        have ee2 := wen_at hx
        refine ⟨_, rfl, _, rfl, _, rfl, lf, _, _, _, rfl, rfl, SqL.of f6, atI_nat (j := d) (nat_get hg), rfl, _, rfl, ite2 (fun e1 => ?_) (fun e1 => iteF (keep fun y _ => absurd (by rw [hg, ee2] at y; cases y; exact decide_eq_true rfl) e1))⟩
        refine ⟨_, rfl, _, rfl, D, _, rfl, .inl (SqL.of D6), rfl, nat_flat _, _, rfl, ?_⟩
        rw [show inV (V.int (x.1 : Nat)) (natV pa) = decide (x.1 ∈ pa) from nat_in]
        refine ite2 (fun e2 => ?_) (fun e2 => iteF (keep fun _ y => absurd y (by rw [ew]; simpa using e2)))
        refine ⟨_, rfl, _, rfl, lf, _, rfl, .inl (SqL.of f6), rfl, nat_flat _, _, rfl, ?_⟩
        rw [show inV (V.int (x.1 : Nat)) (natV fs) = decide (x.1 ∈ fs) from nat_in]
        refine ite2 (fun e3 => ?_) (fun e3 => keep fun _ _ => by rw [ew]; simpa using e3)
        have h2 : x.1 ∉ pa := of_decide_eq_false (by simpa using e2)
        have h3 : x.1 ∉ fs := of_decide_eq_false (by simpa using e3)
        refine ⟨_, rfl, .inl ⟨rfl, _, SqL.of f6⟩, _, rfl, lf, _, _, rfl, rfl, f6, by rw [nat_len]; exact small1000 (by omega), fs ++ [x.1], _, _, _, rfl, ?_, ?_, List.mem_append.mpr (.inl f0), (fun i hi => (fcl i hi).app (by omega) _), (fcd.app (by omega) _).next (fun _ _ => by rw [ew]; exact List.mem_append.mpr (.inr (List.mem_singleton.mpr rfl))), by rw [List.length_append]; omega, ?_, by rw [upd_ne nfD]; exact D6, by rw [upd_ne nls]; exact e6, same_mut sm6 hlf0⟩
        · rw [List.nodup_append]
          exact ⟨fnd, (by simp), fun a ha b hb => by
            rw [List.mem_singleton] at hb
            rintro rfl
            exact h3 (hb ▸ ha)⟩
        · intro f hf
          rcases List.mem_append.mp hf with z | z
          · exact fok f z
          · rw [List.mem_singleton] at z
            rw [z]
            refine ⟨W.s, ?_⟩
            have hgm : g = x.2.1 := by
              have y := of_decide_eq_true e1
              have y := V.int.inj y
              omega
            have bg := (fok g (List.mem_of_getElem? hg)).2
            rw [hgm] at bg
            rw [← ew]
            have h2' : wst ws (k0 + 1 + j) ∉ pa := by rw [ew]; exact h2
            rw [← hpa] at h2'
            have kl2 : k0 + 1 + j < ws.length := (List.getElem?_eq_some_iff.mp hx).1
            exact .back (q := k0 + 1 + j) kl2 (by show k0 < _; omega) (by show Back ws _ (wen ws _); rw [ee2]; exact bg) (fun z => h2' (List.mem_append.mpr (.inl z))) fun z => h2' (List.mem_append.mpr (.inr (List.mem_singleton.mpr z)))
        · rw [upd_same]
          show _ = some (HO.lst (List.map _ (_ ++ _)))
          rw [List.map_append]
          rfl
      · rintro σ H6 ⟨fs, s6, s7, s8, rfl, a1, a2, a21, a22, a23, a3, a4, a5, _, a6⟩
        refine ⟨_, rfl, _, _, rfl, rfl, fs, _, _, _, rfl, a1, a2, a21, fun i hi => ?_, a3, a4, a5, a6⟩
        by_cases z : i < d
        · exact a22 i z
        · have z : i = d := by omega
          subst z
          intro q h1 _ h3 h4 h5
          exact a23 q h1 (by rw [List.length_drop, hlw]; omega) h3 h4 h5
    · refine ⟨_, rfl, q lf fs H4 sm4 hlf0 hf4 fun g => ⟨fun hg => (fok g hg).2, fun hb => ?_⟩⟩
      have hdl : d = fs.length := by
        have e' : ¬ (d : Int) < ((natV fs).length : Int) := fun y => e (decide_eq_true y)
        rw [nat_len] at e'
        omega
      induction hb with
      | beg => exact f0
      | @back q h1 h2 _ h4 h5 ih =>
        obtain ⟨i, hi⟩ := List.getElem?_of_mem ih
        have hil : i < fs.length := (List.getElem?_eq_some_iff.mp hi).1
        refine fcl i (by omega) q h2 h1 h1 hi ?_
        rw [← hpa]
        intro z
        rcases List.mem_append.mp z with z | z
        · exact h4 z
        · exact h5 (List.mem_singleton.mp z)
end
end Lag

set_option maxRecDepth 100000
set_option maxHeartbeats 8000000
namespace Lag
open PySem PySem.Spec PyProof.Rows L2
abbrev sAddR : Stmt := topS 51 -- @add_rings
theorem NetAt.but {K : PySem.W.Frag} {C p ng nw lt : Addr} {H H' : Hp} {gs : List Gt} {ws : List Wr} {tv : List V} (n : NetAt K C H p ng nw gs ws) (hl : H lt = some (.lst tv)) (h1 : ng ≠ lt) (h2 : nw ≠ lt) (b : But lt H H') : NetAt K C H' p ng nw gs ws := by
  obtain ⟨dx, h⟩ := n.ob
  obtain ⟨gv, hg, ga⟩ := n.g
  obtain ⟨wv, hw, wa⟩ := n.w
  have t : TK H H' := fun c u t e => by
    refine b c u (fun z => ?_) e
    rw [z, hl] at e
    cases e
    exact t
  exact ⟨⟨dx, b _ _ (ne_of h hl (by intro z; cases z)) h⟩, ⟨gv, b _ _ h1 hg, ga.imp fun _ _ r => r.tk t⟩, ⟨wv, b _ _ h2 hw, wa.imp fun _ _ r => r.tk t⟩, n.ne⟩
def ToldV (H : Hp) (lt : Addr) (Av : Addr → Prop) (v : V) (r : List Nat) : Prop := ∃ a, v = .ref a ∧ a ≠ lt ∧ Av a ∧ H a = some (.lst (natV r))
theorem ToldV.but {H H' : Hp} {lt : Addr} {Av : Addr → Prop} {v : V} {r : List Nat} (h : ToldV H lt Av v r) (b : But lt H H') : ToldV H' lt Av v r := by
  obtain ⟨a, e, n, va, ha⟩ := h
  exact ⟨a, e, n, va, b _ _ n ha⟩
def spAddR (K : PySem.W.Frag) (C : Addr) (n : Nat) : Sp := fun vs H Q _ => ∃ (p ng nw lp lt : Addr) (gs : List Gt) (ws : List Wr) (k0 : Nat) (r : List Nat) (tv : List V) (ts : List (List Nat)) (Av : Addr → Prop) (M : Nat), vs = [.ref p, .ref lp, .ref lt] ∧ NetAt K C H p ng nw gs ws ∧ NetOk gs ws ∧ ng ≠ lt ∧ nw ≠ lt ∧ lp ≠ lt ∧ H lp = some (.lst (natV (k0 :: r))) ∧ Und ws (k0 :: r) ∧ ((∀ r', Rw ws r' → r'.length ≤ M) ∧ M ≤ 100 ∧ M + 1 ≤ n + (r.length + 1)) ∧ Av lp ∧ (∀ a, H a = none → Av a) ∧
  H lt = some (.lst tv) ∧ All2 (ToldV H lt Av) tv ts ∧ ts.length + (walkR ws (frB ws) n (k0 :: r)).length ≤ 10000000 ∧ ∀ tv' H', But lt H H' → H' lt = some (.lst tv') → All2 (ToldV H' lt Av) tv' (ts ++ walkR ws (frB ws) n (k0 :: r)) → Q .non H'
section
variable {P : Program} {w : World} {K : PySem.W.Frag} {mg : Str → Option Value} {base : Heap}
abbrev nAddR : List Str := ["net", "path", "told", "start", "end", "free", "place"]
theorem scAddR : FnScope nAddR ["net", "path", "told"] (defScope sAddR) := ⟨rfl, rfl, rfl, by decide +kernel, rfl, by decide +kernel, by decide +kernel⟩
abbrev DAddR (P : Program) (w : World) (K : PySem.W.Frag) (mg : Str → Option Value) (base : Heap) (C : Addr) (n : Nat) := Df P w K mg base (n + 1) "add_rings" ["net", "path", "told"] (spAddR K C n)
theorem ok_addR {f fB C : Addr} {fd fdB : FuncData} (F : Fun K "add_rings" "add_rings" sAddR f fd) (hm : mg "add_rings" = some (.ref f)) (B : Bt mg) (T : NT K mg C) (DB : DBack P w K mg base C fB fdB) : ∀ n, DAddR P w K mg base C n f fd
  | 0 => by
    refine ⟨?_, hm, F.kp, F.binds fun _ _ _ _ _ _ us hl => match us, hl with | [_, _, _], _ => rfl⟩
    refine F.ok scAddR (fun vs H Q E h => ?_) (fun cdv A outer s H vs Q E hr h => ?_)
    · obtain ⟨p, ng, nw, lp, lt, gs, ws, k0, r, tv, ts, Av, M, rfl, _⟩ := h
      rfl
    · obtain ⟨p, ng, nw, lp, lt, gs, ws, k0, r, tv, ts, Av, M, rfl, NA, N, n1, n2, n3, hlp, pin, ⟨hM, hM1, hn⟩, _⟩ := h
      exfalso
      have := hM _ pin.rw
      rw [List.length_cons] at this
      omega
  | n + 1 => by
    have DR := ok_addR (n := n) F hm B T DB
    refine ⟨?_, hm, F.kp, F.binds fun _ _ _ _ _ _ us hl => match us, hl with | [_, _, _], _ => rfl⟩
    refine F.ok scAddR (fun vs H Q E h => ?_) (fun cdv A outer s H vs Q E hr h => ?_)
    · obtain ⟨p, ng, nw, lp, lt, gs, ws, k0, r, tv, ts, Av, M, rfl, _⟩ := h
      rfl
    · obtain ⟨p, ng, nw, lp, lt, gs, ws, k0, r, tv, ts, Av, M, rfl, NA, N, n1, n2, n3, hlp, pin, ⟨hM, hM1, hn⟩, avl, av, hlt, trw, hcap, q⟩ := h
      have nd := scAddR.nd
      have hr1 : Room 1 _ := hr.mono (by omega)
      refine ⟨_, pss_cons (ps_set (i := 3) nd rfl (.inl rfl) (pe_ix ix_tup (pe_ix ix_list (pe_fld (pv 0) rfl) (pe_ix ix_list (pv 1) pe_int (fun _ _ => rfl)) (fun _ _ => rfl)) pe_int (fun _ _ => rfl))) <|
        pss_cons (ps_set (i := 4) nd rfl (.inl rfl) (pe_ix ix_tup (pe_ix ix_list (pe_fld (pv 0) rfl) (pe_ix ix_list (pv 1) (pe_un un_neg pe_int) (fun _ _ => rfl)) (fun _ _ => rfl)) pe_int (fun _ _ => rfl))) <|
        pss_cons (ps_if (pt_cmpR op_eq (pv 4) (pv 3) (nomark _)) (pss_cons (ps_expr (pe_bm PySem.F.plainAttrs_list PySem.F.slot_list_append PySem.F.type_list_append mt_append (pv 2) (pa_cons (pv 1) pa_nil))) (pss_one ps_retN)) pss_nil) <|
        pss_cons (ps_set (i := 5) nd rfl (.inl rfl) (pe_call DB.ok hr1 (by rfl) DB.mg DB.kp DB.bd .nil pass0 (pa_cons (pv 0) (pa_cons (pv 1) pa_nil)))) <|
        pss_one <| ps_for PassesOwn.never rfl (pi_range2 (by rfl) B.range (pa_cons (pe_op op_add (pe_ix ix_list (pv 1) pe_int (fun _ _ => rfl)) pe_int) (pa_cons (pe_callB call_len_seq (by rfl) B.len PySem.boot_len (pa_cons (pe_fld (pv 0) rfl) pa_nil)) pa_nil))) (pg_name (i := 6) nd rfl (.inl rfl)) <|
          pss_one <| ps_if (PW.pt (pw_and (pt_cmpR op_eq (pe_ix ix_tup (pe_ix ix_list (pe_fld (pv 0) rfl) (pv 6) (fun _ _ => rfl)) pe_int (fun _ _ => rfl)) (pv 4) (nomark _)) (pw_and1 (pt_cmpR op_in_seq (pe_ix ix_tup (pe_ix ix_list (pe_fld (pv 0) rfl) (pv 6) (fun _ _ => rfl)) pe_int (fun _ _ => rfl)) (pv 5) (by rfl)))))
            (pss_one (ps_expr (pe_call DR.ok hr (by rfl) DR.mg DR.kp DR.bd .nil pass0 (pa_cons (pv 0) (pa_cons (pe_op op_cat (pv 1) (pe_lst (pa_cons (pv 6) pa_nil))) (pa_cons (pv 2) pa_nil)))))) pss_nil, ?_⟩
      have hgl := N.gl
      have hwl := N.wl
      have hrl := hM _ pin.rw
      rw [List.length_cons] at hrl
      have tl : tv.length = ts.length := trw.1
      obtain ⟨dx, ob⟩ := id NA.ob
      obtain ⟨wv, hwv, wa⟩ := id NA.w
      have hlw : wv.length = ws.length := wa.1
      have hk0 := pin.rw.lt k0 (List.mem_cons_self ..)
      obtain ⟨x0, hx0⟩ : ∃ x, ws[k0]? = some x := ⟨_, List.getElem?_eq_getElem hk0⟩
      obtain ⟨v0, hv0, a0, b0, rfl, s01, s02⟩ := wa.getR hx0
      obtain ⟨r0, kl, hrk⟩ : ∃ r0 kl, k0 :: r = r0 ++ [kl] := ⟨_, _, (List.dropLast_concat_getLast (List.cons_ne_nil _ _)).symm⟩
      have hkl := pin.rw.lt kl (by rw [hrk]; simp)
      obtain ⟨x1, hx1⟩ : ∃ x, ws[kl]? = some x := ⟨_, List.getElem?_eq_getElem hkl⟩
      obtain ⟨v1, hv1, a1, b1, rfl, s11, s12⟩ := wa.getR hx1
      have ee : endL ws (k0 :: r) = x1.2.1 := by rw [hrk, endL_snoc]; exact wen_at hx1
      have es : wst ws k0 = x0.1 := wst_at hx0
      refine ⟨_, rfl, p, C, dx, _, _, rfl, ob, T.cl, T.nW, nf_wires _ _, _, rfl, lp, _, _, .int (k0 : Nat), rfl, rfl, SqL.of hlp, atI_nat (j := 0) rfl, nw, wv, _, _, rfl, rfl, SqL.of hwv, atI_nat hv0, a0, _, _, .int x0.1, rfl, rfl, s01, atI_nat (j := 0) rfl, ?_⟩
      refine ⟨_, rfl, p, C, dx, _, _, rfl, ob, T.cl, T.nW, nf_wires _ _, _, rfl, _, rfl, lp, _, _, .int (kl : Nat), rfl, rfl, SqL.of hlp, ?_, nw, wv, _, _, rfl, rfl, SqL.of hwv, atI_nat hv1, a1, _, _, .int x1.2.1, rfl, rfl, s11, atI_nat (j := 1) rfl, ?_⟩
      · rw [hrk]
        show atI (List.map _ (_ ++ _)) _ = _
        rw [List.map_append]
        exact atI_last _ _
      refine ⟨_, rfl, _, rfl, rfl, _, rfl, ite2 (fun e => ?_) (fun e => ?_)⟩
      · have hcl : x1.2.1 = x0.1 := by
          have := V.int.inj (of_decide_eq_true e)
          omega
        refine ⟨_, rfl, .inl ⟨rfl, _, SqL.of hlt⟩, _, rfl, lt, _, _, rfl, rfl, hlt, by show _ < 2 ^ 24; rw [tl]; omega, ?_⟩
        have hst : endL ws (k0 :: r) = begL ws (k0 :: r) := by rw [ee, hcl]; exact es.symm
        refine q _ _ But.upd upd_same ?_
        rw [walk_stop hst]
        refine All2.snoc (trw.imp fun v r' z => ?_) ⟨lp, rfl, n3, avl, by rw [upd_ne n3]; exact hlp⟩
        obtain ⟨a, e', n', va, ha⟩ := z
        exact ⟨a, e', n', va, by rw [upd_ne n']; exact ha⟩
      · have hne : endL ws (k0 :: r) ≠ begL ws (k0 :: r) := fun z => by
          apply e
          have z : x1.2.1 = x0.1 := by rw [← ee, ← es]; exact z
          rw [z]
          exact decide_eq_true rfl
        rw [walk_nexts hne] at hcap q
        refine ⟨_, rfl, _, rfl, p, ng, nw, lp, gs, ws, k0, r, rfl, NA, N, hlp, pin.rw.lt, by omega, fun lf fs H1 sm1 hlf hf1 ffs => ?_⟩
        have hlt1 := sm1 _ _ hlt
        have nlf : lf ≠ lt := fun z => by
          rw [z, hlt] at hlf
          cases hlf
        refine ⟨_, rfl, lp, _, _, .int (k0 : Nat), rfl, rfl, SqL.of (sm1 _ _ hlp), atI_nat (j := 0) rfl, _, _, rfl, rfl, _, rfl, p, C, dx, _, _, rfl, sm1 _ _ ob, T.cl, T.nW, nf_wires _ _, nw, wv, rfl, .inl (SqL.of (sm1 _ _ hwv)), _, _, rfl, ?_, ?_⟩
        · rw [hlw]
          omega
        have hcnt : ((wv.length : Int) - ((k0 : Nat) + 1 : Int)).toNat = ws.length - (k0 + 1) := by
          rw [hlw]
          omega
        rw [hcnt]
        refine for_range (lo := (k0 : Nat) + 1) (n := ws.length - (k0 + 1)) (fun i σ H2 => ∃ (s6 : Option V) (tv2 : List V), σ = [some (.ref p), some (.ref lp), some (.ref lt), some (.int (x0.1 : Nat)), some (.int (x1.2.1 : Nat)), some (.ref lf), s6] ∧ But lt H1 H2 ∧ H2 lt = some (.lst tv2) ∧ All2 (ToldV H2 lt Av) tv2 (ts ++ nexts ws (frB ws) n (k0 :: r) (k0 + 1 + i)))
          ⟨_, tv, rfl, But.refl _ _, hlt1, by rw [show nexts ws (frB ws) n (k0 :: r) (k0 + 1 + 0) = [] from nexts_low (Nat.le_refl _), List.append_nil]; exact trw.imp fun _ _ z => z.but (But.same sm1)⟩ ?_ ?_
        · rintro i σ H2 hi ⟨s6, tv2, rfl, bt, hlt2, trw2⟩
          have ek : ((k0 : Nat) + 1 : Int) + (i : Nat) = ((k0 + 1 + i : Nat) : Int) := by omega
          rw [ek]
          have hkk : k0 + 1 + i < ws.length := by omega
          obtain ⟨k, hk⟩ : ∃ k, k0 + 1 + i = k := ⟨_, rfl⟩
          have hk1 : k0 + 1 + (i + 1) = k + 1 := by omega
          rw [hk] at hkk trw2 ⊢
          obtain ⟨x, hx⟩ : ∃ x, ws[k]? = some x := ⟨_, List.getElem?_eq_getElem hkk⟩
          have NA2 := (NA.same sm1).but hlt1 n1 n2 bt
          obtain ⟨dx2, ob2⟩ := id NA2.ob
          obtain ⟨wv2, hwv2, wa2⟩ := id NA2.w
          obtain ⟨v2, hv2, a2, b2, rfl, s21, s22⟩ := wa2.getR hx
          have hlp2 := bt _ _ n3 (sm1 _ _ hlp)
          have hlf2 := bt _ _ nlf hf1
          have keep : ¬ ((k0 :: r).headD 0 < k ∧ stA ws k = endL ws (k0 :: r) ∧ frB ws (k0 :: r) (enA ws k) = true) → ∃ (s6 : Option V) (tv2 : List V), [some (.ref p), some (.ref lp), some (.ref lt), some (.int (x0.1 : Nat)), some (.int (x1.2.1 : Nat)), some (.ref lf), some (V.int (k : Nat))] = [some (.ref p), some (.ref lp), some (.ref lt), some (.int (x0.1 : Nat)), some (.int (x1.2.1 : Nat)), some (.ref lf), s6] ∧ But lt H1 H2 ∧ H2 lt = some (.lst tv2) ∧ All2 (ToldV H2 lt Av) tv2 (ts ++ nexts ws (frB ws) n (k0 :: r) (k0 + 1 + (i + 1))) := fun no => ⟨_, tv2, rfl, bt, hlt2, by rw [hk1, nexts_no no]; exact trw2⟩
          have ew : stA ws k = x.1 := wst_at hx
          have ee2 : enA ws k = x.2.1 := wen_at hx
          refine ⟨_, rfl, p, C, dx2, _, _, rfl, ob2, T.cl, T.nW, nf_wires _ _, _, rfl, nw, wv2, _, _, rfl, rfl, SqL.of hwv2, atI_nat hv2, a2, _, _, .int x.1, rfl, rfl, s21, atI_nat (j := 0) rfl, _, rfl, rfl, _, rfl, ite2 (fun e1 => ?_) (fun e1 => iteF (keep fun y => e1 (by rw [← ew, y.2.1, ee]; exact decide_eq_true rfl)))⟩
          refine ⟨_, rfl, p, C, dx2, _, _, rfl, ob2, T.cl, T.nW, nf_wires _ _, _, rfl, nw, wv2, _, _, rfl, rfl, SqL.of hwv2, atI_nat hv2, a2, _, _, .int x.2.1, rfl, rfl, s21, atI_nat (j := 1) rfl, _, rfl, lf, _, rfl, .inl (SqL.of hlf2), rfl, nat_flat _, _, rfl, ?_⟩
          rw [show inV (V.int (x.2.1 : Nat)) (natV fs) = decide (x.2.1 ∈ fs) from nat_in]
          refine ite2 (fun e2 => ?_) (fun e2 => keep fun y => e2 (decide_eq_true ((ffs _).mpr (by rw [← ee2]; exact frB_iff.mp y.2.2))))
          have h1 : x.1 = x1.2.1 := by
            have := V.int.inj (of_decide_eq_true e1)
            omega
          have h2 : x.2.1 ∈ fs := of_decide_eq_true (by simpa using e2)
          have yes : (k0 :: r).headD 0 < k ∧ stA ws k = endL ws (k0 :: r) ∧ frB ws (k0 :: r) (enA ws k) = true := ⟨by show k0 < k; omega, by rw [ew, ee, h1], frB_iff.mpr (by rw [ee2]; exact (ffs _).mp h2)⟩
          have pin2 := pin.next (frB_ok ws) hne (List.mem_filter.mpr ⟨List.mem_range.mpr hkk, decide_eq_true yes⟩)
          have hc2 : (nexts ws (frB ws) n (k0 :: r) (k + 1)).length ≤ (nexts ws (frB ws) n (k0 :: r) ws.length).length := by
            have := nexts_len (ws := ws) (fr := frB ws) (f := n) (m := k + 1) (path := k0 :: r) (ws.length - (k + 1))
            rwa [show k + 1 + (ws.length - (k + 1)) = ws.length by omega] at this
          rw [nexts_yes yes, List.length_append] at hc2
          refine ⟨_, rfl, _, rfl, _, rfl, (by show 1 ≤ sizeLine; decide), fun l3 hl3 => ?_⟩
          have b3 : But lt H2 (upd H2 l3 (.lst [.int (k : Nat)])) := But.new hl3
          have hlt3 : (upd H2 l3 (.lst [.int (k : Nat)])) lt = some (.lst tv2) := by rw [upd_ne (ne_of_none hlt2 hl3)]; exact hlt2
          have e3 : (upd H2 l3 (.lst [.int (k : Nat)])) l3 = some (.lst [.int (k : Nat)]) := upd_same
          generalize upd H2 l3 (.lst [.int (k : Nat)]) = H3 at b3 hlt3 e3
          refine ⟨lp, l3, _, _, rfl, rfl, b3 _ _ n3 hlp2, e3, ?_, fun l4 hl4 => ?_⟩
          · rw [nat_len, List.length_cons]
            show r.length + 1 + 1 ≤ sizeLine
            exact Nat.le_of_lt (small1000 (by omega))
          have b4 : But lt H3 (upd H3 l4 (.lst (natV (k0 :: r) ++ [.int (k : Nat)]))) := But.new hl4
          have hlt4 : (upd H3 l4 (.lst (natV (k0 :: r) ++ [.int (k : Nat)]))) lt = some (.lst tv2) := by rw [upd_ne (ne_of_none hlt3 hl4)]; exact hlt3
          have e4 : (upd H3 l4 (.lst (natV (k0 :: r) ++ [.int (k : Nat)]))) l4 = some (.lst (natV (k0 :: (r ++ [k])))) := by
            rw [upd_same]
            show _ = some (HO.lst (List.map _ ((k0 :: r) ++ _)))
            rw [List.map_append]
            rfl
          have n4 : l4 ≠ lt := (ne_of_none hlt3 hl4).symm
          generalize upd H3 l4 (.lst (natV (k0 :: r) ++ [.int (k : Nat)])) = H4 at b4 hlt4 e4
          have b24 := b3.trans b4
          have dead : ∀ {a : Addr}, H4 a = none → Av a := fun {a} z => av a (by
            cases ha : H a with
            | none => rfl
            | some o =>
              by_cases y : a = lt
              · rw [y, hlt4] at z
                cases z
              · rw [b24 _ _ y (bt _ _ y (sm1 _ _ ha))] at z
                cases z)
          have av4 : Av l4 := av l4 (by
            cases ha : H l4 with
            | none => rfl
            | some o =>
              rw [b3 _ _ n4 (bt _ _ n4 (sm1 _ _ ha))] at hl4
              cases hl4)
          refine ⟨_, rfl, p, ng, nw, l4, lt, gs, ws, k0, r ++ [k], tv2, _, Av, M, rfl, NA2.but hlt2 n1 n2 b24, N, n1, n2, n4, e4, pin2, ⟨hM, hM1, by rw [List.length_append]; show _ ≤ n + (r.length + 1 + 1); omega⟩, av4, fun a z => dead z, hlt4, trw2.imp fun _ _ z => z.but b24, ?_, fun tv5 H5 b5 e5 trw5 => ?_⟩
          · rw [List.length_append]
            show _ + _ + (walkR ws (frB ws) n ((k0 :: r) ++ [k])).length ≤ _
            omega
          refine ⟨_, tv5, rfl, (bt.trans b24).trans b5, e5, ?_⟩
          rw [hk1, nexts_yes yes, ← List.append_assoc]
          exact trw5
        · rintro σ H2 ⟨s6, tv2, rfl, bt, hlt2, trw2⟩
          refine q tv2 H2 ((But.same sm1).trans bt) hlt2 ?_
          have el : k0 + 1 + (ws.length - (k0 + 1)) = ws.length := by omega
          rw [el] at trw2
          exact trw2
end
end Lag

set_option maxRecDepth 100000
set_option maxHeartbeats 8000000
namespace Lag
open PySem PySem.Spec PyProof.Rows L2
abbrev sRings : Stmt := topS 50 -- @rings
theorem und_one {ws : List Wr} {i : Nat} (hi : i < ws.length) : Und ws [i] := ⟨.one hi, fun q hq => by rw [List.mem_singleton.mp hq]; exact Nat.le_refl _, by
  by_cases z : endL ws [i] = begL ws [i]
  · exact .inl z
  · exact .inr fun y => z (List.mem_singleton.mp y)⟩
theorem walks8 {ws : List Wr} {M : Nat} (hM : ∀ r, Rw ws r → r.length ≤ M) (h : M ≤ 7) : walks ws (frB ws) = (List.range ws.length).flatMap fun p => walkR ws (frB ws) 8 [p] := by
  unfold walks
  have e : ∀ l : List Nat, (∀ p ∈ l, p < ws.length) → l.flatMap (fun p => walkR ws (frB ws) (ws.length + 1) [p]) = l.flatMap fun p => walkR ws (frB ws) 8 [p] := fun l => by
    induction l with
    | nil => intro _; rfl
    | cons a l ih =>
      intro hl
      rw [List.flatMap_cons, List.flatMap_cons, ih fun p hp => hl p (List.mem_cons_of_mem _ hp)]
      have hu := und_one (hl a List.mem_cons_self)
      rw [lt_uniq walk_lt walk_lt fun _ => (walk_iff (frB_ok ws) (M := ws.length) (f := ws.length + 1) (fun _ h => h.len) hu (by show _ ≤ ws.length + 1 + 1; omega)).trans (walk_iff (frB_ok ws) (f := 8) hM hu (by show M + 1 ≤ 8 + 1; omega)).symm]
  exact e _ fun p hp => List.mem_range.mp hp
theorem flat_range_le {α : Type} {g : Nat → List α} {m : Nat} : ∀ d, ((List.range m).flatMap g).length ≤ ((List.range (m + d)).flatMap g).length
  | 0 => Nat.le_refl _
  | d + 1 => by
    refine Nat.le_trans (flat_range_le d) ?_
    rw [← Nat.add_assoc, List.range_succ, List.flatMap_append, List.length_append]
    omega
def spRings (K : PySem.W.Frag) (C : Addr) : Sp := fun vs H Q _ => ∃ (p ng nw : Addr) (gs : List Gt) (ws : List Wr) (M : Nat), vs = [.ref p] ∧ NetAt K C H p ng nw gs ws ∧ NetOk gs ws ∧ (∀ r', Rw ws r' → r'.length ≤ M) ∧ M ≤ 7 ∧ (walks ws (frB ws)).length ≤ 10000000 ∧
  ∀ lt tv H', Same H H' → H lt = none → H' lt = some (.lst tv) → All2 (ToldV H' lt fun a => H a = none) tv (walks ws (frB ws)) → Q (.ref lt) H'
section
variable {P : Program} {w : World} {K : PySem.W.Frag} {mg : Str → Option Value} {base : Heap}
theorem scRings : FnScope ["net", "told", "place"] ["net"] (defScope sRings) := ⟨rfl, rfl, rfl, by decide +kernel, rfl, by decide +kernel, by decide +kernel⟩
abbrev DRings (P : Program) (w : World) (K : PySem.W.Frag) (mg : Str → Option Value) (base : Heap) (C : Addr) := Df P w K mg base 10 "rings" ["net"] (spRings K C)
theorem ok_rings {f fA C : Addr} {fd fdA : FuncData} (F : Fun K "rings" "rings" sRings f fd) (hm : mg "rings" = some (.ref f)) (B : Bt mg) (T : NT K mg C) (DA : DAddR P w K mg base C 8 fA fdA) : DRings P w K mg base C f fd := by
  refine ⟨?_, hm, F.kp, F.binds fun _ _ _ _ _ _ us hl => match us, hl with | [_], _ => rfl⟩
  refine F.ok scRings (fun vs H Q E h => ?_) (fun cdv A outer s H vs Q E hr h => ?_)
  · obtain ⟨p, ng, nw, gs, ws, M, rfl, _⟩ := h
    rfl
  · obtain ⟨p, ng, nw, gs, ws, M, rfl, NA, N, hM, hM7, hcap, q⟩ := h
    have hwl := N.wl
    rw [walks8 hM hM7] at hcap q
    have nd := scRings.nd
    refine ⟨_, pss_cons (ps_set (i := 1) nd rfl (.inl rfl) (pe_lst pa_nil)) <|
      pss_cons (ps_for PassesOwn.never rfl (pi_range1 (by rfl) B.range (pa_cons (pe_callB call_len_seq (by rfl) B.len PySem.boot_len (pa_cons (pe_fld (pv 0) rfl) pa_nil)) pa_nil)) (pg_name (i := 2) nd rfl (.inl rfl)) <|
        pss_one <| ps_expr (pe_call DA.ok hr (by rfl) DA.mg DA.kp DA.bd .nil pass0 (pa_cons (pv 0) (pa_cons (pe_lst (pa_cons (pv 2) pa_nil)) (pa_cons (pv 1) pa_nil))))) <|
      pss_one <| ps_ret (pv 1), ?_⟩
    refine ⟨(by show 0 ≤ sizeLine; decide), fun lt hlt => ?_⟩
    have sm : Same H (upd H lt (.lst [])) := same_new hlt
    have e1 : (upd H lt (.lst [])) lt = some (.lst []) := upd_same
    have NA1 := NA.same sm
    obtain ⟨dx, ob⟩ := id NA1.ob
    obtain ⟨gv, hgv, ga⟩ := id NA.g
    obtain ⟨wv, hwv, wa⟩ := id NA.w
    have n1 : ng ≠ lt := ne_of_none hgv hlt
    have n2 : nw ≠ lt := ne_of_none hwv hlt
    have hwv1 := sm _ _ hwv
    generalize upd H lt (.lst []) = H1 at sm e1 NA1 ob hwv1
    have hlw : wv.length = ws.length := wa.1
    have old : ∀ {H2 : Hp} {a : Addr}, But lt H1 H2 → H2 a = none → H a = none := fun {H2 a} bt z => by
      cases ha : H a with
      | none => rfl
      | some o =>
        rw [bt _ _ (ne_of_none ha hlt) (sm _ _ ha)] at z
        cases z
    refine ⟨_, rfl, p, C, dx, _, _, rfl, ob, T.cl, T.nW, nf_wires _ _, nw, wv, rfl, .inl (SqL.of hwv1), _, rfl, by rw [hlw]; omega, by rw [hlw]; omega, ?_⟩
    rw [hlw, Int.toNat_natCast]
    refine for_range (lo := 0) (n := ws.length) (fun i σ H2 => ∃ (s2 : Option V) (tv2 : List V), σ = [some (.ref p), some (.ref lt), s2] ∧ But lt H1 H2 ∧ H2 lt = some (.lst tv2) ∧ All2 (ToldV H2 lt fun a => H a = none) tv2 ((List.range i).flatMap fun p => walkR ws (frB ws) 8 [p]))
      ⟨_, [], rfl, But.refl _ _, e1, All2.nil⟩ ?_ ?_
    · rintro i σ H2 hi ⟨s2, tv2, rfl, bt, hlt2, trw2⟩
      have ek : (0 : Int) + (i : Nat) = ((i : Nat) : Int) := Int.zero_add _
      rw [ek]
      have NA2 := NA1.but e1 n1 n2 bt
      refine ⟨_, rfl, _, rfl, (by show 1 ≤ sizeLine; decide), fun l3 hl3 => ?_⟩
      have b3 : But lt H2 (upd H2 l3 (.lst [.int (i : Nat)])) := But.new hl3
      have hlt3 : (upd H2 l3 (.lst [.int (i : Nat)])) lt = some (.lst tv2) := by rw [upd_ne (ne_of_none hlt2 hl3)]; exact hlt2
      have e3 : (upd H2 l3 (.lst [.int (i : Nat)])) l3 = some (.lst (natV [i])) := upd_same
      have n3 : l3 ≠ lt := (ne_of_none hlt2 hl3).symm
      generalize upd H2 l3 (.lst [.int (i : Nat)]) = H3 at b3 hlt3 e3
      have l3n : H l3 = none := old bt hl3
      have er : (List.range (i + 1)).flatMap (fun p => walkR ws (frB ws) 8 [p]) = (List.range i).flatMap (fun p => walkR ws (frB ws) 8 [p]) ++ walkR ws (frB ws) 8 [i] := by rw [List.range_succ, List.flatMap_append, List.flatMap_cons, List.flatMap_nil, List.append_nil]
      have hc := flat_range_le (g := fun p => walkR ws (frB ws) 8 [p]) (m := i + 1) (ws.length - (i + 1))
      rw [show i + 1 + (ws.length - (i + 1)) = ws.length by omega, er, List.length_append] at hc
      refine ⟨_, rfl, p, ng, nw, l3, lt, gs, ws, i, [], tv2, _, fun a => H a = none, M, rfl, NA2.but hlt2 n1 n2 b3, N, n1, n2, n3, e3, und_one hi, ⟨hM, by omega, by show M + 1 ≤ 8 + (0 + 1); omega⟩, l3n, fun a z => old (bt.trans b3) z, hlt3, trw2.imp fun _ _ z => z.but b3, by omega, fun tv5 H5 b5 e5 trw5 => ?_⟩
      refine ⟨_, tv5, rfl, (bt.trans b3).trans b5, e5, ?_⟩
      rw [er]
      exact trw5
    · rintro σ H2 ⟨s2, tv2, rfl, bt, hlt2, trw2⟩
      exact ⟨_, rfl, q lt tv2 H2 (fun b o h => bt b o (ne_of_none h hlt) (sm _ _ h)) hlt hlt2 trw2⟩
end
end Lag

set_option maxRecDepth 100000
set_option maxHeartbeats 8000000
namespace Lag
open PySem PySem.Spec PyProof.Rows L2
abbrev sLoadOf : Stmt := topS 54 -- @load_of
abbrev sLoads : Stmt := topS 53 -- @loads
abbrev sIsSlow : Stmt := topS 56 -- @is_slower
abbrev sSlow : Stmt := topS 55 -- @slowest
def regsAt (ws : List Wr) (k : Nat) : Int := (((ws.getD k (0, 0, [])).2.2.length : Nat) : Int)
def waitAt (gs : List Gt) (i : Nat) : Int := (gs.getD i ("", 0)).2
theorem waitAt_get {gs : List Gt} {i : Nat} {g : Gt} (h : gs[i]? = some g) : waitAt gs i = g.2 := by
  unfold waitAt
  rw [List.getD_eq_getElem?_getD, h]
  rfl
theorem regsAt_get {ws : List Wr} {k : Nat} {x : Wr} (h : ws[k]? = some x) : regsAt ws k = ((x.2.2.length : Nat) : Int) := by
  unfold regsAt
  rw [List.getD_eq_getElem?_getD, h]
  rfl
def loadW (gs : List Gt) (ws : List Wr) (r : List Nat) : List Int := r.map fun k => waitAt gs (wst ws k)
def loadR (ws : List Wr) (r : List Nat) : List Int := r.map fun k => regsAt ws k
/-- a ring's wait and registers -/
def load (gs : List Gt) (ws : List Wr) (r : List Nat) : List Int := [(loadW gs ws r).sum, (loadR ws r).sum]
theorem getD_mem {ws : List Wr} {p : Nat} (h : p < ws.length) : ws.getD p (0, 0, []) ∈ ws := by
  rw [List.getD_eq_getElem?_getD, List.getElem?_eq_getElem h]
  exact List.getElem_mem _
theorem Rw.rank {ws : List Wr} {ρ : Nat → Nat} (hρ : ∀ x ∈ ws, x.2.2 = [] → ρ x.1 < ρ x.2.1) {r : List Nat} (h : Rw ws r) : (∀ k ∈ r, (ws.getD k (0, 0, [])).2.2 = []) → ρ (begL ws r) < ρ (endL ws r) := by
  induction h with
  | @one p hp =>
    intro h0
    exact hρ (ws.getD p (0, 0, [])) (getD_mem hp) (h0 p (List.mem_singleton.mpr rfl))
  | @snoc r p h1 hp e _ ih =>
    intro h0
    have a := ih fun k hk => h0 k (List.mem_append.mpr (.inl hk))
    have b : ρ (stA ws p) < ρ (enA ws p) := hρ (ws.getD p (0, 0, [])) (getD_mem hp) (h0 p (List.mem_append.mpr (.inr (List.mem_singleton.mpr rfl))))
    rw [endL_snoc, begL_app _ h1.ne]
    rw [e] at b
    exact Nat.lt_trans a b
theorem loadR_nn (ws : List Wr) : ∀ r : List Nat, 0 ≤ (loadR ws r).sum
  | [] => Int.le_refl 0
  | k :: r => by
    show 0 ≤ (regsAt ws k :: loadR ws r).sum
    rw [List.sum_cons]
    have h1 := loadR_nn ws r
    have h2 : 0 ≤ regsAt ws k := Int.natCast_nonneg _
    omega
theorem loadR_zero {ws : List Wr} : ∀ {r : List Nat}, (loadR ws r).sum < 1 → ∀ k ∈ r, (ws.getD k (0, 0, [])).2.2 = []
  | [], _, k, h => nomatch h
  | k :: r, hs, k', h => by
    have hs : (regsAt ws k :: loadR ws r).sum < 1 := hs
    rw [List.sum_cons] at hs
    have h1 := loadR_nn ws r
    have h2 : 0 ≤ regsAt ws k := Int.natCast_nonneg _
    rcases List.mem_cons.mp h with z | z
    · have h3 : regsAt ws k = 0 := by omega
      rw [z]
      have h4 : ((ws.getD k (0, 0, [])).2.2.length : Int) = 0 := h3
      exact List.eq_nil_of_length_eq_zero (by omega)
    · exact loadR_zero (by omega) k' z
theorem ring_pos {gs : List Gt} {ws : List Wr} (N : NetOk gs ws) {r : List Nat} (h : RingR ws r) : 1 ≤ (loadR ws r).sum := by
  obtain ⟨ρ, hρ⟩ := N.rank
  by_cases z : (loadR ws r).sum < 1
  · have := h.rw.rank hρ (loadR_zero z)
    rw [h.cl] at this
    exact absurd this (Nat.lt_irrefl _)
  · omega
theorem loadR_le {gs : List Gt} {ws : List Wr} (N : NetOk gs ws) : ∀ {r : List Nat}, (∀ k ∈ r, k < ws.length) → (loadR ws r).sum ≤ 900 * (r.length : Int)
  | [], _ => Int.le_refl 0
  | k :: r, h => by
    show (regsAt ws k :: loadR ws r).sum ≤ _
    rw [List.sum_cons, List.length_cons]
    have h1 := loadR_le N (r := r) fun k' z => h k' (List.mem_cons_of_mem _ z)
    have h2 := (N.wok _ (getD_mem (h k List.mem_cons_self))).rl
    have h3 : regsAt ws k = (((ws.getD k (0, 0, [])).2.2.length : Nat) : Int) := rfl
    omega
theorem loadW_b {gs : List Gt} {ws : List Wr} (N : NetOk gs ws) : ∀ {r : List Nat}, (∀ k ∈ r, k < ws.length) → 0 ≤ (loadW gs ws r).sum ∧ (loadW gs ws r).sum ≤ 100 * (r.length : Int)
  | [], _ => ⟨Int.le_refl 0, Int.le_refl 0⟩
  | k :: r, h => by
    show 0 ≤ (waitAt gs (wst ws k) :: loadW gs ws r).sum ∧ (waitAt gs (wst ws k) :: loadW gs ws r).sum ≤ _
    rw [List.sum_cons, List.length_cons]
    have h1 := loadW_b N (r := r) fun k' z => h k' (List.mem_cons_of_mem _ z)
    have h2 : wst ws k < gs.length := (N.wok _ (getD_mem (h k List.mem_cons_self))).s
    have h3 := waitAt_get (List.getElem?_eq_getElem h2)
    have h4 := N.gok _ (List.getElem_mem h2)
    rw [h3]
    have h5 := h4.2.1
    have h6 := h4.2.2.1
    omega
theorem slow_trans {o0 o1 b0 b1 n0 n1 : Int} (h1 : o0 * b1 ≤ b0 * o1) (h2 : b0 * n1 ≤ n0 * b1) (ho : 0 ≤ o1) (hn : 0 ≤ n1) (hb : 0 < b1) : o0 * n1 ≤ n0 * o1 := by
  have h3 := Int.mul_le_mul_of_nonneg_right h1 hn
  have h4 := Int.mul_le_mul_of_nonneg_right h2 ho
  refine Int.le_of_mul_le_mul_right (a := b1) ?_ hb
  have e1 : o0 * n1 * b1 = o0 * b1 * n1 := Int.mul_right_comm ..
  have e2 : n0 * o1 * b1 = n0 * b1 * o1 := Int.mul_right_comm ..
  have e3 : b0 * o1 * n1 = b0 * n1 * o1 := Int.mul_right_comm ..
  omega
/-- no other ring is slower -/
def NoSlow (gs : List Gt) (ws : List Wr) (r o : List Nat) : Prop := (loadW gs ws o).sum * (loadR ws r).sum ≤ (loadW gs ws r).sum * (loadR ws o).sum
theorem mul_b {a b : Int} (h1 : 0 ≤ a) (h2 : a ≤ 1000000) (h3 : 0 ≤ b) (h4 : b ≤ 1000000) : (-(2 ^ 64) : Int) < a ∧ a < 2 ^ 64 := by
  have e : (2 ^ 64 : Int) = 18446744073709551616 := by decide
  constructor <;> omega
def spLoadOf (K : PySem.W.Frag) (C : Addr) : Sp := fun vs H Q _ => ∃ (p ng nw lr : Addr) (gs : List Gt) (ws : List Wr) (r : List Nat), vs = [.ref p, .ref lr] ∧ NetAt K C H p ng nw gs ws ∧ NetOk gs ws ∧ H lr = some (.lst (natV r)) ∧ (∀ k ∈ r, k < ws.length) ∧ r.length ≤ 200 ∧
  ∀ l H', Same H H' → H' l = some (.tup ((load gs ws r).map V.int)) → Q (.ref l) H'
def LoadV (H : Hp) (gs : List Gt) (ws : List Wr) (v : V) (r : List Nat) : Prop := ∃ a, v = .ref a ∧ H a = some (.tup ((load gs ws r).map V.int))
theorem LoadV.same {H H' : Hp} {gs : List Gt} {ws : List Wr} {v : V} {r : List Nat} (s : Same H H') (h : LoadV H gs ws v r) : LoadV H' gs ws v r := by
  obtain ⟨a, e, h⟩ := h
  exact ⟨a, e, s _ _ h⟩
theorem LoadV.lst {H : Hp} {D : Addr} {xs ys : List V} {gs : List Gt} {ws : List Wr} {v : V} {r : List Nat} (e : H D = some (.lst xs)) (h : LoadV H gs ws v r) : LoadV (upd H D (.lst ys)) gs ws v r := by
  obtain ⟨a, e', h⟩ := h
  refine ⟨a, e', ?_⟩
  rw [upd_ne (fun z => by rw [z, e] at h; cases h)]
  exact h
def spLoads (K : PySem.W.Frag) (C : Addr) : Sp := fun vs H Q _ => ∃ (p ng nw : Addr) (gs : List Gt) (ws : List Wr) (M : Nat), vs = [.ref p] ∧ NetAt K C H p ng nw gs ws ∧ NetOk gs ws ∧ (∀ r', Rw ws r' → r'.length ≤ M) ∧ M ≤ 7 ∧ (walks ws (frB ws)).length ≤ 10000000 ∧
  ∀ l lv H', Same H H' → H l = none → H' l = some (.lst lv) → All2 (LoadV H' gs ws) lv (walks ws (frB ws)) → Q (.ref l) H'
def spIsSlow (K : PySem.W.Frag) : Sp := fun vs H Q _ => ∃ (a b : Addr) (x y u v : Int), vs = [.ref a, .ref b] ∧ SqT K H a [.int x, .int y] ∧ SqT K H b [.int u, .int v] ∧ (0 ≤ x ∧ x ≤ 1000000) ∧ (0 ≤ u ∧ u ≤ 1000000) ∧ Q (.bl (decide (u * y < x * v))) H
def spSlow (K : PySem.W.Frag) (C : Addr) : Sp := fun vs H Q _ => ∃ (p ng nw : Addr) (gs : List Gt) (ws : List Wr) (M : Nat), vs = [.ref p] ∧ NetAt K C H p ng nw gs ws ∧ NetOk gs ws ∧ (∀ r', Rw ws r' → r'.length ≤ M) ∧ M ≤ 7 ∧ (walks ws (frB ws)).length ≤ 10000000 ∧
  (walks ws (frB ws) = [] → ∀ H', Same H H' → Q .non H') ∧
  ∀ a r H', walks ws (frB ws) ≠ [] → Same H H' → H a = none → H' a = some (.lst (natV r)) → r ∈ walks ws (frB ws) → (∀ o ∈ walks ws (frB ws), NoSlow gs ws r o) → Q (.ref a) H'
section
variable {P : Program} {w : World} {K : PySem.W.Frag} {mg : Str → Option Value} {base : Heap}
abbrev nLoadOf : List Str := ["net", "ring", "place", "wait"]
theorem scLoadOf : FnScope nLoadOf ["net", "ring"] (defScope sLoadOf) := ⟨rfl, rfl, rfl, by decide +kernel, rfl, by decide +kernel, by decide +kernel⟩
abbrev DLoadOf (P : Program) (w : World) (K : PySem.W.Frag) (mg : Str → Option Value) (base : Heap) (C : Addr) := Df P w K mg base 1 "load_of" ["net", "ring"] (spLoadOf K C)
theorem ok_loadOf {f C : Addr} {fd : FuncData} (F : Fun K "load_of" "load_of" sLoadOf f fd) (hm : mg "load_of" = some (.ref f)) (B : Bt mg) (ms : mg "sum" = none) (T : NT K mg C) : DLoadOf P w K mg base C f fd := by
  refine ⟨?_, hm, F.kp, F.binds fun _ _ _ _ _ _ us hl => match us, hl with | [_, _], _ => rfl⟩
  refine F.ok scLoadOf (fun vs H Q E h => ?_) (fun cdv A outer s H vs Q E hr h => ?_)
  · obtain ⟨p, ng, nw, lr, gs, ws, r, rfl, _⟩ := h
    rfl
  · obtain ⟨p, ng, nw, lr, gs, ws, r, rfl, NA, N, hlr, hlt, hrl, q⟩ := h
    have nd := scLoadOf.nd
    refine ⟨_, pss_cons (ps_set (i := 3) nd rfl (.inl rfl) (pe_callB (cr_sum rfl) (by rfl) ms (by decide +kernel) (pa_cons (pe_lc (own := [("place", 2)]) (g := gName 2) (tt := tYes) (te := tOp (rIxT K) (tOp (rIxL K) (tFld K (tVar 0) "gates") (tOp (rIxT K) (tOp (rIxL K) (tFld K (tVar 0) "wires") (tVar 2)) (tC (.int 0)))) (tC (.int 1))) rfl nd
          (pi_list (pv 1)) (blkOk_by (N := nLoadOf) (sc := defScope sLoadOf) (own := [("place", 2)]) (by decide +kernel)) (fun _ _ _ _ _ => pg_name (i := 2) nd rfl (.inl rfl)) (fun _ _ _ _ _ => pts_nil)
          (fun _ _ _ _ _ => pe_ix ix_tup (pe_ix ix_list (pe_fld (pv 0) rfl) (pe_ix ix_tup (pe_ix ix_list (pe_fld (pv 0) rfl) (pv 2) (fun _ _ => rfl)) pe_int (fun _ _ => rfl)) (fun _ _ => rfl)) pe_int (fun _ _ => rfl))) pa_nil))) <|
      pss_one <| ps_ret <| pe_tup (pa_cons (pv 3) (pa_cons (pe_callB (cr_sum rfl) (by rfl) ms (by decide +kernel) (pa_cons (pe_lc (own := [("place", 2)]) (g := gName 2) (tt := tYes) (te := tCB (Evl.rLenS K) (tCons (tOp (rIxT K) (tOp (rIxL K) (tFld K (tVar 0) "wires") (tVar 2)) (tC (.int 2))) tNil)) rfl nd
          (pi_list (pv 1)) (blkOk_by (N := nLoadOf) (sc := defScope sLoadOf) (own := [("place", 2)]) (by decide +kernel)) (fun _ _ _ _ _ => pg_name (i := 2) nd rfl (.inl rfl)) (fun _ _ _ _ _ => pts_nil)
          (fun _ _ _ _ _ => pe_callB call_len_seq (by rfl) B.len PySem.boot_len (pa_cons (pe_ix ix_tup (pe_ix ix_list (pe_fld (pv 0) rfl) (pv 2) (fun _ _ => rfl)) pe_int (fun _ _ => rfl)) pa_nil))) pa_nil)) pa_nil)), ?_⟩
    have hwl := N.wl
    obtain ⟨dx, ob⟩ := id NA.ob
    obtain ⟨gv, hgv, ga⟩ := id NA.g
    obtain ⟨wv, hwv, wa⟩ := id NA.w
    have hlw : wv.length = ws.length := wa.1
    refine ⟨_, rfl, lr, rfl, ⟨_, SqL.of hlr⟩, fun D hD => ?_⟩
    refine lc_list (K := K) (a := lr) (xs := natV r) (fun i Hc => Hc D = some (.lst ((loadW gs ws (r.take i)).map V.int)) ∧ Same H Hc) ⟨by rw [upd_same]; rfl, same_new hD⟩ (fun i Hc _ ⟨_, sm⟩ => SqL.of (sm _ _ hlr)) ?_ ?_
    · rintro i v Hc hv ⟨hc, sm⟩
      obtain ⟨k, hk, rfl⟩ : ∃ k, r[i]? = some k ∧ v = .int (k : Nat) := by
        rw [List.getElem?_map] at hv
        cases e : r[i]? with
        | none => rw [e] at hv; cases hv
        | some k => rw [e] at hv; cases hv; exact ⟨k, rfl, rfl⟩
      have hkl := hlt k (List.mem_of_getElem? hk)
      obtain ⟨x, hx⟩ : ∃ x, ws[k]? = some x := ⟨_, List.getElem?_eq_getElem hkl⟩
      obtain ⟨v, hv', a, b, rfl, s1, s2⟩ := wa.getR hx
      have WX := N.wok x (List.mem_of_getElem? hx)
      obtain ⟨g, hg⟩ : ∃ g, gs[x.1]? = some g := ⟨_, List.getElem?_eq_getElem WX.s⟩
      obtain ⟨v2, hv2, a2, rfl, s3⟩ := ga.getR hg
      have tk := TK.same sm
      refine ⟨rfl, tyes ?_⟩
      refine ⟨_, rfl, p, C, dx, _, _, rfl, sm _ _ ob, T.cl, T.nG, nf_gates _ _, _, rfl, p, C, dx, _, _, rfl, sm _ _ ob, T.cl, T.nW, nf_wires _ _, _, rfl, nw, wv, _, _, rfl, rfl, SqL.of (sm _ _ hwv), atI_nat hv', a, _, _, .int x.1, rfl, rfl, tk.seq s1, atI_nat (j := 0) rfl, ng, gv, _, _, rfl, rfl, SqL.of (sm _ _ hgv), atI_nat hv2, a2, _, _, .int g.2, rfl, rfl, tk.seq s3, atI_nat (j := 1) rfl, _, hc, ?_, ?_, same_mut sm hD⟩
      · unfold loadW
        rw [List.length_map, List.length_map, List.length_take]
        exact small1000 (by omega)
      · rw [upd_same, List.take_add_one, hk]
        unfold loadW
        rw [List.map_append, List.map_append]
        show _ = some (HO.lst (_ ++ [V.int (waitAt gs (wst ws k))]))
        rw [wst_at hx, waitAt_get hg]
    rintro H1 ⟨hc1, sm1⟩
    rw [nat_len, List.take_length] at hc1
    refine ⟨D, _, rfl, SqL.of hc1, ?_⟩
    have tk1 := TK.same sm1
    refine gn_norm (σ' := [some (.ref p), some (.ref lr), none, some (.int (loadW gs ws r).sum)]) rfl ?_
    refine ⟨_, rfl, _, rfl, lr, rfl, ⟨_, SqL.of (sm1 _ _ hlr)⟩, fun D2 hD2 => ?_⟩
    refine lc_list (K := K) (a := lr) (xs := natV r) (fun i Hc => Hc D2 = some (.lst ((loadR ws (r.take i)).map V.int)) ∧ Same H1 Hc) ⟨by rw [upd_same]; rfl, same_new hD2⟩ (fun i Hc _ ⟨_, sm⟩ => SqL.of (sm _ _ (sm1 _ _ hlr))) ?_ ?_
    · rintro i v Hc hv ⟨hc, sm⟩
      obtain ⟨k, hk, rfl⟩ : ∃ k, r[i]? = some k ∧ v = .int (k : Nat) := by
        rw [List.getElem?_map] at hv
        cases e : r[i]? with
        | none => rw [e] at hv; cases hv
        | some k => rw [e] at hv; cases hv; exact ⟨k, rfl, rfl⟩
      have hkl := hlt k (List.mem_of_getElem? hk)
      obtain ⟨x, hx⟩ : ∃ x, ws[k]? = some x := ⟨_, List.getElem?_eq_getElem hkl⟩
      obtain ⟨v, hv', a, b, rfl, s1, s2⟩ := wa.getR hx
      have sm' := sm1.trans sm
      have tk := TK.same sm'
      refine ⟨rfl, tyes ?_⟩
      refine ⟨_, rfl, p, C, dx, _, _, rfl, sm' _ _ ob, T.cl, T.nW, nf_wires _ _, _, rfl, nw, wv, _, _, rfl, rfl, SqL.of (sm' _ _ hwv), atI_nat hv', a, _, _, .ref b, rfl, rfl, tk.seq s1, atI_nat (j := 2) rfl, b, _, rfl, .inr (tk.seq s2), _, hc, ?_, ?_, same_mut sm hD2⟩
      · unfold loadR
        rw [List.length_map, List.length_map, List.length_take]
        exact small1000 (by omega)
      · rw [upd_same, List.take_add_one, hk]
        unfold loadR
        rw [List.map_append, List.map_append, List.length_map]
        show _ = some (HO.lst (_ ++ [V.int (regsAt ws k)]))
        rw [regsAt_get hx]
    rintro H2 ⟨hc2, sm2⟩
    rw [nat_len, List.take_length] at hc2
    refine ⟨D2, _, rfl, SqL.of hc2, (by show 2 ≤ sizeLine; decide), fun l hl => ?_⟩
    exact q l _ ((sm1.trans sm2).trans (same_new hl)) upd_same
abbrev nLoads : List Str := ["net", "ring"]
theorem scLoads : FnScope nLoads ["net"] (defScope sLoads) := ⟨rfl, rfl, rfl, by decide +kernel, rfl, by decide +kernel, by decide +kernel⟩
abbrev DLoads (P : Program) (w : World) (K : PySem.W.Frag) (mg : Str → Option Value) (base : Heap) (C : Addr) := Df P w K mg base 11 "loads" ["net"] (spLoads K C)
theorem ok_loads {f fL fR C : Addr} {fd fdL fdR : FuncData} (F : Fun K "loads" "loads" sLoads f fd) (hm : mg "loads" = some (.ref f)) (DLO : DLoadOf P w K mg base C fL fdL) (DRi : DRings P w K mg base C fR fdR) : DLoads P w K mg base C f fd := by
  refine ⟨?_, hm, F.kp, F.binds fun _ _ _ _ _ _ us hl => match us, hl with | [_], _ => rfl⟩
  refine F.ok scLoads (fun vs H Q E h => ?_) (fun cdv A outer s H vs Q E hr h => ?_)
  · obtain ⟨p, ng, nw, gs, ws, M, rfl, _⟩ := h
    rfl
  · obtain ⟨p, ng, nw, gs, ws, M, rfl, NA, N, hM, hM7, hcap, q⟩ := h
    have nd := scLoads.nd
    refine ⟨_, pss_one (ps_ret (pe_lc (own := [("ring", 1)]) (g := (gName 1)) (tt := tYes) (te := (tCall (spLoadOf K C) [] E0 (tCons (tVar 0) (tCons (tVar 1) tNil)))) rfl nd (pi_list (pe_call DRi.ok (hr.mono (by decide)) (by rfl) DRi.mg DRi.kp DRi.bd .nil pass0 (pa_cons (pv 0) pa_nil))) (blkOk_by (N := nLoads) (sc := defScope sLoads) (own := [("ring", 1)]) (by decide +kernel)) (fun _ _ _ _ _ => (pg_name (i := 1) nd rfl (.inl rfl))) (fun _ _ _ _ _ => pts_nil) (fun _ _ _ _ _ => (pe_call DLO.ok (hr.mono (by decide)) (by rfl) DLO.mg DLO.kp DLO.bd .nil pass0 (pa_cons (pv 0) (pa_cons (pv 1) pa_nil)))))), ?_⟩
    refine ⟨_, rfl, p, ng, nw, gs, ws, M, rfl, NA, N, hM, hM7, hcap, fun lt tv H1 sm1 hlt elt trw => ?_⟩
    refine ⟨lt, rfl, ⟨_, SqL.of elt⟩, fun D hD => ?_⟩
    have hD0 : H D = none := sm1.free hD
    have nD : lt ≠ D := ne_of_none elt hD
    have htl : tv.length = (walks ws (frB ws)).length := trw.1
    refine lc_list (K := K) (a := lt) (xs := tv) (fun i Hc => ∃ acc, Hc D = some (.lst acc) ∧ acc.length = i ∧ All2 (LoadV Hc gs ws) acc ((walks ws (frB ws)).take i) ∧ Same H1 Hc) ⟨[], upd_same, rfl, All2.nil, same_new hD⟩ (fun i Hc _ ⟨_, _, _, _, sm⟩ => SqL.of (sm _ _ elt)) ?_ ?_
    · rintro i v Hc hv ⟨acc, hc, hal, aa, sm⟩
      obtain ⟨r, hr', a, rfl, na, _, ha⟩ := trw.get hv
      have hi : i < tv.length := (List.getElem?_eq_some_iff.mp hv).1
      have hring := (mem_walks (frB_ok ws)).mp (List.mem_of_getElem? hr')
      have hrl := hM _ hring.rw
      refine ⟨rfl, tyes ?_⟩
      refine ⟨_, rfl, _, rfl, p, ng, nw, a, gs, ws, r, rfl, (NA.same sm1).same sm, N, sm _ _ ha, hring.rw.lt, by omega, fun l H' s' el => ?_⟩
      refine ⟨acc, s' _ _ hc, by show _ < 2 ^ 24; omega, acc ++ [.ref l], upd_same, by rw [List.length_append, hal]; rfl, ?_, same_mut (sm.trans s') hD⟩
      rw [List.take_add_one, hr']
      exact (aa.imp fun _ _ z => (z.same s').lst (s' _ _ hc)).snoc (LoadV.lst (s' _ _ hc) ⟨l, rfl, el⟩)
    · rintro H2 ⟨acc, hc, hal, aa, sm⟩
      rw [htl, List.take_length] at aa
      exact q D acc H2 (sm1.trans sm) hD0 hc aa
abbrev nIsSlow : List Str := ["load", "other"]
theorem scIsSlow : FnScope nIsSlow ["load", "other"] (defScope sIsSlow) := ⟨rfl, rfl, rfl, by decide +kernel, rfl, by decide +kernel, by decide +kernel⟩
abbrev DIsSlow (P : Program) (w : World) (K : PySem.W.Frag) (mg : Str → Option Value) (base : Heap) := Df P w K mg base 1 "is_slower" ["load", "other"] (spIsSlow K)
theorem ok_isSlow {f : Addr} {fd : FuncData} (F : Fun K "is_slower" "is_slower" sIsSlow f fd) (hm : mg "is_slower" = some (.ref f)) : DIsSlow P w K mg base f fd := by
  refine ⟨?_, hm, F.kp, F.binds fun _ _ _ _ _ _ us hl => match us, hl with | [_, _], _ => rfl⟩
  refine F.ok scIsSlow (fun vs H Q E h => ?_) (fun cdv A outer s H vs Q E hr h => ?_)
  · obtain ⟨a, b, x, y, u, v, rfl, _⟩ := h
    rfl
  · obtain ⟨a, b, x, y, u, v, rfl, s1, s2, ⟨x0, x1⟩, ⟨u0, u1⟩, q⟩ := h
    have nd := scIsSlow.nd
    refine ⟨_, pss_one (ps_ret (pe_cmpR op_gt (pe_op op_mul (pe_ix ix_tup (pv 0) pe_int (fun _ _ => rfl)) (pe_ix ix_tup (pv 1) pe_int (fun _ _ => rfl))) (pe_op op_mul (pe_ix ix_tup (pv 1) pe_int (fun _ _ => rfl)) (pe_ix ix_tup (pv 0) pe_int (fun _ _ => rfl))) (nomark _))), ?_⟩
    have bx := mul_b x0 x1 (Int.le_refl 0) (by decide)
    have bu := mul_b u0 u1 (Int.le_refl 0) (by decide)
    refine ⟨_, rfl, a, _, _, .int x, rfl, rfl, s1, atI_nat (j := 0) rfl, _, rfl, b, _, _, .int v, rfl, rfl, s2, atI_nat (j := 1) rfl, _, _, rfl, rfl, .inl bx, ?_⟩
    refine ⟨_, rfl, b, _, _, .int u, rfl, rfl, s2, atI_nat (j := 0) rfl, _, rfl, a, _, _, .int y, rfl, rfl, s1, atI_nat (j := 1) rfl, _, _, rfl, rfl, .inl bu, ?_⟩
    exact ⟨_, _, rfl, rfl, q⟩
abbrev nSlow : List Str := ["net", "best", "ring"]
theorem scSlow : FnScope nSlow ["net"] (defScope sSlow) := ⟨rfl, rfl, rfl, by decide +kernel, rfl, by decide +kernel, by decide +kernel⟩
abbrev DSlow (P : Program) (w : World) (K : PySem.W.Frag) (mg : Str → Option Value) (base : Heap) (C : Addr) := Df P w K mg base 11 "slowest" ["net"] (spSlow K C)
theorem ok_slow {f fL fR fI C : Addr} {fd fdL fdR fdI : FuncData} (F : Fun K "slowest" "slowest" sSlow f fd) (hm : mg "slowest" = some (.ref f)) (DLO : DLoadOf P w K mg base C fL fdL) (DRi : DRings P w K mg base C fR fdR) (DIS : DIsSlow P w K mg base fI fdI) : DSlow P w K mg base C f fd := by
  refine ⟨?_, hm, F.kp, F.binds fun _ _ _ _ _ _ us hl => match us, hl with | [_], _ => rfl⟩
  refine F.ok scSlow (fun vs H Q E h => ?_) (fun cdv A outer s H vs Q E hr h => ?_)
  · obtain ⟨p, ng, nw, gs, ws, M, rfl, _⟩ := h
    rfl
  · obtain ⟨p, ng, nw, gs, ws, M, rfl, NA, N, hM, hM7, hcap, q0, q⟩ := h
    have nd := scSlow.nd
    refine ⟨_, pss_cons (ps_set (i := 1) nd rfl (.inl rfl) pe_non) <|
        pss_cons (ps_for PassesOwn.never rfl (pi_list (pe_call DRi.ok (hr.mono (by decide)) (by rfl) DRi.mg DRi.kp DRi.bd .nil pass0 (pa_cons (pv 0) pa_nil))) (pg_name (i := 2) nd rfl (.inl rfl)) (pss_one (ps_if (PW.pt (pw_or (pt_cmpR op_isN (pv 1) pe_non (nomark _)) (pw_or1 (pt_val (pe_call DIS.ok (hr.mono (by decide)) (by rfl) DIS.mg DIS.kp DIS.bd .nil pass0 (pa_cons (pe_call DLO.ok (hr.mono (by decide)) (by rfl) DLO.mg DLO.kp DLO.bd .nil pass0 (pa_cons (pv 0) (pa_cons (pv 2) pa_nil))) (pa_cons (pe_call DLO.ok (hr.mono (by decide)) (by rfl) DLO.mg DLO.kp DLO.bd .nil pass0 (pa_cons (pv 0) (pa_cons (pv 1) pa_nil))) pa_nil))))))) (pss_one (ps_set (i := 1) nd rfl (.inl rfl) (pv 2))) pss_nil))) <|
        pss_one (ps_ret (pv 1)), ?_⟩
    refine ⟨_, rfl, p, ng, nw, gs, ws, M, rfl, NA, N, hM, hM7, hcap, fun lt tv H1 sm1 hlt elt trw => ?_⟩
    have htl : tv.length = (walks ws (frB ws)).length := trw.1
    refine ⟨lt, rfl, ⟨_, SqL.of elt⟩, for_list (K := K) (a := lt) (xs := tv) (fun i σ Hc => ∃ (b : V) (s2 : Option V), σ = [some (.ref p), some b, s2] ∧ Same H1 Hc ∧ (i = 0 ∧ b = .non ∨ ∃ (a : Addr) (r : List Nat), b = .ref a ∧ H a = none ∧ H1 a = some (.lst (natV r)) ∧ r ∈ walks ws (frB ws) ∧ ∀ o ∈ (walks ws (frB ws)).take i, NoSlow gs ws r o))
      ⟨_, _, rfl, Same.refl _, .inl ⟨rfl, rfl⟩⟩ (fun i σ Hc _ ⟨_, _, _, sm, _⟩ => SqL.of (sm _ _ elt)) ?_ ?_⟩
    · rintro i v σ Hc hv ⟨b, s2, rfl, sm, hb⟩
      obtain ⟨r, hr', a, rfl, na, ha0, ha⟩ := trw.get hv
      have hrw := List.mem_of_getElem? hr'
      have hring := (mem_walks (frB_ok ws)).mp hrw
      have hrl := hM _ hring.rw
      have hi : i < (walks ws (frB ws)).length := (List.getElem?_eq_some_iff.mp hr').1
      have tk : (walks ws (frB ws)).take (i + 1) = (walks ws (frB ws)).take i ++ [r] := by rw [List.take_add_one, hr']; rfl
      have NA1 := NA.same sm1
      have self : NoSlow gs ws r r := Int.le_refl _
      refine ⟨_, rfl, rfl, _, rfl, ?_⟩
      rcases hb with ⟨i0, rfl⟩ | ⟨a0, r0, rfl, ha00, ha01, hr0, ho⟩
      · refine ite2 (fun _ => ?_) (fun e => absurd (decide_eq_true rfl) e)
        refine ite2 (fun _ => ?_) (fun e => absurd rfl e)
        refine ⟨_, rfl, _, _, rfl, sm, .inr ⟨a, r, rfl, ha0, ha, hrw, fun o ho => ?_⟩⟩
        rw [tk, i0] at ho
        rw [List.mem_singleton.mp ho]
        exact self
      · refine ite2 (fun e => absurd (of_decide_eq_true e) (fun z => nomatch z)) (fun _ => ?_)
        have hring0 := (mem_walks (frB_ok ws)).mp hr0
        have hrl0 := hM _ hring0.rw
        refine ⟨_, rfl, _, rfl, p, ng, nw, a, gs, ws, r, rfl, NA1.same sm, N, sm _ _ ha, hring.rw.lt, by omega, fun l2 H2 s2 e2 => ?_⟩
        refine ⟨_, rfl, _, rfl, p, ng, nw, a0, gs, ws, r0, rfl, (NA1.same sm).same s2, N, s2 _ _ (sm _ _ ha01), hring0.rw.lt, by omega, fun l3 H3 s3 e3 => ?_⟩
        have b1 := loadW_b N hring.rw.lt
        have b2 := loadW_b N hring0.rw.lt
        have b3 := loadR_nn ws r
        refine ⟨l2, l3, (loadW gs ws r).sum, (loadR ws r).sum, (loadW gs ws r0).sum, (loadR ws r0).sum, rfl, .inl (.inl (s3 _ _ e2)), .inl (.inl e3), ⟨b1.1, by omega⟩, ⟨b2.1, by omega⟩, ?_⟩
        have sm' := sm.trans (s2.trans s3)
        refine ⟨_, rfl, ite2 (fun e => ?_) (fun e => ?_)⟩
        · refine ⟨_, rfl, _, _, rfl, sm', .inr ⟨a, r, rfl, ha0, ha, hrw, fun o ho' => ?_⟩⟩
          have e := of_decide_eq_true e
          rw [tk] at ho'
          rcases List.mem_append.mp ho' with z | z
          · exact slow_trans (ho o z) (Int.le_of_lt e) (loadR_nn ws o) b3 (by have := ring_pos N hring0; omega)
          · rw [List.mem_singleton.mp z]
            exact self
        · refine ⟨_, _, rfl, sm', .inr ⟨a0, r0, rfl, ha00, ha01, hr0, fun o ho' => ?_⟩⟩
          have e : ¬ (loadW gs ws r0).sum * (loadR ws r).sum < (loadW gs ws r).sum * (loadR ws r0).sum := fun z => e (decide_eq_true z)
          rw [tk] at ho'
          rcases List.mem_append.mp ho' with z | z
          · exact ho o z
          · rw [List.mem_singleton.mp z]
            show (loadW gs ws r).sum * (loadR ws r0).sum ≤ (loadW gs ws r0).sum * (loadR ws r).sum
            omega
    · rintro σ Hc ⟨b, s2, rfl, sm, hb⟩
      have smA := sm1.trans sm
      rcases hb with ⟨i0, rfl⟩ | ⟨a0, r0, rfl, ha00, ha01, hr0, ho⟩
      · refine ⟨_, rfl, q0 (List.eq_nil_of_length_eq_zero (by omega)) Hc smA⟩
      · rw [htl, List.take_length] at ho
        exact ⟨_, rfl, q a0 r0 Hc (List.ne_nil_of_mem hr0) smA ha00 (sm _ _ ha01) hr0 ho⟩
end
end Lag

set_option maxRecDepth 100000
set_option maxHeartbeats 8000000
namespace Lag
open PySem PySem.Spec PyProof.Rows L2
abbrev sOuter : Stmt := topS 27 -- @is_outer
def spOuter (K : PySem.W.Frag) : Sp := fun vs H Q _ => ∃ (v : V) (g : Gt), vs = [v] ∧ GateV K H v g ∧ ∀ b : Bool, (b = true ↔ portK g.1) → Q (.bl b) H
theorem port_in {k : Str} : inV (.str k) [.str "in", .str "out"] = true ↔ portK k := by
  unfold inV
  rw [List.any_eq_true]
  constructor
  · rintro ⟨v, hv, he⟩
    simp only [List.mem_cons, List.not_mem_nil, or_false] at hv
    rcases hv with rfl | rfl
    · exact .inl (eq_of_beq he).symm
    · exact .inr (eq_of_beq he).symm
  · rintro (rfl | rfl)
    · exact ⟨_, List.mem_cons_self .., beq_self_eq_true _⟩
    · exact ⟨_, List.mem_cons_of_mem _ (List.mem_cons_self ..), beq_self_eq_true _⟩
section
variable {P : Program} {w : World} {K : PySem.W.Frag} {mg : Str → Option Value} {base : Heap}
theorem scOuter : FnScope ["gate"] ["gate"] (defScope sOuter) := ⟨rfl, rfl, rfl, by decide +kernel, rfl, by decide +kernel, by decide +kernel⟩
abbrev DOuter (P : Program) (w : World) (K : PySem.W.Frag) (mg : Str → Option Value) (base : Heap) := Df P w K mg base 1 "is_outer" ["gate"] (spOuter K)
theorem ok_outer {f aK aW aF : Addr} {fd : FuncData} (F : Fun K "is_outer" "is_outer" sOuter f fd) (hm : mg "is_outer" = some (.ref f)) (C : Cns K mg aK aW aF) : DOuter P w K mg base f fd := by
  refine ⟨?_, hm, F.kp, F.binds fun _ _ _ _ _ _ us hl => match us, hl with | [_], _ => rfl⟩
  refine F.ok scOuter (fun vs H Q E h => ?_) (fun cdv A outer s H vs Q E hr h => ?_)
  · obtain ⟨v, g, rfl, _⟩ := h
    rfl
  · obtain ⟨v, g, rfl, ⟨a, rfl, sq⟩, q⟩ := h
    refine ⟨_, pss_one <| ps_ret <| pe_cmpR op_in_seq (pe_ix ix_tup (pv 0) pe_int (fun _ _ => rfl)) (pe_glob (v := .ref aW) (by rfl) C.mW rfl) (by rfl), ?_⟩
    exact ⟨_, rfl, a, _, 0, _, rfl, rfl, sq, atI_nat (j := 0) rfl, aW, _, rfl, .inr (C.sW H), rfl, rfl, q _ port_in⟩
end
end Lag

set_option maxRecDepth 100000
set_option maxHeartbeats 8000000
namespace Lag
open PySem PySem.Spec PyProof.Rows L2
/-! ### the best ways from a gate: the mathematics -/
abbrev Cst := Int × Int
def gw (gs : List Gt) (g : Nat) : Int := (gs.getD g ("", 0)).2
/-- a way's cost, one wire longer -/
def addC (gs : List Gt) (c : Cst) (x : Wr) : Cst := (c.1 + ((x.2.2.length : Nat) : Int), c.2 - gw gs x.2.1)
def ltC (a b : Cst) : Prop := a.1 < b.1 ∨ (a.1 = b.1 ∧ a.2 < b.2)
instance (a b : Cst) : Decidable (ltC a b) := by unfold ltC; exact inferInstance
def leC (a b : Cst) : Prop := ¬ ltC b a
theorem leC.refl (a : Cst) : leC a a := fun h => by
  rcases h with h | h
  · omega
  · omega
theorem leC_iff {a b : Cst} : leC a b ↔ a.1 < b.1 ∨ (a.1 = b.1 ∧ a.2 ≤ b.2) := by
  unfold leC ltC
  omega
theorem leC.trans {a b c : Cst} (h : leC a b) (h' : leC b c) : leC a c := by
  rw [leC_iff] at *
  omega
theorem ltC.le {a b : Cst} (h : ltC a b) : leC a b := by
  rw [leC_iff]
  unfold ltC at h
  omega
theorem leC.add {gs : List Gt} {a b : Cst} (x : Wr) (h : leC a b) : leC (addC gs a x) (addC gs b x) := by
  rw [leC_iff] at *
  unfold addC
  show a.1 + _ < b.1 + _ ∨ (a.1 + _ = b.1 + _ ∧ a.2 - _ ≤ b.2 - _)
  omega
theorem leC.anti {a b : Cst} (h : leC a b) (h' : leC b a) : a = b := by
  rw [leC_iff] at *
  exact Prod.ext (by omega) (by omega)
abbrev Dst := Nat → Option Cst
def setD (D : Dst) (g : Nat) (c : Cst) : Dst := fun j => if j = g then some c else D j
/-- whether this wire betters what is known -/
def bet (gs : List Gt) (D : Dst) (x : Wr) : Prop := ∃ c, D x.1 = some c ∧ ∀ o, D x.2.1 = some o → ltC (addC gs c x) o
def rel (gs : List Gt) (D : Dst) (x : Wr) : Dst := match D x.1 with
  | none => D
  | some c => match D x.2.1 with
    | none => setD D x.2.1 (addC gs c x)
    | some o => if ltC (addC gs c x) o then setD D x.2.1 (addC gs c x) else D
theorem rel_none {gs : List Gt} {D : Dst} {x : Wr} (h : D x.1 = none) : rel gs D x = D := by
  unfold rel
  rw [h]
theorem rel_new {gs : List Gt} {D : Dst} {x : Wr} {c : Cst} (h : D x.1 = some c) (h2 : D x.2.1 = none) : rel gs D x = setD D x.2.1 (addC gs c x) := by
  unfold rel
  rw [h, h2]
theorem rel_old {gs : List Gt} {D : Dst} {x : Wr} {c o : Cst} (h : D x.1 = some c) (h2 : D x.2.1 = some o) : rel gs D x = if ltC (addC gs c x) o then setD D x.2.1 (addC gs c x) else D := by
  unfold rel
  rw [h, h2]
/-- no worse anywhere -/
def leD (D D' : Dst) : Prop := ∀ g c', D' g = some c' → ∃ c, D g = some c ∧ leC c c'
theorem leD.refl (D : Dst) : leD D D := fun g c h => ⟨c, h, leC.refl c⟩
theorem leD.trans {a b c : Dst} (h : leD a b) (h' : leD b c) : leD a c := fun g z hz => by
  obtain ⟨y, hy, h1⟩ := h' g z hz
  obtain ⟨x, hx, h2⟩ := h g y hy
  exact ⟨x, hx, h2.trans h1⟩
theorem rel_le (gs : List Gt) (D : Dst) (x : Wr) : leD (rel gs D x) D := by
  intro g c' hg
  cases h : D x.1 with
  | none =>
    rw [rel_none h]
    exact ⟨c', hg, leC.refl _⟩
  | some c =>
    cases h2 : D x.2.1 with
    | none =>
      rw [rel_new h h2]
      unfold setD
      by_cases e : g = x.2.1
      · rw [e, h2] at hg
        cases hg
      · rw [if_neg e]
        exact ⟨c', hg, leC.refl _⟩
    | some o =>
      rw [rel_old h h2]
      by_cases hl : ltC (addC gs c x) o
      · rw [if_pos hl]
        unfold setD
        by_cases e : g = x.2.1
        · rw [if_pos e]
          rw [e, h2] at hg
          cases hg
          exact ⟨_, rfl, hl.le⟩
        · rw [if_neg e]
          exact ⟨c', hg, leC.refl _⟩
      · rw [if_neg hl]
        exact ⟨c', hg, leC.refl _⟩
theorem rel_done {gs : List Gt} {D : Dst} {x : Wr} {c : Cst} (h : D x.1 = some c) : ∃ o, rel gs D x x.2.1 = some o ∧ leC o (addC gs c x) := by
  cases h2 : D x.2.1 with
  | none =>
    rw [rel_new h h2]
    unfold setD
    rw [if_pos rfl]
    exact ⟨_, rfl, leC.refl _⟩
  | some o =>
    rw [rel_old h h2]
    by_cases hl : ltC (addC gs c x) o
    · rw [if_pos hl]
      unfold setD
      rw [if_pos rfl]
      exact ⟨_, rfl, leC.refl _⟩
    · rw [if_neg hl]
      exact ⟨o, h2, hl⟩
def rnd (gs : List Gt) (ws : List Wr) (D : Dst) : Dst := ws.foldl (rel gs) D
theorem fold_le (gs : List Gt) : ∀ (ws : List Wr) (D : Dst), leD (ws.foldl (rel gs) D) D
  | [], D => leD.refl D
  | x :: ws, D => (fold_le gs ws (rel gs D x)).trans (rel_le gs D x)
theorem rnd_done (gs : List Gt) : ∀ (ws : List Wr) (D : Dst) (x : Wr) (c : Cst), x ∈ ws → D x.1 = some c → ∃ o, rnd gs ws D x.2.1 = some o ∧ leC o (addC gs c x)
  | [], _, _, _, h, _ => by cases h
  | y :: ws, D, x, c, h, hc => by
    show ∃ o, ws.foldl (rel gs) (rel gs D y) x.2.1 = some o ∧ _
    rcases List.mem_cons.mp h with e | h
    · subst e
      obtain ⟨o, ho, h1⟩ := rel_done (gs := gs) hc
      obtain ⟨o2, ho2, h2⟩ := fold_le gs ws _ _ _ ho
      exact ⟨o2, ho2, h2.trans h1⟩
    · obtain ⟨c2, hc2, h1⟩ := rel_le gs D y _ _ hc
      obtain ⟨o, ho, h2⟩ := rnd_done gs ws (rel gs D y) x c2 h hc2
      exact ⟨o, ho, h2.trans (h1.add x)⟩
def ini (gs : List Gt) (s : Nat) : Dst := fun g => if g = s then some (0, -gw gs s) else none
def rnds (gs : List Gt) (ws : List Wr) (s : Nat) : Nat → Dst
  | 0 => ini gs s
  | k + 1 => rnd gs ws (rnds gs ws s k)
/-- ways along wires: the gates come by, the last one ahead; what it costs -/
inductive Wk (gs : List Gt) (ws : List Wr) (s : Nat) : List Nat → Nat → Cst → Prop
  | nil : Wk gs ws s [s] s (0, -gw gs s)
  | cons {vs : List Nat} {u : Nat} {c : Cst} {x : Wr} : Wk gs ws s vs u c → x ∈ ws → x.1 = u → Wk gs ws s (x.2.1 :: vs) x.2.1 (addC gs c x)
/-- what is known is a way's cost -/
def Snd (gs : List Gt) (ws : List Wr) (s : Nat) (D : Dst) : Prop := ∀ g c, D g = some c → ∃ vs, Wk gs ws s vs g c
theorem Snd.ini (gs : List Gt) (ws : List Wr) (s : Nat) : Snd gs ws s (ini gs s) := fun g c h => by
  unfold Lag.ini at h
  by_cases e : g = s
  · rw [if_pos e] at h
    cases h
    rw [e]
    exact ⟨_, .nil⟩
  · rw [if_neg e] at h
    cases h
theorem Snd.set {gs : List Gt} {ws : List Wr} {s : Nat} {D : Dst} {x : Wr} {c : Cst} (h : Snd gs ws s D) (hx : x ∈ ws) (hc : D x.1 = some c) : Snd gs ws s (setD D x.2.1 (addC gs c x)) := fun g c' hg => by
  unfold setD at hg
  by_cases e : g = x.2.1
  · rw [if_pos e] at hg
    cases hg
    rw [e]
    obtain ⟨vs, hv⟩ := h _ _ hc
    exact ⟨_, .cons hv hx rfl⟩
  · rw [if_neg e] at hg
    exact h g c' hg
theorem Snd.rel {gs : List Gt} {ws : List Wr} {s : Nat} {D : Dst} {x : Wr} (h : Snd gs ws s D) (hx : x ∈ ws) : Snd gs ws s (rel gs D x) := by
  cases h1 : D x.1 with
  | none =>
    rw [rel_none h1]
    exact h
  | some c =>
    cases h2 : D x.2.1 with
    | none =>
      rw [rel_new h1 h2]
      exact h.set hx h1
    | some o =>
      rw [rel_old h1 h2]
      split
      · exact h.set hx h1
      · exact h
theorem Snd.fold {gs : List Gt} {ws : List Wr} {s : Nat} : ∀ {us : List Wr} {D : Dst}, (∀ x ∈ us, x ∈ ws) → Snd gs ws s D → Snd gs ws s (us.foldl (Lag.rel gs) D)
  | [], _, _, h => h
  | x :: us, D, hu, h => Snd.fold (us := us) (fun y hy => hu y (List.mem_cons_of_mem _ hy)) (h.rel (hu x (List.mem_cons_self ..)))
theorem Snd.rnds {gs : List Gt} {ws : List Wr} {s : Nat} : ∀ k, Snd gs ws s (rnds gs ws s k)
  | 0 => Snd.ini gs ws s
  | k + 1 => Snd.fold (fun _ h => h) (Snd.rnds k)
/-- after k rounds no way of so many wires is better -/
theorem Wk.comp {gs : List Gt} {ws : List Wr} {s : Nat} {vs : List Nat} {g : Nat} {c : Cst} (h : Wk gs ws s vs g c) : ∀ k, vs.length ≤ k + 1 → ∃ o, rnds gs ws s k g = some o ∧ leC o c := by
  induction h with
  | nil =>
    intro k _
    induction k with
    | zero => exact ⟨_, by unfold rnds ini; rw [if_pos rfl], leC.refl _⟩
    | succ k ih =>
      obtain ⟨o, ho, h1⟩ := ih (by simp)
      obtain ⟨o2, ho2, h2⟩ := fold_le gs ws _ _ _ ho
      exact ⟨o2, ho2, h2.trans h1⟩
  | @cons vs u c x hw hx hu ih =>
    intro k hk
    rw [List.length_cons] at hk
    cases k with
    | zero =>
      exfalso
      cases hw with
      | nil => simp at hk
      | cons _ _ _ => simp at hk
    | succ k =>
      obtain ⟨o, ho, h1⟩ := ih k (by omega)
      rw [← hu] at ho
      obtain ⟨o2, ho2, h2⟩ := rnd_done gs ws _ x o hx ho
      exact ⟨o2, ho2, h2.trans (h1.add x)⟩
/-- the way to a gate that was come by -/
theorem Wk.sub {gs : List Gt} {ws : List Wr} {s : Nat} {ρ : Nat → Nat} (hρ : ∀ x ∈ ws, x.2.2 = [] → ρ x.1 < ρ x.2.1) {vs : List Nat} {g : Nat} {c : Cst} (h : Wk gs ws s vs g c) :
    ∀ u ∈ vs, ∃ vs' c', Wk gs ws s vs' u c' ∧ vs' <:+ vs ∧ c'.1 ≤ c.1 ∧ (c'.1 = c.1 → ρ u ≤ ρ g) := by
  induction h with
  | nil =>
    intro u hu
    rw [List.mem_singleton.mp hu]
    exact ⟨_, _, .nil, List.suffix_refl _, Int.le_refl _, fun _ => Nat.le_refl _⟩
  | @cons vs v c x hw hx hv ih =>
    intro u hu
    rcases List.mem_cons.mp hu with e | hu
    · rw [e]
      exact ⟨_, _, .cons hw hx hv, List.suffix_refl _, Int.le_refl _, fun _ => Nat.le_refl _⟩
    · obtain ⟨vs', c', h1, h2, h3, h4⟩ := ih u hu
      refine ⟨vs', c', h1, h2.trans (List.suffix_cons ..), ?_, fun e => ?_⟩
      · show c'.1 ≤ c.1 + _
        omega
      · have e : c'.1 = c.1 + ((x.2.2.length : Nat) : Int) := e
        have hx0 : x.2.2 = [] := List.length_eq_zero_iff.mp (by omega)
        have h5 := h4 (by omega)
        have h6 := hρ x hx hx0
        rw [hv] at h6
        omega
/-- a way without a gate twice is as good -/
theorem Wk.simple {gs : List Gt} {ws : List Wr} {s : Nat} {ρ : Nat → Nat} (hρ : ∀ x ∈ ws, x.2.2 = [] → ρ x.1 < ρ x.2.1) {vs : List Nat} {g : Nat} {c : Cst} (h : Wk gs ws s vs g c) :
    ∃ vs' c', Wk gs ws s vs' g c' ∧ vs'.Nodup ∧ leC c' c := by
  induction h with
  | nil => exact ⟨_, _, .nil, by simp, leC.refl _⟩
  | @cons vs v c x hw hx hv ih =>
    obtain ⟨vs', c', h1, h2, h3⟩ := ih
    by_cases hm : x.2.1 ∈ vs'
    · obtain ⟨vs2, c2, k1, k2, k3, k4⟩ := h1.sub hρ _ hm
      refine ⟨vs2, c2, k1, h2.sublist k2.sublist, ?_⟩
      refine leC.trans (ltC.le ?_) (h3.add x)
      refine .inl ?_
      show c2.1 < c'.1 + _
      rcases Nat.eq_zero_or_pos x.2.2.length with h0 | h0
      · have hx0 : x.2.2 = [] := List.length_eq_zero_iff.mp h0
        have h6 := hρ x hx hx0
        rw [hv] at h6
        by_cases e : c2.1 = c'.1
        · have := k4 e
          omega
        · omega
      · omega
    · exact ⟨_, _, .cons h1 hx hv, List.nodup_cons.mpr ⟨hm, h2⟩, h3.add x⟩
theorem Wk.lows {gs : List Gt} {ws : List Wr} {s : Nat} (N : NetOk gs ws) (hs : s < gs.length) {vs : List Nat} {g : Nat} {c : Cst} (h : Wk gs ws s vs g c) : ∀ u ∈ vs, u < gs.length := by
  induction h with
  | nil =>
    intro u hu
    rw [List.mem_singleton.mp hu]
    exact hs
  | @cons vs v c x hw hx hv ih =>
    intro u hu
    rcases List.mem_cons.mp hu with e | hu
    · rw [e]
      exact (N.wok x hx).e
    · exact ih u hu
theorem svNodup_le {n : Nat} {l : List Nat} (hnd : l.Nodup) (hlt : ∀ e ∈ l, e < n) : l.length ≤ n := by
  have h2 := List.Nodup.length_le_of_subset hnd (l₂ := List.range n) (fun a ha => List.mem_range.mpr (hlt a ha))
  rw [List.length_range] at h2
  exact h2
/-- nothing is bettered any more -/
def Fix (gs : List Gt) (ws : List Wr) (D : Dst) : Prop := ∀ x ∈ ws, ¬ bet gs D x
theorem rel_fix {gs : List Gt} {D : Dst} {x : Wr} (h : ¬ bet gs D x) : rel gs D x = D := by
  cases h1 : D x.1 with
  | none => exact rel_none h1
  | some c =>
    cases h2 : D x.2.1 with
    | none => exact absurd ⟨c, h1, fun o ho => by rw [h2] at ho; cases ho⟩ h
    | some o =>
      rw [rel_old h1 h2, if_neg fun hl => h ⟨c, h1, fun o' ho => by rw [h2] at ho; cases ho; exact hl⟩]
theorem fold_fix {gs : List Gt} {D : Dst} : ∀ {ws : List Wr}, (∀ x ∈ ws, ¬ bet gs D x) → ws.foldl (rel gs) D = D
  | [], _ => rfl
  | x :: ws, h => by
    rw [List.foldl_cons, rel_fix (h x (List.mem_cons_self ..))]
    exact fold_fix fun y hy => h y (List.mem_cons_of_mem _ hy)
theorem rnds_fix {gs : List Gt} {ws : List Wr} {s : Nat} (N : NetOk gs ws) (hs : s < gs.length) {k : Nat} (hk : gs.length ≤ k + 1) : Fix gs ws (rnds gs ws s k) := by
  obtain ⟨ρ, hρ⟩ := N.rank
  rintro x hx ⟨c, hc, hb⟩
  obtain ⟨vs, hv⟩ := Snd.rnds (gs := gs) (ws := ws) (s := s) k _ _ hc
  obtain ⟨vs', c', h1, h2, h3⟩ := (Wk.cons hv hx rfl).simple hρ
  obtain ⟨o, ho, h4⟩ := h1.comp k (by have := svNodup_le h2 (h1.lows N hs); omega)
  exact h4.trans h3 (hb o ho)
theorem rnds_stay {gs : List Gt} {ws : List Wr} {s k : Nat} (h : Fix gs ws (rnds gs ws s k)) : ∀ j, rnds gs ws s (k + j) = rnds gs ws s k
  | 0 => rfl
  | j + 1 => by
    show rnd gs ws (rnds gs ws s (k + j)) = _
    rw [rnds_stay h j]
    exact fold_fix h
theorem rel_below {gs : List Gt} {ws : List Wr} (N : NetOk gs ws) {D : Dst} {x : Wr} (hx : x ∈ ws) (h : ∀ g c, D g = some c → g < gs.length) : ∀ g c, rel gs D x g = some c → g < gs.length := fun g c hg => by
  have st : ∀ c', setD D x.2.1 c' g = some c → g < gs.length := fun c' hs => by
    unfold setD at hs
    by_cases e : g = x.2.1
    · rw [e]
      exact (N.wok x hx).e
    · rw [if_neg e] at hs
      exact h g c hs
  cases h1 : D x.1 with
  | none =>
    rw [rel_none h1] at hg
    exact h g c hg
  | some d =>
    cases h2 : D x.2.1 with
    | none =>
      rw [rel_new h1 h2] at hg
      exact st _ hg
    | some o =>
      rw [rel_old h1 h2] at hg
      split at hg
      · exact st _ hg
      · exact h g c hg

theorem gw_get {gs : List Gt} {i : Nat} {g : Gt} (h : gs[i]? = some g) : gw gs i = g.2 := by
  unfold gw
  rw [List.getD_eq_getElem?_getD, h]
  rfl
theorem gw_nn {gs : List Gt} {ws : List Wr} (N : NetOk gs ws) (i : Nat) : 0 ≤ gw gs i := by
  unfold gw
  rw [List.getD_eq_getElem?_getD]
  cases e : gs[i]? with
  | none => exact Int.le_refl 0
  | some g => exact (N.gok g (List.mem_of_getElem? e)).2.1
/-! ### ways by their wires' places -/
def svW (ws : List Wr) (p : Nat) : Wr := ws.getD p (0, 0, [])
theorem svW_get {ws : List Wr} {p : Nat} {x : Wr} (h : ws[p]? = some x) : svW ws p = x := by
  unfold svW
  rw [List.getD_eq_getElem?_getD, h]
  rfl
def Pw (ws : List Wr) : Nat → List Nat → Nat → Prop
  | s, [], e => s = e
  | s, p :: r, e => ∃ x, ws[p]? = some x ∧ x.1 = s ∧ Pw ws x.2.1 r e
def prg (ws : List Wr) (ps : List Nat) : Int := (ps.map fun p => (((svW ws p).2.2.length : Nat) : Int)).sum
def pws (gs : List Gt) (ws : List Wr) (ps : List Nat) : Int := (ps.map fun p => gw gs (svW ws p).2.1).sum
def pwt (gs : List Gt) (ws : List Wr) (g : Nat) (ps : List Nat) : Int := gw gs g + pws gs ws ps
theorem sum_snoc (l : List Int) (a : Int) : (l ++ [a]).sum = l.sum + a := by
  rw [List.sum_append, List.sum_cons, List.sum_nil]
  omega
theorem prg_nil (ws : List Wr) : prg ws [] = 0 := rfl
theorem pws_nil (gs : List Gt) (ws : List Wr) : pws gs ws [] = 0 := rfl
theorem prg_cons {ws : List Wr} {p : Nat} {x : Wr} (h : ws[p]? = some x) (r : List Nat) : prg ws (p :: r) = ((x.2.2.length : Nat) : Int) + prg ws r := by
  unfold prg
  rw [List.map_cons, List.sum_cons, svW_get h]
theorem pws_cons {gs : List Gt} {ws : List Wr} {p : Nat} {x : Wr} (h : ws[p]? = some x) (r : List Nat) : pws gs ws (p :: r) = gw gs x.2.1 + pws gs ws r := by
  unfold pws
  rw [List.map_cons, List.sum_cons, svW_get h]
theorem prg_snoc {ws : List Wr} {p : Nat} {x : Wr} (h : ws[p]? = some x) (r : List Nat) : prg ws (r ++ [p]) = prg ws r + ((x.2.2.length : Nat) : Int) := by
  unfold prg
  rw [List.map_append]
  rw [← svW_get h]
  exact sum_snoc _ _
theorem pws_snoc {gs : List Gt} {ws : List Wr} {p : Nat} {x : Wr} (h : ws[p]? = some x) (r : List Nat) : pws gs ws (r ++ [p]) = pws gs ws r + gw gs x.2.1 := by
  unfold pws
  rw [List.map_append]
  rw [← svW_get h]
  exact sum_snoc _ _
theorem prg_app (ws : List Wr) (a b : List Nat) : prg ws (a ++ b) = prg ws a + prg ws b := by
  unfold prg
  rw [List.map_append, List.sum_append]
theorem pws_app (gs : List Gt) (ws : List Wr) (a b : List Nat) : pws gs ws (a ++ b) = pws gs ws a + pws gs ws b := by
  unfold pws
  rw [List.map_append, List.sum_append]
theorem prg_nn (ws : List Wr) : ∀ ps, 0 ≤ prg ws ps
  | [] => Int.le_refl 0
  | p :: r => by
    have := prg_nn ws r
    unfold prg at *
    rw [List.map_cons, List.sum_cons]
    omega
theorem pws_nn {gs : List Gt} {ws : List Wr} (N : NetOk gs ws) : ∀ ps, 0 ≤ pws gs ws ps
  | [] => Int.le_refl 0
  | p :: r => by
    have := pws_nn N r
    have := gw_nn N (svW ws p).2.1
    unfold pws at *
    rw [List.map_cons, List.sum_cons]
    omega
theorem Pw.app {ws : List Wr} : ∀ {a : List Nat} {s m e : Nat} {b : List Nat}, Pw ws s a m → Pw ws m b e → Pw ws s (a ++ b) e
  | [], _, _, _, _, h, h' => by
    have h : _ = _ := h
    rw [h]
    exact h'
  | p :: a, s, m, e, b, ⟨x, h1, h2, h3⟩, h' => ⟨x, h1, h2, Pw.app h3 h'⟩
theorem Pw.snoc {ws : List Wr} {s e p : Nat} {a : List Nat} {x : Wr} (h : Pw ws s a e) (hx : ws[p]? = some x) (hs : x.1 = e) : Pw ws s (a ++ [p]) x.2.1 :=
  Pw.app h ⟨x, hx, hs, rfl⟩
theorem Pw.split {ws : List Wr} : ∀ {a : List Nat} {s e : Nat} {b : List Nat}, Pw ws s (a ++ b) e → ∃ m, Pw ws s a m ∧ Pw ws m b e
  | [], s, e, b, h => ⟨s, rfl, h⟩
  | p :: a, s, e, b, ⟨x, h1, h2, h3⟩ => by
    obtain ⟨m, h4, h5⟩ := Pw.split h3
    exact ⟨m, ⟨x, h1, h2, h4⟩, h5⟩
theorem Pw.fn {ws : List Wr} : ∀ {a : List Nat} {s e e' : Nat}, Pw ws s a e → Pw ws s a e' → e = e'
  | [], s, e, e', h, h' => by
    have h : s = e := h
    have h' : s = e' := h'
    omega
  | p :: a, s, e, e', ⟨x, h1, h2, h3⟩, ⟨y, k1, k2, k3⟩ => by
    rw [h1] at k1
    cases k1
    exact Pw.fn h3 k3
theorem Pw.lt {gs : List Gt} {ws : List Wr} (N : NetOk gs ws) : ∀ {a : List Nat} {s e : Nat}, s < gs.length → Pw ws s a e → e < gs.length
  | [], s, e, hs, h => by
    have h : s = e := h
    omega
  | p :: a, s, e, hs, ⟨x, h1, h2, h3⟩ => Pw.lt N (N.wok x (List.mem_of_getElem? h1)).e h3
theorem Pw.places {ws : List Wr} : ∀ {a : List Nat} {s e : Nat}, Pw ws s a e → ∀ p ∈ a, p < ws.length
  | [], _, _, _, p, h => by cases h
  | q :: a, s, e, ⟨x, h1, h2, h3⟩, p, h => by
    rcases List.mem_cons.mp h with h | h
    · rw [h]
      exact (List.getElem?_eq_some_iff.mp h1).1
    · exact Pw.places h3 p h
theorem Wk.pw {gs : List Gt} {ws : List Wr} {s : Nat} {vs : List Nat} {g : Nat} {c : Cst} (h : Wk gs ws s vs g c) : ∃ ps, Pw ws s ps g ∧ c = (prg ws ps, -pwt gs ws s ps) := by
  induction h with
  | nil => exact ⟨[], rfl, by unfold pwt; rw [pws_nil, prg_nil, Int.add_zero]⟩
  | @cons vs u c x hw hx hu ih =>
    obtain ⟨ps, h1, h2⟩ := ih
    obtain ⟨p, hp⟩ := List.getElem?_of_mem hx
    refine ⟨ps ++ [p], h1.snoc hp hu, ?_⟩
    rw [h2]
    unfold addC pwt
    rw [prg_snoc hp, pws_snoc hp]
    refine Prod.ext rfl ?_
    show -(gw gs s + pws gs ws ps) - gw gs x.2.1 = -(gw gs s + (pws gs ws ps + gw gs x.2.1))
    omega
theorem Pw.wk {gs : List Gt} {ws : List Wr} {s : Nat} : ∀ {ps : List Nat} {u g : Nat} {vs : List Nat} {c : Cst}, Wk gs ws s vs u c → Pw ws u ps g → ∃ vs', Wk gs ws s vs' g (c.1 + prg ws ps, c.2 - pws gs ws ps)
  | [], u, g, vs, c, hw, h => by
    have h : u = g := h
    subst h
    refine ⟨vs, ?_⟩
    rw [prg_nil, pws_nil, Int.add_zero, Int.sub_zero]
    exact hw
  | p :: ps, u, g, vs, c, hw, ⟨x, h1, h2, h3⟩ => by
    obtain ⟨vs', h4⟩ := Pw.wk (Wk.cons hw (List.mem_of_getElem? h1) h2) h3
    refine ⟨vs', ?_⟩
    rw [prg_cons h1, pws_cons h1]
    have e : ((addC gs c x).1 + prg ws ps, (addC gs c x).2 - pws gs ws ps) = (c.1 + (((x.2.2.length : Nat) : Int) + prg ws ps), c.2 - (gw gs x.2.1 + pws gs ws ps)) := by
      refine Prod.ext ?_ ?_
      · show c.1 + _ + _ = _
        omega
      · show c.2 - _ - _ = _
        omega
    rw [← e]
    exact h4
/-! ### the best ways -/
def best (gs : List Gt) (ws : List Wr) (s : Nat) : Dst := rnds gs ws s gs.length
section
variable {gs : List Gt} {ws : List Wr} {s : Nat}
theorem best_fix (N : NetOk gs ws) (hs : s < gs.length) : Fix gs ws (best gs ws s) := rnds_fix N hs (Nat.le_succ _)
theorem best_way {g : Nat} {c : Cst} (h : best gs ws s g = some c) : ∃ ps, Pw ws s ps g ∧ c = (prg ws ps, -pwt gs ws s ps) := by
  obtain ⟨vs, hv⟩ := Snd.rnds (gs := gs) (ws := ws) (s := s) gs.length g c h
  exact hv.pw
theorem best_le (N : NetOk gs ws) (hs : s < gs.length) {ps : List Nat} {g : Nat} (h : Pw ws s ps g) : ∃ c, best gs ws s g = some c ∧ leC c (prg ws ps, -pwt gs ws s ps) := by
  obtain ⟨ρ, hρ⟩ := N.rank
  obtain ⟨vs, hv⟩ := Pw.wk (gs := gs) (Wk.nil (gs := gs) (ws := ws) (s := s)) h
  obtain ⟨vs', c', h1, h2, h3⟩ := hv.simple hρ
  obtain ⟨o, ho, h4⟩ := h1.comp gs.length (by have := svNodup_le h2 (h1.lows N hs); omega)
  refine ⟨o, ho, h4.trans ?_⟩
  have e : ((0 : Int) + prg ws ps, -gw gs s - pws gs ws ps) = (prg ws ps, -pwt gs ws s ps) := by
    unfold pwt
    refine Prod.ext ?_ ?_
    · show (0 : Int) + _ = _
      omega
    · show -gw gs s - pws gs ws ps = -(gw gs s + pws gs ws ps)
      omega
  rw [← e]
  exact h3
theorem best_lt (N : NetOk gs ws) (hs : s < gs.length) {g : Nat} {c : Cst} (h : best gs ws s g = some c) : g < gs.length := by
  obtain ⟨ps, h1, _⟩ := best_way h
  exact h1.lt N hs
theorem best_nn {g : Nat} {c : Cst} (h : best gs ws s g = some c) : 0 ≤ c.1 := by
  obtain ⟨ps, _, e⟩ := best_way h
  rw [e]
  exact prg_nn ws ps
/-- no ring without registers -/
theorem ring_regs {ρ : Nat → Nat} (hρ : ∀ x ∈ ws, x.2.2 = [] → ρ x.1 < ρ x.2.1) : ∀ {ps : List Nat} {u g : Nat}, Pw ws u ps g → prg ws ps = 0 → ρ u + ps.length ≤ ρ g
  | [], u, g, h, _ => by
    have h : u = g := h
    rw [h]
    exact Nat.le_refl _
  | p :: ps, u, g, ⟨x, h1, h2, h3⟩, h0 => by
    rw [prg_cons h1] at h0
    have := prg_nn ws ps
    have hx0 : x.2.2 = [] := List.length_eq_zero_iff.mp (by omega)
    have h4 := ring_regs hρ h3 (by omega)
    have h5 := hρ x (List.mem_of_getElem? h1) hx0
    rw [h2] at h5
    rw [List.length_cons]
    omega
theorem rnds_s (N : NetOk gs ws) : ∀ k, rnds gs ws s k s = some (0, -gw gs s) := fun k => by
  obtain ⟨c, hc, hle⟩ : ∃ c, rnds gs ws s k s = some c ∧ leC c (0, -gw gs s) := (Wk.nil (gs := gs) (ws := ws) (s := s)).comp k (by simp)
  obtain ⟨vs, hv⟩ := Snd.rnds (gs := gs) (ws := ws) (s := s) k s c hc
  obtain ⟨ps, h1, h2⟩ := hv.pw
  obtain ⟨ρ, hρ⟩ := N.rank
  rw [hc]
  rw [leC_iff] at hle
  subst h2
  have h3 := prg_nn ws ps
  have h0 : prg ws ps = 0 := by
    rcases hle with h | h
    · have h : prg ws ps < 0 := h
      omega
    · exact h.1
  have h4 := ring_regs hρ h1 h0
  have h5 : ps = [] := List.length_eq_zero_iff.mp (by omega)
  subst h5
  unfold pwt
  rw [prg_nil, pws_nil, Int.add_zero]
end
/-! ### the last wires of the best ways -/
structure LaI (gs : List Gt) (ws : List Wr) (s : Nat) (D : Dst) (La : List (Option Nat)) : Prop where
  len : La.length = gs.length
  at_ : La.getD s none = none
  la : ∀ g c, g ≠ s → D g = some c → ∃ p x c', La.getD g none = some p ∧ ws[p]? = some x ∧ x.2.1 = g ∧ D x.1 = some c' ∧ leC (addC gs c' x) c
theorem getD_setL {l : List (Option Nat)} {e g : Nat} {v d : Option Nat} (h : e < l.length) : (l.set e v).getD g d = if g = e then v else l.getD g d := by
  rw [List.getD_eq_getElem?_getD, List.getElem?_set]
  by_cases he : e = g
  · subst he
    rw [if_pos rfl, if_pos rfl, if_pos h]
    rfl
  · rw [if_neg he, if_neg (fun z => he z.symm), List.getD_eq_getElem?_getD]
theorem LaI.ini (gs : List Gt) (ws : List Wr) (s : Nat) : LaI gs ws s (Lag.ini gs s) (List.replicate gs.length none) := by
  have nn : ∀ g, (List.replicate gs.length (none : Option Nat)).getD g none = none := fun g => by
    rw [List.getD_eq_getElem?_getD, List.getElem?_replicate]
    split <;> rfl
  refine ⟨List.length_replicate .., nn s, fun g c hg h => ?_⟩
  unfold Lag.ini at h
  rw [if_neg hg] at h
  cases h
/-- the fold's first j wires, one more -/
theorem fold_succ {gs : List Gt} {ws : List Wr} {D : Dst} {j : Nat} {x : Wr} (hx : ws[j]? = some x) : (ws.take (j + 1)).foldl (Lag.rel gs) D = Lag.rel gs ((ws.take j).foldl (Lag.rel gs) D) x := by
  rw [List.take_add_one, hx, List.foldl_append]
  rfl
theorem rel_bet {gs : List Gt} {D : Dst} {x : Wr} {c : Cst} (h : D x.1 = some c) (hb : ∀ o, D x.2.1 = some o → ltC (addC gs c x) o) : Lag.rel gs D x = setD D x.2.1 (addC gs c x) := by
  cases h2 : D x.2.1 with
  | none => exact rel_new h h2
  | some o => rw [rel_old h h2, if_pos (hb o h2)]
theorem LaI.set {gs : List Gt} {ws : List Wr} {s : Nat} {D : Dst} {La : List (Option Nat)} {x : Wr} {c : Cst} {p : Nat} (N : NetOk gs ws) (h : LaI gs ws s D La) (hp : ws[p]? = some x) (hc : D x.1 = some c) (hb : ∀ o, D x.2.1 = some o → ltC (addC gs c x) o) (hs : D s = some (0, -gw gs s)) (S : Snd gs ws s D) :
    LaI gs ws s (setD D x.2.1 (addC gs c x)) (La.set x.2.1 (some p)) := by
  have W := N.wok x (List.mem_of_getElem? hp)
  have hl : x.2.1 < La.length := by rw [h.len]; exact W.e
  obtain ⟨ρ, hρ⟩ := N.rank
  have hne : x.2.1 ≠ s := fun e => by
    have h1 := hb (0, -gw gs s) (by rw [e]; exact hs)
    obtain ⟨vs, hv⟩ := S _ _ hc
    obtain ⟨ps, h2, h3⟩ := hv.pw
    have h4 : Pw ws s (ps ++ [p]) x.2.1 := h2.snoc hp rfl
    rw [e] at h4
    have hn := prg_nn ws ps
    have hlt : prg ws (ps ++ [p]) = 0 := by
      rw [prg_snoc hp]
      unfold ltC addC at h1
      rw [h3] at h1
      have h1' : prg ws ps + ((x.2.2.length : Nat) : Int) < 0 ∨ (prg ws ps + ((x.2.2.length : Nat) : Int) = 0 ∧ _) := h1
      rcases h1' with h1' | h1'
      · omega
      · exact h1'.1
    have h5 := ring_regs hρ h4 hlt
    rw [List.length_append, List.length_singleton] at h5
    omega
  refine ⟨by rw [List.length_set]; exact h.len, ?_, fun g c2 hg h2 => ?_⟩
  · rw [getD_setL hl, if_neg fun e => hne e.symm]
    exact h.at_
  have nx : x.1 ≠ x.2.1 := fun e => by
    have h1 := hb c (by rw [← e]; exact hc)
    rcases h1 with h1 | h1
    · have h1 : c.1 + ((x.2.2.length : Nat) : Int) < c.1 := h1
      omega
    · have h1 : c.1 + ((x.2.2.length : Nat) : Int) = c.1 := h1.1
      have hx0 : x.2.2 = [] := List.length_eq_zero_iff.mp (by omega)
      have := hρ x (List.mem_of_getElem? hp) hx0
      rw [e] at this
      omega
  rw [getD_setL hl]
  unfold setD at h2
  by_cases e : g = x.2.1
  · rw [if_pos e] at h2
    cases h2
    refine ⟨p, x, c, by rw [if_pos e], hp, e.symm, ?_, leC.refl _⟩
    unfold setD
    rw [if_neg nx]
    exact hc
  · rw [if_neg e] at h2
    obtain ⟨p', x', c', k1, k2, k3, k4, k5⟩ := h.la g c2 hg h2
    unfold setD
    by_cases e2 : x'.1 = x.2.1
    · refine ⟨p', x', addC gs c x, by rw [if_neg e]; exact k1, k2, k3, by rw [if_pos e2], ?_⟩
      rw [e2] at k4
      exact ((hb c' k4).le.add x').trans k5
    · exact ⟨p', x', c', by rw [if_neg e]; exact k1, k2, k3, by rw [if_neg e2]; exact k4, k5⟩
theorem LaI.eq {gs : List Gt} {ws : List Wr} {s : Nat} {D : Dst} {La : List (Option Nat)} (h : LaI gs ws s D La) (F : Fix gs ws D) {g : Nat} {c : Cst} (hg : g ≠ s) (hc : D g = some c) :
    ∃ p x c', La.getD g none = some p ∧ ws[p]? = some x ∧ x.2.1 = g ∧ D x.1 = some c' ∧ addC gs c' x = c := by
  obtain ⟨p, x, c', k1, k2, k3, k4, k5⟩ := h.la g c hg hc
  refine ⟨p, x, c', k1, k2, k3, k4, leC.anti k5 fun hl => F x (List.mem_of_getElem? k2) ⟨c', k4, fun o ho => ?_⟩⟩
  rw [k3, hc] at ho
  cases ho
  exact hl
/-- the way back by the last wires -/
inductive Bk (ws : List Wr) (La : List (Option Nat)) : Nat → List Nat → Nat → Prop
  | nil {g : Nat} : La.getD g none = none → Bk ws La g [] g
  | cons {g p s : Nat} {x : Wr} {ps : List Nat} : La.getD g none = some p → ws[p]? = some x → x.2.1 = g → Bk ws La x.1 ps s → Bk ws La g (p :: ps) s
theorem Bk.pw {ws : List Wr} {La : List (Option Nat)} {g s : Nat} {ps : List Nat} (h : Bk ws La g ps s) : Pw ws s ps.reverse g := by
  induction h with
  | nil _ => exact rfl
  | @cons g p s x ps h1 h2 h3 _ ih =>
    rw [List.reverse_cons, ← h3]
    exact ih.snoc h2 rfl
/-- a lexicographic measure of a gate -/
def lt2 (a b : Nat × Nat) : Prop := a.1 < b.1 ∨ (a.1 = b.1 ∧ a.2 < b.2)
theorem LaI.back {gs : List Gt} {ws : List Wr} {s : Nat} {D : Dst} {La : List (Option Nat)} (N : NetOk gs ws) (h : LaI gs ws s D La) (F : Fix gs ws D) (hs : D s = some (0, -gw gs s)) (hsl : s < gs.length) (hn : ∀ g c, D g = some c → 0 ≤ c.1) (hlt : ∀ g c, D g = some c → g < gs.length)
    {ρ : Nat → Nat} (hρ : ∀ x ∈ ws, x.2.2 = [] → ρ x.1 < ρ x.2.1) : ∀ (m r g : Nat) (c : Cst), D g = some c → c.1.toNat = m → ρ g = r →
    ∃ (ps vs : List Nat), Bk ws La g ps s ∧ vs.length = ps.length + 1 ∧ vs.Nodup ∧ (∀ v ∈ vs, ∃ c', D v = some c' ∧ (c'.1 < c.1 ∨ (c'.1 = c.1 ∧ ρ v ≤ r))) ∧ c = (prg ws ps.reverse, -pwt gs ws s ps.reverse) := by
  intro m
  induction m using Nat.strongRecOn with
  | ind m ihm =>
    intro r
    induction r using Nat.strongRecOn with
    | ind r ihr =>
      intro g c hc hm hr
      by_cases hg : g = s
      · subst hg
        rw [hs] at hc
        cases hc
        refine ⟨[], [g], .nil h.at_, rfl, by simp, fun v hv => ?_, ?_⟩
        · rw [List.mem_singleton.mp hv]
          exact ⟨_, hs, .inr ⟨rfl, by omega⟩⟩
        · show _ = (prg ws [], -pwt gs ws g [])
          unfold pwt
          rw [prg_nil, pws_nil, Int.add_zero]
      · obtain ⟨p, x, c', k1, k2, k3, k4, k5⟩ := h.eq F hg hc
        have n0 := hn _ _ k4
        have e1 : c'.1 + ((x.2.2.length : Nat) : Int) = c.1 := by rw [← k5]; rfl
        have step : ∃ (ps vs : List Nat), Bk ws La x.1 ps s ∧ vs.length = ps.length + 1 ∧ vs.Nodup ∧ (∀ v ∈ vs, ∃ c2, D v = some c2 ∧ (c2.1 < c'.1 ∨ (c2.1 = c'.1 ∧ ρ v ≤ ρ x.1))) ∧ c' = (prg ws ps.reverse, -pwt gs ws s ps.reverse) := by
          by_cases h0 : x.2.2 = []
          · have hlr := hρ x (List.mem_of_getElem? k2) h0
            rw [h0] at e1
            have e2 : c'.1 = c.1 := by
              have : ((([] : List Int).length : Nat) : Int) = 0 := rfl
              omega
            exact ihr (ρ x.1) (by rw [← hr, ← k3]; exact hlr) x.1 c' k4 (by rw [e2]; exact hm) rfl
          · have hp : 0 < x.2.2.length := List.length_pos_iff.mpr h0
            exact ihm c'.1.toNat (by omega) (ρ x.1) x.1 c' k4 rfl rfl
        obtain ⟨ps, vs, b1, b2, b3, b4, b5⟩ := step
        have le : ∀ v ∈ vs, ∃ c2, D v = some c2 ∧ (c2.1 < c.1 ∨ (c2.1 = c.1 ∧ ρ v < ρ g)) := fun v hv => by
          obtain ⟨c2, h1, h2⟩ := b4 v hv
          refine ⟨c2, h1, ?_⟩
          by_cases h0 : x.2.2 = []
          · have hlr := hρ x (List.mem_of_getElem? k2) h0
            rw [k3] at hlr
            have : ((x.2.2.length : Nat) : Int) = 0 := by rw [h0]; rfl
            omega
          · have hp : 0 < x.2.2.length := List.length_pos_iff.mpr h0
            omega
        refine ⟨p :: ps, g :: vs, .cons k1 k2 k3 b1, by rw [List.length_cons, List.length_cons, b2], List.nodup_cons.mpr ⟨fun hm => ?_, b3⟩, fun v hv => ?_, ?_⟩
        · obtain ⟨c2, h1, h2⟩ := le g hm
          rw [hc] at h1
          cases h1
          omega
        · rcases List.mem_cons.mp hv with e | hv
          · rw [e]
            exact ⟨c, hc, .inr ⟨rfl, by omega⟩⟩
          · obtain ⟨c2, h1, h2⟩ := le v hv
            refine ⟨c2, h1, ?_⟩
            omega
        · rw [List.reverse_cons, ← k5, b5]
          unfold addC pwt
          rw [prg_snoc k2, pws_snoc k2]
          refine Prod.ext rfl ?_
          show -(gw gs s + pws gs ws ps.reverse) - gw gs x.2.1 = -(gw gs s + (pws gs ws ps.reverse + gw gs x.2.1))
          omega
/-- what best_from tells as last wires -/
def LaOk (gs : List Gt) (ws : List Wr) (s : Nat) (La : List (Option Nat)) : Prop := La.length = gs.length ∧ ∀ g c, best gs ws s g = some c → ∃ ps, Bk ws La g ps s ∧ c = (prg ws ps.reverse, -pwt gs ws s ps.reverse) ∧ ps.length < gs.length
theorem LaI.ok {gs : List Gt} {ws : List Wr} {s k : Nat} {La : List (Option Nat)} (N : NetOk gs ws) (hs : s < gs.length) (hk : k ≤ gs.length) (F : Fix gs ws (rnds gs ws s k)) (h : LaI gs ws s (rnds gs ws s k) La) : LaOk gs ws s La ∧ rnds gs ws s k = best gs ws s := by
  have e : best gs ws s = rnds gs ws s k := by
    unfold best
    obtain ⟨j, hj⟩ : ∃ j, gs.length = k + j := ⟨gs.length - k, by omega⟩
    rw [hj]
    exact rnds_stay F j
  rw [← e] at F h ⊢
  refine ⟨⟨h.len, fun g c hc => ?_⟩, rfl⟩
  obtain ⟨ρ, hρ⟩ := N.rank
  obtain ⟨ps, vs, h1, h2, h3, h4, h5⟩ := h.back N F (by unfold best; exact rnds_s N _) hs (fun g c h => best_nn h) (fun g c h => best_lt N hs h) hρ _ _ g c hc rfl rfl
  refine ⟨ps, h1, h5, ?_⟩
  have := svNodup_le h3 fun v hv => by
    obtain ⟨c2, h6, _⟩ := h4 v hv
    exact best_lt N hs h6
  omega
end Lag

set_option maxRecDepth 100000
set_option maxHeartbeats 8000000
namespace Lag
open PySem PySem.Spec PyProof.Rows L2
/-! ### bounds, and numbers that keep to them: the mathematics -/
abbrev Bnd := Nat × Nat × Int
def bAt (bs : List Bnd) (j : Nat) : Bnd := bs.getD j (0, 0, 0)
theorem bAt_get {bs : List Bnd} {j : Nat} {b : Bnd} (h : bs[j]? = some b) : bAt bs j = b := by
  unfold bAt
  rw [List.getD_eq_getElem?_getD, h]
  rfl
/-- a row of bounds that follows what O tells of each place -/
def PtO (bs : List Bnd) (O : Nat → Option Nat) : Nat → List Nat → Nat → Prop
  | s, [], e => s = e
  | s, j :: r, e => O s = some j ∧ ∃ b, bs[j]? = some b ∧ b.1 = s ∧ PtO bs O b.2.1 r e
/-- a row of bounds -/
def PtB (bs : List Bnd) : Nat → List Nat → Nat → Prop
  | s, [], e => s = e
  | s, j :: r, e => ∃ b, bs[j]? = some b ∧ b.1 = s ∧ PtB bs b.2.1 r e
def rsum (bs : List Bnd) (js : List Nat) : Int := (js.map fun j => (bAt bs j).2.2).sum
theorem rsum_cons {bs : List Bnd} {j : Nat} {b : Bnd} (h : bs[j]? = some b) (r : List Nat) : rsum bs (j :: r) = b.2.2 + rsum bs r := by
  unfold rsum
  rw [List.map_cons, List.sum_cons, bAt_get h]
theorem rsum_app (bs : List Bnd) (a b : List Nat) : rsum bs (a ++ b) = rsum bs a + rsum bs b := by
  unfold rsum
  rw [List.map_append, List.sum_append]
theorem PtO.ptB {bs : List Bnd} {O : Nat → Option Nat} : ∀ {js : List Nat} {s e : Nat}, PtO bs O s js e → PtB bs s js e
  | [], _, _, h => h
  | j :: r, s, e, ⟨_, b, h1, h2, h3⟩ => ⟨b, h1, h2, PtO.ptB h3⟩
theorem PtO.app {bs : List Bnd} {O : Nat → Option Nat} : ∀ {a : List Nat} {s m e : Nat} {b : List Nat}, PtO bs O s a m → PtO bs O m b e → PtO bs O s (a ++ b) e
  | [], _, _, _, _, h, h' => by
    have h : _ = _ := h
    rw [h]
    exact h'
  | j :: a, s, m, e, b, ⟨h0, x, h1, h2, h3⟩, h' => ⟨h0, x, h1, h2, PtO.app h3 h'⟩
theorem PtO.split {bs : List Bnd} {O : Nat → Option Nat} : ∀ {a : List Nat} {s e : Nat} {b : List Nat}, PtO bs O s (a ++ b) e → ∃ m, PtO bs O s a m ∧ PtO bs O m b e
  | [], s, e, b, h => ⟨s, rfl, h⟩
  | j :: a, s, e, b, ⟨h0, x, h1, h2, h3⟩ => by
    obtain ⟨m, h4, h5⟩ := PtO.split h3
    exact ⟨m, ⟨h0, x, h1, h2, h4⟩, h5⟩
theorem PtO.snoc {bs : List Bnd} {O : Nat → Option Nat} {s e j : Nat} {a : List Nat} {b : Bnd} (h : PtO bs O s a e) (h0 : O e = some j) (hb : bs[j]? = some b) (hs : b.1 = e) : PtO bs O s (a ++ [j]) b.2.1 :=
  PtO.app h ⟨h0, b, hb, hs, rfl⟩
theorem PtB.app {bs : List Bnd} : ∀ {a : List Nat} {s m e : Nat} {b : List Nat}, PtB bs s a m → PtB bs m b e → PtB bs s (a ++ b) e
  | [], _, _, _, _, h, h' => by
    have h : _ = _ := h
    rw [h]
    exact h'
  | j :: a, s, m, e, b, ⟨x, h1, h2, h3⟩, h' => ⟨x, h1, h2, PtB.app h3 h'⟩
def updO (O : Nat → Option Nat) (s j : Nat) : Nat → Option Nat := fun v => if v = s then some j else O v
/-- the first time that the new bound is gone along -/
theorem PtO.old {bs : List Bnd} {O : Nat → Option Nat} {s j : Nat} {b : Bnd} (hb : bs[j]? = some b) : ∀ {js : List Nat} {u v : Nat}, PtO bs (updO O s j) u js v →
    PtO bs O u js v ∨ ∃ a c, js = a ++ j :: c ∧ PtO bs O u a s ∧ PtO bs (updO O s j) u a s ∧ PtO bs (updO O s j) b.2.1 c v
  | [], u, v, h => .inl h
  | i :: r, u, v, ⟨h0, x, h1, h2, h3⟩ => by
    by_cases hu : u = s
    · have h0' : i = j := by
        unfold updO at h0
        rw [if_pos hu] at h0
        exact (Option.some.inj h0).symm
      subst h0'
      rw [hb] at h1
      cases h1
      exact .inr ⟨[], r, rfl, hu, hu, h3⟩
    · have h0' : O u = some i := by
        unfold updO at h0
        rw [if_neg hu] at h0
        exact h0
      rcases PtO.old hb h3 with h4 | ⟨a, c, e, h4, h5, h6⟩
      · exact .inl ⟨h0', x, h1, h2, h4⟩
      · exact .inr ⟨i :: a, c, by rw [e]; rfl, ⟨h0', x, h1, h2, h4⟩, ⟨h0, x, h1, h2, h5⟩, h6⟩
/-- what holds in round t, behind the first j bounds: F the numbers, O the bound of the last change, T its round -/
structure SI (bs : List Bnd) (n : Nat) (F : Nat → Int) (O : Nat → Option Nat) (T : Nat → Nat) (t j : Nat) : Prop where
  non : ∀ v, O v = none → T v = 0 ∧ F v = 0
  on : ∀ v i, O v = some i → v < n ∧ ∃ b, bs[i]? = some b ∧ b.1 = v ∧ F b.2.1 + b.2.2 ≤ F v ∧ T v ≤ T b.2.1 + 1
  ok : ∀ i b, bs[i]? = some b → F b.1 ≤ F b.2.1 + b.2.2 ∨ (if i < j then t else t - 1) ≤ T b.2.1
  cyc : ∀ v js, js ≠ [] → PtO bs O v js v → rsum bs js < 0
  le0 : ∀ v, F v ≤ 0
  tle : ∀ v, T v ≤ t
theorem SI.low {bs : List Bnd} {n : Nat} {F : Nat → Int} {O : Nat → Option Nat} {T : Nat → Nat} {t j : Nat} (h : SI bs n F O T t j) : ∀ {js : List Nat} {u v : Nat}, PtO bs O u js v → F v + rsum bs js ≤ F u
  | [], u, v, e => by
    have e : u = v := e
    rw [e]
    show F v + 0 ≤ F v
    omega
  | i :: r, u, v, ⟨h0, x, h1, h2, h3⟩ => by
    have h4 := SI.low h h3
    obtain ⟨_, b, h5, h6, h7, _⟩ := h.on u i h0
    rw [h1] at h5
    cases h5
    rw [rsum_cons h1]
    omega
theorem SI.start (bs : List Bnd) (n : Nat) : SI bs n (fun _ => 0) (fun _ => none) (fun _ => 0) 1 0 :=
  ⟨fun v _ => ⟨rfl, rfl⟩, fun v i h => (nomatch h), fun i b _ => .inr (by
    rw [if_neg (by omega)]
    exact Nat.le_refl 0), fun v js hn h => (match js, hn, h with
      | [], hn, _ => absurd rfl hn
      | i :: r, _, h => (nomatch h.1)), fun v => Int.le_refl 0, fun v => Nat.zero_le _⟩
theorem SI.next {bs : List Bnd} {n : Nat} {F : Nat → Int} {O : Nat → Option Nat} {T : Nat → Nat} {t : Nat} (h : SI bs n F O T t bs.length) : SI bs n F O T (t + 1) 0 :=
  ⟨h.non, h.on, fun i b hb => by
    rcases h.ok i b hb with h1 | h1
    · exact .inl h1
    · refine .inr ?_
      rw [if_pos (List.getElem?_eq_some_iff.mp hb).1] at h1
      rw [if_neg (by omega)]
      omega, h.cyc, h.le0, fun v => Nat.le_succ_of_le (h.tle v)⟩
theorem SI.skip {bs : List Bnd} {n : Nat} {F : Nat → Int} {O : Nat → Option Nat} {T : Nat → Nat} {t j : Nat} {b : Bnd} (h : SI bs n F O T t j) (hb : bs[j]? = some b) (hk : F b.1 ≤ F b.2.1 + b.2.2) : SI bs n F O T t (j + 1) :=
  ⟨h.non, h.on, fun i b' hb' => by
    by_cases e : i = j
    · subst e
      rw [hb] at hb'
      cases hb'
      exact .inl hk
    · rcases h.ok i b' hb' with h1 | h1
      · exact .inl h1
      · refine .inr ?_
        by_cases hi : i < j
        · rw [if_pos hi] at h1
          rw [if_pos (by omega)]
          exact h1
        · rw [if_neg hi] at h1
          rw [if_neg (by omega)]
          exact h1, h.cyc, h.le0, h.tle⟩
theorem SI.set {bs : List Bnd} {n : Nat} {F : Nat → Int} {O : Nat → Option Nat} {T : Nat → Nat} {t j : Nat} {b : Bnd} (h : SI bs n F O T t j) (ht : 1 ≤ t) (hb : bs[j]? = some b) (hs : b.1 < n) (hk : F b.2.1 + b.2.2 < F b.1) :
    SI bs n (fun v => if v = b.1 then F b.2.1 + b.2.2 else F v) (updO O b.1 j) (fun v => if v = b.1 then t else T v) t (j + 1) := by
  have hTe : t - 1 ≤ T b.2.1 := by
    rcases h.ok j b hb with h1 | h1
    · omega
    · rw [if_neg (by omega)] at h1
      exact h1
  have hFle : ∀ v, (if v = b.1 then F b.2.1 + b.2.2 else F v) ≤ F v := fun v => by
    by_cases e : v = b.1
    · rw [if_pos e, e]
      omega
    · rw [if_neg e]
      exact Int.le_refl _
  have hTle : ∀ v, t - 1 ≤ T v → t - 1 ≤ (if v = b.1 then t else T v) := fun v hv => by
    split
    · omega
    · exact hv
  refine ⟨fun v hv => ?_, fun v i hv => ?_, fun i b' hb' => ?_, fun v js hn hp => ?_, fun v => Int.le_trans (hFle v) (h.le0 v), fun v => ?_⟩
  · unfold updO at hv
    by_cases e : v = b.1
    · rw [if_pos e] at hv
      cases hv
    · rw [if_neg e] at hv
      rw [if_neg e, if_neg e]
      exact h.non v hv
  · unfold updO at hv
    by_cases e : v = b.1
    · rw [if_pos e] at hv
      cases hv
      refine ⟨by rw [e]; exact hs, b, hb, e.symm, ?_, ?_⟩
      · rw [if_pos e]
        have := hFle b.2.1
        omega
      · rw [if_pos e]
        have := hTle b.2.1 hTe
        omega
    · rw [if_neg e] at hv
      obtain ⟨h1, b2, h2, h3, h4, h5⟩ := h.on v i hv
      refine ⟨h1, b2, h2, h3, ?_, ?_⟩
      · rw [if_neg e]
        have := hFle b2.2.1
        omega
      · rw [if_neg e]
        by_cases e2 : b2.2.1 = b.1
        · rw [if_pos e2]
          have := h.tle b2.2.1
          omega
        · rw [if_neg e2]
          exact h5
  · by_cases e : b'.2.1 = b.1
    · refine .inr ?_
      rw [if_pos e]
      split <;> omega
    · rw [if_neg e, if_neg e]
      by_cases hij : i = j
      · subst hij
        rw [hb] at hb'
        cases hb'
        refine .inl ?_
        rw [if_pos rfl]
        exact Int.le_refl _
      · have cond : (if i < j + 1 then t else t - 1) = (if i < j then t else t - 1) := by
          by_cases hi : i < j
          · rw [if_pos hi, if_pos (by omega)]
          · rw [if_neg hi, if_neg (by omega)]
        rw [cond]
        rcases h.ok i b' hb' with h1 | h1
        · refine .inl ?_
          have := hFle b'.1
          omega
        · exact .inr h1
  · -- rings
    have neg : ∀ (m : Nat) (c : List Nat), c.length = m → PtO bs (updO O b.1 j) b.2.1 c b.1 → b.2.2 + rsum bs c < 0 := by
      intro m
      induction m using Nat.strongRecOn with
      | ind m ih =>
        intro c hm hc
        rcases PtO.old hb hc with h1 | ⟨a, d, e, h1, _, h3⟩
        · have := h.low h1
          omega
        · have h4 := h.low h1
          have h5 := ih d.length (by rw [← hm, e, List.length_append, List.length_cons]; omega) d rfl h3
          rw [e, rsum_app, rsum_cons hb]
          omega
    rcases PtO.old hb hp with h1 | ⟨a, c, e, h1, h2, h3⟩
    · exact h.cyc v js hn h1
    · have h4 := neg _ (c ++ a) rfl (PtO.app h3 h2)
      rw [e, rsum_app, rsum_cons hb]
      rw [rsum_app] at h4
      omega
  · by_cases e : v = b.1
    · rw [if_pos e]
      exact Nat.le_refl _
    · rw [if_neg e]
      exact h.tle v
theorem SI.congr {bs : List Bnd} {n : Nat} {F F' : Nat → Int} {O : Nat → Option Nat} {T : Nat → Nat} {t j : Nat} (h : SI bs n F O T t j) (e : ∀ v, F' v = F v) : SI bs n F' O T t j := by
  have e : F' = F := funext e
  rw [e]
  exact h
theorem SI.more {bs : List Bnd} {n : Nat} {F : Nat → Int} {O : Nat → Option Nat} {T : Nat → Nat} {t j : Nat} (h : SI bs n F O T t j) : ∀ {js : List Nat} {u v : Nat}, PtO bs O u js v → T u ≤ T v + js.length
  | [], u, v, e => by
    have e : u = v := e
    rw [e]
    exact Nat.le_refl _
  | i :: r, u, v, ⟨h0, x, h1, h2, h3⟩ => by
    have h4 := SI.more h h3
    obtain ⟨_, b, h5, h6, _, h7⟩ := h.on u i h0
    rw [h1] at h5
    cases h5
    rw [List.length_cons]
    omega
def Sat (bs : List Bnd) (F : Nat → Int) : Prop := ∀ b ∈ bs, F b.1 ≤ F b.2.1 + b.2.2
theorem Sat.along {bs : List Bnd} {F : Nat → Int} (h : Sat bs F) : ∀ {js : List Nat} {u v : Nat}, PtB bs u js v → F u ≤ F v + rsum bs js
  | [], u, v, e => by
    have e : u = v := e
    rw [e]
    show F v ≤ F v + 0
    omega
  | i :: r, u, v, ⟨x, h1, h2, h3⟩ => by
    have h4 := Sat.along h h3
    have := h x (List.mem_of_getElem? h1)
    rw [rsum_cons h1]
    rw [h2] at this
    omega
/-- the places come by -/
def vts (bs : List Bnd) (s : Nat) (js : List Nat) : List Nat := s :: js.map fun j => (bAt bs j).2.1
theorem vts_get {bs : List Bnd} {O : Nat → Option Nat} {s e : Nat} {js : List Nat} (h : PtO bs O s js e) {i : Nat} (hi : i ≤ js.length) : ∃ v, (vts bs s js)[i]? = some v ∧ PtO bs O s (js.take i) v ∧ PtO bs O v (js.drop i) e := by
  induction js generalizing s i with
  | nil =>
    have hi : i = 0 := by simpa using hi
    subst hi
    exact ⟨s, rfl, rfl, h⟩
  | cons j r ih =>
    obtain ⟨h0, b, h1, h2, h3⟩ := h
    cases i with
    | zero => exact ⟨s, rfl, rfl, h0, b, h1, h2, h3⟩
    | succ i =>
      obtain ⟨v, h4, h5, h6⟩ := ih h3 (by simpa using hi)
      refine ⟨v, ?_, ⟨h0, b, h1, h2, h5⟩, h6⟩
      unfold vts at *
      rw [List.getElem?_cons_succ, List.map_cons, bAt_get h1]
      exact h4
/-- a row that comes by no place twice is short -/
theorem SI.short {bs : List Bnd} {n : Nat} {F : Nat → Int} {O : Nat → Option Nat} {T : Nat → Nat} {t j : Nat} (h : SI bs n F O T t j) (S : Sat bs F) (hb : ∀ b ∈ bs, b.1 < n ∧ b.2.1 < n) {js : List Nat} {u v : Nat} (hu : u < n) (hp : PtO bs O u js v) : js.length < n := by
  have nd : (vts bs u js).Nodup := by
    unfold List.Nodup
    rw [List.pairwise_iff_getElem]
    intro a c ha hc hac e
    have hl : (vts bs u js).length = js.length + 1 := by unfold vts; rw [List.length_cons, List.length_map]
    obtain ⟨x, h1, h2, h3⟩ := vts_get hp (i := a) (by omega)
    obtain ⟨y, k1, k2, k3⟩ := vts_get hp (i := c) (by omega)
    rw [List.getElem?_eq_getElem ha] at h1
    rw [List.getElem?_eq_getElem hc] at k1
    have exy : x = y := by
      have := Option.some.inj h1
      have := Option.some.inj k1
      omega
    subst exy
    have e2 : js.take c = js.take a ++ (js.take c).drop a := by
      have e3 : (js.take c).take a = js.take a := by rw [List.take_take, Nat.min_eq_left (by omega)]
      rw [← e3, List.take_append_drop]
    rw [e2] at k2
    obtain ⟨m, p1, p2⟩ := PtO.split k2
    have em : m = x := by
      have fn : ∀ {js : List Nat} {s e e' : Nat}, PtO bs O s js e → PtO bs O s js e' → e = e' := by
        intro js
        induction js with
        | nil =>
          intro s e e' q q'
          have q : s = e := q
          have q' : s = e' := q'
          omega
        | cons i r ih =>
          intro s e e' ⟨_, b1, q1, _, q2⟩ ⟨_, b2, q3, _, q4⟩
          rw [q1] at q3
          cases q3
          exact ih q2 q4
      exact fn p1 h2
    subst em
    have hne : (js.take c).drop a ≠ [] := fun z => by
      have := congrArg List.length z
      rw [List.length_drop, List.length_take] at this
      simp at this
      omega
    have c1 := h.cyc _ _ hne p2
    have c2 := S.along p2.ptB
    omega
  have lt : ∀ w ∈ vts bs u js, w < n := fun w hw => by
    rcases List.mem_cons.mp hw with e | hw
    · rw [e]
      exact hu
    · obtain ⟨i, hi, rfl⟩ := List.mem_map.mp hw
      have hin : ∀ {js : List Nat} {s e : Nat}, PtO bs O s js e → ∀ i ∈ js, ∃ b, bs[i]? = some b := by
        intro js
        induction js with
        | nil => intro s e _ i h; cases h
        | cons k r ih =>
          intro s e ⟨_, b, q1, _, q2⟩ i h
          rcases List.mem_cons.mp h with h | h
          · rw [h]
            exact ⟨b, q1⟩
          · exact ih q2 i h
      obtain ⟨b, hb'⟩ := hin hp i hi
      rw [bAt_get hb']
      exact (hb b (List.mem_of_getElem? hb')).2
  have := svNodup_le nd lt
  unfold vts at this
  rw [List.length_cons, List.length_map] at this
  omega
theorem SI.lowR {bs : List Bnd} {n : Nat} {F : Nat → Int} {O : Nat → Option Nat} {T : Nat → Nat} {t j : Nat} (h : SI bs n F O T t j) (S : Sat bs F) (hb : ∀ b ∈ bs, b.1 < n ∧ b.2.1 < n) {R : Int} (hR : 0 ≤ R) (hr : ∀ b ∈ bs, -R ≤ b.2.2) {v : Nat} (hv : v < n) : -((n : Int) * R) ≤ F v := by
  have rs : ∀ {js : List Nat} {u e : Nat}, PtO bs O u js e → -((js.length : Int) * R) ≤ rsum bs js := by
    intro js
    induction js with
    | nil =>
      intro u e _
      show -((0 : Int) * R) ≤ 0
      rw [Int.zero_mul]
      decide
    | cons i r ih =>
      intro u e ⟨_, b, h1, _, h3⟩
      have := ih h3
      have := hr b (List.mem_of_getElem? h1)
      rw [rsum_cons h1, List.length_cons, Int.natCast_add, Int.add_mul]
      show -((r.length : Int) * R + 1 * R) ≤ _
      rw [Int.one_mul]
      omega
  have go : ∀ k, (∃ js e, js.length = k ∧ PtO bs O v js e) ∨ ∃ js e, PtO bs O v js e ∧ O e = none := by
    intro k
    induction k with
    | zero => exact .inl ⟨[], v, rfl, rfl⟩
    | succ k ih =>
      rcases ih with ⟨js, e, hl, hp⟩ | h2
      · cases ho : O e with
        | none => exact .inr ⟨js, e, hp, ho⟩
        | some i =>
          obtain ⟨_, b, h1, h2, _⟩ := h.on e i ho
          exact .inl ⟨js ++ [i], b.2.1, by rw [List.length_append, hl]; rfl, hp.snoc ho h1 h2⟩
      · exact .inr h2
  rcases go n with ⟨js, e, hl, hp⟩ | ⟨js, e, hp, ho⟩
  · have := h.short S hb hv hp
    omega
  · have h1 := h.short S hb hv hp
    have h2 := rs hp
    have h3 := h.low hp
    have h4 := (h.non e ho).2
    have h5 : (js.length : Int) * R ≤ (n : Int) * R := Int.mul_le_mul_of_nonneg_right (by omega) hR
    omega
theorem SI.lowB {bs : List Bnd} {n : Nat} {F : Nat → Int} {O : Nat → Option Nat} {T : Nat → Nat} {t j : Nat} (h : SI bs n F O T t j) (S : Sat bs F) (hb : ∀ b ∈ bs, b.1 < n ∧ b.2.1 < n) (hr : ∀ b ∈ bs, -1 ≤ b.2.2) {v : Nat} (hv : v < n) : -(n : Int) ≤ F v := by
  have := h.lowR S hb (R := 1) (by decide) hr hv
  rw [Int.mul_one] at this
  exact this
/-- a ring of bounds with too little room -/
def RingB (bs : List Bnd) (js : List Nat) : Prop := js ≠ [] ∧ ∃ v, PtB bs v js v ∧ rsum bs js < 0
end Lag

set_option maxRecDepth 100000
set_option maxHeartbeats 8000000
namespace Lag
open PySem PySem.Spec PyProof.Rows L2
/-! ### lags for a beat, bars: the mathematics -/
instance (k : Str) : Decidable (portK k) := by unfold portK; exact inferInstance
def spotF (gs : List Gt) (g : Nat) : Nat := if portK (kindAt gs g) then gs.length else g
abbrev Pce := Nat × List Nat
def roomF (gs : List Gt) (ws : List Wr) (b : Int) (pc : Pce) : Int := if b < pwt gs ws pc.1 pc.2 then prg ws pc.2 - 1 else prg ws pc.2
def cntF (ws : List Wr) (L : Nat → Int) (p : Nat) : Int := (((svW ws p).2.2.length : Nat) : Int) + L (svW ws p).2.1 - L (svW ws p).1
structure Feas (gs : List Gt) (ws : List Wr) (b : Int) (L : Nat → Int) : Prop where
  out : ∀ g, g < gs.length → portK (kindAt gs g) → L g = 0
  lt : ∀ x ∈ ws, 0 ≤ ((x.2.2.length : Nat) : Int) + L x.2.1 - L x.1
  wt : ∀ s ps e, s < gs.length → Pw ws s ps e → (∀ p ∈ ps, cntF ws L p = 0) → pwt gs ws s ps ≤ b
section
variable {gs : List Gt} {ws : List Wr}
theorem Feas.mono {b b' : Int} {L : Nat → Int} (h : Feas gs ws b L) (hb : b ≤ b') : Feas gs ws b' L :=
  ⟨h.out, h.lt, fun s ps e hs hp hz => Int.le_trans (h.wt s ps e hs hp hz) hb⟩
theorem cntF_get {L : Nat → Int} {p : Nat} {x : Wr} (h : ws[p]? = some x) : cntF ws L p = ((x.2.2.length : Nat) : Int) + L x.2.1 - L x.1 := by
  unfold cntF
  rw [svW_get h]
theorem Pw.cnts {L : Nat → Int} : ∀ {ps : List Nat} {s e : Nat}, Pw ws s ps e → (ps.map (cntF ws L)).sum = prg ws ps + L e - L s
  | [], s, e, h => by
    have h : s = e := h
    rw [h]
    show (0 : Int) = 0 + _ - _
    omega
  | p :: r, s, e, ⟨x, h1, h2, h3⟩ => by
    rw [List.map_cons, List.sum_cons, Pw.cnts h3, cntF_get h1, prg_cons h1, h2]
    omega
theorem sum_nn : ∀ {l : List Int}, (∀ y ∈ l, 0 ≤ y) → 0 ≤ l.sum ∧ (l.sum = 0 → ∀ y ∈ l, y = 0)
  | [], _ => ⟨Int.le_refl 0, fun _ y h => by cases h⟩
  | a :: l, h => by
    obtain ⟨h1, h2⟩ := sum_nn (l := l) fun y hy => h y (List.mem_cons_of_mem _ hy)
    have h3 := h a (List.mem_cons_self ..)
    rw [List.sum_cons]
    refine ⟨by omega, fun e y hy => ?_⟩
    rcases List.mem_cons.mp hy with hy | hy
    · rw [hy]
      omega
    · exact h2 (by omega) y hy
theorem Feas.nn {b : Int} {L : Nat → Int} (h : Feas gs ws b L) {ps : List Nat} {s e : Nat} (hp : Pw ws s ps e) : ∀ y ∈ ps.map (cntF ws L), 0 ≤ y := fun y hy => by
  obtain ⟨p, hp', rfl⟩ := List.mem_map.mp hy
  have hx := List.getElem?_eq_getElem (hp.places p hp')
  rw [cntF_get hx]
  exact h.lt _ (List.getElem_mem _)
theorem sum_zero : ∀ {l : List Int}, (∀ y ∈ l, y = 0) → l.sum = 0
  | [], _ => rfl
  | a :: l, h => by
    rw [List.sum_cons, sum_zero fun y hy => h y (List.mem_cons_of_mem _ hy), h a (List.mem_cons_self ..)]
    rfl
theorem zero_sum {L : Nat → Int} {ps : List Nat} {s e : Nat} (hp : Pw ws s ps e) (hz : ∀ p ∈ ps, cntF ws L p = 0) : prg ws ps = L s - L e := by
  have h1 := hp.cnts (L := L)
  have h2 : (ps.map (cntF ws L)).sum = 0 := sum_zero fun y hy => by
    obtain ⟨p, hp', rfl⟩ := List.mem_map.mp hy
    exact hz p hp'
  omega
/-- with lags for the beat the start's lag is at most the end's and the piece's room -/
theorem Feas.room {b : Int} {L : Nat → Int} (h : Feas gs ws b L) {ps : List Nat} {s e : Nat} (hs : s < gs.length) (hp : Pw ws s ps e) : L s ≤ L e + roomF gs ws b (s, ps) := by
  obtain ⟨h1, h2⟩ := sum_nn (h.nn hp)
  rw [hp.cnts] at h1 h2
  unfold roomF
  show L s ≤ L e + if b < pwt gs ws s ps then prg ws ps - 1 else prg ws ps
  split
  · rename_i hl
    rcases (by omega : L s ≤ L e + (prg ws ps - 1) ∨ prg ws ps + L e - L s = 0) with h3 | h3
    · exact h3
    · have h4 := h.wt s ps e hs hp fun p hp' => h2 h3 _ (List.mem_map.mpr ⟨p, hp', rfl⟩)
      omega
  · omega
/-! ### the bounds for a beat -/
structure BdsOk (gs : List Gt) (ws : List Wr) (b : Int) (pcs : List Pce) (bs : List Bnd) : Prop where
  al : All2 (fun (pc : Pce) (bd : Bnd) => ∃ e, pc.1 < gs.length ∧ Pw ws pc.1 pc.2 e ∧ bd = (spotF gs pc.1, spotF gs e, roomF gs ws b pc)) pcs bs
  full : ∀ s, s < gs.length → ∀ e c, best gs ws s e = some c → ∃ pc ∈ pcs, pc.1 = s ∧ Pw ws s pc.2 e ∧ c = (prg ws pc.2, -pwt gs ws s pc.2)
  bst : ∀ pc ∈ pcs, ∃ e, Pw ws pc.1 pc.2 e ∧ best gs ws pc.1 e = some (prg ws pc.2, -pwt gs ws pc.1 pc.2)
theorem spot_le (g : Nat) (h : g < gs.length) : spotF gs g < gs.length + 1 := by
  unfold spotF
  split <;> omega
theorem BdsOk.below {b : Int} {pcs : List Pce} {bs : List Bnd} (N : NetOk gs ws) (h : BdsOk gs ws b pcs bs) : ∀ bd ∈ bs, bd.1 < gs.length + 1 ∧ bd.2.1 < gs.length + 1 := fun bd hb => by
  obtain ⟨i, hi⟩ := List.getElem?_of_mem hb
  obtain ⟨pc, _, e, h1, h2, rfl⟩ := h.al.getR hi
  exact ⟨spot_le _ h1, spot_le _ (h2.lt N h1)⟩
theorem BdsOk.m1 {b : Int} {pcs : List Pce} {bs : List Bnd} (h : BdsOk gs ws b pcs bs) : ∀ bd ∈ bs, -1 ≤ bd.2.2 := fun bd hb => by
  obtain ⟨i, hi⟩ := List.getElem?_of_mem hb
  obtain ⟨pc, _, e, h1, h2, rfl⟩ := h.al.getR hi
  show -1 ≤ roomF gs ws b pc
  have := prg_nn ws pc.2
  unfold roomF
  split <;> omega
def lagsAt (gs : List Gt) (F : Nat → Int) (g : Nat) : Int := F (spotF gs g) - F gs.length
theorem BdsOk.lags {b : Int} {pcs : List Pce} {bs : List Bnd} (N : NetOk gs ws) (h : BdsOk gs ws b pcs bs) {F : Nat → Int} (S : Sat bs F) : Feas gs ws b (lagsAt gs F) := by
  have key : ∀ s, s < gs.length → ∀ e c, best gs ws s e = some c → lagsAt gs F s ≤ lagsAt gs F e + (if b < -c.2 then c.1 - 1 else c.1) := fun s hs e c hc => by
    obtain ⟨pc, hpc, h1, h2, h3⟩ := h.full s hs e c hc
    obtain ⟨i, hi⟩ := List.getElem?_of_mem hpc
    obtain ⟨bd, hbd, e', h4, h5, h6⟩ := h.al.get hi
    rw [h1] at h5
    have := Pw.fn h2 h5
    subst this
    have h7 := S bd (List.mem_of_getElem? hbd)
    rw [h6, h1] at h7
    have h7 : F (spotF gs s) ≤ F (spotF gs e) + roomF gs ws b pc := h7
    have h8 : roomF gs ws b pc = if b < -c.2 then c.1 - 1 else c.1 := by
      unfold roomF
      rw [h3, h1, Int.neg_neg]
    rw [h8] at h7
    unfold lagsAt
    omega
  have le : ∀ {b c1 c2 : Int}, (if b < c2 then c1 - 1 else c1) ≤ c1 := by
    intro b c1 c2
    split <;> omega
  refine ⟨fun g hg hp => ?_, fun x hx => ?_, fun s ps e hs hp hz => ?_⟩
  · unfold lagsAt spotF
    rw [if_pos hp]
    omega
  · obtain ⟨p, hp⟩ := List.getElem?_of_mem hx
    have W := N.wok x hx
    have hw : Pw ws x.1 [p] x.2.1 := ⟨x, hp, rfl, rfl⟩
    obtain ⟨c, hc, hl⟩ := best_le N W.s hw
    have h1 := key x.1 W.s x.2.1 c hc
    have h2 := @le b c.1 (-c.2)
    rw [leC_iff, prg_cons hp, prg_nil] at hl
    have hl : c.1 < ((x.2.2.length : Nat) : Int) + 0 ∨ (c.1 = ((x.2.2.length : Nat) : Int) + 0 ∧ _) := hl
    rcases hl with hl | ⟨hl, _⟩ <;> omega
  · have h0 := zero_sum hp hz
    obtain ⟨c, hc, hl⟩ := best_le N hs hp
    have h1 := key s hs e c hc
    rw [leC_iff] at hl
    have hl : c.1 < prg ws ps ∨ (c.1 = prg ws ps ∧ c.2 ≤ -pwt gs ws s ps) := hl
    by_cases hb : b < -c.2
    · rw [if_pos hb] at h1
      omega
    · rw [if_neg hb] at h1
      omega
/-! ### bars -/
def Jn (gs : List Gt) (ws : List Wr) : Nat → List Pce → Nat → Prop
  | s, [], e => s = e
  | s, pc :: r, e => spotF gs pc.1 = s ∧ pc.1 < gs.length ∧ ∃ m, Pw ws pc.1 pc.2 m ∧ Jn gs ws (spotF gs m) r e
def roomsF (gs : List Gt) (ws : List Wr) (b : Int) (pcs : List Pce) : Int := (pcs.map (roomF gs ws b)).sum
def IsBar (gs : List Gt) (ws : List Wr) (b : Int) (pcs : List Pce) : Prop := pcs ≠ [] ∧ ∃ v, Jn gs ws v pcs v ∧ roomsF gs ws b pcs < 0
def spotL (gs : List Gt) (L : Nat → Int) (s : Nat) : Int := if s = gs.length then 0 else L s
theorem Feas.spot {b : Int} {L : Nat → Int} (h : Feas gs ws b L) {g : Nat} (hg : g < gs.length) : spotL gs L (spotF gs g) = L g := by
  unfold spotL spotF
  by_cases hp : portK (kindAt gs g)
  · rw [if_pos hp, if_pos rfl, h.out g hg hp]
  · rw [if_neg hp, if_neg (by omega)]
theorem Feas.joined {b : Int} {L : Nat → Int} (N : NetOk gs ws) (h : Feas gs ws b L) : ∀ {pcs : List Pce} {s e : Nat}, Jn gs ws s pcs e → spotL gs L s ≤ spotL gs L e + roomsF gs ws b pcs
  | [], s, e, h' => by
    have h' : s = e := h'
    rw [h']
    show _ ≤ _ + (0 : Int)
    omega
  | pc :: r, s, e, ⟨h1, h2, m, h3, h4⟩ => by
    have h5 := Feas.joined N h h4
    have h6 := h.room h2 h3
    rw [← h1, h.spot h2]
    rw [h.spot (h3.lt N h2)] at h5
    unfold roomsF at *
    rw [List.map_cons, List.sum_cons]
    have h6 : L pc.1 ≤ L m + roomF gs ws b pc := h6
    omega
theorem IsBar.none {b : Int} {pcs : List Pce} (N : NetOk gs ws) (h : IsBar gs ws b pcs) {L : Nat → Int} : ¬ Feas gs ws b L := fun f => by
  obtain ⟨_, v, h1, h2⟩ := h
  have := f.joined N h1
  omega
def pAt (pcs : List Pce) (j : Nat) : Pce := pcs.getD j (0, [])
theorem pAt_get {pcs : List Pce} {j : Nat} {p : Pce} (h : pcs[j]? = some p) : pAt pcs j = p := by
  unfold pAt
  rw [List.getD_eq_getElem?_getD, h]
  rfl
theorem BdsOk.joined {b : Int} {pcs : List Pce} {bs : List Bnd} (h : BdsOk gs ws b pcs bs) : ∀ {js : List Nat} {s e : Nat}, PtB bs s js e → Jn gs ws s (js.map (pAt pcs)) e ∧ roomsF gs ws b (js.map (pAt pcs)) = rsum bs js
  | [], s, e, h' => ⟨h', rfl⟩
  | j :: r, s, e, ⟨bd, h1, h2, h3⟩ => by
    obtain ⟨pc, hp, m, h4, h5, h6⟩ := h.al.getR h1
    subst h6
    obtain ⟨k1, k2⟩ := BdsOk.joined h h3
    rw [List.map_cons, pAt_get hp]
    refine ⟨⟨h2, h4, m, h5, k1⟩, ?_⟩
    rw [rsum_cons h1, ← k2]
    unfold roomsF
    rw [List.map_cons, List.sum_cons]
theorem BdsOk.bar {b : Int} {pcs : List Pce} {bs : List Bnd} (h : BdsOk gs ws b pcs bs) {js : List Nat} (r : RingB bs js) : IsBar gs ws b (js.map (pAt pcs)) := by
  obtain ⟨h1, v, h2, h3⟩ := r
  obtain ⟨k1, k2⟩ := h.joined h2
  exact ⟨fun z => h1 (List.map_eq_nil_iff.mp z), v, k1, by rw [k2]; exact h3⟩
/-! ### the least beat -/
def FeasE (gs : List Gt) (ws : List Wr) (b : Int) : Prop := ∃ L, Feas gs ws b L
def IsWait (gs : List Gt) (ws : List Wr) (m : Int) : Prop := ∃ s e c, s < gs.length ∧ best gs ws s e = some c ∧ m = -c.2
theorem max_ex {P : Int → Prop} {b : Int} (hb : ∀ v, P v → v ≤ b) : ∀ (k : Nat) (v : Int), P v → (b - v).toNat ≤ k → ∃ m, P m ∧ ∀ v, P v → v ≤ m := by
  intro k
  induction k with
  | zero =>
    intro v hv hk
    refine ⟨v, hv, fun u hu => ?_⟩
    have := hb u hu
    have := hb v hv
    omega
  | succ k ih =>
    intro v hv hk
    by_cases h : ∃ u, P u ∧ v < u
    · obtain ⟨u, hu, hlt⟩ := h
      have := hb u hu
      exact ih u hu (by omega)
    · refine ⟨v, hv, fun u hu => ?_⟩
      rcases Int.lt_or_le v u with h1 | h1
      · exact absurd ⟨u, hu, h1⟩ h
      · exact h1
theorem Feas.tight {b : Int} {L : Nat → Int} (N : NetOk gs ws) (h : Feas gs ws b L) : ∃ m, m ≤ b ∧ IsWait gs ws m ∧ Feas gs ws m L := by
  have hn : 0 < gs.length := List.length_pos_iff.mpr N.ne
  obtain ⟨m, ⟨s, ps, e, hs, hp, hz, hm⟩, hle⟩ := max_ex (P := fun v => ∃ s ps e, s < gs.length ∧ Pw ws s ps e ∧ (∀ p ∈ ps, cntF ws L p = 0) ∧ v = pwt gs ws s ps) (b := b) (fun v ⟨s, ps, e, hs, hp, hz, e'⟩ => by
    rw [e']
    exact h.wt s ps e hs hp hz) _ (pwt gs ws 0 []) ⟨0, [], 0, hn, rfl, (fun p hp => nomatch hp), rfl⟩ (Nat.le_refl _)
  refine ⟨m, by rw [hm]; exact h.wt s ps e hs hp hz, ?_, h.out, h.lt, fun s ps e hs hp hz => hle _ ⟨s, ps, e, hs, hp, hz, rfl⟩⟩
  obtain ⟨c, hc, hl⟩ := best_le N hs hp
  refine ⟨s, e, c, hs, hc, ?_⟩
  obtain ⟨qs, hq, hcq⟩ := best_way hc
  have h0 := zero_sum hp hz
  obtain ⟨h1, h2⟩ := sum_nn (h.nn hq)
  rw [hq.cnts] at h1 h2
  rw [leC_iff] at hl
  have e1 : c.1 = prg ws qs := by rw [hcq]
  have e2 : c.2 = -pwt gs ws s qs := by rw [hcq]
  have hl : c.1 < prg ws ps ∨ (c.1 = prg ws ps ∧ c.2 ≤ -pwt gs ws s ps) := hl
  have h3 := hle _ ⟨s, qs, e, hs, hq, fun p hp' => h2 (by omega) _ (List.mem_map.mpr ⟨p, hp', rfl⟩), rfl⟩
  omega
theorem Feas.zero {b : Int} (N : NetOk gs ws) (hb : ∀ m, IsWait gs ws m → m ≤ b) : Feas gs ws b (fun _ => 0) := by
  refine ⟨fun _ _ _ => rfl, fun x _ => by omega, fun s ps e hs hp hz => ?_⟩
  have h0 := zero_sum hp hz
  obtain ⟨c, hc, hl⟩ := best_le N hs hp
  have h1 := hb _ ⟨s, e, c, hs, hc, rfl⟩
  have h2 := best_nn hc
  rw [leC_iff] at hl
  have hl : c.1 < prg ws ps ∨ (c.1 = prg ws ps ∧ c.2 ≤ -pwt gs ws s ps) := hl
  omega
structure IsLeast (gs : List Gt) (ws : List Wr) (B : Int) : Prop where
  ex : FeasE gs ws B
  no : ∀ b, b < B → ¬ FeasE gs ws b
theorem IsLeast.eq {B B' : Int} (h : IsLeast gs ws B) (h' : IsLeast gs ws B') : B = B' := by
  rcases Int.lt_trichotomy B B' with e | e | e
  · exact absurd h.ex (h'.no _ e)
  · exact e
  · exact absurd h'.ex (h.no _ e)
theorem IsLeast.le {B b : Int} (h : IsLeast gs ws B) (h' : FeasE gs ws b) : B ≤ b := by
  rcases Int.lt_or_le b B with e | e
  · exact absurd h' (h.no _ e)
  · exact e
end
end Lag

set_option maxRecDepth 100000
set_option maxHeartbeats 8000000
namespace Lag
open PySem PySem.Spec PyProof.Rows L2
abbrev sBestFrom : Stmt := topS 39 -- @best_from
abbrev sWayTo : Stmt := topS 40 -- @way_to
def lasV : Option Nat → V
  | none => .non
  | some p => .int (p : Nat)
def nvs (r : List Nat) : List V := r.map fun i => V.int (i : Nat)
theorem nvs_len (r : List Nat) : (nvs r).length = r.length := List.length_map ..
/-- what is known of the gates: a table of tuples -/
structure KnD (K : PySem.W.Frag) (H : Hp) (d : Addr) (D : Dst) (kvs : List (Key × V)) (ks : List Nat) : Prop where
  at_ : H d = some (.dK kvs)
  keys : kvs.map (fun kv => kv.1) = ks.map (fun g => Sum.inl ((g : Nat) : Int))
  nd : ks.Nodup
  mem : ∀ g, g ∈ ks ↔ ∃ c, D g = some c
  some_ : ∀ g c, D g = some c → ∃ t, valV kvs (Sum.inl ((g : Nat) : Int)) = some (.ref t) ∧ SqT K H t [.int c.1, .int c.2]
  none_ : ∀ g, D g = none → valV kvs (Sum.inl ((g : Nat) : Int)) = none
theorem KnD.same {K : PySem.W.Frag} {H H' : Hp} {d : Addr} {D : Dst} {kvs : List (Key × V)} {ks : List Nat} (h : KnD K H d D kvs ks) (s : Same H H') : KnD K H' d D kvs ks :=
  ⟨s _ _ h.at_, h.keys, h.nd, h.mem, fun g c e => by
    obtain ⟨t, h1, h2⟩ := h.some_ g c e
    exact ⟨t, h1, (TK.same s).seq h2⟩, h.none_⟩
theorem KnD.get {K : PySem.W.Frag} {H : Hp} {d : Addr} {D : Dst} {kvs : List (Key × V)} {ks : List Nat} (h : KnD K H d D kvs ks) {g : Nat} {c : Cst} (e : D g = some c) : ∃ t, DGet H d (.int (g : Nat)) (some (.ref t)) ∧ SqT K H t [.int c.1, .int c.2] := by
  obtain ⟨t, h1, h2⟩ := h.some_ g c e
  refine ⟨t, ?_, h2⟩
  have := DGet.k (k := Sum.inl ((g : Nat) : Int)) h.at_
  rw [h1] at this
  exact this
theorem KnD.getN {K : PySem.W.Frag} {H : Hp} {d : Addr} {D : Dst} {kvs : List (Key × V)} {ks : List Nat} (h : KnD K H d D kvs ks) {g : Nat} (e : D g = none) : DGet H d (.int (g : Nat)) none := by
  have := DGet.k (k := Sum.inl ((g : Nat) : Int)) h.at_
  rw [h.none_ g e] at this
  exact this
theorem KnD.len {K : PySem.W.Frag} {H : Hp} {d : Addr} {D : Dst} {kvs : List (Key × V)} {ks : List Nat} (h : KnD K H d D kvs ks) : kvs.length = ks.length := by
  have := congrArg List.length h.keys
  rw [List.length_map, List.length_map] at this
  exact this
theorem has_key {kvs : List (Key × V)} {k : Key} (h : k ∈ kvs.map fun kv => kv.1) : ∃ v, valV kvs k = some v := by
  induction kvs with
  | nil => cases h
  | cons y l ih =>
    by_cases e : y.1 = k
    · exact ⟨y.2, valV_pos e⟩
    · rw [valV_neg e]
      rw [List.map_cons] at h
      rcases List.mem_cons.mp h with h | h
      · exact absurd h.symm e
      · exact ih h
theorem key_of {kvs : List (Key × V)} {k : Key} {v : V} (h : valV kvs k = some v) : k ∈ kvs.map fun kv => kv.1 := by
  induction kvs with
  | nil => cases h
  | cons y l ih =>
    rw [List.map_cons]
    by_cases e : y.1 = k
    · rw [e]
      exact List.mem_cons_self ..
    · rw [valV_neg e] at h
      exact List.mem_cons_of_mem _ (ih h)
theorem putK_old {kvs : List (Key × V)} {k : Key} {v : V} (hk : k ∈ kvs.map (fun kv => kv.1)) : (putK kvs k v).map (fun kv => kv.1) = kvs.map (fun kv => kv.1) := by
  unfold putK
  split
  · rw [List.map_map]
    refine List.map_congr_left fun y _ => ?_
    show (if y.1 = k then (y.1, v) else y).1 = y.1
    split <;> rfl
  · rename_i h
    exfalso
    apply h
    obtain ⟨y, hy, e⟩ := List.mem_map.mp hk
    rw [List.any_eq_true]
    exact ⟨y, hy, by simpa using e⟩
theorem putK_fresh {kvs : List (Key × V)} {k : Key} {v : V} (hk : k ∉ kvs.map (fun kv => kv.1)) : (putK kvs k v).map (fun kv => kv.1) = kvs.map (fun kv => kv.1) ++ [k] := by
  unfold putK
  split
  · rename_i h
    exfalso
    apply hk
    rw [List.any_eq_true] at h
    obtain ⟨y, hy, e⟩ := h
    exact List.mem_map.mpr ⟨y, hy, by simpa using e⟩
  · rw [List.map_append]
    rfl
theorem KnD.put {K : PySem.W.Frag} {H : Hp} {d t : Addr} {D : Dst} {kvs : List (Key × V)} {ks : List Nat} {e : Nat} {c : Cst} (h : KnD K H d D kvs ks) (ht : H t = some (.tup [.int c.1, .int c.2])) :
    ∃ ks', KnD K (upd H d (.dK (putK kvs (Sum.inl ((e : Nat) : Int)) (.ref t)))) d (setD D e c) (putK kvs (Sum.inl ((e : Nat) : Int)) (.ref t)) ks' := by
  have inj : ∀ {i j : Nat}, (Sum.inl ((i : Nat) : Int) : Key) = Sum.inl ((j : Nat) : Int) → i = j := fun {i j} z => by
    have := Sum.inl.inj z
    omega
  have tk : TK H (upd H d (.dK (putK kvs (Sum.inl ((e : Nat) : Int)) (.ref t)))) := fun b o to eb => by
    rw [upd_ne (fun z => by
      rw [z, h.at_] at eb
      cases eb
      exact to)]
    exact eb
  have hk : (Sum.inl ((e : Nat) : Int) : Key) ∈ kvs.map (fun kv => kv.1) ↔ e ∈ ks := by
    rw [h.keys]
    constructor
    · intro z
      obtain ⟨g, hg, e'⟩ := List.mem_map.mp z
      rw [← inj e']
      exact hg
    · intro z
      exact List.mem_map.mpr ⟨e, z, rfl⟩
  have sm : ∀ g c', setD D e c g = some c' → ∃ t', valV (putK kvs (Sum.inl ((e : Nat) : Int)) (.ref t)) (Sum.inl ((g : Nat) : Int)) = some (.ref t') ∧ SqT K (upd H d (.dK (putK kvs (Sum.inl ((e : Nat) : Int)) (.ref t)))) t' [.int c'.1, .int c'.2] := fun g c' hg => by
    rw [valV_put]
    unfold setD at hg
    by_cases z : g = e
    · rw [if_pos z] at hg
      cases hg
      rw [if_pos (by rw [z])]
      exact ⟨t, rfl, tk.seq (.inl (.inl ht))⟩
    · rw [if_neg z] at hg
      rw [if_neg fun y => z (inj y)]
      obtain ⟨t', h1, h2⟩ := h.some_ g c' hg
      exact ⟨t', h1, tk.seq h2⟩
  have sn : ∀ g, setD D e c g = none → valV (putK kvs (Sum.inl ((e : Nat) : Int)) (.ref t)) (Sum.inl ((g : Nat) : Int)) = none := fun g hg => by
    unfold setD at hg
    by_cases z : g = e
    · rw [if_pos z] at hg
      cases hg
    · rw [if_neg z] at hg
      rw [valV_put, if_neg fun y => z (inj y)]
      exact h.none_ g hg
  have dm : ∀ g, (∃ c', setD D e c g = some c') ↔ (g = e ∨ ∃ c', D g = some c') := fun g => by
    unfold setD
    by_cases z : g = e
    · rw [if_pos z]
      exact ⟨fun _ => .inl z, fun _ => ⟨c, rfl⟩⟩
    · rw [if_neg z]
      exact ⟨fun y => .inr y, fun y => y.elim (fun y => absurd y z) fun y => y⟩
  by_cases he : e ∈ ks
  · refine ⟨ks, upd_same, by rw [putK_old (hk.mpr he)]; exact h.keys, h.nd, fun g => ?_, sm, sn⟩
    rw [dm, h.mem]
    refine ⟨fun y => .inr y, fun y => y.elim (fun y => ?_) fun y => y⟩
    rw [y]
    exact (h.mem e).mp he
  · refine ⟨ks ++ [e], upd_same, by rw [putK_fresh fun z => he (hk.mp z), h.keys, List.map_append]; rfl, ?_, fun g => ?_, sm, sn⟩
    · rw [List.nodup_append]
      refine ⟨h.nd, by simp, fun a ha b hb z => ?_⟩
      rw [List.mem_singleton.mp hb] at z
      exact he (z ▸ ha)
    · rw [dm, List.mem_append, List.mem_singleton, h.mem]
      exact ⟨fun y => y.elim (fun y => .inr y) fun y => .inl y, fun y => y.elim (fun y => .inr y) fun y => .inl y⟩
theorem KnD.mut {K : PySem.W.Frag} {H : Hp} {d l : Addr} {o : HO} {xs : List V} {D : Dst} {kvs : List (Key × V)} {ks : List Nat} (h : KnD K H d D kvs ks) (hl : H l = some (.lst xs)) : KnD K (upd H l o) d D kvs ks :=
  ⟨by rw [upd_ne (fun z => by rw [← z, h.at_] at hl; cases hl)]; exact h.at_, h.keys, h.nd, h.mem, fun g c e => by
    obtain ⟨t, h1, h2⟩ := h.some_ g c e
    exact ⟨t, h1, (TK.lst hl).seq h2⟩, h.none_⟩
theorem lex_ltC (a b : Cst) : HT.lexLt [a.1, a.2] [b.1, b.2] = decide (ltC a b) := by
  obtain ⟨a1, a2⟩ := a
  obtain ⟨b1, b2⟩ := b
  show (if a1 = b1 then (if a2 = b2 then false else decide (a2 < b2)) else decide (a1 < b1)) = decide (ltC (a1, a2) (b1, b2))
  unfold ltC
  show _ = decide (a1 < b1 ∨ (a1 = b1 ∧ a2 < b2))
  by_cases e : a1 = b1
  · rw [if_pos e]
    by_cases e2 : a2 = b2
    · rw [if_pos e2]
      exact (decide_eq_false (by omega)).symm
    · rw [if_neg e2]
      by_cases e3 : a2 < b2
      · rw [decide_eq_true e3, decide_eq_true (by omega)]
      · rw [decide_eq_false e3, decide_eq_false (by omega)]
  · rw [if_neg e]
    by_cases e3 : a1 < b1
    · rw [decide_eq_true e3, decide_eq_true (by omega)]
    · rw [decide_eq_false e3, decide_eq_false (by omega)]
theorem Snd.at_s {gs : List Gt} {ws : List Wr} {s : Nat} {D : Dst} (N : NetOk gs ws) (S : Snd gs ws s D) (h : leD D (Lag.ini gs s)) : D s = some (0, -gw gs s) := by
  obtain ⟨c, hc, hle⟩ := h s (0, -gw gs s) (by unfold Lag.ini; rw [if_pos rfl])
  obtain ⟨vs, hv⟩ := S s c hc
  obtain ⟨ps, h1, h2⟩ := hv.pw
  obtain ⟨ρ, hρ⟩ := N.rank
  rw [hc]
  rw [leC_iff] at hle
  subst h2
  have h3 := prg_nn ws ps
  have h0 : prg ws ps = 0 := by
    rcases hle with h | h
    · have h : prg ws ps < 0 := h
      omega
    · exact h.1
  have h4 := ring_regs hρ h1 h0
  have h5 : ps = [] := List.length_eq_zero_iff.mp (by omega)
  subst h5
  unfold pwt
  rw [prg_nil, pws_nil, Int.add_zero]
theorem rnds_le {gs : List Gt} {ws : List Wr} {s : Nat} : ∀ k, leD (rnds gs ws s k) (Lag.ini gs s)
  | 0 => leD.refl _
  | k + 1 => (fold_le gs ws _).trans (rnds_le k)
theorem las_at {La : List (Option Nat)} {g : Nat} (h : g < La.length) : (La.map lasV)[g]? = some (lasV (La.getD g none)) := by
  rw [List.getElem?_map, List.getElem?_eq_getElem h, List.getD_eq_getElem?_getD, List.getElem?_eq_getElem h]
  rfl
def spBestFrom (K : PySem.W.Frag) (C : Addr) : Sp := fun vs H Q _ => ∃ (p ng nw : Addr) (gs : List Gt) (ws : List Wr) (s : Nat), vs = [.ref p, .int (s : Nat)] ∧ NetAt K C H p ng nw gs ws ∧ NetOk gs ws ∧ s < gs.length ∧
  ∀ (t d lL : Addr) (kvs : List (Key × V)) (ks : List Nat) (La : List (Option Nat)) (H' : Hp), Same H H' → H' t = some (.tup [.ref d, .ref lL]) → KnD K H' d (best gs ws s) kvs ks → H' lL = some (.lst (La.map lasV)) → H lL = none → LaOk gs ws s La → Q (.ref t) H'
def spWayTo (K : PySem.W.Frag) (C : Addr) : Sp := fun vs H Q _ => ∃ (p ng nw lL : Addr) (gs : List Gt) (ws : List Wr) (La : List (Option Nat)) (g s : Nat) (ps : List Nat), vs = [.ref p, .int (g : Nat), .ref lL] ∧ NetAt K C H p ng nw gs ws ∧ NetOk gs ws ∧ H lL = some (.lst (La.map lasV)) ∧ La.length = gs.length ∧ g < gs.length ∧ Bk ws La g ps s ∧ ps.length ≤ 1000 ∧
  ∀ (t lr : Addr) (H' : Hp), Same H H' → H t = none → H lr = none → H' t = some (.tup [.int (s : Nat), .ref lr]) → H' lr = some (.lst (nvs ps.reverse)) → Q (.ref t) H'
section
variable {P : Program} {w : World} {K : PySem.W.Frag} {mg : Str → Option Value} {base : Heap}
abbrev nBestFrom : List Str := ["net", "start", "known", "last", "better", "place", "here", "end", "held", "come"]
theorem scBestFrom : FnScope nBestFrom ["net", "start"] (defScope sBestFrom) := ⟨rfl, rfl, rfl, by decide +kernel, rfl, by decide +kernel, by decide +kernel⟩
abbrev DBestFrom (P : Program) (w : World) (K : PySem.W.Frag) (mg : Str → Option Value) (base : Heap) (C : Addr) := Df P w K mg base 1 "best_from" ["net", "start"] (spBestFrom K C)
theorem ok_bestFrom {f C : Addr} {fd : FuncData} (F : Fun K "best_from" "best_from" sBestFrom f fd) (hm : mg "best_from" = some (.ref f)) (B : Bt mg) (T : NT K mg C) : DBestFrom P w K mg base C f fd := by
  refine ⟨?_, hm, F.kp, F.binds fun _ _ _ _ _ _ us hl => match us, hl with | [_, _], _ => rfl⟩
  refine F.ok scBestFrom (fun vs H Q E h => ?_) (fun cdv A outer s H vs Q E hr h => ?_)
  · obtain ⟨p, ng, nw, gs, ws, s, rfl, _⟩ := h
    rfl
  · obtain ⟨p, ng, nw, gs, ws, s0, rfl, NA, N, hs0, q⟩ := h
    have nd := scBestFrom.nd
    refine ⟨_, pss_cons (ps_set (i := 2) nd rfl (.inl rfl) (pe_disp (pps_cons (pv 1) (pe_tup (pa_cons pe_int (pa_cons (pe_un un_neg (pe_ix ix_tup (pe_ix ix_list (pe_fld (pv 0) rfl) (pv 1) (fun _ _ => rfl)) pe_int (fun _ _ => rfl))) pa_nil))) pps_nil) (by rfl) (by rfl) (fun z => by cases z) (by decide))) <|
        pss_cons (ps_set (i := 3) nd rfl (.inl rfl) (pe_op op_rep (pe_lst (pa_cons pe_non pa_nil)) (pe_callB call_len_seq (by rfl) B.len PySem.boot_len (pa_cons (pe_fld (pv 0) rfl) pa_nil)))) <|
        pss_cons (ps_set (i := 4) nd rfl (.inl rfl) pe_bl) <|
        pss_cons (ps_while PassesOwn.never (pt_val (pv 4)) (pss_cons (ps_set (i := 4) nd rfl (.inl rfl) pe_bl) <|
        pss_one (ps_for PassesOwn.never rfl (pi_enum (by rfl) B.enum (pa_cons (pe_fld (pv 0) rfl) pa_nil)) (pg_tup rfl (pgs_cons (pg_name (i := 5) nd rfl (.inl rfl)) (pgs_cons (pg_tup rfl (pgs_cons (pg_name (i := 6) nd rfl (.inl rfl)) (pgs_cons (pg_name (i := 7) nd rfl (.inl rfl)) (pgs_cons (pg_name (i := 8) nd rfl (.inl rfl)) pgs_nil)))) pgs_nil))) (pss_one (ps_if (pt_cmp (pc_din (hu_of hr) (pv 6) (pv 2))) (pss_cons (ps_set (i := 9) nd rfl (.inl rfl) (pe_tup (pa_cons (pe_op op_add (pe_ix ix_tup (pe_dget (hu_of hr) (pv 2) (pv 6) (fun _ _ => rfl)) pe_int (fun _ _ => rfl)) (pe_callB call_len_seq (by rfl) B.len PySem.boot_len (pa_cons (pv 8) pa_nil))) (pa_cons (pe_op op_sub (pe_ix ix_tup (pe_dget (hu_of hr) (pv 2) (pv 6) (fun _ _ => rfl)) pe_int (fun _ _ => rfl)) (pe_ix ix_tup (pe_ix ix_list (pe_fld (pv 0) rfl) (pv 7) (fun _ _ => rfl)) pe_int (fun _ _ => rfl))) pa_nil)))) <|
        pss_one (ps_if (PW.pt (pw_or (pt_cmp (pc_dnotin (hu_of hr) (pv 7) (pv 2))) (pw_or1 (pt_cmpR (op_ltT hr.units0) (pv 9) (pe_dget (hu_of hr) (pv 2) (pv 7) (fun _ _ => rfl)) (nomark _))))) (pss_cons (ps_dput (hu_of hr) (pv 2) (pv 7) (pv 9) rfl) <|
        pss_cons (ps_asg (pv 5) (pg_sub (pv 3) (pv 7) set_list)) <|
        pss_one (ps_set (i := 4) nd rfl (.inl rfl) pe_bl)) pss_nil)) pss_nil))))) <|
        pss_one (ps_ret (pe_tup (pa_cons (pv 2) (pa_cons (pv 3) pa_nil)))), ?_⟩
    have hwl := N.wl
    have hgl := N.gl
    obtain ⟨dx, ob⟩ := id NA.ob
    obtain ⟨gv, hgv, ga⟩ := id NA.g
    obtain ⟨wv, hwv, wa⟩ := id NA.w
    have hlw : wv.length = ws.length := wa.1
    have hlg : gv.length = gs.length := ga.1
    obtain ⟨_, hvs, as, rfl, sqs⟩ := ga.getR (List.getElem?_eq_getElem hs0)
    have egs : (gs[s0]).2 = gw gs s0 := (gw_get (List.getElem?_eq_getElem hs0)).symm
    rw [egs] at sqs
    intro d hd
    have s1 := same_new (o := .dK []) hd
    have e1 : (upd H d (.dK [])) d = some (.dK []) := upd_same
    generalize upd H d (.dK []) = H1 at s1 e1
    refine ⟨_, rfl, _, rfl, p, C, dx, _, _, rfl, s1 _ _ ob, T.cl, T.nG, nf_gates _ _, _, rfl, ng, _, s0, _, rfl, rfl, SqL.of (s1 _ _ hgv), atI_nat hvs, as, _, 1, _, rfl, rfl, (TK.same s1).seq sqs, atI_nat (j := 1) rfl, _, rfl, (by show 2 ≤ sizeLine; decide), fun t1 ht1 => ?_⟩
    have s2 := same_new (o := .tup [.int 0, .int (-gw gs s0)]) ht1
    have et1 : (upd H1 t1 (.tup [.int 0, .int (-gw gs s0)])) t1 = some (.tup [.int 0, .int (-gw gs s0)]) := upd_same
    have e2 := s2 _ _ e1
    have s12 := s1.trans s2
    generalize upd H1 t1 (.tup [.int 0, .int (-gw gs s0)]) = H2 at s2 et1 e2 s12
    refine ⟨e2, [(Sum.inl ((s0 : Nat) : Int), .ref t1)], rfl, Nat.le_of_ble_eq_true rfl, ?_⟩
    have emk : mergeK [] [((Sum.inl ((s0 : Nat) : Int) : Key), V.ref t1)] = [(Sum.inl ((s0 : Nat) : Int), .ref t1)] := rfl
    rw [emk]
    have s3 : Same H (upd H2 d (.dK [(Sum.inl ((s0 : Nat) : Int), .ref t1)])) := same_mut s12 hd
    have ntd : t1 ≠ d := fun z => by
      rw [z, e2] at et1
      cases et1
    have et3 : (upd H2 d (.dK [(Sum.inl ((s0 : Nat) : Int), .ref t1)])) t1 = some (.tup [.int 0, .int (-gw gs s0)]) := (upd_ne ntd).trans et1
    have kn0 : KnD K (upd H2 d (.dK [(Sum.inl ((s0 : Nat) : Int), .ref t1)])) d (ini gs s0) [(Sum.inl ((s0 : Nat) : Int), .ref t1)] [s0] := by
      refine ⟨upd_same, rfl, by simp, fun g => ?_, fun g c hg => ?_, fun g hg => ?_⟩
      · unfold ini
        rw [List.mem_singleton]
        by_cases z : g = s0
        · rw [if_pos z]
          exact ⟨fun _ => ⟨_, rfl⟩, fun _ => z⟩
        · rw [if_neg z]
          exact ⟨fun y => absurd y z, fun ⟨c, y⟩ => by cases y⟩
      · unfold ini at hg
        by_cases z : g = s0
        · rw [if_pos z] at hg
          cases hg
          rw [z]
          exact ⟨t1, valV_pos rfl, .inl (.inl et3)⟩
        · rw [if_neg z] at hg
          cases hg
      · unfold ini at hg
        by_cases z : g = s0
        · rw [if_pos z] at hg
          cases hg
        · rw [valV_neg (fun y => z (by have := Sum.inl.inj y; omega))]
          rfl
    generalize upd H2 d (.dK [(Sum.inl ((s0 : Nat) : Int), .ref t1)]) = H3 at s3 et3 kn0
    -- last
    refine ⟨(by show 1 ≤ sizeLine; decide), fun l0 hl0 => ?_⟩
    have t4 := same_new (o := .lst [.non]) hl0
    have e4 : (upd H3 l0 (.lst [.non])) l0 = some (.lst [.non]) := upd_same
    generalize upd H3 l0 (.lst [.non]) = H4 at t4 e4
    have s14 := s3.trans t4
    refine ⟨_, rfl, p, C, dx, _, _, rfl, s14 _ _ ob, T.cl, T.nG, nf_gates _ _, ng, gv, rfl, .inl (SqL.of (s14 _ _ hgv)), l0, _, _, rfl, rfl, e4, by omega, by omega, ?_, fun lL hlL => ?_⟩
    · show 1 * _ ≤ sizeLine
      exact Nat.le_of_lt (small1000 (by omega))
    have eL : (List.replicate ((gv.length : Nat) : Int).toNat [V.non]).flatten = (List.replicate gs.length (none : Option Nat)).map lasV := by
      rw [Int.toNat_natCast, hlg]
      have : ∀ n : Nat, (List.replicate n [V.non]).flatten = (List.replicate n (none : Option Nat)).map lasV := fun n => by
        induction n with
        | zero => rfl
        | succ n ih =>
          rw [List.replicate_succ, List.flatten_cons, ih, List.replicate_succ]
          rfl
      exact this _
    rw [eL]
    have t5 := same_new (o := .lst ((List.replicate gs.length (none : Option Nat)).map lasV)) hlL
    have e5 : (upd H4 lL (.lst ((List.replicate gs.length (none : Option Nat)).map lasV))) lL = some (.lst ((List.replicate gs.length (none : Option Nat)).map lasV)) := upd_same
    have hlL0 : H lL = none := s14.free hlL
    have kn5 := (kn0.same t4).same t5
    generalize upd H4 lL (.lst ((List.replicate gs.length (none : Option Nat)).map lasV)) = H5 at t5 e5 kn5
    have s15 := s14.trans t5
    have nLd : lL ≠ d := fun z => by
      rw [z, kn5.at_] at e5
      cases e5
    refine gn_norm (σ' := [some (.ref p), some (.int (s0 : Nat)), some (.ref d), some (.ref lL), none, none, none, none, none, none]) rfl ?_
    refine ⟨fun m σ H' => ∃ (k : Nat) (b : Bool) (u5 u6 u7 u8 u9 : Option V) (kvs : List (Key × V)) (ks : List Nat) (La : List (Option Nat)), σ = [some (.ref p), some (.int (s0 : Nat)), some (.ref d), some (.ref lL), some (.bl b), u5, u6, u7, u8, u9] ∧ m = (if b = true then gs.length + 1 - k else 0) ∧ k ≤ gs.length ∧ (b = true → k < gs.length) ∧ (b = false → Fix gs ws (rnds gs ws s0 k)) ∧
        Same H H' ∧ KnD K H' d (rnds gs ws s0 k) kvs ks ∧ H' lL = some (.lst (La.map lasV)) ∧ LaI gs ws s0 (rnds gs ws s0 k) La, ⟨_, 0, true, _, _, _, _, _, _, _, _, rfl, rfl, Nat.zero_le _, fun _ => by omega, (fun z => nomatch z), s15, kn5, e5, LaI.ini gs ws s0⟩, ?_⟩
    rintro m σ H6 ⟨k, b, u5, u6, u7, u8, u9, kvs, ks, La, rfl, rfl, hk, hkb, hfb, s6, kn6, eL6, la6⟩
    refine ⟨_, rfl, b, rfl, ?_⟩
    cases b with
    | false =>
      refine iteF ?_
      obtain ⟨lok, eb⟩ := la6.ok N hs0 hk (hfb rfl)
      refine ⟨_, rfl, _, rfl, (by show 2 ≤ sizeLine; decide), fun t ht => ?_⟩
      have st := same_new (o := .tup [.ref d, .ref lL]) ht
      rw [eb] at kn6
      exact q t d lL kvs ks La _ (s6.trans st) upd_same (kn6.same st) (st _ _ eL6) hlL0 lok
    | true =>
      refine iteT ?_
      have hkn := hkb rfl
      refine ⟨fun σ H' => ∃ (b : Bool) (u5 u6 u7 u8 u9 : Option V) (kvs : List (Key × V)) (ks : List Nat) (La : List (Option Nat)), σ = [some (.ref p), some (.int (s0 : Nat)), some (.ref d), some (.ref lL), some (.bl b), u5, u6, u7, u8, u9] ∧ (b = true → k + 1 < gs.length) ∧ (b = false → Fix gs ws (rnds gs ws s0 (k + 1))) ∧
        Same H H' ∧ KnD K H' d (rnds gs ws s0 (k + 1)) kvs ks ∧ H' lL = some (.lst (La.map lasV)) ∧ LaI gs ws s0 (rnds gs ws s0 (k + 1)) La, fun σ' H' ⟨b, u5, u6, u7, u8, u9, kvs, ks, La, e, h1, h2, h3, h4, h5, h6⟩ => ⟨if b = true then gs.length + 1 - (k + 1) else 0, ?_, k + 1, b, u5, u6, u7, u8, u9, kvs, ks, La, e, rfl, by omega, h1, h2, h3, h4, h5, h6⟩, ?_⟩
      · rw [if_pos rfl]
        split <;> omega
      refine ⟨_, rfl, p, C, dx, _, _, rfl, s6 _ _ ob, T.cl, T.nW, nf_wires _ _, nw, wv, rfl, SqL.of (s6 _ _ hwv), for_it (walk_enum (K := K) (a := nw) (xs := wv)) (fun j σ H' => ∃ (b : Bool) (u5 u6 u7 u8 u9 : Option V) (kvs : List (Key × V)) (ks : List Nat) (La : List (Option Nat)), σ = [some (.ref p), some (.int (s0 : Nat)), some (.ref d), some (.ref lL), some (.bl b), u5, u6, u7, u8, u9] ∧
          (b = false → (ws.take j).foldl (Lag.rel gs) (rnds gs ws s0 k) = rnds gs ws s0 k ∧ ∀ i x, i < j → ws[i]? = some x → ¬ bet gs (rnds gs ws s0 k) x) ∧ (b = true → ¬ Fix gs ws (rnds gs ws s0 k)) ∧
          Same H H' ∧ KnD K H' d ((ws.take j).foldl (Lag.rel gs) (rnds gs ws s0 k)) kvs ks ∧ H' lL = some (.lst (La.map lasV)) ∧ LaI gs ws s0 ((ws.take j).foldl (Lag.rel gs) (rnds gs ws s0 k)) La) ⟨false, _, _, _, _, _, kvs, ks, La, rfl, fun _ => ⟨rfl, fun i x hi => absurd hi (Nat.not_lt_zero _)⟩, (fun z => nomatch z), s6, kn6, eL6, la6⟩ (fun j σ H' _ ⟨_, _, _, _, _, _, _, _, _, _, _, _, sm, _⟩ => SqL.of (sm _ _ hwv)) ?_ ?_⟩
      · rintro j v σ H7 H7' hj ⟨b, u5, u6, u7, u8, u9, kvs, ks, La, rfl, hbf, hbt, sm, kn7, eL7, la7⟩ ⟨T', x1, y, rfl, hT, rfl, ex, ey⟩
        cases ex
        obtain ⟨x, hx, a, b', rfl, sq1, sq2⟩ := wa.get ey
        have hji : j < ws.length := (List.getElem?_eq_some_iff.mp hx).1
        have WX := N.wok x (List.mem_of_getElem? hx)
        have sT := same_new (o := .tup [.int (j : Nat), .ref a]) hT
        have eT : (upd H7 T' (.tup [.int (j : Nat), .ref a])) T' = some (.tup [.int (j : Nat), .ref a]) := upd_same
        have sm8 := sm.trans sT
        have kn8 := kn7.same sT
        have eL8 := sT _ _ eL7
        generalize upd H7 T' (.tup [.int (j : Nat), .ref a]) = H8 at sT eT sm8 kn8 eL8
        have tk8 := TK.same sm8
        have hfs := fold_succ (gs := gs) (D := rnds gs ws s0 k) hx
        have S0 : Snd gs ws s0 ((ws.take j).foldl (Lag.rel gs) (rnds gs ws s0 k)) := Snd.fold (fun y hy => List.mem_of_mem_take hy) (Snd.rnds k)
        have lD : leD ((ws.take j).foldl (Lag.rel gs) (rnds gs ws s0 k)) (ini gs s0) := (fold_le gs _ _).trans (rnds_le k)
        have hDs := S0.at_s N lD
        refine ⟨T', _, rfl, .inl (.inl eT), rfl, _, _, rfl, _, _, rfl, a, _, rfl, tk8.seq sq1, rfl, _, _, rfl, _, _, rfl, _, _, rfl, rfl, rfl, ?_⟩
        generalize hDj : (ws.take j).foldl (Lag.rel gs) (rnds gs ws s0 k) = Dj at *
        cases hc : Dj x.1 with
        | none =>
          refine ⟨_, rfl, _, rfl, d, none, rfl, kn8.getN hc, _, rfl, iteF ?_⟩
          have er : Lag.rel gs Dj x = Dj := rel_none hc
          rw [er] at hfs
          refine ⟨b, _, _, _, _, _, kvs, ks, La, rfl, fun hb => ⟨?_, fun i y hi hy => ?_⟩, hbt, sm8, ?_, eL8, ?_⟩
          · rw [hfs]
            exact (hbf hb).1
          · by_cases e : i = j
            · subst e
              rw [hx] at hy
              cases hy
              rintro ⟨c, h1, _⟩
              rw [← (hbf hb).1, hc] at h1
              cases h1
            · exact (hbf hb).2 i y (by omega) hy
          · rw [hfs]
            exact kn8
          · rw [hfs]
            exact la7
        | some c =>
          obtain ⟨tc, hg, hsc⟩ := kn8.get hc
          refine ⟨_, rfl, _, rfl, d, _, rfl, hg, _, rfl, iteT ?_⟩
          obtain ⟨_, hvg, ag, rfl, sqg⟩ := ga.getR (List.getElem?_eq_getElem WX.e)
          have ew : (gs[x.2.1]'WX.e).2 = gw gs x.2.1 := (gw_get (List.getElem?_eq_getElem WX.e)).symm
          rw [ew] at sqg
          refine ⟨_, rfl, _, rfl, d, _, rfl, hg, tc, _, 0, _, rfl, rfl, hsc, atI_nat (j := 0) rfl, _, rfl, b', _, rfl, .inr (tk8.seq sq2), _, _, rfl, rfl, ?_⟩
          refine ⟨_, rfl, _, rfl, d, _, rfl, hg, tc, _, 1, _, rfl, rfl, hsc, atI_nat (j := 1) rfl, _, rfl, p, C, dx, _, _, rfl, sm8 _ _ ob, T.cl, T.nG, nf_gates _ _, _, rfl, ng, _, x.2.1, _, rfl, rfl, SqL.of (sm8 _ _ hgv), atI_nat hvg, ag, _, 1, _, rfl, rfl, tk8.seq sqg, atI_nat (j := 1) rfl, _, _, rfl, rfl, (by show 2 ≤ sizeLine; decide), fun t9 ht9 => ?_⟩
          rw [List.length_map]
          have eadd : (c.1 + ((x.2.2.length : Nat) : Int), c.2 - gw gs x.2.1) = addC gs c x := rfl
          have s9 := same_new (o := .tup [.int (c.1 + ((x.2.2.length : Nat) : Int)), .int (c.2 - gw gs x.2.1)]) ht9
          have et9 : (upd H8 t9 (.tup [.int (c.1 + ((x.2.2.length : Nat) : Int)), .int (c.2 - gw gs x.2.1)])) t9 = some (.tup [.int (addC gs c x).1, .int (addC gs c x).2]) := upd_same
          have sm9 := sm8.trans s9
          have kn9 := kn8.same s9
          have eL9 := s9 _ _ eL8
          generalize upd H8 t9 (.tup [.int (c.1 + ((x.2.2.length : Nat) : Int)), .int (c.2 - gw gs x.2.1)]) = H9 at s9 et9 sm9 kn9 eL9
          refine gn_norm (σ' := [some (.ref p), some (.int (s0 : Nat)), some (.ref d), some (.ref lL), some (.bl b), some (.int (j : Nat)), some (.int (x.1 : Nat)), some (.int (x.2.1 : Nat)), some (.ref b'), some (.ref t9)]) rfl ?_
          have notb : ∀ (o : Cst), Dj x.2.1 = some o → ¬ ltC (addC gs c x) o → Lag.rel gs Dj x = Dj ∧ ¬ bet gs Dj x := fun o ho hn => by
            refine ⟨by rw [rel_old hc ho, if_neg hn], ?_⟩
            rintro ⟨c2, h1, h2⟩
            rw [hc] at h1
            cases h1
            exact hn (h2 o ho)
          cases ho : Dj x.2.1 with
          | none =>
            have hbet : ∀ o, Dj x.2.1 = some o → ltC (addC gs c x) o := fun o h => by rw [ho] at h; cases h
            refine ⟨_, rfl, _, rfl, d, none, rfl, kn9.getN ho, _, rfl, iteT ?_⟩
            have hsz : kvs.length < sizeLine := by
              have := kn9.len
              have := svNodup_le kn9.nd fun v hv => by
                obtain ⟨c', hc'⟩ := (kn9.mem v).mp hv
                obtain ⟨vs, hvs⟩ := S0 v c' hc'
                obtain ⟨ps, hps, _⟩ := hvs.pw
                exact hps.lt N hs0
              exact small1000 (by omega)
            refine ⟨_, rfl, _, rfl, _, rfl, d, _, rfl, DPut.k (k := Sum.inl ((x.2.1 : Nat) : Int)) kn9.at_ hsz, ?_⟩
            obtain ⟨ks', kn10⟩ := kn9.put (e := x.2.1) (c := addC gs c x) et9
            have sm10 : Same H (upd H9 d (.dK (putK kvs (Sum.inl ((x.2.1 : Nat) : Int)) (.ref t9)))) := same_mut sm9 hd
            have eL10 : (upd H9 d (.dK (putK kvs (Sum.inl ((x.2.1 : Nat) : Int)) (.ref t9)))) lL = some (.lst (La.map lasV)) := (upd_ne nLd).trans eL9
            generalize upd H9 d (.dK (putK kvs (Sum.inl ((x.2.1 : Nat) : Int)) (.ref t9))) = H10 at kn10 sm10 eL10
            have heL : x.2.1 < La.length := by rw [la7.len]; exact WX.e
            refine ⟨_, rfl, _, rfl, _, rfl, lL, _, _, x.2.1, rfl, rfl, eL10, Evl.ixN_nat (by rw [List.length_map]; exact heL), ?_⟩
            have er : Lag.rel gs Dj x = setD Dj x.2.1 (addC gs c x) := rel_bet hc hbet
            rw [er] at hfs
            have nfx : ¬ Fix gs ws (rnds gs ws s0 k) := fun F => by
              cases b with
              | true => exact hbt rfl F
              | false =>
                rw [(hbf rfl).1] at hc hbet
                exact F x (List.mem_of_getElem? hx) ⟨c, hc, hbet⟩
            refine ⟨true, _, _, _, _, _, putK kvs (Sum.inl ((x.2.1 : Nat) : Int)) (.ref t9), ks', La.set x.2.1 (some j), rfl, (fun z => nomatch z), fun _ => nfx, same_mut sm10 hlL0, ?_, ?_, ?_⟩
            · rw [hfs]
              exact kn10.mut eL10
            · rw [upd_same, List.map_set]
              rfl
            · rw [hfs]
              exact la7.set N hx hc hbet hDs S0
          | some o =>
            obtain ⟨to, hgo, hso⟩ := kn9.get ho
            refine ⟨_, rfl, _, rfl, d, _, rfl, hgo, _, rfl, iteF ?_⟩
            refine ⟨_, rfl, _, rfl, _, rfl, d, _, rfl, hgo, t9, to, [(addC gs c x).1, (addC gs c x).2], [o.1, o.2], rfl, rfl, .inl (.inl et9), hso, _, rfl, ?_⟩
            rw [lex_ltC]
            refine ite2 (fun e => ?_) (fun e => ?_)
            · have hlt : ltC (addC gs c x) o := of_decide_eq_true e
              have hbet : ∀ o', Dj x.2.1 = some o' → ltC (addC gs c x) o' := fun o' h => by rw [ho] at h; cases h; exact hlt
              have hsz : kvs.length < sizeLine := by
                have := kn9.len
                have := svNodup_le kn9.nd fun v hv => by
                  obtain ⟨c', hc'⟩ := (kn9.mem v).mp hv
                  obtain ⟨vs, hvs⟩ := S0 v c' hc'
                  obtain ⟨ps, hps, _⟩ := hvs.pw
                  exact hps.lt N hs0
                exact small1000 (by omega)
              refine ⟨_, rfl, _, rfl, _, rfl, d, _, rfl, DPut.k (k := Sum.inl ((x.2.1 : Nat) : Int)) kn9.at_ hsz, ?_⟩
              obtain ⟨ks', kn10⟩ := kn9.put (e := x.2.1) (c := addC gs c x) et9
              have sm10 : Same H (upd H9 d (.dK (putK kvs (Sum.inl ((x.2.1 : Nat) : Int)) (.ref t9)))) := same_mut sm9 hd
              have eL10 : (upd H9 d (.dK (putK kvs (Sum.inl ((x.2.1 : Nat) : Int)) (.ref t9)))) lL = some (.lst (La.map lasV)) := (upd_ne nLd).trans eL9
              generalize upd H9 d (.dK (putK kvs (Sum.inl ((x.2.1 : Nat) : Int)) (.ref t9))) = H10 at kn10 sm10 eL10
              have heL : x.2.1 < La.length := by rw [la7.len]; exact WX.e
              refine ⟨_, rfl, _, rfl, _, rfl, lL, _, _, x.2.1, rfl, rfl, eL10, Evl.ixN_nat (by rw [List.length_map]; exact heL), ?_⟩
              have er : Lag.rel gs Dj x = setD Dj x.2.1 (addC gs c x) := rel_bet hc hbet
              rw [er] at hfs
              have nfx : ¬ Fix gs ws (rnds gs ws s0 k) := fun F => by
                cases b with
                | true => exact hbt rfl F
                | false =>
                  rw [(hbf rfl).1] at hc hbet
                  exact F x (List.mem_of_getElem? hx) ⟨c, hc, hbet⟩
              refine ⟨true, _, _, _, _, _, putK kvs (Sum.inl ((x.2.1 : Nat) : Int)) (.ref t9), ks', La.set x.2.1 (some j), rfl, (fun z => nomatch z), fun _ => nfx, same_mut sm10 hlL0, ?_, ?_, ?_⟩
              · rw [hfs]
                exact kn10.mut eL10
              · rw [upd_same, List.map_set]
                rfl
              · rw [hfs]
                exact la7.set N hx hc hbet hDs S0
            · have hlt : ¬ ltC (addC gs c x) o := fun z => e (decide_eq_true z)
              obtain ⟨er, nb⟩ := notb o ho hlt
              rw [er] at hfs
              refine ⟨b, _, _, _, _, _, kvs, ks, La, rfl, fun hb => ⟨?_, fun i y hi hy => ?_⟩, hbt, sm9, ?_, eL9, ?_⟩
              · rw [hfs]
                exact (hbf hb).1
              · by_cases ei : i = j
                · subst ei
                  rw [hx] at hy
                  cases hy
                  rw [← (hbf hb).1]
                  exact nb
                · exact (hbf hb).2 i y (by omega) hy
              · rw [hfs]
                exact kn9
              · rw [hfs]
                exact la7
      · rintro σ H7 ⟨b, u5, u6, u7, u8, u9, kvs, ks, La, rfl, hbf, hbt, sm, kn7, eL7, la7⟩
        rw [hlw, List.take_length] at hbf kn7 la7
        refine ⟨b, _, _, _, _, _, kvs, ks, La, rfl, fun hb => ?_, fun hb => ?_, sm, kn7, eL7, la7⟩
        · rcases Nat.lt_or_ge (k + 1) gs.length with h | h
          · exact h
          · exact absurd (rnds_fix N hs0 h) (hbt hb)
        · have hfx : Fix gs ws (rnds gs ws s0 k) := fun y hy => by
            obtain ⟨i, hi⟩ := List.getElem?_of_mem hy
            exact (hbf hb).2 i y (List.getElem?_eq_some_iff.mp hi).1 hi
          have : rnds gs ws s0 (k + 1) = rnds gs ws s0 k := fold_fix hfx
          rw [this]
          exact hfx
end
end Lag

set_option maxRecDepth 100000
set_option maxHeartbeats 8000000
namespace Lag
open PySem PySem.Spec PyProof.Rows L2
/-! ### xs[::-1] of a list -/
theorem rev_range : ∀ (xs : List Value), (List.range xs.length).filterMap (fun k => xs[xs.length - 1 - k]?) = xs.reverse := fun xs => by
  refine List.ext_getElem? fun i => ?_
  have h0 : ((List.range xs.length).filterMap fun k => xs[xs.length - 1 - k]?) = (List.range xs.length).map fun k => xs.getD (xs.length - 1 - k) .none := by
    have : ∀ l : List Nat, (∀ k ∈ l, k < xs.length) → (l.filterMap fun k => xs[xs.length - 1 - k]?) = l.map fun k => xs.getD (xs.length - 1 - k) .none := fun l hl => by
      induction l with
      | nil => rfl
      | cons k l ih =>
        have hk := hl k (by simp)
        rw [List.filterMap_cons, List.map_cons, ih fun j hj => hl j (List.mem_cons_of_mem _ hj), List.getElem?_eq_getElem (by omega), List.getD_eq_getElem?_getD, List.getElem?_eq_getElem (by omega)]
        rfl
    exact this _ fun k hk => List.mem_range.mp hk
  rw [h0, List.getElem?_map]
  by_cases hi : i < xs.length
  · rw [List.getElem?_eq_getElem (by simpa using hi), List.getElem_range, List.getElem?_reverse hi, List.getElem?_eq_getElem (by omega)]
    show some (xs.getD _ _) = _
    rw [List.getD_eq_getElem?_getD, List.getElem?_eq_getElem (by omega)]
    rfl
  · rw [List.getElem?_eq_none (by simpa using hi), List.getElem?_eq_none (by simpa using hi)]
    rfl
theorem slicePick_rev (its : List Value) : slicePick its.toArray none none (some (-1)) = its.reverse.toArray := by
  have hb : sliceBounds none none (some (-1)) its.toArray.size = ((its.length : Int) - 1, -1, -1) := by
    rw [List.size_toArray]
    rfl
  unfold slicePick
  rw [hb]
  have hr : PySem.sliceRange ((its.length : Int) - 1) (-1) (-1) = (List.range its.length).map fun k => its.length - 1 - k := by
    unfold PySem.sliceRange
    have hc : (if (-1 : Int) > 0 then (if (its.length : Int) - 1 < -1 then (-1 - ((its.length : Int) - 1) + -1 - 1) / -1 else 0) else (if (its.length : Int) - 1 > -1 then ((its.length : Int) - 1 - -1 - -1 - 1) / -(-1) else 0)).toNat = its.length := by
      rw [if_neg (by decide)]
      split
      · have : ((its.length : Int) - 1 - -1 - -1 - 1) / -(-1) = its.length := by
          rw [show (-(-1) : Int) = 1 from rfl, Int.ediv_one]
          omega
        rw [this, Int.toNat_natCast]
      · omega
    show (List.range (if (-1 : Int) > 0 then (if (its.length : Int) - 1 < -1 then (-1 - ((its.length : Int) - 1) + -1 - 1) / -1 else 0) else (if (its.length : Int) - 1 > -1 then ((its.length : Int) - 1 - -1 - -1 - 1) / -(-1) else 0)).toNat).map _ = _
    rw [hc]
    refine List.map_congr_left fun k hk => ?_
    have := List.mem_range.mp hk
    omega
  show ((PySem.sliceRange ((its.length : Int) - 1) (-1) (-1)).filterMap (its.toArray[·]?)).toArray = _
  rw [hr, List.filterMap_map]
  congr 1
  refine Eq.trans ?_ (rev_range its)
  congr 1
  funext k
  show its.toArray[its.length - 1 - k]? = its[its.length - 1 - k]?
  simp
section
variable {X : Cx} {e : Expr} {te ts : TE} {p1 p2 p3 pos : Pos}
/-- xs[::-1] -/
def tRevL (K : PySem.W.Frag) (te ts : TE) : TE := fun σ H Q => te σ H fun x H1 => ts σ H1 fun y H2 => ∃ (a : Addr) (xs : List V), x = .ref a ∧ y = .int (-1) ∧ SqL K H2 a xs ∧ ∀ b, H2 b = none → Q (.ref b) (upd H2 b (.lst xs.reverse))
theorem pe_revL {st : Expr} (he : PE X e te) (hs : PE X st ts) : PE X (.Subscript e (.Slice none none (some st) p2) pos) (tRevL X.K te ts) := by
  refine ⟨fun pins s σ H Q I h => ?_⟩
  refine Subscript_ (thn (he.run pins s σ H _ I h) fun v s1 ⟨x, H1, I1, r1, q1⟩ => ?_)
  refine wpAny_Slice (thn (po_none.run pins s1 σ H1 (fun o H3 => o = none ∧ H3 = H1) I1 ⟨rfl, rfl⟩) fun vl s2 ⟨u, H2, I2, pl, eu, e2⟩ => ?_)
  subst eu e2
  refine thn (po_none.run pins s2 σ H2 (fun o H3 => o = none ∧ H3 = H2) I2 ⟨rfl, rfl⟩) fun vu s3 ⟨u, H3, I3, pu, eu, e3⟩ => ?_
  subst eu e3
  refine thn (hs.run pins s3 σ H3 _ I3 q1) fun vs s4 ⟨z, H4, I4, r4, q4⟩ => ?_
  obtain ⟨a, xs, rfl, rfl, hx, q⟩ := q4
  have e1 : v = Value.ref a := r1
  obtain ⟨t4, e4⟩ : ∃ t, vs = Value.int (-1) t := r4
  subst e1 e4
  cases pl
  cases pu
  have I5 : Inv X pins σ H4 { s4 with heap := s4.heap.push { cls := .type "slice", data := .fields #[.none, .none, .int (-1) t4] } } := I4.kept (t' := s4.toks) fun b ob q => Heap.get?_push_of_some _ q
  obtain ⟨its, r, ht, hz⟩ := I5.list hx
  have hlen := r.length
  show wpAny (model X.prog X.w) X.A (subscriptTail e (.Slice none none (some st) p2) (.ref a) (.ref s4.heap.objs.size)) (EP X pins σ Q) X.xe { s4 with heap := s4.heap.push { cls := .type "slice", data := .fields #[.none, .none, .int (-1) t4] } }
  refine tail_any (ops := [.ref a, .ref s4.heap.objs.size]) ht.isList.typeIs slot_list_getitem.lookup ?_ (by with_unfolding_all rfl)
  refine wpAny_getItem_list_slice ht.isList (Heap.IsSliceOf.new ..) .none .none (.int _ _) (by decide) ?_ (by rw [List.size_toArray]; omega)
  rw [slicePick_rev]
  have rr : Vals xs.reverse its.reverse := r.reverse
  refine ⟨.ref _, _, I5.laid (t' := s4.toks) (o := .lst xs.reverse) (fun b ob q => Heap.get?_push_of_some _ q) (Nat.le_refl _) ?_, rfl, q _ (I5.hok.fresh (Nat.le_refl _))⟩
  exact ⟨by rw [List.length_reverse]; omega, _, 0, rr, Heap.get?_push_size _ rfl⟩
end
section
variable {P : Program} {w : World} {K : PySem.W.Frag} {mg : Str → Option Value} {base : Heap}
abbrev nWayTo : List Str := ["net", "gate", "last", "wires"]
theorem scWayTo : FnScope nWayTo ["net", "gate", "last"] (defScope sWayTo) := ⟨rfl, rfl, rfl, by decide +kernel, rfl, by decide +kernel, by decide +kernel⟩
abbrev DWayTo (P : Program) (w : World) (K : PySem.W.Frag) (mg : Str → Option Value) (base : Heap) (C : Addr) := Df P w K mg base 1 "way_to" ["net", "gate", "last"] (spWayTo K C)
theorem ok_wayTo {f C : Addr} {fd : FuncData} (F : Fun K "way_to" "way_to" sWayTo f fd) (hm : mg "way_to" = some (.ref f)) (B : Bt mg) (T : NT K mg C) : DWayTo P w K mg base C f fd := by
  refine ⟨?_, hm, F.kp, F.binds fun _ _ _ _ _ _ us hl => match us, hl with | [_, _, _], _ => rfl⟩
  refine F.ok scWayTo (fun vs H Q E h => ?_) (fun cdv A outer s H vs Q E hr h => ?_)
  · obtain ⟨p, ng, nw, lL, gs, ws, La, g, s, ps, rfl, _⟩ := h
    rfl
  · obtain ⟨p, ng, nw, lL, gs, ws, La, g0, s0, ps, rfl, NA, N, hL, hll, hg0, bk0, hpl, q⟩ := h
    have nd := scWayTo.nd
    refine ⟨_, pss_cons (ps_set (i := 3) nd rfl (.inl rfl) (pe_lst pa_nil)) <|
        pss_cons (ps_while PassesOwn.never (pt_cmpR op_notN (pe_ix ix_list (pv 2) (pv 1) (fun _ _ => rfl)) pe_non (nomark _)) (pss_cons (ps_expr (pe_bm PySem.F.plainAttrs_list PySem.F.slot_list_append PySem.F.type_list_append mt_append (pv 3) (pa_cons (pe_ix ix_list (pv 2) (pv 1) (fun _ _ => rfl)) pa_nil))) <|
        pss_one (ps_set (i := 1) nd rfl (.inl rfl) (pe_ix ix_tup (pe_ix ix_list (pe_fld (pv 0) rfl) (pe_ix ix_list (pv 2) (pv 1) (fun _ _ => rfl)) (fun _ _ => rfl)) pe_int (fun _ _ => rfl))))) <|
        pss_one (ps_ret (pe_tup (pa_cons (pv 1) (pa_cons (pe_revL (pv 3) (pe_un un_neg pe_int)) pa_nil)))), ?_⟩
    obtain ⟨dx, ob⟩ := id NA.ob
    obtain ⟨wv, hwv, wa⟩ := id NA.w
    refine ⟨(by show 0 ≤ sizeLine; decide), fun lx hlx => ?_⟩
    have s1 := same_new (o := .lst []) hlx
    have e1 : (upd H lx (.lst [])) lx = some (.lst []) := upd_same
    generalize upd H lx (.lst []) = H1 at s1 e1
    refine gn_norm (σ' := [some (.ref p), some (.int (g0 : Nat)), some (.ref lL), some (.ref lx)]) rfl ?_
    refine ⟨fun m σ H' => ∃ (c : Nat) (acc rest : List Nat), σ = [some (.ref p), some (.int (c : Nat)), some (.ref lL), some (.ref lx)] ∧ m = rest.length ∧ c < gs.length ∧ Same H H' ∧ H' lx = some (.lst (nvs acc)) ∧ Bk ws La c rest s0 ∧ ps = acc ++ rest, ⟨_, g0, [], ps, rfl, rfl, hg0, s1, e1, bk0, rfl⟩, ?_⟩
    rintro m σ H2 ⟨c, acc, rest, rfl, rfl, hc, s2, ex, bk, rfl⟩
    have hcL : c < La.length := by rw [hll]; exact hc
    have eL := s2 _ _ hL
    refine ⟨_, rfl, _, rfl, lL, _, c, _, rfl, rfl, SqL.of eL, atI_nat (las_at hcL), rfl, _, rfl, ?_⟩
    rw [List.length_append] at hpl
    cases bk with
    | nil ela =>
      rw [ela]
      refine iteF ?_
      refine ⟨_, rfl, ?_⟩
      refine ⟨_, rfl, _, rfl, lx, _, rfl, rfl, SqL.of ex, fun lr hlr => ?_⟩
      have s3 := same_new (o := .lst (nvs acc).reverse) hlr
      have e3 : (upd H2 lr (.lst (nvs acc).reverse)) lr = some (.lst (nvs acc).reverse) := upd_same
      generalize upd H2 lr (.lst (nvs acc).reverse) = H3 at s3 e3
      refine ⟨(by show 2 ≤ sizeLine; decide), fun t ht => ?_⟩
      have s4 := same_new (o := .tup [.int (s0 : Nat), .ref lr]) ht
      refine q t lr _ ((s2.trans s3).trans s4) ((s2.trans s3).free ht) (s2.free hlr) upd_same ?_
      rw [s4 _ _ e3, List.append_nil]
      unfold nvs
      rw [List.map_reverse]
    | @cons _ k _ x rest ela hx hxe bk =>
      rw [ela]
      refine iteT ?_
      have WX := N.wok x (List.mem_of_getElem? hx)
      refine ⟨fun σ H' => ∃ (c' : Nat) (acc' rest' : List Nat), σ = [some (.ref p), some (.int (c' : Nat)), some (.ref lL), some (.ref lx)] ∧ rest'.length < rest.length + 1 ∧ c' < gs.length ∧ Same H H' ∧ H' lx = some (.lst (nvs acc')) ∧ Bk ws La c' rest' s0 ∧ acc ++ k :: rest = acc' ++ rest', fun σ' H' ⟨c', acc', rest', e, hlt, r2⟩ => ⟨rest'.length, hlt, c', acc', rest', e, rfl, r2⟩, ?_⟩
      have hla : (La.map lasV)[c]? = some (.int (k : Nat)) := by rw [las_at hcL, ela]; rfl
      rw [List.length_cons] at hpl
      refine ⟨_, rfl, .inl ⟨rfl, _, SqL.of ex⟩, _, rfl, _, rfl, lL, _, c, _, rfl, rfl, SqL.of eL, atI_nat hla, lx, _, _, rfl, rfl, ex, by rw [nvs_len]; exact small1000 (by omega), ?_⟩
      have s5 : Same H (upd H2 lx (.lst (nvs acc ++ [.int (k : Nat)]))) := same_mut s2 hlx
      obtain ⟨_, hv, a, b, rfl, sq1, sq2⟩ := wa.getR hx
      refine ⟨_, rfl, p, C, dx, _, _, rfl, s5 _ _ ob, T.cl, T.nW, nf_wires _ _, _, rfl, _, rfl, lL, _, c, _, rfl, rfl, SqL.of (s5 _ _ hL), atI_nat hla, nw, _, k, _, rfl, rfl, SqL.of (s5 _ _ hwv), atI_nat hv, a, _, 0, _, rfl, rfl, (TK.same s5).seq sq1, atI_nat (j := 0) rfl, ?_⟩
      refine ⟨x.1, acc ++ [k], rest, rfl, Nat.lt_succ_self _, WX.s, s5, ?_, bk, by rw [List.append_assoc]; rfl⟩
      rw [upd_same]
      unfold nvs
      rw [List.map_append]
      rfl
end
end Lag

set_option maxRecDepth 100000
set_option maxHeartbeats 8000000
namespace Lag
open PySem PySem.Spec PyProof.Rows L2
abbrev sWaitOf : Stmt := topS 19 -- @wait_of
abbrev sRoomOf : Stmt := topS 20 -- @room_of
abbrev sSpotsIn : Stmt := topS 42 -- @spots_in
abbrev sSpotsOf : Stmt := topS 43 -- @spots_of
abbrev sLagsAt : Stmt := topS 44 -- @lags_at
/-- a piece -/
def PceV (K : PySem.W.Frag) (H : Hp) (v : V) (pc : Pce) : Prop := ∃ a l, v = .ref a ∧ SqT K H a [.int (pc.1 : Nat), .ref l] ∧ SqL K H l (nvs pc.2)
theorem PceV.same {K : PySem.W.Frag} {H H' : Hp} {v : V} {pc : Pce} (s : Same H H') (h : PceV K H v pc) : PceV K H' v pc := by
  obtain ⟨a, l, e, h1, h2⟩ := h
  exact ⟨a, l, e, (TK.same s).seq h1, s.seq h2⟩
theorem nvs_at {r : List Nat} {i k : Nat} (h : r[i]? = some k) : (nvs r)[i]? = some (.int (k : Nat)) := by
  unfold nvs
  rw [List.getElem?_map, h]
  rfl
theorem nvs_of {r : List Nat} {i : Nat} {v : V} (h : (nvs r)[i]? = some v) : ∃ k, r[i]? = some k ∧ v = .int (k : Nat) := by
  unfold nvs at h
  rw [List.getElem?_map] at h
  cases e : r[i]? with
  | none => rw [e] at h; cases h
  | some k => rw [e] at h; cases h; exact ⟨k, rfl, rfl⟩
def PceOk (gs : List Gt) (ws : List Wr) (pc : Pce) : Prop := pc.1 < gs.length ∧ ∃ e, Pw ws pc.1 pc.2 e
def spWaitOf (K : PySem.W.Frag) (C : Addr) : Sp := fun vs H Q _ => ∃ (p ng nw : Addr) (gs : List Gt) (ws : List Wr) (v : V) (pc : Pce), vs = [.ref p, v] ∧ NetAt K C H p ng nw gs ws ∧ NetOk gs ws ∧ PceV K H v pc ∧ PceOk gs ws pc ∧ pc.2.length ≤ 1000 ∧ ∀ H', Same H H' → Q (.int (pwt gs ws pc.1 pc.2)) H'
def spRoomOf (K : PySem.W.Frag) (C : Addr) : Sp := fun vs H Q _ => ∃ (p ng nw : Addr) (gs : List Gt) (ws : List Wr) (b : Int) (v : V) (pc : Pce), vs = [.ref p, .int b, v] ∧ NetAt K C H p ng nw gs ws ∧ NetOk gs ws ∧ PceV K H v pc ∧ PceOk gs ws pc ∧ pc.2.length ≤ 1000 ∧ ∀ H', Same H H' → Q (.int (roomF gs ws b pc)) H'
def spSpotsIn (K : PySem.W.Frag) (C : Addr) : Sp := fun vs H Q _ => ∃ (p ng nw : Addr) (gs : List Gt) (ws : List Wr), vs = [.ref p] ∧ NetAt K C H p ng nw gs ws ∧ Q (.int ((gs.length + 1 : Nat) : Int)) H
def spotsL (gs : List Gt) : List Nat := (List.range gs.length).map (spotF gs)
def spSpotsOf (K : PySem.W.Frag) (C : Addr) : Sp := fun vs H Q _ => ∃ (p ng nw : Addr) (gs : List Gt) (ws : List Wr), vs = [.ref p] ∧ NetAt K C H p ng nw gs ws ∧ NetOk gs ws ∧ ∀ l H', Same H H' → H l = none → H' l = some (.lst (nvs (spotsL gs))) → Q (.ref l) H'
def spLagsAt (K : PySem.W.Frag) (C : Addr) : Sp := fun vs H Q _ => ∃ (p ng nw lf : Addr) (gs : List Gt) (ws : List Wr) (F : List Int), vs = [.ref p, .ref lf] ∧ NetAt K C H p ng nw gs ws ∧ NetOk gs ws ∧ SqL K H lf (F.map V.int) ∧ gs.length < F.length ∧
  ∀ l H', Same H H' → H l = none → H' l = some (.lst (((List.range gs.length).map (lagsAt gs fun v => F.getD v 0)).map V.int)) → Q (.ref l) H'
theorem spots_at {gs : List Gt} {g : Nat} (h : g < gs.length) : (nvs (spotsL gs))[g]? = some (.int ((spotF gs g : Nat) : Int)) := by
  refine nvs_at ?_
  unfold spotsL
  rw [List.getElem?_map, List.getElem?_range h]
  rfl
theorem sgetD_at {ts : List Int} {g : Nat} (h : g < ts.length) : (ts.map V.int)[g]? = some (.int (ts.getD g 0)) := by
  rw [List.getElem?_map, List.getElem?_eq_getElem h, List.getD_eq_getElem?_getD, List.getElem?_eq_getElem h]
  rfl
theorem skind_get {gs : List Gt} {i : Nat} {g : Gt} (h : gs[i]? = some g) : kindAt gs i = g.1 := by
  unfold kindAt
  rw [List.getD_eq_getElem?_getD, h]
  rfl
section
variable {P : Program} {w : World} {K : PySem.W.Frag} {mg : Str → Option Value} {base : Heap}
abbrev nWaitOf : List Str := ["net", "piece", "gate", "wires", "place"]
theorem scWaitOf : FnScope nWaitOf ["net", "piece"] (defScope sWaitOf) := ⟨rfl, rfl, rfl, by decide +kernel, rfl, by decide +kernel, by decide +kernel⟩
abbrev DWaitOf (P : Program) (w : World) (K : PySem.W.Frag) (mg : Str → Option Value) (base : Heap) (C : Addr) := Df P w K mg base 1 "wait_of" ["net", "piece"] (spWaitOf K C)
theorem ok_waitOf {f C : Addr} {fd : FuncData} (F : Fun K "wait_of" "wait_of" sWaitOf f fd) (hm : mg "wait_of" = some (.ref f)) (B : Bt mg) (ms : mg "sum" = none) (T : NT K mg C) : DWaitOf P w K mg base C f fd := by
  refine ⟨?_, hm, F.kp, F.binds fun _ _ _ _ _ _ us hl => match us, hl with | [_, _], _ => rfl⟩
  refine F.ok scWaitOf (fun vs H Q E h => ?_) (fun cdv A outer s H vs Q E hr h => ?_)
  · obtain ⟨p, ng, nw, gs, ws, v, pc, rfl, _⟩ := h
    rfl
  · obtain ⟨p, ng, nw, gs, ws, _, pc, rfl, NA, N, ⟨a, l, rfl, sa, sl⟩, ⟨hg, e0, hp⟩, hpl, q⟩ := h
    have nd := scWaitOf.nd
    refine ⟨_, pss_cons (ps_asg (pv 1) (pg_tup rfl (pgs_cons (pg_name (i := 2) nd rfl (.inl rfl)) (pgs_cons (pg_name (i := 3) nd rfl (.inl rfl)) pgs_nil)))) <|
        pss_one (ps_ret (pe_op op_add (pe_ix ix_tup (pe_ix ix_list (pe_fld (pv 0) rfl) (pv 2) (fun _ _ => rfl)) pe_int (fun _ _ => rfl)) (pe_callB (cr_sum rfl) (by rfl) ms (by decide +kernel) (pa_cons (pe_lc (own := [("place", 4)]) (g := (gName 4)) (tt := tYes) (te := (tOp (rIxT K) (tOp (rIxL K) (tFld K (tVar 0) "gates") (tOp (rIxT K) (tOp (rIxL K) (tFld K (tVar 0) "wires") (tVar 4)) (tC (.int 1)))) (tC (.int 1)))) rfl nd (pi_list (pv 3)) (blkOk_by (N := nWaitOf) (sc := defScope sWaitOf) (own := [("place", 4)]) (by decide +kernel)) (fun _ _ _ _ _ => (pg_name (i := 4) nd rfl (.inl rfl))) (fun _ _ _ _ _ => pts_nil) (fun _ _ _ _ _ => (pe_ix ix_tup (pe_ix ix_list (pe_fld (pv 0) rfl) (pe_ix ix_tup (pe_ix ix_list (pe_fld (pv 0) rfl) (pv 4) (fun _ _ => rfl)) pe_int (fun _ _ => rfl)) (fun _ _ => rfl)) pe_int (fun _ _ => rfl)))) pa_nil)))), ?_⟩
    obtain ⟨dx, ob⟩ := id NA.ob
    obtain ⟨gv, hgv, ga⟩ := id NA.g
    obtain ⟨wv, hwv, wa⟩ := id NA.w
    have gat : ∀ g, g < gs.length → ∀ H', Same H H' → ∃ b, gv[g]? = some (.ref b) ∧ ∃ k, SqT K H' b [.str k, .int (gw gs g)] := fun g hg H' s => by
      obtain ⟨_, hv, b, rfl, sq⟩ := ga.getR (List.getElem?_eq_getElem hg)
      refine ⟨b, hv, (gs[g]).1, ?_⟩
      rw [gw_get (List.getElem?_eq_getElem hg)]
      exact (TK.same s).seq sq
    refine ⟨_, rfl, a, _, rfl, sa, rfl, _, _, rfl, _, _, rfl, rfl, ?_⟩
    obtain ⟨b0, hb0, k0, sb0⟩ := gat pc.1 hg H (Same.refl _)
    refine ⟨_, rfl, p, C, dx, _, _, rfl, ob, T.cl, T.nG, nf_gates _ _, _, rfl, ng, _, pc.1, _, rfl, rfl, SqL.of hgv, atI_nat hb0, b0, _, 1, _, rfl, rfl, sb0, atI_nat (j := 1) rfl, ?_⟩
    refine ⟨_, rfl, l, rfl, ⟨_, sl⟩, fun D hD => ?_⟩
    refine lc_list (K := K) (a := l) (xs := nvs pc.2) (fun i Hc => Hc D = some (.lst ((((pc.2.take i).map fun p => gw gs (svW ws p).2.1)).map V.int)) ∧ Same H Hc) ⟨by rw [upd_same]; rfl, same_new hD⟩ (fun i Hc _ ⟨_, sm⟩ => sm.seq sl) ?_ ?_
    · rintro i v Hc hv ⟨hc, sm⟩
      obtain ⟨k, hk, rfl⟩ := nvs_of hv
      have hkw := hp.places k (List.mem_of_getElem? hk)
      have hx := List.getElem?_eq_getElem hkw
      obtain ⟨_, hv', b, b2, rfl, s1, s2⟩ := wa.getR hx
      have WX := N.wok _ (List.mem_of_getElem? hx)
      obtain ⟨b3, hb3, k3, sb3⟩ := gat _ WX.e Hc sm
      refine ⟨rfl, tyes ?_⟩
      refine ⟨_, rfl, p, C, dx, _, _, rfl, sm _ _ ob, T.cl, T.nG, nf_gates _ _, _, rfl, p, C, dx, _, _, rfl, sm _ _ ob, T.cl, T.nW, nf_wires _ _, _, rfl, nw, _, k, _, rfl, rfl, SqL.of (sm _ _ hwv), atI_nat hv', b, _, 1, _, rfl, rfl, (TK.same sm).seq s1, atI_nat (j := 1) rfl, ng, _, _, _, rfl, rfl, SqL.of (sm _ _ hgv), atI_nat hb3, b3, _, 1, _, rfl, rfl, sb3, atI_nat (j := 1) rfl, _, hc, ?_, ?_, same_mut sm hD⟩
      · rw [List.length_map, List.length_map, List.length_take]
        exact small1000 (by omega)
      · rw [upd_same, List.take_add_one, hk, List.map_append, List.map_append]
        show _ = some (HO.lst (_ ++ [V.int (gw gs (svW ws k).2.1)]))
        rw [svW_get hx]
    · rintro H2 ⟨hc, sm⟩
      rw [nvs_len, List.take_length] at hc
      exact ⟨D, _, rfl, SqL.of hc, _, _, rfl, rfl, q H2 sm⟩
abbrev nRoomOf : List Str := ["net", "beat", "piece", "gate", "wires", "place", "many"]
theorem scRoomOf : FnScope nRoomOf ["net", "beat", "piece"] (defScope sRoomOf) := ⟨rfl, rfl, rfl, by decide +kernel, rfl, by decide +kernel, by decide +kernel⟩
abbrev DRoomOf (P : Program) (w : World) (K : PySem.W.Frag) (mg : Str → Option Value) (base : Heap) (C : Addr) := Df P w K mg base 2 "room_of" ["net", "beat", "piece"] (spRoomOf K C)
theorem ok_roomOf {f fW C : Addr} {fd fdW : FuncData} (F : Fun K "room_of" "room_of" sRoomOf f fd) (hm : mg "room_of" = some (.ref f)) (B : Bt mg) (ms : mg "sum" = none) (T : NT K mg C) (DWt : DWaitOf P w K mg base C fW fdW) : DRoomOf P w K mg base C f fd := by
  refine ⟨?_, hm, F.kp, F.binds fun _ _ _ _ _ _ us hl => match us, hl with | [_, _, _], _ => rfl⟩
  refine F.ok scRoomOf (fun vs H Q E h => ?_) (fun cdv A outer s H vs Q E hr h => ?_)
  · obtain ⟨p, ng, nw, gs, ws, b, v, pc, rfl, _⟩ := h
    rfl
  · obtain ⟨p, ng, nw, gs, ws, bt, _, pc, rfl, NA, N, ⟨a, l, rfl, sa, sl⟩, ⟨hg, e0, hp⟩, hpl, q⟩ := h
    have nd := scRoomOf.nd
    refine ⟨_, pss_cons (ps_asg (pv 2) (pg_tup rfl (pgs_cons (pg_name (i := 3) nd rfl (.inl rfl)) (pgs_cons (pg_name (i := 4) nd rfl (.inl rfl)) pgs_nil)))) <|
        pss_cons (ps_set (i := 6) nd rfl (.inl rfl) (pe_callB (cr_sum rfl) (by rfl) ms (by decide +kernel) (pa_cons (pe_lc (own := [("place", 5)]) (g := (gName 5)) (tt := tYes) (te := (tCB (Evl.rLenS K) (tCons (tOp (rIxT K) (tOp (rIxL K) (tFld K (tVar 0) "wires") (tVar 5)) (tC (.int 2))) tNil))) rfl nd (pi_list (pv 4)) (blkOk_by (N := nRoomOf) (sc := defScope sRoomOf) (own := [("place", 5)]) (by decide +kernel)) (fun _ _ _ _ _ => (pg_name (i := 5) nd rfl (.inl rfl))) (fun _ _ _ _ _ => pts_nil) (fun _ _ _ _ _ => (pe_callB call_len_seq (by rfl) B.len PySem.boot_len (pa_cons (pe_ix ix_tup (pe_ix ix_list (pe_fld (pv 0) rfl) (pv 5) (fun _ _ => rfl)) pe_int (fun _ _ => rfl)) pa_nil)))) pa_nil))) <|
        pss_one (ps_ret (pe_ifExp (pt_cmpR op_gt (pe_call DWt.ok (hr.mono (by decide)) (by rfl) DWt.mg DWt.kp DWt.bd .nil pass0 (pa_cons (pv 0) (pa_cons (pv 2) pa_nil))) (pv 1) (nomark _)) (pe_op op_sub (pv 6) pe_int) (pv 6))), ?_⟩
    obtain ⟨dx, ob⟩ := id NA.ob
    obtain ⟨wv, hwv, wa⟩ := id NA.w
    refine ⟨_, rfl, a, _, rfl, sa, rfl, _, _, rfl, _, _, rfl, rfl, ?_⟩
    refine ⟨_, rfl, l, rfl, ⟨_, sl⟩, fun D hD => ?_⟩
    refine lc_list (K := K) (a := l) (xs := nvs pc.2) (fun i Hc => Hc D = some (.lst ((((pc.2.take i).map fun p => (((svW ws p).2.2.length : Nat) : Int))).map V.int)) ∧ Same H Hc) ⟨by rw [upd_same]; rfl, same_new hD⟩ (fun i Hc _ ⟨_, sm⟩ => sm.seq sl) ?_ ?_
    · rintro i v Hc hv ⟨hc, sm⟩
      obtain ⟨k, hk, rfl⟩ := nvs_of hv
      have hkw := hp.places k (List.mem_of_getElem? hk)
      have hx := List.getElem?_eq_getElem hkw
      obtain ⟨_, hv', b, b2, rfl, s1, s2⟩ := wa.getR hx
      refine ⟨rfl, tyes ?_⟩
      refine ⟨_, rfl, p, C, dx, _, _, rfl, sm _ _ ob, T.cl, T.nW, nf_wires _ _, _, rfl, nw, _, k, _, rfl, rfl, SqL.of (sm _ _ hwv), atI_nat hv', b, _, 2, _, rfl, rfl, (TK.same sm).seq s1, atI_nat (j := 2) rfl, b2, _, rfl, .inr ((TK.same sm).seq s2), _, hc, ?_, ?_, same_mut sm hD⟩
      · rw [List.length_map, List.length_map, List.length_take]
        exact small1000 (by omega)
      · rw [upd_same, List.take_add_one, hk, List.map_append, List.map_append]
        show _ = some (HO.lst (_ ++ [V.int (((svW ws k).2.2.length : Nat) : Int)]))
        rw [svW_get hx, List.length_map]
    · rintro H2 ⟨hc, sm⟩
      rw [nvs_len, List.take_length] at hc
      refine ⟨D, _, rfl, SqL.of hc, ?_⟩
      refine gn_norm (σ' := [some (.ref p), some (.int bt), some (.ref a), some (.int (pc.1 : Nat)), some (.ref l), none, some (.int (prg ws pc.2))]) rfl ?_
      refine ⟨_, rfl, _, rfl, p, ng, nw, gs, ws, _, pc, rfl, NA.same sm, N, PceV.same sm ⟨a, l, rfl, sa, sl⟩, ⟨hg, e0, hp⟩, hpl, fun H3 s3 => ?_⟩
      have qq := q H3 (sm.trans s3)
      unfold roomF at qq
      refine ⟨_, rfl, _, _, rfl, rfl, _, rfl, ?_⟩
      by_cases hb : bt < pwt gs ws pc.1 pc.2
      · rw [if_pos hb] at qq
        rw [decide_eq_true hb]
        exact iteT ⟨_, rfl, _, _, rfl, rfl, qq⟩
      · rw [if_neg hb] at qq
        rw [decide_eq_false hb]
        exact iteF ⟨_, rfl, qq⟩
abbrev DSpotsIn (P : Program) (w : World) (K : PySem.W.Frag) (mg : Str → Option Value) (base : Heap) (C : Addr) := Df P w K mg base 1 "spots_in" ["net"] (spSpotsIn K C)
abbrev nSpotsIn : List Str := ["net"]
theorem scSpotsIn : FnScope nSpotsIn ["net"] (defScope sSpotsIn) := ⟨rfl, rfl, rfl, by decide +kernel, rfl, by decide +kernel, by decide +kernel⟩
theorem ok_spotsIn {f C : Addr} {fd : FuncData} (F : Fun K "spots_in" "spots_in" sSpotsIn f fd) (hm : mg "spots_in" = some (.ref f)) (B : Bt mg) (T : NT K mg C) : DSpotsIn P w K mg base C f fd := by
  refine ⟨?_, hm, F.kp, F.binds fun _ _ _ _ _ _ us hl => match us, hl with | [_], _ => rfl⟩
  refine F.ok scSpotsIn (fun vs H Q E h => ?_) (fun cdv A outer s H vs Q E hr h => ?_)
  · obtain ⟨p, ng, nw, gs, ws, rfl, _⟩ := h
    rfl
  · obtain ⟨p, ng, nw, gs, ws, rfl, NA, q⟩ := h
    refine ⟨_, pss_one (ps_ret (pe_op op_add (pe_callB call_len_seq (by rfl) B.len PySem.boot_len (pa_cons (pe_fld (pv 0) rfl) pa_nil)) pe_int)), ?_⟩
    obtain ⟨dx, ob⟩ := id NA.ob
    obtain ⟨gv, hgv, ga⟩ := id NA.g
    have e : (((gv.length : Nat) : Int) + 1) = ((gs.length + 1 : Nat) : Int) := by
      rw [ga.1]
      omega
    refine ⟨_, rfl, p, C, dx, _, _, rfl, ob, T.cl, T.nG, nf_gates _ _, ng, gv, rfl, .inl (SqL.of hgv), _, _, rfl, rfl, ?_⟩
    show Q (.int (((gv.length : Nat) : Int) + 1)) H
    rw [e]
    exact q
abbrev DSpotsOf (P : Program) (w : World) (K : PySem.W.Frag) (mg : Str → Option Value) (base : Heap) (C : Addr) := Df P w K mg base 2 "spots_of" ["net"] (spSpotsOf K C)
abbrev nSpotsOf : List Str := ["net", "number", "gate"]
theorem scSpotsOf : FnScope nSpotsOf ["net"] (defScope sSpotsOf) := ⟨rfl, rfl, rfl, by decide +kernel, rfl, by decide +kernel, by decide +kernel⟩
theorem ok_spotsOf {f fO C : Addr} {fd fdO : FuncData} (F : Fun K "spots_of" "spots_of" sSpotsOf f fd) (hm : mg "spots_of" = some (.ref f)) (B : Bt mg) (T : NT K mg C) (DO : DOuter P w K mg base fO fdO) : DSpotsOf P w K mg base C f fd := by
  refine ⟨?_, hm, F.kp, F.binds fun _ _ _ _ _ _ us hl => match us, hl with | [_], _ => rfl⟩
  refine F.ok scSpotsOf (fun vs H Q E h => ?_) (fun cdv A outer s H vs Q E hr h => ?_)
  · obtain ⟨p, ng, nw, gs, ws, rfl, _⟩ := h
    rfl
  · obtain ⟨p, ng, nw, gs, ws, rfl, NA, N, q⟩ := h
    have nd := scSpotsOf.nd
    refine ⟨_, pss_one (ps_ret (pe_lc (own := [("number", 1), ("gate", 2)]) (g := (gTup K 2 (gCons (gName 1) (gCons (gName 2) gNil)))) (tt := tYes) (te := (tIf (tB (tCall (spOuter K) [] E0 (tCons (tVar 2) tNil))) (tCB (Evl.rLenS K) (tCons (tFld K (tVar 0) "gates") tNil)) (tVar 1))) rfl nd (pi_enum (by rfl) B.enum (pa_cons (pe_fld (pv 0) rfl) pa_nil)) (blkOk_by (N := nSpotsOf) (sc := defScope sSpotsOf) (own := [("number", 1), ("gate", 2)]) (by decide +kernel)) (fun _ _ _ _ _ => (pg_tup rfl (pgs_cons (pg_name (i := 1) nd rfl (.inl rfl)) (pgs_cons (pg_name (i := 2) nd rfl (.inl rfl)) pgs_nil)))) (fun _ _ _ _ _ => pts_nil) (fun _ _ _ _ _ => (pe_ifExp (pt_val (pe_call DO.ok (hr.mono (by decide)) (by rfl) DO.mg DO.kp DO.bd .nil pass0 (pa_cons (pv 2) pa_nil))) (pe_callB call_len_seq (by rfl) B.len PySem.boot_len (pa_cons (pe_fld (pv 0) rfl) pa_nil)) (pv 1))))), ?_⟩
    have hgl := N.gl
    obtain ⟨dx, ob⟩ := id NA.ob
    obtain ⟨gv, hgv, ga⟩ := id NA.g
    have hlg : gv.length = gs.length := ga.1
    refine ⟨_, rfl, p, C, dx, _, _, rfl, ob, T.cl, T.nG, nf_gates _ _, ng, _, rfl, SqL.of hgv, fun D hD => ?_⟩
    refine lc_it (walk_enum (K := K) (a := ng) (xs := gv)) (fun i Hc => Hc D = some (.lst (nvs ((List.range i).map (spotF gs)))) ∧ Same H Hc) ⟨by rw [upd_same]; rfl, same_new hD⟩ (fun i Hc _ ⟨_, sm⟩ => SqL.of (sm _ _ hgv)) ?_ ?_
    · rintro i v Hc Hc' hi ⟨hc, sm⟩ ⟨T', x1, y, rfl, hT, rfl, ex, ey⟩
      cases ex
      obtain ⟨g, hg, gvv⟩ := ga.get ey
      have hi' : i < gs.length := (List.getElem?_eq_some_iff.mp hg).1
      have sT := same_new (o := .tup [.int (i : Nat), y]) hT
      have sm2 := sm.trans sT
      have hc2 := sT _ _ hc
      refine ⟨T', _, rfl, .inl (.inl upd_same), rfl, _, _, rfl, _, _, rfl, rfl, rfl, tyes ?_⟩
      generalize upd Hc T' (.tup [.int (i : Nat), y]) = H3 at sT sm2 hc2
      refine ⟨_, rfl, y, g, rfl, gvv.tk (TK.same sm2), fun b hb => ⟨b, rfl, ?_⟩⟩
      have fin : ∀ n : Nat, n = spotF gs i → ∀ z : V, z = .int (n : Nat) → (upd H3 D (.lst (nvs ((List.range i).map (spotF gs)) ++ [z]))) D = some (.lst (nvs ((List.range (i + 1)).map (spotF gs)))) := fun n hn z hz => by
        rw [upd_same, List.range_succ, List.map_append, hz, hn]
        unfold nvs
        rw [List.map_append]
        rfl
      have hll : (nvs ((List.range i).map (spotF gs))).length < sizeLine := by
        rw [nvs_len, List.length_map, List.length_range]
        exact small1000 (by omega)
      have hk := skind_get hg
      cases b with
      | true =>
        refine iteT ⟨_, rfl, p, C, dx, _, _, rfl, sm2 _ _ ob, T.cl, T.nG, nf_gates _ _, ng, gv, rfl, .inl (SqL.of (sm2 _ _ hgv)), _, hc2, hll, fin gv.length ?_ _ rfl, same_mut sm2 hD⟩
        unfold spotF
        rw [if_pos (by rw [hk]; exact hb.mp rfl), hlg]
      | false =>
        refine iteF ⟨_, rfl, _, hc2, hll, fin i ?_ _ rfl, same_mut sm2 hD⟩
        unfold spotF
        rw [if_neg (by rw [hk]; exact fun z => by have := hb.mpr z; cases this)]
    · rintro H2 ⟨hc, sm⟩
      rw [hlg] at hc
      exact q D H2 sm hD hc
abbrev DLagsAt (P : Program) (w : World) (K : PySem.W.Frag) (mg : Str → Option Value) (base : Heap) (C : Addr) := Df P w K mg base 3 "lags_at" ["net", "found"] (spLagsAt K C)
abbrev nLagsAt : List Str := ["net", "found", "spot"]
theorem scLagsAt : FnScope nLagsAt ["net", "found"] (defScope sLagsAt) := ⟨rfl, rfl, rfl, by decide +kernel, rfl, by decide +kernel, by decide +kernel⟩
theorem ok_lagsAt {f fS C : Addr} {fd fdS : FuncData} (F : Fun K "lags_at" "lags_at" sLagsAt f fd) (hm : mg "lags_at" = some (.ref f)) (B : Bt mg) (T : NT K mg C) (DSp : DSpotsOf P w K mg base C fS fdS) : DLagsAt P w K mg base C f fd := by
  refine ⟨?_, hm, F.kp, F.binds fun _ _ _ _ _ _ us hl => match us, hl with | [_, _], _ => rfl⟩
  refine F.ok scLagsAt (fun vs H Q E h => ?_) (fun cdv A outer s H vs Q E hr h => ?_)
  · obtain ⟨p, ng, nw, lf, gs, ws, F, rfl, _⟩ := h
    rfl
  · obtain ⟨p, ng, nw, lf, gs, ws, F, rfl, NA, N, sf, hfl, q⟩ := h
    have nd := scLagsAt.nd
    refine ⟨_, pss_one (ps_ret (pe_lc (own := [("spot", 2)]) (g := (gName 2)) (tt := tYes) (te := (tOp (rI0 fun i j => .int (i - j)) (tOp (rIxL K) (tVar 1) (tVar 2)) (tOp (rIxL K) (tVar 1) (tCB (Evl.rLenS K) (tCons (tFld K (tVar 0) "gates") tNil))))) rfl nd (pi_list (pe_call DSp.ok (hr.mono (by decide)) (by rfl) DSp.mg DSp.kp DSp.bd .nil pass0 (pa_cons (pv 0) pa_nil))) (blkOk_by (N := nLagsAt) (sc := defScope sLagsAt) (own := [("spot", 2)]) (by decide +kernel)) (fun _ _ _ _ _ => (pg_name (i := 2) nd rfl (.inl rfl))) (fun _ _ _ _ _ => pts_nil) (fun _ _ _ _ _ => (pe_op op_sub (pe_ix ix_list (pv 1) (pv 2) (fun _ _ => rfl)) (pe_ix ix_list (pv 1) (pe_callB call_len_seq (by rfl) B.len PySem.boot_len (pa_cons (pe_fld (pv 0) rfl) pa_nil)) (fun _ _ => rfl)))))), ?_⟩
    have hgl := N.gl
    obtain ⟨dx, ob⟩ := id NA.ob
    obtain ⟨gv, hgv, ga⟩ := id NA.g
    have hlg : gv.length = gs.length := ga.1
    refine ⟨_, rfl, p, ng, nw, gs, ws, rfl, NA, N, fun l H1 s1 hl el => ?_⟩
    refine ⟨l, rfl, ⟨_, SqL.of el⟩, fun D hD => ?_⟩
    refine lc_list (K := K) (a := l) (xs := nvs (spotsL gs)) (fun i Hc => Hc D = some (.lst (((List.range i).map (lagsAt gs fun v => F.getD v 0)).map V.int)) ∧ Same H1 Hc) ⟨by rw [upd_same]; rfl, same_new hD⟩ (fun i Hc _ ⟨_, sm⟩ => SqL.of (sm _ _ el)) ?_ ?_
    · rintro i v Hc hv ⟨hc, sm⟩
      have hi : i < gs.length := by
        have := (List.getElem?_eq_some_iff.mp hv).1
        rw [nvs_len] at this
        unfold spotsL at this
        rw [List.length_map, List.length_range] at this
        exact this
      rw [spots_at hi] at hv
      cases hv
      have sm2 := s1.trans sm
      have hsp := spot_le (gs := gs) i hi
      refine ⟨rfl, tyes ?_⟩
      refine ⟨_, rfl, _, rfl, lf, _, _, _, rfl, rfl, sm2.seq sf, atI_nat (sgetD_at (by omega)), ?_⟩
      refine ⟨_, rfl, _, rfl, p, C, dx, _, _, rfl, sm2 _ _ ob, T.cl, T.nG, nf_gates _ _, ng, gv, rfl, .inl (SqL.of (sm2 _ _ hgv)), lf, _, gv.length, _, rfl, rfl, sm2.seq sf, atI_nat (sgetD_at (by omega)), _, _, rfl, rfl, _, hc, ?_, ?_, same_mut sm hD⟩
      · rw [List.length_map, List.length_map, List.length_range]
        exact small1000 (by omega)
      · rw [upd_same, List.range_succ, List.map_append, List.map_append, hlg]
        rfl
    · rintro H2 ⟨hc, sm⟩
      have e : (nvs (spotsL gs)).length = gs.length := by
        rw [nvs_len]
        unfold spotsL
        rw [List.length_map, List.length_range]
      rw [e] at hc
      exact q D H2 (s1.trans sm) (s1.free hD) hc
end
end Lag

set_option maxRecDepth 100000
set_option maxHeartbeats 8000000
namespace Lag
open PySem PySem.Spec PyProof.Rows L2
abbrev sBoundsFor : Stmt := topS 45 -- @bounds_for
/-- a bound with its piece, apart from the list lt -/
def BpV (K : PySem.W.Frag) (H : Hp) (lt : Addr) (v : V) (bp : Bnd × Pce) : Prop := ∃ a pa l, v = .ref a ∧ SqT K H a [.int ((bp.1.1 : Nat) : Int), .int ((bp.1.2.1 : Nat) : Int), .int bp.1.2.2, .ref pa] ∧ SqT K H pa [.int ((bp.2.1 : Nat) : Int), .ref l] ∧ H l = some (.lst (nvs bp.2.2)) ∧ l ≠ lt
theorem BpV.same {K : PySem.W.Frag} {H H' : Hp} {lt : Addr} {v : V} {bp : Bnd × Pce} (s : Same H H') (h : BpV K H lt v bp) : BpV K H' lt v bp := by
  obtain ⟨a, pa, l, e, h1, h2, h3, h4⟩ := h
  exact ⟨a, pa, l, e, (TK.same s).seq h1, (TK.same s).seq h2, s _ _ h3, h4⟩
theorem BpV.mut {K : PySem.W.Frag} {H : Hp} {lt : Addr} {xs : List V} {o : HO} {v : V} {bp : Bnd × Pce} (e : H lt = some (.lst xs)) (h : BpV K H lt v bp) : BpV K (upd H lt o) lt v bp := by
  obtain ⟨a, pa, l, e', h1, h2, h3, h4⟩ := h
  exact ⟨a, pa, l, e', (TK.lst e).seq h1, (TK.lst e).seq h2, (upd_ne h4).trans h3, h4⟩
theorem nat_sorted {ns : List Int} {ks : List Nat} (hp : ns.Perm (ks.map fun i => ((i : Nat) : Int))) (hs : ns.Pairwise (· ≤ ·)) : ∃ es : List Nat, ns = es.map (fun i => ((i : Nat) : Int)) ∧ es.Perm ks ∧ es.Pairwise (· ≤ ·) := by
  have hm : ∀ x ∈ ns, ∃ k : Nat, x = (k : Int) := fun x hx => by
    obtain ⟨k, _, rfl⟩ := List.mem_map.mp (hp.mem_iff.mp hx)
    exact ⟨k, rfl⟩
  have e : ns = (ns.map Int.toNat).map fun i => ((i : Nat) : Int) := by
    rw [List.map_map]
    have : ∀ l : List Int, (∀ x ∈ l, ∃ k : Nat, x = (k : Int)) → l = l.map ((fun i => ((i : Nat) : Int)) ∘ Int.toNat) := fun l hl => by
      induction l with
      | nil => rfl
      | cons x l ih =>
        obtain ⟨k, rfl⟩ := hl x (List.mem_cons_self ..)
        rw [List.map_cons, ← ih fun y hy => hl y (List.mem_cons_of_mem _ hy)]
        rfl
    exact this ns hm
  refine ⟨ns.map Int.toNat, e, ?_, ?_⟩
  · have h1 := hp.map Int.toNat
    rw [List.map_map] at h1
    have h2 : ks.map (Int.toNat ∘ fun i => ((i : Nat) : Int)) = ks := by
      have : (Int.toNat ∘ fun i : Nat => ((i : Nat) : Int)) = id := by
        funext i
        exact Int.toNat_natCast i
      rw [this, List.map_id]
    rw [h2] at h1
    exact h1
  · rw [List.pairwise_map]
    refine hs.imp_of_mem fun {a b} ha hb h => ?_
    obtain ⟨i, rfl⟩ := hm a ha
    obtain ⟨j, rfl⟩ := hm b hb
    omega
theorem KnD.list {K : PySem.W.Frag} {H : Hp} {d : Addr} {D : Dst} {kvs : List (Key × V)} {ks : List Nat} (h : KnD K H d D kvs ks) : (kvs.map fun kv => kV kv.1) = ((ks.map fun i => ((i : Nat) : Int)).map V.int) := by
  have e : (kvs.map fun kv => kV kv.1) = (kvs.map fun kv => kv.1).map kV := by rw [List.map_map]; rfl
  rw [e, h.keys, List.map_map, List.map_map]
  rfl
/-- the bounds made so far -/
structure PB (gs : List Gt) (ws : List Wr) (b : Int) (i : Nat) (es : List Nat) (bps : List (Bnd × Pce)) : Prop where
  ok : ∀ bp ∈ bps, ∃ e, bp.2.1 < gs.length ∧ Pw ws bp.2.1 bp.2.2 e ∧ bp.1 = (spotF gs bp.2.1, spotF gs e, roomF gs ws b bp.2) ∧ bp.2.2.length ≤ 1000 ∧ best gs ws bp.2.1 e = some (prg ws bp.2.2, -pwt gs ws bp.2.1 bp.2.2)
  full : ∀ s, s < i → ∀ e c, best gs ws s e = some c → ∃ bp ∈ bps, bp.2.1 = s ∧ Pw ws s bp.2.2 e ∧ c = (prg ws bp.2.2, -pwt gs ws s bp.2.2)
  here : ∀ e ∈ es, ∀ c, best gs ws i e = some c → ∃ bp ∈ bps, bp.2.1 = i ∧ Pw ws i bp.2.2 e ∧ c = (prg ws bp.2.2, -pwt gs ws i bp.2.2)
  len : bps.length ≤ i * gs.length + es.length
theorem PB.push {gs : List Gt} {ws : List Wr} {b : Int} {i e : Nat} {es ps : List Nat} {bps : List (Bnd × Pce)} {c : Cst} (h : PB gs ws b i es bps) (hi : i < gs.length) (hp : Pw ws i ps e) (hb : best gs ws i e = some c) (hc : c = (prg ws ps, -pwt gs ws i ps)) (hl : ps.length ≤ 1000) :
    PB gs ws b i (es ++ [e]) (bps ++ [((spotF gs i, spotF gs e, roomF gs ws b (i, ps)), (i, ps))]) := by
  refine ⟨fun bp hbp => ?_, fun s hs e' c' hc' => ?_, fun e' he' c' hc' => ?_, ?_⟩
  · rcases List.mem_append.mp hbp with hbp | hbp
    · exact h.ok bp hbp
    · rw [List.mem_singleton.mp hbp]
      exact ⟨e, hi, hp, rfl, hl, by rw [hb, hc]⟩
  · obtain ⟨bp, h1, h2⟩ := h.full s hs e' c' hc'
    exact ⟨bp, List.mem_append_left _ h1, h2⟩
  · rcases List.mem_append.mp he' with he' | he'
    · obtain ⟨bp, h1, h2⟩ := h.here e' he' c' hc'
      exact ⟨bp, List.mem_append_left _ h1, h2⟩
    · rw [List.mem_singleton.mp he'] at hc' ⊢
      rw [hb] at hc'
      cases hc'
      exact ⟨_, List.mem_append_right _ (List.mem_singleton.mpr rfl), rfl, hp, hc⟩
  · have := h.len
    rw [List.length_append, List.length_append, List.length_singleton, List.length_singleton]
    omega
theorem PB.next {gs : List Gt} {ws : List Wr} {b : Int} {i : Nat} {es : List Nat} {bps : List (Bnd × Pce)} (h : PB gs ws b i es bps) (hes : ∀ e c, best gs ws i e = some c → e ∈ es) (hl : es.length ≤ gs.length) : PB gs ws b (i + 1) [] bps := by
  refine ⟨h.ok, fun s hs e c hc => ?_, fun e he => (nomatch he), ?_⟩
  · by_cases z : s = i
    · subst z
      exact h.here e (hes e c hc) c hc
    · exact h.full s (by omega) e c hc
  · have := h.len
    rw [Nat.add_mul, Nat.one_mul]
    show _ ≤ _ + _ + 0
    omega
theorem PB.fin {gs : List Gt} {ws : List Wr} {b : Int} {es : List Nat} {bps : List (Bnd × Pce)} (h : PB gs ws b gs.length es bps) : BdsOk gs ws b (bps.map fun bp => bp.2) (bps.map fun bp => bp.1) := by
  refine ⟨⟨by rw [List.length_map, List.length_map], fun i pc bd h1 h2 => ?_⟩, fun s hs e c hc => ?_, fun pc hpc => ?_⟩
  · rw [List.getElem?_map] at h1 h2
    cases e : bps[i]? with
    | none => rw [e] at h1; cases h1
    | some bp =>
      rw [e] at h1 h2
      cases h1
      cases h2
      obtain ⟨e', k1, k2, k3, _⟩ := h.ok bp (List.mem_of_getElem? e)
      exact ⟨e', k1, k2, k3⟩
  · obtain ⟨bp, h1, h2⟩ := h.full s hs e c hc
    exact ⟨bp.2, List.mem_map.mpr ⟨bp, h1, rfl⟩, h2⟩
  · obtain ⟨bp, hbp, rfl⟩ := List.mem_map.mp hpc
    obtain ⟨e, k1, k2, _, _, k5⟩ := h.ok bp hbp
    exact ⟨e, k2, k5⟩
theorem PB.pce {gs : List Gt} {ws : List Wr} {b : Int} {i : Nat} {es : List Nat} {bps : List (Bnd × Pce)} (h : PB gs ws b i es bps) : ∀ bp ∈ bps, PceOk gs ws bp.2 ∧ bp.2.2.length ≤ 1000 := fun bp hbp => by
  obtain ⟨e, k1, k2, _, k4, _⟩ := h.ok bp hbp
  exact ⟨⟨k1, e, k2⟩, k4⟩
theorem small11k {n : Nat} (h : n ≤ 11000) : n < sizeLine := Nat.lt_of_le_of_lt h (by decide)
def spBoundsFor (K : PySem.W.Frag) (C : Addr) : Sp := fun vs H Q _ => ∃ (p ng nw : Addr) (gs : List Gt) (ws : List Wr) (b : Int), vs = [.ref p, .int b] ∧ NetAt K C H p ng nw gs ws ∧ NetOk gs ws ∧
  ∀ (lb : Addr) (bv : List V) (bps : List (Bnd × Pce)) (H' : Hp), Same H H' → H lb = none → H' lb = some (.lst bv) → All2 (BpV K H' lb) bv bps → BdsOk gs ws b (bps.map fun bp => bp.2) (bps.map fun bp => bp.1) → bps.length ≤ 11000 → (∀ bp ∈ bps, PceOk gs ws bp.2 ∧ bp.2.2.length ≤ 1000) → Q (.ref lb) H'
section
variable {P : Program} {w : World} {K : PySem.W.Frag} {mg : Str → Option Value} {base : Heap}
abbrev nBoundsFor : List Str := ["net", "beat", "spots", "told", "start", "known", "last", "end", "piece"]
theorem scBoundsFor : FnScope nBoundsFor ["net", "beat"] (defScope sBoundsFor) := ⟨rfl, rfl, rfl, by decide +kernel, rfl, by decide +kernel, by decide +kernel⟩
abbrev DBoundsFor (P : Program) (w : World) (K : PySem.W.Frag) (mg : Str → Option Value) (base : Heap) (C : Addr) := Df P w K mg base 3 "bounds_for" ["net", "beat"] (spBoundsFor K C)
theorem ok_boundsFor {f fS fB fW fR C : Addr} {fd fdS fdB fdW fdR : FuncData} (F : Fun K "bounds_for" "bounds_for" sBoundsFor f fd) (hm : mg "bounds_for" = some (.ref f)) (B : Bt mg) (mso : mg "sorted" = none) (T : NT K mg C) (DSp : DSpotsOf P w K mg base C fS fdS) (DBF : DBestFrom P w K mg base C fB fdB) (DW : DWayTo P w K mg base C fW fdW) (DRm : DRoomOf P w K mg base C fR fdR) : DBoundsFor P w K mg base C f fd := by
  refine ⟨?_, hm, F.kp, F.binds fun _ _ _ _ _ _ us hl => match us, hl with | [_, _], _ => rfl⟩
  refine F.ok scBoundsFor (fun vs H Q E h => ?_) (fun cdv A outer s H vs Q E hr h => ?_)
  · obtain ⟨p, ng, nw, gs, ws, b, rfl, _⟩ := h
    rfl
  · obtain ⟨p, ng, nw, gs, ws, b, rfl, NA, N, q⟩ := h
    have nd := scBoundsFor.nd
    refine ⟨_, pss_cons (ps_set (i := 2) nd rfl (.inl rfl) (pe_call DSp.ok (hr.mono (by decide)) (by rfl) DSp.mg DSp.kp DSp.bd .nil pass0 (pa_cons (pv 0) pa_nil))) <|
        pss_cons (ps_set (i := 3) nd rfl (.inl rfl) (pe_lst pa_nil)) <|
        pss_cons (ps_for PassesOwn.never rfl (pi_range1 (by rfl) B.range (pa_cons (pe_callB call_len_seq (by rfl) B.len PySem.boot_len (pa_cons (pe_fld (pv 0) rfl) pa_nil)) pa_nil)) (pg_name (i := 4) nd rfl (.inl rfl)) (pss_cons (ps_asg (pe_call DBF.ok (hr.mono (by decide)) (by rfl) DBF.mg DBF.kp DBF.bd .nil pass0 (pa_cons (pv 0) (pa_cons (pv 4) pa_nil))) (pg_tup rfl (pgs_cons (pg_name (i := 5) nd rfl (.inl rfl)) (pgs_cons (pg_name (i := 6) nd rfl (.inl rfl)) pgs_nil)))) <|
        pss_one (ps_for PassesOwn.never rfl (pi_list (pe_callB cr_sortedI (by rfl) mso (by decide +kernel) (pa_cons (pe_callTy (call_list_dK rfl) (by rfl) B.list (by decide +kernel) (pa_cons (pv 5) pa_nil)) pa_nil))) (pg_name (i := 7) nd rfl (.inl rfl)) (pss_cons (ps_set (i := 8) nd rfl (.inl rfl) (pe_call DW.ok (hr.mono (by decide)) (by rfl) DW.mg DW.kp DW.bd .nil pass0 (pa_cons (pv 0) (pa_cons (pv 7) (pa_cons (pv 6) pa_nil))))) <|
        pss_one (ps_expr (pe_bm PySem.F.plainAttrs_list PySem.F.slot_list_append PySem.F.type_list_append mt_append (pv 3) (pa_cons (pe_tup (pa_cons (pe_ix ix_list (pv 2) (pv 4) (fun _ _ => rfl)) (pa_cons (pe_ix ix_list (pv 2) (pv 7) (fun _ _ => rfl)) (pa_cons (pe_call DRm.ok (hr.mono (by decide)) (by rfl) DRm.mg DRm.kp DRm.bd .nil pass0 (pa_cons (pv 0) (pa_cons (pv 1) (pa_cons (pv 8) pa_nil)))) (pa_cons (pv 8) pa_nil))))) pa_nil))))))) <|
        pss_one (ps_ret (pv 3)), ?_⟩
    have hgl := N.gl
    obtain ⟨dx, ob⟩ := id NA.ob
    obtain ⟨gv, hgv, ga⟩ := id NA.g
    have hlg : gv.length = gs.length := ga.1
    refine ⟨_, rfl, p, ng, nw, gs, ws, rfl, NA, N, fun ls H1 s1 hls els => ?_⟩
    refine ⟨(by show 0 ≤ sizeLine; decide), fun lt hlt => ?_⟩
    have t2 := same_new (o := .lst []) hlt
    have e2 : (upd H1 lt (.lst [])) lt = some (.lst []) := upd_same
    have hlt0 : H lt = none := s1.free hlt
    generalize upd H1 lt (.lst []) = H2 at t2 e2
    have s2 := s1.trans t2
    refine gn_norm (σ' := [some (.ref p), some (.int b), some (.ref ls), some (.ref lt), none, none, none, none, none]) rfl ?_
    refine ⟨_, rfl, p, C, dx, _, _, rfl, s2 _ _ ob, T.cl, T.nG, nf_gates _ _, ng, gv, rfl, .inl (SqL.of (s2 _ _ hgv)), _, rfl, by omega, by omega, for_range (lo := 0) (n := ((gv.length : Nat) : Int).toNat) (fun i σ H' => ∃ (u4 u5 u6 u7 u8 : Option V) (bv : List V) (bps : List (Bnd × Pce)), σ = [some (.ref p), some (.int b), some (.ref ls), some (.ref lt), u4, u5, u6, u7, u8] ∧ Same H H' ∧ Same H1 H' ∧ H' lt = some (.lst bv) ∧ All2 (BpV K H' lt) bv bps ∧ PB gs ws b i [] bps)
      ⟨_, _, _, _, _, [], [], rfl, s2, t2, e2, All2.nil, ⟨fun bp h => (nomatch h), fun s hs => absurd hs (Nat.not_lt_zero _), fun e he => (nomatch he), Nat.zero_le _⟩⟩ ?_ ?_⟩
    · rintro i σ H3 hi ⟨u4, u5, u6, u7, u8, bv, bps, rfl, sm, sm1, eb, ab, pb⟩
      rw [Int.toNat_natCast, hlg] at hi
      have ei : (0 : Int) + ((i : Nat) : Int) = ((i : Nat) : Int) := Int.zero_add _
      rw [ei]
      refine ⟨_, rfl, _, rfl, p, ng, nw, gs, ws, i, rfl, NA.same sm, N, hi, fun t d lL kvs ks La H4 s4 et kn eL hL0 lok => ?_⟩
      refine ⟨t, _, rfl, .inl (.inl et), rfl, _, _, rfl, _, _, rfl, rfl, ?_⟩
      refine ⟨_, rfl, d, kvs, rfl, kn.at_, fun lk hlk => ?_⟩
      rw [kn.list]
      have t5 := same_new (o := .lst ((ks.map fun i => ((i : Nat) : Int)).map V.int)) hlk
      have e5 : (upd H4 lk (.lst ((ks.map fun i => ((i : Nat) : Int)).map V.int))) lk = some (.lst ((ks.map fun i => ((i : Nat) : Int)).map V.int)) := upd_same
      generalize upd H4 lk (.lst ((ks.map fun i => ((i : Nat) : Int)).map V.int)) = H5 at t5 e5
      refine ⟨lk, _, rfl, SqL.of e5, fun ns lp hperm hsrt hlp => ?_⟩
      obtain ⟨es, rfl, hep, hes⟩ := nat_sorted hperm hsrt
      have t6 := same_new (o := .lst ((es.map fun i => ((i : Nat) : Int)).map V.int)) hlp
      have e6 : (upd H5 lp (.lst ((es.map fun i => ((i : Nat) : Int)).map V.int))) lp = some (.lst ((es.map fun i => ((i : Nat) : Int)).map V.int)) := upd_same
      generalize upd H5 lp (.lst ((es.map fun i => ((i : Nat) : Int)).map V.int)) = H6 at t6 e6
      have s36 := (s4.trans t5).trans t6
      have s46 := t5.trans t6
      have hkl : es.length ≤ gs.length := by
        rw [hep.length_eq]
        exact svNodup_le kn.nd fun v hv => by
          obtain ⟨c, hc⟩ := (kn.mem v).mp hv
          exact best_lt N hi hc
      have npt : lp ≠ lt := fun z => by
        rw [z] at hlp
        rw [((s4.trans t5)) _ _ eb] at hlp
        cases hlp
      have hex : (es.map fun i => ((i : Nat) : Int)).map V.int = nvs es := by rw [List.map_map]; rfl
      rw [hex] at e6
      have hilt : i * gs.length ≤ 10000 := Nat.mul_le_mul (by omega : i ≤ 100) (by omega : gs.length ≤ 100)
      refine ⟨lp, rfl, ⟨_, SqL.of e6⟩, for_list (K := K) (a := lp) (xs := nvs es) (fun j σ H' => ∃ (u7 u8 : Option V) (bv : List V) (bps : List (Bnd × Pce)), σ = [some (.ref p), some (.int b), some (.ref ls), some (.ref lt), some (.int (i : Nat)), some (.ref d), some (.ref lL), u7, u8] ∧ Same H H' ∧ Same H1 H' ∧ But lt H6 H' ∧ H' lt = some (.lst bv) ∧ All2 (BpV K H' lt) bv bps ∧ PB gs ws b i (es.take j) bps)
        ⟨_, _, bv, bps, rfl, sm.trans s36, sm1.trans s36, But.refl _ _, s36 _ _ eb, ab.imp fun _ _ r => r.same s36, pb⟩ (fun j σ H' _ ⟨_, _, _, _, _, _, _, bt, _⟩ => SqL.of (bt _ _ npt e6)) ?_ ?_⟩
      · rintro j v σ H7 hv ⟨u7, u8, bv, bps, rfl, sm7, sm17, bt, eb7, ab7, pb7⟩
        obtain ⟨e, he, rfl⟩ := nvs_of hv
        obtain ⟨c, hc⟩ := (kn.mem e).mp (hep.mem_iff.mp (List.mem_of_getElem? he))
        obtain ⟨ps, bk, ec, hpl⟩ := lok.2 e c hc
        have heg := best_lt N hi hc
        have hpw := bk.pw
        have eL6 := s46 _ _ eL
        have nLt : lL ≠ lt := (ne_of_none eb hL0).symm
        refine ⟨_, rfl, _, rfl, _, rfl, p, ng, nw, lL, gs, ws, La, e, i, ps, rfl, NA.same sm7, N, bt _ _ nLt eL6, lok.1, heg, bk, by omega, fun t8 lr H8 s8 ht8 hlr et8 er => ?_⟩
        have eb8 := s8 _ _ eb7
        have nrt : lr ≠ lt := (ne_of_none eb7 hlr).symm
        refine gn_norm (σ' := [some (.ref p), some (.int b), some (.ref ls), some (.ref lt), some (.int (i : Nat)), some (.ref d), some (.ref lL), some (.int (e : Nat)), some (.ref t8)]) rfl ?_
        have sm18 := sm17.trans s8
        have els8 := sm18 _ _ els
        refine ⟨_, rfl, .inl ⟨rfl, _, SqL.of eb8⟩, _, rfl, _, rfl, ls, _, i, _, rfl, rfl, SqL.of els8, atI_nat (spots_at hi), _, rfl, _, rfl, ls, _, e, _, rfl, rfl, SqL.of els8, atI_nat (spots_at heg), _, rfl, _, rfl, _, rfl, ?_⟩
        refine ⟨p, ng, nw, gs, ws, b, _, (i, ps.reverse), rfl, (NA.same sm7).same s8, N, ⟨t8, lr, rfl, .inl (.inl et8), SqL.of er⟩, ⟨hi, e, hpw⟩, by rw [List.length_reverse]; omega, fun H9 s9 => ?_⟩
        refine ⟨_, rfl, (by show 4 ≤ sizeLine; decide), fun tb htb => ?_⟩
        have t10 := same_new (o := .tup [.int ((spotF gs i : Nat) : Int), .int ((spotF gs e : Nat) : Int), .int (roomF gs ws b (i, ps.reverse)), .ref t8]) htb
        have e10 : (upd H9 tb (.tup [.int ((spotF gs i : Nat) : Int), .int ((spotF gs e : Nat) : Int), .int (roomF gs ws b (i, ps.reverse)), .ref t8])) tb = some (.tup [.int ((spotF gs i : Nat) : Int), .int ((spotF gs e : Nat) : Int), .int (roomF gs ws b (i, ps.reverse)), .ref t8]) := upd_same
        generalize upd H9 tb (.tup [.int ((spotF gs i : Nat) : Int), .int ((spotF gs e : Nat) : Int), .int (roomF gs ws b (i, ps.reverse)), .ref t8]) = H10 at t10 e10
        have s710 := (s8.trans s9).trans t10
        have s810 := s9.trans t10
        have eb10 := s710 _ _ eb7
        have pbl := pb7.len
        have hbl : bv.length = bps.length := ab7.1
        have htk : (es.take j).length ≤ gs.length := by
          rw [List.length_take]
          omega
        refine ⟨lt, bv, _, rfl, rfl, eb10, small11k (by omega), ?_⟩
        have ab10 : All2 (BpV K H10 lt) bv bps := ab7.imp fun _ _ r => r.same s710
        refine ⟨_, _, bv ++ [.ref tb], bps ++ [((spotF gs i, spotF gs e, roomF gs ws b (i, ps.reverse)), (i, ps.reverse))], rfl, same_mut (sm7.trans s710) hlt0, same_mut (sm17.trans s710) hlt, ?_, upd_same, ?_, ?_⟩
        · intro a o na ea
          rw [upd_ne na]
          exact s710 _ _ (bt _ _ na ea)
        · refine (ab10.imp fun _ _ r => r.mut eb10).snoc ⟨tb, t8, lr, rfl, (TK.lst eb10).seq (.inl (.inl e10)), (TK.lst eb10).seq ((TK.same s810).seq (.inl (.inl et8))), (upd_ne nrt).trans (s810 _ _ er), nrt⟩
        · have et : es.take (j + 1) = es.take j ++ [e] := by rw [List.take_add_one, he]; rfl
          rw [et]
          exact pb7.push hi hpw hc ec (by rw [List.length_reverse]; omega)
      · rintro σ H7 ⟨u7, u8, bv, bps, rfl, sm7, sm17, bt, eb7, ab7, pb7⟩
        rw [nvs_len, List.take_length] at pb7
        exact ⟨_, _, _, _, _, bv, bps, rfl, sm7, sm17, eb7, ab7, pb7.next (fun e c hc => hep.mem_iff.mpr ((kn.mem e).mpr ⟨c, hc⟩)) hkl⟩
    · rintro σ H3 ⟨u4, u5, u6, u7, u8, bv, bps, rfl, sm, sm1, eb, ab, pb⟩
      rw [Int.toNat_natCast, hlg] at pb
      refine ⟨_, rfl, q lt bv bps H3 sm hlt0 eb ab pb.fin ?_ pb.pce⟩
      have h1 := pb.len
      have h2 : gs.length * gs.length ≤ 10000 := Nat.mul_le_mul hgl hgl
      have h3 : ([] : List Nat).length = 0 := rfl
      omega
end
end Lag

set_option maxRecDepth 100000
set_option maxHeartbeats 8000000
namespace Lag
open PySem PySem.Spec PyProof.Rows L2
abbrev sRingFrom : Stmt := topS 16 -- @ring_from
abbrev sSettle : Stmt := topS 17 -- @settle
def BndV (K : PySem.W.Frag) (H : Hp) (v : V) (bd : Bnd) : Prop := ∃ a th, v = .ref a ∧ SqT K H a [.int ((bd.1 : Nat) : Int), .int ((bd.2.1 : Nat) : Int), .int bd.2.2, th]
theorem BndV.tk {K : PySem.W.Frag} {H H' : Hp} {v : V} {bd : Bnd} (t : TK H H') (h : BndV K H v bd) : BndV K H' v bd := by
  obtain ⟨a, th, e, s⟩ := h
  exact ⟨a, th, e, t.seq s⟩
/-- what of each place is come by next -/
structure OnD (K : PySem.W.Frag) (H : Hp) (d : Addr) (kvs : List (Key × V)) (bv : List V) (bs : List Bnd) (O : Nat → Option Nat) (n : Nat) : Prop where
  at_ : H d = some (.dK kvs)
  keys : ∃ ks : List Nat, kvs.map (fun kv => kv.1) = ks.map (fun g => Sum.inl ((g : Nat) : Int)) ∧ ks.Nodup ∧ ∀ g ∈ ks, g < n
  on : ∀ v j, O v = some j → ∃ t z b, valV kvs (Sum.inl ((v : Nat) : Int)) = some (.ref t) ∧ SqT K H t [z, .int ((b.2.1 : Nat) : Int)] ∧ bv[j]? = some z ∧ bs[j]? = some b ∧ b.1 = v
theorem OnD.tk {K : PySem.W.Frag} {H H' : Hp} {d : Addr} {kvs : List (Key × V)} {bv : List V} {bs : List Bnd} {O : Nat → Option Nat} {n : Nat} (h : OnD K H d kvs bv bs O n) (t : TK H H') (e : H' d = some (.dK kvs)) : OnD K H' d kvs bv bs O n :=
  ⟨e, h.keys, fun v j hv => by
    obtain ⟨t', z, b, h1, h2, h3⟩ := h.on v j hv
    exact ⟨t', z, b, h1, t.seq h2, h3⟩⟩
theorem OnD.same {K : PySem.W.Frag} {H H' : Hp} {d : Addr} {kvs : List (Key × V)} {bv : List V} {bs : List Bnd} {O : Nat → Option Nat} {n : Nat} (h : OnD K H d kvs bv bs O n) (s : Same H H') : OnD K H' d kvs bv bs O n := h.tk (TK.same s) (s _ _ h.at_)
theorem OnD.len {K : PySem.W.Frag} {H : Hp} {d : Addr} {kvs : List (Key × V)} {bv : List V} {bs : List Bnd} {O : Nat → Option Nat} {n : Nat} (h : OnD K H d kvs bv bs O n) : kvs.length ≤ n := by
  obtain ⟨ks, h1, h2, h3⟩ := h.keys
  have := congrArg List.length h1
  rw [List.length_map, List.length_map] at this
  rw [this]
  exact svNodup_le h2 h3
theorem OnD.put {K : PySem.W.Frag} {H : Hp} {d t a : Addr} {kvs : List (Key × V)} {bv : List V} {bs : List Bnd} {O : Nat → Option Nat} {n j : Nat} {b : Bnd} (h : OnD K H d kvs bv bs O n) (ht : H t = some (.tup [.ref a, .int ((b.2.1 : Nat) : Int)])) (hz : bv[j]? = some (.ref a)) (hb : bs[j]? = some b) (hn : b.1 < n) :
    OnD K (upd H d (.dK (putK kvs (Sum.inl ((b.1 : Nat) : Int)) (.ref t)))) d (putK kvs (Sum.inl ((b.1 : Nat) : Int)) (.ref t)) bv bs (updO O b.1 j) n := by
  have inj : ∀ {i j : Nat}, (Sum.inl ((i : Nat) : Int) : Key) = Sum.inl ((j : Nat) : Int) → i = j := fun {i j} z => by
    have := Sum.inl.inj z
    omega
  have tk : TK H (upd H d (.dK (putK kvs (Sum.inl ((b.1 : Nat) : Int)) (.ref t)))) := fun c o to eb => by
    rw [upd_ne (fun z => by
      rw [z, h.at_] at eb
      cases eb
      exact to)]
    exact eb
  refine ⟨upd_same, ?_, fun v i hv => ?_⟩
  · obtain ⟨ks, h1, h2, h3⟩ := h.keys
    have hk : (Sum.inl ((b.1 : Nat) : Int) : Key) ∈ kvs.map (fun kv => kv.1) ↔ b.1 ∈ ks := by
      rw [h1]
      constructor
      · intro z
        obtain ⟨g, hg, e'⟩ := List.mem_map.mp z
        rw [← inj e']
        exact hg
      · intro z
        exact List.mem_map.mpr ⟨b.1, z, rfl⟩
    by_cases he : b.1 ∈ ks
    · exact ⟨ks, by rw [putK_old (hk.mpr he)]; exact h1, h2, h3⟩
    · refine ⟨ks ++ [b.1], by rw [putK_fresh fun z => he (hk.mp z), h1, List.map_append]; rfl, ?_, fun g hg => ?_⟩
      · rw [List.nodup_append]
        refine ⟨h2, by simp, fun x hx y hy z => ?_⟩
        rw [List.mem_singleton.mp hy] at z
        exact he (z ▸ hx)
      · rcases List.mem_append.mp hg with hg | hg
        · exact h3 g hg
        · rw [List.mem_singleton.mp hg]
          exact hn
  · unfold updO at hv
    rw [valV_put]
    by_cases z : v = b.1
    · rw [if_pos z] at hv
      cases hv
      rw [if_pos (by rw [z])]
      exact ⟨t, _, b, rfl, tk.seq (.inl (.inl ht)), hz, hb, z.symm⟩
    · rw [if_neg z] at hv
      rw [if_neg fun y => z (inj y)]
      obtain ⟨t', z', b', k1, k2, k3⟩ := h.on v i hv
      exact ⟨t', z', b', k1, tk.seq k2, k3⟩
/-- what was seen, with its place -/
def SvSeen (H : Hp) (D : Addr) (es : List Nat) : Prop := ∃ kvs : List (Key × V), H D = some (.dK kvs) ∧ kvs.length ≤ es.length ∧ ∀ g : Nat, valV kvs (Sum.inl (g : Int)) = if g ∈ es then some (.int ((es.idxOf g : Nat) : Int)) else none
theorem SvSeen.get {H : Hp} {D : Addr} {es : List Nat} (h : SvSeen H D es) (g : Nat) : DGet H D (.int (g : Nat)) (if g ∈ es then some (.int ((es.idxOf g : Nat) : Int)) else none) := by
  obtain ⟨kvs, e, _, hv⟩ := h
  have := DGet.k (k := Sum.inl (g : Int)) e
  rw [hv g] at this
  exact this
theorem SvSeen.put {H : Hp} {D : Addr} {es : List Nat} (h : SvSeen H D es) (hm : es.length < sizeLine) {c : Nat} (hc : c ∉ es) : ∃ o, DPut H D (.int (c : Nat)) (.int ((es.length : Nat) : Int)) (upd H D o) ∧ SvSeen (upd H D o) D (es ++ [c]) := by
  obtain ⟨kvs, e, hl, hv⟩ := h
  refine ⟨.dK (putK kvs (Sum.inl (c : Int)) (.int ((es.length : Nat) : Int))), DPut.k (k := Sum.inl (c : Int)) e (by omega), _, upd_same, by have := length_putK kvs (Sum.inl (c : Int)) (.int ((es.length : Nat) : Int)); rw [List.length_append]; show _ ≤ es.length + 1; omega, fun j => ?_⟩
  rw [valV_put]
  by_cases hj : j = c
  · subst hj
    rw [if_pos rfl, if_pos (by simp), List.idxOf_append, if_neg hc]
    simp
  · rw [if_neg (fun z => hj (by have := Sum.inl.inj z; omega)), hv j]
    by_cases hm : j ∈ es
    · rw [if_pos hm, if_pos (List.mem_append_left _ hm), List.idxOf_append, if_pos hm]
    · rw [if_neg hm, if_neg (fun z => by
        rcases List.mem_append.mp z with z | z
        · exact hm z
        · exact hj (List.mem_singleton.mp z))]
theorem ring_starts {bs : List Bnd} {O : Nat → Option Nat} {es js : List Nat} {cur : Nat} (hl : es.length = js.length) (h : ∀ i v, es[i]? = some v → PtO bs O v (js.drop i) cur) : js.map (fun j => (bAt bs j).1) = es := by
  refine List.ext_getElem? fun i => ?_
  rw [List.getElem?_map]
  by_cases hi : i < js.length
  · have he : i < es.length := by omega
    have := h i es[i] (List.getElem?_eq_getElem he)
    rw [List.drop_eq_getElem_cons hi] at this
    obtain ⟨_, b, h1, h2, _⟩ := this
    rw [List.getElem?_eq_getElem hi, List.getElem?_eq_getElem he]
    show some (bAt bs js[i]).1 = _
    rw [bAt_get h1, h2]
  · rw [List.getElem?_eq_none (by omega), List.getElem?_eq_none (by omega)]
    rfl
def ringVs (bv : List V) (js : List Nat) : List V := js.map fun j => bv.getD j .non
def spRingF (K : PySem.W.Frag) : Sp := fun vs H Q _ => ∃ (e0 n : Nat) (d : Addr) (kvs : List (Key × V)) (bv : List V) (bs : List Bnd) (O : Nat → Option Nat), vs = [.int (e0 : Nat), .ref d] ∧ OnD K H d kvs bv bs O n ∧ n ≤ 1000 ∧ e0 < n ∧ (∀ b ∈ bs, b.2.1 < n) ∧ (∀ js v, PtO bs O e0 js v → js.length < n → O v ≠ none) ∧
  ∀ (js : List Nat) (l : Addr) (H' : Hp), js ≠ [] → js.length ≤ n → (∃ v, PtO bs O v js v) → (js.map fun j => (bAt bs j).1).Nodup → Same H H' → H l = none → H' l = some (.lst (ringVs bv js)) → Q (.ref l) H'
def SvTold (K : PySem.W.Frag) (H : Hp) (bv : List V) (bs : List Bnd) (n : Nat) (t : Addr) (H' : Hp) : Prop :=
  (∃ (lf : Addr) (F : List Int), H' t = some (.tup [.ref lf, .non]) ∧ H lf = none ∧ H' lf = some (.lst (F.map V.int)) ∧ F.length = n ∧ Sat bs (fun v => F.getD v 0) ∧ (∀ v, F.getD v 0 ≤ 0) ∧ (∀ R : Int, 0 ≤ R → (∀ b ∈ bs, -R ≤ b.2.2) → ∀ v, v < n → -((n : Int) * R) ≤ F.getD v 0)) ∨
  ∃ (lr : Addr) (js : List Nat), H' t = some (.tup [.non, .ref lr]) ∧ H lr = none ∧ H' lr = some (.lst (ringVs bv js)) ∧ js.length ≤ n ∧ RingB bs js ∧ (js.map fun j => (bAt bs j).1).Nodup
def spSettle (K : PySem.W.Frag) : Sp := fun vs H Q _ => ∃ (n : Nat) (lb : Addr) (bv : List V) (bs : List Bnd), vs = [.int (n : Nat), .ref lb] ∧ 1 ≤ n ∧ n ≤ 1000 ∧ H lb = some (.lst bv) ∧ All2 (BndV K H) bv bs ∧ (∀ b ∈ bs, b.1 < n ∧ b.2.1 < n) ∧
  ∀ (t : Addr) (H' : Hp), Same H H' → H t = none → SvTold K H bv bs n t H' → Q (.ref t) H'
section
variable {P : Program} {w : World} {K : PySem.W.Frag} {mg : Str → Option Value} {base : Heap}
abbrev nRingFrom : List Str := ["place", "onward", "seen", "path", "passed"]
theorem scRingFrom : FnScope nRingFrom ["place", "onward"] (defScope sRingFrom) := ⟨rfl, rfl, rfl, by decide +kernel, rfl, by decide +kernel, by decide +kernel⟩
abbrev DRingF (P : Program) (w : World) (K : PySem.W.Frag) (mg : Str → Option Value) (base : Heap) := Df P w K mg base 1 "ring_from" ["place", "onward"] (spRingF K)
theorem ok_ringF {f : Addr} {fd : FuncData} (F : Fun K "ring_from" "ring_from" sRingFrom f fd) (hm : mg "ring_from" = some (.ref f)) (B : Bt mg) : DRingF P w K mg base f fd := by
  refine ⟨?_, hm, F.kp, F.binds fun _ _ _ _ _ _ us hl => match us, hl with | [_, _], _ => rfl⟩
  refine F.ok scRingFrom (fun vs H Q E h => ?_) (fun cdv A outer s H vs Q E hr h => ?_)
  · obtain ⟨e0, n, d, kvs, bv, bs, O, rfl, _⟩ := h
    rfl
  · obtain ⟨e0, n, d, kvs, bv, bs, O, rfl, od, hn, he0, hbn, hmore, q⟩ := h
    have nd := scRingFrom.nd
    refine ⟨_, pss_cons (ps_set (i := 2) nd rfl (.inl rfl) pe_dnewK) <|
        pss_cons (ps_set (i := 3) nd rfl (.inl rfl) (pe_lst pa_nil)) <|
        pss_cons (ps_while PassesOwn.never (pt_cmp (pc_dnotin (hu_of hr) (pv 0) (pv 2))) (pss_cons (ps_dput (hu_of hr) (pv 2) (pv 0) (pe_callB call_len_seq (by rfl) B.len PySem.boot_len (pa_cons (pv 3) pa_nil)) rfl) <|
        pss_cons (ps_asg (pe_dget (hu_of hr) (pv 1) (pv 0) (fun _ _ => rfl)) (pg_tup rfl (pgs_cons (pg_name (i := 4) nd rfl (.inl rfl)) (pgs_cons (pg_name (i := 0) nd rfl (.inl rfl)) pgs_nil)))) <|
        pss_one (ps_expr (pe_bm PySem.F.plainAttrs_list PySem.F.slot_list_append PySem.F.type_list_append mt_append (pv 3) (pa_cons (pv 4) pa_nil))))) <|
        pss_one (ps_ret (pe_slice sl_list (pv 3) (po_some (pe_dget (hu_of hr) (pv 2) (pv 0) (fun _ _ => rfl))) po_none)), ?_⟩
    intro ls hls
    have s1 : Same H (upd H ls (.dK [])) := same_new hls
    refine ⟨(by show 0 ≤ sizeLine; decide), fun lp hlp => ?_⟩
    have hlp0 : H lp = none := s1.free hlp
    have nsp : ls ≠ lp := ne_of_none (upd_same (H := H) (a := ls) (o := .dK [])) hlp
    refine ⟨fun m σ H6 => ∃ (es js : List Nat) (cur : Nat) (s4 : Option V), σ = [some (.int (cur : Nat)), some (.ref d), some (.ref ls), some (.ref lp), s4] ∧ es.Nodup ∧ (∀ e ∈ es, e < n) ∧ cur < n ∧ es.length = js.length ∧ PtO bs O e0 js cur ∧ (∀ i v, es[i]? = some v → PtO bs O v (js.drop i) cur) ∧ SvSeen H6 ls es ∧ H6 lp = some (.lst (ringVs bv js)) ∧ Same H H6 ∧ m = n - es.length, ?_, ?_⟩
    · refine ⟨_, [], [], e0, none, rfl, List.nodup_nil, (fun e h => nomatch h), he0, rfl, rfl, (fun i v h => by simp at h), ⟨[], ?_, Nat.le_refl _, fun g => by rw [if_neg (by simp)]; exact valV_nil⟩, upd_same, s1.trans (same_new hlp), rfl⟩
      rw [upd_ne nsp]
      exact upd_same
    · rintro m σ H6 ⟨es, js, cur, s4, rfl, hnd, hes, hcur, hlen, hpt, hdr, sd, hp6, sm, rfl⟩
      refine ⟨_, rfl, _, rfl, ls, _, rfl, sd.get cur, ?_⟩
      by_cases hc : cur ∈ es
      · rw [if_pos hc]
        refine ⟨_, rfl, iteF ?_⟩
        have hg := sd.get cur
        rw [if_pos hc] at hg
        refine ⟨_, rfl, _, rfl, _, rfl, ls, _, rfl, hg, _, rfl, lp, _, rfl, SqL.of hp6, fun p hp => ?_⟩
        have h5 : es.idxOf cur < es.length := List.idxOf_lt_length_iff.mpr hc
        have hj : es[es.idxOf cur]? = some cur := by
          rw [List.getElem?_eq_getElem h5, List.getElem_idxOf h5]
        refine q (js.drop (es.idxOf cur)) p _ (fun z => ?_) (by have := svNodup_le hnd hes; rw [List.length_drop]; omega) ⟨cur, hdr _ _ hj⟩ (by rw [List.map_drop, ring_starts hlen hdr]; exact hnd.sublist (List.drop_sublist _ _)) (sm.trans (same_new hp)) (sm.free hp) ?_
        · have := congrArg List.length z
          rw [List.length_drop] at this
          simp at this
          omega
        · rw [upd_same, cut_from]
          unfold ringVs
          rw [List.map_drop]
      · rw [if_neg hc]
        refine ⟨_, rfl, iteT ?_⟩
        have hlt : es.length < n := by
          have h2 := svNodup_le (n := n) (l := es ++ [cur]) (by
            rw [List.nodup_append]
            refine ⟨hnd, by simp, fun a ha c hc2 => ?_⟩
            rw [List.mem_singleton.mp hc2]
            intro z
            exact hc (by rw [← z]; exact ha)) (fun a ha => by
            rcases List.mem_append.mp ha with ha | ha
            · exact hes a ha
            · rw [List.mem_singleton.mp ha]
              exact hcur)
          rw [List.length_append, List.length_singleton] at h2
          omega
        have hpl : (ringVs bv js).length = es.length := by
          unfold ringVs
          rw [List.length_map, hlen]
        obtain ⟨o, dp, sd2⟩ := sd.put (small1000 (by omega)) hc
        refine ⟨fun σ H7 => ∃ (es' js' : List Nat) (cur' : Nat) (s4 : Option V), σ = [some (.int (cur' : Nat)), some (.ref d), some (.ref ls), some (.ref lp), s4] ∧ es'.Nodup ∧ (∀ e ∈ es', e < n) ∧ cur' < n ∧ es'.length = js'.length ∧ PtO bs O e0 js' cur' ∧ (∀ i v, es'[i]? = some v → PtO bs O v (js'.drop i) cur') ∧ SvSeen H7 ls es' ∧ H7 lp = some (.lst (ringVs bv js')) ∧ Same H H7 ∧ es'.length = es.length + 1, ?_, ?_⟩
        · rintro σ' H' ⟨es', js', cur', t4, rfl, h1, h2, h3, h4, h5, h6, h7, h8, h9, h10⟩
          exact ⟨n - (es.length + 1), by omega, es', js', cur', t4, rfl, h1, h2, h3, h4, h5, h6, h7, h8, h9, by rw [h10]⟩
        refine ⟨_, rfl, lp, _, rfl, .inl (SqL.of hp6), _, rfl, _, rfl, ls, _, rfl, (by rw [hpl]; exact dp), ?_⟩
        have sm7 : Same H (upd H6 ls o) := same_mut sm hls
        have od7 := od.same sm7
        cases ho : O cur with
        | none => exact absurd ho (hmore js cur hpt (by omega))
        | some j =>
        obtain ⟨t, z, b, hv, sq, hz, hb, hb1⟩ := od7.on cur j ho
        have hg : DGet (upd H6 ls o) d (.int (cur : Nat)) (some (.ref t)) := by
          have := DGet.k (k := Sum.inl ((cur : Nat) : Int)) od7.at_
          rw [hv] at this
          exact this
        have hp7 : (upd H6 ls o) lp = some (.lst (ringVs bv js)) := by
          rw [upd_ne nsp.symm]
          exact hp6
        generalize upd H6 ls o = H7 at sm7 od7 hg sq hp7 sd2
        refine ⟨_, rfl, _, rfl, d, _, rfl, hg, t, _, rfl, sq, rfl, _, _, rfl, _, _, rfl, rfl, ?_⟩
        have sd3 : SvSeen (upd H7 lp (.lst (ringVs bv js ++ [z]))) ls (es ++ [cur]) := by
          obtain ⟨kv, h1, h2⟩ := sd2
          exact ⟨kv, by rw [upd_ne nsp]; exact h1, h2⟩
        refine ⟨_, rfl, .inl ⟨rfl, _, SqL.of hp7⟩, _, rfl, lp, _, _, rfl, rfl, hp7, small1000 (by omega), ?_⟩
        refine ⟨es ++ [cur], js ++ [j], b.2.1, _, rfl, ?_, fun e he => ?_, hbn b (List.mem_of_getElem? hb), by rw [List.length_append, List.length_append, hlen]; rfl, hpt.snoc ho hb hb1, fun i v hi => ?_, sd3, ?_, same_mut sm7 hlp0, by rw [List.length_append]; rfl⟩
        · rw [List.nodup_append]
          refine ⟨hnd, by simp, fun a ha c hc2 => ?_⟩
          rw [List.mem_singleton.mp hc2]
          intro z
          exact hc (by rw [← z]; exact ha)
        · rcases List.mem_append.mp he with he | he
          · exact hes e he
          · rw [List.mem_singleton.mp he]
            exact hcur
        · by_cases hil : i < es.length
          · rw [List.getElem?_append_left hil] at hi
            rw [List.drop_append_of_le_length (by omega)]
            exact (hdr i v hi).snoc ho hb hb1
          · have hie : i = es.length := by
              have := (List.getElem?_eq_some_iff.mp hi).1
              rw [List.length_append, List.length_singleton] at this
              omega
            subst hie
            rw [List.getElem?_append_right (Nat.le_refl _), Nat.sub_self] at hi
            cases hi
            rw [hlen, List.drop_left]
            exact ⟨ho, b, hb, hb1, rfl⟩
        · rw [upd_same]
          unfold ringVs
          rw [List.map_append]
          show _ = some (HO.lst (_ ++ [bv.getD j V.non]))
          rw [List.getD_eq_getElem?_getD, hz]
          rfl
abbrev nSettle : List Str := ["many", "bounds", "found", "onward", "changed", "turn", "bound", "start", "end", "room", "thing"]
theorem scSettle : FnScope nSettle ["many", "bounds"] (defScope sSettle) := ⟨rfl, rfl, rfl, by decide +kernel, rfl, by decide +kernel, by decide +kernel⟩
abbrev DSettle (P : Program) (w : World) (K : PySem.W.Frag) (mg : Str → Option Value) (base : Heap) := Df P w K mg base 2 "settle" ["many", "bounds"] (spSettle K)
theorem ok_settle {f fR : Addr} {fd fdR : FuncData} (F : Fun K "settle" "settle" sSettle f fd) (hm : mg "settle" = some (.ref f)) (B : Bt mg) (DRf : DRingF P w K mg base fR fdR) : DSettle P w K mg base f fd := by
  refine ⟨?_, hm, F.kp, F.binds fun _ _ _ _ _ _ us hl => match us, hl with | [_, _], _ => rfl⟩
  refine F.ok scSettle (fun vs H Q E h => ?_) (fun cdv A outer s H vs Q E hr h => ?_)
  · obtain ⟨n, lb, bv, bs, rfl, _⟩ := h
    rfl
  · obtain ⟨n, lb, bv, bs, rfl, hn1, hn, eb0, ab0, hbn, q⟩ := h
    have nd := scSettle.nd
    refine ⟨_, pss_cons (ps_set (i := 2) nd rfl (.inl rfl) (pe_op op_rep (pe_lst (pa_cons pe_int pa_nil)) (pv 0))) <|
        pss_cons (ps_set (i := 3) nd rfl (.inl rfl) pe_dnewK) <|
        pss_cons (ps_set (i := 4) nd rfl (.inl rfl) pe_non) <|
        pss_cons (ps_for PassesOwn.never rfl (pi_range1 (by rfl) B.range (pa_cons (pv 0) pa_nil)) (pg_name (i := 5) nd rfl (.inl rfl)) (pss_cons (ps_set (i := 4) nd rfl (.inl rfl) pe_non) <|
        pss_cons (ps_for PassesOwn.never rfl (pi_list (pv 1)) (pg_name (i := 6) nd rfl (.inl rfl)) (pss_cons (ps_asg (pv 6) (pg_tup rfl (pgs_cons (pg_name (i := 7) nd rfl (.inl rfl)) (pgs_cons (pg_name (i := 8) nd rfl (.inl rfl)) (pgs_cons (pg_name (i := 9) nd rfl (.inl rfl)) (pgs_cons (pg_name (i := 10) nd rfl (.inl rfl)) pgs_nil)))))) <|
        pss_one (ps_if (pt_cmpR op_gt (pe_ix ix_list (pv 2) (pv 7) (fun _ _ => rfl)) (pe_op op_add (pe_ix ix_list (pv 2) (pv 8) (fun _ _ => rfl)) (pv 9)) (nomark _)) (pss_cons (ps_asg (pe_op op_add (pe_ix ix_list (pv 2) (pv 8) (fun _ _ => rfl)) (pv 9)) (pg_sub (pv 2) (pv 7) set_list)) <|
        pss_cons (ps_dput (hu_of hr) (pv 3) (pv 7) (pe_tup (pa_cons (pv 6) (pa_cons (pv 8) pa_nil))) rfl) <|
        pss_one (ps_set (i := 4) nd rfl (.inl rfl) (pv 7))) pss_nil))) <|
        pss_one (ps_if (pt_cmpR op_isN (pv 4) pe_non (nomark _)) (pss_one (ps_ret (pe_tup (pa_cons (pv 2) (pa_cons pe_non pa_nil))))) pss_nil))) <|
        pss_one (ps_ret (pe_tup (pa_cons pe_non (pa_cons (pe_call DRf.ok (hr.mono (by decide)) (by rfl) DRf.mg DRf.kp DRf.bd .nil pass0 (pa_cons (pv 4) (pa_cons (pv 3) pa_nil))) pa_nil)))), ?_⟩
    refine ⟨(by show 1 ≤ sizeLine; decide), fun l0 hl0 => ?_⟩
    have t0 := same_new (o := .lst [.int 0]) hl0
    have e0 : (upd H l0 (.lst [.int 0])) l0 = some (.lst [.int 0]) := upd_same
    generalize upd H l0 (.lst [.int 0]) = H0 at t0 e0
    refine ⟨_, rfl, l0, _, _, rfl, rfl, e0, by omega, by omega, ?_, fun lf hlf => ?_⟩
    · show 1 * _ ≤ sizeLine
      exact Nat.le_of_lt (small1000 (by omega))
    have eL : (List.replicate ((n : Nat) : Int).toNat [V.int 0]).flatten = (List.replicate n (0 : Int)).map V.int := by
      rw [Int.toNat_natCast]
      have : ∀ n : Nat, (List.replicate n [V.int 0]).flatten = (List.replicate n (0 : Int)).map V.int := fun n => by
        induction n with
        | zero => rfl
        | succ n ih =>
          rw [List.replicate_succ, List.flatten_cons, ih, List.replicate_succ]
          rfl
      exact this _
    rw [eL]
    have t1 := same_new (o := .lst ((List.replicate n (0 : Int)).map V.int)) hlf
    have e1 : (upd H0 lf (.lst ((List.replicate n (0 : Int)).map V.int))) lf = some (.lst ((List.replicate n (0 : Int)).map V.int)) := upd_same
    have hlf0 : H lf = none := t0.free hlf
    generalize upd H0 lf (.lst ((List.replicate n (0 : Int)).map V.int)) = H1 at t1 e1
    have s1 := t0.trans t1
    intro ld hld
    have t2 := same_new (o := .dK []) hld
    have e2 : (upd H1 ld (.dK [])) ld = some (.dK []) := upd_same
    have hld0 : H ld = none := s1.free hld
    generalize upd H1 ld (.dK []) = H2 at t2 e2
    have s2 := s1.trans t2
    have nfd : lf ≠ ld := ne_of_none e1 hld
    have nlb : lb ≠ lf := ne_of_none eb0 hlf0
    refine gn_norm (σ' := [some (.int (n : Nat)), some (.ref lb), some (.ref lf), some (.ref ld), none, none, none, none, none, none, none]) rfl ?_
    refine ⟨_, rfl, _, rfl, by omega, by omega, for_range (lo := 0) (n := ((n : Nat) : Int).toNat) (fun i σ H' => ∃ (ch : V) (u5 u6 u7 u8 u9 u10 : Option V) (F : List Int) (kvs : List (Key × V)) (O : Nat → Option Nat) (T : Nat → Nat), σ = [some (.int (n : Nat)), some (.ref lb), some (.ref lf), some (.ref ld), some ch, u5, u6, u7, u8, u9, u10] ∧ Same H H' ∧ H' lf = some (.lst (F.map V.int)) ∧ F.length = n ∧ OnD K H' ld kvs bv bs O n ∧ SI bs n (fun v => F.getD v 0) O T (i + 1) 0 ∧ (0 < i → ∃ s : Nat, ch = .int (s : Nat) ∧ s < n ∧ i ≤ T s))
      ⟨_, _, _, _, _, _, _, List.replicate n 0, [], fun _ => none, fun _ => 0, rfl, s2, t2 _ _ e1, List.length_replicate .., ⟨e2, ⟨[], rfl, List.nodup_nil, fun g h => (nomatch h)⟩, fun v j h => (nomatch h)⟩, (SI.start bs n).congr fun v => ?_, fun h => absurd h (Nat.lt_irrefl 0)⟩ ?_ ?_⟩
    · rw [List.getD_eq_getElem?_getD, List.getElem?_replicate]
      split <;> rfl
    · rintro i σ H3 hi ⟨ch, u5, u6, u7, u8, u9, u10, F, kvs, O, T, rfl, sm, ef, hfl, od, si, _⟩
      refine ⟨_, rfl, lb, rfl, ⟨_, SqL.of (sm _ _ eb0)⟩, for_list (K := K) (a := lb) (xs := bv) (fun j σ H' => ∃ (ch : Option Nat) (u5 u6 u7 u8 u9 u10 : Option V) (F : List Int) (kvs : List (Key × V)) (O : Nat → Option Nat) (T : Nat → Nat), σ = [some (.int (n : Nat)), some (.ref lb), some (.ref lf), some (.ref ld), some (lasV ch), u5, u6, u7, u8, u9, u10] ∧ Same H H' ∧ H' lf = some (.lst (F.map V.int)) ∧ F.length = n ∧ OnD K H' ld kvs bv bs O n ∧ SI bs n (fun v => F.getD v 0) O T (i + 1) j ∧
          (ch = none → ∀ k b, k < j → bs[k]? = some b → F.getD b.1 0 ≤ F.getD b.2.1 0 + b.2.2) ∧ (∀ s, ch = some s → s < n ∧ i + 1 ≤ T s))
        ⟨none, _, _, _, _, _, _, F, kvs, O, T, rfl, sm, ef, hfl, od, si, (fun _ k b hk => absurd hk (Nat.not_lt_zero _)), fun s h => (nomatch h)⟩ (fun j σ H' _ ⟨_, _, _, _, _, _, _, _, _, _, _, _, sm', _⟩ => SqL.of (sm' _ _ eb0)) ?_ ?_⟩
      · rintro j v σ H4 hv ⟨ch, u5, u6, u7, u8, u9, u10, F, kvs, O, T, rfl, sm, ef, hfl, od, si, hn0, hs0⟩
        obtain ⟨b, hb, a, th, rfl, sq0⟩ := ab0.get hv
        have sq := (TK.same sm).seq sq0
        obtain ⟨hb1, hb2⟩ := hbn b (List.mem_of_getElem? hb)
        refine ⟨_, rfl, a, _, rfl, sq, rfl, _, _, rfl, _, _, rfl, _, _, rfl, _, _, rfl, rfl, ?_⟩
        refine ⟨_, rfl, _, rfl, lf, _, b.1, _, rfl, rfl, SqL.of ef, atI_nat (sgetD_at (by omega)), _, rfl, _, rfl, lf, _, b.2.1, _, rfl, rfl, SqL.of ef, atI_nat (sgetD_at (by omega)), _, rfl, _, _, rfl, rfl, _, _, rfl, rfl, _, rfl, ite2 (fun e => ?_) (fun e => ?_)⟩
        · have hlt : F.getD b.2.1 0 + b.2.2 < F.getD b.1 0 := of_decide_eq_true e
          refine ⟨_, rfl, _, rfl, lf, _, b.2.1, _, rfl, rfl, SqL.of ef, atI_nat (sgetD_at (by omega)), _, rfl, _, _, rfl, rfl, _, rfl, _, rfl, lf, _, _, b.1, rfl, rfl, ef, Evl.ixN_nat (by rw [List.length_map]; omega), ?_⟩
          have F'at : ∀ v, (F.set b.1 (F.getD b.2.1 0 + b.2.2)).getD v 0 = if v = b.1 then F.getD b.2.1 0 + b.2.2 else F.getD v 0 := fun v => by
            rw [List.getD_eq_getElem?_getD, List.getElem?_set]
            by_cases z : b.1 = v
            · rw [if_pos z, if_pos (by omega), if_pos z.symm]
              rfl
            · rw [if_neg z, if_neg fun y => z y.symm, List.getD_eq_getElem?_getD]
          have s5 : Same H (upd H4 lf (.lst ((F.map V.int).set b.1 (.int (F.getD b.2.1 0 + b.2.2))))) := same_mut sm hlf0
          have ef5 : (upd H4 lf (.lst ((F.map V.int).set b.1 (.int (F.getD b.2.1 0 + b.2.2))))) lf = some (.lst ((F.set b.1 (F.getD b.2.1 0 + b.2.2)).map V.int)) := by
            rw [upd_same, List.map_set]
          have od5 : OnD K (upd H4 lf (.lst ((F.map V.int).set b.1 (.int (F.getD b.2.1 0 + b.2.2))))) ld kvs bv bs O n := od.tk (TK.lst ef) (by rw [upd_ne nfd.symm]; exact od.at_)
          generalize upd H4 lf (.lst ((F.map V.int).set b.1 (.int (F.getD b.2.1 0 + b.2.2)))) = H5 at s5 ef5 od5
          refine ⟨_, rfl, _, rfl, (by show 2 ≤ sizeLine; decide), fun t ht => ?_⟩
          have t6 := same_new (o := .tup [.ref a, .int ((b.2.1 : Nat) : Int)]) ht
          have e6 : (upd H5 t (.tup [.ref a, .int ((b.2.1 : Nat) : Int)])) t = some (.tup [.ref a, .int ((b.2.1 : Nat) : Int)]) := upd_same
          have od6 := od5.same t6
          have ef6 := t6 _ _ ef5
          have s6 := s5.trans t6
          generalize upd H5 t (.tup [.ref a, .int ((b.2.1 : Nat) : Int)]) = H6 at t6 e6 od6 ef6 s6
          have hkl := od6.len
          refine ⟨_, rfl, _, rfl, ld, _, rfl, DPut.k (k := Sum.inl ((b.1 : Nat) : Int)) od6.at_ (small1000 (by omega)), ?_⟩
          have od7 := od6.put e6 hv hb hb1
          refine ⟨_, rfl, ?_⟩
          have si2 := (si.set (by omega) hb hb1 hlt).congr F'at
          refine ⟨some b.1, _, _, _, _, _, _, F.set b.1 (F.getD b.2.1 0 + b.2.2), _, _, _, rfl, same_mut s6 hld0, (upd_ne nfd).trans ef6, by rw [List.length_set]; exact hfl, od7, si2, (fun z => nomatch z), fun s hs => ?_⟩
          cases hs
          refine ⟨hb1, ?_⟩
          rw [if_pos rfl]
          exact Nat.le_refl _
        · have hle : F.getD b.1 0 ≤ F.getD b.2.1 0 + b.2.2 := by
            have : ¬ (F.getD b.2.1 0 + b.2.2 < F.getD b.1 0) := fun z => e (decide_eq_true z)
            omega
          refine ⟨ch, _, _, _, _, _, _, F, kvs, O, T, rfl, sm, ef, hfl, od, si.skip hb hle, fun hc k b' hk hb' => ?_, hs0⟩
          by_cases z : k = j
          · subst z
            rw [hb] at hb'
            cases hb'
            exact hle
          · exact hn0 hc k b' (by omega) hb'
      · rintro σ H4 ⟨ch, u5, u6, u7, u8, u9, u10, F, kvs, O, T, rfl, sm, ef, hfl, od, si, hn0, hs0⟩
        have hbl : bv.length = bs.length := ab0.1
        rw [hbl] at si hn0
        cases ch with
        | none =>
          refine ⟨_, rfl, rfl, _, rfl, iteT ?_⟩
          refine ⟨_, rfl, (by show 2 ≤ sizeLine; decide), fun t ht => ?_⟩
          have t5 := same_new (o := .tup [.ref lf, .non]) ht
          have sat : Sat bs (fun v => F.getD v 0) := fun b hb => by
            obtain ⟨k, hk⟩ := List.getElem?_of_mem hb
            exact hn0 rfl k b (List.getElem?_eq_some_iff.mp hk).1 hk
          exact q t _ (sm.trans t5) (sm.free ht) (.inl ⟨lf, F, upd_same, hlf0, t5 _ _ ef, hfl, sat, si.le0, fun R hR hr v hv => si.lowR sat hbn hR hr hv⟩)
        | some s =>
          refine ⟨_, rfl, rfl, _, rfl, iteF ?_⟩
          obtain ⟨hs1, hs2⟩ := hs0 s rfl
          exact ⟨_, _, _, _, _, _, _, F, kvs, O, T, rfl, sm, ef, hfl, od, si.next, fun _ => ⟨s, rfl, hs1, hs2⟩⟩
    · rintro σ H3 ⟨ch, u5, u6, u7, u8, u9, u10, F, kvs, O, T, rfl, sm, ef, hfl, od, si, hch⟩
      rw [Int.toNat_natCast] at hch
      obtain ⟨s, rfl, hs, hT⟩ := hch (by omega)
      refine ⟨_, rfl, _, rfl, s, n, ld, kvs, bv, bs, O, rfl, od, hn, hs, fun b hb => (hbn b hb).2, fun js v hp hl ho => ?_, fun js l H4 hjs hjl ⟨v, hp⟩ hnd4 s4 hl el => ?_⟩
      · have h1 := si.more hp
        have h2 := (si.non v ho).1
        omega
      · refine ⟨(by show 2 ≤ sizeLine; decide), fun t ht => ?_⟩
        have t5 := same_new (o := .tup [.non, .ref l]) ht
        exact q t _ ((sm.trans s4).trans t5) ((sm.trans s4).free ht) (.inr ⟨l, js, upd_same, sm.free hl, t5 _ _ el, hjl, ⟨hjs, v, hp.ptB, si.cyc v js hjs hp⟩, hnd4⟩)
end
end Lag

set_option maxRecDepth 100000
set_option maxHeartbeats 8000000
namespace Lag
open PySem PySem.Spec PyProof.Rows L2
abbrev sChkBeat : Stmt := topS 13 -- @check_beat
abbrev sForBeat : Stmt := topS 47 -- @for_beat
def spChkB : Sp := fun vs H Q _ => ∃ b : Int, vs = [.int b] ∧ 0 ≤ b ∧ Q .non H
def lagsL (gs : List Gt) (L : Nat → Int) : List Int := (List.range gs.length).map L
theorem lagsL_at {gs : List Gt} {L : Nat → Int} {g : Nat} (h : g < gs.length) : (lagsL gs L).getD g 0 = L g := by
  unfold lagsL
  rw [List.getD_eq_getElem?_getD, List.getElem?_map, List.getElem?_range h]
  rfl
theorem lagsL_len (gs : List Gt) (L : Nat → Int) : (lagsL gs L).length = gs.length := by
  unfold lagsL
  rw [List.length_map, List.length_range]
/-- a list of pieces -/
def BarV (K : PySem.W.Frag) (H : Hp) (l : Addr) (pcs : List Pce) : Prop := ∃ pv, H l = some (.lst pv) ∧ All2 (PceV K H) pv pcs
/-- what for_beat tells -/
def FbR (K : PySem.W.Frag) (gs : List Gt) (ws : List Wr) (b : Int) (H H' : Hp) (t : Addr) : Prop :=
  (∃ (l : Addr) (L : Nat → Int), H' t = some (.tup [.str "lags", .ref l]) ∧ H l = none ∧ H' l = some (.lst ((lagsL gs L).map V.int)) ∧ Feas gs ws b L ∧ (∀ g, g < gs.length → -101 ≤ L g ∧ L g ≤ 101)) ∨
  ∃ (l : Addr) (pcs : List Pce), H' t = some (.tup [.str "bar", .ref l]) ∧ H l = none ∧ BarV K H' l pcs ∧ IsBar gs ws b pcs ∧ (∀ pc ∈ pcs, PceOk gs ws pc ∧ pc.2.length ≤ 1000) ∧ pcs.length ≤ 200
theorem FbR.lags {K : PySem.W.Frag} {gs : List Gt} {ws : List Wr} {b : Int} {H H' : Hp} {t : Addr} (N : NetOk gs ws) (h : FbR K gs ws b H H' t) : ∃ (w : Str) (l : Addr), H' t = some (.tup [.str w, .ref l]) ∧ (w = "lags" ∨ w = "bar") ∧ (w = "lags" ↔ FeasE gs ws b) := by
  rcases h with ⟨l, L, h1, h2, h3, h4, h5⟩ | ⟨l, pcs, h1, h2, h3, h4, h5⟩
  · exact ⟨_, l, h1, .inl rfl, fun _ => ⟨L, h4⟩, fun _ => rfl⟩
  · exact ⟨_, l, h1, .inr rfl, fun z => (by cases z), fun ⟨L, hL⟩ => absurd hL (h4.none N)⟩
def spForBeat (K : PySem.W.Frag) (C : Addr) : Sp := fun vs H Q _ => ∃ (p ng nw : Addr) (gs : List Gt) (ws : List Wr) (b : Int), vs = [.ref p, .int b] ∧ NetAt K C H p ng nw gs ws ∧ NetOk gs ws ∧ 0 ≤ b ∧
  ∀ (t : Addr) (H' : Hp), Same H H' → H t = none → FbR K gs ws b H H' t → Q (.ref t) H'
section
variable {P : Program} {w : World} {K : PySem.W.Frag} {mg : Str → Option Value} {base : Heap}
abbrev nChkBeat : List Str := ["thing"]
theorem scChkBeat : FnScope nChkBeat ["thing"] (defScope sChkBeat) := ⟨rfl, rfl, rfl, by decide +kernel, rfl, by decide +kernel, by decide +kernel⟩
abbrev DChkB (P : Program) (w : World) (K : PySem.W.Frag) (mg : Str → Option Value) (base : Heap) := Df P w K mg base 2 "check_beat" ["thing"] spChkB
theorem ok_chkB {f fW : Addr} {fd fdW : FuncData} (F : Fun K "check_beat" "check_beat" sChkBeat f fd) (hm : mg "check_beat" = some (.ref f)) (DW : DWhole P w K mg base fW fdW) : DChkB P w K mg base f fd := by
  refine ⟨?_, hm, F.kp, F.binds fun _ _ _ _ _ _ us hl => match us, hl with | [_], _ => rfl⟩
  refine F.ok scChkBeat (fun vs H Q E h => ?_) (fun cdv A outer s H vs Q E hr h => ?_)
  · obtain ⟨b, rfl, _⟩ := h
    rfl
  · obtain ⟨b, rfl, hb, q⟩ := h
    refine ⟨_, pss_one (ps_if (PW.pt (pw_or (pt_not (pt_val (pe_call DW.ok (hr.mono (by decide)) (by rfl) DW.mg DW.kp DW.bd .nil pass0 (pa_cons (pv 0) pa_nil)))) (pw_or1 (pt_cmpR op_lt (pv 0) pe_int (nomark _))))) (pss_one (ps_never)) pss_nil), ?_⟩
    refine ⟨_, rfl, b, rfl, true, rfl, iteF ⟨_, rfl, _, _, rfl, rfl, _, rfl, ite2 (fun e => absurd (of_decide_eq_true e) (by omega)) (fun _ => q)⟩⟩
abbrev nForBeat : List Str := ["net", "beat", "found", "ring", "start", "end", "room", "piece"]
theorem scForBeat : FnScope nForBeat ["net", "beat"] (defScope sForBeat) := ⟨rfl, rfl, rfl, by decide +kernel, rfl, by decide +kernel, by decide +kernel⟩
abbrev DForBeat (P : Program) (w : World) (K : PySem.W.Frag) (mg : Str → Option Value) (base : Heap) (C : Addr) := Df P w K mg base 4 "for_beat" ["net", "beat"] (spForBeat K C)
theorem ok_forBeat {f fB fS fI fD fL C : Addr} {fd fdB fdS fdI fdD fdL : FuncData} (F : Fun K "for_beat" "for_beat" sForBeat f fd) (hm : mg "for_beat" = some (.ref f)) (B : Bt mg) (T : NT K mg C) (DCb : DChkB P w K mg base fB fdB) (DSe : DSettle P w K mg base fS fdS) (DSi : DSpotsIn P w K mg base C fI fdI) (DBd : DBoundsFor P w K mg base C fD fdD) (DLa : DLagsAt P w K mg base C fL fdL) : DForBeat P w K mg base C f fd := by
  refine ⟨?_, hm, F.kp, F.binds fun _ _ _ _ _ _ us hl => match us, hl with | [_, _], _ => rfl⟩
  refine F.ok scForBeat (fun vs H Q E h => ?_) (fun cdv A outer s H vs Q E hr h => ?_)
  · obtain ⟨p, ng, nw, gs, ws, b, rfl, _⟩ := h
    rfl
  · obtain ⟨p, ng, nw, gs, ws, b, rfl, NA, N, hb0, q⟩ := h
    have nd := scForBeat.nd
    refine ⟨_, pss_cons (ps_expr (pe_call DCb.ok (hr.mono (by decide)) (by rfl) DCb.mg DCb.kp DCb.bd .nil pass0 (pa_cons (pv 1) pa_nil))) <|
        pss_cons (ps_asg (pe_call DSe.ok (hr.mono (by decide)) (by rfl) DSe.mg DSe.kp DSe.bd .nil pass0 (pa_cons (pe_call DSi.ok (hr.mono (by decide)) (by rfl) DSi.mg DSi.kp DSi.bd .nil pass0 (pa_cons (pv 0) pa_nil)) (pa_cons (pe_call DBd.ok (hr.mono (by decide)) (by rfl) DBd.mg DBd.kp DBd.bd .nil pass0 (pa_cons (pv 0) (pa_cons (pv 1) pa_nil))) pa_nil))) (pg_tup rfl (pgs_cons (pg_name (i := 2) nd rfl (.inl rfl)) (pgs_cons (pg_name (i := 3) nd rfl (.inl rfl)) pgs_nil)))) <|
        pss_cons (ps_if (pt_cmpR op_isN (pv 2) pe_non (nomark _)) (pss_one (ps_ret (pe_tup (pa_cons pe_str (pa_cons (pe_lc (own := [("start", 4), ("end", 5), ("room", 6), ("piece", 7)]) (g := (gTup K 4 (gCons (gName 4) (gCons (gName 5) (gCons (gName 6) (gCons (gName 7) gNil)))))) (tt := tYes) (te := (tVar 7)) rfl nd (pi_list (pv 3)) (blkOk_by (N := nForBeat) (sc := defScope sForBeat) (own := [("start", 4), ("end", 5), ("room", 6), ("piece", 7)]) (by decide +kernel)) (fun _ _ _ _ _ => (pg_tup rfl (pgs_cons (pg_name (i := 4) nd rfl (.inl rfl)) (pgs_cons (pg_name (i := 5) nd rfl (.inl rfl)) (pgs_cons (pg_name (i := 6) nd rfl (.inl rfl)) (pgs_cons (pg_name (i := 7) nd rfl (.inl rfl)) pgs_nil)))))) (fun _ _ _ _ _ => pts_nil) (fun _ _ _ _ _ => (pv 7))) pa_nil))))) pss_nil) <|
        pss_one (ps_ret (pe_tup (pa_cons pe_str (pa_cons (pe_call DLa.ok (hr.mono (by decide)) (by rfl) DLa.mg DLa.kp DLa.bd .nil pass0 (pa_cons (pv 0) (pa_cons (pv 2) pa_nil))) pa_nil)))), ?_⟩
    have hgl := N.gl
    refine ⟨_, rfl, b, rfl, hb0, ?_⟩
    refine ⟨_, rfl, p, ng, nw, gs, ws, rfl, NA, ?_⟩
    refine ⟨_, rfl, _, rfl, p, ng, nw, gs, ws, b, rfl, NA, N, fun lb bv bps H1 s1 hlb elb ab bok hbl hpce => ?_⟩
    have abn : All2 (BndV K H1) bv (bps.map fun bp => bp.1) := by
      refine ⟨by rw [List.length_map]; exact ab.1, fun i v bd hv hbd => ?_⟩
      rw [List.getElem?_map] at hbd
      cases e : bps[i]? with
      | none => rw [e] at hbd; cases hbd
      | some bp =>
        rw [e] at hbd
        cases hbd
        obtain ⟨a, pa, l, h1, h2, _⟩ := ab.2 i v bp hv e
        exact ⟨a, _, h1, h2⟩
    refine ⟨gs.length + 1, lb, bv, _, rfl, by omega, by omega, elb, abn, bok.below N, fun t H2 s2 ht sr => ?_⟩
    have s12 := s1.trans s2
    rcases sr with ⟨lf, F, et, hlf, ef, hfl, sat, hle, hlow⟩ | ⟨lr, js, et, hlr, er, hjln, ring, _⟩
    · refine ⟨t, _, rfl, .inl (.inl et), rfl, _, _, rfl, _, _, rfl, rfl, ?_⟩
      refine ⟨_, rfl, rfl, _, rfl, iteF ?_⟩
      refine ⟨_, rfl, _, rfl, p, ng, nw, lf, gs, ws, F, rfl, NA.same s12, N, SqL.of ef, by omega, fun l H3 s3 hl el => ?_⟩
      refine ⟨(by show 2 ≤ sizeLine; decide), fun tt htt => ?_⟩
      have t4 := same_new (o := .tup [.str "lags", .ref l]) htt
      have low : ∀ v, v < gs.length + 1 → -((gs.length + 1 : Nat) : Int) ≤ F.getD v 0 := fun v hv => by
        have := hlow 1 (by decide) bok.m1 v hv
        rw [Int.mul_one] at this
        exact this
      refine q tt _ ((s12.trans s3).trans t4) ((s12.trans s3).free htt) (.inl ⟨l, lagsAt gs fun v => F.getD v 0, upd_same, s12.free hl, t4 _ _ el, bok.lags N sat, fun g hg => ?_⟩)
      have h1 := low (spotF gs g) (spot_le g hg)
      have h2 := low gs.length (Nat.lt_succ_self _)
      have h3 := hle (spotF gs g)
      have h4 := hle gs.length
      unfold lagsAt
      refine ⟨?_, ?_⟩
      · show -101 ≤ F.getD (spotF gs g) 0 - F.getD gs.length 0
        have h1 : -((gs.length + 1 : Nat) : Int) ≤ F.getD (spotF gs g) 0 := h1
        omega
      · show F.getD (spotF gs g) 0 - F.getD gs.length 0 ≤ 101
        have h2 : -((gs.length + 1 : Nat) : Int) ≤ F.getD gs.length 0 := h2
        omega
    · refine ⟨t, _, rfl, .inl (.inl et), rfl, _, _, rfl, _, _, rfl, rfl, ?_⟩
      refine ⟨_, rfl, rfl, _, rfl, iteT ?_⟩
      have barok := bok.bar ring
      obtain ⟨hjs, v0, hpt, hneg⟩ := ring
      have hjl : ∀ j ∈ js, ∃ bp, bps[j]? = some bp := by
        have : ∀ {js : List Nat} {s e : Nat}, PtB (bps.map fun bp => bp.1) s js e → ∀ j ∈ js, ∃ bp, bps[j]? = some bp := by
          intro js
          induction js with
          | nil => intro s e _ j h; cases h
          | cons k r ih =>
            intro s e ⟨bd, q1, _, q2⟩ j h
            rcases List.mem_cons.mp h with h | h
            · rw [h]
              rw [List.getElem?_map] at q1
              cases e2 : bps[k]? with
              | none => rw [e2] at q1; cases q1
              | some bp => exact ⟨bp, rfl⟩
            · exact ih q2 j h
        exact this hpt
      have pcAt : ∀ (j : Nat) (bp : Bnd × Pce), bps[j]? = some bp → pAt (bps.map fun bp => bp.2) j = bp.2 := fun j bp h => pAt_get (by rw [List.getElem?_map, h]; rfl)
      refine ⟨_, rfl, lr, rfl, ⟨_, SqL.of er⟩, fun D hD => ?_⟩
      refine lc_list (K := K) (a := lr) (xs := ringVs bv js) (fun i Hc => ∃ pv : List V, Hc D = some (.lst pv) ∧ All2 (fun v pc => ∃ a l, v = .ref a ∧ SqT K Hc a [.int ((pc.1 : Nat) : Int), .ref l] ∧ Hc l = some (.lst (nvs pc.2)) ∧ l ≠ D) pv ((js.take i).map (pAt (bps.map fun bp => bp.2))) ∧ Same H2 Hc) ⟨[], upd_same, All2.nil, same_new hD⟩ (fun i Hc _ ⟨_, _, _, sm⟩ => SqL.of (sm _ _ er)) ?_ ?_
      · rintro i v Hc hv ⟨pv, hc, al, sm⟩
        unfold ringVs at hv
        rw [List.getElem?_map] at hv
        cases hj : js[i]? with
        | none => rw [hj] at hv; cases hv
        | some j =>
          rw [hj] at hv
          cases hv
          obtain ⟨bp, hbp⟩ := hjl j (List.mem_of_getElem? hj)
          obtain ⟨v, hv, a, pa, l, rfl, h1, h2, h3, h4⟩ := ab.getR hbp
          have ev : bv.getD j .non = .ref a := by rw [List.getD_eq_getElem?_getD, hv]; rfl
          have sc := s2.trans sm
          have nl : l ≠ D := ne_of_none (s2 _ _ h3) hD
          refine ⟨a, _, ev, (TK.same sc).seq h1, rfl, _, _, rfl, _, _, rfl, _, _, rfl, _, _, rfl, rfl, rfl, tyes ?_⟩
          have hpl : pv.length ≤ i := by
            have := al.1
            rw [List.length_map, List.length_take] at this
            omega
          have hil : i < js.length := (List.getElem?_eq_some_iff.mp hj).1
          refine ⟨_, rfl, _, hc, ?_, pv ++ [.ref pa], upd_same, ?_, same_mut sm hD⟩
          · exact small1000 (by omega)
          · rw [List.take_add_one, hj, List.map_append]
            show All2 _ (pv ++ [V.ref pa]) (_ ++ [pAt (bps.map fun bp => bp.2) j])
            rw [pcAt j bp hbp]
            refine All2.snoc (al.imp fun v pc ⟨a', l', k1, k2, k3, k4⟩ => ⟨a', l', k1, (TK.lst hc).seq k2, (upd_ne k4).trans k3, k4⟩) ⟨pa, l, rfl, (TK.lst hc).seq ((TK.same sc).seq h2), (upd_ne nl).trans (sc _ _ h3), nl⟩
      · rintro H3 ⟨pv, hc, al, sm⟩
        have e : (ringVs bv js).length = js.length := List.length_map ..
        rw [e, List.take_length] at al
        refine ⟨(by show 2 ≤ sizeLine; decide), fun tt htt => ?_⟩
        have t4 := same_new (o := .tup [.str "bar", .ref D]) htt
        refine q tt _ ((s12.trans sm).trans t4) ((s12.trans sm).free htt) (.inr ⟨D, _, upd_same, s12.free hD, ⟨pv, t4 _ _ hc, al.imp fun v pc ⟨a', l', k1, k2, k3, _⟩ => ⟨a', l', k1, (TK.same t4).seq k2, SqL.of (t4 _ _ k3)⟩⟩, barok, fun pc hpc => ?_, ?_⟩)
        rotate_left
        · rw [List.length_map]
          omega
        obtain ⟨j, hj, rfl⟩ := List.mem_map.mp hpc
        obtain ⟨bp, hbp⟩ := hjl j hj
        rw [pcAt j bp hbp]
        exact hpce bp (List.mem_of_getElem? hbp)
end
end Lag

set_option maxRecDepth 100000
set_option maxHeartbeats 8000000
/-! ### sorted(set(xs)), whole numbers, any number of them -/
namespace Lag
open PySem PySem.Spec PyProof.Rows L2
/-- a set as it is made -/
abbrev svE (w : World) : Obj := { cls := .type "set", dict := none, data := .set #[] 0 (.fresh 0 0 (!w.params.followText "set-order")) }
section
variable {P : Program} {w : World} {A : Around} {E : Value → Shared → Prop} {s : Shared}
/-- what a call of set tells: the new address, a set of these numbers -/
abbrev SvMade (w : World) (s : Shared) (ns : List Int) (h' : Heap) (c : Nat) : Prop := SetR w h' s.heap.objs.size (fun j => decide (j ∈ ns)) c ∧ c ≤ ns.length ∧ ∀ b o, s.heap.get? b = some o → h'.get? b = some o
theorem sv_init {l : Addr} {items : Array Value} (ns : List Int) (hh : A.handled = none) (hl : s.heap.IsList l items) (hit : IntsAre items.toList ns) (hb : ns.length + 1 < scanBound) :
    codeAny (model P w) A (.call (.builtin "set.__init__") ⟨[.ref s.heap.objs.size, .ref l], []⟩) (wants (fun r s₂ => r = .none ∧ ∃ h' tk c, s₂ = { s with heap := h', toks := tk } ∧ SvMade w s ns h' c) E) { s with heap := s.heap.push (svE w) } := by
  have hisz : items.size = ns.length := by have q := IntsAre.length hit; rwa [Array.length_toList] at q
  have g0 : (s.heap.push (svE w)).get? s.heap.objs.size = some (svE w) := Heap.get?_push_size _ rfl
  refine codeAny_call_builtin F.called_set.init.plain F.entry_set_init (check_set_init_1 ⟨_, g0, rfl⟩ ?_)
  obtain ⟨⟨oc, od, odt, os⟩, hol, hcl, nl, hdl⟩ := hl
  simp only at hcl hdl; subst hcl; subst hdl
  have hol' : (s.heap.push (svE w)).get? l = some { cls := .type "list", dict := od, data := .seq items nl, slots := os } := Heap.get?_push_of_some _ hol
  have k1 := F.sub_list_set; have k2 := F.sub_list_frozenset; have k3 : (Value.type "list" == Value.type "dict") = false := by decide
  have hl1 : (s.heap.push (svE w)).IsList l items := ⟨_, hol', rfl, nl, rfl⟩
  unfold Builtin.«set.__init__» noKeywords Builtin.Frozenset.updateFrom; generalize hPI : pyIter = PI; wp_walk; subst hPI
  refine wpAny_pyIter_list hl1 (wpAny_bind (wpAny_runValue ?_))
  have lt : l < s.heap.objs.size := Heap.lt_size hol
  have hz : (s.heap.push (svE w)).objs.size = s.heap.objs.size + 1 := Heap.size_push ..
  have n1 : l ≠ (s.heap.push (svE w)).objs.size := by rw [hz]; exact Nat.ne_of_lt (Nat.lt_succ_of_lt lt)
  have n3 : ∀ b, b < s.heap.objs.size → b ≠ s.heap.objs.size ∧ b ≠ (s.heap.push (svE w)).objs.size := fun b hb => ⟨Nat.ne_of_lt hb, by rw [hz]; exact Nat.ne_of_lt (Nat.lt_succ_of_lt hb)⟩
  have n2 : s.heap.objs.size ∉ [(s.heap.push (svE w)).objs.size, l] := fun z => by
    rcases List.mem_cons.mp z with z | z
    · rw [hz] at z
      exact Nat.ne_of_lt (Nat.lt_succ_self _) z
    · exact (Nat.ne_of_lt lt) (List.mem_singleton.mp z).symm
  have hval : ∀ (i : Nat) (v : Value), items[i]? = some v → ∃ k t, ns[i]? = some k ∧ v = .int k t := fun i v hv => by
    have hi : i < ns.length := by rw [← hisz]; exact (Array.getElem?_eq_some_iff.mp hv).1
    obtain ⟨t, e⟩ := IntsAre.int_at hit i v (by rwa [Array.getElem?_toList])
    rw [List.getD_eq_getElem?_getD, List.getElem?_eq_getElem hi] at e
    exact ⟨ns[i], t, List.getElem?_eq_getElem hi, e⟩
  refine set_update_ints ((Walks.list (by simp [hh]) _ l n1 items).toS) s.heap.objs.size n2 ns hisz hb hval (items.size - 0) 0 _ (by omega) (Nat.zero_le _) ⟨⟨_, Heap.get?_push_size _ rfl, rfl, rfl⟩, hl1.push _⟩ ⟨0, Nat.le_refl 0, setR_new_at (Heap.get?_push_of_some _ g0)⟩ fun s' c' hm hc' hS' => ?_
  obtain ⟨h', g2, d', tk', o'⟩ := s'
  have eg : g2 = s.gens := hm.gens; have ed : d' = s.drawn := hm.drawn; have eo : o' = s.os := hm.os
  subst eg; subst ed; subst eo
  show wpAny _ _ _ _ _ _; refine wpAny_pure ?_; show wpAny _ _ (ret Value.none) _ _ _
  rw [hisz] at hc'
  refine wpAny_pure ⟨rfl, h', tk', c', rfl, hS', hc', fun b o e => ?_⟩
  have b0 : b < s.heap.objs.size := Heap.lt_size e
  refine hm.heap b o (fun z => ?_) (Heap.get?_push_of_some _ (Heap.get?_push_of_some _ e))
  rcases List.mem_cons.mp z with z | z
  · exact (n3 b b0).1 z
  · exact (n3 b b0).2 (List.mem_singleton.mp z)
theorem sv_set {l : Addr} {items : Array Value} (ns : List Int) {Q : Value → Shared → Prop} (hh : A.handled = none) (hl : s.heap.IsList l items) (hit : IntsAre items.toList ns) (hb : ns.length + 1 < scanBound)
    (h : ∀ (h' : Heap) (tk c : Nat), SvMade w s ns h' c → Q (.ref s.heap.objs.size) { s with heap := h', toks := tk }) : wpAny (model P w) A (call (.type "set") [.ref l]) Q E s := by
  obtain ⟨c0, tl0, hm1⟩ := F.called_set.mro; have hm2 := F.called_set.made; have hm3 := F.called_set.sub
  refine wpAny_call (codeAny_of_tree ?_); show wpAny _ _ (callAny (.type "set") _) _ _ _
  refine wpAny_pure ⟨Code.quiet_builtin _ (by decide +kernel), codeAny_builtin F.entry_type_call ?_⟩; rw [Around.under_plain (weight_type_call_type "set" [.ref l] []) rfl]
  have q1 := F.called_set.notType; have q2 := F.called_set.canCreate; have q3 := F.typeCall_set_1 (.ref l)
  repeat (any_goals (first | wp_step | assumption))
  refine codeAny_mono (code_set_led1 (.ref l) (E := E) (Q₁ := fun obj s₁ => obj = .ref s.heap.objs.size ∧ s₁ = { s with heap := s.heap.push (svE w) }) ⟨rfl, rfl⟩) fun r s₁ hr => ?_
  match r, hr with
  | .error _, hr => exact hr
  | .ok (.ret obj), hr =>
    obtain ⟨rfl, rfl⟩ := hr
    have hT : Shared.TypeIs { s with heap := s.heap.push (svE w) } (.ref s.heap.objs.size) "set" := ⟨_, Heap.get?_push_size _ rfl, rfl⟩
    have q4 := F.called_set.init.lookup; have q5 := F.called_set.init.bind (.ref s.heap.objs.size)
    repeat (any_goals (first | wp_step | assumption))
    refine codeAny_mono (sv_init (A := _) (E := E) ns (by simp [hh]) hl hit hb) fun r₂ s₂ hr₂ => ?_
    match r₂, hr₂ with
    | .error _, hr₂ => exact hr₂
    | .ok (.ret r), hr₂ =>
      obtain ⟨rfl, h', tk, c', rfl, hm⟩ := hr₂
      repeat (any_goals (first | wp_step | assumption))
      exact h _ _ _ hm
end
end Lag

set_option maxRecDepth 100000
set_option maxHeartbeats 8000000
namespace Lag
open PySem PySem.Spec PyProof.Rows L2 SrtO
section
variable {P : Program} {w : World} {A : Around} {E : Value → Shared → Prop} {s : Shared} {a : Addr}
/-- sorted of a set of whole numbers, any number of them -/
theorem sv_sorted {S : Int → Bool} {n : Nat} {Q : Value → Shared → Prop} (R : SetR w s.heap a S n) (hh : A.handled = none)
    (hQ : ∀ s' p (out : Array Value) (c : Nat) (ns : List Int), (∀ b o, s.heap.get? b = some o → s'.heap.get? b = some o) ∧ s'.gens = s.gens ∧ s'.os = s.os ∧ s.heap.objs.size ≤ p ∧
      s'.heap.get? p = some (seqObj "list" out c) ∧ IntsAre out.toList ns ∧ ns.Pairwise (· < ·) ∧ (∀ k, k ∈ ns ↔ S k = true) ∧ ns.length = n → Q (.ref p) s') : wpAny (model P w) A (call (.builtin "sorted") [.ref a]) Q E s := by
  obtain ⟨o, es, ep, t, ho, hex, hd, g, nd, hm, hb, hf, hn, hr, hl⟩ := R
  refine Calls.call_function_entry kind_sorted plain_sorted entry_sorted (args_sorted1 _) ?_; unfold Builtin.«sorted»
  refine wpAny_bind (m := checkCount "sorted" 1 1 _) (wpAny_pure (wpAny_bind (collect_set (A := A.in1) hh ⟨o, ho, hex.1, hd⟩ hf hb hr hl fun s1 vs k1 hz g1 o1 pm => ?_)))
  have vl : vs.length = n := by rw [pm.length_eq, List.length_map, Array.length_toList, hn]
  have vz : vs.length ≤ sizeLine := by rw [vl, ← hn, sizeLine_eq]; unfold scanBound at hb; omega
  have hI : IntsAre vs (vs.map iv) := ints_iv fun v hv => by
    obtain ⟨e, he, q⟩ := List.mem_map.mp (pm.mem_iff.mp hv); obtain ⟨k, tk, h1, _⟩ := g e he
    exact ⟨k, tk, by rw [← q]; exact h1⟩
  have pk : (vs.map iv).Perm (es.toList.map keyOf) := by
    have q := pm.map iv; rw [List.map_map] at q
    refine q.trans (List.Perm.of_eq (List.map_congr_left fun e he => ?_)); obtain ⟨k, tk, h1, _⟩ := g e he
    show iv e.2 = keyOf e
    unfold keyOf; rw [h1]; rfl
  refine wpAny_bind (wpAny_newList ?_ vz)
  have hoL : (s1.heap.push (seqObj "list" vs.toArray 0)).get? s1.heap.objs.size = some (seqObj "list" vs.toArray 0) := Heap.get?_push_size _ rfl
  refine wpAny_bind (wpAny_holding (wpAny_call_entry slot_list_sort ⟨_, hoL, rfl⟩ entry_list_sort (list_sort_ord swo_int hoL vz (fun h2 => ints_sortable hI h2) fun out hs hb2 => ⟨_, rfl, wpAny_pure ⟨_, rfl, ?_⟩⟩) (args_list_sort _)))
  obtain ⟨j1, j2, j3⟩ := ints_out hI hs hb2
  obtain ⟨c, hc⟩ := sortedHeap_at (vs := vs) (out := out.toArray) hoL
  have pn : (out.map iv).Perm (es.toList.map keyOf) := j2.trans pk
  refine hQ _ s1.heap.objs.size out.toArray c (out.map iv) ⟨fun b u e => ?_, g1, o1, hz, hc, j1, lt_of_le_nodup _ j3 (pn.nodup_iff.mpr nd), fun k => by rw [pn.mem_iff, ← hm k], by rw [pn.length_eq, List.length_map, Array.length_toList]; exact hn⟩
  have q := k1 b u e; have lt := Heap.lt_size q
  show (sortedHeap (s1.heap.push (seqObj "list" vs.toArray 0)) s1.heap.objs.size vs out.toArray).get? b = some u
  rw [sortedHeap_old (Nat.ne_of_lt lt) (by rw [size_push']; exact Nat.lt_succ_of_lt lt)]
  exact Heap.get?_push_of_some _ q
end
/-- sorted(set(xs)) -/
def tSortSet (K : PySem.W.Frag) (ta : TE) : TE := fun σ H Q => ta σ H fun x H1 => ∃ (l : Addr) (ns : List Int), x = .ref l ∧ SqL K H1 l (ns.map V.int) ∧ ns.length ≤ 4000 ∧
  ∀ (ns' : List Int) (p : Addr), ns'.Pairwise (· < ·) → (∀ k, k ∈ ns' ↔ k ∈ ns) → H1 p = none → Q (.ref p) (upd H1 p (.lst (ns'.map V.int)))
theorem pe_sortSet {X : Cx} {a : Expr} {ta : TE} {p p2 q pos : Pos} (g1 : Gl X "sorted") (m1 : X.mg "sorted" = none) (g2 : Gl X "set") (m2 : X.mg "set" = none) (ha : PE X a ta) (bs : bootBuiltins "sorted" = some (.builtin "sorted")) (hc : X.calm = true := by rfl)
    (na : starEach [a] X.env = (false, eval a X.env) :: starEach [] X.env := by rfl) : PE X (.Call (.Name "sorted" p) [.Call (.Name "set" p2) [a] [] q] [] pos) (tSortSet X.K ta) := by
  refine ⟨fun pins s σ H Q I h => Call_ (ld_blt I g1 m1 bs (callWith_builtin1 (args_cons (Call_ (ld_blt I g2 m2 boot_set (callWith_type1 (args_cons (thn (ha.run pins s σ H _ I h) fun v s1 ⟨x, H1, I1, r1, q1⟩ => args_nil ?_) na) na rfl))) rfl) rfl rfl))⟩
  obtain ⟨l, ns, rfl, hq, hl, q1⟩ := q1
  cases r1
  obtain ⟨its, r, pl, hz⟩ := I1.list hq
  refine sv_set ns (I1.ok.hd hc) pl.isList (by simpa using RZ.intsAre_vals r) (by unfold scanBound; omega) fun h' tk c ⟨R, hcn, hk⟩ => args_nil ?_
  have I2 : Inv X pins σ H1 { s1 with heap := h', toks := tk } := I1.kept fun b o e => hk b o e
  have R2 : SetR X.w ({ s1 with heap := h', toks := tk } : Shared).heap s1.heap.objs.size (fun j => decide (j ∈ ns)) c := R
  have hlt := R.lt
  show wpAny _ _ _ _ _ ({ s1 with heap := h', toks := tk } : Shared)
  generalize ({ s1 with heap := h', toks := tk } : Shared) = s2 at I2 R2
  refine sv_sorted R2 (I2.ok.hd hc) fun s' p out c ns' ⟨k, g, o, hp, hg, hi, hs, hm, hln⟩ => ?_
  have hlen : (ns'.map V.int).length ≤ sizeLine := by rw [List.length_map, hln, sizeLine_eq]; omega
  have hn : H1 p = none := I2.hok.fresh hp
  have J : Inv X pins σ (upd H1 p (.lst (ns'.map V.int))) { s2 with heap := s'.heap, gens := s'.gens, drawn := s'.drawn, toks := s'.toks } :=
    I2.call (ch := []) (Un.laid k hp hn) (I2.hok.laid k hp ⟨hlen, out.toList, c, vals_of_ints hi, hg⟩) (by rw [g]; exact I2.bare) (fun _ z => nomatch z)
  have e : s' = { s2 with heap := s'.heap, gens := s'.gens, drawn := s'.drawn, toks := s'.toks } := by
    cases s'; cases s2; cases o; rfl
  rw [e]
  exact ⟨.ref p, _, J, rfl, q1 ns' p hs (fun k => by rw [hm k, decide_eq_true_eq]) hn⟩
end Lag

set_option maxRecDepth 100000
set_option maxHeartbeats 8000000
namespace Lag
open PySem PySem.Spec PyProof.Rows L2
abbrev sBetween : Stmt := topS 38 -- @between
abbrev sLeastBeat : Stmt := topS 48 -- @least_beat
def endsB (gs : List Gt) (ws : List Wr) (s : Nat) : List Nat := (List.range gs.length).filter fun e => (best gs ws s e).isSome
def rowB (gs : List Gt) (ws : List Wr) (s e : Nat) : List Int := [((s : Nat) : Int), ((e : Nat) : Int), ((best gs ws s e).getD (0, 0)).1, -((best gs ws s e).getD (0, 0)).2]
def rowsB (gs : List Gt) (ws : List Wr) (s : Nat) : List (List Int) := (endsB gs ws s).map (rowB gs ws s)
def betL (gs : List Gt) (ws : List Wr) (n : Nat) : List (List Int) := (List.range n).flatMap (rowsB gs ws)
theorem betL_succ (gs : List Gt) (ws : List Wr) (n : Nat) : betL gs ws (n + 1) = betL gs ws n ++ rowsB gs ws n := by
  unfold betL
  rw [List.range_succ, List.flatMap_append, List.flatMap_cons, List.flatMap_nil, List.append_nil]
theorem betL_len (gs : List Gt) (ws : List Wr) : ∀ n, (betL gs ws n).length ≤ n * gs.length
  | 0 => Nat.zero_le _
  | n + 1 => by
    rw [betL_succ, List.length_append, Nat.add_mul, Nat.one_mul]
    have h1 := betL_len gs ws n
    have h2 : (rowsB gs ws n).length ≤ gs.length := by
      unfold rowsB endsB
      rw [List.length_map]
      have := List.length_filter_le (fun e => (best gs ws n e).isSome) (List.range gs.length)
      rw [List.length_range] at this
      exact this
    omega
theorem all2_app' {α β : Type} {R : α → β → Prop} {xs xs' : List α} {ys ys' : List β} (h : All2 R xs ys) (h' : All2 R xs' ys') : All2 R (xs ++ xs') (ys ++ ys') := by
  refine ⟨by rw [List.length_append, List.length_append, h.1, h'.1], fun i x y hx hy => ?_⟩
  by_cases hi : i < xs.length
  · rw [List.getElem?_append_left hi] at hx
    rw [List.getElem?_append_left (by rw [← h.1]; exact hi)] at hy
    exact h.2 i x y hx hy
  · rw [List.getElem?_append_right (by omega)] at hx
    rw [List.getElem?_append_right (by rw [← h.1]; omega), ← h.1] at hy
    exact h'.2 _ x y hx hy
/-- a tuple of numbers -/
def RowT (K : PySem.W.Frag) (H : Hp) (v : V) (r : List Int) : Prop := ∃ a, v = .ref a ∧ SqT K H a (r.map V.int)
theorem RowT.tk {K : PySem.W.Frag} {H H' : Hp} {v : V} {r : List Int} (t : TK H H') (h : RowT K H v r) : RowT K H' v r := by
  obtain ⟨a, e, s⟩ := h
  exact ⟨a, e, t.seq s⟩
theorem sorted_uniq : ∀ {l l' : List Nat}, l.Perm l' → l.Pairwise (· ≤ ·) → l'.Pairwise (· ≤ ·) → l = l'
  | [], l', p, _, _ => (List.nil_perm.mp p).symm
  | a :: l, [], p, _, _ => absurd (List.perm_nil.mp p) (by simp)
  | a :: l, b :: l', p, h, h' => by
    obtain ⟨h1, h2⟩ := List.pairwise_cons.mp h
    obtain ⟨k1, k2⟩ := List.pairwise_cons.mp h'
    have e : a = b := by
      have m1 := p.mem_iff.mp (List.mem_cons_self (a := a) (l := l))
      have m2 := p.mem_iff.mpr (List.mem_cons_self (a := b) (l := l'))
      rcases List.mem_cons.mp m1 with m1 | m1
      · exact m1
      · rcases List.mem_cons.mp m2 with m2 | m2
        · exact m2.symm
        · have := h1 b m2
          have := k1 a m1
          omega
    subst e
    rw [sorted_uniq ((List.perm_cons a).mp p) h2 k2]
theorem range_sorted : ∀ n, (List.range n).Pairwise (· ≤ ·) := fun n => by
  rw [List.pairwise_iff_getElem]
  intro i j hi hj hij
  rw [List.getElem_range, List.getElem_range]
  omega
theorem ends_uniq {gs : List Gt} {ws : List Wr} {s : Nat} {es ks : List Nat} (N : NetOk gs ws) (hs : s < gs.length) (hp : es.Perm ks) (hnd : ks.Nodup) (hmem : ∀ g, g ∈ ks ↔ ∃ c, best gs ws s g = some c) (hso : es.Pairwise (· ≤ ·)) : es = endsB gs ws s := by
  refine sorted_uniq ?_ hso (by unfold endsB; exact (range_sorted _).filter _)
  unfold endsB
  rw [List.perm_ext_iff_of_nodup (hp.nodup_iff.mpr hnd) (List.nodup_range.filter _)]
  intro g
  rw [hp.mem_iff, hmem, List.mem_filter, List.mem_range]
  constructor
  · rintro ⟨c, hc⟩
    exact ⟨best_lt N hs hc, by rw [hc]; rfl⟩
  · rintro ⟨_, h⟩
    cases e : best gs ws s g with
    | none => rw [e] at h; cases h
    | some c => exact ⟨c, rfl⟩
theorem mem_betL {gs : List Gt} {ws : List Wr} {r : List Int} : ∀ {n : Nat}, r ∈ betL gs ws n ↔ ∃ s e c, s < n ∧ e < gs.length ∧ best gs ws s e = some c ∧ r = [((s : Nat) : Int), ((e : Nat) : Int), c.1, -c.2] := fun {n} => by
  unfold betL
  rw [List.mem_flatMap]
  constructor
  · rintro ⟨s, hs, hr⟩
    unfold rowsB at hr
    obtain ⟨e, he, rfl⟩ := List.mem_map.mp hr
    unfold endsB at he
    obtain ⟨h1, h2⟩ := List.mem_filter.mp he
    cases hc : best gs ws s e with
    | none => rw [hc] at h2; cases h2
    | some c => exact ⟨s, e, c, List.mem_range.mp hs, List.mem_range.mp h1, hc, by unfold rowB; rw [hc]; rfl⟩
  · rintro ⟨s, e, c, h1, h2, h3, rfl⟩
    refine ⟨s, List.mem_range.mpr h1, List.mem_map.mpr ⟨e, List.mem_filter.mpr ⟨List.mem_range.mpr h2, by rw [h3]; rfl⟩, ?_⟩⟩
    unfold rowB
    rw [h3]
    rfl
theorem IsWait.nn {gs : List Gt} {ws : List Wr} {m : Int} (N : NetOk gs ws) (h : IsWait gs ws m) : 0 ≤ m := by
  obtain ⟨s, e, c, hs, hc, rfl⟩ := h
  obtain ⟨ps, _, h2⟩ := best_way hc
  rw [h2]
  have := gw_nn N s
  have := pws_nn N ps
  show 0 ≤ - -pwt gs ws s ps
  unfold pwt
  omega
def spBetween (K : PySem.W.Frag) (C : Addr) : Sp := fun vs H Q _ => ∃ (p ng nw : Addr) (gs : List Gt) (ws : List Wr), vs = [.ref p] ∧ NetAt K C H p ng nw gs ws ∧ NetOk gs ws ∧
  ∀ (l : Addr) (tv : List V) (H' : Hp), Same H H' → H l = none → H' l = some (.lst tv) → All2 (RowT K H') tv (betL gs ws gs.length) → Q (.ref l) H'
def spLeastBeat (K : PySem.W.Frag) (C : Addr) : Sp := fun vs H Q _ => ∃ (p ng nw : Addr) (gs : List Gt) (ws : List Wr), vs = [.ref p] ∧ NetAt K C H p ng nw gs ws ∧ NetOk gs ws ∧ gs.length ≤ 60 ∧
  ∀ (t l : Addr) (B : Int) (L : Nat → Int) (H' : Hp), Same H H' → H' t = some (.tup [.int B, .ref l]) → H l = none → H' l = some (.lst ((lagsL gs L).map V.int)) → IsLeast gs ws B → Feas gs ws B L → (∀ g, g < gs.length → -101 ≤ L g ∧ L g ≤ 101) → 0 ≤ B → Q (.ref t) H'
section
variable {P : Program} {w : World} {K : PySem.W.Frag} {mg : Str → Option Value} {base : Heap}
abbrev nBetween : List Str := ["net", "told", "start", "known", "last", "end"]
theorem scBetween : FnScope nBetween ["net"] (defScope sBetween) := ⟨rfl, rfl, rfl, by decide +kernel, rfl, by decide +kernel, by decide +kernel⟩
abbrev DBetween (P : Program) (w : World) (K : PySem.W.Frag) (mg : Str → Option Value) (base : Heap) (C : Addr) := Df P w K mg base 2 "between" ["net"] (spBetween K C)
theorem ok_between {f fB C : Addr} {fd fdB : FuncData} (F : Fun K "between" "between" sBetween f fd) (hm : mg "between" = some (.ref f)) (B : Bt mg) (mso : mg "sorted" = none) (T : NT K mg C) (DBF : DBestFrom P w K mg base C fB fdB) : DBetween P w K mg base C f fd := by
  refine ⟨?_, hm, F.kp, F.binds fun _ _ _ _ _ _ us hl => match us, hl with | [_], _ => rfl⟩
  refine F.ok scBetween (fun vs H Q E h => ?_) (fun cdv A outer s H vs Q E hr h => ?_)
  · obtain ⟨p, ng, nw, gs, ws, rfl, _⟩ := h
    rfl
  · obtain ⟨p, ng, nw, gs, ws, rfl, NA, N, q⟩ := h
    have nd := scBetween.nd
    refine ⟨_, pss_cons (ps_set (i := 1) nd rfl (.inl rfl) (pe_lst pa_nil)) <|
        pss_cons (ps_for PassesOwn.never rfl (pi_range1 (by rfl) B.range (pa_cons (pe_callB call_len_seq (by rfl) B.len PySem.boot_len (pa_cons (pe_fld (pv 0) rfl) pa_nil)) pa_nil)) (pg_name (i := 2) nd rfl (.inr rfl)) (pss_cons (ps_asg (pe_call DBF.ok (hr.mono (by decide)) (by rfl) DBF.mg DBF.kp DBF.bd .nil pass0 (pa_cons (pv 0) (pa_cons (pv 2) pa_nil))) (pg_tup rfl (pgs_cons (pg_name (i := 3) nd rfl (.inr rfl)) (pgs_cons (pg_name (i := 4) nd rfl (.inl rfl)) pgs_nil)))) <|
        pss_one (ps_expr (pe_bm PySem.F.plainAttrs_list PySem.F.slot_list_extend PySem.F.type_list_extend mt_extend (pv 1) (pa_cons (pe_lc (own := [("end", 5)]) (g := (gName 5)) (tt := tYes) (te := (tTup (tCons (tVar 2) (tCons (tVar 5) (tCons (tOp (rIxT K) (tDGet (tVar 3) (tVar 5)) (tC (.int 0))) (tCons (tUn (rU fun i => .int (-i)) (tOp (rIxT K) (tDGet (tVar 3) (tVar 5)) (tC (.int 1)))) tNil)))))) rfl nd (pi_list (pe_callB cr_sortedI (by rfl) mso (by decide +kernel) (pa_cons (pe_callTy (call_list_dK rfl) (by rfl) B.list (by decide +kernel) (pa_cons (pv 3) pa_nil)) pa_nil))) (blkOk_by (N := nBetween) (sc := defScope sBetween) (own := [("end", 5)]) (by decide +kernel)) (fun _ _ _ _ _ => (pg_name (i := 5) nd rfl (.inl rfl))) (fun _ _ _ _ _ => pts_nil) (fun _ _ _ _ _ => (pe_tup (pa_cons (pv 2) (pa_cons (pv 5) (pa_cons (pe_ix ix_tup (pe_dget (hu_of hr) (pv 3) (pv 5) (fun _ _ => rfl)) pe_int (fun _ _ => rfl)) (pa_cons (pe_un un_neg (pe_ix ix_tup (pe_dget (hu_of hr) (pv 3) (pv 5) (fun _ _ => rfl)) pe_int (fun _ _ => rfl))) pa_nil))))))) pa_nil))))) <|
        pss_one (ps_ret (pv 1)), ?_⟩
    have hgl := N.gl
    obtain ⟨dx, ob⟩ := id NA.ob
    obtain ⟨gv, hgv, ga⟩ := id NA.g
    have hlg : gv.length = gs.length := ga.1
    refine ⟨(by show 0 ≤ sizeLine; decide), fun lt hlt => ?_⟩
    have t2 := same_new (o := .lst []) hlt
    have e2 : (upd H lt (.lst [])) lt = some (.lst []) := upd_same
    generalize upd H lt (.lst []) = H2 at t2 e2
    refine gn_norm (σ' := [some (.ref p), some (.ref lt), none, none, none, none]) rfl ?_
    refine ⟨_, rfl, p, C, dx, _, _, rfl, t2 _ _ ob, T.cl, T.nG, nf_gates _ _, ng, gv, rfl, .inl (SqL.of (t2 _ _ hgv)), _, rfl, by omega, by omega, for_range (lo := 0) (n := ((gv.length : Nat) : Int).toNat) (fun i σ H' => ∃ (u2 u3 u4 u5 : Option V) (tv : List V), σ = [some (.ref p), some (.ref lt), u2, u3, u4, u5] ∧ Same H H' ∧ H' lt = some (.lst tv) ∧ All2 (RowT K H') tv (betL gs ws i))
      ⟨_, _, _, _, [], rfl, t2, e2, All2.nil⟩ ?_ ?_⟩
    · rintro i σ H3 hi ⟨u2, u3, u4, u5, tv, rfl, sm, et, at_⟩
      rw [Int.toNat_natCast, hlg] at hi
      have ei : (0 : Int) + ((i : Nat) : Int) = ((i : Nat) : Int) := Int.zero_add _
      rw [ei]
      refine ⟨_, rfl, _, rfl, p, ng, nw, gs, ws, i, rfl, NA.same sm, N, hi, fun t d lL kvs ks La H4 s4 ett kn eL hL0 lok => ?_⟩
      refine ⟨t, _, rfl, .inl (.inl ett), rfl, _, _, rfl, _, _, rfl, rfl, ?_⟩
      have et4 := s4 _ _ et
      refine gn_norm (σ' := [some (.ref p), some (.ref lt), some (.int (i : Nat)), some (.ref d), some (.ref lL), u5]) rfl ?_
      refine ⟨_, rfl, .inl ⟨rfl, _, SqL.of et4⟩, ?_⟩
      refine ⟨_, rfl, d, kvs, rfl, kn.at_, fun lk hlk => ?_⟩
      rw [kn.list]
      have t5 := same_new (o := .lst ((ks.map fun i => ((i : Nat) : Int)).map V.int)) hlk
      have e5 : (upd H4 lk (.lst ((ks.map fun i => ((i : Nat) : Int)).map V.int))) lk = some (.lst ((ks.map fun i => ((i : Nat) : Int)).map V.int)) := upd_same
      generalize upd H4 lk (.lst ((ks.map fun i => ((i : Nat) : Int)).map V.int)) = H5 at t5 e5
      refine ⟨lk, _, rfl, SqL.of e5, fun ns lp hperm hsrt hlp => ?_⟩
      obtain ⟨es, rfl, hep, hes⟩ := nat_sorted hperm hsrt
      have hee := ends_uniq N hi hep kn.nd kn.mem hes
      have hex : (es.map fun i => ((i : Nat) : Int)).map V.int = nvs es := by rw [List.map_map]; rfl
      rw [hex]
      have t6 := same_new (o := .lst (nvs es)) hlp
      have e6 : (upd H5 lp (.lst (nvs es))) lp = some (.lst (nvs es)) := upd_same
      generalize upd H5 lp (.lst (nvs es)) = H6 at t6 e6
      have s46 := t5.trans t6
      have hkl : es.length ≤ gs.length := by
        rw [hep.length_eq]
        exact svNodup_le kn.nd fun v hv => by
          obtain ⟨c, hc⟩ := (kn.mem v).mp hv
          exact best_lt N hi hc
      refine ⟨lp, rfl, ⟨_, SqL.of e6⟩, fun D hD => ?_⟩
      refine lc_list (K := K) (a := lp) (xs := nvs es) (fun j Hc => ∃ rv : List V, Hc D = some (.lst rv) ∧ All2 (RowT K Hc) rv ((es.take j).map (rowB gs ws i)) ∧ Same H6 Hc) ⟨[], upd_same, All2.nil, same_new hD⟩ (fun j Hc _ ⟨_, _, _, s7⟩ => SqL.of (s7 _ _ e6)) ?_ ?_
      · rintro j v Hc hv ⟨rv, hc, al, s7⟩
        obtain ⟨e, he, rfl⟩ := nvs_of hv
        obtain ⟨c, hcb⟩ := (kn.mem e).mp (hep.mem_iff.mp (List.mem_of_getElem? he))
        obtain ⟨tc, hg, hsc⟩ := (kn.same (s46.trans s7)).get hcb
        have hjl : j < es.length := (List.getElem?_eq_some_iff.mp he).1
        have hrl : rv.length ≤ j := by
          have := al.1
          rw [List.length_map, List.length_take] at this
          omega
        refine ⟨rfl, tyes ?_⟩
        refine ⟨_, rfl, _, rfl, _, rfl, _, rfl, d, _, rfl, hg, tc, _, 0, _, rfl, rfl, hsc, atI_nat (j := 0) rfl, ?_⟩
        refine ⟨_, rfl, _, rfl, d, _, rfl, hg, tc, _, 1, _, rfl, rfl, hsc, atI_nat (j := 1) rfl, _, rfl, (by show 4 ≤ sizeLine; decide), fun tt htt => ?_⟩
        have t8 := same_new (o := .tup [.int ((i : Nat) : Int), .int ((e : Nat) : Int), .int c.1, .int (-c.2)]) htt
        have e8 : (upd Hc tt (.tup [.int ((i : Nat) : Int), .int ((e : Nat) : Int), .int c.1, .int (-c.2)])) tt = some (.tup [.int ((i : Nat) : Int), .int ((e : Nat) : Int), .int c.1, .int (-c.2)]) := upd_same
        generalize upd Hc tt (.tup [.int ((i : Nat) : Int), .int ((e : Nat) : Int), .int c.1, .int (-c.2)]) = H8 at t8 e8
        have hc8 := t8 _ _ hc
        refine ⟨rv, hc8, small1000 (by omega), rv ++ [.ref tt], upd_same, ?_, same_mut (s7.trans t8) hD⟩
        rw [List.take_add_one, he, List.map_append]
        refine ((al.imp fun _ _ r => r.tk (TK.same t8)).imp fun _ _ r => r.tk (TK.lst hc8)).snoc ⟨tt, rfl, ?_⟩
        have er : rowB gs ws i e = [((i : Nat) : Int), ((e : Nat) : Int), c.1, -c.2] := by
          unfold rowB
          rw [hcb]
          rfl
        rw [er]
        exact (TK.lst hc8).seq (.inl (.inl e8))
      · rintro H7 ⟨rv, hc, al, s7⟩
        rw [nvs_len, List.take_length] at al
        have hrl : rv.length ≤ gs.length := by
          have := al.1
          rw [List.length_map] at this
          omega
        have s37 := (s4.trans s46).trans s7
        have et7 := s37 _ _ et
        have ndt : D ≠ lt := (ne_of_none (s46 _ _ et4) hD).symm
        have htl : tv.length ≤ i * gs.length := by
          rw [at_.1]
          exact betL_len gs ws i
        have hilt : i * gs.length ≤ 10000 := Nat.mul_le_mul (by omega : i ≤ 100) (by omega : gs.length ≤ 100)
        refine ⟨lt, D, tv, rv, rfl, rfl, et7, hc, Nat.le_of_lt (small11k (by omega)), ?_⟩
        refine ⟨_, _, _, _, tv ++ rv, rfl, same_mut (sm.trans s37) hlt, upd_same, ?_⟩
        rw [betL_succ]
        have a7 : All2 (RowT K H7) (tv ++ rv) (betL gs ws i ++ rowsB gs ws i) := by
          refine all2_app' (at_.imp fun _ _ r => r.tk (TK.same s37)) ?_
          unfold rowsB
          rw [← hee]
          exact al
        exact a7.imp fun _ _ r => r.tk (TK.lst et7)
    · rintro σ H3 ⟨u2, u3, u4, u5, tv, rfl, sm, et, at_⟩
      rw [Int.toNat_natCast, hlg] at at_
      exact ⟨_, rfl, q lt tv H3 sm hlt et at_⟩
abbrev nLeastBeat : List Str := ["net", "start", "end", "many", "wait", "waits", "low", "high", "middle"]
theorem scLeastBeat : FnScope nLeastBeat ["net"] (defScope sLeastBeat) := ⟨rfl, rfl, rfl, by decide +kernel, rfl, by decide +kernel, by decide +kernel⟩
abbrev DLeastBeat (P : Program) (w : World) (K : PySem.W.Frag) (mg : Str → Option Value) (base : Heap) (C : Addr) := Df P w K mg base 5 "least_beat" ["net"] (spLeastBeat K C)
theorem ok_leastBeat {f fB fF C : Addr} {fd fdB fdF : FuncData} (F : Fun K "least_beat" "least_beat" sLeastBeat f fd) (hm : mg "least_beat" = some (.ref f)) (B : Bt mg) (mso : mg "sorted" = none) (mse : mg "set" = none) (DBt : DBetween P w K mg base C fB fdB) (DFb : DForBeat P w K mg base C fF fdF) : DLeastBeat P w K mg base C f fd := by
  refine ⟨?_, hm, F.kp, F.binds fun _ _ _ _ _ _ us hl => match us, hl with | [_], _ => rfl⟩
  refine F.ok scLeastBeat (fun vs H Q E h => ?_) (fun cdv A outer s H vs Q E hr h => ?_)
  · obtain ⟨p, ng, nw, gs, ws, rfl, _⟩ := h
    rfl
  · obtain ⟨p, ng, nw, gs, ws, rfl, NA, N, hg60, q⟩ := h
    have nd := scLeastBeat.nd
    refine ⟨_, pss_cons (ps_set (i := 5) nd rfl (.inl rfl) (pe_sortSet (by rfl) mso (by rfl) mse (pe_lc (own := [("start", 1), ("end", 2), ("many", 3), ("wait", 4)]) (g := (gTup K 4 (gCons (gName 1) (gCons (gName 2) (gCons (gName 3) (gCons (gName 4) gNil)))))) (tt := tYes) (te := (tVar 4)) rfl nd (pi_list (pe_call DBt.ok (hr.mono (by decide)) (by rfl) DBt.mg DBt.kp DBt.bd .nil pass0 (pa_cons (pv 0) pa_nil))) (blkOk_by (N := nLeastBeat) (sc := defScope sLeastBeat) (own := [("start", 1), ("end", 2), ("many", 3), ("wait", 4)]) (by decide +kernel)) (fun _ _ _ _ _ => (pg_tup rfl (pgs_cons (pg_name (i := 1) nd rfl (.inl rfl)) (pgs_cons (pg_name (i := 2) nd rfl (.inl rfl)) (pgs_cons (pg_name (i := 3) nd rfl (.inl rfl)) (pgs_cons (pg_name (i := 4) nd rfl (.inl rfl)) pgs_nil)))))) (fun _ _ _ _ _ => pts_nil) (fun _ _ _ _ _ => (pv 4))) (by decide +kernel))) <|
        pss_cons (ps_set (i := 6) nd rfl (.inl rfl) pe_int) <|
        pss_cons (ps_set (i := 7) nd rfl (.inl rfl) (pe_op op_sub (pe_callB call_len_seq (by rfl) B.len PySem.boot_len (pa_cons (pv 5) pa_nil)) pe_int)) <|
        pss_cons (ps_while PassesOwn.never (pt_cmpR op_lt (pv 6) (pv 7) (nomark _)) (pss_cons (ps_set (i := 8) nd rfl (.inl rfl) (pe_op op_fdiv (pe_op op_add (pv 6) (pv 7)) pe_int)) <|
        pss_one (ps_if (pt_cmpR op_eq (pe_ix ix_tup (pe_call DFb.ok (hr.mono (by decide)) (by rfl) DFb.mg DFb.kp DFb.bd .nil pass0 (pa_cons (pv 0) (pa_cons (pe_ix ix_list (pv 5) (pv 8) (fun _ _ => rfl)) pa_nil))) pe_int (fun _ _ => rfl)) pe_str (nomark _)) (pss_one (ps_set (i := 7) nd rfl (.inl rfl) (pv 8))) (pss_one (ps_set (i := 6) nd rfl (.inl rfl) (pe_op op_add (pv 8) pe_int)))))) <|
        pss_one (ps_ret (pe_tup (pa_cons (pe_ix ix_list (pv 5) (pv 6) (fun _ _ => rfl)) (pa_cons (pe_ix ix_tup (pe_call DFb.ok (hr.mono (by decide)) (by rfl) DFb.mg DFb.kp DFb.bd .nil pass0 (pa_cons (pv 0) (pa_cons (pe_ix ix_list (pv 5) (pv 6) (fun _ _ => rfl)) pa_nil))) pe_int (fun _ _ => rfl)) pa_nil)))), ?_⟩
    refine ⟨_, rfl, p, ng, nw, gs, ws, rfl, NA, N, fun lb tv H1 s1 hlb elb al => ?_⟩
    have hbl := betL_len gs ws gs.length
    have hbl2 : gs.length * gs.length ≤ 3600 := Nat.mul_le_mul hg60 hg60
    have htl : tv.length = (betL gs ws gs.length).length := al.1
    refine ⟨lb, rfl, ⟨_, SqL.of elb⟩, fun D hD => ?_⟩
    refine lc_list (K := K) (a := lb) (xs := tv) (fun i Hc => Hc D = some (.lst ((((betL gs ws gs.length).take i).map fun r => r.getD 3 0).map V.int)) ∧ Same H1 Hc) ⟨by rw [upd_same]; rfl, same_new hD⟩ (fun i Hc _ ⟨_, sm⟩ => SqL.of (sm _ _ elb)) ?_ ?_
    · rintro i v Hc hv ⟨hc, sm⟩
      obtain ⟨r, hr', a, rfl, sq⟩ := al.get hv
      obtain ⟨s', e', c, _, _, hcb, rfl⟩ := mem_betL.mp (List.mem_of_getElem? hr')
      have hil := (List.getElem?_eq_some_iff.mp hv).1
      refine ⟨a, _, rfl, (TK.same sm).seq sq, rfl, _, _, rfl, _, _, rfl, _, _, rfl, _, _, rfl, rfl, rfl, tyes ?_⟩
      refine ⟨_, rfl, _, hc, ?_, ?_, same_mut sm hD⟩
      · rw [List.length_map, List.length_map, List.length_take]
        exact small11k (by omega)
      · rw [upd_same, List.take_add_one, hr', List.map_append, List.map_append]
        rfl
    rintro H2 ⟨hc, s2⟩
    rw [htl, List.take_length] at hc
    refine ⟨D, _, rfl, SqL.of hc, by rw [List.length_map]; omega, fun W lw hW hmem hlw => ?_⟩
    have hw : ∀ m, m ∈ W ↔ IsWait gs ws m := fun m => by
      rw [hmem, List.mem_map]
      constructor
      · rintro ⟨r, hr', rfl⟩
        obtain ⟨s', e', c, h1, _, h3, rfl⟩ := mem_betL.mp hr'
        exact ⟨s', e', c, h1, h3, rfl⟩
      · rintro ⟨s', e', c, h1, h3, rfl⟩
        exact ⟨_, mem_betL.mpr ⟨s', e', c, h1, best_lt N h1 h3, h3, rfl⟩, rfl⟩
    have t3 := same_new (o := .lst (W.map V.int)) hlw
    have e3 : (upd H2 lw (.lst (W.map V.int))) lw = some (.lst (W.map V.int)) := upd_same
    generalize upd H2 lw (.lst (W.map V.int)) = H3 at t3 e3
    have s3 := (s1.trans s2).trans t3
    have hn0 : 0 < gs.length := List.length_pos_iff.mpr N.ne
    have hWn : 0 < W.length := by
      have h1 : IsWait gs ws (- -pwt gs ws 0 []) := by
        obtain ⟨c, hcb, hl⟩ := best_le N hn0 (ps := []) (g := 0) (ws := ws) rfl
        have h2 : best gs ws 0 0 = some (0, -gw gs 0) := rnds_s N gs.length
        refine ⟨0, 0, _, hn0, h2, ?_⟩
        unfold pwt
        rw [pws_nil, Int.add_zero]
      exact List.length_pos_of_mem ((hw _).mpr h1)
    have hat : ∀ {i : Nat}, i < W.length → (W.map V.int)[i]? = some (.int (W.getD i 0)) := fun h => sgetD_at h
    have hin : ∀ {i : Nat}, i < W.length → W.getD i 0 ∈ W := fun {i} h => by
      rw [List.getD_eq_getElem?_getD, List.getElem?_eq_getElem h]
      exact List.getElem_mem _
    have hlt : ∀ {i j : Nat}, j < W.length → i < j → W.getD i 0 < W.getD j 0 := fun {i j} hj hij => by
      have hi : i < W.length := by omega
      rw [List.getD_eq_getElem?_getD, List.getD_eq_getElem?_getD, List.getElem?_eq_getElem hi, List.getElem?_eq_getElem hj]
      exact List.pairwise_iff_getElem.mp hW i j hi hj hij
    have top : FeasE gs ws (W.getD (W.length - 1) 0) := ⟨_, Feas.zero N fun m hm => by
      obtain ⟨i, hi, rfl⟩ := List.getElem_of_mem ((hw m).mpr hm)
      by_cases e : i = W.length - 1
      · subst e
        rw [List.getD_eq_getElem?_getD, List.getElem?_eq_getElem hi]
        exact Int.le_refl _
      · have := hlt (i := i) (j := W.length - 1) (by omega) (by omega)
        rw [List.getD_eq_getElem?_getD (i := i), List.getElem?_eq_getElem hi] at this
        exact Int.le_of_lt this⟩
    refine ⟨_, rfl, lw, _, rfl, .inl (SqL.of e3), _, _, rfl, rfl, ?_⟩
    rw [List.length_map]
    refine ⟨fun m σ H' => ∃ (lo hi : Nat) (u8 : Option V), σ = [some (.ref p), none, none, none, none, some (.ref lw), some (.int (lo : Nat)), some (.int (hi : Nat)), u8] ∧ m = hi - lo ∧ lo ≤ hi ∧ hi < W.length ∧ FeasE gs ws (W.getD hi 0) ∧ (∀ k, k < lo → ¬ FeasE gs ws (W.getD k 0)) ∧ Same H3 H', ⟨_, 0, W.length - 1, none, ?_, rfl, Nat.zero_le _, by omega, top, fun k hk => absurd hk (Nat.not_lt_zero _), Same.refl _⟩, ?_⟩
    · have e : ((W.length : Nat) : Int) - 1 = ((W.length - 1 : Nat) : Int) := by omega
      show [some (V.ref p), none, none, none, none, some (V.ref lw), some (V.int 0), some (V.int (((W.length : Nat) : Int) - 1)), none] = _
      rw [e]
      rfl
    rintro m σ H4 ⟨lo, hi, u8, rfl, rfl, hlh, hhi, hf, hno, s4⟩
    refine ⟨_, rfl, _, rfl, _, _, rfl, rfl, _, rfl, ite2 (fun e => ?_) (fun e => ?_)⟩
    · have hlt2 : lo < hi := by
        have := of_decide_eq_true e
        omega
      refine ⟨fun σ H' => ∃ (lo' hi' : Nat) (u8 : Option V), σ = [some (.ref p), none, none, none, none, some (.ref lw), some (.int (lo' : Nat)), some (.int (hi' : Nat)), u8] ∧ hi' - lo' < hi - lo ∧ lo' ≤ hi' ∧ hi' < W.length ∧ FeasE gs ws (W.getD hi' 0) ∧ (∀ k, k < lo' → ¬ FeasE gs ws (W.getD k 0)) ∧ Same H3 H', fun σ' H' ⟨lo', hi', u8, e1, h1, h2⟩ => ⟨hi' - lo', h1, lo', hi', u8, e1, rfl, h2⟩, ?_⟩
      refine ⟨_, rfl, _, rfl, _, _, rfl, rfl, _, _, rfl, rfl, ⟨by decide, by decide⟩, ?_⟩
      have hmid : ((lo : Nat) : Int) + ((hi : Nat) : Int) = ((lo + hi : Nat) : Int) := by omega
      have hmid2 : (((lo : Nat) : Int) + ((hi : Nat) : Int)) / 2 = (((lo + hi) / 2 : Nat) : Int) := by rw [hmid]; rfl
      refine gn_norm (σ' := [some (.ref p), none, none, none, none, some (.ref lw), some (.int (lo : Nat)), some (.int (hi : Nat)), some (.int ((((lo : Nat) : Int) + ((hi : Nat) : Int)) / 2))]) rfl ?_
      rw [hmid2]
      generalize hm2 : (lo + hi) / 2 = mi
      have h1 : lo ≤ mi := by omega
      have h2 : mi < hi := by omega
      have e4 := s4 _ _ e3
      refine ⟨_, rfl, _, rfl, _, rfl, lw, _, mi, _, rfl, rfl, SqL.of e4, atI_nat (hat (by omega)), ?_⟩
      refine ⟨p, ng, nw, gs, ws, _, rfl, NA.same (s3.trans s4), N, ((hw _).mp (hin (by omega))).nn N, fun t H5 s5 ht fb => ?_⟩
      obtain ⟨w', l', et, hw', hiff⟩ := fb.lags N
      refine ⟨t, _, 0, _, rfl, rfl, .inl (.inl et), atI_nat (j := 0) rfl, rfl, _, rfl, ?_⟩
      by_cases hL : w' = "lags"
      · rw [hL, decide_eq_true rfl]
        refine iteT ⟨_, rfl, lo, mi, _, rfl, by omega, h1, by omega, hiff.mp hL, hno, s4.trans s5⟩
      · rw [decide_eq_false (fun z => hL (V.str.inj z))]
        refine iteF ⟨_, rfl, _, _, rfl, rfl, mi + 1, hi, some (.int (mi : Nat)), rfl, by omega, by omega, hhi, hf, fun k hk hfk => ?_, s4.trans s5⟩
        by_cases hkm : k = mi
        · rw [hkm] at hfk
          exact hL (hiff.mpr hfk)
        · obtain ⟨L, hL'⟩ := hfk
          have hno2 : ¬ FeasE gs ws (W.getD mi 0) := fun z => hL (hiff.mpr z)
          exact hno2 ⟨L, hL'.mono (Int.le_of_lt (hlt (by omega) (by omega)))⟩
    · have hle2 : lo = hi := by
        have : ¬ (((lo : Nat) : Int) < ((hi : Nat) : Int)) := fun z => e (decide_eq_true z)
        omega
      subst hle2
      have e4 := s4 _ _ e3
      have hB := ((hw _).mp (hin hhi)).nn N
      refine ⟨_, rfl, _, rfl, lw, _, lo, _, rfl, rfl, SqL.of e4, atI_nat (hat hhi), ?_⟩
      refine ⟨_, rfl, _, rfl, _, rfl, lw, _, lo, _, rfl, rfl, SqL.of e4, atI_nat (hat hhi), ?_⟩
      refine ⟨p, ng, nw, gs, ws, _, rfl, NA.same (s3.trans s4), N, hB, fun t H5 s5 ht fb => ?_⟩
      have s35 := (s3.trans s4).trans s5
      rcases fb with ⟨l, L, et, hl, el, hF, hb⟩ | ⟨l, pcs, _, _, _, hbar, _⟩
      · refine ⟨t, _, 1, _, rfl, rfl, .inl (.inl et), atI_nat (j := 1) rfl, (by show 2 ≤ sizeLine; decide), fun tt htt => ?_⟩
        have t6 := same_new (o := .tup [.int (W.getD lo 0), .ref l]) htt
        refine q tt l (W.getD lo 0) L _ (s35.trans t6) upd_same ((s3.trans s4).free hl) (t6 _ _ el) ⟨hf, fun b hb hfe => ?_⟩ hF hb hB
        obtain ⟨L', hL'⟩ := hfe
        obtain ⟨m, hmb, hmw, hmf⟩ := hL'.tight N
        obtain ⟨k, hk, ek⟩ := List.getElem_of_mem ((hw m).mpr hmw)
        have ek' : W.getD k 0 = m := by rw [List.getD_eq_getElem?_getD, List.getElem?_eq_getElem hk, ek]; rfl
        have hklo : k < lo := by
          rcases Nat.lt_or_ge k lo with h | h
          · exact h
          · exfalso
            by_cases e2 : k = lo
            · rw [e2] at ek'
              omega
            · have := hlt (i := lo) (j := k) hk (by omega)
              omega
        exact hno k hklo ⟨L', by rw [ek']; exact hmf⟩
      · obtain ⟨L, hL⟩ := hf
        exact absurd hL (hbar.none N)
end
end Lag

set_option maxRecDepth 100000
set_option maxHeartbeats 8000000
namespace Lag
open PySem PySem.Spec PyProof.Rows L2
def RowV (H : Hp) (v : V) (r : List Nat) : Prop := ∃ a, v = .ref a ∧ H a = some (.lst (natV r))
theorem RowV.same {H H' : Hp} {v : V} {r : List Nat} (h : RowV H v r) (s : Same H H') : RowV H' v r := by
  obtain ⟨a, e, h⟩ := h
  exact ⟨a, e, s _ _ h⟩
theorem ToldV.row {H : Hp} {lt : Addr} {Av : Addr → Prop} {v : V} {r : List Nat} (h : ToldV H lt Av v r) : RowV H v r := by
  obtain ⟨a, e, _, _, h⟩ := h
  exact ⟨a, e, h⟩
def longJ (ws : List Wr) (r : List Nat) (m : Nat) : List (List Nat) := ((List.range m).filter fun p => decide (stA ws p = endL ws r ∧ endL ws r ∉ r.map (stA ws))).map fun p => r ++ [p]
theorem longJ_yes {ws : List Wr} {r : List Nat} {m : Nat} (h : stA ws m = endL ws r ∧ endL ws r ∉ r.map (stA ws)) : longJ ws r (m + 1) = longJ ws r m ++ [r ++ [m]] := by
  unfold longJ
  rw [List.range_succ, List.filter_append, List.map_append, List.filter_cons, if_pos (decide_eq_true h), List.filter_nil]
  rfl
theorem longJ_no {ws : List Wr} {r : List Nat} {m : Nat} (h : ¬ (stA ws m = endL ws r ∧ endL ws r ∉ r.map (stA ws))) : longJ ws r (m + 1) = longJ ws r m := by
  unfold longJ
  rw [List.range_succ, List.filter_append, List.map_append, List.filter_cons, if_neg (by rw [decide_eq_false h]; exact Bool.false_ne_true), List.filter_nil, List.map_nil, List.append_nil]
theorem longJ_len {ws : List Wr} {r : List Nat} {m : Nat} : ∀ d, (longJ ws r m).length ≤ (longJ ws r (m + d)).length
  | 0 => Nat.le_refl _
  | d + 1 => by
    refine Nat.le_trans (longJ_len d) ?_
    rw [← Nat.add_assoc]
    by_cases z : stA ws (m + d) = endL ws r ∧ endL ws r ∉ r.map (stA ws)
    · rw [longJ_yes z, List.length_append]
      omega
    · rw [longJ_no z]
      exact Nat.le_refl _
theorem flat_take {α β : Type} {f : α → List β} {l : List α} (k : Nat) : ((l.take k).flatMap f).length ≤ (l.flatMap f).length := by
  have e : (l.flatMap f).length = ((l.take k ++ l.drop k).flatMap f).length := by rw [List.take_append_drop]
  rw [e, List.flatMap_append, List.length_append]
  omega
theorem flat_snoc {α β : Type} {f : α → List β} {l : List α} {k : Nat} {a : α} (h : l[k]? = some a) : (l.take (k + 1)).flatMap f = (l.take k).flatMap f ++ f a := by
  rw [List.take_add_one, h, List.flatMap_append]
  show _ ++ List.flatMap f [a] = _
  rw [List.flatMap_cons, List.flatMap_nil, List.append_nil]
theorem intsN_V (r : List Nat) : (intsN r).map V.int = natV r := by
  unfold natV intsN
  rw [List.map_map]
  rfl
theorem all2_map {α β γ : Type} {f : α → γ} {g : β → γ} {R : α → β → Prop} (h : ∀ x y, R x y → f x = g y) : ∀ {xs : List α} {ys : List β}, All2 R xs ys → xs.map f = ys.map g
  | [], [], _ => rfl
  | [], _ :: _, a => by have := a.1; simp at this
  | _ :: _, [], a => by have := a.1; simp at this
  | x :: xs, y :: ys, a => by rw [List.map_cons, List.map_cons, h _ _ a.head, all2_map h a.tail]
theorem found_succ (ws : List Wr) (k : Nat) : foundL ws (k + 1) = foundL ws k ++ (rowsL ws k).filter (ringB ws) := by
  unfold foundL
  rw [List.range_succ, List.flatMap_append, List.flatMap_cons, List.flatMap_nil, List.append_nil]
  rfl
theorem filt_snoc {α : Type} {p : α → Bool} {l : List α} {k : Nat} {a : α} (h : l[k]? = some a) : (l.take (k + 1)).filter p = (l.take k).filter p ++ (if p a = true then [a] else []) := by
  rw [List.take_add_one, h, List.filter_append]
  show _ ++ List.filter p [a] = _
  rw [List.filter_cons, List.filter_nil]
theorem filt_take {α : Type} {p : α → Bool} {l : List α} (k : Nat) : ((l.take k).filter p).length ≤ (l.filter p).length := by
  have e : (l.filter p).length = ((l.take k ++ l.drop k).filter p).length := by rw [List.take_append_drop]
  rw [e, List.filter_append, List.length_append]
  omega
theorem Dr.ofSame {wl : Addr} {H H' : Hp} (W : WellAt wl H) (s : Same H H') : Dr wl H H' := ⟨But.same s, W.same s⟩
/-! ### few rings -/
structure RFew (ws : List Wr) : Prop where
  M : ∀ r, Rw ws r → r.length ≤ 6
  rows : ∀ k, (rowsL ws k).length ≤ 1000000
  found : ∀ k, (foundL ws k).length ≤ 8000000
  walks : (walks ws (frB ws)).length ≤ 10000000
theorem rfew_of {ws : List Wr} {d : Nat} (hM : ∀ r, Rw ws r → r.length ≤ 6) (hd : ∀ g, (inTo ws g).length ≤ d) (d1 : 1 ≤ d) (h : ws.length * d ^ 5 ≤ 1000000) : RFew ws := by
  have hr : ∀ k, (rowsL ws k).length ≤ 1000000 ∧ (6 ≤ k → rowsL ws k = []) := fun k => by
    rcases Nat.lt_or_ge k 6 with z | z
    · refine ⟨Nat.le_trans (rows_le hd k) (Nat.le_trans (Nat.mul_le_mul_left _ (Nat.pow_le_pow_right d1 (by omega))) h), fun y => absurd y (by omega)⟩
    · have e : rowsL ws k = [] := List.eq_nil_iff_forall_not_mem.mpr fun r hr => by
        obtain ⟨hl, h1⟩ := mem_rows.mp hr
        have := hM r h1
        omega
      exact ⟨by rw [e]; exact Nat.zero_le _, fun _ => e⟩
  have hf : ∀ k, (foundL ws k).length ≤ 1000000 * min k 6 := fun k => by
    induction k with
    | zero => exact Nat.zero_le _
    | succ k ih =>
      rw [found_succ, List.length_append]
      have h1 := List.length_filter_le (ringB ws) (rowsL ws k)
      obtain ⟨h2, h3⟩ := hr k
      rcases Nat.lt_or_ge k 6 with z | z
      · have e1 : min k 6 = k := Nat.min_eq_left (by omega)
        have e2 : min (k + 1) 6 = k + 1 := Nat.min_eq_left (by omega)
        rw [e1] at ih
        rw [e2]
        omega
      · rw [h3 z] at h1
        have e1 : min k 6 = 6 := Nat.min_eq_right z
        have e2 : min (k + 1) 6 = 6 := Nat.min_eq_right (by omega)
        have h1 : ((rowsL ws k).filter (ringB ws)).length ≤ 0 := by rw [h3 z]; exact Nat.le_refl _
        rw [e1] at ih
        rw [e2]
        omega
  have hf8 : ∀ k, (foundL ws k).length ≤ 8000000 := fun k => by
    have := hf k
    have e := Nat.min_le_right k 6
    omega
  refine ⟨hM, fun k => (hr k).1, hf8, ?_⟩
  rw [walks_len (frB_ok ws)]
  have := hf8 (ws.length + 1)
  omega
theorem range_getD (ws : List Wr) : (List.range ws.length).map (fun p => ws.getD p (0, 0, [])) = ws := by
  refine List.ext_getElem? fun i => ?_
  rw [List.getElem?_map]
  by_cases h : i < ws.length
  · rw [List.getElem?_range h, List.getElem?_eq_getElem h]
    show some (ws.getD i (0, 0, [])) = _
    rw [List.getD_eq_getElem?_getD, List.getElem?_eq_getElem h]
    rfl
  · rw [List.getElem?_eq_none (by rw [List.length_range]; omega), List.getElem?_eq_none (by omega)]
    rfl
theorem inTo_cnt (ws : List Wr) (g : Nat) : (inTo ws g).length = cnt ws g := by
  have e : cnt ws g = cnt ((List.range ws.length).map (fun p => ws.getD p (0, 0, []))) g := by rw [range_getD]
  rw [e]
  unfold inTo cnt
  rw [List.countP_map, List.countP_eq_length_filter]
  rfl
theorem Rw.few {ws : List Wr} {n : Nat} (hs : ∀ p, p < ws.length → stA ws p < n) {r : List Nat} (h : Rw ws r) : r.length ≤ n := by
  have := List.Nodup.length_le_of_subset h.nd (l₂ := List.range n) fun g hg => by
    obtain ⟨p, hp, rfl⟩ := List.mem_map.mp hg
    exact List.mem_range.mpr (hs p (h.lt p hp))
  rwa [List.length_map, List.length_range] at this
theorem kindsAt (gs : List Gt) : (List.range gs.length).map (fun i => gs.getD i ("", 0)) = gs := by
  refine List.ext_getElem? fun i => ?_
  rw [List.getElem?_map]
  by_cases h : i < gs.length
  · rw [List.getElem?_range h, List.getElem?_eq_getElem h]
    show some (gs.getD i ("", 0)) = _
    rw [List.getD_eq_getElem?_getD, List.getElem?_eq_getElem h]
    rfl
  · rw [List.getElem?_eq_none (by rw [List.length_range]; omega), List.getElem?_eq_none (by omega)]
    rfl
theorem inn_count (gs : List Gt) : ((List.range gs.length).filter fun i => innP (kindAt gs i)).length = nInn gs := by
  have e : nInn gs = nInn ((List.range gs.length).map (fun i => gs.getD i ("", 0))) := by rw [kindsAt]
  rw [e]
  unfold nInn
  rw [List.countP_map, List.countP_eq_length_filter]
  rfl
theorem Rw.inn {gs : List Gt} {ws : List Wr} (N : NetOk gs ws) {r : List Nat} (h : Rw ws r) : ∀ s ∈ (r.map (stA ws)).tail, s < gs.length ∧ innP (kindAt gs s) = true := by
  induction h with
  | one hp => intro s hs; cases hs
  | @snoc r p h1 hp e ne ih =>
    intro s hs
    rw [List.map_append] at hs
    cases r with
    | nil => exact absurd rfl h1.ne
    | cons k0 r0 =>
      have hs : s ∈ (r0.map (stA ws)) ++ [stA ws p] := hs
      rcases List.mem_append.mp hs with z | z
      · exact ih s z
      · have z : s = stA ws p := List.mem_singleton.mp z
        obtain ⟨r1, kl, hrk⟩ : ∃ r1 kl, k0 :: r0 = r1 ++ [kl] := ⟨_, _, (List.dropLast_concat_getLast (List.cons_ne_nil _ _)).symm⟩
        have hkl := h1.lt kl (by rw [hrk]; simp)
        have W1 := N.wok _ (getD_mem hp)
        have W2 := N.wok _ (getD_mem hkl)
        have e2 : stA ws p = enA ws kl := by rw [e, hrk, endL_snoc]
        rw [z]
        refine ⟨W1.s, ?_⟩
        have k1 : kindAt gs (stA ws p) ≠ "out" := W1.ks
        have k2 : kindAt gs (stA ws p) ≠ "in" := by rw [e2]; exact W2.ke
        unfold innP
        rw [Bool.and_eq_true]
        exact ⟨bne_iff_ne.mpr k2, bne_iff_ne.mpr k1⟩
theorem Rw.parts {gs : List Gt} {ws : List Wr} (N : NetOk gs ws) {r : List Nat} (h : Rw ws r) : r.length ≤ nInn gs + 1 := by
  have h1 := h.inn N
  have nd := h.nd
  have h2 : (r.map (stA ws)).tail.Nodup := nd.sublist (List.tail_sublist _)
  have h3 := List.Nodup.length_le_of_subset h2 (l₂ := (List.range gs.length).filter fun i => innP (kindAt gs i)) fun s hs => List.mem_filter.mpr ⟨List.mem_range.mpr (h1 s hs).1, (h1 s hs).2⟩
  rw [inn_count, List.length_tail, List.length_map] at h3
  omega
def rowsD (R : List (List Nat)) : PyData := .list (R.map intsD)
theorem rowsD_eq (a b : List (List Nat)) : PyData.eqv (rowsD a) (rowsD b) = decide (a = b) := eqvAll_map intsD_eq a b
theorem sh_rows (R : List (List Nat)) : Sh 2 (rowsD R) := by
  refine sh_list fun d hd => ?_
  obtain ⟨i, _, rfl⟩ := List.mem_map.mp hd
  exact sh_ints i
theorem dp_rowsN {K : PySem.W.Frag} {H : Hp} {l : Addr} {tv : List V} {R : List (List Nat)} (h : H l = some (.lst tv)) (a : All2 (RowV H) tv R) : Dp K H (.ref l) (rowsD R) :=
  .lst (SqL.of h) (dp_all (fun v r h => by obtain ⟨b, rfl, s⟩ := h; exact dp_ints (SqL.of s)) a)
end Lag

set_option maxRecDepth 100000
set_option maxHeartbeats 8000000
namespace Lag
open PySem PySem.Spec PyProof.Rows L2
theorem Wk.bd {gs : List Gt} {ws : List Wr} {s : Nat} (N : NetOk gs ws) {vs : List Nat} {g : Nat} {c : Cst} (h : Wk gs ws s vs g c) : -c.2 ≤ 100 * (vs.length : Int) := by
  have w : ∀ g, gw gs g ≤ 100 := fun g => by
    unfold gw
    rw [List.getD_eq_getElem?_getD]
    cases e : gs[g]? with
    | none => show (0 : Int) ≤ 100; decide
    | some x => exact (N.gok x (List.mem_of_getElem? e)).2.2.1
  induction h with
  | nil =>
    have := w s
    show - -gw gs s ≤ 100 * 1
    omega
  | @cons vs v c x _ _ _ ih =>
    have := w x.2.1
    rw [List.length_cons]
    show -(c.2 - gw gs x.2.1) ≤ _
    omega
theorem best_bd {gs : List Gt} {ws : List Wr} {s g : Nat} {c : Cst} (N : NetOk gs ws) (hs : s < gs.length) (h : best gs ws s g = some c) : -c.2 ≤ 10000 := by
  obtain ⟨ρ, hρ⟩ := N.rank
  obtain ⟨vs, hv⟩ := Snd.rnds (gs := gs) (ws := ws) (s := s) gs.length g c h
  obtain ⟨vs', c', h1, h2, h3⟩ := hv.simple hρ
  have hl := svNodup_le h2 (h1.lows N hs)
  obtain ⟨o, ho, h4⟩ := h1.comp gs.length (by omega)
  have e : o = c := by
    have : best gs ws s g = some o := ho
    rw [h] at this
    exact (Option.some.inj this).symm
  subst e
  have e := leC.anti h4 h3
  subst e
  have := h1.bd N
  have := N.gl
  omega
theorem IsLeast.bd {gs : List Gt} {ws : List Wr} {B : Int} (N : NetOk gs ws) (h : IsLeast gs ws B) : B ≤ 10000 := by
  obtain ⟨L, hL⟩ := h.ex
  obtain ⟨m, hm, ⟨s, e, c, hs, hc, rfl⟩, hf⟩ := hL.tight N
  have := h.le ⟨L, hf⟩
  have := best_bd N hs hc
  omega
/-- the same ends, so many times the registers -/
def TimesW (k : Nat) (x y : Wr) : Prop := y.1 = x.1 ∧ y.2.1 = x.2.1 ∧ y.2.2.length = k * x.2.2.length
theorem Feas.scale {gs : List Gt} {ws us : List Wr} {k : Nat} {b : Int} {L : Nat → Int} (hk : 0 < k) (al : All2 (TimesW k) ws us) (h : Feas gs ws b L) : Feas gs us b (fun g => (k : Int) * L g) := by
  have pw : ∀ {ps : List Nat} {s e : Nat}, Pw us s ps e → Pw ws s ps e ∧ pws gs us ps = pws gs ws ps := by
    intro ps
    induction ps with
    | nil => intro s e h; exact ⟨h, rfl⟩
    | cons p r ih =>
      intro s e ⟨y, h1, h2, h3⟩
      obtain ⟨x, hx, e1, e2, e3⟩ := al.getR h1
      obtain ⟨k1, k2⟩ := ih h3
      refine ⟨⟨x, hx, by rw [← e1]; exact h2, by rw [← e2]; exact k1⟩, ?_⟩
      rw [pws_cons h1, pws_cons hx, k2, e2]
  refine ⟨fun g hg hp => ?_, fun y hy => ?_, fun s ps e hs hp hz => ?_⟩
  · show (k : Int) * L g = 0
    rw [h.out g hg hp, Int.mul_zero]
  · obtain ⟨i, hi⟩ := List.getElem?_of_mem hy
    obtain ⟨x, hx, e1, e2, e3⟩ := al.getR hi
    have h0 := h.lt x (List.mem_of_getElem? hx)
    rw [e1, e2, e3]
    have e : (((k * x.2.2.length : Nat) : Int) + (k : Int) * L x.2.1 - (k : Int) * L x.1) = (k : Int) * (((x.2.2.length : Nat) : Int) + L x.2.1 - L x.1) := by
      rw [Int.mul_sub, Int.mul_add]
      push_cast
      rfl
    show 0 ≤ ((k * x.2.2.length : Nat) : Int) + (k : Int) * L x.2.1 - (k : Int) * L x.1
    rw [e]
    exact Int.mul_nonneg (by omega) h0
  · obtain ⟨h1, h2⟩ := pw hp
    have h3 := h.wt s ps e hs h1 fun p hp' => by
      have hpl := hp.places p hp'
      have hy := List.getElem?_eq_getElem hpl
      obtain ⟨x, hx, e1, e2, e3⟩ := al.getR hy
      have hz' := hz p hp'
      rw [cntF_get hy] at hz'
      rw [cntF_get hx]
      have hz' : (((us[p]).2.2.length : Nat) : Int) + (k : Int) * L (us[p]).2.1 - (k : Int) * L (us[p]).1 = 0 := hz'
      rw [e1, e2, e3] at hz'
      have e : (k : Int) * (((x.2.2.length : Nat) : Int) + L x.2.1 - L x.1) = 0 := by
        rw [Int.mul_sub, Int.mul_add]
        rw [← hz']
        push_cast
        rfl
      rcases Int.mul_eq_zero.mp e with h | h
      · omega
      · exact h
    unfold pwt at *
    rw [h2]
    exact h3
theorem FeasE.scale {gs : List Gt} {ws us : List Wr} {k : Nat} {b : Int} (hk : 0 < k) (al : All2 (TimesW k) ws us) (h : FeasE gs ws b) : FeasE gs us b := by
  obtain ⟨L, hL⟩ := h
  exact ⟨_, hL.scale hk al⟩
/-- the wait of a ring, by its registers -/
theorem Feas.ring {gs : List Gt} {ws : List Wr} {b : Int} {L : Nat → Int} (N : NetOk gs ws) (h : Feas gs ws b L) {r : List Nat} {g : Nat} (hr : Pw ws g r g) (hg : g < gs.length) : pws gs ws r ≤ b * prg ws r := by
  have ex : ∀ g, ∃ m : Int, g < gs.length → (∃ s ps, s < gs.length ∧ Pw ws s ps g ∧ (∀ p ∈ ps, cntF ws L p = 0) ∧ m = pwt gs ws s ps) ∧ ∀ s ps, s < gs.length → Pw ws s ps g → (∀ p ∈ ps, cntF ws L p = 0) → pwt gs ws s ps ≤ m := fun g => by
    by_cases hg : g < gs.length
    · obtain ⟨m, h1, h2⟩ := max_ex (P := fun v => ∃ s ps, s < gs.length ∧ Pw ws s ps g ∧ (∀ p ∈ ps, cntF ws L p = 0) ∧ v = pwt gs ws s ps) (b := b) (fun v ⟨s, ps, hs, hp, hz, e⟩ => by rw [e]; exact h.wt s ps g hs hp hz) _ (pwt gs ws g []) ⟨g, [], hg, rfl, (fun p hp => nomatch hp), rfl⟩ (Nat.le_refl _)
      exact ⟨m, fun _ => ⟨h1, fun s ps hs hp hz => h2 _ ⟨s, ps, hs, hp, hz, rfl⟩⟩⟩
    · exact ⟨0, fun z => absurd z hg⟩
  obtain ⟨A, hA⟩ := Classical.axiomOfChoice ex
  have ge : ∀ g, g < gs.length → gw gs g ≤ A g := fun g hg => by
    have := (hA g hg).2 g [] hg rfl (fun p hp => nomatch hp)
    unfold pwt at this
    rw [pws_nil] at this
    omega
  have le : ∀ g, g < gs.length → A g ≤ b := fun g hg => by
    obtain ⟨s, ps, hs, hp, hz, e⟩ := (hA g hg).1
    rw [e]
    exact h.wt s ps g hs hp hz
  have hb : 0 ≤ b := by
    have := gw_nn N g
    have := ge g hg
    have := le g hg
    omega
  have one : ∀ x ∈ ws, gw gs x.2.1 ≤ A x.2.1 - A x.1 + b * (((x.2.2.length : Nat) : Int) + L x.2.1 - L x.1) := fun x hx => by
    have W := N.wok x hx
    obtain ⟨p, hp⟩ := List.getElem?_of_mem hx
    have h0 := h.lt x hx
    rcases Int.lt_or_le 0 (((x.2.2.length : Nat) : Int) + L x.2.1 - L x.1) with h1 | h1
    · have h2 := ge _ W.e
      have h3 := le _ W.s
      have h4 := Int.mul_le_mul_of_nonneg_left (show (1 : Int) ≤ ((x.2.2.length : Nat) : Int) + L x.2.1 - L x.1 by omega) hb
      omega
    · have e : ((x.2.2.length : Nat) : Int) + L x.2.1 - L x.1 = 0 := by omega
      rw [e, Int.mul_zero]
      obtain ⟨s, ps, hs, hpw, hz, eA⟩ := (hA _ W.s).1
      have h2 := (hA _ W.e).2 s (ps ++ [p]) hs (hpw.snoc hp rfl) fun q hq => by
        rcases List.mem_append.mp hq with hq | hq
        · exact hz q hq
        · rw [List.mem_singleton.mp hq, cntF_get hp]
          exact e
      unfold pwt at h2 eA
      rw [pws_snoc hp] at h2
      omega
  have all : ∀ {r : List Nat} {s e : Nat}, Pw ws s r e → pws gs ws r ≤ A e - A s + b * (prg ws r + L e - L s) := by
    intro r
    induction r with
    | nil =>
      intro s e h
      have h : s = e := h
      rw [h, pws_nil, prg_nil]
      have : b * (0 + L e - L e) = 0 := by
        have : 0 + L e - L e = 0 := by omega
        rw [this, Int.mul_zero]
      omega
    | cons p r ih =>
      intro s e ⟨x, h1, h2, h3⟩
      have h4 := ih h3
      have h5 := one x (List.mem_of_getElem? h1)
      rw [pws_cons h1, prg_cons h1, ← h2]
      have e1 : b * (((x.2.2.length : Nat) : Int) + prg ws r + L e - L x.1) = b * (((x.2.2.length : Nat) : Int) + L x.2.1 - L x.1) + b * (prg ws r + L e - L x.2.1) := by
        rw [← Int.mul_add]
        congr 1
        omega
      omega
  have h1 := all hr
  have e : prg ws r + L g - L g = prg ws r := by omega
  rw [e] at h1
  omega
/-- the gates at which the wires of a way start -/
def pst (gs : List Gt) (ws : List Wr) (ps : List Nat) : Int := (ps.map fun p => gw gs (svW ws p).1).sum
theorem pst_closed {gs : List Gt} {ws : List Wr} : ∀ {r : List Nat} {s e : Nat}, Pw ws s r e → pst gs ws r + gw gs e = gw gs s + pws gs ws r
  | [], s, e, h => by
    have h : s = e := h
    rw [h]
    show (0 : Int) + _ = _ + (0 : Int)
    omega
  | p :: r, s, e, ⟨x, h1, h2, h3⟩ => by
    have h4 := pst_closed (gs := gs) h3
    rw [pws_cons h1]
    unfold pst at *
    rw [List.map_cons, List.sum_cons, svW_get h1, h2]
    omega
theorem times_rep {gs : List Gt} {ws : List Wr} {k : Nat} (hk : 0 < k) : All2 (TimesW k) ws ((repF k ws).map wovF) := by
  refine ⟨by unfold repF; rw [List.length_map, List.length_map], fun i x y hx hy => ?_⟩
  unfold repF at hy
  rw [List.map_map, List.getElem?_map, hx] at hy
  cases hy
  refine ⟨rfl, rfl, ?_⟩
  show (ilv ((List.replicate k x.2.2).headD []).length (List.replicate k x.2.2)).length = _
  rw [ilv_len, List.length_replicate]
  obtain ⟨j, rfl⟩ : ∃ j, k = j + 1 := ⟨k - 1, by omega⟩
  show x.2.2.length * (j + 1) = _
  rw [Nat.mul_comm]
theorem Rw.pw {ws : List Wr} {r : List Nat} (h : Rw ws r) : Pw ws (begL ws r) r (endL ws r) := by
  induction h with
  | @one p hp => 
    have hx := List.getElem?_eq_getElem hp
    refine ⟨_, hx, ?_, ?_⟩
    · exact (wst_at hx).symm
    · exact (wen_at hx).symm
  | @snoc r p h1 hp e _ ih =>
    have hx := List.getElem?_eq_getElem hp
    rw [endL_snoc, begL_app _ h1.ne]
    have := ih.snoc hx (by rw [← e]; exact (wst_at hx).symm)
    have e2 : enA ws p = ws[p].2.1 := wen_at hx
    rw [e2]
    exact this
theorem ring_bound {gs : List Gt} {ws : List Wr} {b : Int} (N : NetOk gs ws) (F : FeasE gs ws b) {r : List Nat} (h : RingR ws r) : (loadW gs ws r).sum ≤ b * (loadR ws r).sum := by
  obtain ⟨L, hL⟩ := F
  have hp := h.rw.pw
  rw [h.cl] at hp
  have hg : begL ws r < gs.length := by
    cases r with
    | nil => exact absurd rfl h.rw.ne
    | cons a t => exact (N.wok _ (getD_mem (h.rw.lt a List.mem_cons_self))).s
  have e := pst_closed (gs := gs) hp
  have := hL.ring N hp hg
  show pst gs ws r ≤ b * prg ws r
  omega
/-! ### the same ends -/
section
variable {ws us : List Wr} {k : Nat}
theorem times_at (h : All2 (TimesW k) ws us) (p : Nat) : (us.getD p (0, 0, [])).1 = (ws.getD p (0, 0, [])).1 ∧ (us.getD p (0, 0, [])).2.1 = (ws.getD p (0, 0, [])).2.1 ∧ (us.getD p (0, 0, [])).2.2.length = k * (ws.getD p (0, 0, [])).2.2.length := by
  rw [List.getD_eq_getElem?_getD, List.getD_eq_getElem?_getD]
  cases e : ws[p]? with
  | none =>
    have : us[p]? = none := by
      rw [List.getElem?_eq_none_iff] at e ⊢
      rw [← h.1]
      exact e
    rw [this]
    exact ⟨rfl, rfl, (Nat.mul_zero k).symm⟩
  | some x =>
    obtain ⟨y, hy, e1, e2, e3⟩ := h.get e
    rw [hy]
    exact ⟨e1, e2, e3⟩
theorem same_rw (e0 : us.length = ws.length) (e1 : stA us = stA ws) (e2 : enA us = enA ws) {r : List Nat} (h : Rw ws r) : Rw us r := by
  induction h with
  | one hp => exact .one (by rw [e0]; exact hp)
  | snoc _ hp e ne ih =>
    refine .snoc ih (by rw [e0]; exact hp) ?_ ?_
    · rw [e1]
      show _ = enA us _
      rw [e2]
      exact e
    · show enA us _ ∉ _
      rw [e1, e2]
      exact ne
theorem times_ring (h : All2 (TimesW k) ws us) {r : List Nat} : RingR us r ↔ RingR ws r := by
  have e0 : us.length = ws.length := h.1.symm
  have e1 : stA us = stA ws := funext fun p => (times_at h p).1
  have e2 : enA us = enA ws := funext fun p => (times_at h p).2.1
  constructor
  · rintro ⟨h1, h2, h3⟩
    refine ⟨same_rw e0.symm e1.symm e2.symm h1, ?_, h3⟩
    show enA ws _ = stA ws _
    rw [← e1, ← e2]
    exact h2
  · rintro ⟨h1, h2, h3⟩
    refine ⟨same_rw e0 e1 e2 h1, ?_, h3⟩
    show enA us _ = stA us _
    rw [e1, e2]
    exact h2
theorem times_walks (h : All2 (TimesW k) ws us) : walks us (frB us) = walks ws (frB ws) :=
  lt_uniq walks_lt walks_lt fun a => ((mem_walks (frB_ok us)).trans (times_ring h)).trans (mem_walks (frB_ok ws)).symm
theorem times_M (h : All2 (TimesW k) ws us) {M : Nat} (hM : ∀ r, Rw ws r → r.length ≤ M) : ∀ r, Rw us r → r.length ≤ M := fun r hr =>
  hM r (same_rw h.1 (funext fun p => (times_at h p).1.symm) (funext fun p => (times_at h p).2.1.symm) hr)
theorem times_W (h : All2 (TimesW k) ws us) (gs : List Gt) (r : List Nat) : (loadW gs us r).sum = (loadW gs ws r).sum := by
  have : loadW gs us r = loadW gs ws r := List.map_congr_left fun p _ => by
    show waitAt gs (us.getD p (0, 0, [])).1 = waitAt gs (ws.getD p (0, 0, [])).1
    rw [(times_at h p).1]
  rw [this]
theorem times_R (h : All2 (TimesW k) ws us) : ∀ r : List Nat, (loadR us r).sum = (k : Int) * (loadR ws r).sum
  | [] => (Int.mul_zero _).symm
  | p :: r => by
    show (regsAt us p :: loadR us r).sum = (k : Int) * (regsAt ws p :: loadR ws r).sum
    rw [List.sum_cons, List.sum_cons, times_R h r, Int.mul_add]
    have e : regsAt us p = (k : Int) * regsAt ws p := by
      show (((us.getD p (0, 0, [])).2.2.length : Nat) : Int) = (k : Int) * (((ws.getD p (0, 0, [])).2.2.length : Nat) : Int)
      rw [(times_at h p).2.2]
      push_cast
      rfl
    rw [e]
theorem found_perm (F : FrOk ws (frB ws)) : (foundL ws (ws.length + 1)).Perm (walks ws (frB ws)) := by
  have nd : (walks ws (frB ws)).Nodup := by
    refine List.Pairwise.imp (fun {a b} (h : a < b) => ?_) (walks_lt (ws := ws) (fr := frB ws))
    intro e
    subst e
    exact List.lt_irrefl _ h
  exact (List.perm_ext_iff_of_nodup (found_nd _) nd).mpr fun a => mem_found.trans (mem_walks F).symm
end
/-! ### sorted pairs -/
def pairK (H : Hp) : V → Int × Int
  | .ref a => (match H a with
    | some (.tup [.int i, .int j]) => (i, j)
    | _ => (0, 0))
  | _ => (0, 0)
def PrV (H : Hp) (v : V) (p : Int × Int) : Prop := ∃ t, v = .ref t ∧ H t = some (.tup [.int p.1, .int p.2])
theorem pairK_at {H : Hp} {v : V} {p : Int × Int} (h : PrV H v p) : pairK H v = p := by
  obtain ⟨t, rfl, h⟩ := h
  show (match H t with | some (.tup [.int i, .int j]) => (i, j) | _ => (0, 0)) = _
  rw [h]
theorem PrV.same {H H' : Hp} {v : V} {p : Int × Int} (h : PrV H v p) (s : Same H H') : PrV H' v p := by
  obtain ⟨t, e, h⟩ := h
  exact ⟨t, e, s _ _ h⟩
theorem PrV.lst {H : Hp} {D : Addr} {xs ys : List V} {v : V} {p : Int × Int} (e : H D = some (.lst xs)) (h : PrV H v p) : PrV (upd H D (.lst ys)) v p := by
  obtain ⟨a, e', h⟩ := h
  refine ⟨a, e', ?_⟩
  rw [upd_ne (fun z => by rw [z, e] at h; cases h)]
  exact h
theorem pairs_hx {H : Hp} {xs : List V} {ps : List (Int × Int)} (h : All2 (PrV H) xs ps) : ∀ x ∈ xs, ∃ t, x = V.ref t ∧ H t = some (.tup [.int (pairK H x).1, .int (pairK H x).2]) := fun x hx => by
  obtain ⟨i, hi⟩ := List.getElem?_of_mem hx
  obtain ⟨p, _, hp⟩ := h.get hi
  have e := pairK_at hp
  obtain ⟨t, rfl, ht⟩ := hp
  exact ⟨t, rfl, by rw [e]; exact ht⟩
def leP (a b : Int × Int) : Prop := SrtO.lexB b a = false
theorem leP_anti {a b : Int × Int} (h : leP a b) (h' : leP b a) : a = b := by
  have h1 := SrtO.lexB_no.mp h
  have h2 := SrtO.lexB_no.mp h'
  exact Prod.ext (by omega) (by omega)
/-- what sorted tells, as pairs -/
theorem pairs_sorted {H : Hp} {xs ys : List V} {ps : List (Int × Int)} (h : All2 (PrV H) xs ps) (so : SrtO.Srtd (ltP (pairK H)) ys) (st : SrtO.Stb (ltP (pairK H)) ys xs) : ∃ qs, qs.Perm ps ∧ qs.Pairwise leP ∧ All2 (PrV H) ys qs := by
  obtain ⟨qs, hq, ha⟩ := h.perm st.perm
  refine ⟨qs, hq, ?_, ha⟩
  have em : ys.map (pairK H) = qs.map id := all2_map (fun v p z => pairK_at z) ha
  rw [List.map_id] at em
  rw [← em]
  exact List.Pairwise.map _ (fun a b z => z) so
theorem pairs_uniq {ps qs : List (Int × Int)} (h : ps.Perm qs) (h1 : ps.Pairwise leP) (h2 : qs.Pairwise leP) : ps = qs := by
  induction ps generalizing qs with
  | nil => exact (List.nil_perm.mp h).symm
  | cons a l ih =>
    cases qs with
    | nil => exact absurd (List.perm_nil.mp h) (by simp)
    | cons b m =>
      obtain ⟨a1, a2⟩ := List.pairwise_cons.mp h1
      obtain ⟨b1, b2⟩ := List.pairwise_cons.mp h2
      have e : a = b := by
        have m1 := h.mem_iff.mp (List.mem_cons_self (a := a) (l := l))
        have m2 := h.mem_iff.mpr (List.mem_cons_self (a := b) (l := m))
        rcases List.mem_cons.mp m1 with m1 | m1
        · exact m1
        · rcases List.mem_cons.mp m2 with m2 | m2
          · exact m2.symm
          · exact leP_anti (a1 b m2) (b1 a m1)
      subst e
      rw [ih ((List.perm_cons a).mp h) a2 b2]
def prD2 (p : Int × Int) : PyData := tupD [p.1, p.2]
def prsD (l : List (Int × Int)) : PyData := .list (l.map prD2)
theorem prD2_eq (a b : Int × Int) : PyData.eqv (prD2 a) (prD2 b) = decide (a = b) := by
  refine (tupD_eq _ _).trans ?_
  by_cases z : a = b
  · rw [z, decide_eq_true rfl, decide_eq_true rfl]
  · rw [decide_eq_false z, decide_eq_false fun y => z ?_]
    have h1 := (List.cons.inj y).1
    have h2 := (List.cons.inj (List.cons.inj y).2).1
    exact Prod.ext h1 h2
theorem prsD_eq (a b : List (Int × Int)) : PyData.eqv (prsD a) (prsD b) = decide (a = b) := eqvAll_map prD2_eq a b
theorem sh_pairs (l : List (Int × Int)) : Sh 2 (prsD l) := by
  refine sh_list fun d hd => ?_
  obtain ⟨i, _, rfl⟩ := List.mem_map.mp hd
  exact sh_tup _
theorem dp_pairs {K : PySem.W.Frag} {H : Hp} {l : Addr} {tv : List V} {ps : List (Int × Int)} (h : H l = some (.lst tv)) (a : All2 (PrV H) tv ps) : Dp K H (.ref l) (prsD ps) :=
  .lst (SqL.of h) (dp_all (fun v p h => by obtain ⟨b, rfl, s⟩ := h; exact dp_tup (xs := [p.1, p.2]) (.inl (.inl s))) a)
end Lag

set_option maxRecDepth 100000
set_option maxHeartbeats 8000000
namespace Lag
open PySem PySem.Spec PyProof.Rows L2
abbrev sLRings : Stmt := topS 72 -- @_law_rings
theorem rows_stop {ws : List Wr} {n : Nat} (h : rowsL ws n = []) : ∀ j, rowsL ws (n + j) = []
  | 0 => h
  | j + 1 => by
    show (rowsL ws (n + j)).flatMap (longR ws) = []
    rw [rows_stop h j]
    rfl
theorem found_stop {ws : List Wr} {n : Nat} (h : rowsL ws n = []) : ∀ j, foundL ws (n + j) = foundL ws n
  | 0 => rfl
  | j + 1 => by
    rw [← Nat.add_assoc, found_succ, rows_stop h j, found_stop h j]
    exact List.append_nil _
theorem found_all {ws : List Wr} {n : Nat} (h : rowsL ws n = []) : foundL ws n = foundL ws (ws.length + 1) := by
  have h2 : rowsL ws (ws.length + 1) = [] := List.eq_nil_iff_forall_not_mem.mpr fun r hr => by
    obtain ⟨hl, h1⟩ := mem_rows.mp hr
    have := h1.len
    omega
  rcases Nat.le_total n (ws.length + 1) with z | z
  · have := found_stop h (ws.length + 1 - n)
    rw [show n + (ws.length + 1 - n) = ws.length + 1 by omega] at this
    exact this.symm
  · have := found_stop h2 (n - (ws.length + 1))
    rw [show ws.length + 1 + (n - (ws.length + 1)) = n by omega] at this
    exact this
theorem longR_no {ws : List Wr} {r : List Nat} (h : endL ws r ∈ r.map (stA ws)) : longR ws r = [] := by
  unfold longR
  rw [List.filter_eq_nil_iff.mpr fun p _ => by
    rw [decide_eq_true_eq]
    exact fun z => z.2 h]
  rfl
def spLRings2 (K : PySem.W.Frag) : Sp := fun vs H Q _ => ∃ (lw : Addr) (ws : List Wr), vs = [.ref lw] ∧ LW K H lw ws ∧ ws.length ≤ 100 ∧ RFew ws ∧
  ∀ l tv H', Same H H' → H l = none → H' l = some (.lst tv) → All2 (RowV H') tv (foundL ws (ws.length + 1)) → Q (.ref l) H'
section
variable {P : Program} {w : World} {K : PySem.W.Frag} {mg : Str → Option Value} {base : Heap}
abbrev nLRings : List Str := ["_law_wires_here", "_law_place", "_law_rows", "_law_found", "_law_row", "_law_later", "_law_here", "_law_starts"]
theorem scLRings : FnScope nLRings ["_law_wires_here"] (defScope sLRings) := ⟨rfl, rfl, rfl, by decide +kernel, rfl, by decide +kernel, by decide +kernel⟩
abbrev DLRings2 (P : Program) (w : World) (K : PySem.W.Frag) (mg : Str → Option Value) (base : Heap) := Df P w K mg base 1 "_law_rings" ["_law_wires_here"] (spLRings2 K)
theorem ok_lrings2 {f : Addr} {fd : FuncData} (F : Fun K "_law_rings" "_law_rings" sLRings f fd) (hm : mg "_law_rings" = some (.ref f)) (B : Bt mg) (mn : mg "min" = none) : DLRings2 P w K mg base f fd := by
  refine ⟨?_, hm, F.kp, F.binds fun _ _ _ _ _ _ us hl => match us, hl with | [_], _ => rfl⟩
  refine F.ok scLRings (fun vs H Q E h => ?_) (fun cdv A outer s H vs Q E hr h => ?_)
  · obtain ⟨lw, ws, rfl, _⟩ := h
    rfl
  · obtain ⟨lw, ws, rfl, W, hwl, RF, q⟩ := h
    have hrc := RF.rows
    have hfc := RF.found
    have nd := scLRings.nd
    refine ⟨_, pss_cons (ps_setLc (i := 2) (own := [("_law_place", 1)]) (g := (gName 1)) (tt := tYes) (te := (tLst (tCons (tVar 1) tNil))) rfl nd rfl rfl (sw_true rfl rfl rfl (by decide +kernel)) (pi_range1 (by rfl) B.range (pa_cons (pe_callB call_len_seq (by rfl) B.len PySem.boot_len (pa_cons (pv 0) pa_nil)) pa_nil)) (blkOk_by (N := nLRings) (sc := defScope sLRings) (own := [("_law_place", 1)]) (by decide +kernel)) (fun _ _ _ _ _ => (pg_name (i := 1) nd rfl (.inl rfl))) (fun _ _ _ _ _ => pts_nil) (fun _ _ _ _ _ => (pe_lst (pa_cons (pv 1) pa_nil)))) <|
        pss_cons (ps_set (i := 3) nd rfl (.inl rfl) (pe_lst pa_nil)) <|
        pss_cons (ps_while PassesOwn.never (pt_cmpR (op_neD hr.units) (pv 2) (pe_lst pa_nil) (nomark _)) (pss_cons (ps_set (i := 3) nd rfl (.inl rfl) (pe_op op_cat (pv 3) (pe_lc (own := [("_law_row", 4)]) (g := (gName 4)) (tt := (tAnd (tTest (tOp rEq (tOp (rIxT K) (tOp (rIxL K) (tVar 0) (tOp (rIxL K) (tVar 4) (tUn (rU fun i => .int (-i)) (tC (.int 1))))) (tC (.int 1))) (tOp (rIxT K) (tOp (rIxL K) (tVar 0) (tOp (rIxL K) (tVar 4) (tC (.int 0)))) (tC (.int 0))))) (tTest (tOp rEq (tCB (rMin K) (tCons (tVar 4) tNil)) (tOp (rIxL K) (tVar 4) (tC (.int 0))))))) (te := (tVar 4)) rfl nd (pi_list (pv 2)) (blkOk_by (N := nLRings) (sc := defScope sLRings) (own := [("_law_row", 4)]) (by decide +kernel)) (fun _ _ _ _ _ => (pg_name (i := 4) nd rfl (.inl rfl))) (fun _ _ _ _ _ => pts_one (PW.pt (pw_and (pt_cmpR op_eq (pe_ix ix_tup (pe_ix ix_list (pv 0) (pe_ix ix_list (pv 4) (pe_un un_neg pe_int) (fun _ _ => rfl)) (fun _ _ => rfl)) pe_int (fun _ _ => rfl)) (pe_ix ix_tup (pe_ix ix_list (pv 0) (pe_ix ix_list (pv 4) pe_int (fun _ _ => rfl)) (fun _ _ => rfl)) pe_int (fun _ _ => rfl)) (nomark _)) (pw_and1 (pt_cmpR op_eq (pe_callB (cr_min rfl) (by rfl) mn (by decide +kernel) (pa_cons (pv 4) pa_nil)) (pe_ix ix_list (pv 4) pe_int (fun _ _ => rfl)) (nomark _)))))) (fun _ _ _ _ _ => (pv 4))))) <|
        pss_cons (ps_set (i := 5) nd rfl (.inl rfl) (pe_lst pa_nil)) <|
        pss_cons (ps_for PassesOwn.never rfl (pi_list (pv 2)) (pg_name (i := 4) nd rfl (.inr rfl)) (pss_cons (ps_set (i := 6) nd rfl (.inr rfl) (pe_ix ix_tup (pe_ix ix_list (pv 0) (pe_ix ix_list (pv 4) (pe_un un_neg pe_int) (fun _ _ => rfl)) (fun _ _ => rfl)) pe_int (fun _ _ => rfl))) <|
        pss_cons (ps_setLc (i := 7) (own := [("_law_place", 1)]) (g := (gName 1)) (tt := tYes) (te := (tOp (rIxT K) (tOp (rIxL K) (tVar 0) (tVar 1)) (tC (.int 0)))) rfl nd rfl rfl (sw_true rfl rfl rfl (by decide +kernel)) (pi_list (pv 4)) (blkOk_by (N := nLRings) (sc := defScope sLRings) (own := [("_law_place", 1)]) (by decide +kernel)) (fun _ _ _ _ _ => (pg_name (i := 1) nd rfl (.inl rfl))) (fun _ _ _ _ _ => pts_nil) (fun _ _ _ _ _ => (pe_ix ix_tup (pe_ix ix_list (pv 0) (pv 1) (fun _ _ => rfl)) pe_int (fun _ _ => rfl)))) <|
        pss_one (ps_if (pt_cmpR op_notIn_seq (pv 6) (pv 7) (by rfl)) (pss_one (ps_set (i := 5) nd rfl (.inl rfl) (pe_op op_cat (pv 5) (pe_lc (own := [("_law_place", 1)]) (g := (gName 1)) (tt := (tTest (tOp rEq (tOp (rIxT K) (tOp (rIxL K) (tVar 0) (tVar 1)) (tC (.int 0))) (tVar 6)))) (te := (tOp rCat (tVar 4) (tLst (tCons (tVar 1) tNil)))) rfl nd (pi_range1 (by rfl) B.range (pa_cons (pe_callB call_len_seq (by rfl) B.len PySem.boot_len (pa_cons (pv 0) pa_nil)) pa_nil)) (blkOk_by (N := nLRings) (sc := defScope sLRings) (own := [("_law_place", 1)]) (by decide +kernel)) (fun _ _ _ _ _ => (pg_name (i := 1) nd rfl (.inl rfl))) (fun _ _ _ _ _ => pts_one (pt_cmpR op_eq (pe_ix ix_tup (pe_ix ix_list (pv 0) (pv 1) (fun _ _ => rfl)) pe_int (fun _ _ => rfl)) (pv 6) (nomark _))) (fun _ _ _ _ _ => (pe_op op_cat (pv 4) (pe_lst (pa_cons (pv 1) pa_nil)))))))) pss_nil))) <|
        pss_one (ps_set (i := 2) nd rfl (.inl rfl) (pv 5)))) <|
        pss_one (ps_ret (pv 3)), ?_⟩
    obtain ⟨wv, hwv, wa⟩ := id W
    have hlw : wv.length = ws.length := wa.1
    have she : SeqAt.shaped (.list []) = true := (sh_list (k := 0) fun d hd => by cases hd).ok (by decide)
    refine ⟨_, rfl, lw, wv, rfl, .inl (SqL.of hwv), _, rfl, by rw [hlw]; omega, by rw [hlw]; omega, fun lr hlr => ?_⟩
    rw [hlw, Int.toNat_natCast]
    refine lc_range (lo := 0) (n := ws.length) (fun i Hc => ∃ acc, Hc lr = some (.lst acc) ∧ All2 (ToldV Hc lr fun _ => True) acc ((List.range i).map fun p => [p]) ∧ Same H Hc) ⟨[], upd_same, All2.nil, same_new hlr⟩ ?_ ?_
    · rintro i Hc hi ⟨acc, hc, aa, sm⟩
      have ek : (0 : Int) + (i : Nat) = ((i : Nat) : Int) := Int.zero_add _
      refine ⟨rfl, tyes ?_⟩
      rw [ek]
      refine ⟨_, rfl, (by show 1 ≤ sizeLine; decide), fun l hl => ?_⟩
      have b1 : But lr Hc (upd Hc l (.lst [.int (i : Nat)])) := But.new hl
      have s1 : Same Hc (upd Hc l (.lst [.int (i : Nat)])) := same_new hl
      have e1 : (upd Hc l (.lst [.int (i : Nat)])) l = some (.lst (natV [i])) := upd_same
      have n1 : l ≠ lr := (ne_of_none hc hl).symm
      generalize upd Hc l (.lst [.int (i : Nat)]) = H1 at b1 s1 e1
      have hal := aa.1
      rw [List.length_map, List.length_range] at hal
      refine ⟨acc, s1 _ _ hc, small1000 (by omega), acc ++ [.ref l], upd_same, ?_, same_mut (sm.trans s1) hlr⟩
      rw [List.range_succ, List.map_append]
      exact All2.snoc (aa.imp fun _ _ z => (z.but b1).but But.upd) ⟨l, rfl, n1, trivial, by rw [upd_ne n1]; exact e1⟩
    rintro H1 ⟨rv, hrv, ra, sm1⟩
    have ra : All2 (RowV H1) rv (rowsL ws 0) := ra.imp fun _ _ z => z.row
    refine gn_norm (σ' := [some (.ref lw), none, some (.ref lr), none, none, none, none, none]) rfl ?_
    refine ⟨(by show 0 ≤ sizeLine; decide), fun lf hlf => ?_⟩
    have s2 : Same H1 (upd H1 lf (.lst [])) := same_new hlf
    have e2 : (upd H1 lf (.lst [])) lf = some (.lst []) := upd_same
    have hlf0 : H lf = none := sm1.free hlf
    generalize upd H1 lf (.lst []) = H2 at s2 e2
    have sm2 := sm1.trans s2
    refine gn_norm (σ' := [some (.ref lw), none, some (.ref lr), some (.ref lf), none, none, none, none]) rfl ?_
    refine ⟨fun m σ Hc => ∃ (k : Nat) (t1 t4 t5 t6 t7 : Option V) (lr lf : Addr) (rv fv : List V), σ = [some (.ref lw), t1, some (.ref lr), some (.ref lf), t4, t5, t6, t7] ∧ Hc lr = some (.lst rv) ∧ All2 (RowV Hc) rv (rowsL ws k) ∧ Hc lf = some (.lst fv) ∧ H lf = none ∧ All2 (RowV Hc) fv (foundL ws k) ∧ Same H Hc ∧ m = 8 - k,
      ⟨8, 0, _, _, _, _, _, lr, lf, rv, [], rfl, s2 _ _ hrv, ra.imp fun _ _ z => z.same s2, e2, hlf0, All2.nil, sm2, rfl⟩, ?_⟩
    rintro m σ Hb ⟨k, t1, t4, t5, t6, t7, lr, lf, rv, fv, rfl, hrv, ra, hfv, hlf0, fa, sm, rfl⟩
    refine ⟨_, rfl, (by show 0 ≤ sizeLine; decide), fun l0 hl0 => ?_⟩
    have s0 : Same Hb (upd Hb l0 (.lst [])) := same_new hl0
    have e0 : (upd Hb l0 (.lst [])) l0 = some (.lst []) := upd_same
    generalize upd Hb l0 (.lst []) = Hc at s0 e0
    replace hrv := s0 _ _ hrv
    replace hfv := s0 _ _ hfv
    replace ra := ra.imp fun _ _ z => z.same s0
    replace fa := fa.imp fun _ _ z => z.same s0
    replace sm := sm.trans s0
    have eq0 : PyData.eqv (rowsD (rowsL ws k)) (.list []) = decide (rowsL ws k = []) := rowsD_eq (rowsL ws k) []
    refine ⟨_, _, dp_rowsN hrv ra, .lst (SqL.of e0) .nil, (sh_rows _).ok (by decide), she, _, rfl, ?_⟩
    rw [eq0]
    by_cases hnil : rowsL ws k = []
    · rw [decide_eq_true hnil]
      refine iteF ⟨_, rfl, ?_⟩
      rw [found_all hnil] at fa
      exact q lf fv Hc sm hlf0 hfv fa
    · rw [decide_eq_false hnil]
      have hk5 : k ≤ 5 := by
        obtain ⟨r, hr⟩ := List.exists_mem_of_ne_nil _ hnil
        obtain ⟨hl, h1⟩ := mem_rows.mp hr
        have := RF.M r h1
        omega
      refine iteT ⟨fun σ H5 => ∃ (t1 t4 t5 t6 t7 : Option V) (lr lf : Addr) (rv fv : List V), σ = [some (.ref lw), t1, some (.ref lr), some (.ref lf), t4, t5, t6, t7] ∧ H5 lr = some (.lst rv) ∧ All2 (RowV H5) rv (rowsL ws (k + 1)) ∧ H5 lf = some (.lst fv) ∧ H lf = none ∧ All2 (RowV H5) fv (foundL ws (k + 1)) ∧ Same H H5, ?_, ?_⟩
      · rintro σ' H' ⟨u1, u4, u5, u6, u7, lr, lf, rv, fv, rfl, a1, a2, a3, a4, a5, a6⟩
        exact ⟨8 - (k + 1), by omega, k + 1, u1, u4, u5, u6, u7, lr, lf, rv, fv, rfl, a1, a2, a3, a4, a5, a6, rfl⟩
      have tk := TK.same sm
      refine ⟨_, rfl, _, rfl, lr, rfl, ⟨_, SqL.of hrv⟩, fun D hD => ?_⟩
      refine lc_list (K := K) (a := lr) (xs := rv) (fun i Hd => ∃ acc, Hd D = some (.lst acc) ∧ All2 (RowV Hc) acc (((rowsL ws k).take i).filter (ringB ws)) ∧ Same Hc Hd) ⟨[], upd_same, All2.nil, same_new hD⟩ (fun i Hd _ ⟨_, _, _, sd⟩ => SqL.of (sd _ _ hrv)) ?_ ?_
      · rintro i v Hd hv ⟨acc, hd, aa, sd⟩
        obtain ⟨r, hr', a, rfl, ha⟩ := ra.get hv
        have hrw := (mem_rows.mp (List.mem_of_getElem? hr')).2
        have hrl := hrw.len
        obtain ⟨k0, r0, rfl⟩ : ∃ k0 r0, r = k0 :: r0 := by
          cases r with
          | nil => exact absurd rfl hrw.ne
          | cons k0 r0 => exact ⟨k0, r0, rfl⟩
        obtain ⟨r1, kl, hrk⟩ : ∃ r1 kl, k0 :: r0 = r1 ++ [kl] := ⟨_, _, (List.dropLast_concat_getLast (List.cons_ne_nil _ _)).symm⟩
        have hkl := hrw.lt kl (by rw [hrk]; simp)
        have hk0 := hrw.lt k0 List.mem_cons_self
        obtain ⟨x, hx⟩ : ∃ x, ws[kl]? = some x := ⟨_, List.getElem?_eq_getElem hkl⟩
        obtain ⟨v1, hv1, a1, b1, rfl, s11, s12⟩ := wa.getR hx
        obtain ⟨y, hy⟩ : ∃ y, ws[k0]? = some y := ⟨_, List.getElem?_eq_getElem hk0⟩
        obtain ⟨v2, hv2, a2, b2, rfl, s21, s22⟩ := wa.getR hy
        have ee : endL ws (k0 :: r0) = x.2.1 := by rw [hrk, endL_snoc]; exact wen_at hx
        have eb : begL ws (k0 :: r0) = y.1 := wst_at hy
        have fs := filt_snoc (p := ringB ws) hr'
        have hal := aa.1
        have hft := filt_take (p := ringB ws) (l := rowsL ws k) i
        have hfl : ((rowsL ws k).filter (ringB ws)).length ≤ 1000000 := Nat.le_trans (List.length_filter_le _ _) (hrc k)
        have tkd := tk.trans (TK.same sd)
        have hwd := sd _ _ (sm _ _ hwv)
        have had := sd _ _ ha
        have no : ringB ws (k0 :: r0) = false → ∃ acc, Hd D = some (.lst acc) ∧ All2 (RowV Hc) acc (((rowsL ws k).take (i + 1)).filter (ringB ws)) ∧ Same Hc Hd := fun z => by
          rw [z] at fs
          rw [fs]
          exact ⟨acc, hd, by rw [if_neg Bool.false_ne_true, List.append_nil]; exact aa, sd⟩
        refine ⟨rfl, ?_⟩
        refine ⟨_, rfl, _, rfl, _, rfl, a, _, _, .int (kl : Nat), rfl, rfl, SqL.of had, ?_, lw, wv, _, _, rfl, rfl, SqL.of hwd, atI_nat hv1, a1, _, _, .int x.2.1, rfl, rfl, tkd.seq s11, atI_nat (j := 1) rfl, ?_⟩
        · rw [hrk]
          show atI (List.map _ (_ ++ _)) _ = _
          rw [List.map_append]
          exact atI_last _ _
        refine ⟨_, rfl, _, rfl, a, _, _, .int (k0 : Nat), rfl, rfl, SqL.of had, atI_nat (j := 0) rfl, lw, wv, _, _, rfl, rfl, SqL.of hwd, atI_nat hv2, a2, _, _, .int y.1, rfl, rfl, tkd.seq s21, atI_nat (j := 0) rfl, rfl, _, rfl, ite2 (fun e1 => ?_) (fun e1 => iteF (no ?_))⟩
        · have h1 : endL ws (k0 :: r0) = begL ws (k0 :: r0) := by
            have := V.int.inj (of_decide_eq_true e1)
            rw [ee, eb]
            omega
          refine ⟨_, rfl, a, intsN (k0 :: r0), rfl, by rw [intsN_V]; exact SqL.of had, (by show 0 < (intsN (k0 :: r0)).length; unfold intsN; rw [List.length_map]; exact Nat.succ_pos _), fun m hm1 hm2 => ?_⟩
          refine ⟨_, rfl, a, _, _, .int (k0 : Nat), rfl, rfl, SqL.of had, atI_nat (j := 0) rfl, rfl, _, rfl, ite2 (fun e2 => ?_) (fun e2 => no ?_)⟩
          · have h2 := V.int.inj (of_decide_eq_true e2)
            have hyes : ringB ws (k0 :: r0) = true := decide_eq_true ⟨h1, fun p hp => by
              have := hm2 (p : Nat) (List.mem_map.mpr ⟨p, hp, rfl⟩)
              show k0 ≤ p
              omega⟩
            rw [hyes, if_pos rfl] at fs
            refine ⟨_, rfl, acc, hd, (by show _ < 2 ^ 24; omega), acc ++ [.ref a], upd_same, ?_, same_mut sd hD⟩
            rw [fs]
            exact All2.snoc aa ⟨a, rfl, ha⟩
          · refine decide_eq_false fun z => e2 ?_
            obtain ⟨p, hp, rfl⟩ := List.mem_map.mp hm1
            have h3 := z.2 p hp
            have h3 : k0 ≤ p := h3
            have h4 := hm2 (k0 : Nat) (List.mem_map.mpr ⟨k0, List.mem_cons_self, rfl⟩)
            have h5 : ((p : Nat) : Int) = ((k0 : Nat) : Int) := by omega
            rw [h5]
            exact decide_eq_true rfl
        · refine decide_eq_false fun z => e1 ?_
          rw [← ee, ← eb, z.1]
          exact decide_eq_true rfl
      rintro H3 ⟨dv, hd3, da, s3⟩
      rw [ra.1, List.take_length] at da
      have fl := fa.1
      have dl := da.1
      have hfk := hfc (k + 1)
      rw [found_succ, List.length_append] at hfk
      refine ⟨lf, D, _, _, rfl, rfl, s3 _ _ hfv, hd3, (by show _ ≤ 2 ^ 24; omega), fun lf2 hlf2 => ?_⟩
      have s4 : Same H3 (upd H3 lf2 (.lst (fv ++ dv))) := same_new hlf2
      have e4 : (upd H3 lf2 (.lst (fv ++ dv))) lf2 = some (.lst (fv ++ dv)) := upd_same
      generalize upd H3 lf2 (.lst (fv ++ dv)) = H4 at s4 e4
      have s34 := s3.trans s4
      have sm4 := sm.trans s34
      have hlf20 : H lf2 = none := (sm.trans s3).free hlf2
      refine gn_norm (σ' := [some (.ref lw), t1, some (.ref lr), some (.ref lf2), t4, t5, t6, t7]) rfl ?_
      refine ⟨(by show 0 ≤ sizeLine; decide), fun la0 hla0 => ?_⟩
      have s5 : Same H4 (upd H4 la0 (.lst [])) := same_new hla0
      have e5 : (upd H4 la0 (.lst [])) la0 = some (.lst []) := upd_same
      generalize upd H4 la0 (.lst []) = H5 at s5 e5
      have s35 := s34.trans s5
      have sm5 := sm.trans s35
      have hrv5 := s35 _ _ hrv
      have e45 := s5 _ _ e4
      have ra5 := ra.imp fun _ _ z => z.same s35
      have fa5 := (fa.imp fun _ _ z => z.same s35).append (da.imp fun _ _ z => z.same s35)
      have tk5 := TK.same sm5
      refine gn_norm (σ' := [some (.ref lw), t1, some (.ref lr), some (.ref lf2), t4, some (.ref la0), t6, t7]) rfl ?_
      refine ⟨_, rfl, lr, rfl, ⟨_, SqL.of hrv5⟩, for_list (K := K) (a := lr) (xs := rv) (fun i σ Hd => ∃ (t1 t4 t6 t7 : Option V) (la : Addr) (acc : List V), σ = [some (.ref lw), t1, some (.ref lr), some (.ref lf2), t4, some (.ref la), t6, t7] ∧ Hd la = some (.lst acc) ∧ All2 (RowV Hd) acc (((rowsL ws k).take i).flatMap (longR ws)) ∧ Same H5 Hd)
        ⟨_, _, _, _, la0, [], rfl, e5, All2.nil, Same.refl _⟩ (fun i σ Hd _ ⟨_, _, _, _, _, _, _, _, _, sd⟩ => SqL.of (sd _ _ hrv5)) ?_ ?_⟩
      · rintro i v σ Hd hv ⟨t1, t4, t6, t7, la, acc, rfl, hacc, aa, sd⟩
        obtain ⟨r, hr', a, rfl, ha⟩ := ra5.get hv
        have hrw := (mem_rows.mp (List.mem_of_getElem? hr')).2
        have hrl := hrw.len
        have old : ∀ {b : Addr} {o : HO}, H5 b = some o → Hd b = some o := fun {b o} h => sd _ _ h
        have hwvd := sd _ _ (sm5 _ _ hwv)
        have tkd := tk5.trans (TK.same sd)
        obtain ⟨k0, r0, rfl⟩ : ∃ k0 r0, r = k0 :: r0 := by
          cases r with
          | nil => exact absurd rfl hrw.ne
          | cons k0 r0 => exact ⟨k0, r0, rfl⟩
        obtain ⟨r1, kl, hrk⟩ : ∃ r1 kl, k0 :: r0 = r1 ++ [kl] := ⟨_, _, (List.dropLast_concat_getLast (List.cons_ne_nil _ _)).symm⟩
        have hkl := hrw.lt kl (by rw [hrk]; simp)
        obtain ⟨x, hx⟩ : ∃ x, ws[kl]? = some x := ⟨_, List.getElem?_eq_getElem hkl⟩
        obtain ⟨v1, hv1, a1, b1, rfl, s11, s12⟩ := wa.getR hx
        have ee : endL ws (k0 :: r0) = x.2.1 := by rw [hrk, endL_snoc]; exact wen_at hx
        refine gn_norm (σ' := [some (.ref lw), t1, some (.ref lr), some (.ref lf2), some (.ref a), some (.ref la), t6, t7]) rfl ?_
        refine ⟨_, rfl, _, rfl, _, rfl, a, _, _, .int (kl : Nat), rfl, rfl, SqL.of (old ha), ?_, lw, wv, _, _, rfl, rfl, SqL.of hwvd, atI_nat hv1, a1, _, _, .int x.2.1, rfl, rfl, tkd.seq s11, atI_nat (j := 1) rfl, ?_⟩
        · rw [hrk]
          show atI (List.map _ (_ ++ _)) _ = _
          rw [List.map_append]
          exact atI_last _ _
        refine gn_norm (σ' := [some (.ref lw), t1, some (.ref lr), some (.ref lf2), some (.ref a), some (.ref la), some (.int (x.2.1 : Nat)), t7]) rfl ?_
        -- starts
        refine ⟨_, rfl, a, rfl, ⟨_, SqL.of (old ha)⟩, fun D2 hD2 => ?_⟩
        have rl1 : ((k0 :: r0).map (wst ws)).length = (k0 :: r0).length := by simp
        refine lc_list (K := K) (a := a) (xs := natV (k0 :: r0)) (fun j He => He D2 = some (.lst (natV (((k0 :: r0).map (wst ws)).take j))) ∧ Same Hd He) ⟨upd_same, same_new hD2⟩ (fun j He _ ⟨_, sm⟩ => SqL.of (sm _ _ (old ha))) ?_ ?_
        · rintro j v He hv ⟨he, se⟩
          obtain ⟨k1, hk1, rfl⟩ : ∃ k1, (k0 :: r0)[j]? = some k1 ∧ v = .int (k1 : Nat) := by
            rw [List.getElem?_map] at hv
            cases e : (k0 :: r0)[j]? with
            | none => rw [e] at hv; cases hv
            | some k1 => rw [e] at hv; cases hv; exact ⟨k1, rfl, rfl⟩
          have hkl := hrw.lt k1 (List.mem_of_getElem? hk1)
          obtain ⟨y, hy⟩ : ∃ y, ws[k1]? = some y := ⟨_, List.getElem?_eq_getElem hkl⟩
          obtain ⟨v2, hv2, a2, b2, rfl, s21, s22⟩ := wa.getR hy
          refine ⟨rfl, tyes ?_⟩
          refine ⟨_, rfl, _, rfl, lw, wv, _, _, rfl, rfl, SqL.of (se _ _ hwvd), atI_nat hv2, a2, _, _, .int y.1, rfl, rfl, (TK.same se).seq (tkd.seq s21), atI_nat (j := 0) rfl, _, he, ?_, ?_, same_mut se hD2⟩
          · rw [nat_len, List.length_take, rl1]
            exact small1000 (by omega)
          · rw [upd_same, List.take_add_one, List.getElem?_map, hk1]
            show _ = some (HO.lst (natV (_ ++ [wst ws k1])))
            rw [wst_at hy]
            show _ = some (HO.lst (List.map _ (_ ++ _)))
            rw [List.map_append]
            rfl
        rintro H6 ⟨hD6, s6⟩
        rw [nat_len, ← rl1, List.take_length] at hD6
        refine gn_norm (σ' := [some (.ref lw), t1, some (.ref lr), some (.ref lf2), some (.ref a), some (.ref la), some (.int (x.2.1 : Nat)), some (.ref D2)]) rfl ?_
        refine ⟨_, rfl, _, rfl, D2, _, rfl, .inl (SqL.of hD6), rfl, nat_flat _, _, rfl, ?_⟩
        rw [show inV (V.int (x.2.1 : Nat)) (natV ((k0 :: r0).map (wst ws))) = decide (x.2.1 ∈ (k0 :: r0).map (wst ws)) from nat_in]
        have hcap1 := flat_take (f := longR ws) (l := rowsL ws k) (i + 1)
        rw [flat_snoc hr', List.length_append] at hcap1
        have hcap2 := hrc (k + 1)
        have hcap3 : ((rowsL ws k).flatMap (longR ws)).length ≤ 1000000 := hcap2
        refine ite2 (fun e2 => ?_) (fun e2 => ?_)
        · have h2 : x.2.1 ∉ (k0 :: r0).map (wst ws) := of_decide_eq_false (by simpa using e2)
          have hne : endL ws (k0 :: r0) ∉ (k0 :: r0).map (stA ws) := by rw [ee]; exact h2
          refine ⟨_, rfl, _, rfl, lw, wv, rfl, .inl (SqL.of (s6 _ _ hwvd)), _, rfl, by rw [hlw]; omega, by rw [hlw]; omega, fun D3 hD3 => ?_⟩
          rw [hlw, Int.toNat_natCast]
          refine lc_range (lo := 0) (n := ws.length) (fun j He => ∃ acc, He D3 = some (.lst acc) ∧ All2 (ToldV He D3 fun _ => True) acc (longJ ws (k0 :: r0) j) ∧ Same H6 He) ⟨[], upd_same, All2.nil, same_new hD3⟩ ?_ ?_
          · rintro j He hj ⟨acc3, hc3, aa3, se⟩
            have ek : (0 : Int) + (j : Nat) = ((j : Nat) : Int) := Int.zero_add _
            rw [ek]
            have s6e := s6.trans se
            obtain ⟨y, hy⟩ : ∃ y, ws[j]? = some y := ⟨_, List.getElem?_eq_getElem hj⟩
            obtain ⟨v2, hv2, a2, b2, rfl, s21, s22⟩ := wa.getR hy
            have ew : stA ws j = y.1 := wst_at hy
            refine ⟨rfl, ?_⟩
            refine ⟨_, rfl, _, rfl, lw, wv, _, _, rfl, rfl, SqL.of (s6e _ _ hwvd), atI_nat hv2, a2, _, _, .int y.1, rfl, rfl, (TK.same s6e).seq (tkd.seq s21), atI_nat (j := 0) rfl, _, rfl, rfl, _, rfl, ite2 (fun e1 => ?_) (fun e1 => ⟨acc3, hc3, by rw [longJ_no fun z => e1 (by rw [← ew, z.1, ee]; exact decide_eq_true rfl)]; exact aa3, se⟩)⟩
            have h1 : y.1 = x.2.1 := by
              have := V.int.inj (of_decide_eq_true e1)
              omega
            have yes : stA ws j = endL ws (k0 :: r0) ∧ endL ws (k0 :: r0) ∉ (k0 :: r0).map (stA ws) := ⟨by rw [ew, ee, h1], hne⟩
            have hal := aa3.1
            have hc2 := longJ_len (ws := ws) (r := k0 :: r0) (m := j + 1) (ws.length - (j + 1))
            rw [show j + 1 + (ws.length - (j + 1)) = ws.length by omega, longJ_yes yes, List.length_append] at hc2
            have hc3' : (longJ ws (k0 :: r0) ws.length).length = (longR ws (k0 :: r0)).length := rfl
            refine ⟨_, rfl, _, rfl, (by show 1 ≤ sizeLine; decide), fun l3 hl3 => ?_⟩
            have b3 : But D3 He (upd He l3 (.lst [.int (j : Nat)])) := But.new hl3
            have q3 : Same He (upd He l3 (.lst [.int (j : Nat)])) := same_new hl3
            have e3 : (upd He l3 (.lst [.int (j : Nat)])) l3 = some (.lst [.int (j : Nat)]) := upd_same
            generalize upd He l3 (.lst [.int (j : Nat)]) = Hf at b3 q3 e3
            refine ⟨a, l3, _, _, rfl, rfl, q3 _ _ (s6e _ _ (old ha)), e3, ?_, fun l4 hl4 => ?_⟩
            · rw [nat_len]
              exact Nat.le_of_lt (small1000 (by show _ + 1 ≤ 1000; omega))
            have b4 : But D3 Hf (upd Hf l4 (.lst (natV (k0 :: r0) ++ [.int (j : Nat)]))) := But.new hl4
            have q4 : Same Hf (upd Hf l4 (.lst (natV (k0 :: r0) ++ [.int (j : Nat)]))) := same_new hl4
            have e4 : (upd Hf l4 (.lst (natV (k0 :: r0) ++ [.int (j : Nat)]))) l4 = some (.lst (natV ((k0 :: r0) ++ [j]))) := by
              rw [upd_same]
              show _ = some (HO.lst (List.map _ ((k0 :: r0) ++ _)))
              rw [List.map_append]
              rfl
            have n4 : l4 ≠ D3 := (ne_of_none (q3 _ _ hc3) hl4).symm
            generalize upd Hf l4 (.lst (natV (k0 :: r0) ++ [.int (j : Nat)])) = Hg at b4 q4 e4
            have b34 := b3.trans b4
            have q34 := q3.trans q4
            refine ⟨acc3, q34 _ _ hc3, (by show _ < 2 ^ 24; omega), acc3 ++ [.ref l4], upd_same, ?_, same_mut (se.trans q34) hD3⟩
            rw [longJ_yes yes]
            exact All2.snoc (aa3.imp fun _ _ z => (z.but b34).but But.upd) ⟨l4, rfl, n4, trivial, by rw [upd_ne n4]; exact e4⟩
          rintro H7 ⟨acc3, hc3, aa3, s7⟩
          have s67 := s6.trans s7
          have hal := aa.1
          have hal3 := aa3.1
          have hc3' : (longJ ws (k0 :: r0) ws.length).length = (longR ws (k0 :: r0)).length := rfl
          refine ⟨la, D3, _, _, rfl, rfl, s67 _ _ hacc, hc3, (by show _ ≤ 2 ^ 24; omega), fun la2 hla2 => ?_⟩
          have s8 : Same H7 (upd H7 la2 (.lst (acc ++ acc3))) := same_new hla2
          have e8 : (upd H7 la2 (.lst (acc ++ acc3))) la2 = some (.lst (acc ++ acc3)) := upd_same
          generalize upd H7 la2 (.lst (acc ++ acc3)) = H8 at s8 e8
          have s68 := s67.trans s8
          refine ⟨_, _, _, _, la2, acc ++ acc3, rfl, e8, ?_, sd.trans s68⟩
          rw [flat_snoc hr']
          exact (aa.imp fun _ _ z => z.same s68).append (aa3.imp fun _ _ z => z.row.same s8)
        · have h2 : x.2.1 ∈ (k0 :: r0).map (wst ws) := Decidable.byContradiction fun z => e2 (by rw [decide_eq_false z]; rfl)
          refine ⟨_, _, _, _, la, acc, rfl, s6 _ _ hacc, ?_, sd.trans s6⟩
          rw [flat_snoc hr', longR_no (by rw [ee]; exact h2), List.append_nil]
          exact aa.imp fun _ _ z => z.same s6
      · rintro σ Hd ⟨t1, t4, t6, t7, la, acc, rfl, hacc, aa, sd⟩
        rw [ra5.1, List.take_length] at aa
        refine ⟨_, rfl, _, _, _, _, _, la, lf2, acc, fv ++ dv, rfl, hacc, aa, sd _ _ e45, hlf20, ?_, sm5.trans sd⟩
        rw [found_succ]
        exact fa5.imp fun _ _ z => z.same sd
end
end Lag

set_option maxRecDepth 100000
set_option maxHeartbeats 8000000
namespace Lag
open PySem PySem.Spec PyProof.Rows L2
theorem all2_mapR {α β γ : Type} {f : β → γ} {R : α → γ → Prop} {xs : List α} {ys : List β} (h : All2 (fun x y => R x (f y)) xs ys) : All2 R xs (ys.map f) := by
  refine ⟨by rw [List.length_map]; exact h.1, fun i x z hx hz => ?_⟩
  rw [List.getElem?_map] at hz
  cases e : ys[i]? with
  | none => rw [e] at hz; cases hz
  | some y =>
    rw [e] at hz
    cases hz
    exact h.2 i x y hx e
abbrev sRight : Stmt := topS 73 -- @_law_right
def dueP (gs : List Gt) (ws : List Wr) (k : Nat) (r : List Nat) : Int × Int := ((loadW gs ws r).sum, (k : Int) * (loadR ws r).sum)
def spRight (K : PySem.W.Frag) (C : Addr) : Sp := fun vs H Q _ => ∃ (lg lw p ng nw : Addr) (gs : List Gt) (ws us : List Wr) (k : Nat), vs = [.ref lg, .ref lw, .ref p, .int (k : Nat)] ∧ LG K H lg gs ∧ LW K H lw ws ∧ NetAt K C H p ng nw gs us ∧ NetOk gs ws ∧ NetOk gs us ∧ All2 (TimesW k) ws us ∧ 1 ≤ k ∧ k ≤ 4 ∧ RFew ws ∧ ws.length ≤ 100 ∧ gs.length ≤ 24 ∧ ∀ H', Same H H' → Q (.bl true) H'
section
variable {P : Program} {w : World} {K : PySem.W.Frag} {mg : Str → Option Value} {base : Heap}
abbrev nRight : List Str := ["_law_gates_here", "_law_wires_here", "_law_net", "_law_times", "_law_most", "_law_kind", "_law_wait", "_law_due", "_law_ring", "_law_place", "_law_many", "_law_other"]
theorem scRight : FnScope nRight ["_law_gates_here", "_law_wires_here", "_law_net", "_law_times"] (defScope sRight) := ⟨rfl, rfl, rfl, by decide +kernel, rfl, by decide +kernel, by decide +kernel⟩
abbrev DRight (P : Program) (w : World) (K : PySem.W.Frag) (mg : Str → Option Value) (base : Heap) (C : Addr) := Df P w K mg base 12 "_law_right" ["_law_gates_here", "_law_wires_here", "_law_net", "_law_times"] (spRight K C)
theorem ok_right {f fB fR fS fM C : Addr} {fd fdB fdR fdS fdM : FuncData} (F : Fun K "_law_right" "_law_right" sRight f fd) (hm : mg "_law_right" = some (.ref f)) (B : Bt mg) (ms : mg "sum" = none) (mso : mg "sorted" = none) (DLB : DLeastBeat P w K mg base C fB fdB) (DLR : DLRings2 P w K mg base fR fdR) (DSl : DSlow P w K mg base C fS fdS) (DLs : DLoads P w K mg base C fM fdM) : DRight P w K mg base C f fd := by
  refine ⟨?_, hm, F.kp, F.binds fun _ _ _ _ _ _ us hl => match us, hl with | [_, _, _, _], _ => rfl⟩
  refine F.ok scRight (fun vs H Q E h => ?_) (fun cdv A outer s H vs Q E hr h => ?_)
  · obtain ⟨lg, lw, p, ng, nw, gs, ws, us, k, rfl, _⟩ := h
    rfl
  · obtain ⟨lg, lw, p, ng, nw, gs, ws, us, k, rfl, G0, W0, NA, N, NU, al, k1, k4, RF, hwl, hgl, q⟩ := h
    have nd := scRight.nd
    refine ⟨_, pss_cons (ps_set (i := 4) nd rfl (.inl rfl) (pe_ix ix_tup (pe_call DLB.ok (hr.mono (by decide)) (by rfl) DLB.mg DLB.kp DLB.bd .nil pass0 (pa_cons (pv 2) pa_nil)) pe_int (fun _ _ => rfl))) <|
        pss_cons (ps_if (pt_cmpR op_lt (pv 4) (pe_callB (cr_max rfl) (by rfl) B.max (by decide +kernel) (pa_cons (pe_lc (own := [("_law_kind", 5), ("_law_wait", 6)]) (g := (gTup K 2 (gCons (gName 5) (gCons (gName 6) gNil)))) (tt := tYes) (te := (tVar 6)) rfl nd (pi_list (pv 0)) (blkOk_by (N := nRight) (sc := defScope sRight) (own := [("_law_kind", 5), ("_law_wait", 6)]) (by decide +kernel)) (fun _ _ _ _ _ => (pg_tup rfl (pgs_cons (pg_name (i := 5) nd rfl (.inl rfl)) (pgs_cons (pg_name (i := 6) nd rfl (.inl rfl)) pgs_nil)))) (fun _ _ _ _ _ => pts_nil) (fun _ _ _ _ _ => (pv 6))) pa_nil)) (nomark _)) (pss_one (ps_ret pe_bl)) pss_nil) <|
        pss_cons (ps_set (i := 7) nd rfl (.inl rfl) (pe_lst pa_nil)) <|
        pss_cons (ps_for PassesOwn.never rfl (pi_list (pe_call DLR.ok (hr.mono (by decide)) (by rfl) DLR.mg DLR.kp DLR.bd .nil pass0 (pa_cons (pv 1) pa_nil))) (pg_name (i := 8) nd rfl (.inl rfl)) (pss_cons (ps_set (i := 6) nd rfl (.inr rfl) (pe_callB (cr_sum rfl) (by rfl) ms (by decide +kernel) (pa_cons (pe_lc (own := [("_law_place", 9)]) (g := (gName 9)) (tt := tYes) (te := (tOp (rIxT K) (tOp (rIxL K) (tVar 0) (tOp (rIxT K) (tOp (rIxL K) (tVar 1) (tVar 9)) (tC (.int 0)))) (tC (.int 1)))) rfl nd (pi_list (pv 8)) (blkOk_by (N := nRight) (sc := defScope sRight) (own := [("_law_place", 9)]) (by decide +kernel)) (fun _ _ _ _ _ => (pg_name (i := 9) nd rfl (.inl rfl))) (fun _ _ _ _ _ => pts_nil) (fun _ _ _ _ _ => (pe_ix ix_tup (pe_ix ix_list (pv 0) (pe_ix ix_tup (pe_ix ix_list (pv 1) (pv 9) (fun _ _ => rfl)) pe_int (fun _ _ => rfl)) (fun _ _ => rfl)) pe_int (fun _ _ => rfl)))) pa_nil))) <|
        pss_cons (ps_set (i := 10) nd rfl (.inr rfl) (pe_op op_mul (pv 3) (pe_callB (cr_sum rfl) (by rfl) ms (by decide +kernel) (pa_cons (pe_lc (own := [("_law_place", 9)]) (g := (gName 9)) (tt := tYes) (te := (tCB (Evl.rLenS K) (tCons (tOp (rIxT K) (tOp (rIxL K) (tVar 1) (tVar 9)) (tC (.int 2))) tNil))) rfl nd (pi_list (pv 8)) (blkOk_by (N := nRight) (sc := defScope sRight) (own := [("_law_place", 9)]) (by decide +kernel)) (fun _ _ _ _ _ => (pg_name (i := 9) nd rfl (.inl rfl))) (fun _ _ _ _ _ => pts_nil) (fun _ _ _ _ _ => (pe_callB call_len_seq (by rfl) B.len PySem.boot_len (pa_cons (pe_ix ix_tup (pe_ix ix_list (pv 1) (pv 9) (fun _ _ => rfl)) pe_int (fun _ _ => rfl)) pa_nil)))) pa_nil)))) <|
        pss_cons (ps_if (pt_cmpR op_lt (pe_op op_mul (pv 4) (pv 10)) (pv 6) (nomark _)) (pss_one (ps_ret pe_bl)) pss_nil) <|
        pss_one (ps_expr (pe_bm PySem.F.plainAttrs_list PySem.F.slot_list_append PySem.F.type_list_append mt_append (pv 7) (pa_cons (pe_tup (pa_cons (pv 6) (pa_cons (pv 10) pa_nil))) pa_nil))))) <|
        Evl.pss_cut (ps_set (i := 8) nd rfl (.inl rfl) (pe_call DSl.ok (hr.mono (by decide)) (by rfl) DSl.mg DSl.kp DSl.bd .nil pass0 (pa_cons (pv 2) pa_nil))) <|
        pss_cons (ps_if (PW.pt (pw_or (pt_cmpR (op_neD hr.units) (pe_callB cr_sortedPO (by rfl) mso (by decide +kernel) (pa_cons (pe_call DLs.ok (hr.mono (by decide)) (by rfl) DLs.mg DLs.kp DLs.bd .nil pass0 (pa_cons (pv 2) pa_nil)) pa_nil)) (pe_callB cr_sortedPO (by rfl) mso (by decide +kernel) (pa_cons (pv 7) pa_nil)) (nomark _)) (pw_or1 (pt_cmpR op_ne (pe_cmpR op_isN (pv 8) pe_non (nomark _)) (pe_cmpR (op_eqD hr.units) (pv 7) (pe_lst pa_nil) (nomark _)) (nomark _))))) (pss_one (ps_ret pe_bl)) pss_nil) <|
        pss_cons (ps_if (pt_cmpR op_isN (pv 8) pe_non (nomark _)) (pss_one (ps_ret pe_bl)) pss_nil) <|
        pss_cons (ps_set (i := 6) nd rfl (.inr rfl) (pe_callB (cr_sum rfl) (by rfl) ms (by decide +kernel) (pa_cons (pe_lc (own := [("_law_place", 9)]) (g := (gName 9)) (tt := tYes) (te := (tOp (rIxT K) (tOp (rIxL K) (tVar 0) (tOp (rIxT K) (tOp (rIxL K) (tVar 1) (tVar 9)) (tC (.int 0)))) (tC (.int 1)))) rfl nd (pi_list (pv 8)) (blkOk_by (N := nRight) (sc := defScope sRight) (own := [("_law_place", 9)]) (by decide +kernel)) (fun _ _ _ _ _ => (pg_name (i := 9) nd rfl (.inl rfl))) (fun _ _ _ _ _ => pts_nil) (fun _ _ _ _ _ => (pe_ix ix_tup (pe_ix ix_list (pv 0) (pe_ix ix_tup (pe_ix ix_list (pv 1) (pv 9) (fun _ _ => rfl)) pe_int (fun _ _ => rfl)) (fun _ _ => rfl)) pe_int (fun _ _ => rfl)))) pa_nil))) <|
        pss_cons (ps_set (i := 10) nd rfl (.inr rfl) (pe_op op_mul (pv 3) (pe_callB (cr_sum rfl) (by rfl) ms (by decide +kernel) (pa_cons (pe_lc (own := [("_law_place", 9)]) (g := (gName 9)) (tt := tYes) (te := (tCB (Evl.rLenS K) (tCons (tOp (rIxT K) (tOp (rIxL K) (tVar 1) (tVar 9)) (tC (.int 2))) tNil))) rfl nd (pi_list (pv 8)) (blkOk_by (N := nRight) (sc := defScope sRight) (own := [("_law_place", 9)]) (by decide +kernel)) (fun _ _ _ _ _ => (pg_name (i := 9) nd rfl (.inl rfl))) (fun _ _ _ _ _ => pts_nil) (fun _ _ _ _ _ => (pe_callB call_len_seq (by rfl) B.len PySem.boot_len (pa_cons (pe_ix ix_tup (pe_ix ix_list (pv 1) (pv 9) (fun _ _ => rfl)) pe_int (fun _ _ => rfl)) pa_nil)))) pa_nil)))) <|
        pss_one (ps_ret (pe_cmpR (op_eqD hr.units) (pe_lc (own := [("_law_other", 11)]) (g := (gName 11)) (tt := (tTest (tOp (rI0 fun i j => .bl (decide (j < i))) (tOp (rI CMul fun i j => .int (i * j)) (tOp (rIxT K) (tVar 11) (tC (.int 0))) (tVar 10)) (tOp (rI CMul fun i j => .int (i * j)) (tVar 6) (tOp (rIxT K) (tVar 11) (tC (.int 1))))))) (te := (tC (.int 1))) rfl nd (pi_list (pv 7)) (blkOk_by (N := nRight) (sc := defScope sRight) (own := [("_law_other", 11)]) (by decide +kernel)) (fun _ _ _ _ _ => (pg_name (i := 11) nd rfl (.inl rfl))) (fun _ _ _ _ _ => pts_one (pt_cmpR op_gt (pe_op op_mul (pe_ix ix_tup (pv 11) pe_int (fun _ _ => rfl)) (pv 10)) (pe_op op_mul (pv 6) (pe_ix ix_tup (pv 11) pe_int (fun _ _ => rfl))) (nomark _))) (fun _ _ _ _ _ => pe_int)) (pe_lst pa_nil) (nomark _))), ?_⟩
    have she : SeqAt.shaped (.list []) = true := (sh_list (k := 0) fun d hd => by cases hd).ok (by decide)
    have eW := times_walks al
    have hMU := times_M al RF.M
    have hcU : (walks us (frB us)).length ≤ 10000000 := by rw [eW]; exact RF.walks
    have fp := found_perm (frB_ok ws)
    have hfl : (foundL ws (ws.length + 1)).length ≤ 8000000 := RF.found _
    have hring : ∀ r, r ∈ foundL ws (ws.length + 1) → RingR ws r ∧ r.length ≤ 6 := fun r hr => ⟨mem_found.mp hr, RF.M r (mem_found.mp hr).rw⟩
    -- least beat
    refine ⟨_, rfl, p, ng, nw, gs, us, rfl, NA, NU, by omega, fun t l B0 Lf H1 s1 et hl el hB hF hLb hB0 => ?_⟩
    refine ⟨t, _, _, .int B0, rfl, rfl, .inl (.inl et), atI_nat (j := 0) rfl, ?_⟩
    have hBd := hB.bd NU
    refine gn_norm (σ' := [some (.ref lg), some (.ref lw), some (.ref p), some (.int (k : Nat)), some (.int B0), none, none, none, none, none, none, none]) rfl ?_
    -- the greatest wait
    obtain ⟨gv, hgv, ga⟩ := id (G0.same s1)
    refine ⟨_, rfl, _, rfl, lg, rfl, ⟨_, SqL.of hgv⟩, fun D hD => ?_⟩
    refine lc_list (K := K) (a := lg) (xs := gv) (fun i Hc => Hc D = some (.lst (((gs.take i).map fun g => g.2).map V.int)) ∧ Same H1 Hc) ⟨upd_same, same_new hD⟩ (fun i Hc _ ⟨_, sm⟩ => SqL.of (sm _ _ hgv)) ?_ ?_
    · rintro i v Hc hv ⟨hc, sm⟩
      obtain ⟨g, hg, a, rfl, sq⟩ := ga.get hv
      refine ⟨a, _, rfl, (TK.same sm).seq sq, rfl, _, _, rfl, _, _, rfl, rfl, rfl, tyes ?_⟩
      refine ⟨_, rfl, _, hc, ?_, ?_, same_mut sm hD⟩
      · rw [List.length_map, List.length_map, List.length_take]
        exact small1000 (by omega)
      · rw [upd_same, List.take_add_one, hg, List.map_append, List.map_append]
        rfl
    rintro H2 ⟨hcD, s2⟩
    rw [ga.1, List.take_length] at hcD
    have s12 := s1.trans s2
    refine ⟨D, _, rfl, SqL.of hcD, by rw [List.length_map]; exact List.length_pos_iff.mpr N.ne, fun m hm1 hm2 => ?_⟩
    have hmB : m ≤ B0 := by
      obtain ⟨g, hg, rfl⟩ := List.mem_map.mp hm1
      obtain ⟨i, hi⟩ := List.getElem?_of_mem hg
      have hil := (List.getElem?_eq_some_iff.mp hi).1
      have := hF.wt i [] i hil rfl (fun p hp => nomatch hp)
      unfold pwt at this
      rw [pws_nil, gw_get hi] at this
      omega
    refine ⟨_, _, rfl, rfl, _, rfl, ite2 (fun e => ?_) (fun _ => ?_)⟩
    · exact absurd (of_decide_eq_true e) (by omega)
    -- due
    refine ⟨(by show 0 ≤ sizeLine; decide), fun ld hld => ?_⟩
    have s3 : Same H2 (upd H2 ld (.lst [])) := same_new hld
    have e3 : (upd H2 ld (.lst [])) ld = some (.lst []) := upd_same
    generalize upd H2 ld (.lst []) = H3 at s3 e3
    have s13 := s12.trans s3
    have hld0 : H ld = none := s12.free hld
    refine gn_norm (σ' := [some (.ref lg), some (.ref lw), some (.ref p), some (.int (k : Nat)), some (.int B0), none, none, some (.ref ld), none, none, none, none]) rfl ?_
    refine ⟨_, rfl, lw, ws, rfl, W0.same s13, hwl, RF, fun lr rv H4 s4 hlr erv ra => ?_⟩
    have s14 := s13.trans s4
    have e4 := s4 _ _ e3
    have nlr : lr ≠ ld := (ne_of_none e3 hlr).symm
    refine ⟨lr, rfl, ⟨_, SqL.of erv⟩, for_list (K := K) (a := lr) (xs := rv) (fun i σ Hc => ∃ (t5 t6 t8 t9 t10 t11 : Option V) (acc : List V), σ = [some (.ref lg), some (.ref lw), some (.ref p), some (.int (k : Nat)), some (.int B0), t5, t6, some (.ref ld), t8, t9, t10, t11] ∧ Hc ld = some (.lst acc) ∧ All2 (PrV Hc) acc (((foundL ws (ws.length + 1)).take i).map (dueP gs ws k)) ∧ But ld H4 Hc)
      ⟨_, _, _, _, _, _, [], rfl, e4, All2.nil, But.refl _ _⟩ (fun i σ Hc _ ⟨_, _, _, _, _, _, _, _, _, _, bt⟩ => SqL.of (bt _ _ nlr erv)) ?_ ?_⟩
    · rintro i v σ Hc hv ⟨t5, t6, t8, t9, t10, t11, acc, rfl, hacc, aa, bt⟩
      obtain ⟨r, hr', b, rfl, hb4⟩ := ra.get hv
      have hrF := List.mem_of_getElem? hr'
      obtain ⟨hrg, hrl⟩ := hring r hrF
      have hlt := hrg.rw.lt
      have nb : b ≠ ld := fun z => by
        rw [z, e4] at hb4
        have := HO.lst.inj (Option.some.inj hb4)
        have h0 := hrg.rw.ne
        cases r with
        | nil => exact h0 rfl
        | cons a c => cases this
      have hb := bt _ _ nb hb4
      have old : Same H Hc := fun b o h => bt b o (ne_of_none h hld0) (s14 _ _ h)
      refine gn_norm (σ' := [some (.ref lg), some (.ref lw), some (.ref p), some (.int (k : Nat)), some (.int B0), t5, t6, some (.ref ld), some (.ref b), t9, t10, t11]) rfl ?_
      obtain ⟨gv, hgv, ga⟩ := id (G0.same old)
      obtain ⟨wv, hwv, wa⟩ := id (W0.same old)
      refine ⟨_, rfl, b, rfl, ⟨_, SqL.of hb⟩, fun D1 hD1 => ?_⟩
      refine lc_list (K := K) (a := b) (xs := natV r) (fun i Hq => Hq D1 = some (.lst ((loadW gs ws ((r).take i)).map V.int)) ∧ Same Hc Hq) ⟨by rw [upd_same]; rfl, same_new hD1⟩ (fun i Hq _ ⟨_, sm⟩ => SqL.of (sm _ _ hb)) ?_ ?_
      · rintro i v Hq hv ⟨hc, sm⟩
        obtain ⟨k, hk, rfl⟩ : ∃ k, (r)[i]? = some k ∧ v = .int (k : Nat) := by
          rw [List.getElem?_map] at hv
          cases e : (r)[i]? with
          | none => rw [e] at hv; cases hv
          | some k => rw [e] at hv; cases hv; exact ⟨k, rfl, rfl⟩
        have hkl := hlt k (List.mem_of_getElem? hk)
        obtain ⟨x, hx⟩ : ∃ x, ws[k]? = some x := ⟨_, List.getElem?_eq_getElem hkl⟩
        obtain ⟨v, hv', a, b, rfl, s1, s2⟩ := wa.getR hx
        have WX := N.wok x (List.mem_of_getElem? hx)
        obtain ⟨g, hg⟩ : ∃ g, gs[x.1]? = some g := ⟨_, List.getElem?_eq_getElem WX.s⟩
        obtain ⟨v2, hv2, a2, rfl, s3⟩ := ga.getR hg
        have tk := TK.same sm
        refine ⟨rfl, tyes ?_⟩
        refine ⟨_, rfl, _, rfl, _, rfl, lw, wv, _, _, rfl, rfl, SqL.of (sm _ _ hwv), atI_nat hv', a, _, _, .int x.1, rfl, rfl, tk.seq s1, atI_nat (j := 0) rfl, lg, gv, _, _, rfl, rfl, SqL.of (sm _ _ hgv), atI_nat hv2, a2, _, _, .int g.2, rfl, rfl, tk.seq s3, atI_nat (j := 1) rfl, _, hc, ?_, ?_, same_mut sm hD1⟩
        · unfold loadW
          rw [List.length_map, List.length_map, List.length_take]
          exact small1000 (by omega)
        · rw [upd_same, List.take_add_one, hk]
          unfold loadW
          rw [List.map_append, List.map_append]
          show _ = some (HO.lst (_ ++ [V.int (waitAt gs (wst ws k))]))
          rw [wst_at hx, waitAt_get hg]
      rintro H5 ⟨hcD1, s5⟩
      rw [nat_len, List.take_length] at hcD1
      refine ⟨D1, _, rfl, SqL.of hcD1, ?_⟩
      refine gn_norm (σ' := [some (.ref lg), some (.ref lw), some (.ref p), some (.int (k : Nat)), some (.int B0), t5, some (.int (loadW gs ws r).sum), some (.ref ld), some (.ref b), t9, t10, t11]) rfl ?_
      refine ⟨_, rfl, ?_⟩
      obtain ⟨wv, hwv, wa⟩ := id (W0.same (old.trans s5))
      refine ⟨_, rfl, b, rfl, ⟨_, SqL.of (s5 _ _ hb)⟩, fun D2 hD2 => ?_⟩
      refine lc_list (K := K) (a := b) (xs := natV r) (fun i Hq => Hq D2 = some (.lst ((loadR ws ((r).take i)).map V.int)) ∧ Same H5 Hq) ⟨by rw [upd_same]; rfl, same_new hD2⟩ (fun i Hq _ ⟨_, sm⟩ => SqL.of (sm _ _ (s5 _ _ hb))) ?_ ?_
      · rintro i v Hq hv ⟨hc, sm⟩
        obtain ⟨k, hk, rfl⟩ : ∃ k, (r)[i]? = some k ∧ v = .int (k : Nat) := by
          rw [List.getElem?_map] at hv
          cases e : (r)[i]? with
          | none => rw [e] at hv; cases hv
          | some k => rw [e] at hv; cases hv; exact ⟨k, rfl, rfl⟩
        have hkl := hlt k (List.mem_of_getElem? hk)
        obtain ⟨x, hx⟩ : ∃ x, ws[k]? = some x := ⟨_, List.getElem?_eq_getElem hkl⟩
        obtain ⟨v, hv', a, b, rfl, s1, s2⟩ := wa.getR hx
        have tk := TK.same sm
        refine ⟨rfl, tyes ?_⟩
        refine ⟨_, rfl, _, rfl, lw, wv, _, _, rfl, rfl, SqL.of (sm _ _ hwv), atI_nat hv', a, _, _, .ref b, rfl, rfl, tk.seq s1, atI_nat (j := 2) rfl, b, _, rfl, .inr (tk.seq s2), _, hc, ?_, ?_, same_mut sm hD2⟩
        · unfold loadR
          rw [List.length_map, List.length_map, List.length_take]
          exact small1000 (by omega)
        · rw [upd_same, List.take_add_one, hk]
          unfold loadR
          rw [List.map_append, List.map_append, List.length_map]
          show _ = some (HO.lst (_ ++ [V.int (regsAt ws k)]))
          rw [regsAt_get hx]
      rintro H6 ⟨hcD2, s6⟩
      rw [nat_len, List.take_length] at hcD2
      refine ⟨D2, _, rfl, SqL.of hcD2, ?_⟩
      have bR := loadR_le N hlt
      have bR0 := loadR_nn ws r
      have bW := loadW_b N hlt
      have mk := mul_b (a := (k : Int)) (b := 0) (by omega) (by omega) (Int.le_refl 0) (by decide)
      refine ⟨_, _, rfl, rfl, .inl mk, ?_⟩
      refine gn_norm (σ' := [some (.ref lg), some (.ref lw), some (.ref p), some (.int (k : Nat)), some (.int B0), t5, some (.int (loadW gs ws r).sum), some (.ref ld), some (.ref b), t9, some (.int ((k : Int) * (loadR ws r).sum)), t11]) rfl ?_
      have mB := mul_b (a := B0) (b := 0) hB0 (by omega) (Int.le_refl 0) (by decide)
      have hrU := (times_ring al).mpr hrg
      have bd := ring_bound NU hB.ex hrU
      rw [times_W al, times_R al] at bd
      refine ⟨_, rfl, _, rfl, _, _, rfl, rfl, .inl mB, _, rfl, _, _, rfl, rfl, _, rfl, ite2 (fun e => ?_) (fun _ => ?_)⟩
      · exact absurd (of_decide_eq_true e) (by omega)
      have s56 := s5.trans s6
      have hacc6 := s56 _ _ hacc
      refine ⟨_, rfl, .inl ⟨rfl, _, SqL.of hacc6⟩, _, rfl, _, rfl, (by show 2 ≤ sizeLine; decide), fun t7 ht7 => ?_⟩
      have s7 : Same H6 (upd H6 t7 (.tup [.int (loadW gs ws r).sum, .int ((k : Int) * (loadR ws r).sum)])) := same_new ht7
      have e7 : (upd H6 t7 (.tup [.int (loadW gs ws r).sum, .int ((k : Int) * (loadR ws r).sum)])) t7 = some (.tup [.int (loadW gs ws r).sum, .int ((k : Int) * (loadR ws r).sum)]) := upd_same
      generalize upd H6 t7 (.tup [.int (loadW gs ws r).sum, .int ((k : Int) * (loadR ws r).sum)]) = H7 at s7 e7
      have s57 := s56.trans s7
      have hal := aa.1
      rw [List.length_map, List.length_take] at hal
      refine ⟨ld, acc, _, rfl, rfl, s7 _ _ hacc6, (by show _ < 2 ^ 24; omega), ?_⟩
      refine ⟨_, _, _, _, _, _, acc ++ [.ref t7], rfl, upd_same, ?_, (bt.trans (But.same s57)).trans But.upd⟩
      rw [List.take_add_one, hr', List.map_append]
      exact All2.snoc (aa.imp fun _ _ z => (z.same s57).lst (s7 _ _ hacc6)) (PrV.lst (s7 _ _ hacc6) ⟨t7, rfl, e7⟩)
    rintro σ Hc ⟨t5, t6, t8, t9, t10, t11, acc, rfl, hacc, aa, bt⟩
    rw [ra.1, List.take_length] at aa
    have old : Same H Hc := fun b o h => bt b o (ne_of_none h hld0) (s14 _ _ h)
    clear bt
    refine ⟨fun σ Hx => ∃ (t5 t6 t9 t10 t11 : Option V) (sv : V), σ = [some (.ref lg), some (.ref lw), some (.ref p), some (.int (k : Nat)), some (.int B0), t5, t6, some (.ref ld), some sv, t9, t10, t11] ∧ Same Hc Hx ∧ (sv = .non ∧ walks ws (frB ws) = [] ∨ ∃ (b : Addr) (r : List Nat), sv = .ref b ∧ Hx b = some (.lst (natV r)) ∧ r ∈ walks ws (frB ws) ∧ ∀ o ∈ walks ws (frB ws), NoSlow gs us r o), ?_, ?_⟩
    · refine ⟨_, rfl, p, ng, nw, gs, us, 6, rfl, NA.same old, NU, hMU, by decide, hcU, fun hnil H' s' => ?_, fun b r H' hne s' hb0 hb hr hmax => ?_⟩
      · rw [eW] at hnil
        exact ⟨_, _, _, _, _, _, rfl, s', .inl ⟨rfl, hnil⟩⟩
      · rw [eW] at hr hmax
        exact ⟨_, _, _, _, _, _, rfl, s', .inr ⟨b, r, rfl, hb, hr, hmax⟩⟩
    rintro σ Hx ⟨t5, t6, t9, t10, t11, sv, rfl, sx, hsv⟩
    have oldx := old.trans sx
    have haccx := sx _ _ hacc
    have aax := aa.imp fun _ _ z => z.same sx
    refine ⟨_, rfl, p, ng, nw, gs, us, 6, rfl, NA.same oldx, NU, hMU, by decide, hcU, fun l2 lv H8 s8 hl2 el2 la2 => ?_⟩
    have pa := all2_mapR (f := fun r => ((loadW gs us r).sum, (loadR us r).sum)) (R := PrV H8) (la2.imp fun v r z => z)
    refine ⟨l2, lv, pairK H8, rfl, SqL.of el2, pairs_hx pa, fun ys1 q1 so1 st1 hq1 => ?_⟩
    obtain ⟨qs1, pq1, sq1, ya1⟩ := pairs_sorted pa so1 st1
    have s9 : Same H8 (upd H8 q1 (.lst ys1)) := same_new hq1
    have e9 : (upd H8 q1 (.lst ys1)) q1 = some (.lst ys1) := upd_same
    generalize upd H8 q1 (.lst ys1) = H9 at s9 e9
    have s89 := s8.trans s9
    have aa9 := aax.imp fun _ _ z => z.same s89
    refine ⟨_, rfl, ld, acc, pairK H9, rfl, SqL.of (s89 _ _ haccx), pairs_hx aa9, fun ys2 q2 so2 st2 hq2 => ?_⟩
    obtain ⟨qs2, pq2, sq2, ya2⟩ := pairs_sorted aa9 so2 st2
    have s10 : Same H9 (upd H9 q2 (.lst ys2)) := same_new hq2
    have e10 : (upd H9 q2 (.lst ys2)) q2 = some (.lst ys2) := upd_same
    generalize upd H9 q2 (.lst ys2) = H10 at s10 e10
    have em : (walks us (frB us)).map (fun r => ((loadW gs us r).sum, (loadR us r).sum)) = (walks ws (frB ws)).map (dueP gs ws k) := by
      rw [eW]
      exact List.map_congr_left fun r _ => by rw [times_W al, times_R al]; rfl
    rw [em] at pq1
    have eq12 : qs1 = qs2 := pairs_uniq ((pq1.trans (fp.map (dueP gs ws k)).symm).trans pq2.symm) sq1 sq2
    refine ⟨_, _, dp_pairs (s10 _ _ e9) (ya1.imp fun _ _ z => z.same (s9.trans s10)), dp_pairs e10 (ya2.imp fun _ _ z => z.same s10), (sh_pairs _).ok (by decide), (sh_pairs _).ok (by decide), false, ?_, iteF ?_⟩
    · rw [prsD_eq, eq12, decide_eq_true rfl]
      rfl
    have s810 := s89.trans s10
    have hacc10 := s810 _ _ haccx
    have aa10 := aax.imp fun _ _ z => z.same s810
    have eq0 : PyData.eqv (prsD ((foundL ws (ws.length + 1)).map (dueP gs ws k))) (.list []) = decide ((foundL ws (ws.length + 1)).map (dueP gs ws k) = []) := prsD_eq _ []
    have enil : decide ((foundL ws (ws.length + 1)).map (dueP gs ws k) = []) = decide (sv = .non) := by
      rcases hsv with ⟨rfl, hn⟩ | ⟨b, r, rfl, _, hr, _⟩
      · have h0 : foundL ws (ws.length + 1) = [] := by
          have := fp.length_eq
          rw [hn] at this
          exact List.eq_nil_of_length_eq_zero this
        rw [h0]
        exact (decide_eq_true rfl).trans (decide_eq_true rfl).symm
      · have h1 : r ∈ foundL ws (ws.length + 1) := fp.mem_iff.mpr hr
        rw [decide_eq_false (fun z => by rw [List.map_eq_nil_iff.mp z] at h1; cases h1), decide_eq_false (fun z => nomatch z)]
    refine ⟨_, rfl, rfl, _, rfl, (by show 0 ≤ sizeLine; decide), fun l3 hl3 => ?_⟩
    have s11 : Same H10 (upd H10 l3 (.lst [])) := same_new hl3
    have e11 : (upd H10 l3 (.lst [])) l3 = some (.lst []) := upd_same
    generalize upd H10 l3 (.lst []) = H11 at s11 e11
    have s811 := s810.trans s11
    refine ⟨_, _, dp_pairs (s811 _ _ haccx) (aax.imp fun _ _ z => z.same s811), .lst (SqL.of e11) .nil, (sh_pairs _).ok (by decide), she, rfl, false, ?_, iteF ?_⟩
    · rw [eq0, enil, decide_eq_true rfl]
      rfl
    have sx11 := oldx.trans s811
    refine ⟨_, rfl, rfl, _, rfl, ?_⟩
    rcases hsv with ⟨rfl, hn⟩ | ⟨b, r, rfl, hb, hr, hmax⟩
    · exact ite2 (fun _ => q _ sx11) (fun e => absurd (decide_eq_true rfl) e)
    refine ite2 (fun e => absurd (of_decide_eq_true e) (fun z => nomatch z)) (fun _ => ?_)
    have hrg := (mem_walks (frB_ok ws)).mp hr
    have hrl := RF.M _ hrg.rw
    have hlt := hrg.rw.lt
    have hb11 := s811 _ _ hb
    obtain ⟨gv, hgv, ga⟩ := id (G0.same sx11)
    obtain ⟨wv, hwv, wa⟩ := id (W0.same sx11)
    refine ⟨_, rfl, b, rfl, ⟨_, SqL.of hb11⟩, fun D12 hD12 => ?_⟩
    refine lc_list (K := K) (a := b) (xs := natV r) (fun i Hq => Hq D12 = some (.lst ((loadW gs ws ((r).take i)).map V.int)) ∧ Same H11 Hq) ⟨by rw [upd_same]; rfl, same_new hD12⟩ (fun i Hq _ ⟨_, sm⟩ => SqL.of (sm _ _ hb11)) ?_ ?_
    · rintro i v Hq hv ⟨hc, sm⟩
      obtain ⟨k, hk, rfl⟩ : ∃ k, (r)[i]? = some k ∧ v = .int (k : Nat) := by
        rw [List.getElem?_map] at hv
        cases e : (r)[i]? with
        | none => rw [e] at hv; cases hv
        | some k => rw [e] at hv; cases hv; exact ⟨k, rfl, rfl⟩
      have hkl := hlt k (List.mem_of_getElem? hk)
      obtain ⟨x, hx⟩ : ∃ x, ws[k]? = some x := ⟨_, List.getElem?_eq_getElem hkl⟩
      obtain ⟨v, hv', a, b, rfl, s1, s2⟩ := wa.getR hx
      have WX := N.wok x (List.mem_of_getElem? hx)
      obtain ⟨g, hg⟩ : ∃ g, gs[x.1]? = some g := ⟨_, List.getElem?_eq_getElem WX.s⟩
      obtain ⟨v2, hv2, a2, rfl, s3⟩ := ga.getR hg
      have tk := TK.same sm
      refine ⟨rfl, tyes ?_⟩
      refine ⟨_, rfl, _, rfl, _, rfl, lw, wv, _, _, rfl, rfl, SqL.of (sm _ _ hwv), atI_nat hv', a, _, _, .int x.1, rfl, rfl, tk.seq s1, atI_nat (j := 0) rfl, lg, gv, _, _, rfl, rfl, SqL.of (sm _ _ hgv), atI_nat hv2, a2, _, _, .int g.2, rfl, rfl, tk.seq s3, atI_nat (j := 1) rfl, _, hc, ?_, ?_, same_mut sm hD12⟩
      · unfold loadW
        rw [List.length_map, List.length_map, List.length_take]
        exact small1000 (by omega)
      · rw [upd_same, List.take_add_one, hk]
        unfold loadW
        rw [List.map_append, List.map_append]
        show _ = some (HO.lst (_ ++ [V.int (waitAt gs (wst ws k))]))
        rw [wst_at hx, waitAt_get hg]
    rintro H12 ⟨hcD12, s12⟩
    rw [nat_len, List.take_length] at hcD12
    refine ⟨D12, _, rfl, SqL.of hcD12, ?_⟩
    refine gn_norm (σ' := [some (.ref lg), some (.ref lw), some (.ref p), some (.int (k : Nat)), some (.int B0), t5, some (.int (loadW gs ws r).sum), some (.ref ld), some (.ref b), t9, t10, t11]) rfl ?_
    refine ⟨_, rfl, ?_⟩
    obtain ⟨wv, hwv, wa⟩ := id (W0.same (sx11.trans s12))
    refine ⟨_, rfl, b, rfl, ⟨_, SqL.of (s12 _ _ hb11)⟩, fun D13 hD13 => ?_⟩
    refine lc_list (K := K) (a := b) (xs := natV r) (fun i Hq => Hq D13 = some (.lst ((loadR ws ((r).take i)).map V.int)) ∧ Same H12 Hq) ⟨by rw [upd_same]; rfl, same_new hD13⟩ (fun i Hq _ ⟨_, sm⟩ => SqL.of (sm _ _ (s12 _ _ hb11))) ?_ ?_
    · rintro i v Hq hv ⟨hc, sm⟩
      obtain ⟨k, hk, rfl⟩ : ∃ k, (r)[i]? = some k ∧ v = .int (k : Nat) := by
        rw [List.getElem?_map] at hv
        cases e : (r)[i]? with
        | none => rw [e] at hv; cases hv
        | some k => rw [e] at hv; cases hv; exact ⟨k, rfl, rfl⟩
      have hkl := hlt k (List.mem_of_getElem? hk)
      obtain ⟨x, hx⟩ : ∃ x, ws[k]? = some x := ⟨_, List.getElem?_eq_getElem hkl⟩
      obtain ⟨v, hv', a, b, rfl, s1, s2⟩ := wa.getR hx
      have tk := TK.same sm
      refine ⟨rfl, tyes ?_⟩
      refine ⟨_, rfl, _, rfl, lw, wv, _, _, rfl, rfl, SqL.of (sm _ _ hwv), atI_nat hv', a, _, _, .ref b, rfl, rfl, tk.seq s1, atI_nat (j := 2) rfl, b, _, rfl, .inr (tk.seq s2), _, hc, ?_, ?_, same_mut sm hD13⟩
      · unfold loadR
        rw [List.length_map, List.length_map, List.length_take]
        exact small1000 (by omega)
      · rw [upd_same, List.take_add_one, hk]
        unfold loadR
        rw [List.map_append, List.map_append, List.length_map]
        show _ = some (HO.lst (_ ++ [V.int (regsAt ws k)]))
        rw [regsAt_get hx]
    rintro H13 ⟨hcD13, s13⟩
    rw [nat_len, List.take_length] at hcD13
    refine ⟨D13, _, rfl, SqL.of hcD13, ?_⟩
    have bW := loadW_b N hlt
    have mk := mul_b (a := (k : Int)) (b := 0) (by omega) (by omega) (Int.le_refl 0) (by decide)
    refine ⟨_, _, rfl, rfl, .inl mk, ?_⟩
    refine gn_norm (σ' := [some (.ref lg), some (.ref lw), some (.ref p), some (.int (k : Nat)), some (.int B0), t5, some (.int (loadW gs ws r).sum), some (.ref ld), some (.ref b), t9, some (.int ((k : Int) * (loadR ws r).sum)), t11]) rfl ?_
    have s813 := s811.trans (s12.trans s13)
    have hacc13 := s813 _ _ haccx
    have aa13 := aax.imp fun _ _ z => z.same s813
    refine ⟨_, rfl, ld, rfl, ⟨_, SqL.of hacc13⟩, fun D14 hD14 => ?_⟩
    refine lc_list (K := K) (a := ld) (xs := acc) (fun k Hd => Hd D14 = some (.lst []) ∧ Same H13 Hd) ⟨upd_same, same_new hD14⟩ (fun k Hd _ ⟨_, sd⟩ => SqL.of (sd _ _ hacc13)) ?_ ?_
    · rintro j v Hd hv ⟨hd, sd⟩
      obtain ⟨o2, ho, t2, rfl, st2⟩ := aa13.get hv
      obtain ⟨o, hoF, rfl⟩ := List.mem_map.mp (List.mem_of_getElem? ho)
      obtain ⟨hring2, hrl2⟩ := hring o hoF
      have b2 := loadW_b N hring2.rw.lt
      have sq : SqT K Hd t2 [.int (loadW gs ws o).sum, .int ((k : Int) * (loadR ws o).sum)] := .inl (.inl (sd _ _ st2))
      have m1 := mul_b (b := 0) b2.1 (by omega) (Int.le_refl 0) (by decide)
      have m2 := mul_b (b := 0) bW.1 (by omega) (Int.le_refl 0) (by decide)
      refine ⟨rfl, ?_⟩
      refine ⟨_, rfl, t2, _, _, .int (loadW gs ws o).sum, rfl, rfl, sq, atI_nat (j := 0) rfl, _, rfl, _, _, rfl, rfl, .inl m1, ?_⟩
      refine ⟨_, rfl, _, rfl, t2, _, _, .int ((k : Int) * (loadR ws o).sum), rfl, rfl, sq, atI_nat (j := 1) rfl, _, _, rfl, rfl, .inl m2, ?_⟩
      refine ⟨_, _, rfl, rfl, _, rfl, ite2 (fun e => ?_) (fun _ => ⟨hd, sd⟩)⟩
      have e := of_decide_eq_true e
      have hm := hmax o (fp.mem_iff.mp hoF)
      unfold NoSlow at hm
      rw [times_W al, times_W al, times_R al, times_R al] at hm
      exact absurd e (by omega)
    rintro H15 ⟨hd15, s15⟩
    refine ⟨(by show 0 ≤ sizeLine; decide), fun l5 hl5 => ?_⟩
    have s16 : Same H15 (upd H15 l5 (.lst [])) := same_new hl5
    have e16 : (upd H15 l5 (.lst [])) l5 = some (.lst []) := upd_same
    generalize upd H15 l5 (.lst []) = H16 at s16 e16
    exact ⟨.list [], .list [], .lst (SqL.of (s16 _ _ hd15)) .nil, .lst (SqL.of e16) .nil, she, she, q _ (oldx.trans (s813.trans (s15.trans s16)))⟩
end
end Lag

set_option maxRecDepth 100000
set_option maxHeartbeats 8000000
namespace Lag
open PySem PySem.Spec PyProof.Rows L2
abbrev sLaw : Stmt := topS 74 -- @law
def spLaw (K : PySem.W.Frag) : Sp := fun vs H Q _ => ∃ (a : Addr) (ns : List Int), vs = [.ref a] ∧ SqL K H a (ns.map V.int) ∧ ns.length ≤ 63 ∧ ∀ H', Q (.bl true) H'
section
variable {P : Program} {w : World} {K : PySem.W.Frag} {mg : Str → Option Value} {base : Heap}
abbrev nLaw : List Str := ["_law_script", "_law_k", "_law_state", "_law_gates_here", "_law_wires_here", "_law_times", "_law_net", "_law_slow"]
theorem scLaw : FnScope nLaw ["_law_script"] (defScope sLaw) := ⟨rfl, rfl, rfl, by decide +kernel, rfl, by decide +kernel, by decide +kernel⟩
theorem ok_law {f fC fD fP fI fS fR fB C : Addr} {fd fdC fdD fdP fdI fdS fdR fdB : FuncData} (F : Fun K "law" "law" sLaw f fd) (B : Bt mg) (mn : mg "min" = none) (T : NT K mg C) (DCa : DCellAt P w K mg base fC fdC) (DD : DDraw P w K mg base fD fdD) (DPa : DLParts P w K mg base fP fdP)
    (MK : Mk K C fI) (init : FnOk P w K mg base CX0 6 fI fdI ["self", "gates", "wires"] (spInit K C)) (bI : Binds K fdI ["self", "gates", "wires"] []) (DSd : DSlowed P w K mg base C fS fdS) (DRt : DRight P w K mg base C fR fdR) (DLB : DLeastBeat P w K mg base C fB fdB) :
    FnOk P w K mg base CX0 13 f fd ["_law_script"] (spLaw K) := by
  refine F.ok scLaw (fun vs H Q E h => ?_) (fun cdv A outer s H vs Q E hr h => ?_)
  · obtain ⟨a, ns, rfl, _⟩ := h
    rfl
  · obtain ⟨a, ns, rfl, hS, hlen, q⟩ := h
    have nd := scLaw.nd
    refine ⟨_, pss_cons (ps_for PassesOwn.never rfl (pi_range1 (by rfl) B.range (pa_cons (pe_callB (call_max2 rfl) (by rfl) B.max (by decide +kernel) (pa_cons pe_int (pa_cons (pe_callB (call_min2 rfl) (by rfl) mn (by decide +kernel) (pa_cons pe_int (pa_cons (pe_callB call_len_seq (by rfl) B.len PySem.boot_len (pa_cons (pv 0) pa_nil)) pa_nil))) pa_nil))) pa_nil)) (pg_name (i := 1) nd rfl (.inl rfl)) (pss_cons (ps_set (i := 2) nd rfl (.inl rfl) (pe_lst (pa_cons (pe_op op_add (pe_call DCa.ok (hr.mono (by decide)) (by rfl) DCa.mg DCa.kp DCa.bd .nil pass0 (pa_cons (pv 0) (pa_cons (pv 1) pa_nil))) (pe_op op_mul pe_int (pv 1))) pa_nil))) <|
        pss_cons (ps_asg (pe_call DPa.ok (hr.mono (by decide)) (by rfl) DPa.mg DPa.kp DPa.bd .nil pass0 (pa_cons (pv 2) (pa_cons pe_int pa_nil))) (pg_tup rfl (pgs_cons (pg_name (i := 3) nd rfl (.inl rfl)) (pgs_cons (pg_name (i := 4) nd rfl (.inl rfl)) pgs_nil)))) <|
        pss_cons (ps_set (i := 5) nd rfl (.inl rfl) (pe_op op_add pe_int (pe_call DD.ok (hr.mono (by decide)) (by rfl) DD.mg DD.kp DD.bd .nil pass0 (pa_cons (pv 2) (pa_cons pe_int pa_nil))))) <|
        pss_cons (ps_set (i := 6) nd rfl (.inl rfl) (pe_make MK init (hr.mono (by decide)) (by rfl) T.mg bI .nil pass0 (pa_cons (pv 3) (pa_cons (pv 4) pa_nil)))) <|
        pss_cons (ps_set (i := 7) nd rfl (.inl rfl) (pe_call DSd.ok (hr.mono (by decide)) (by rfl) DSd.mg DSd.kp DSd.bd .nil pass0 (pa_cons (pv 6) (pa_cons (pv 5) pa_nil)))) <|
        pss_cons (ps_if (PW.pt (pw_or (pt_not (pt_val (pe_call DRt.ok (hr.mono (by decide)) (by rfl) DRt.mg DRt.kp DRt.bd .nil pass0 (pa_cons (pv 3) (pa_cons (pv 4) (pa_cons (pv 6) (pa_cons pe_int pa_nil))))))) (pw_or1 (pt_not (pt_val (pe_call DRt.ok (hr.mono (by decide)) (by rfl) DRt.mg DRt.kp DRt.bd .nil pass0 (pa_cons (pv 3) (pa_cons (pv 4) (pa_cons (pv 7) (pa_cons (pv 5) pa_nil)))))))))) (pss_one (ps_ret pe_bl)) pss_nil) <|
        pss_one (ps_if (pt_cmpR op_gt (pe_ix ix_tup (pe_call DLB.ok (hr.mono (by decide)) (by rfl) DLB.mg DLB.kp DLB.bd .nil pass0 (pa_cons (pv 7) pa_nil)) pe_int (fun _ _ => rfl)) (pe_ix ix_tup (pe_call DLB.ok (hr.mono (by decide)) (by rfl) DLB.mg DLB.kp DLB.bd .nil pass0 (pa_cons (pv 6) pa_nil)) pe_int (fun _ _ => rfl)) (nomark _)) (pss_one (ps_ret pe_bl)) pss_nil))) <|
        pss_one (ps_ret pe_bl), ?_⟩
    refine ⟨_, rfl, a, _, rfl, .inl hS, 6, _, rfl, 1, _, rfl, _, rfl, ?_, ?_, ?_⟩
    · split <;> split <;> omega
    · split <;> split <;> omega
    refine for_range (lo := 0) (fun i σ H' => ∃ t1 t2 t3 t4 t5 t6 t7 : Option V, σ = [some (.ref a), t1, t2, t3, t4, t5, t6, t7] ∧ Same H H') ⟨_, _, _, _, _, _, _, rfl, Same.refl _⟩ ?_ (fun σ H' ⟨_, _, _, _, _, _, _, e, _⟩ => by subst e; exact q H')
    rintro i σ H0 hi ⟨t1, t2, t3, t4, t5, t6, t7, rfl, s0⟩
    have ek : (0 : Int) + (i : Nat) = ((i : Nat) : Int) := Int.zero_add _
    rw [ek]
    refine ⟨_, rfl, _, rfl, a, ns, _, rfl, by omega, s0.seq hS, fun z => ?_⟩
    refine ⟨_, rfl, _, _, rfl, rfl, .inl ⟨by decide, by decide⟩, _, _, rfl, rfl, (by show 1 ≤ sizeLine; decide), fun wl hwl => ?_⟩
    have s1 : Same H0 (upd H0 wl (.lst [.int (z + 47 * (i : Nat))])) := same_new hwl
    have W1 : WellAt wl (upd H0 wl (.lst [.int (z + 47 * (i : Nat))])) := ⟨_, upd_same, .inl ⟨_, rfl⟩⟩
    generalize upd H0 wl (.lst [.int (z + 47 * (i : Nat))]) = H1 at s1 W1
    refine gn_norm (σ' := [some (.ref a), some (.int (i : Nat)), some (.ref wl), t3, t4, t5, t6, t7]) rfl ?_
    refine ⟨_, rfl, wl, 5, rfl, by decide, by decide, W1, fun gs ws lg lw p H2 N gl24 glm hnI hwg rl3 hw72 wne c3 inner D2 hlg hlw nlgw LG2 LW2 ep => ?_⟩
    refine ⟨p, _, rfl, .inl (.inl ep), rfl, _, _, rfl, _, _, rfl, rfl, ?_⟩
    have nlg : lg ≠ wl := (W1.ne hlg).symm
    have nlw : lw ≠ wl := (W1.ne hlw).symm
    have W2 := D2.well
    have RF : RFew ws := rfew_of (d := 3) (fun r hr => by have := hr.parts N; omega) (fun g => by rw [inTo_cnt]; exact c3 g) (by decide) (Nat.le_trans (Nat.mul_le_mul_right _ (show ws.length ≤ 72 from hw72)) (by decide))
    refine gn_norm (σ' := [some (.ref a), some (.int (i : Nat)), some (.ref wl), some (.ref lg), some (.ref lw), t5, t6, t7]) rfl ?_
    refine ⟨_, rfl, wl, 3, rfl, by decide, by decide, W2, fun d7 H7 d70 d71 E7 => ⟨_, _, rfl, rfl, ?_⟩⟩
    obtain ⟨k, hk, k1, k3⟩ : ∃ k : Nat, 1 + d7 = (k : Int) ∧ 1 ≤ k ∧ k ≤ 3 := ⟨(1 + d7).toNat, by omega, by omega, by omega⟩
    refine gn_norm (σ' := [some (.ref a), some (.int (i : Nat)), some (.ref wl), some (.ref lg), some (.ref lw), some (.int (k : Nat)), t6, t7]) (by rw [← hk]; rfl) ?_
    have G7 := LG2.dr nlg W2 E7
    have L7 := LW2.dr nlw W2 E7
    refine ⟨_, rfl, _, rfl, ?_⟩
    refine net_in G7.rg L7.rw N fun p1 ng1 nw1 H8 NA8 s8 hp1 hng1 hnw1 => ?_
    refine gn_norm (σ' := [some (.ref a), some (.int (i : Nat)), some (.ref wl), some (.ref lg), some (.ref lw), some (.int (k : Nat)), some (.ref p1), t7]) rfl ?_
    refine ⟨_, rfl, _, rfl, p1, ng1, nw1, k, gs, ws, rfl, NA8, N, by omega, by omega, fun x hx => by have := rl3 x hx; omega, fun p2 ng2 nw2 H9 s9 NA9 _ _ _ => ?_⟩
    refine gn_norm (σ' := [some (.ref a), some (.int (i : Nat)), some (.ref wl), some (.ref lg), some (.ref lw), some (.int (k : Nat)), some (.ref p1), some (.ref p2)]) rfl ?_
    have al := times_rep (gs := gs) (ws := ws) (k := k) (by omega)
    have NS : NetOk gs ((repF k ws).map wovF) := (rep_fam N (by omega) (by omega) (fun x hx => by have := rl3 x hx; omega)).woven
    have al1 : All2 (TimesW 1) ws ws := ⟨rfl, fun i x y hx hy => by
      rw [hx] at hy
      cases hy
      exact ⟨rfl, rfl, (Nat.one_mul _).symm⟩⟩
    have s89 := s8.trans s9
    refine ⟨_, rfl, _, rfl, _, rfl, lg, lw, p1, ng1, nw1, gs, ws, ws, 1, rfl, G7.same s89, L7.same s89, NA8.same s9, N, N, al1, by decide, by decide, RF, by omega, gl24, fun H10 s10 => ?_⟩
    refine ⟨true, rfl, iteF ?_⟩
    refine ⟨_, rfl, _, rfl, _, rfl, _, rfl, lg, lw, p2, ng2, nw2, gs, ws, _, k, rfl, G7.same (s89.trans s10), L7.same (s89.trans s10), NA9.same s10, N, NS, al, k1, by omega, RF, by omega, gl24, fun H11 s11 => ?_⟩
    refine ⟨true, rfl, iteF ?_⟩
    have s911 := s10.trans s11
    refine ⟨_, rfl, p2, ng2, nw2, gs, _, rfl, NA9.same s911, NS, by omega, fun t12 l12 B2 L2' H12 s12 et12 _ _ hB2 _ _ _ => ?_⟩
    refine ⟨t12, _, _, .int B2, rfl, rfl, .inl (.inl et12), atI_nat (j := 0) rfl, ?_⟩
    refine ⟨_, rfl, p1, ng1, nw1, gs, ws, rfl, (NA8.same s9).same (s911.trans s12), N, by omega, fun t13 l13 B1 L1' H13 s13 et13 _ _ hB1 _ _ _ => ?_⟩
    refine ⟨t13, _, _, .int B1, rfl, rfl, .inl (.inl et13), atI_nat (j := 0) rfl, ?_⟩
    have hle : B2 ≤ B1 := hB2.le (hB1.ex.scale (by omega) al)
    refine ⟨_, _, rfl, rfl, _, rfl, ite2 (fun e => ?_) (fun _ => ?_)⟩
    · exact absurd (of_decide_eq_true e) (by omega)
    have D7 := D2.trans E7
    have sA := s89.trans (s911.trans (s12.trans s13))
    exact ⟨_, _, _, _, _, _, _, rfl, fun b o e => by
      have e0 := s0 _ _ e
      exact sA _ _ (D7.but _ _ (ne_of_none e0 hwl) (s1 _ _ e0))⟩
end
end Lag

set_option maxRecDepth 100000
set_option maxHeartbeats 8000000
namespace Lag
open PySem PySem.Spec PyProof.Rows L2
theorem all_mk {l : PySem.W.OpenLaw} {w : World} {K : PySem.W.Frag} {h : Heap} {mg : Str → Option Value} {fa C : Addr} (X : K.In h) (G : h.Ns mainGlobals mg) (hfa : mg "law" = some (.ref fa))
    {fd0 : Addr} {odd0 and0 : Option Addr} {sld0 : Array (Option Value)} {ocd0 kVd0 dcd0 pmd0 cdd0 ctd0 : Value}
    {fd1 : Addr} {odd1 and1 : Option Addr} {sld1 : Array (Option Value)} {ocd1 kVd1 dcd1 pmd1 cdd1 ctd1 : Value}
    {fd2 : Addr} {odd2 and2 : Option Addr} {sld2 : Array (Option Value)} {ocd2 kVd2 dcd2 pmd2 cdd2 ctd2 : Value}
    {fd3 : Addr} {odd3 and3 : Option Addr} {sld3 : Array (Option Value)} {ocd3 kVd3 dcd3 pmd3 cdd3 ctd3 : Value}
    {fd4 : Addr} {odd4 and4 : Option Addr} {sld4 : Array (Option Value)} {ocd4 kVd4 dcd4 pmd4 cdd4 ctd4 : Value}
    {fd5 : Addr} {odd5 and5 : Option Addr} {sld5 : Array (Option Value)} {ocd5 kVd5 dcd5 pmd5 cdd5 ctd5 : Value}
    {fd6 : Addr} {odd6 and6 : Option Addr} {sld6 : Array (Option Value)} {ocd6 kVd6 dcd6 pmd6 cdd6 ctd6 : Value}
    {fd7 : Addr} {odd7 and7 : Option Addr} {sld7 : Array (Option Value)} {ocd7 kVd7 dcd7 pmd7 cdd7 ctd7 : Value}
    {fd8 : Addr} {odd8 and8 : Option Addr} {sld8 : Array (Option Value)} {ocd8 kVd8 dcd8 pmd8 cdd8 ctd8 : Value}
    {fd9 : Addr} {odd9 and9 : Option Addr} {sld9 : Array (Option Value)} {ocd9 kVd9 dcd9 pmd9 cdd9 ctd9 : Value}
    {fd10 : Addr} {odd10 and10 : Option Addr} {sld10 : Array (Option Value)} {ocd10 kVd10 dcd10 pmd10 cdd10 ctd10 : Value}
    {fd11 : Addr} {odd11 and11 : Option Addr} {sld11 : Array (Option Value)} {ocd11 kVd11 dcd11 pmd11 cdd11 ctd11 : Value}
    {fd12 : Addr} {odd12 and12 : Option Addr} {sld12 : Array (Option Value)} {ocd12 kVd12 dcd12 pmd12 cdd12 ctd12 : Value}
    {fd13 : Addr} {odd13 and13 : Option Addr} {sld13 : Array (Option Value)} {ocd13 kVd13 dcd13 pmd13 cdd13 ctd13 : Value}
    {fd14 : Addr} {odd14 and14 : Option Addr} {sld14 : Array (Option Value)} {ocd14 kVd14 dcd14 pmd14 cdd14 ctd14 : Value}
    {fd15 : Addr} {odd15 and15 : Option Addr} {sld15 : Array (Option Value)} {ocd15 kVd15 dcd15 pmd15 cdd15 ctd15 : Value}
    {fd16 : Addr} {odd16 and16 : Option Addr} {sld16 : Array (Option Value)} {ocd16 kVd16 dcd16 pmd16 cdd16 ctd16 : Value}
    {fd17 : Addr} {odd17 and17 : Option Addr} {sld17 : Array (Option Value)} {ocd17 kVd17 dcd17 pmd17 cdd17 ctd17 : Value}
    {fd18 : Addr} {odd18 and18 : Option Addr} {sld18 : Array (Option Value)} {ocd18 kVd18 dcd18 pmd18 cdd18 ctd18 : Value}
    {fd19 : Addr} {odd19 and19 : Option Addr} {sld19 : Array (Option Value)} {ocd19 kVd19 dcd19 pmd19 cdd19 ctd19 : Value}
    {fd20 : Addr} {odd20 and20 : Option Addr} {sld20 : Array (Option Value)} {ocd20 kVd20 dcd20 pmd20 cdd20 ctd20 : Value}
    {fd21 : Addr} {odd21 and21 : Option Addr} {sld21 : Array (Option Value)} {ocd21 kVd21 dcd21 pmd21 cdd21 ctd21 : Value}
    {fd22 : Addr} {odd22 and22 : Option Addr} {sld22 : Array (Option Value)} {ocd22 kVd22 dcd22 pmd22 cdd22 ctd22 : Value}
    {fd23 : Addr} {odd23 and23 : Option Addr} {sld23 : Array (Option Value)} {ocd23 kVd23 dcd23 pmd23 cdd23 ctd23 : Value}
    {fd24 : Addr} {odd24 and24 : Option Addr} {sld24 : Array (Option Value)} {ocd24 kVd24 dcd24 pmd24 cdd24 ctd24 : Value}
    {fd25 : Addr} {odd25 and25 : Option Addr} {sld25 : Array (Option Value)} {ocd25 kVd25 dcd25 pmd25 cdd25 ctd25 : Value}
    {fd26 : Addr} {odd26 and26 : Option Addr} {sld26 : Array (Option Value)} {ocd26 kVd26 dcd26 pmd26 cdd26 ctd26 : Value}
    {fd27 : Addr} {odd27 and27 : Option Addr} {sld27 : Array (Option Value)} {ocd27 kVd27 dcd27 pmd27 cdd27 ctd27 : Value}
    {fd28 : Addr} {odd28 and28 : Option Addr} {sld28 : Array (Option Value)} {ocd28 kVd28 dcd28 pmd28 cdd28 ctd28 : Value}
    {fd29 : Addr} {odd29 and29 : Option Addr} {sld29 : Array (Option Value)} {ocd29 kVd29 dcd29 pmd29 cdd29 ctd29 : Value}
    {fd30 : Addr} {odd30 and30 : Option Addr} {sld30 : Array (Option Value)} {ocd30 kVd30 dcd30 pmd30 cdd30 ctd30 : Value}
    {fd31 : Addr} {odd31 and31 : Option Addr} {sld31 : Array (Option Value)} {ocd31 kVd31 dcd31 pmd31 cdd31 ctd31 : Value}
    {fd32 : Addr} {odd32 and32 : Option Addr} {sld32 : Array (Option Value)} {ocd32 kVd32 dcd32 pmd32 cdd32 ctd32 : Value}
    {fd33 : Addr} {odd33 and33 : Option Addr} {sld33 : Array (Option Value)} {ocd33 kVd33 dcd33 pmd33 cdd33 ctd33 : Value}
    {fd34 : Addr} {odd34 and34 : Option Addr} {sld34 : Array (Option Value)} {ocd34 kVd34 dcd34 pmd34 cdd34 ctd34 : Value}
    {fd35 : Addr} {odd35 and35 : Option Addr} {sld35 : Array (Option Value)} {ocd35 kVd35 dcd35 pmd35 cdd35 ctd35 : Value}
    {fd36 : Addr} {odd36 and36 : Option Addr} {sld36 : Array (Option Value)} {ocd36 kVd36 dcd36 pmd36 cdd36 ctd36 : Value}
    {fd37 : Addr} {odd37 and37 : Option Addr} {sld37 : Array (Option Value)} {ocd37 kVd37 dcd37 pmd37 cdd37 ctd37 : Value}
    {fd38 : Addr} {odd38 and38 : Option Addr} {sld38 : Array (Option Value)} {ocd38 kVd38 dcd38 pmd38 cdd38 ctd38 : Value}
    {fd39 : Addr} {odd39 and39 : Option Addr} {sld39 : Array (Option Value)} {ocd39 kVd39 dcd39 pmd39 cdd39 ctd39 : Value}
    {fd40 : Addr} {odd40 and40 : Option Addr} {sld40 : Array (Option Value)} {ocd40 kVd40 dcd40 pmd40 cdd40 ctd40 : Value}
    {fd41 : Addr} {odd41 and41 : Option Addr} {sld41 : Array (Option Value)} {ocd41 kVd41 dcd41 pmd41 cdd41 ctd41 : Value}
    {fd42 : Addr} {odd42 and42 : Option Addr} {sld42 : Array (Option Value)} {ocd42 kVd42 dcd42 pmd42 cdd42 ctd42 : Value}
    {fd43 : Addr} {odd43 and43 : Option Addr} {sld43 : Array (Option Value)} {ocd43 kVd43 dcd43 pmd43 cdd43 ctd43 : Value}
    {fd44 : Addr} {odd44 and44 : Option Addr} {sld44 : Array (Option Value)} {ocd44 kVd44 dcd44 pmd44 cdd44 ctd44 : Value}
    {fd45 : Addr} {odd45 and45 : Option Addr} {sld45 : Array (Option Value)} {ocd45 kVd45 dcd45 pmd45 cdd45 ctd45 : Value}
    {fd46 : Addr} {odd46 and46 : Option Addr} {sld46 : Array (Option Value)} {ocd46 kVd46 dcd46 pmd46 cdd46 ctd46 : Value}
    {fd47 : Addr} {odd47 and47 : Option Addr} {sld47 : Array (Option Value)} {ocd47 kVd47 dcd47 pmd47 cdd47 ctd47 : Value}
    {fd48 : Addr} {odd48 and48 : Option Addr} {sld48 : Array (Option Value)} {ocd48 kVd48 dcd48 pmd48 cdd48 ctd48 : Value}
    {fm0 : Addr} {odm0 anm0 : Option Addr} {slm0 : Array (Option Value)} {ocm0 kVm0 dcm0 pmm0 cdm0 ctm0 : Value}
    {tGW tGA tMS : Tok}
    {aK nnK : Nat} {ddK : Option Addr} {ssK : Array (Option Value)} {tK0 tK1 tK2 tK3 tK4 tK5 tK6 tK7 : Tok}
    {aW nnW : Nat} {ddW : Option Addr} {ssW : Array (Option Value)} {tW0 tW1 : Tok}
    {aF nnF : Nat} {ddF : Option Addr} {ssF : Array (Option Value)} {tF0 tF1 : Tok}
    (aC : PySem.W.nsIn K mainGlobals "Net" = some (some (.ref C)))
    (ad0 : PySem.W.nsIn K mainGlobals "is_whole" = some (some (.ref fd0)))
    (ld0 : K.lookup fd0 = some ⟨ocd0, odd0, .func (PySem.W.fnOf "is_whole" "is_whole" (defArgs sWhole) (defBody sWhole) (defScope sWhole) .none kVd0 dcd0 pmd0 and0 cdd0 ctd0), sld0⟩)
    (cd0 : PySem.W.codeIn K cdd0 "is_whole" = true)
    (kd0 : PySem.W.keepIn K (.ref fd0) = true)
    (ad1 : PySem.W.nsIn K mainGlobals "is_whole_from_to" = some (some (.ref fd1)))
    (ld1 : K.lookup fd1 = some ⟨ocd1, odd1, .func (PySem.W.fnOf "is_whole_from_to" "is_whole_from_to" (defArgs sFromTo) (defBody sFromTo) (defScope sFromTo) .none kVd1 dcd1 pmd1 and1 cdd1 ctd1), sld1⟩)
    (cd1 : PySem.W.codeIn K cdd1 "is_whole_from_to" = true)
    (kd1 : PySem.W.keepIn K (.ref fd1) = true)
    (ad2 : PySem.W.nsIn K mainGlobals "is_worth" = some (some (.ref fd2)))
    (ld2 : K.lookup fd2 = some ⟨ocd2, odd2, .func (PySem.W.fnOf "is_worth" "is_worth" (defArgs sWorth) (defBody sWorth) (defScope sWorth) .none kVd2 dcd2 pmd2 and2 cdd2 ctd2), sld2⟩)
    (cd2 : PySem.W.codeIn K cdd2 "is_worth" = true)
    (kd2 : PySem.W.keepIn K (.ref fd2) = true)
    (ad3 : PySem.W.nsIn K mainGlobals "is_gate" = some (some (.ref fd3)))
    (ld3 : K.lookup fd3 = some ⟨ocd3, odd3, .func (PySem.W.fnOf "is_gate" "is_gate" (defArgs sIsGate) (defBody sIsGate) (defScope sIsGate) .none kVd3 dcd3 pmd3 and3 cdd3 ctd3), sld3⟩)
    (cd3 : PySem.W.codeIn K cdd3 "is_gate" = true)
    (kd3 : PySem.W.keepIn K (.ref fd3) = true)
    (ad4 : PySem.W.nsIn K mainGlobals "check_gates" = some (some (.ref fd4)))
    (ld4 : K.lookup fd4 = some ⟨ocd4, odd4, .func (PySem.W.fnOf "check_gates" "check_gates" (defArgs sChkGates) (defBody sChkGates) (defScope sChkGates) .none kVd4 dcd4 pmd4 and4 cdd4 ctd4), sld4⟩)
    (cd4 : PySem.W.codeIn K cdd4 "check_gates" = true)
    (kd4 : PySem.W.keepIn K (.ref fd4) = true)
    (ad5 : PySem.W.nsIn K mainGlobals "is_wire" = some (some (.ref fd5)))
    (ld5 : K.lookup fd5 = some ⟨ocd5, odd5, .func (PySem.W.fnOf "is_wire" "is_wire" (defArgs sIsWire) (defBody sIsWire) (defScope sIsWire) .none kVd5 dcd5 pmd5 and5 cdd5 ctd5), sld5⟩)
    (cd5 : PySem.W.codeIn K cdd5 "is_wire" = true)
    (kd5 : PySem.W.keepIn K (.ref fd5) = true)
    (ad6 : PySem.W.nsIn K mainGlobals "is_taken" = some (some (.ref fd6)))
    (ld6 : K.lookup fd6 = some ⟨ocd6, odd6, .func (PySem.W.fnOf "is_taken" "is_taken" (defArgs sTaken) (defBody sTaken) (defScope sTaken) .none kVd6 dcd6 pmd6 and6 cdd6 ctd6), sld6⟩)
    (cd6 : PySem.W.codeIn K cdd6 "is_taken" = true)
    (kd6 : PySem.W.keepIn K (.ref fd6) = true)
    (ad7 : PySem.W.nsIn K mainGlobals "check_wires" = some (some (.ref fd7)))
    (ld7 : K.lookup fd7 = some ⟨ocd7, odd7, .func (PySem.W.fnOf "check_wires" "check_wires" (defArgs sChkWires) (defBody sChkWires) (defScope sChkWires) .none kVd7 dcd7 pmd7 and7 cdd7 ctd7), sld7⟩)
    (cd7 : PySem.W.codeIn K cdd7 "check_wires" = true)
    (kd7 : PySem.W.keepIn K (.ref fd7) = true)
    (ad8 : PySem.W.nsIn K mainGlobals "order_along" = some (some (.ref fd8)))
    (ld8 : K.lookup fd8 = some ⟨ocd8, odd8, .func (PySem.W.fnOf "order_along" "order_along" (defArgs sAlong) (defBody sAlong) (defScope sAlong) .none kVd8 dcd8 pmd8 and8 cdd8 ctd8), sld8⟩)
    (cd8 : PySem.W.codeIn K cdd8 "order_along" = true)
    (kd8 : PySem.W.keepIn K (.ref fd8) = true)
    (ad9 : PySem.W.nsIn K mainGlobals "bare_order" = some (some (.ref fd9)))
    (ld9 : K.lookup fd9 = some ⟨ocd9, odd9, .func (PySem.W.fnOf "bare_order" "bare_order" (defArgs sOrder) (defBody sOrder) (defScope sOrder) .none kVd9 dcd9 pmd9 and9 cdd9 ctd9), sld9⟩)
    (cd9 : PySem.W.codeIn K cdd9 "bare_order" = true)
    (kd9 : PySem.W.keepIn K (.ref fd9) = true)
    (ad10 : PySem.W.nsIn K mainGlobals "check_rings" = some (some (.ref fd10)))
    (ld10 : K.lookup fd10 = some ⟨ocd10, odd10, .func (PySem.W.fnOf "check_rings" "check_rings" (defArgs sChkRings) (defBody sChkRings) (defScope sChkRings) .none kVd10 dcd10 pmd10 and10 cdd10 ctd10), sld10⟩)
    (cd10 : PySem.W.codeIn K cdd10 "check_rings" = true)
    (kd10 : PySem.W.keepIn K (.ref fd10) = true)
    (ad11 : PySem.W.nsIn K mainGlobals "is_outer" = some (some (.ref fd11)))
    (ld11 : K.lookup fd11 = some ⟨ocd11, odd11, .func (PySem.W.fnOf "is_outer" "is_outer" (defArgs sOuter) (defBody sOuter) (defScope sOuter) .none kVd11 dcd11 pmd11 and11 cdd11 ctd11), sld11⟩)
    (cd11 : PySem.W.codeIn K cdd11 "is_outer" = true)
    (kd11 : PySem.W.keepIn K (.ref fd11) = true)
    (ad12 : PySem.W.nsIn K mainGlobals "best_from" = some (some (.ref fd12)))
    (ld12 : K.lookup fd12 = some ⟨ocd12, odd12, .func (PySem.W.fnOf "best_from" "best_from" (defArgs sBestFrom) (defBody sBestFrom) (defScope sBestFrom) .none kVd12 dcd12 pmd12 and12 cdd12 ctd12), sld12⟩)
    (cd12 : PySem.W.codeIn K cdd12 "best_from" = true)
    (kd12 : PySem.W.keepIn K (.ref fd12) = true)
    (ad13 : PySem.W.nsIn K mainGlobals "way_to" = some (some (.ref fd13)))
    (ld13 : K.lookup fd13 = some ⟨ocd13, odd13, .func (PySem.W.fnOf "way_to" "way_to" (defArgs sWayTo) (defBody sWayTo) (defScope sWayTo) .none kVd13 dcd13 pmd13 and13 cdd13 ctd13), sld13⟩)
    (cd13 : PySem.W.codeIn K cdd13 "way_to" = true)
    (kd13 : PySem.W.keepIn K (.ref fd13) = true)
    (ad14 : PySem.W.nsIn K mainGlobals "wait_of" = some (some (.ref fd14)))
    (ld14 : K.lookup fd14 = some ⟨ocd14, odd14, .func (PySem.W.fnOf "wait_of" "wait_of" (defArgs sWaitOf) (defBody sWaitOf) (defScope sWaitOf) .none kVd14 dcd14 pmd14 and14 cdd14 ctd14), sld14⟩)
    (cd14 : PySem.W.codeIn K cdd14 "wait_of" = true)
    (kd14 : PySem.W.keepIn K (.ref fd14) = true)
    (ad15 : PySem.W.nsIn K mainGlobals "room_of" = some (some (.ref fd15)))
    (ld15 : K.lookup fd15 = some ⟨ocd15, odd15, .func (PySem.W.fnOf "room_of" "room_of" (defArgs sRoomOf) (defBody sRoomOf) (defScope sRoomOf) .none kVd15 dcd15 pmd15 and15 cdd15 ctd15), sld15⟩)
    (cd15 : PySem.W.codeIn K cdd15 "room_of" = true)
    (kd15 : PySem.W.keepIn K (.ref fd15) = true)
    (ad16 : PySem.W.nsIn K mainGlobals "spots_in" = some (some (.ref fd16)))
    (ld16 : K.lookup fd16 = some ⟨ocd16, odd16, .func (PySem.W.fnOf "spots_in" "spots_in" (defArgs sSpotsIn) (defBody sSpotsIn) (defScope sSpotsIn) .none kVd16 dcd16 pmd16 and16 cdd16 ctd16), sld16⟩)
    (cd16 : PySem.W.codeIn K cdd16 "spots_in" = true)
    (kd16 : PySem.W.keepIn K (.ref fd16) = true)
    (ad17 : PySem.W.nsIn K mainGlobals "spots_of" = some (some (.ref fd17)))
    (ld17 : K.lookup fd17 = some ⟨ocd17, odd17, .func (PySem.W.fnOf "spots_of" "spots_of" (defArgs sSpotsOf) (defBody sSpotsOf) (defScope sSpotsOf) .none kVd17 dcd17 pmd17 and17 cdd17 ctd17), sld17⟩)
    (cd17 : PySem.W.codeIn K cdd17 "spots_of" = true)
    (kd17 : PySem.W.keepIn K (.ref fd17) = true)
    (ad18 : PySem.W.nsIn K mainGlobals "lags_at" = some (some (.ref fd18)))
    (ld18 : K.lookup fd18 = some ⟨ocd18, odd18, .func (PySem.W.fnOf "lags_at" "lags_at" (defArgs sLagsAt) (defBody sLagsAt) (defScope sLagsAt) .none kVd18 dcd18 pmd18 and18 cdd18 ctd18), sld18⟩)
    (cd18 : PySem.W.codeIn K cdd18 "lags_at" = true)
    (kd18 : PySem.W.keepIn K (.ref fd18) = true)
    (ad19 : PySem.W.nsIn K mainGlobals "bounds_for" = some (some (.ref fd19)))
    (ld19 : K.lookup fd19 = some ⟨ocd19, odd19, .func (PySem.W.fnOf "bounds_for" "bounds_for" (defArgs sBoundsFor) (defBody sBoundsFor) (defScope sBoundsFor) .none kVd19 dcd19 pmd19 and19 cdd19 ctd19), sld19⟩)
    (cd19 : PySem.W.codeIn K cdd19 "bounds_for" = true)
    (kd19 : PySem.W.keepIn K (.ref fd19) = true)
    (ad20 : PySem.W.nsIn K mainGlobals "ring_from" = some (some (.ref fd20)))
    (ld20 : K.lookup fd20 = some ⟨ocd20, odd20, .func (PySem.W.fnOf "ring_from" "ring_from" (defArgs sRingFrom) (defBody sRingFrom) (defScope sRingFrom) .none kVd20 dcd20 pmd20 and20 cdd20 ctd20), sld20⟩)
    (cd20 : PySem.W.codeIn K cdd20 "ring_from" = true)
    (kd20 : PySem.W.keepIn K (.ref fd20) = true)
    (ad21 : PySem.W.nsIn K mainGlobals "settle" = some (some (.ref fd21)))
    (ld21 : K.lookup fd21 = some ⟨ocd21, odd21, .func (PySem.W.fnOf "settle" "settle" (defArgs sSettle) (defBody sSettle) (defScope sSettle) .none kVd21 dcd21 pmd21 and21 cdd21 ctd21), sld21⟩)
    (cd21 : PySem.W.codeIn K cdd21 "settle" = true)
    (kd21 : PySem.W.keepIn K (.ref fd21) = true)
    (ad22 : PySem.W.nsIn K mainGlobals "check_beat" = some (some (.ref fd22)))
    (ld22 : K.lookup fd22 = some ⟨ocd22, odd22, .func (PySem.W.fnOf "check_beat" "check_beat" (defArgs sChkBeat) (defBody sChkBeat) (defScope sChkBeat) .none kVd22 dcd22 pmd22 and22 cdd22 ctd22), sld22⟩)
    (cd22 : PySem.W.codeIn K cdd22 "check_beat" = true)
    (kd22 : PySem.W.keepIn K (.ref fd22) = true)
    (ad23 : PySem.W.nsIn K mainGlobals "for_beat" = some (some (.ref fd23)))
    (ld23 : K.lookup fd23 = some ⟨ocd23, odd23, .func (PySem.W.fnOf "for_beat" "for_beat" (defArgs sForBeat) (defBody sForBeat) (defScope sForBeat) .none kVd23 dcd23 pmd23 and23 cdd23 ctd23), sld23⟩)
    (cd23 : PySem.W.codeIn K cdd23 "for_beat" = true)
    (kd23 : PySem.W.keepIn K (.ref fd23) = true)
    (ad24 : PySem.W.nsIn K mainGlobals "between" = some (some (.ref fd24)))
    (ld24 : K.lookup fd24 = some ⟨ocd24, odd24, .func (PySem.W.fnOf "between" "between" (defArgs sBetween) (defBody sBetween) (defScope sBetween) .none kVd24 dcd24 pmd24 and24 cdd24 ctd24), sld24⟩)
    (cd24 : PySem.W.codeIn K cdd24 "between" = true)
    (kd24 : PySem.W.keepIn K (.ref fd24) = true)
    (ad25 : PySem.W.nsIn K mainGlobals "least_beat" = some (some (.ref fd25)))
    (ld25 : K.lookup fd25 = some ⟨ocd25, odd25, .func (PySem.W.fnOf "least_beat" "least_beat" (defArgs sLeastBeat) (defBody sLeastBeat) (defScope sLeastBeat) .none kVd25 dcd25 pmd25 and25 cdd25 ctd25), sld25⟩)
    (cd25 : PySem.W.codeIn K cdd25 "least_beat" = true)
    (kd25 : PySem.W.keepIn K (.ref fd25) = true)
    (ad26 : PySem.W.nsIn K mainGlobals "are_of_one_form" = some (some (.ref fd26)))
    (ld26 : K.lookup fd26 = some ⟨ocd26, odd26, .func (PySem.W.fnOf "are_of_one_form" "are_of_one_form" (defArgs sOneForm) (defBody sOneForm) (defScope sOneForm) .none kVd26 dcd26 pmd26 and26 cdd26 ctd26), sld26⟩)
    (cd26 : PySem.W.codeIn K cdd26 "are_of_one_form" = true)
    (kd26 : PySem.W.keepIn K (.ref fd26) = true)
    (ad27 : PySem.W.nsIn K mainGlobals "have_as_many" = some (some (.ref fd27)))
    (ld27 : K.lookup fd27 = some ⟨ocd27, odd27, .func (PySem.W.fnOf "have_as_many" "have_as_many" (defArgs sAsMany) (defBody sAsMany) (defScope sAsMany) .none kVd27 dcd27 pmd27 and27 cdd27 ctd27), sld27⟩)
    (cd27 : PySem.W.codeIn K cdd27 "have_as_many" = true)
    (kd27 : PySem.W.keepIn K (.ref fd27) = true)
    (ad28 : PySem.W.nsIn K mainGlobals "check_nets" = some (some (.ref fd28)))
    (ld28 : K.lookup fd28 = some ⟨ocd28, odd28, .func (PySem.W.fnOf "check_nets" "check_nets" (defArgs sChkNets) (defBody sChkNets) (defScope sChkNets) .none kVd28 dcd28 pmd28 and28 cdd28 ctd28), sld28⟩)
    (cd28 : PySem.W.codeIn K cdd28 "check_nets" = true)
    (kd28 : PySem.W.keepIn K (.ref fd28) = true)
    (ad29 : PySem.W.nsIn K mainGlobals "woven_wire" = some (some (.ref fd29)))
    (ld29 : K.lookup fd29 = some ⟨ocd29, odd29, .func (PySem.W.fnOf "woven_wire" "woven_wire" (defArgs sWovenW) (defBody sWovenW) (defScope sWovenW) .none kVd29 dcd29 pmd29 and29 cdd29 ctd29), sld29⟩)
    (cd29 : PySem.W.codeIn K cdd29 "woven_wire" = true)
    (kd29 : PySem.W.keepIn K (.ref fd29) = true)
    (ad30 : PySem.W.nsIn K mainGlobals "woven" = some (some (.ref fd30)))
    (ld30 : K.lookup fd30 = some ⟨ocd30, odd30, .func (PySem.W.fnOf "woven" "woven" (defArgs sWoven) (defBody sWoven) (defScope sWoven) .none kVd30 dcd30 pmd30 and30 cdd30 ctd30), sld30⟩)
    (cd30 : PySem.W.codeIn K cdd30 "woven" = true)
    (kd30 : PySem.W.keepIn K (.ref fd30) = true)
    (ad31 : PySem.W.nsIn K mainGlobals "check_streams" = some (some (.ref fd31)))
    (ld31 : K.lookup fd31 = some ⟨ocd31, odd31, .func (PySem.W.fnOf "check_streams" "check_streams" (defArgs sChkStreams) (defBody sChkStreams) (defScope sChkStreams) .none kVd31 dcd31 pmd31 and31 cdd31 ctd31), sld31⟩)
    (cd31 : PySem.W.codeIn K cdd31 "check_streams" = true)
    (kd31 : PySem.W.keepIn K (.ref fd31) = true)
    (ad32 : PySem.W.nsIn K mainGlobals "slowed" = some (some (.ref fd32)))
    (ld32 : K.lookup fd32 = some ⟨ocd32, odd32, .func (PySem.W.fnOf "slowed" "slowed" (defArgs sSlowed) (defBody sSlowed) (defScope sSlowed) .none kVd32 dcd32 pmd32 and32 cdd32 ctd32), sld32⟩)
    (cd32 : PySem.W.codeIn K cdd32 "slowed" = true)
    (kd32 : PySem.W.keepIn K (.ref fd32) = true)
    (ad33 : PySem.W.nsIn K mainGlobals "gates_back" = some (some (.ref fd33)))
    (ld33 : K.lookup fd33 = some ⟨ocd33, odd33, .func (PySem.W.fnOf "gates_back" "gates_back" (defArgs sBack) (defBody sBack) (defScope sBack) .none kVd33 dcd33 pmd33 and33 cdd33 ctd33), sld33⟩)
    (cd33 : PySem.W.codeIn K cdd33 "gates_back" = true)
    (kd33 : PySem.W.keepIn K (.ref fd33) = true)
    (ad34 : PySem.W.nsIn K mainGlobals "add_rings" = some (some (.ref fd34)))
    (ld34 : K.lookup fd34 = some ⟨ocd34, odd34, .func (PySem.W.fnOf "add_rings" "add_rings" (defArgs sAddR) (defBody sAddR) (defScope sAddR) .none kVd34 dcd34 pmd34 and34 cdd34 ctd34), sld34⟩)
    (cd34 : PySem.W.codeIn K cdd34 "add_rings" = true)
    (kd34 : PySem.W.keepIn K (.ref fd34) = true)
    (ad35 : PySem.W.nsIn K mainGlobals "rings" = some (some (.ref fd35)))
    (ld35 : K.lookup fd35 = some ⟨ocd35, odd35, .func (PySem.W.fnOf "rings" "rings" (defArgs sRings) (defBody sRings) (defScope sRings) .none kVd35 dcd35 pmd35 and35 cdd35 ctd35), sld35⟩)
    (cd35 : PySem.W.codeIn K cdd35 "rings" = true)
    (kd35 : PySem.W.keepIn K (.ref fd35) = true)
    (ad36 : PySem.W.nsIn K mainGlobals "load_of" = some (some (.ref fd36)))
    (ld36 : K.lookup fd36 = some ⟨ocd36, odd36, .func (PySem.W.fnOf "load_of" "load_of" (defArgs sLoadOf) (defBody sLoadOf) (defScope sLoadOf) .none kVd36 dcd36 pmd36 and36 cdd36 ctd36), sld36⟩)
    (cd36 : PySem.W.codeIn K cdd36 "load_of" = true)
    (kd36 : PySem.W.keepIn K (.ref fd36) = true)
    (ad37 : PySem.W.nsIn K mainGlobals "loads" = some (some (.ref fd37)))
    (ld37 : K.lookup fd37 = some ⟨ocd37, odd37, .func (PySem.W.fnOf "loads" "loads" (defArgs sLoads) (defBody sLoads) (defScope sLoads) .none kVd37 dcd37 pmd37 and37 cdd37 ctd37), sld37⟩)
    (cd37 : PySem.W.codeIn K cdd37 "loads" = true)
    (kd37 : PySem.W.keepIn K (.ref fd37) = true)
    (ad38 : PySem.W.nsIn K mainGlobals "is_slower" = some (some (.ref fd38)))
    (ld38 : K.lookup fd38 = some ⟨ocd38, odd38, .func (PySem.W.fnOf "is_slower" "is_slower" (defArgs sIsSlow) (defBody sIsSlow) (defScope sIsSlow) .none kVd38 dcd38 pmd38 and38 cdd38 ctd38), sld38⟩)
    (cd38 : PySem.W.codeIn K cdd38 "is_slower" = true)
    (kd38 : PySem.W.keepIn K (.ref fd38) = true)
    (ad39 : PySem.W.nsIn K mainGlobals "slowest" = some (some (.ref fd39)))
    (ld39 : K.lookup fd39 = some ⟨ocd39, odd39, .func (PySem.W.fnOf "slowest" "slowest" (defArgs sSlow) (defBody sSlow) (defScope sSlow) .none kVd39 dcd39 pmd39 and39 cdd39 ctd39), sld39⟩)
    (cd39 : PySem.W.codeIn K cdd39 "slowest" = true)
    (kd39 : PySem.W.keepIn K (.ref fd39) = true)
    (ad40 : PySem.W.nsIn K mainGlobals "_law_cell_at" = some (some (.ref fd40)))
    (ld40 : K.lookup fd40 = some ⟨ocd40, odd40, .func (PySem.W.fnOf "_law_cell_at" "_law_cell_at" (defArgs sCellAt) (defBody sCellAt) (defScope sCellAt) .none kVd40 dcd40 pmd40 and40 cdd40 ctd40), sld40⟩)
    (cd40 : PySem.W.codeIn K cdd40 "_law_cell_at" = true)
    (kd40 : PySem.W.keepIn K (.ref fd40) = true)
    (ad41 : PySem.W.nsIn K mainGlobals "_law_digit" = some (some (.ref fd41)))
    (ld41 : K.lookup fd41 = some ⟨ocd41, odd41, .func (PySem.W.fnOf "_law_digit" "_law_digit" (defArgs sDigit) (defBody sDigit) (defScope sDigit) .none kVd41 dcd41 pmd41 and41 cdd41 ctd41), sld41⟩)
    (cd41 : PySem.W.codeIn K cdd41 "_law_digit" = true)
    (kd41 : PySem.W.keepIn K (.ref fd41) = true)
    (ad42 : PySem.W.nsIn K mainGlobals "_law_gates" = some (some (.ref fd42)))
    (ld42 : K.lookup fd42 = some ⟨ocd42, odd42, .func (PySem.W.fnOf "_law_gates" "_law_gates" (defArgs sGates) (defBody sGates) (defScope sGates) .none kVd42 dcd42 pmd42 and42 cdd42 ctd42), sld42⟩)
    (cd42 : PySem.W.codeIn K cdd42 "_law_gates" = true)
    (kd42 : PySem.W.keepIn K (.ref fd42) = true)
    (ad43 : PySem.W.nsIn K mainGlobals "_law_worths" = some (some (.ref fd43)))
    (ld43 : K.lookup fd43 = some ⟨ocd43, odd43, .func (PySem.W.fnOf "_law_worths" "_law_worths" (defArgs sLWorths) (defBody sLWorths) (defScope sLWorths) .none kVd43 dcd43 pmd43 and43 cdd43 ctd43), sld43⟩)
    (cd43 : PySem.W.codeIn K cdd43 "_law_worths" = true)
    (kd43 : PySem.W.keepIn K (.ref fd43) = true)
    (ad44 : PySem.W.nsIn K mainGlobals "_law_wires" = some (some (.ref fd44)))
    (ld44 : K.lookup fd44 = some ⟨ocd44, odd44, .func (PySem.W.fnOf "_law_wires" "_law_wires" (defArgs sLWires) (defBody sLWires) (defScope sLWires) .none kVd44 dcd44 pmd44 and44 cdd44 ctd44), sld44⟩)
    (cd44 : PySem.W.codeIn K cdd44 "_law_wires" = true)
    (kd44 : PySem.W.keepIn K (.ref fd44) = true)
    (ad45 : PySem.W.nsIn K mainGlobals "_law_parts" = some (some (.ref fd45)))
    (ld45 : K.lookup fd45 = some ⟨ocd45, odd45, .func (PySem.W.fnOf "_law_parts" "_law_parts" (defArgs sLParts) (defBody sLParts) (defScope sLParts) .none kVd45 dcd45 pmd45 and45 cdd45 ctd45), sld45⟩)
    (cd45 : PySem.W.codeIn K cdd45 "_law_parts" = true)
    (kd45 : PySem.W.keepIn K (.ref fd45) = true)
    (ad46 : PySem.W.nsIn K mainGlobals "_law_rings" = some (some (.ref fd46)))
    (ld46 : K.lookup fd46 = some ⟨ocd46, odd46, .func (PySem.W.fnOf "_law_rings" "_law_rings" (defArgs sLRings) (defBody sLRings) (defScope sLRings) .none kVd46 dcd46 pmd46 and46 cdd46 ctd46), sld46⟩)
    (cd46 : PySem.W.codeIn K cdd46 "_law_rings" = true)
    (kd46 : PySem.W.keepIn K (.ref fd46) = true)
    (ad47 : PySem.W.nsIn K mainGlobals "_law_right" = some (some (.ref fd47)))
    (ld47 : K.lookup fd47 = some ⟨ocd47, odd47, .func (PySem.W.fnOf "_law_right" "_law_right" (defArgs sRight) (defBody sRight) (defScope sRight) .none kVd47 dcd47 pmd47 and47 cdd47 ctd47), sld47⟩)
    (cd47 : PySem.W.codeIn K cdd47 "_law_right" = true)
    (kd47 : PySem.W.keepIn K (.ref fd47) = true)
    (ad48 : PySem.W.nsIn K mainGlobals "law" = some (some (.ref fd48)))
    (ld48 : K.lookup fd48 = some ⟨ocd48, odd48, .func (PySem.W.fnOf "law" "law" (defArgs sLaw) (defBody sLaw) (defScope sLaw) .none kVd48 dcd48 pmd48 and48 cdd48 ctd48), sld48⟩)
    (cd48 : PySem.W.codeIn K cdd48 "law" = true)
    (kd48 : PySem.W.keepIn K (.ref fd48) = true)
    (am0 : PySem.W.findIn K (.ref C) "__init__" = some (some (.ref fm0)))
    (im0 : PySem.W.isFn K (.ref fm0) = true)
    (lm0 : K.lookup fm0 = some ⟨ocm0, odm0, .func (PySem.W.fnOf "__init__" "Net.__init__" (defArgs sInit) (defBody sInit) (defScope sInit) .none kVm0 dcm0 pmm0 anm0 cdm0 ctm0), slm0⟩)
    (cm0 : PySem.W.codeIn K cdm0 "Net.__init__" = true)
    (km0 : PySem.W.keepIn K (.ref fm0) = true)
    (pgC : PySem.W.plainGet K C Str.empty = true)
    (hdC : PySem.W.hasDictIn K C = true)
    (poC : PySem.W.plainOver K C = true)
    (saC : PySem.W.findIn K (.ref C) "__setattr__" = some (some (.builtin "object.__setattr__")))
    (mkC : PySem.W.makesIn K C = true)
    (kcC : PySem.W.keepIn K (.ref C) = true)
    (nG : PySem.W.findIn K (.ref C) "gates" = some none)
    (nW : PySem.W.findIn K (.ref C) "wires" = some none)
    (ha : PySem.W.findIn K (.ref C) "__class__" = some (some (.builtin "object.__class__")))
    (hn : PySem.W.specialIn K (.builtin "object.__class__") "__get__" = some (some (.builtin "getset_descriptor.__get__")))
    (htk : PySem.W.takesIn K (.builtin "object.__class__") = some true)
    (hmo : PySem.W.mroIn K C (.type "object") = some true)
    (zisi : PySem.W.nsIn K mainGlobals "isinstance" = some none)
    (zint : PySem.W.nsIn K mainGlobals "int" = some none)
    (zbool : PySem.W.nsIn K mainGlobals "bool" = some none)
    (zlen : PySem.W.nsIn K mainGlobals "len" = some none)
    (ztuple : PySem.W.nsIn K mainGlobals "tuple" = some none)
    (zstr : PySem.W.nsIn K mainGlobals "str" = some none)
    (zlist : PySem.W.nsIn K mainGlobals "list" = some none)
    (zall : PySem.W.nsIn K mainGlobals "all" = some none)
    (zenum : PySem.W.nsIn K mainGlobals "enumerate" = some none)
    (zzip : PySem.W.nsIn K mainGlobals "zip" = some none)
    (zrange : PySem.W.nsIn K mainGlobals "range" = some none)
    (zmax : PySem.W.nsIn K mainGlobals "max" = some none)
    (zmin : PySem.W.nsIn K mainGlobals "min" = some none)
    (zsorted : PySem.W.nsIn K mainGlobals "sorted" = some none)
    (zsum : PySem.W.nsIn K mainGlobals "sum" = some none)
    (zset : PySem.W.nsIn K mainGlobals "set" = some none)
    (gGW : PySem.W.nsIn K mainGlobals "GREATEST_WORTH" = some (some (.int 96 tGW)))
    (gGA : PySem.W.nsIn K mainGlobals "GREATEST_WAIT" = some (some (.int 100 tGA)))
    (gMS : PySem.W.nsIn K mainGlobals "MOST_STREAMS" = some (some (.int 4 tMS)))
    (gK : PySem.W.nsIn K mainGlobals "KINDS" = some (some (.ref aK)))
    (oK : K.lookup aK = some ⟨.type "tuple", ddK, .seq #[.str "in" tK0, .str "out" tK1, .str "sum" tK2, .str "times" tK3, .str "most" tK4, .str "least" tK5, .str "first" tK6, .str "one" tK7] nnK, ssK⟩)
    (gW : PySem.W.nsIn K mainGlobals "OUTER_KINDS" = some (some (.ref aW)))
    (oW : K.lookup aW = some ⟨.type "tuple", ddW, .seq #[.str "in" tW0, .str "out" tW1] nnW, ssW⟩)
    (gF : PySem.W.nsIn K mainGlobals "KINDS_WITH_A_WIRE" = some (some (.ref aF)))
    (oF : K.lookup aF = some ⟨.type "tuple", ddF, .seq #[.str "out" tF0, .str "first" tF1] nnF, ssF⟩) :
    ∃ fd : FuncData, (∀ (s : Shared) (v : Value), BindsTo s fd ⟨[v], []⟩ [("_law_script", v)]) ∧ ∀ base : Heap, K.In base → base.Ns mainGlobals mg → FnOk l.prog w K mg base CX0 13 fa fd ["_law_script"] (spLaw K) := by
  have e := hfa.symm.trans (PySem.W.mg_of X G ad48)
  cases e
  have Fd0 := fun_mk (st := sWhole) ld0 cd0 kd0
  have Fd1 := fun_mk (st := sFromTo) ld1 cd1 kd1
  have Fd2 := fun_mk (st := sWorth) ld2 cd2 kd2
  have Fd3 := fun_mk (st := sIsGate) ld3 cd3 kd3
  have Fd4 := fun_mk (st := sChkGates) ld4 cd4 kd4
  have Fd5 := fun_mk (st := sIsWire) ld5 cd5 kd5
  have Fd6 := fun_mk (st := sTaken) ld6 cd6 kd6
  have Fd7 := fun_mk (st := sChkWires) ld7 cd7 kd7
  have Fd8 := fun_mk (st := sAlong) ld8 cd8 kd8
  have Fd9 := fun_mk (st := sOrder) ld9 cd9 kd9
  have Fd10 := fun_mk (st := sChkRings) ld10 cd10 kd10
  have Fd11 := fun_mk (st := sOuter) ld11 cd11 kd11
  have Fd12 := fun_mk (st := sBestFrom) ld12 cd12 kd12
  have Fd13 := fun_mk (st := sWayTo) ld13 cd13 kd13
  have Fd14 := fun_mk (st := sWaitOf) ld14 cd14 kd14
  have Fd15 := fun_mk (st := sRoomOf) ld15 cd15 kd15
  have Fd16 := fun_mk (st := sSpotsIn) ld16 cd16 kd16
  have Fd17 := fun_mk (st := sSpotsOf) ld17 cd17 kd17
  have Fd18 := fun_mk (st := sLagsAt) ld18 cd18 kd18
  have Fd19 := fun_mk (st := sBoundsFor) ld19 cd19 kd19
  have Fd20 := fun_mk (st := sRingFrom) ld20 cd20 kd20
  have Fd21 := fun_mk (st := sSettle) ld21 cd21 kd21
  have Fd22 := fun_mk (st := sChkBeat) ld22 cd22 kd22
  have Fd23 := fun_mk (st := sForBeat) ld23 cd23 kd23
  have Fd24 := fun_mk (st := sBetween) ld24 cd24 kd24
  have Fd25 := fun_mk (st := sLeastBeat) ld25 cd25 kd25
  have Fd26 := fun_mk (st := sOneForm) ld26 cd26 kd26
  have Fd27 := fun_mk (st := sAsMany) ld27 cd27 kd27
  have Fd28 := fun_mk (st := sChkNets) ld28 cd28 kd28
  have Fd29 := fun_mk (st := sWovenW) ld29 cd29 kd29
  have Fd30 := fun_mk (st := sWoven) ld30 cd30 kd30
  have Fd31 := fun_mk (st := sChkStreams) ld31 cd31 kd31
  have Fd32 := fun_mk (st := sSlowed) ld32 cd32 kd32
  have Fd33 := fun_mk (st := sBack) ld33 cd33 kd33
  have Fd34 := fun_mk (st := sAddR) ld34 cd34 kd34
  have Fd35 := fun_mk (st := sRings) ld35 cd35 kd35
  have Fd36 := fun_mk (st := sLoadOf) ld36 cd36 kd36
  have Fd37 := fun_mk (st := sLoads) ld37 cd37 kd37
  have Fd38 := fun_mk (st := sIsSlow) ld38 cd38 kd38
  have Fd39 := fun_mk (st := sSlow) ld39 cd39 kd39
  have Fd40 := fun_mk (st := sCellAt) ld40 cd40 kd40
  have Fd41 := fun_mk (st := sDigit) ld41 cd41 kd41
  have Fd42 := fun_mk (st := sGates) ld42 cd42 kd42
  have Fd43 := fun_mk (st := sLWorths) ld43 cd43 kd43
  have Fd44 := fun_mk (st := sLWires) ld44 cd44 kd44
  have Fd45 := fun_mk (st := sLParts) ld45 cd45 kd45
  have Fd46 := fun_mk (st := sLRings) ld46 cd46 kd46
  have Fd47 := fun_mk (st := sRight) ld47 cd47 kd47
  have Fd48 := fun_mk (st := sLaw) ld48 cd48 kd48
  have Fm0 := fun_mk (st := sInit) lm0 cm0 km0
  have B : Bt mg := ⟨PySem.W.mg_none_of X G zisi, PySem.W.mg_none_of X G zint, PySem.W.mg_none_of X G zbool, PySem.W.mg_none_of X G zlen, PySem.W.mg_none_of X G ztuple, PySem.W.mg_none_of X G zstr, PySem.W.mg_none_of X G zlist, PySem.W.mg_none_of X G zall, PySem.W.mg_none_of X G zenum, PySem.W.mg_none_of X G zzip, PySem.W.mg_none_of X G zrange, PySem.W.mg_none_of X G zmax⟩
  have b_min := PySem.W.mg_none_of X G zmin
  have b_sorted := PySem.W.mg_none_of X G zsorted
  have b_sum := PySem.W.mg_none_of X G zsum
  have b_set := PySem.W.mg_none_of X G zset
  have Cn : Cns K mg aK aW aF := ⟨⟨_, PySem.W.mg_of X G gGW⟩, ⟨_, PySem.W.mg_of X G gGA⟩, PySem.W.mg_of X G gK, fun _ => .inr ⟨_, _, _, oK, rfl, rfl, (by show 8 ≤ sizeLine; decide), .cons ⟨_, rfl⟩ (.cons ⟨_, rfl⟩ (.cons ⟨_, rfl⟩ (.cons ⟨_, rfl⟩ (.cons ⟨_, rfl⟩ (.cons ⟨_, rfl⟩ (.cons ⟨_, rfl⟩ (.cons ⟨_, rfl⟩ (.nil))))))))⟩, PySem.W.mg_of X G gW, fun _ => .inr ⟨_, _, _, oW, rfl, rfl, (by show 2 ≤ sizeLine; decide), .cons ⟨_, rfl⟩ (.cons ⟨_, rfl⟩ (.nil))⟩, PySem.W.mg_of X G gF, fun _ => .inr ⟨_, _, _, oF, rfl, rfl, (by show 2 ≤ sizeLine; decide), .cons ⟨_, rfl⟩ (.cons ⟨_, rfl⟩ (.nil))⟩⟩
  have i_MS : ∃ t, mg "MOST_STREAMS" = some (.int 4 t) := ⟨_, PySem.W.mg_of X G gMS⟩
  have T : NT K mg C := ⟨⟨pgC, hdC, poC, saC⟩, nG, nW, PySem.W.mg_of X G aC⟩
  have Y : NTy K C := ⟨ha, hn, htk, hmo⟩
  have bm0 := Fm0.binds (ps := ["self", "gates", "wires"]) fun _ _ _ _ _ _ us hl => match us, hl with | [_, _, _], _ => rfl
  refine ⟨PySem.W.fnOf "law" "law" (defArgs sLaw) (defBody sLaw) (defScope sLaw) .none kVd48 dcd48 pmd48 and48 cdd48 ctd48, fun s v => .of_eq rfl, fun base _ _ => ?_⟩
  have whole := ok_whole (P := l.prog) (w := w) (base := base) Fd0 (PySem.W.mg_of X G ad0) B
  have ft := ok_fromTo (P := l.prog) (w := w) (base := base) Fd1 (PySem.W.mg_of X G ad1) whole
  have wo := ok_worth (P := l.prog) (w := w) (base := base) Fd2 (PySem.W.mg_of X G ad2) Cn ft
  have ig := ok_isGate (P := l.prog) (w := w) (base := base) Fd3 (PySem.W.mg_of X G ad3) B Cn ft
  have cg := ok_chkGates (P := l.prog) (w := w) (base := base) Fd4 (PySem.W.mg_of X G ad4) B ig
  have iw := ok_isWire (P := l.prog) (w := w) (base := base) Fd5 (PySem.W.mg_of X G ad5) B ft wo
  have tk := ok_taken (P := l.prog) (w := w) (base := base) Fd6 (PySem.W.mg_of X G ad6)
  have cw := ok_chkWires (P := l.prog) (w := w) (base := base) Fd7 (PySem.W.mg_of X G ad7) B Cn iw tk
  have al := ok_along (P := l.prog) (w := w) (base := base) Fd8 (PySem.W.mg_of X G ad8) B
  have od := ok_order (P := l.prog) (w := w) (base := base) Fd9 (PySem.W.mg_of X G ad9) B al
  have cr := ok_chkRings (P := l.prog) (w := w) (base := base) Fd10 (PySem.W.mg_of X G ad10) B od
  have init := ok_init (P := l.prog) (w := w) (base := base) Fm0 T B cg cw cr
  have MK : Mk K C fm0 := ⟨mkC, am0, im0, kcC⟩
  have ou := ok_outer (P := l.prog) (w := w) (base := base) Fd11 (PySem.W.mg_of X G ad11) Cn
  have bf := ok_bestFrom (P := l.prog) (w := w) (base := base) Fd12 (PySem.W.mg_of X G ad12) B T
  have wy := ok_wayTo (P := l.prog) (w := w) (base := base) Fd13 (PySem.W.mg_of X G ad13) B T
  have wto := ok_waitOf (P := l.prog) (w := w) (base := base) Fd14 (PySem.W.mg_of X G ad14) B b_sum T
  have rmo := ok_roomOf (P := l.prog) (w := w) (base := base) Fd15 (PySem.W.mg_of X G ad15) B b_sum T wto
  have spi := ok_spotsIn (P := l.prog) (w := w) (base := base) Fd16 (PySem.W.mg_of X G ad16) B T
  have spo := ok_spotsOf (P := l.prog) (w := w) (base := base) Fd17 (PySem.W.mg_of X G ad17) B T ou
  have lat := ok_lagsAt (P := l.prog) (w := w) (base := base) Fd18 (PySem.W.mg_of X G ad18) B T spo
  have bdf := ok_boundsFor (P := l.prog) (w := w) (base := base) Fd19 (PySem.W.mg_of X G ad19) B b_sorted T spo bf wy rmo
  have rgf := ok_ringF (P := l.prog) (w := w) (base := base) Fd20 (PySem.W.mg_of X G ad20) B
  have stl := ok_settle (P := l.prog) (w := w) (base := base) Fd21 (PySem.W.mg_of X G ad21) B rgf
  have chb := ok_chkB (P := l.prog) (w := w) (base := base) Fd22 (PySem.W.mg_of X G ad22) whole
  have fbt := ok_forBeat (P := l.prog) (w := w) (base := base) Fd23 (PySem.W.mg_of X G ad23) B T chb stl spi bdf lat
  have btw := ok_between (P := l.prog) (w := w) (base := base) Fd24 (PySem.W.mg_of X G ad24) B b_sorted T bf
  have lbt := ok_leastBeat (P := l.prog) (w := w) (base := base) Fd25 (PySem.W.mg_of X G ad25) B b_sorted b_set btw fbt
  have of1 := ok_oneForm (P := l.prog) (w := w) (base := base) Fd26 (PySem.W.mg_of X G ad26) T
  have asm := ok_asMany (P := l.prog) (w := w) (base := base) Fd27 (PySem.W.mg_of X G ad27) B T
  have ckn := ok_chkNets (P := l.prog) (w := w) (base := base) Fd28 (PySem.W.mg_of X G ad28) B T Y i_MS of1 asm
  have wvw := ok_wovenW (P := l.prog) (w := w) (base := base) Fd29 (PySem.W.mg_of X G ad29) B T
  have wov := ok_woven (P := l.prog) (w := w) (base := base) Fd30 (PySem.W.mg_of X G ad30) B T ckn wvw MK init bm0
  have cst := ok_chkStreams (P := l.prog) (w := w) (base := base) Fd31 (PySem.W.mg_of X G ad31) i_MS ft
  have slo := ok_slowed (P := l.prog) (w := w) (base := base) Fd32 (PySem.W.mg_of X G ad32) cst wov
  have bck := ok_back (P := l.prog) (w := w) (base := base) Fd33 (PySem.W.mg_of X G ad33) B T
  have adr := ok_addR (P := l.prog) (w := w) (base := base) Fd34 (PySem.W.mg_of X G ad34) B T bck 8
  have rgs := ok_rings (P := l.prog) (w := w) (base := base) Fd35 (PySem.W.mg_of X G ad35) B T adr
  have lof := ok_loadOf (P := l.prog) (w := w) (base := base) Fd36 (PySem.W.mg_of X G ad36) B b_sum T
  have lds := ok_loads (P := l.prog) (w := w) (base := base) Fd37 (PySem.W.mg_of X G ad37) lof rgs
  have isl := ok_isSlow (P := l.prog) (w := w) (base := base) Fd38 (PySem.W.mg_of X G ad38)
  have slw := ok_slow (P := l.prog) (w := w) (base := base) Fd39 (PySem.W.mg_of X G ad39) lof rgs isl
  have ca := ok_cellAt (P := l.prog) (w := w) (base := base) Fd40 (PySem.W.mg_of X G ad40) B.len
  have dg := ok_digit (P := l.prog) (w := w) (base := base) Fd41 (PySem.W.mg_of X G ad41) B
  have ga := ok_gates (P := l.prog) (w := w) (base := base) Fd42 (PySem.W.mg_of X G ad42) B dg
  have lw := ok_lworths (P := l.prog) (w := w) (base := base) Fd43 (PySem.W.mg_of X G ad43) B dg
  have wi := ok_lwires (P := l.prog) (w := w) (base := base) Fd44 (PySem.W.mg_of X G ad44) B dg lw
  have pa := ok_lparts (P := l.prog) (w := w) (base := base) Fd45 (PySem.W.mg_of X G ad45) B dg ga wi
  have lrg := ok_lrings2 (P := l.prog) (w := w) (base := base) Fd46 (PySem.W.mg_of X G ad46) B b_min
  have rgt := ok_right (P := l.prog) (w := w) (base := base) Fd47 (PySem.W.mg_of X G ad47) B b_sum b_sorted lbt lrg slw lds
  exact ok_law Fd48 B b_min T ca dg pa MK init bm0 slo rgt lbt
end Lag

set_option maxRecDepth 100000
open PySem PySem.W PyProof.Rows
set_option maxRecDepth 100000 in
set_option maxHeartbeats 0 in
theorem PySem.Challenge.cw_lagshift_k52_whole_rings_bound_the_beat_holds : PySem.Challenge.rw_lagshift_k52_whole_rings_bound_the_beat.Holds := by
  w_on; o_law; k_head; (case hw => w_witness2)
  k_fill
  refine L2.walk_of (l := PySem.Challenge.rw_lagshift_k52_whole_rings_bound_the_beat) (n := 63) (k := 13) (x := "_law_script") (CX := fun _ => L2.CX0) (sp := fun w => Lag.spLaw _) rfl (by decide) rfl ⟨rfl, by decide, by decide⟩ (fun w h Y => PySem.W.kIn_of Y) ?F (fun _ _ a ns hl _ hS => ⟨a, ns, rfl, hS, hl, fun _ => rfl⟩) (fun _ _ _ _ _ h => h)
  case F =>
    intro w mg fa h KX G hmg
    refine' Lag.all_mk KX G hmg ?aC ?ad0 ?ld0 ?cd0 ?kd0 ?ad1 ?ld1 ?cd1 ?kd1 ?ad2 ?ld2 ?cd2 ?kd2 ?ad3 ?ld3 ?cd3 ?kd3 ?ad4 ?ld4 ?cd4 ?kd4 ?ad5 ?ld5 ?cd5 ?kd5 ?ad6 ?ld6 ?cd6 ?kd6 ?ad7 ?ld7 ?cd7 ?kd7 ?ad8 ?ld8 ?cd8 ?kd8 ?ad9 ?ld9 ?cd9 ?kd9 ?ad10 ?ld10 ?cd10 ?kd10 ?ad11 ?ld11 ?cd11 ?kd11 ?ad12 ?ld12 ?cd12 ?kd12 ?ad13 ?ld13 ?cd13 ?kd13 ?ad14 ?ld14 ?cd14 ?kd14 ?ad15 ?ld15 ?cd15 ?kd15 ?ad16 ?ld16 ?cd16 ?kd16 ?ad17 ?ld17 ?cd17 ?kd17 ?ad18 ?ld18 ?cd18 ?kd18 ?ad19 ?ld19 ?cd19 ?kd19 ?ad20 ?ld20 ?cd20 ?kd20 ?ad21 ?ld21 ?cd21 ?kd21 ?ad22 ?ld22 ?cd22 ?kd22 ?ad23 ?ld23 ?cd23 ?kd23 ?ad24 ?ld24 ?cd24 ?kd24 ?ad25 ?ld25 ?cd25 ?kd25 ?ad26 ?ld26 ?cd26 ?kd26 ?ad27 ?ld27 ?cd27 ?kd27 ?ad28 ?ld28 ?cd28 ?kd28 ?ad29 ?ld29 ?cd29 ?kd29 ?ad30 ?ld30 ?cd30 ?kd30 ?ad31 ?ld31 ?cd31 ?kd31 ?ad32 ?ld32 ?cd32 ?kd32 ?ad33 ?ld33 ?cd33 ?kd33 ?ad34 ?ld34 ?cd34 ?kd34 ?ad35 ?ld35 ?cd35 ?kd35 ?ad36 ?ld36 ?cd36 ?kd36 ?ad37 ?ld37 ?cd37 ?kd37 ?ad38 ?ld38 ?cd38 ?kd38 ?ad39 ?ld39 ?cd39 ?kd39 ?ad40 ?ld40 ?cd40 ?kd40 ?ad41 ?ld41 ?cd41 ?kd41 ?ad42 ?ld42 ?cd42 ?kd42 ?ad43 ?ld43 ?cd43 ?kd43 ?ad44 ?ld44 ?cd44 ?kd44 ?ad45 ?ld45 ?cd45 ?kd45 ?ad46 ?ld46 ?cd46 ?kd46 ?ad47 ?ld47 ?cd47 ?kd47 ?ad48 ?ld48 ?cd48 ?kd48 ?am0 ?im0 ?lm0 ?cm0 ?km0 ?pgC ?hdC ?poC ?saC ?mkC ?kcC ?nG ?nW ?ha ?hn ?htk ?hmo ?zisi ?zint ?zbool ?zlen ?ztuple ?zstr ?zlist ?zall ?zenum ?zzip ?zrange ?zmax ?zmin ?zsorted ?zsum ?zset ?gGW ?gGA ?gMS ?gK ?oK ?gW ?oW ?gF ?oF
    (case aC => k_is)
    (case ad0 => k_is)
    (case ld0 => k_is)
    (case cd0 => k_is)
    (case kd0 => k_is)
    (case ad1 => k_is)
    (case ld1 => k_is)
    (case cd1 => k_is)
    (case kd1 => k_is)
    (case ad2 => k_is)
    (case ld2 => k_is)
    (case cd2 => k_is)
    (case kd2 => k_is)
    (case ad3 => k_is)
    (case ld3 => k_is)
    (case cd3 => k_is)
    (case kd3 => k_is)
    (case ad4 => k_is)
    (case ld4 => k_is)
    (case cd4 => k_is)
    (case kd4 => k_is)
    (case ad5 => k_is)
    (case ld5 => k_is)
    (case cd5 => k_is)
    (case kd5 => k_is)
    (case ad6 => k_is)
    (case ld6 => k_is)
    (case cd6 => k_is)
    (case kd6 => k_is)
    (case ad7 => k_is)
    (case ld7 => k_is)
    (case cd7 => k_is)
    (case kd7 => k_is)
    (case ad8 => k_is)
    (case ld8 => k_is)
    (case cd8 => k_is)
    (case kd8 => k_is)
    (case ad9 => k_is)
    (case ld9 => k_is)
    (case cd9 => k_is)
    (case kd9 => k_is)
    (case ad10 => k_is)
    (case ld10 => k_is)
    (case cd10 => k_is)
    (case kd10 => k_is)
    (case ad11 => k_is)
    (case ld11 => k_is)
    (case cd11 => k_is)
    (case kd11 => k_is)
    (case ad12 => k_is)
    (case ld12 => k_is)
    (case cd12 => k_is)
    (case kd12 => k_is)
    (case ad13 => k_is)
    (case ld13 => k_is)
    (case cd13 => k_is)
    (case kd13 => k_is)
    (case ad14 => k_is)
    (case ld14 => k_is)
    (case cd14 => k_is)
    (case kd14 => k_is)
    (case ad15 => k_is)
    (case ld15 => k_is)
    (case cd15 => k_is)
    (case kd15 => k_is)
    (case ad16 => k_is)
    (case ld16 => k_is)
    (case cd16 => k_is)
    (case kd16 => k_is)
    (case ad17 => k_is)
    (case ld17 => k_is)
    (case cd17 => k_is)
    (case kd17 => k_is)
    (case ad18 => k_is)
    (case ld18 => k_is)
    (case cd18 => k_is)
    (case kd18 => k_is)
    (case ad19 => k_is)
    (case ld19 => k_is)
    (case cd19 => k_is)
    (case kd19 => k_is)
    (case ad20 => k_is)
    (case ld20 => k_is)
    (case cd20 => k_is)
    (case kd20 => k_is)
    (case ad21 => k_is)
    (case ld21 => k_is)
    (case cd21 => k_is)
    (case kd21 => k_is)
    (case ad22 => k_is)
    (case ld22 => k_is)
    (case cd22 => k_is)
    (case kd22 => k_is)
    (case ad23 => k_is)
    (case ld23 => k_is)
    (case cd23 => k_is)
    (case kd23 => k_is)
    (case ad24 => k_is)
    (case ld24 => k_is)
    (case cd24 => k_is)
    (case kd24 => k_is)
    (case ad25 => k_is)
    (case ld25 => k_is)
    (case cd25 => k_is)
    (case kd25 => k_is)
    (case ad26 => k_is)
    (case ld26 => k_is)
    (case cd26 => k_is)
    (case kd26 => k_is)
    (case ad27 => k_is)
    (case ld27 => k_is)
    (case cd27 => k_is)
    (case kd27 => k_is)
    (case ad28 => k_is)
    (case ld28 => k_is)
    (case cd28 => k_is)
    (case kd28 => k_is)
    (case ad29 => k_is)
    (case ld29 => k_is)
    (case cd29 => k_is)
    (case kd29 => k_is)
    (case ad30 => k_is)
    (case ld30 => k_is)
    (case cd30 => k_is)
    (case kd30 => k_is)
    (case ad31 => k_is)
    (case ld31 => k_is)
    (case cd31 => k_is)
    (case kd31 => k_is)
    (case ad32 => k_is)
    (case ld32 => k_is)
    (case cd32 => k_is)
    (case kd32 => k_is)
    (case ad33 => k_is)
    (case ld33 => k_is)
    (case cd33 => k_is)
    (case kd33 => k_is)
    (case ad34 => k_is)
    (case ld34 => k_is)
    (case cd34 => k_is)
    (case kd34 => k_is)
    (case ad35 => k_is)
    (case ld35 => k_is)
    (case cd35 => k_is)
    (case kd35 => k_is)
    (case ad36 => k_is)
    (case ld36 => k_is)
    (case cd36 => k_is)
    (case kd36 => k_is)
    (case ad37 => k_is)
    (case ld37 => k_is)
    (case cd37 => k_is)
    (case kd37 => k_is)
    (case ad38 => k_is)
    (case ld38 => k_is)
    (case cd38 => k_is)
    (case kd38 => k_is)
    (case ad39 => k_is)
    (case ld39 => k_is)
    (case cd39 => k_is)
    (case kd39 => k_is)
    (case ad40 => k_is)
    (case ld40 => k_is)
    (case cd40 => k_is)
    (case kd40 => k_is)
    (case ad41 => k_is)
    (case ld41 => k_is)
    (case cd41 => k_is)
    (case kd41 => k_is)
    (case ad42 => k_is)
    (case ld42 => k_is)
    (case cd42 => k_is)
    (case kd42 => k_is)
    (case ad43 => k_is)
    (case ld43 => k_is)
    (case cd43 => k_is)
    (case kd43 => k_is)
    (case ad44 => k_is)
    (case ld44 => k_is)
    (case cd44 => k_is)
    (case kd44 => k_is)
    (case ad45 => k_is)
    (case ld45 => k_is)
    (case cd45 => k_is)
    (case kd45 => k_is)
    (case ad46 => k_is)
    (case ld46 => k_is)
    (case cd46 => k_is)
    (case kd46 => k_is)
    (case ad47 => k_is)
    (case ld47 => k_is)
    (case cd47 => k_is)
    (case kd47 => k_is)
    (case ad48 => k_is)
    (case ld48 => k_is)
    (case cd48 => k_is)
    (case kd48 => k_is)
    (case am0 => k_is)
    (case im0 => k_is)
    (case lm0 => k_is)
    (case cm0 => k_is)
    (case km0 => k_is)
    (case pgC => k_is)
    (case hdC => k_is)
    (case poC => k_is)
    (case saC => k_is)
    (case mkC => k_is)
    (case kcC => k_is)
    (case nG => k_is)
    (case nW => k_is)
    (case ha => k_is)
    (case hn => k_is)
    (case htk => k_is)
    (case hmo => k_is)
    (case zisi => k_is)
    (case zint => k_is)
    (case zbool => k_is)
    (case zlen => k_is)
    (case ztuple => k_is)
    (case zstr => k_is)
    (case zlist => k_is)
    (case zall => k_is)
    (case zenum => k_is)
    (case zzip => k_is)
    (case zrange => k_is)
    (case zmax => k_is)
    (case zmin => k_is)
    (case zsorted => k_is)
    (case zsum => k_is)
    (case zset => k_is)
    (case gGW => k_is)
    (case gGA => k_is)
    (case gMS => k_is)
    (case gK => k_is)
    (case oK => k_is)
    (case gW => k_is)
    (case oW => k_is)
    (case gF => k_is)
    (case oF => k_is)

