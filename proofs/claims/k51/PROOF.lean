import PyProof.Rows.All
import Wide.All
import OpenK.AllK
import Wide.FinOn
import HandS.ForMost
import HandS.IsInst
import HandS.Evl
import HandS.Flow
import HandS.Conv
import HandS.Wide
import HandS.Walk
import HandS.Zip
import HandS.OwnEq
import HandS.Style
import HandS.TupAny
import HandS.NamedTupSort
import KE.LtSeq
import HandS.TupMul
import HandS.Words
import HandS.Deep
import PySem.Challenge.RW_lagshift_k51_rings_and_loads
set_option Elab.async false
set_option linter.all false
set_option maxRecDepth 100000
set_option maxHeartbeats 4000000
namespace Lag
open PySem PySem.Spec PyProof.Rows L2
/-! ### the text by its places -/
def topS (i : Nat) : Stmt := PySem.Challenge.pw_lagshift_k51_rings_and_loads.main.body.getD i (.Pass ⟨0, 0, 0, 0⟩)
abbrev sCellAt : Stmt := topS 37 -- @_law_cell_at
/-! ### heaps -/
/-- all stands as it stood but at w -/
def But (w : Addr) (H H' : Hp) : Prop := ∀ b o, b ≠ w → H b = some o → H' b = some o
theorem But.refl (w : Addr) (H : Hp) : But w H H := fun _ _ _ h => h
theorem But.trans {w : Addr} {H H1 H2 : Hp} (a : But w H H1) (b : But w H1 H2) : But w H H2 := fun c o n h => b c o n (a c o n h)
theorem But.same {w : Addr} {H H1 : Hp} (a : Same H H1) : But w H H1 := fun c o _ h => a c o h
theorem But.upd {w : Addr} {H : Hp} {o : HO} : But w H (upd H w o) := fun c u n h => by rw [upd_ne n]; exact h
theorem But.new {w p : Addr} {H : Hp} {o : HO} (h : H p = none) : But w H (L2.upd H p o) := fun c u n e => by rw [upd_ne (ne_of_none e h)]; exact e
theorem same_new {H : Hp} {p : Addr} {o : HO} (h : H p = none) : Same H (upd H p o) := fun b x e => by rw [upd_ne (ne_of_none e h)]; exact e
/-- an object that H does not know may be changed -/
theorem same_mut {H H' : Hp} {p : Addr} {o : HO} (e : Same H H') (h : H p = none) : Same H (upd H' p o) := fun a u ha => by rw [upd_ne (ne_of_none ha h)]; exact e a u ha
theorem But.mut {w p : Addr} {H H' : Hp} {o : HO} (e : But w H H') (h : H p = none) : But w H (L2.upd H' p o) := fun a u n ha => by rw [upd_ne (ne_of_none ha h)]; exact e a u n ha
theorem But.seq {K : PySem.W.Frag} {w a : Addr} {H H' : Hp} {xs : List V} (e : But w H H') (n : a ≠ w) (h : SqL K H a xs) : SqL K H' a xs := by
  rcases h with (h | ⟨o, h⟩) | h
  · exact .inl (.inl (e _ _ n h))
  · exact .inl (.inr ⟨o, e _ _ n h⟩)
  · exact .inr h
/-- at w the state: one number, or three -/
def StOk (xs : List V) : Prop := (∃ a : Int, xs = [.int a]) ∨ ∃ a b c : Int, xs = [.int a, .int b, .int c]
def WellAt (w : Addr) (H : Hp) : Prop := ∃ xs : List V, H w = some (.lst xs) ∧ StOk xs
theorem WellAt.new {w p : Addr} {H : Hp} {o : HO} (W : WellAt w H) (h : H p = none) : WellAt w (upd H p o) := by
  obtain ⟨xs, e, k⟩ := W
  exact ⟨xs, by rw [upd_ne (ne_of_none e h)]; exact e, k⟩
theorem WellAt.same {w : Addr} {H H' : Hp} (W : WellAt w H) (s : Same H H') : WellAt w H' := by
  obtain ⟨xs, e, k⟩ := W
  exact ⟨xs, s _ _ e, k⟩
theorem WellAt.ne {w p : Addr} {H : Hp} (W : WellAt w H) (h : H p = none) : w ≠ p := by
  obtain ⟨xs, e, k⟩ := W
  exact ne_of_none e h
/-- a draw of the well: what stood stands, the well is one -/
structure Dr (w : Addr) (H H' : Hp) : Prop where
  but : But w H H'
  well : WellAt w H'
theorem Dr.trans {w : Addr} {H H1 H2 : Hp} (a : Dr w H H1) (b : Dr w H1 H2) : Dr w H H2 := ⟨a.but.trans b.but, b.well⟩
theorem Dr.free {w p : Addr} {H H' : Hp} (d : Dr w H H') (W : WellAt w H) (h : H' p = none) : H p = none := by
  cases q : H p with
  | none => rfl
  | some o =>
    have n : p ≠ w := (d.well.ne h).symm
    rw [d.but _ _ n q] at h
    cases h
/-! ### the promises of the draws -/
def spCellAt (K : PySem.W.Frag) : Sp := fun vs H Q _ => ∃ (a : Addr) (ns : List Int) (k : Int), vs = [.ref a, .int k] ∧ 0 ≤ k ∧ SqL K H a (ns.map V.int) ∧ ∀ z : Int, Q (.int z) H
section
variable {P : Program} {w : World} {K : PySem.W.Frag} {mg : Str → Option Value} {base : Heap}
/-- a def at its name: it keeps its promise, its name holds it, its arguments bind -/
structure Df (P : Program) (w : World) (K : PySem.W.Frag) (mg : Str → Option Value) (base : Heap) (k : Nat) (name : Str) (ps : List Str) (sp : Sp) (f : Addr) (fd : FuncData) : Prop where
  ok : FnOk P w K mg base CX0 k f fd ps sp
  mg : mg name = some (.ref f)
  kp : PySem.W.keepIn K (.ref f) = true
  bd : Binds K fd ps []
/-! ### _law_cell_at -/
theorem scCellAt : FnScope ["_law_script", "_law_k"] ["_law_script", "_law_k"] (defScope sCellAt) := ⟨rfl, rfl, rfl, by decide +kernel, rfl, by decide +kernel, by decide +kernel⟩
abbrev DCellAt (P : Program) (w : World) (K : PySem.W.Frag) (mg : Str → Option Value) (base : Heap) := Df P w K mg base 1 "_law_cell_at" ["_law_script", "_law_k"] (spCellAt K)
theorem ok_cellAt {f : Addr} {fd : FuncData} (F : Fun K "_law_cell_at" "_law_cell_at" sCellAt f fd) (hm : mg "_law_cell_at" = some (.ref f)) (ml : mg "len" = none) : DCellAt P w K mg base f fd := by
  refine ⟨?_, hm, F.kp, F.binds fun _ _ _ _ _ _ us hl => match us, hl with | [_, _], _ => rfl⟩
  refine F.ok scCellAt (fun vs H Q E h => ?_) (fun cdv A outer s H vs Q E hr h => ?_)
  · obtain ⟨a, ns, k, rfl, _⟩ := h
    rfl
  · obtain ⟨a, ns, k, rfl, hk, hS, q⟩ := h
    refine ⟨_, pss_cons (ps_if (pt_cmpR op_lt (pv 1) (pe_callB call_len_seq (by rfl) ml PySem.boot_len (pa_cons (pv 0) pa_nil)) (nomark _))
        (pss_one (ps_ret (pe_ix ix_list (pv 0) (pv 1) (fun _ _ => rfl)))) pss_nil)
      (pss_one (ps_ret pe_int)), ?_⟩
    refine ⟨_, rfl, .ref a, rfl, a, _, rfl, .inl hS, _, _, rfl, rfl, _, rfl, ite2 (fun e => ?_) (fun e => ?_)⟩
    · have e1 : k < ((ns.map V.int).length : Int) := of_decide_eq_true e
      rw [List.length_map] at e1
      have hj : k.toNat < ns.length := by omega
      refine ⟨_, rfl, _, rfl, a, _, k, .int (ns[k.toNat]), rfl, rfl, hS, at_of (j := k.toNat) (by omega) ?_, q _⟩
      rw [List.getElem?_map, List.getElem?_eq_getElem hj]
      rfl
    · exact q 0
end
/-! ### what is kept of tuples -/
def isT : HO → Prop
  | .tup _ => True
  | .frz _ _ => True
  | _ => False
/-- tuples, and what is locked, stand as they stood -/
def TK (H H' : Hp) : Prop := ∀ a o, isT o → H a = some o → H' a = some o
theorem TK.refl (H : Hp) : TK H H := fun _ _ _ h => h
theorem TK.trans {H H1 H2 : Hp} (a : TK H H1) (b : TK H1 H2) : TK H H2 := fun c o t h => b c o t (a c o t h)
theorem TK.same {H H1 : Hp} (a : Same H H1) : TK H H1 := fun c o _ h => a c o h
theorem TK.new {p : Addr} {H : Hp} {o : HO} (h : H p = none) : TK H (upd H p o) := TK.same (same_new h)
theorem TK.lst {l : Addr} {H : Hp} {xs : List V} {o : HO} (h : H l = some (.lst xs)) : TK H (upd H l o) := fun c u t e => by
  have n : c ≠ l := fun z => by
    rw [z, h] at e
    cases e
    exact t
  rw [upd_ne n]
  exact e
theorem TK.dr {w : Addr} {H H' : Hp} (W : WellAt w H) (d : But w H H') : TK H H' := fun c u t e => by
  obtain ⟨xs, h, _⟩ := W
  have n : c ≠ w := fun z => by
    rw [z, h] at e
    cases e
    exact t
  exact d _ _ n e
theorem TK.seq {K : PySem.W.Frag} {H H' : Hp} {a : Addr} {xs : List V} (t : TK H H') (h : SqT K H a xs) : SqT K H' a xs := by
  rcases h with (h | ⟨o, h⟩) | h
  · exact .inl (.inl (t _ _ trivial h))
  · exact .inl (.inr ⟨o, t _ _ trivial h⟩)
  · exact .inr h
/-! ### gates and wires as data -/
abbrev Gt := Str × Int
abbrev Wr := Nat × Nat × List Int
def kinds : List Str := ["in", "out", "sum", "times", "most", "least", "first", "one"]
def portK (k : Str) : Prop := k = "in" ∨ k = "out"
/-- a gate -/
def GOk (g : Gt) : Prop := g.1 ∈ kinds ∧ 0 ≤ g.2 ∧ g.2 ≤ 100 ∧ (portK g.1 → g.2 = 0)
def GateV (K : PySem.W.Frag) (H : Hp) (v : V) (g : Gt) : Prop := ∃ a, v = .ref a ∧ SqT K H a [.str g.1, .int g.2]
def WireV (K : PySem.W.Frag) (H : Hp) (v : V) (x : Wr) : Prop := ∃ a b, v = .ref a ∧ SqT K H a [.int x.1, .int x.2.1, .ref b] ∧ SqT K H b (x.2.2.map V.int)
theorem GateV.tk {K : PySem.W.Frag} {H H' : Hp} {v : V} {g : Gt} (t : TK H H') (h : GateV K H v g) : GateV K H' v g := by
  obtain ⟨a, e, s⟩ := h
  exact ⟨a, e, t.seq s⟩
theorem WireV.tk {K : PySem.W.Frag} {H H' : Hp} {v : V} {x : Wr} (t : TK H H') (h : WireV K H v x) : WireV K H' v x := by
  obtain ⟨a, b, e, s, s2⟩ := h
  exact ⟨a, b, e, t.seq s, t.seq s2⟩
theorem Dr.new {wl p : Addr} {H : Hp} {o : HO} (W : WellAt wl H) (h : H p = none) : Dr wl H (upd H p o) := ⟨But.new h, W.new h⟩
def ROk (r : List Int) : Prop := ∀ x ∈ r, 0 ≤ x ∧ x ≤ 96
theorem tyes {σ : L2.St} {H : Hp} {A B : Hp → Prop} (h : A H) : tYes σ H (fun b H3 => if b = true then A H3 else B H3) := by
  show if true = true then A H else B H
  rw [if_pos rfl]
  exact h
/-! ### two lists, place by place -/
def All2 {α β : Type} (R : α → β → Prop) (xs : List α) (ys : List β) : Prop := xs.length = ys.length ∧ ∀ (i : Nat) (x : α) (y : β), xs[i]? = some x → ys[i]? = some y → R x y
section
variable {α β : Type} {R S : α → β → Prop} {xs : List α} {ys : List β} {x : α} {y : β}
theorem All2.nil : All2 R [] [] := ⟨rfl, fun i x y h => by simp at h⟩
theorem All2.imp (h : All2 R xs ys) (f : ∀ x y, R x y → S x y) : All2 S xs ys := ⟨h.1, fun i x y a b => f x y (h.2 i x y a b)⟩
theorem All2.snoc (h : All2 R xs ys) (r : R x y) : All2 R (xs ++ [x]) (ys ++ [y]) := by
  refine ⟨by simp [h.1], fun i a b ha hb => ?_⟩
  by_cases hi : i < xs.length
  · rw [List.getElem?_append_left hi] at ha
    rw [List.getElem?_append_left (by rw [← h.1]; exact hi)] at hb
    exact h.2 i a b ha hb
  · rw [List.getElem?_append_right (by omega)] at ha
    rw [List.getElem?_append_right (by rw [← h.1]; omega), ← h.1] at hb
    cases e : i - xs.length with
    | zero =>
      rw [e] at ha hb
      simp at ha hb
      subst ha hb
      exact r
    | succ n =>
      rw [e] at ha
      simp at ha
theorem All2.cons (r : R x y) (h : All2 R xs ys) : All2 R (x :: xs) (y :: ys) := by
  refine ⟨by simp [h.1], fun i a b ha hb => ?_⟩
  cases i with
  | zero =>
    simp at ha hb
    subst ha hb
    exact r
  | succ n => exact h.2 n a b (by simpa using ha) (by simpa using hb)
theorem All2.head {x : α} {y : β} (h : All2 R (x :: xs) (y :: ys)) : R x y := h.2 0 x y rfl rfl
theorem All2.tail {x : α} {y : β} (h : All2 R (x :: xs) (y :: ys)) : All2 R xs ys := ⟨by have := h.1; simp at this; exact this, fun i a b ha hb => h.2 (i + 1) a b (by simpa using ha) (by simpa using hb)⟩
theorem All2.get (h : All2 R xs ys) {i : Nat} {x : α} (e : xs[i]? = some x) : ∃ y, ys[i]? = some y ∧ R x y := by
  have hi := (List.getElem?_eq_some_iff.mp e).1
  have hj : i < ys.length := by rw [← h.1]; exact hi
  exact ⟨ys[i], List.getElem?_eq_getElem hj, h.2 i x _ e (List.getElem?_eq_getElem hj)⟩
theorem All2.getR (h : All2 R xs ys) {i : Nat} {y : β} (e : ys[i]? = some y) : ∃ x, xs[i]? = some x ∧ R x y := by
  have hi := (List.getElem?_eq_some_iff.mp e).1
  have hj : i < xs.length := by rw [h.1]; exact hi
  exact ⟨xs[i], List.getElem?_eq_getElem hj, h.2 i _ y (List.getElem?_eq_getElem hj) e⟩
theorem All2.perm {xs' : List α} (p : xs'.Perm xs) : ∀ {ys : List β}, All2 R xs ys → ∃ ys', ys'.Perm ys ∧ All2 R xs' ys' := by
  induction p with
  | nil => intro ys h; exact ⟨ys, .refl _, h⟩
  | @cons a l1 l2 p ih =>
    intro ys h
    cases ys with
    | nil => have := h.1; simp at this
    | cons y ys =>
      obtain ⟨ys', p', h'⟩ := ih h.tail
      exact ⟨y :: ys', p'.cons y, h'.cons h.head⟩
  | swap a b l =>
    intro ys h
    match ys, h with
    | [], h => have := h.1; simp at this
    | [_], h => have := h.1; simp at this
    | y :: z :: ys, h => exact ⟨z :: y :: ys, .swap _ _ _, All2.cons h.tail.head (All2.cons h.head h.tail.tail)⟩
  | trans p1 p2 ih1 ih2 =>
    intro ys h
    obtain ⟨ys1, q1, h1⟩ := ih2 h
    obtain ⟨ys2, q2, h2⟩ := ih1 h1
    exact ⟨ys2, q2.trans q1, h2⟩
end
/-! ### nets as data -/
def kindAt (gs : List Gt) (i : Nat) : Str := (gs.getD i ("", 0)).1
def cnt (ws : List Wr) (e : Nat) : Nat := ws.countP (fun x => x.2.1 == e)
/-- a wire between these gates -/
structure WOk (gs : List Gt) (x : Wr) : Prop where
  s : x.1 < gs.length
  e : x.2.1 < gs.length
  ks : kindAt gs x.1 ≠ "out"
  ke : kindAt gs x.2.1 ≠ "in"
  r : ROk x.2.2
  rl : x.2.2.length ≤ 900
structure NetOk (gs : List Gt) (ws : List Wr) : Prop where
  ne : gs ≠ []
  gl : gs.length ≤ 100
  wl : ws.length ≤ 1000
  gok : ∀ g ∈ gs, GOk g
  wok : ∀ x ∈ ws, WOk gs x
  one : ∀ e, e < gs.length → kindAt gs e = "out" → cnt ws e = 1
  some : ∀ e, e < gs.length → kindAt gs e = "first" → 1 ≤ cnt ws e
  rank : ∃ ρ : Nat → Nat, ∀ x ∈ ws, x.2.2 = [] → ρ x.1 < ρ x.2.1
/-- numbered anew: the gate k is the old gate at left's place k -/
theorem NetOk.anew {gs : List Gt} {ws : List Wr} {left : List Nat} (N : NetOk gs ws) (p : left.Perm (List.range gs.length)) {ws' : List Wr} (pw : ws'.Perm ws) :
    NetOk (left.map fun k => gs.getD k ("", 0)) (ws'.map fun x => (left.idxOf x.1, left.idxOf x.2.1, x.2.2)) := by
  have hl : left.length = gs.length := by rw [p.length_eq, List.length_range]
  have nd : left.Nodup := p.nodup_iff.mpr List.nodup_range
  have mem : ∀ i, i < gs.length → i ∈ left := fun i hi => p.mem_iff.mpr (List.mem_range.mpr hi)
  have memb : ∀ i, i ∈ left → i < gs.length := fun i hi => List.mem_range.mp (p.mem_iff.mp hi)
  have il : ∀ i, i < gs.length → left.idxOf i < left.length := fun i hi => List.idxOf_lt_length_iff.mpr (mem i hi)
  have ge : ∀ i (h : i < gs.length), left[left.idxOf i]? = Option.some i := fun i h => by
    rw [List.getElem?_eq_getElem (il i h), List.getElem_idxOf]
  have kk : ∀ i, i < gs.length → kindAt (left.map fun k => gs.getD k ("", 0)) (left.idxOf i) = kindAt gs i := fun i h => by
    unfold kindAt
    rw [List.getD_eq_getElem?_getD, List.getElem?_map, ge i h]
    rfl
  have inj : ∀ i j, i < gs.length → j < gs.length → left.idxOf i = left.idxOf j → i = j := fun i j hi hj e => by
    have h1 := ge i hi
    rw [e, ge j hj] at h1
    exact (Option.some.inj h1).symm
  have cc : ∀ e, e < gs.length → cnt (ws'.map fun x => (left.idxOf x.1, left.idxOf x.2.1, x.2.2)) (left.idxOf e) = cnt ws e := fun e he => by
    unfold cnt
    rw [List.countP_map, ← pw.countP_eq]
    refine List.countP_congr fun x hx => ?_
    have := (N.wok x (pw.mem_iff.mp hx)).e
    simp only [Function.comp, beq_iff_eq]
    exact ⟨fun z => inj _ _ this he z, fun z => by rw [z]⟩
  have back : ∀ e, e < left.length → ∃ i, i < gs.length ∧ left.idxOf i = e := fun e he => by
    refine ⟨left[e], memb _ (List.getElem_mem he), ?_⟩
    exact List.Nodup.idxOf_getElem nd e he
  obtain ⟨ρ, hρ⟩ := N.rank
  refine ⟨?_, by simpa [hl] using N.gl, by simpa [pw.length_eq] using N.wl, ?_, ?_, ?_, ?_, ?_⟩
  · intro z
    have := congrArg List.length z
    simp [hl] at this
    exact N.ne this
  · intro g hg
    obtain ⟨k, hk, rfl⟩ := List.mem_map.mp hg
    refine N.gok _ ?_
    rw [List.getD_eq_getElem?_getD, List.getElem?_eq_getElem (memb k hk)]
    exact List.getElem_mem _
  · intro y hy
    obtain ⟨x, hx, rfl⟩ := List.mem_map.mp hy
    have W := N.wok x (pw.mem_iff.mp hx)
    refine ⟨by simpa using il _ W.s, by simpa using il _ W.e, ?_, ?_, W.r, W.rl⟩
    · show kindAt _ (left.idxOf x.1) ≠ _
      rw [kk _ W.s]
      exact W.ks
    · show kindAt _ (left.idxOf x.2.1) ≠ _
      rw [kk _ W.e]
      exact W.ke
  · intro e he hk
    obtain ⟨i, hi, rfl⟩ := back e (by simpa using he)
    rw [kk i hi] at hk
    rw [cc i hi]
    exact N.one i hi hk
  · intro e he hk
    obtain ⟨i, hi, rfl⟩ := back e (by simpa using he)
    rw [kk i hi] at hk
    rw [cc i hi]
    exact N.some i hi hk
  · refine ⟨fun k => ρ (left.getD k 0), fun y hy h => ?_⟩
    obtain ⟨x, hx, rfl⟩ := List.mem_map.mp hy
    have W := N.wok x (pw.mem_iff.mp hx)
    have := hρ x (pw.mem_iff.mp hx) h
    simp only [List.getD_eq_getElem?_getD, ge _ W.s, ge _ W.e, Option.getD_some]
    exact this
theorem set_well {wl D : Addr} {H0 H : Hp} {o : HO} (d : Dr wl H0 H) (h0 : H0 D = none) (n : D ≠ wl) : Dr wl H0 (upd H D o) := by
  refine ⟨fun c u nc e => ?_, ?_⟩
  · rw [upd_ne (ne_of_none e h0)]
    exact d.but c u nc e
  · obtain ⟨xs, hx, k⟩ := d.well
    exact ⟨xs, by rw [upd_ne n.symm]; exact hx, k⟩
def tLen (K : PySem.W.Frag) (i : Nat) : TE := tCB (Evl.rLenS K) (tCons (tVar i) tNil)
/-- the wires into the gates ahead of i -/
structure WInv (gs : List Gt) (ws : List Wr) (i : Nat) : Prop where
  ok : ∀ x ∈ ws, WOk gs x ∧ (x.2.2 = [] → x.1 < x.2.1) ∧ x.2.1 < i
  one : ∀ e, e < i → kindAt gs e = "out" → cnt ws e = 1
  some : ∀ e, e < i → kindAt gs e = "first" → 1 ≤ cnt ws e
  len : ws.length ≤ 3 * i
  r2 : ∀ x ∈ ws, x.2.2.length ≤ 3
  c3 : ∀ e, cnt ws e ≤ 3
/-- .. and j wires into the gate i -/
structure WInv2 (gs : List Gt) (ws : List Wr) (i j : Nat) : Prop where
  ok : ∀ x ∈ ws, WOk gs x ∧ (x.2.2 = [] → x.1 < x.2.1) ∧ x.2.1 < i + 1
  one : ∀ e, e < i → kindAt gs e = "out" → cnt ws e = 1
  some : ∀ e, e < i → kindAt gs e = "first" → 1 ≤ cnt ws e
  here : cnt ws i = j
  len : ws.length ≤ 3 * i + j
  r2 : ∀ x ∈ ws, x.2.2.length ≤ 3
  c3 : ∀ e, e < i → cnt ws e ≤ 3
theorem WInv.go {gs : List Gt} {ws : List Wr} {i : Nat} (h : WInv gs ws i) : WInv2 gs ws i 0 := by
  refine ⟨fun x hx => ⟨(h.ok x hx).1, (h.ok x hx).2.1, by have := (h.ok x hx).2.2; omega⟩, h.one, h.some, ?_, h.len, h.r2, fun e _ => h.c3 e⟩
  unfold cnt
  rw [List.countP_eq_zero]
  intro x hx z
  have := (h.ok x hx).2.2
  simp at z
  omega
theorem WInv2.app {gs : List Gt} {ws : List Wr} {i j : Nat} {x : Wr} (h : WInv2 gs ws i j) (hx : WOk gs x) (hr : x.2.2 = [] → x.1 < x.2.1) (he : x.2.1 = i) (h2 : x.2.2.length ≤ 3) : WInv2 gs (ws ++ [x]) i (j + 1) := by
  have c : ∀ e, e < i → cnt (ws ++ [x]) e = cnt ws e := fun e he' => by
    unfold cnt
    rw [List.countP_append]
    have : (x.2.1 == e) = false := by simp; omega
    simp [List.countP_cons, this]
  refine ⟨fun y hy => ?_, fun e h1 h2 => by rw [c e h1]; exact h.one e h1 h2, fun e h1 h2 => by rw [c e h1]; exact h.some e h1 h2, ?_, by have := h.len; simp; omega, fun y hy => ?_, fun e he => by rw [c e he]; exact h.c3 e he⟩
  · rcases List.mem_append.mp hy with hy | hy
    · exact h.ok y hy
    · simp at hy
      subst hy
      exact ⟨hx, hr, by omega⟩
  · have := h.here
    unfold cnt at this ⊢
    rw [List.countP_append, this]
    simp [List.countP_cons, he]
  · rcases List.mem_append.mp hy with hy | hy
    · exact h.r2 y hy
    · simp at hy
      subst hy
      exact h2
theorem WInv2.done {gs : List Gt} {ws : List Wr} {i j : Nat} (h : WInv2 gs ws i j) (h1 : kindAt gs i = "out" → j = 1) (h2 : kindAt gs i = "first" → 1 ≤ j) (hj : j ≤ 3) : WInv gs ws (i + 1) := by
  refine ⟨fun x hx => h.ok x hx, fun e he hk => ?_, fun e he hk => ?_, by have := h.len; omega, h.r2, fun e => ?_⟩
  · by_cases hi : e = i
    · subst hi
      rw [h.here]
      exact h1 hk
    · exact h.one e (by omega) hk
  · by_cases hi : e = i
    · subst hi
      rw [h.here]
      exact h2 hk
    · exact h.some e (by omega) hk
  · rcases Nat.lt_trichotomy e i with z | z | z
    · exact h.c3 e z
    · rw [z, h.here]
      exact hj
    · have : cnt ws e = 0 := by
        unfold cnt
        rw [List.countP_eq_zero]
        intro x hx y
        have := (h.ok x hx).2.2
        simp at y
        omega
      omega
theorem WInv.net {gs : List Gt} {ws : List Wr} (h : WInv gs ws gs.length) (ne : gs ≠ []) (gl : gs.length ≤ 100) (gok : ∀ g ∈ gs, GOk g) : NetOk gs ws :=
  ⟨ne, gl, by have := h.len; omega, gok, fun x hx => (h.ok x hx).1, h.one, h.some, id, fun x hx hr => (h.ok x hx).2.1 hr⟩
/-- lists of gates, of wires, that stand tracked -/
def LG (K : PySem.W.Frag) (H : Hp) (l : Addr) (gs : List Gt) : Prop := ∃ vs, H l = some (.lst vs) ∧ All2 (GateV K H) vs gs
def LW (K : PySem.W.Frag) (H : Hp) (l : Addr) (ws : List Wr) : Prop := ∃ vs, H l = some (.lst vs) ∧ All2 (WireV K H) vs ws
theorem kindAt_get {gs : List Gt} {i : Nat} {g : Gt} (h : gs[i]? = some g) : kindAt gs i = g.1 := by
  unfold kindAt
  rw [List.getD_eq_getElem?_getD, h]
  rfl
theorem all2_eq {α β : Type} {f : β → α} : ∀ {xs : List α} {ys : List β}, All2 (fun x y => x = f y) xs ys → xs = ys.map f
  | [], [], _ => rfl
  | [], _ :: _, h => by have := h.1; simp at this
  | _ :: _, [], h => by have := h.1; simp at this
  | x :: xs, y :: ys, h => by rw [List.map_cons, ← all2_eq h.tail, ← h.head]
theorem eq_all2 {α β : Type} {f : β → α} (ys : List β) : All2 (fun x y => x = f y) (ys.map f) ys := ⟨by simp, fun i x y h1 h2 => by
  rw [List.getElem?_map, h2] at h1
  exact (Option.some.inj h1).symm⟩
theorem rgV_nat (n : Nat) : rgV 0 (n : Int) = (List.range n).map fun i => V.int (i : Nat) := by
  unfold rgV
  have : ((n : Int) - 0).toNat = n := by omega
  rw [this]
  refine List.map_congr_left fun i _ => ?_
  rw [Int.zero_add]
theorem flat_ints (l : List Nat) : (l.map fun i => V.int (i : Nat)).all flatV = true := by
  rw [List.all_eq_true]
  intro x hx
  obtain ⟨i, _, rfl⟩ := List.mem_map.mp hx
  rfl
/-- where a number stands among numbers without two alike -/
theorem idx_at {left : List Nat} {a : Nat} (h : a ∈ left) : (left.map fun i => V.int (i : Nat))[left.idxOf a]? = some (V.int (a : Nat)) := by
  rw [List.getElem?_map, List.getElem?_eq_getElem (List.idxOf_lt_length_iff.mpr h), List.getElem_idxOf]
  rfl
theorem eqV_int (a b : Int) : eqV (V.int a) (V.int b) = decide (a = b) := rfl
theorem idx_no {left : List Nat} {a m : Nat} {z : V} (nd : left.Nodup) (hm : m < left.idxOf a) (h : (left.map fun i => V.int (i : Nat))[m]? = some z) : eqV z (V.int (a : Nat)) = false := by
  rw [List.getElem?_map] at h
  cases e : left[m]? with
  | none =>
    rw [e] at h
    cases h
  | some b =>
    rw [e] at h
    cases h
    rw [eqV_int]
    refine decide_eq_false fun z => ?_
    have z : b = a := by omega
    obtain ⟨hm', eb⟩ := List.getElem?_eq_some_iff.mp e
    have := List.Nodup.idxOf_getElem nd m hm'
    rw [eb, z] at this
    omega
end Lag

set_option maxRecDepth 100000
set_option maxHeartbeats 4000000
namespace Lag
open PySem PySem.Spec PyProof.Rows L2
abbrev sWhole : Stmt := topS 16
abbrev sFromTo : Stmt := topS 17
abbrev sWorth : Stmt := topS 18
abbrev sIsGate : Stmt := topS 29
abbrev sChkGates : Stmt := topS 28
/-! ### o[i] of a list, by values -/
def rGetL (K : PySem.W.Frag) : V → V → Hp → VK → Prop := fun o i H Q => ∃ (p : Addr) (xs : List V) (j : Nat) (v : V), o = .ref p ∧ i = .int (j : Nat) ∧ SqL K H p xs ∧ xs[j]? = some v ∧ Q v H
theorem get_list {X : Cx} : PGet X (rGetL X.K) := by
  intro pins s σ H o i ov iv Q I ro ri h
  obtain ⟨p, xs, j, v, rfl, rfl, hq, he, q⟩ := h
  cases ro
  obtain ⟨t, rfl⟩ := ri
  obtain ⟨its, r, pl, hz⟩ := I.list hq
  obtain ⟨w, ew, rw'⟩ := r.get he
  have hl := r.length
  have hn := line63
  have hj : j < its.length := (List.getElem?_eq_some_iff.mp ew).1
  exact wpAny_getItem_list pl.isList (by omega) (by omega) (by simpa using ew) ⟨v, H, I, rw', q⟩
/-! ### names of built-ins, constants of the text -/
structure Bt (mg : Str → Option Value) : Prop where
  isi : mg "isinstance" = none
  int : mg "int" = none
  bool : mg "bool" = none
  len : mg "len" = none
  tuple : mg "tuple" = none
  str : mg "str" = none
  list : mg "list" = none
  all : mg "all" = none
  enum : mg "enumerate" = none
  zip : mg "zip" = none
  range : mg "range" = none
  max : mg "max" = none
structure Cns (K : PySem.W.Frag) (mg : Str → Option Value) (aK aW aF : Addr) : Prop where
  gw : ∃ t, mg "GREATEST_WORTH" = some (.int 96 t)
  ga : ∃ t, mg "GREATEST_WAIT" = some (.int 100 t)
  mK : mg "KINDS" = some (.ref aK)
  sK : ∀ H, SqT K H aK (kinds.map V.str)
  mW : mg "OUTER_KINDS" = some (.ref aW)
  sW : ∀ H, SqT K H aW [.str "in", .str "out"]
  mF : mg "KINDS_WITH_A_WIRE" = some (.ref aF)
  sF : ∀ H, SqT K H aF [.str "out", .str "first"]
theorem ty_tup {K : PySem.W.Frag} {H : Hp} {a : Addr} {xs : List V} (h : SqT K H a xs) : TyX K H (.ref a) (.type "tuple") := by
  rcases h with (h | ⟨o, h⟩) | ⟨o, its, n, hk, hc, _⟩
  · exact .base (.tup h)
  · exact .fTuple h
  · exact .kTuple hk hc
theorem ty_lst {K : PySem.W.Frag} {H : Hp} {a : Addr} {xs : List V} (h : SqL K H a xs) : TyX K H (.ref a) (.type "list") := by
  rcases h with (h | ⟨o, h⟩) | ⟨o, its, n, hk, hc, _⟩
  · exact .base (.lst h)
  · exact .base (.frz h)
  · exact .kList hk hc
/-! ### promises -/
def spWhole : Sp := fun vs H Q _ => ∃ n : Int, vs = [.int n] ∧ Q (.bl true) H
def spFromTo : Sp := fun vs H Q _ => ∃ n a b : Int, vs = [.int n, .int a, .int b] ∧ Q (.bl (decide (a ≤ n) && decide (n ≤ b))) H
def spWorth : Sp := fun vs H Q _ => ∃ n : Int, vs = [.int n] ∧ Q (.bl (decide (0 ≤ n) && decide (n ≤ 96))) H
def spIsGate (K : PySem.W.Frag) : Sp := fun vs H Q _ => ∃ (v : V) (g : Gt), vs = [v] ∧ GateV K H v g ∧ GOk g ∧ ∀ H', Same H H' → Q (.bl true) H'
/-- lists that are read -/
def RG (K : PySem.W.Frag) (H : Hp) (l : Addr) (gs : List Gt) : Prop := ∃ vs, SqL K H l vs ∧ All2 (GateV K H) vs gs
def RW (K : PySem.W.Frag) (H : Hp) (l : Addr) (ws : List Wr) : Prop := ∃ vs, SqL K H l vs ∧ All2 (WireV K H) vs ws
theorem RG.same {K : PySem.W.Frag} {H H' : Hp} {l : Addr} {gs : List Gt} (h : RG K H l gs) (s : Same H H') : RG K H' l gs := by
  obtain ⟨vs, q, a⟩ := h
  exact ⟨vs, s.seq q, a.imp fun _ _ r => r.tk (TK.same s)⟩
theorem RW.same {K : PySem.W.Frag} {H H' : Hp} {l : Addr} {ws : List Wr} (h : RW K H l ws) (s : Same H H') : RW K H' l ws := by
  obtain ⟨vs, q, a⟩ := h
  exact ⟨vs, s.seq q, a.imp fun _ _ r => r.tk (TK.same s)⟩
def spChkGates (K : PySem.W.Frag) : Sp := fun vs H Q _ => ∃ (l : Addr) (gs : List Gt), vs = [.ref l] ∧ RG K H l gs ∧ gs ≠ [] ∧ (∀ g ∈ gs, GOk g) ∧ ∀ H', Same H H' → Q .non H'
section
variable {P : Program} {w : World} {K : PySem.W.Frag} {mg : Str → Option Value} {base : Heap}
/-! ### is_whole, is_whole_from_to, is_worth -/
theorem scWhole : FnScope ["thing"] ["thing"] (defScope sWhole) := ⟨rfl, rfl, rfl, by decide +kernel, rfl, by decide +kernel, by decide +kernel⟩
abbrev DWhole (P : Program) (w : World) (K : PySem.W.Frag) (mg : Str → Option Value) (base : Heap) := Df P w K mg base 1 "is_whole" ["thing"] spWhole
theorem ok_whole {f : Addr} {fd : FuncData} (F : Fun K "is_whole" "is_whole" sWhole f fd) (hm : mg "is_whole" = some (.ref f)) (B : Bt mg) : DWhole P w K mg base f fd := by
  refine ⟨?_, hm, F.kp, F.binds fun _ _ _ _ _ _ us hl => match us, hl with | [_], _ => rfl⟩
  refine F.ok scWhole (fun vs H Q E h => ?_) (fun cdv A outer s H vs Q E hr h => ?_)
  · obtain ⟨n, rfl, _⟩ := h
    rfl
  · obtain ⟨n, rfl, q⟩ := h
    refine ⟨_, pss_one <| ps_ret <| pe_and (pe_callB call_isi (by rfl) B.isi (by decide +kernel) (pa_cons (pv 0) (pa_cons (pe_bltn (v := .ty "int") (by rfl) B.int (by decide +kernel) rfl) pa_nil)))
      (pe_one (pe_not (pe_callB call_isi (by rfl) B.isi (by decide +kernel) (pa_cons (pv 0) (pa_cons (pe_bltn (v := .ty "bool") (by rfl) B.bool (by decide +kernel) rfl) pa_nil))))), ?_⟩
    refine ⟨_, rfl, _, _, _, _, true, rfl, .ty "int", .base (.int n), kit_ty (by decide +kernel), true, rfl, iteT ?_⟩
    exact ⟨_, rfl, _, _, _, _, false, rfl, .ty "bool", .base (.int n), kit_ty (by decide +kernel), false, rfl, q⟩
theorem scFromTo : FnScope ["thing", "least", "greatest"] ["thing", "least", "greatest"] (defScope sFromTo) := ⟨rfl, rfl, rfl, by decide +kernel, rfl, by decide +kernel, by decide +kernel⟩
abbrev DFromTo (P : Program) (w : World) (K : PySem.W.Frag) (mg : Str → Option Value) (base : Heap) := Df P w K mg base 2 "is_whole_from_to" ["thing", "least", "greatest"] spFromTo
theorem ok_fromTo {f fW : Addr} {fd fdW : FuncData} (F : Fun K "is_whole_from_to" "is_whole_from_to" sFromTo f fd) (hm : mg "is_whole_from_to" = some (.ref f)) (DW : DWhole P w K mg base fW fdW) : DFromTo P w K mg base f fd := by
  refine ⟨?_, hm, F.kp, F.binds fun _ _ _ _ _ _ us hl => match us, hl with | [_, _, _], _ => rfl⟩
  refine F.ok scFromTo (fun vs H Q E h => ?_) (fun cdv A outer s H vs Q E hr h => ?_)
  · obtain ⟨n, a, b, rfl, _⟩ := h
    rfl
  · obtain ⟨n, a, b, rfl, q⟩ := h
    refine ⟨_, pss_one <| ps_ret <| pe_and (pe_call DW.ok hr (by rfl) DW.mg DW.kp DW.bd .nil pass0 (pa_cons (pv 0) pa_nil)) (pe_one (pe_chain op_le op_le (pv 1) (pv 0) (pv 2))), ?_⟩
    refine ⟨_, rfl, n, rfl, true, rfl, iteT ?_⟩
    refine ⟨_, rfl, _, rfl, _, _, rfl, rfl, _, rfl, ?_⟩
    cases e : decide (a ≤ n) with
    | false =>
      rw [e] at q
      exact iteF q
    | true =>
      rw [e] at q
      exact iteT ⟨_, rfl, _, _, rfl, rfl, q⟩
theorem scWorth : FnScope ["thing"] ["thing"] (defScope sWorth) := ⟨rfl, rfl, rfl, by decide +kernel, rfl, by decide +kernel, by decide +kernel⟩
abbrev DWorth (P : Program) (w : World) (K : PySem.W.Frag) (mg : Str → Option Value) (base : Heap) := Df P w K mg base 3 "is_worth" ["thing"] spWorth
theorem ok_worth {f fF aK aW aF : Addr} {fd fdF : FuncData} (F : Fun K "is_worth" "is_worth" sWorth f fd) (hm : mg "is_worth" = some (.ref f)) (C : Cns K mg aK aW aF) (DF : DFromTo P w K mg base fF fdF) : DWorth P w K mg base f fd := by
  obtain ⟨tg, hgw⟩ := C.gw
  refine ⟨?_, hm, F.kp, F.binds fun _ _ _ _ _ _ us hl => match us, hl with | [_], _ => rfl⟩
  refine F.ok scWorth (fun vs H Q E h => ?_) (fun cdv A outer s H vs Q E hr h => ?_)
  · obtain ⟨n, rfl, _⟩ := h
    rfl
  · obtain ⟨n, rfl, q⟩ := h
    refine ⟨_, pss_one <| ps_ret <| pe_call DF.ok hr (by rfl) DF.mg DF.kp DF.bd .nil pass0 <| pa_cons (pv 0) <| pa_cons pe_int <| pa_cons (pe_glob (v := .int 96) (by rfl) hgw ⟨_, rfl⟩) pa_nil, ?_⟩
    exact ⟨_, rfl, n, 0, 96, rfl, q⟩
/-! ### is_gate -/
theorem scIsGate : FnScope ["thing", "kind", "wait"] ["thing"] (defScope sIsGate) := ⟨rfl, rfl, rfl, by decide +kernel, rfl, by decide +kernel, by decide +kernel⟩
abbrev DIsGate (P : Program) (w : World) (K : PySem.W.Frag) (mg : Str → Option Value) (base : Heap) := Df P w K mg base 3 "is_gate" ["thing"] (spIsGate K)
theorem kinds_in {k : Str} (h : k ∈ kinds) : inV (.str k) (kinds.map V.str) = true := by
  unfold inV
  rw [List.any_eq_true]
  exact ⟨.str k, List.mem_map.mpr ⟨k, h, rfl⟩, beq_self_eq_true k⟩
theorem flat_strs (l : List Str) : (l.map V.str).all flatV = true := by
  rw [List.all_eq_true]
  intro x hx
  obtain ⟨i, _, rfl⟩ := List.mem_map.mp hx
  rfl
theorem ok_isGate {f fF aK aW aF : Addr} {fd fdF : FuncData} (F : Fun K "is_gate" "is_gate" sIsGate f fd) (hm : mg "is_gate" = some (.ref f)) (B : Bt mg) (C : Cns K mg aK aW aF) (DF : DFromTo P w K mg base fF fdF) : DIsGate P w K mg base f fd := by
  obtain ⟨tg, hga⟩ := C.ga
  refine ⟨?_, hm, F.kp, F.binds fun _ _ _ _ _ _ us hl => match us, hl with | [_], _ => rfl⟩
  refine F.ok scIsGate (fun vs H Q E h => ?_) (fun cdv A outer s H vs Q E hr h => ?_)
  · obtain ⟨v, g, rfl, _⟩ := h
    rfl
  · obtain ⟨v, g, rfl, ⟨a, rfl, sq⟩, gok, q⟩ := h
    have nd := scIsGate.nd
    refine ⟨_, pss_cons (ps_if (PW.pt (pw_or (pt_not (pt_val (pe_callB call_isi (by rfl) B.isi (by decide +kernel) (pa_cons (pv 0) (pa_cons (pe_bltn (v := .ty "tuple") (by rfl) B.tuple (by decide +kernel) rfl) pa_nil)))))
          (pw_or1 (pt_cmpR op_ne (pe_callB call_len_seq (by rfl) B.len PySem.boot_len (pa_cons (pv 0) pa_nil)) pe_int (nomark _))))) (pss_one (ps_ret pe_bl)) pss_nil) <|
      pss_cons (ps_asg (pv 0) (pg_tup (by rfl) (pgs_cons (pg_name (i := 1) nd rfl (.inl rfl)) (pgs_cons (pg_name (i := 2) nd rfl (.inl rfl)) pgs_nil)))) <|
      pss_cons (ps_if (PW.pt (pw_or (pt_not (pt_val (pe_callB call_isi (by rfl) B.isi (by decide +kernel) (pa_cons (pv 1) (pa_cons (pe_bltn (v := .ty "str") (by rfl) B.str (by decide +kernel) rfl) pa_nil)))))
          (pw_or1 (pt_cmpR op_notIn_seq (pv 1) (pe_glob (v := .ref aK) (by rfl) C.mK rfl) (by rfl))))) (pss_one (ps_ret pe_bl)) pss_nil) <|
      pss_one <| ps_ret <| pe_call DF.ok hr (by rfl) DF.mg DF.kp DF.bd .nil pass0 <| pa_cons (pv 2) <| pa_cons pe_int <| (pa_cons · pa_nil) <|
        pe_ifExp (pt_cmpR op_in_seq (pv 1) (pe_glob (v := .ref aW) (by rfl) C.mW rfl) (by rfl)) pe_int (pe_glob (v := .int 100) (by rfl) hga ⟨_, rfl⟩), ?_⟩
    refine ⟨_, rfl, _, _, _, _, true, rfl, .ty "tuple", ty_tup sq, kit_ty (by decide +kernel), true, rfl, ?_⟩
    refine iteF ⟨_, rfl, a, _, rfl, .inr sq, rfl, _, rfl, iteF ?_⟩
    refine ⟨_, rfl, a, _, rfl, sq, rfl, _, _, rfl, _, _, rfl, rfl, ?_⟩
    refine ⟨_, rfl, _, _, _, _, true, rfl, .ty "str", .base (.str g.1), kit_ty (by decide +kernel), true, rfl, ?_⟩
    refine iteF ⟨_, rfl, aK, _, rfl, .inr (C.sK H), rfl, flat_strs _, false, ?_, iteF ?_⟩
    · show V.bl (!inV (V.str g.1) (kinds.map V.str)) = V.bl false
      rw [kinds_in gok.1]
      rfl
    refine ⟨_, rfl, _, rfl, aW, _, rfl, .inr (C.sW H), rfl, rfl, _, rfl, ite2 (fun e => ?_) (fun e => ?_)⟩
    · have hp : portK g.1 := by
        have e' : inV (V.str g.1) [V.str "in", V.str "out"] = true := e
        unfold inV at e'
        rw [List.any_eq_true] at e'
        obtain ⟨x, hx, hxe⟩ := e'
        simp only [List.mem_cons, List.not_mem_nil, or_false] at hx
        rcases hx with rfl | rfl
        · exact .inl (eq_of_beq hxe).symm
        · exact .inr (eq_of_beq hxe).symm
      have h0 := gok.2.2.2 hp
      refine ⟨g.2, 0, 0, rfl, ?_⟩
      rw [h0]
      exact q H (Same.refl H)
    · refine ⟨g.2, 0, 100, rfl, ?_⟩
      rw [decide_eq_true gok.2.1, decide_eq_true gok.2.2.1]
      exact q H (Same.refl H)
end
end Lag

set_option maxRecDepth 100000
set_option maxHeartbeats 4000000
namespace Lag
open PySem PySem.Spec PyProof.Rows L2
abbrev sIsWire : Stmt := topS 31
abbrev sTaken : Stmt := topS 32
def spIsWire (K : PySem.W.Frag) : Sp := fun vs H Q _ => ∃ (v : V) (x : Wr) (n : Nat), vs = [v, .int (n : Nat)] ∧ WireV K H v x ∧ x.1 < n ∧ x.2.1 < n ∧ ROk x.2.2 ∧ x.2.2.length ≤ 1000 ∧ ∀ H', Same H H' → Q (.bl true) H'
def spTaken (K : PySem.W.Frag) : Sp := fun vs H Q _ => ∃ (v : V) (x : Wr) (lg lc : Addr) (gs : List Gt) (cs : List Nat), vs = [v, .ref lg, .ref lc] ∧ WireV K H v x ∧ RG K H lg gs ∧ SqL K H lc (cs.map fun i => V.int (i : Nat)) ∧ WOk gs x ∧ cs.length = gs.length ∧
  (kindAt gs x.2.1 = "out" → cs[x.2.1]? = some 0) ∧ Q (.bl true) H
section
variable {P : Program} {w : World} {K : PySem.W.Frag} {mg : Str → Option Value} {base : Heap}
/-! ### check_gates -/
theorem scChkGates : FnScope ["gates", "thing"] ["gates"] (defScope sChkGates) := ⟨rfl, rfl, rfl, by decide +kernel, rfl, by decide +kernel, by decide +kernel⟩
abbrev DChkGates (P : Program) (w : World) (K : PySem.W.Frag) (mg : Str → Option Value) (base : Heap) := Df P w K mg base 4 "check_gates" ["gates"] (spChkGates K)
theorem ok_chkGates {f fG : Addr} {fd fdG : FuncData} (F : Fun K "check_gates" "check_gates" sChkGates f fd) (hm : mg "check_gates" = some (.ref f)) (B : Bt mg) (DG : DIsGate P w K mg base fG fdG) : DChkGates P w K mg base f fd := by
  refine ⟨?_, hm, F.kp, F.binds fun _ _ _ _ _ _ us hl => match us, hl with | [_], _ => rfl⟩
  refine F.ok scChkGates (fun vs H Q E h => ?_) (fun cdv A outer s H vs Q E hr h => ?_)
  · obtain ⟨l, gs, rfl, _⟩ := h
    rfl
  · obtain ⟨l, gs, rfl, R, hne, gok, q⟩ := h
    have nd := scChkGates.nd
    refine ⟨_, pss_cons (ps_if (PW.pt (pw_or (pt_not (pt_val (pe_callB call_isi (by rfl) B.isi (by decide +kernel) (pa_cons (pv 0) (pa_cons (pe_bltn (v := .ty "list") (by rfl) B.list (by decide +kernel) rfl) pa_nil)))))
          (pw_or1 (pt_cmpR op_eq (pe_callB call_len_seq (by rfl) B.len PySem.boot_len (pa_cons (pv 0) pa_nil)) pe_int (nomark _))))) (pss_one ps_never) pss_nil) <|
      pss_one <| ps_for PassesOwn.never rfl (pi_list (pv 0)) (pg_name (i := 1) nd rfl (.inl rfl)) <|
        pss_one <| ps_if (pt_not (pt_val (pe_call DG.ok hr (by rfl) DG.mg DG.kp DG.bd .nil pass0 (pa_cons (pv 1) pa_nil)))) (pss_one ps_never) pss_nil, ?_⟩
    obtain ⟨gv, sg, ga⟩ := R
    have hl : gv.length = gs.length := ga.1
    have hpos : 0 < gs.length := by
      cases gs with
      | nil => exact absurd rfl hne
      | cons _ _ => simp
    refine ⟨_, rfl, _, _, _, _, true, rfl, .ty "list", ty_lst sg, kit_ty (by decide +kernel), true, rfl, ?_⟩
    refine iteF ⟨_, rfl, l, gv, rfl, .inl sg, rfl, false, ?_, iteF ?_⟩
    · show V.bl (decide (V.int (gv.length : Int) = V.int 0)) = V.bl false
      rw [decide_eq_false]
      intro z
      have := V.int.inj z
      omega
    refine ⟨_, rfl, l, rfl, ⟨_, sg⟩, for_list (K := K) (a := l) (xs := gv) (fun i σ H2 => ∃ y, σ = [some (.ref l), y] ∧ Same H H2) ⟨_, rfl, Same.refl H⟩ (fun i σ H2 _ ⟨_, _, sm⟩ => sm.seq sg) ?_ ?_⟩
    · rintro i x σ H2 hx ⟨y, rfl, sm⟩
      obtain ⟨g, hg, gv⟩ := ga.get hx
      refine ⟨_, rfl, x, g, rfl, gv.tk (TK.same sm), gok g (List.mem_of_getElem? hg), fun H3 sm3 => ⟨true, rfl, iteF ⟨_, rfl, sm.trans sm3⟩⟩⟩
    · rintro σ H2 ⟨y, rfl, sm⟩
      exact q H2 sm
/-! ### is_wire -/
abbrev nIsWire : List Str := ["thing", "many_gates", "start", "end", "held", "worth"]
theorem scIsWire : FnScope nIsWire ["thing", "many_gates"] (defScope sIsWire) := ⟨rfl, rfl, rfl, by decide +kernel, rfl, by decide +kernel, by decide +kernel⟩
abbrev DIsWire (P : Program) (w : World) (K : PySem.W.Frag) (mg : Str → Option Value) (base : Heap) := Df P w K mg base 4 "is_wire" ["thing", "many_gates"] (spIsWire K)
theorem ok_isWire {f fF fW : Addr} {fd fdF fdW : FuncData} (F : Fun K "is_wire" "is_wire" sIsWire f fd) (hm : mg "is_wire" = some (.ref f)) (B : Bt mg) (DF : DFromTo P w K mg base fF fdF) (DW : DWorth P w K mg base fW fdW) : DIsWire P w K mg base f fd := by
  refine ⟨?_, hm, F.kp, F.binds fun _ _ _ _ _ _ us hl => match us, hl with | [_, _], _ => rfl⟩
  refine F.ok scIsWire (fun vs H Q E h => ?_) (fun cdv A outer s H vs Q E hr h => ?_)
  · obtain ⟨v, x, n, rfl, _⟩ := h
    rfl
  · obtain ⟨v, x, n, rfl, ⟨a, b, rfl, sq1, sq2⟩, hs, he, rok, rl, q⟩ := h
    have nd := scIsWire.nd
    have hr2 : Room 2 _ := hr.mono (by decide)
    refine ⟨_, pss_cons (ps_if (PW.pt (pw_or (pt_not (pt_val (pe_callB call_isi (by rfl) B.isi (by decide +kernel) (pa_cons (pv 0) (pa_cons (pe_bltn (v := .ty "tuple") (by rfl) B.tuple (by decide +kernel) rfl) pa_nil)))))
          (pw_or1 (pt_cmpR op_ne (pe_callB call_len_seq (by rfl) B.len PySem.boot_len (pa_cons (pv 0) pa_nil)) pe_int (nomark _))))) (pss_one (ps_ret pe_bl)) pss_nil) <|
      pss_cons (ps_asg (pv 0) (pg_tup (by rfl) (pgs_cons (pg_name (i := 2) nd rfl (.inl rfl)) (pgs_cons (pg_name (i := 3) nd rfl (.inl rfl)) (pgs_cons (pg_name (i := 4) nd rfl (.inl rfl)) pgs_nil))))) <|
      pss_cons (ps_if (PW.pt (pw_or (pt_not (pt_val (pe_call DF.ok hr2 (by rfl) DF.mg DF.kp DF.bd .nil pass0 (pa_cons (pv 2) (pa_cons pe_int (pa_cons (pe_op op_sub (pv 1) pe_int) pa_nil))))))
          (pw_or1 (pt_not (pt_val (pe_call DF.ok hr2 (by rfl) DF.mg DF.kp DF.bd .nil pass0 (pa_cons (pv 3) (pa_cons pe_int (pa_cons (pe_op op_sub (pv 1) pe_int) pa_nil))))))))) (pss_one (ps_ret pe_bl)) pss_nil) <|
      pss_one <| ps_ret <| pe_and (pe_callB call_isi (by rfl) B.isi (by decide +kernel) (pa_cons (pv 4) (pa_cons (pe_bltn (v := .ty "tuple") (by rfl) B.tuple (by decide +kernel) rfl) pa_nil))) <| pe_one <|
        pe_callB (cr_all rfl) (by rfl) B.all (by decide +kernel) <| (pa_cons · pa_nil) <| pe_lc (own := [("worth", 5)]) (g := gName 5) (tt := tYes) (te := tCall spWorth [] E0 (tCons (tVar 5) tNil)) rfl nd (pi_tup (pv 4)) (blkOk_by (N := nIsWire) (sc := defScope sIsWire) (own := [("worth", 5)]) (by decide +kernel))
          (fun _ _ _ _ _ => pg_name (i := 5) nd rfl (.inl rfl)) (fun _ _ _ _ _ => pts_nil) (fun _ _ _ _ _ => pe_call DW.ok hr (by rfl) DW.mg DW.kp DW.bd .nil pass0 (pa_cons (pv 5) pa_nil)), ?_⟩
    refine ⟨_, rfl, _, _, _, _, true, rfl, .ty "tuple", ty_tup sq1, kit_ty (by decide +kernel), true, rfl, ?_⟩
    refine iteF ⟨_, rfl, a, _, rfl, .inr sq1, rfl, _, rfl, iteF ?_⟩
    refine ⟨_, rfl, a, _, rfl, sq1, rfl, _, _, rfl, _, _, rfl, _, _, rfl, rfl, ?_⟩
    refine ⟨_, rfl, _, rfl, _, _, rfl, rfl, _, _, _, rfl, true, ?_, iteF ?_⟩
    · rw [decide_eq_true (by omega), decide_eq_true (by omega)]
      rfl
    refine ⟨_, rfl, _, rfl, _, _, rfl, rfl, _, _, _, rfl, true, ?_, iteF ?_⟩
    · rw [decide_eq_true (by omega), decide_eq_true (by omega)]
      rfl
    refine ⟨_, rfl, _, _, _, _, true, rfl, .ty "tuple", ty_tup sq2, kit_ty (by decide +kernel), true, rfl, iteT ?_⟩
    refine ⟨_, rfl, b, rfl, ⟨_, sq2⟩, fun D hD => ?_⟩
    refine lc_tup (K := K) (a := b) (xs := x.2.2.map V.int) (fun i Hc => Hc D = some (.lst ((List.replicate i true).map V.bl)) ∧ Same H Hc) ⟨upd_same, same_new hD⟩ (fun i Hc _ ⟨_, sm⟩ => (TK.same sm).seq sq2) ?_ ?_
    · rintro i y Hc hy ⟨hc, sm⟩
      rw [List.getElem?_map] at hy
      cases ey : x.2.2[i]? with
      | none =>
        rw [ey] at hy
        cases hy
      | some z =>
      rw [ey] at hy
      cases hy
      have hz := rok z (List.mem_of_getElem? ey)
      have hi : i < x.2.2.length := (List.getElem?_eq_some_iff.mp ey).1
      refine ⟨rfl, tyes ?_⟩
      refine ⟨_, rfl, z, rfl, _, hc, by rw [List.length_map, List.length_replicate]; exact small1000 (by omega), ?_, same_mut sm hD⟩
      rw [upd_same, decide_eq_true hz.1, decide_eq_true hz.2, List.replicate_succ', List.map_append]
      rfl
    · rintro Hc ⟨hc, sm⟩
      refine ⟨D, _, rfl, SqL.of hc, ?_⟩
      have e : (List.replicate (x.2.2.map V.int).length true).all id = true := by
        rw [List.all_eq_true]
        intro y hy
        rw [List.mem_replicate] at hy
        rw [hy.2]
        rfl
      rw [e]
      exact q Hc sm
/-! ### is_taken -/
theorem scTaken : FnScope ["wire", "gates", "come", "start", "end"] ["wire", "gates", "come"] (defScope sTaken) := ⟨rfl, rfl, rfl, by decide +kernel, rfl, by decide +kernel, by decide +kernel⟩
abbrev DTaken (P : Program) (w : World) (K : PySem.W.Frag) (mg : Str → Option Value) (base : Heap) := Df P w K mg base 1 "is_taken" ["wire", "gates", "come"] (spTaken K)
theorem ok_taken {f : Addr} {fd : FuncData} (F : Fun K "is_taken" "is_taken" sTaken f fd) (hm : mg "is_taken" = some (.ref f)) : DTaken P w K mg base f fd := by
  refine ⟨?_, hm, F.kp, F.binds fun _ _ _ _ _ _ us hl => match us, hl with | [_, _, _], _ => rfl⟩
  refine F.ok scTaken (fun vs H Q E h => ?_) (fun cdv A outer s H vs Q E hr h => ?_)
  · obtain ⟨v, x, lg, lc, gs, cs, rfl, _⟩ := h
    rfl
  · obtain ⟨v, x, lg, lc, gs, cs, rfl, ⟨a, b, rfl, sq1, sq2⟩, ⟨gv, sg, ga⟩, sc, W, hcl, h0, q⟩ := h
    have nd := scTaken.nd
    refine ⟨_, pss_cons (ps_par (i := 3) (j := 4) (by rfl) nd rfl rfl (by decide) rfl rfl (pa_cons (pe_ix ix_tup (pv 0) pe_int (fun _ _ => rfl)) (pa_cons (pe_ix ix_tup (pv 0) pe_int (fun _ _ => rfl)) pa_nil)) (by rfl)) <|
      pss_cons (ps_if (PW.pt (pw_or (pt_cmpR op_eq (pe_ix ix_tup (pe_ix ix_list (pv 1) (pv 3) (fun _ _ => rfl)) pe_int (fun _ _ => rfl)) pe_str (nomark _)) (pw_or1 (pt_cmpR op_eq (pe_ix ix_tup (pe_ix ix_list (pv 1) (pv 4) (fun _ _ => rfl)) pe_int (fun _ _ => rfl)) pe_str (nomark _))))) (pss_one (ps_ret pe_bl)) pss_nil) <|
      pss_one <| ps_ret <| pe_or (pe_cmpR op_ne (pe_ix ix_tup (pe_ix ix_list (pv 1) (pv 4) (fun _ _ => rfl)) pe_int (fun _ _ => rfl)) pe_str (nomark _)) (pe_one (pe_cmpR op_eq (pe_ix ix_list (pv 2) (pv 4) (fun _ _ => rfl)) pe_int (nomark _))), ?_⟩
    have hl : gv.length = gs.length := ga.1
    obtain ⟨vs1, g1, e1, f1, a1, rfl, s1⟩ : ∃ vs1 g1, gv[x.1]? = some vs1 ∧ gs[x.1]? = some g1 ∧ GateV K H vs1 g1 := by
      have e1 : gs[x.1]? = some (gs[x.1]'W.s) := List.getElem?_eq_getElem W.s
      obtain ⟨y, hy, r⟩ := ga.getR e1
      exact ⟨y, _, hy, e1, r⟩
    obtain ⟨vs2, g2, e2, f2, a2, rfl, s2⟩ : ∃ vs2 g2, gv[x.2.1]? = some vs2 ∧ gs[x.2.1]? = some g2 ∧ GateV K H vs2 g2 := by
      have e1 : gs[x.2.1]? = some (gs[x.2.1]'W.e) := List.getElem?_eq_getElem W.e
      obtain ⟨y, hy, r⟩ := ga.getR e1
      exact ⟨y, _, hy, e1, r⟩
    have k1 := kindAt_get f1
    have k2 := kindAt_get f2
    refine ⟨_, rfl, a, _, 0, _, rfl, rfl, sq1, atI_nat (j := 0) rfl, _, rfl, a, _, 1, _, rfl, rfl, sq1, atI_nat (j := 1) rfl, _, _, rfl, ?_⟩
    refine ⟨_, rfl, _, rfl, lg, gv, _, _, rfl, rfl, sg, atI_nat e1, a1, _, 0, _, rfl, rfl, s1, atI_nat (j := 0) rfl, rfl, false, ?_, iteF ?_⟩
    · show V.bl (decide (V.str g1.1 = V.str "out")) = V.bl false
      rw [decide_eq_false]
      intro z
      exact W.ks (by rw [k1]; exact V.str.inj z)
    refine ⟨_, rfl, _, rfl, lg, gv, _, _, rfl, rfl, sg, atI_nat e2, a2, _, 0, _, rfl, rfl, s2, atI_nat (j := 0) rfl, rfl, false, ?_, iteF ?_⟩
    · show V.bl (decide (V.str g2.1 = V.str "in")) = V.bl false
      rw [decide_eq_false]
      intro z
      exact W.ke (by rw [k2]; exact V.str.inj z)
    refine ⟨_, rfl, _, rfl, lg, gv, _, _, rfl, rfl, sg, atI_nat e2, a2, _, 0, _, rfl, rfl, s2, atI_nat (j := 0) rfl, rfl, _, rfl, ite2 (fun e => ?_) (fun e => ?_)⟩
    · exact q
    · have hk : kindAt gs x.2.1 = "out" := by
        rw [k2]
        refine Classical.byContradiction fun z => e ?_
        show (!decide (V.str g2.1 = V.str "out")) = true
        rw [decide_eq_false (fun y => z (V.str.inj y))]
        rfl
      have hc := h0 hk
      refine ⟨_, rfl, _, rfl, lc, _, _, .int 0, rfl, rfl, sc, atI_nat (by rw [List.getElem?_map, hc]; rfl), rfl, q⟩
end
end Lag

set_option maxRecDepth 100000
set_option maxHeartbeats 4000000
namespace Lag
open PySem PySem.Spec PyProof.Rows L2
abbrev sChkWires : Stmt := topS 30
def cntL (n : Nat) (ws : List Wr) : List Nat := (List.range n).map (cnt ws)
theorem cntL_len (n : Nat) (ws : List Wr) : (cntL n ws).length = n := by simp [cntL]
theorem cntL_get {n e : Nat} {ws : List Wr} (h : e < n) : (cntL n ws)[e]? = some (cnt ws e) := by
  unfold cntL
  rw [List.getElem?_map, List.getElem?_range h]
  rfl
theorem cntL_nil (n : Nat) : cntL n [] = List.replicate n 0 := by
  refine List.ext_getElem? fun i => ?_
  by_cases h : i < n
  · rw [cntL_get h, List.getElem?_replicate, if_pos h]
    rfl
  · rw [List.getElem?_eq_none (by rw [cntL_len]; omega), List.getElem?_eq_none (by simp; omega)]
theorem cnt_app (ws : List Wr) (x : Wr) (e : Nat) : cnt (ws ++ [x]) e = cnt ws e + if x.2.1 = e then 1 else 0 := by
  unfold cnt
  rw [List.countP_append, List.countP_cons, List.countP_nil]
  by_cases h : x.2.1 = e <;> simp [h]
theorem cntL_app {n : Nat} {ws : List Wr} {x : Wr} (h : x.2.1 < n) : (cntL n ws).set x.2.1 (cnt ws x.2.1 + 1) = cntL n (ws ++ [x]) := by
  refine List.ext_getElem? fun i => ?_
  by_cases hi : i < n
  · rw [cntL_get hi, cnt_app, List.getElem?_set]
    by_cases e : x.2.1 = i
    · rw [if_pos e, if_pos e, if_pos (by rw [cntL_len]; exact h), e]
    · rw [if_neg e, if_neg e, cntL_get hi]
      rfl
  · rw [List.getElem?_eq_none (by rw [List.length_set, cntL_len]; omega), List.getElem?_eq_none (by rw [cntL_len]; omega)]
theorem cnt_take_lt {ws : List Wr} {i : Nat} {x : Wr} (h : ws[i]? = some x) : cnt (ws.take i) x.2.1 + 1 ≤ cnt ws x.2.1 := by
  have e : ws.take (i + 1) = ws.take i ++ [x] := by rw [List.take_add_one, h]; rfl
  have h1 : cnt (ws.take (i + 1)) x.2.1 ≤ cnt ws x.2.1 := by
    unfold cnt
    exact List.Sublist.countP_le (List.take_sublist _ _)
  rw [e, cnt_app, if_pos rfl] at h1
  exact h1
def spChkWires (K : PySem.W.Frag) : Sp := fun vs H Q _ => ∃ (lg lw : Addr) (gs : List Gt) (ws : List Wr), vs = [.ref lg, .ref lw] ∧ RG K H lg gs ∧ RW K H lw ws ∧ NetOk gs ws ∧ ∀ H', Same H H' → Q .non H'
theorem map_set' {α β : Type} (f : α → β) (l : List α) (i : Nat) (a : α) : (l.map f).set i (f a) = (l.set i a).map f := by simp [List.map_set]
section
variable {P : Program} {w : World} {K : PySem.W.Frag} {mg : Str → Option Value} {base : Heap}
theorem scChkWires : FnScope ["gates", "wires", "come", "place", "thing", "gate", "many"] ["gates", "wires"] (defScope sChkWires) := ⟨rfl, rfl, rfl, by decide +kernel, rfl, by decide +kernel, by decide +kernel⟩
abbrev DChkWires (P : Program) (w : World) (K : PySem.W.Frag) (mg : Str → Option Value) (base : Heap) := Df P w K mg base 5 "check_wires" ["gates", "wires"] (spChkWires K)
theorem ok_chkWires {f fW fT aK aW aF : Addr} {fd fdW fdT : FuncData} (F : Fun K "check_wires" "check_wires" sChkWires f fd) (hm : mg "check_wires" = some (.ref f)) (B : Bt mg) (C : Cns K mg aK aW aF) (DW : DIsWire P w K mg base fW fdW) (DT : DTaken P w K mg base fT fdT) : DChkWires P w K mg base f fd := by
  refine ⟨?_, hm, F.kp, F.binds fun _ _ _ _ _ _ us hl => match us, hl with | [_, _], _ => rfl⟩
  refine F.ok scChkWires (fun vs H Q E h => ?_) (fun cdv A outer s H vs Q E hr h => ?_)
  · obtain ⟨lg, lw, gs, ws, rfl, _⟩ := h
    rfl
  · obtain ⟨lg, lw, gs, ws, rfl, RGs, ⟨wv, sw, wa⟩, N, q⟩ := h
    have nd := scChkWires.nd
    have hr1 : Room 1 _ := hr.mono (by decide)
    refine ⟨_, pss_cons (ps_if (pt_not (pt_val (pe_callB call_isi (by rfl) B.isi (by decide +kernel) (pa_cons (pv 1) (pa_cons (pe_bltn (v := .ty "list") (by rfl) B.list (by decide +kernel) rfl) pa_nil))))) (pss_one ps_never) pss_nil) <|
      pss_cons (ps_set (i := 2) nd rfl (Or.inl rfl) (pe_op op_rep (pe_lst (pa_cons pe_int pa_nil)) (pe_callB call_len_seq (by rfl) B.len PySem.boot_len (pa_cons (pv 0) pa_nil)))) <|
      pss_cons (ps_for PassesOwn.never rfl (pi_enum (by rfl) B.enum (pa_cons (pv 1) pa_nil)) (pg_tup rfl (pgs_cons (pg_name (i := 3) nd rfl (Or.inl rfl)) (pgs_cons (pg_name (i := 4) nd rfl (Or.inl rfl)) pgs_nil))) <|
        pss_cons (ps_if (PW.pt (pw_or (pt_not (pt_val (pe_call DW.ok hr (by rfl) DW.mg DW.kp DW.bd .nil pass0 (pa_cons (pv 4) (pa_cons (pe_callB call_len_seq (by rfl) B.len PySem.boot_len (pa_cons (pv 0) pa_nil)) pa_nil)))))
            (pw_or1 (pt_not (pt_val (pe_call DT.ok hr1 (by rfl) DT.mg DT.kp DT.bd .nil pass0 (pa_cons (pv 4) (pa_cons (pv 0) (pa_cons (pv 2) pa_nil))))))))) (pss_one ps_never) pss_nil) <|
        pss_one <| ps_augS (pv 2) (pe_ix ix_tup (pv 4) pe_int (fun _ _ => rfl)) get_list pe_int ip_add set_list) <|
      pss_one <| ps_for PassesOwn.never rfl (pi_zip (by rfl) B.zip (pa_cons (pv 0) (pa_cons (pv 2) pa_nil))) (pg_tup rfl (pgs_cons (pg_name (i := 5) nd rfl (Or.inl rfl)) (pgs_cons (pg_name (i := 6) nd rfl (Or.inl rfl)) pgs_nil))) <|
        pss_one <| ps_if (PW.pt (pw_and (pt_cmpR op_in_seq (pe_ix ix_tup (pv 5) pe_int (fun _ _ => rfl)) (pe_glob (v := .ref aF) (by rfl) C.mF rfl) (by rfl)) (pw_and1 (pt_cmpR op_eq (pv 6) pe_int (nomark _))))) (pss_one ps_never) pss_nil, ?_⟩
    obtain ⟨gv, sg, ga⟩ := id RGs
    have hlg : gv.length = gs.length := ga.1
    have hlw : wv.length = ws.length := wa.1
    have hgl := N.gl
    refine ⟨_, rfl, _, _, _, _, true, rfl, .ty "list", ty_lst sw, kit_ty (by decide +kernel), true, rfl, iteF ?_⟩
    refine ⟨(by show 1 ≤ sizeLine; decide), fun l0 hl0 => ?_⟩
    refine ⟨_, rfl, lg, gv, rfl, .inl ((same_new hl0).seq sg), ?_⟩
    refine ⟨l0, _, _, rfl, rfl, upd_same, by omega, by omega, ?_, fun lc hlc => ?_⟩
    · show 1 * _ ≤ sizeLine
      have : 1 * ((gv.length : Int)).toNat ≤ 1000 := by omega
      exact Nat.le_of_lt (small1000 this)
    have sm0 : Same H (upd H l0 (.lst [.int 0])) := same_new hl0
    have hlc0 : H lc = none := sm0.free hlc
    have e0 : (List.replicate ((gv.length : Int)).toNat [V.int 0]).flatten = (cntL gs.length (ws.take 0)).map fun i => V.int (i : Nat) := by
      rw [List.take_zero, cntL_nil, List.map_replicate, ← hlg, Int.toNat_natCast]
      generalize gv.length = n
      induction n with
      | zero => rfl
      | succ n ih =>
        rw [List.replicate_succ, List.flatten_cons, ih, List.replicate_succ]
        rfl
    rw [e0]
    -- for place, thing in enumerate(wires)
    refine ⟨_, rfl, lw, wv, rfl, (sm0.trans (same_new hlc)).seq sw, for_it (walk_enum (K := K) (a := lw) (xs := wv)) (fun i σ H2 => ∃ s3 s4 : Option V, σ = [some (.ref lg), some (.ref lw), some (.ref lc), s3, s4, none, none] ∧
        H2 lc = some (.lst ((cntL gs.length (ws.take i)).map fun i => V.int (i : Nat))) ∧ Same H H2)
      ⟨_, _, rfl, upd_same, sm0.trans (same_new hlc)⟩ (fun i σ H2 _ ⟨_, _, _, _, sm⟩ => sm.seq sw) ?_ ?_⟩
    · rintro i v σ H2 H2' hi ⟨s3, s4, rfl, hc, sm⟩ ⟨T, x1, y, rfl, hT, rfl, ex, ey⟩
      cases ex
      obtain ⟨x, hx, wx⟩ := wa.get ey
      have W := N.wok x (List.mem_of_getElem? hx)
      have hxi : i < ws.length := (List.getElem?_eq_some_iff.mp hx).1
      have smT : Same H2 (upd H2 T (.tup [.int (i : Nat), y])) := same_new hT
      have sm2 := sm.trans smT
      refine ⟨T, _, rfl, .inl (.inl upd_same), rfl, _, _, rfl, _, _, rfl, rfl, ?_⟩
      refine ⟨_, rfl, _, rfl, lg, gv, rfl, .inl (sm2.seq sg), y, x, gv.length, rfl, wx.tk (TK.same sm2), by rw [hlg]; exact W.s, by rw [hlg]; exact W.e, W.r, by have := W.rl; omega, fun H3 sm3 => ⟨true, rfl, iteF ?_⟩⟩
      have sm4 := sm2.trans sm3
      have hc3 := sm3 _ _ (smT _ _ hc)
      refine ⟨_, rfl, _, rfl, _, rfl, y, x, lg, lc, gs, cntL gs.length (ws.take i), rfl, wx.tk (TK.same sm4), RGs.same sm4, SqL.of hc3, W, cntL_len _ _, fun hk => ?_, true, rfl, iteF ?_⟩
      · rw [cntL_get W.e]
        have h1 := N.one _ W.e hk
        have h2 := cnt_take_lt hx
        congr 1
        omega
      obtain ⟨a, b, rfl, sq1, sq2⟩ := wx
      have hlen : x.2.1 < (cntL gs.length (ws.take i)).length := by rw [cntL_len]; exact W.e
      refine ⟨_, rfl, _, rfl, a, _, 1, _, rfl, rfl, (TK.same sm4).seq sq1, atI_nat (j := 1) rfl, lc, _, x.2.1, .int (cnt (ws.take i) x.2.1 : Nat), rfl, rfl, SqL.of hc3, by rw [List.getElem?_map, cntL_get W.e]; rfl, _, _, rfl, rfl, lc, _, _, x.2.1, rfl, rfl, hc3, Evl.ixN_nat (by rw [List.length_map]; exact hlen), ?_⟩
      refine ⟨_, _, rfl, ?_, same_mut sm4 hlc0⟩
      have et : ws.take (i + 1) = ws.take i ++ [x] := by rw [List.take_add_one, hx]; rfl
      rw [upd_same, et, ← cntL_app W.e, ← map_set']
      rfl
    · rintro σ H2 ⟨s3, s4, rfl, hc, sm⟩
      rw [hlw, List.take_length] at hc
      -- for gate, many in zip(gates, come)
      refine ⟨_, rfl, _, rfl, lg, lc, gv, _, rfl, sm.seq sg, SqL.of hc, RZ.for_zipL (K := K) (a := lg) (b := lc) (xs := gv) (by rw [List.length_map, cntL_len]; exact hlg) (fun i σ H3 => ∃ s5 s6 : Option V, σ = [some (.ref lg), some (.ref lw), some (.ref lc), s3, s4, s5, s6] ∧ Same H2 H3)
        ⟨_, _, rfl, Same.refl H2⟩ (fun i σ H3 ⟨_, _, _, sm3⟩ => ⟨(sm.trans sm3).seq sg, SqL.of (sm3 _ _ hc)⟩) ?_ ?_⟩
      · rintro i x y T σ H3 hx hy ⟨s5, s6, rfl, sm3⟩ hT
        obtain ⟨g, hg, a, rfl, sq⟩ := ga.get hx
        have hgi : i < gs.length := (List.getElem?_eq_some_iff.mp hg).1
        rw [List.getElem?_map, cntL_get hgi] at hy
        cases hy
        have sm4 : Same H (upd H3 T (.tup [.ref a, .int (cnt ws i : Nat)])) := (sm.trans sm3).trans (same_new hT)
        refine ⟨T, _, rfl, .inl (.inl upd_same), rfl, _, _, rfl, _, _, rfl, rfl, ?_⟩
        refine ⟨_, rfl, a, _, 0, _, rfl, rfl, (TK.same sm4).seq sq, atI_nat (j := 0) rfl, aF, _, rfl, .inr (C.sF _), rfl, rfl, _, rfl, ite2 (fun e => ?_) (fun e => ?_)⟩
        · have e' : inV (V.str g.1) [V.str "out", V.str "first"] = true := e
          have hpos : 1 ≤ cnt ws i := by
            unfold inV at e'
            rw [List.any_eq_true] at e'
            obtain ⟨x, hx, hxe⟩ := e'
            simp only [List.mem_cons, List.not_mem_nil, or_false] at hx
            rcases hx with rfl | rfl
            · have := N.one i hgi (by rw [kindAt_get hg]; exact (eq_of_beq hxe).symm)
              omega
            · exact N.some i hgi (by rw [kindAt_get hg]; exact (eq_of_beq hxe).symm)
          refine ⟨_, rfl, rfl, false, ?_, iteF ⟨_, _, rfl, sm3.trans (same_new hT)⟩⟩
          show V.bl (decide (V.int (cnt ws i : Int) = V.int 0)) = V.bl false
          rw [decide_eq_false]
          intro z
          have := V.int.inj z
          omega
        · exact iteF ⟨_, _, rfl, sm3.trans (same_new hT)⟩
      · rintro σ H3 ⟨s5, s6, rfl, sm3⟩
        exact q H3 (sm.trans sm3)
end
end Lag

set_option maxRecDepth 100000
set_option maxHeartbeats 4000000
namespace Lag
open PySem PySem.Spec PyProof.Rows L2
/-! ### the order of gates along wires without registers: the mathematics -/
def bare (ws : List Wr) : List (Nat × Nat) := (ws.filter fun x => x.2.2.isEmpty).map fun x => (x.1, x.2.1)
/-- how many wires of B lead into e from gates that are not in dn -/
def mis (B : List (Nat × Nat)) (dn : List Nat) (e : Nat) : Nat := B.countP fun b => b.2 == e && !dn.contains b.1
def frm (B : List (Nat × Nat)) (g e : Nat) : Nat := B.countP fun b => b.1 == g && b.2 == e
theorem mis_split {B : List (Nat × Nat)} {dn : List Nat} {g : Nat} (h : g ∉ dn) (e : Nat) : mis B dn e = mis B (dn ++ [g]) e + frm B g e := by
  unfold mis frm
  induction B with
  | nil => rfl
  | cons b B ih =>
    rw [List.countP_cons, List.countP_cons, List.countP_cons, ih]
    by_cases h1 : b.2 = e
    · by_cases h2 : b.1 = g
      · have : b.1 ∉ dn := by rw [h2]; exact h
        simp [h1, h2, h]
        omega
      · by_cases h3 : b.1 ∈ dn
        · simp [h1, h2, h3]
        · simp [h1, h2, h3]
          omega
    · simp [h1]
theorem mis_zero {B : List (Nat × Nat)} {dn : List Nat} {e : Nat} (h : mis B dn e = 0) {b : Nat × Nat} (hb : b ∈ B) (he : b.2 = e) : b.1 ∈ dn := by
  unfold mis at h
  rw [List.countP_eq_zero] at h
  have := h b hb
  simp [he] at this
  exact this
theorem frm_drop {B : List (Nat × Nat)} {j : Nat} {b : Nat × Nat} (h : B[j]? = some b) (g e : Nat) : frm (B.drop j) g e = frm (B.drop (j + 1)) g e + if b.1 = g ∧ b.2 = e then 1 else 0 := by
  obtain ⟨hj, rfl⟩ := List.getElem?_eq_some_iff.mp h
  rw [List.drop_eq_getElem_cons hj]
  unfold frm
  rw [List.countP_cons]
  by_cases h1 : B[j].1 = g <;> by_cases h2 : B[j].2 = e <;> simp [h1, h2]
structure KI (B : List (Nat × Nat)) (n : Nat) (placed : List Nat) (d : Nat) : Prop where
  nd : placed.Nodup
  lt : ∀ e ∈ placed, e < n
  le : d ≤ placed.length
  iff : ∀ e, e < n → (e ∈ placed ↔ mis B (placed.take d) e = 0)
  top : ∀ (j e : Nat), placed[j]? = some e → ∀ b ∈ B, b.2 = e → b.1 ∈ placed.take j
structure KJ (B : List (Nat × Nat)) (n : Nat) (placed : List Nat) (d g j : Nat) : Prop where
  nd : placed.Nodup
  lt : ∀ e ∈ placed, e < n
  at_ : placed[d]? = some g
  iff : ∀ e, e < n → (e ∈ placed ↔ mis B (placed.take (d + 1)) e + frm (B.drop j) g e = 0)
  top : ∀ (j e : Nat), placed[j]? = some e → ∀ b ∈ B, b.2 = e → b.1 ∈ placed.take j
theorem take_add {l : List Nat} {d g : Nat} (h : l[d]? = some g) : l.take (d + 1) = l.take d ++ [g] := by rw [List.take_add_one, h]; rfl
theorem nodup_take {l : List Nat} {d g : Nat} (nd : l.Nodup) (h : l[d]? = some g) : g ∉ l.take d := by
  intro hm
  obtain ⟨i, hi⟩ := List.getElem?_of_mem hm
  have h1 : i < d := by
    have := (List.getElem?_eq_some_iff.mp hi).1
    rw [List.length_take] at this
    omega
  rw [List.getElem?_take_of_lt h1] at hi
  have := nd_ix nd hi h
  omega
theorem KI.go {B : List (Nat × Nat)} {n : Nat} {placed : List Nat} {d g : Nat} (h : KI B n placed d) (hg : placed[d]? = some g) : KJ B n placed d g 0 :=
  ⟨h.nd, h.lt, hg, fun e he => by rw [h.iff e he, take_add hg, mis_split (nodup_take h.nd hg), List.drop_zero], h.top⟩
theorem KJ.done {B : List (Nat × Nat)} {n : Nat} {placed : List Nat} {d g : Nat} (h : KJ B n placed d g B.length) : KI B n placed (d + 1) := by
  have hd : d < placed.length := (List.getElem?_eq_some_iff.mp h.at_).1
  refine ⟨h.nd, h.lt, hd, fun e he => ?_, h.top⟩
  rw [h.iff e he, List.drop_length]
  rfl
theorem KJ.skip {B : List (Nat × Nat)} {n : Nat} {placed : List Nat} {d g j : Nat} {b : Nat × Nat} (h : KJ B n placed d g j) (hb : B[j]? = some b) (hg : b.1 ≠ g) : KJ B n placed d g (j + 1) :=
  ⟨h.nd, h.lt, h.at_, fun e he => by rw [h.iff e he, frm_drop hb, if_neg (fun z => hg z.1)]; rfl, h.top⟩
theorem KJ.not {B : List (Nat × Nat)} {n : Nat} {placed : List Nat} {d g j : Nat} {b : Nat × Nat} (h : KJ B n placed d g j) (hb : B[j]? = some b) (hg : b.1 = g) (hn : mis B (placed.take (d + 1)) b.2 + frm (B.drop (j + 1)) g b.2 ≠ 0) : KJ B n placed d g (j + 1) := by
  refine ⟨h.nd, h.lt, h.at_, fun e he => ?_, h.top⟩
  rw [h.iff e he, frm_drop hb]
  by_cases h2 : b.2 = e
  · subst h2
    rw [if_pos ⟨hg, rfl⟩]
    omega
  · rw [if_neg (fun z => h2 z.2)]
    rfl
theorem KJ.put {B : List (Nat × Nat)} {n : Nat} {placed : List Nat} {d g j : Nat} {b : Nat × Nat} (h : KJ B n placed d g j) (hb : B[j]? = some b) (hg : b.1 = g) (hlt : b.2 < n) (hn : mis B (placed.take (d + 1)) b.2 + frm (B.drop (j + 1)) g b.2 = 0) : KJ B n (placed ++ [b.2]) d g (j + 1) := by
  have hd : d < placed.length := (List.getElem?_eq_some_iff.mp h.at_).1
  have hnot : b.2 ∉ placed := fun z => by
    have := (h.iff _ hlt).mp z
    rw [frm_drop hb, if_pos ⟨hg, rfl⟩] at this
    omega
  have et : (placed ++ [b.2]).take (d + 1) = placed.take (d + 1) := List.take_append_of_le_length (by omega)
  refine ⟨?_, ?_, ?_, ?_, ?_⟩
  · rw [List.nodup_append]
    refine ⟨h.nd, by simp, fun a ha c hc => ?_⟩
    simp at hc
    subst hc
    intro z
    exact hnot (by rw [← z]; exact ha)
  · intro e he
    rcases List.mem_append.mp he with he | he
    · exact h.lt e he
    · simp at he
      subst he
      exact hlt
  · rw [List.getElem?_append_left hd]
    exact h.at_
  · intro e he
    rw [et, List.mem_append]
    by_cases h2 : b.2 = e
    · subst h2
      simp [hn]
    · have := h.iff e he
      rw [frm_drop hb, if_neg (fun z => h2 z.2)] at this
      rw [this]
      simp
      intro z
      exact absurd z.symm h2
  · intro k e hk c hc hce
    by_cases hk' : k < placed.length
    · rw [List.getElem?_append_left hk'] at hk
      rw [List.take_append_of_le_length (by omega)]
      exact h.top k e hk c hc hce
    · have hkl : k = placed.length := by
        have := (List.getElem?_eq_some_iff.mp hk).1
        simp at this
        omega
      subst hkl
      rw [List.getElem?_append_right (by omega)] at hk
      simp at hk
      subst hk
      rw [List.take_left']
      · have := mis_zero (show mis B (placed.take (d + 1)) b.2 = 0 by omega) hc hce
        exact List.mem_of_mem_take this
      · rfl
/-- what the order is: gates without two alike, each behind those it hangs on; all whose wires come from such -/
def Ord (n : Nat) (ws : List Wr) (ord : List Nat) : Prop := KI (bare ws) n ord ord.length
theorem Ord.full {n : Nat} {ws : List Wr} {ord : List Nat} (h : Ord n ws ord) (hw : ∀ x ∈ ws, x.1 < n ∧ x.2.1 < n) (rk : ∃ ρ : Nat → Nat, ∀ x ∈ ws, x.2.2 = [] → ρ x.1 < ρ x.2.1) : ord.Perm (List.range n) := by
  obtain ⟨ρ, hρ⟩ := rk
  have all : ∀ r e, e < n → ρ e = r → e ∈ ord := by
    intro r
    induction r using Nat.strongRecOn with
    | ind r ih =>
      intro e he hr
      rw [h.iff e he, List.take_length]
      unfold mis
      rw [List.countP_eq_zero]
      intro b hb
      obtain ⟨x, hx, rfl⟩ := List.mem_map.mp hb
      rw [List.mem_filter] at hx
      have hr0 : x.2.2 = [] := by simpa using hx.2
      have := hρ x hx.1 hr0
      simp
      intro z
      exact ih (ρ x.1) (by rw [← hr, ← z]; exact this) x.1 (hw x hx.1).1 rfl
  rw [List.perm_iff_count]
  intro a
  rw [h.nd.count, List.nodup_range.count]
  by_cases ha : a < n
  · rw [if_pos (all _ a ha rfl), if_pos (List.mem_range.mpr ha)]
  · rw [if_neg (fun z => ha (h.lt a z)), if_neg (fun z => ha (List.mem_range.mp z))]
end Lag

set_option maxRecDepth 100000
set_option maxHeartbeats 8000000
namespace Lag
open PySem PySem.Spec PyProof.Rows L2
abbrev sAlong : Stmt := topS 20
abbrev sOrder : Stmt := topS 34
def PairV (K : PySem.W.Frag) (H : Hp) (v : V) (b : Nat × Nat) : Prop := ∃ a, v = .ref a ∧ SqT K H a [.int (b.1 : Nat), .int (b.2 : Nat)]
theorem PairV.tk {K : PySem.W.Frag} {H H' : Hp} {v : V} {b : Nat × Nat} (t : TK H H') (h : PairV K H v b) : PairV K H' v b := by
  obtain ⟨a, e, s⟩ := h
  exact ⟨a, e, t.seq s⟩
/-- numbers by a function of the place -/
def fnL (n : Nat) (f : Nat → Nat) : List V := (List.range n).map fun e => V.int (f e : Nat)
theorem fnL_len (n : Nat) (f : Nat → Nat) : (fnL n f).length = n := by simp [fnL]
theorem fnL_get {n e : Nat} {f : Nat → Nat} (h : e < n) : (fnL n f)[e]? = some (V.int (f e : Nat)) := by
  unfold fnL
  rw [List.getElem?_map, List.getElem?_range h]
  rfl
theorem fnL_set {n e : Nat} {f f' : Nat → Nat} {z : Int} (h : e < n) (he : (f' e : Int) = z) (ho : ∀ i, i ≠ e → f' i = f i) : (fnL n f).set e (V.int z) = fnL n f' := by
  refine List.ext_getElem? fun i => ?_
  by_cases hi : i < n
  · rw [fnL_get hi, List.getElem?_set]
    by_cases ei : e = i
    · subst ei
      rw [if_pos rfl, if_pos (by rw [fnL_len]; exact h), he]
    · rw [if_neg ei, fnL_get hi, ho i (fun z => ei z.symm)]
  · rw [List.getElem?_eq_none (by rw [List.length_set, fnL_len]; omega), List.getElem?_eq_none (by rw [fnL_len]; omega)]
theorem fnL_zero (n : Nat) (f : Nat → Nat) (h : ∀ e, f e = 0) : (List.replicate n [V.int 0]).flatten = fnL n f := by
  have e : f = fun _ => 0 := funext h
  subst e
  unfold fnL
  induction n with
  | zero => rfl
  | succ n ih =>
    rw [List.replicate_succ', List.flatten_append, ih, List.range_succ, List.map_append]
    rfl
def spOrder (K : PySem.W.Frag) : Sp := fun vs H Q _ => ∃ (n : Nat) (lw : Addr) (ws : List Wr), vs = [.int (n : Nat), .ref lw] ∧ RW K H lw ws ∧ (∀ x ∈ ws, x.1 < n ∧ x.2.1 < n) ∧ n ≤ 1000 ∧ ws.length ≤ 1000 ∧
  ∀ (ord : List Nat) (p : Addr) (H' : Hp), Ord n ws ord → Same H H' → H p = none → H' p = some (.lst (ord.map fun i => V.int (i : Nat))) → Q (.ref p) H'
def spAlong (K : PySem.W.Frag) : Sp := fun vs H Q _ => ∃ (n : Nat) (lb : Addr) (bv : List V) (B : List (Nat × Nat)), vs = [.int (n : Nat), .ref lb] ∧ SqL K H lb bv ∧ All2 (PairV K H) bv B ∧ (∀ b ∈ B, b.1 < n ∧ b.2 < n) ∧ n ≤ 1000 ∧ B.length ≤ 1000 ∧
  ∀ (ord : List Nat) (p : Addr) (H' : Hp), KI B n ord ord.length → Same H H' → H p = none → H' p = some (.lst (ord.map fun i => V.int (i : Nat))) → Q (.ref p) H'
abbrev nAlong : List Str := ["many", "pairs", "missing", "start", "end", "placed", "done", "place"]
theorem scAlong : FnScope nAlong ["many", "pairs"] (defScope sAlong) := ⟨rfl, rfl, rfl, by decide +kernel, rfl, by decide +kernel, by decide +kernel⟩
abbrev nOrder : List Str := ["many_gates", "wires", "start", "end", "held"]
theorem scOrder : FnScope nOrder ["many_gates", "wires"] (defScope sOrder) := ⟨rfl, rfl, rfl, by decide +kernel, rfl, by decide +kernel, by decide +kernel⟩
theorem bare_take {ws : List Wr} {i : Nat} {x : Wr} (h : ws[i]? = some x) : bare (ws.take (i + 1)) = if x.2.2.isEmpty then bare (ws.take i) ++ [(x.1, x.2.1)] else bare (ws.take i) := by
  unfold bare
  rw [List.take_add_one, h]
  show ((ws.take i ++ [x]).filter _).map _ = _
  rw [List.filter_append]
  by_cases e : x.2.2.isEmpty
  · rw [if_pos e, List.filter_cons, if_pos e, List.map_append]
    rfl
  · rw [if_neg e, List.filter_cons, if_neg e, List.filter_nil, List.append_nil]
theorem bare_len (ws : List Wr) : (bare ws).length ≤ ws.length := by
  unfold bare
  rw [List.length_map]
  exact List.length_filter_le _ _
theorem mis_take {B : List (Nat × Nat)} {i : Nat} {b : Nat × Nat} (h : B[i]? = some b) (e : Nat) : mis (B.take (i + 1)) [] e = mis (B.take i) [] e + if b.2 = e then 1 else 0 := by
  unfold mis
  rw [List.take_add_one, h]
  show (B.take i ++ [b]).countP _ = _
  rw [List.countP_append, List.countP_cons, List.countP_nil]
  by_cases h1 : b.2 = e <;> simp [h1]
section
variable {P : Program} {w : World} {K : PySem.W.Frag} {mg : Str → Option Value} {base : Heap}
abbrev DAlong (P : Program) (w : World) (K : PySem.W.Frag) (mg : Str → Option Value) (base : Heap) := Df P w K mg base 1 "order_along" ["many", "pairs"] (spAlong K)
theorem ok_along {f : Addr} {fd : FuncData} (F : Fun K "order_along" "order_along" sAlong f fd) (hm : mg "order_along" = some (.ref f)) (Bb : Bt mg) : DAlong P w K mg base f fd := by
  refine ⟨?_, hm, F.kp, F.binds fun _ _ _ _ _ _ us hl => match us, hl with | [_, _], _ => rfl⟩
  refine F.ok scAlong (fun vs H Q E h => ?_) (fun cdv A outer s H vs Q E hr h => ?_)
  · obtain ⟨n, lb, bv, B, rfl, _⟩ := h
    rfl
  · obtain ⟨n, lb, bv, B, rfl, sb, ba1, hBlt, hn, hwl, q⟩ := h
    have nd := scAlong.nd
    refine ⟨_, pss_cons (ps_set (i := 2) nd rfl (Or.inr rfl) (pe_op op_rep (pe_lst (pa_cons pe_int pa_nil)) (pv 0))) <|
      pss_cons (ps_for PassesOwn.never rfl (pi_list (pv 1)) (pg_tup rfl (pgs_cons (pg_name (i := 3) nd rfl (Or.inl rfl)) (pgs_cons (pg_name (i := 4) nd rfl (Or.inl rfl)) pgs_nil)))
        (pss_one (ps_augS (pv 2) (pv 4) get_list pe_int ip_add set_list))) <|
      pss_cons (ps_setLc (i := 5) (own := [("place", 7)]) (g := gName 7) (tt := tTest (tOp rEq (tOp (rIxL K) (tVar 2) (tVar 7)) (tC (.int 0)))) (te := tVar 7) rfl nd rfl rfl (sw_true rfl rfl rfl (by decide +kernel))
          (pi_range1 (by rfl) Bb.range (pa_cons (pv 0) pa_nil)) (blkOk_by (N := nAlong) (sc := defScope sAlong) (own := [("place", 7)]) (by decide +kernel)) (fun _ _ _ _ _ => pg_name (i := 7) nd rfl (Or.inl rfl))
          (fun _ _ _ _ _ => pts_one (pt_cmpR op_eq (pe_ix ix_list (pv 2) (pv 7) (fun _ _ => rfl)) pe_int (nomark _))) (fun _ _ _ _ _ => pv 7)) <|
      pss_cons (ps_set (i := 6) nd rfl (Or.inl rfl) pe_int) <|
      pss_cons (ps_while PassesOwn.never (pt_cmpR op_lt (pv 6) (pe_callB call_len_seq (by rfl) Bb.len PySem.boot_len (pa_cons (pv 5) pa_nil)) (nomark _)) <|
        pss_cons (ps_for PassesOwn.never rfl (pi_list (pv 1)) (pg_tup rfl (pgs_cons (pg_name (i := 3) nd rfl (Or.inl rfl)) (pgs_cons (pg_name (i := 4) nd rfl (Or.inl rfl)) pgs_nil))) <|
          pss_one <| ps_if (pt_cmpR op_eq (pv 3) (pe_ix ix_list (pv 5) (pv 6) (fun _ _ => rfl)) (nomark _))
            (pss_cons (ps_augS (pv 2) (pv 4) get_list pe_int ip_sub set_list) <| pss_one <| ps_if (pt_cmpR op_eq (pe_ix ix_list (pv 2) (pv 4) (fun _ _ => rfl)) pe_int (nomark _))
              (pss_one (ps_expr (pe_bm PySem.F.plainAttrs_list PySem.F.slot_list_append PySem.F.type_list_append mt_append (pv 5) (pa_cons (pv 4) pa_nil)))) pss_nil) pss_nil) <|
        pss_one <| ps_aug (i := 6) nd rfl (Or.inl rfl) pe_int ip_add) <|
      pss_one <| ps_ret (pv 5), ?_⟩
    have hbl : bv.length ≤ 1000 := by
      rw [ba1.1]
      omega
    -- missing = [0] * many_gates
    refine ⟨(by show 1 ≤ sizeLine; decide), fun l0 hl0 => ?_⟩
    have sm2 : Same H (upd H l0 (.lst [.int 0])) := same_new hl0
    refine ⟨_, rfl, l0, _, _, rfl, rfl, upd_same, by omega, by omega, ?_, fun lm hlm => ?_⟩
    · show 1 * _ ≤ sizeLine
      have : 1 * ((n : Int)).toNat ≤ 1000 := by omega
      exact Nat.le_of_lt (small1000 this)
    rw [Int.toNat_natCast, fnL_zero n (mis (B.take 0) []) (fun e => by simp [mis])]
    have sm3 : Same H (upd (upd H l0 (.lst [.int 0])) lm (.lst (fnL n (mis (B.take 0) [])))) := sm2.trans (same_new hlm)
    have hm1 : H lm = none := sm2.free hlm
    -- for start, end in bare: missing[end] += 1
    refine ⟨_, rfl, lb, rfl, ⟨_, sm3.seq sb⟩, for_list (K := K) (a := lb) (xs := bv) (fun i σ H4 => ∃ s4 s5 : Option V, σ = [some (.int (n : Nat)), some (.ref lb), some (.ref lm), s4, s5, none, none, none] ∧
        H4 lm = some (.lst (fnL n (mis (B.take i) []))) ∧ Same H H4) ⟨_, _, rfl, upd_same, sm3⟩ (fun i σ H4 _ ⟨_, _, _, _, sm⟩ => sm.seq sb) ?_ ?_⟩
    · rintro i x σ H4 hx ⟨s4, s5, rfl, hml, sm4⟩
      obtain ⟨b, hbb, a, rfl, sq⟩ := ba1.get hx
      have hlt := hBlt b (List.mem_of_getElem? hbb)
      refine ⟨a, _, rfl, (TK.same sm4).seq sq, rfl, _, _, rfl, _, _, rfl, rfl, ?_⟩
      refine ⟨_, rfl, _, rfl, lm, _, b.2, _, rfl, rfl, SqL.of hml, fnL_get hlt.2, _, _, rfl, rfl, lm, _, _, b.2, rfl, rfl, hml, Evl.ixN_nat (by rw [fnL_len]; exact hlt.2), ?_⟩
      refine ⟨_, _, rfl, ?_, same_mut sm4 hm1⟩
      rw [upd_same]
      refine congrArg (fun z => some (HO.lst z)) (fnL_set hlt.2 ?_ ?_)
      · rw [mis_take hbb, if_pos rfl]
        show ((mis (B.take i) [] b.2 + 1 : Nat) : Int) = ((mis (B.take i) [] b.2 : Nat) : Int) + 1
        omega
      · intro j hj
        rw [mis_take hbb, if_neg (fun z => hj z.symm)]
        rfl
    · rintro σ H4 ⟨s4, s5, rfl, hml, sm4⟩
      rw [ba1.1, List.take_length] at hml
      -- placed = [gate for gate in range(many_gates) if missing[gate] == 0]
      refine ⟨_, rfl, _, rfl, by omega, by omega, fun lp hlp => ?_⟩
      refine lc_range (lo := 0) (n := ((n : Int)).toNat) (fun i Hc => Hc lp = some (.lst (((List.range i).filter fun e => mis B [] e == 0).map fun i => V.int (i : Nat))) ∧ Same H4 Hc) ⟨upd_same, same_new hlp⟩ ?_ ?_
      · rintro i Hc hi ⟨hc, sm⟩
        have hi' : i < n := by omega
        have hlen : (((List.range i).filter fun e => mis B [] e == 0).map fun i => V.int (i : Nat)).length ≤ 1000 := by
          rw [List.length_map]
          have := List.length_filter_le (fun e => mis B [] e == 0) (List.range i)
          rw [List.length_range] at this
          omega
        have e0 : (0 : Int) + (i : Int) = (i : Int) := Int.zero_add _
        rw [e0]
        refine ⟨rfl, ?_⟩
        refine ⟨_, rfl, _, rfl, lm, _, _, _, rfl, rfl, SqL.of (sm _ _ hml), atI_nat (fnL_get hi'), rfl, _, rfl, ite2 (fun e => ?_) (fun e => ?_)⟩
        · have hz : mis B [] i = 0 := by
            have := V.int.inj (of_decide_eq_true e)
            omega
          refine ⟨_, rfl, _, hc, Nat.lt_of_le_of_lt hlen (small1000 (Nat.le_refl _)), ?_, same_mut sm hlp⟩
          rw [upd_same, List.range_succ, List.filter_append, List.map_append, List.filter_cons, if_pos (by rw [hz]; rfl)]
          rfl
        · have hz : ¬ (mis B [] i == 0) = true := fun z => by
            apply e
            rw [beq_iff_eq] at z
            rw [z]
            rfl
          refine ⟨?_, sm⟩
          rw [List.range_succ, List.filter_append, List.filter_cons, if_neg hz, List.filter_nil, List.append_nil]
          exact hc
      · rintro H5 ⟨hp5, sm5⟩
        rw [Int.toNat_natCast] at hp5
        have k0 : KI B n ((List.range n).filter fun e => mis B [] e == 0) 0 := by
          refine ⟨List.nodup_range.sublist List.filter_sublist, fun e he => List.mem_range.mp (List.mem_filter.mp he).1, Nat.zero_le _, fun e he => ?_, fun j e hj b hb hbe => ?_⟩
          · rw [List.mem_filter, List.take_zero]
            simp [he]
          · have hm0 := (List.mem_filter.mp (List.mem_of_getElem? hj)).2
            rw [beq_iff_eq] at hm0
            have := mis_zero hm0 hb hbe
            simp at this
        -- the while
        have hp0 : H lp = none := sm4.free hlp
        refine ⟨fun m σ H6 => ∃ (placed : List Nat) (d : Nat) (s4 s5 : Option V), σ = [some (.int (n : Nat)), some (.ref lb), some (.ref lm), s4, s5, some (.ref lp), some (.int (d : Nat)), none] ∧
          KI B n placed d ∧ H6 lp = some (.lst (placed.map fun i => V.int (i : Nat))) ∧ H6 lm = some (.lst (fnL n (mis B (placed.take d)))) ∧ Same H H6 ∧ m = n - d, ?_, ?_⟩
        · have h5m := sm5 _ _ hml
          have e0 : mis B [] = mis B (((List.range n).filter fun e => mis B [] e == 0).take 0) := by rw [List.take_zero]
          rw [e0] at h5m
          exact ⟨n, _, 0, _, _, rfl, k0, hp5, h5m, sm4.trans sm5, rfl⟩
        · rintro m σ H6 ⟨placed, d, s4, s5, rfl, ki, hp6, hm6, sm6, rfl⟩
          have hp1 : H lp = none := sm4.free hlp
          have npm : lp ≠ lm := fun z => by
            rw [z, hml] at hlp
            cases hlp
          refine ⟨_, rfl, _, rfl, lp, _, rfl, .inl (SqL.of hp6), _, _, rfl, rfl, _, rfl, ite2 (fun e => ?_) (fun e => ?_)⟩
          · have hd : d < placed.length := by
              have e' : (d : Int) < ((placed.map fun i => V.int (i : Nat)).length : Int) := of_decide_eq_true e
              rw [List.length_map] at e'
              omega
            have hpl : ∀ placed : List Nat, placed.Nodup → (∀ e ∈ placed, e < n) → placed.length ≤ n := fun l hnd hlt => by
              have h1 : l.length = (l.filter fun e => decide (e < n)).length := by
                rw [List.filter_eq_self.mpr]
                intro a ha
                exact decide_eq_true (hlt a ha)
              have h2 := List.Nodup.length_le_of_subset hnd (l₂ := List.range n) (fun a ha => List.mem_range.mpr (hlt a ha))
              rw [List.length_range] at h2
              exact h2
            have hdn := hpl placed ki.nd ki.lt
            have hg : placed[d]? = some placed[d] := List.getElem?_eq_getElem hd
            refine ⟨fun σ H7 => ∃ (placed : List Nat) (s4 s5 : Option V), σ = [some (.int (n : Nat)), some (.ref lb), some (.ref lm), s4, s5, some (.ref lp), some (.int ((d : Nat) + 1)), none] ∧
              KI B n placed (d + 1) ∧ H7 lp = some (.lst (placed.map fun i => V.int (i : Nat))) ∧ H7 lm = some (.lst (fnL n (mis B (placed.take (d + 1))))) ∧ Same H H7, ?_, ?_⟩
            · rintro σ' H' ⟨placed', t4, t5, rfl, ki', hp', hm', sm'⟩
              exact ⟨n - (d + 1), by omega, placed', d + 1, t4, t5, rfl, ki', hp', hm', sm', rfl⟩
            · have e1 : mis B (placed.take d) = fun e => mis B (placed.take (d + 1)) e + frm (B.drop 0) placed[d] e := funext fun e => by
                rw [take_add hg, List.drop_zero]
                exact mis_split (nodup_take ki.nd hg) e
              rw [e1] at hm6
              generalize placed[d] = g at hg hm6
              refine ⟨_, rfl, lb, rfl, ⟨_, sm6.seq sb⟩, for_list (K := K) (a := lb) (xs := bv) (fun j σ H7 => ∃ (placed : List Nat) (s4 s5 : Option V), σ = [some (.int (n : Nat)), some (.ref lb), some (.ref lm), s4, s5, some (.ref lp), some (.int (d : Nat)), none] ∧
                  KJ B n placed d g j ∧ H7 lp = some (.lst (placed.map fun i => V.int (i : Nat))) ∧ H7 lm = some (.lst (fnL n fun e => mis B (placed.take (d + 1)) e + frm (B.drop j) g e)) ∧ Same H H7)
                ⟨placed, _, _, rfl, ki.go hg, hp6, hm6, sm6⟩ (fun i σ H4 _ ⟨_, _, _, _, _, _, _, sm⟩ => sm.seq sb) ?_ ?_⟩
              · rintro j x σ H7 hx ⟨placed, s4, s5, rfl, kj, hp7, hm7, sm7⟩
                obtain ⟨b, hbb, a, rfl, sq⟩ := ba1.get hx
                have hlt := hBlt b (List.mem_of_getElem? hbb)
                refine ⟨a, _, rfl, (TK.same sm7).seq sq, rfl, _, _, rfl, _, _, rfl, rfl, ?_⟩
                refine ⟨_, rfl, _, rfl, _, rfl, lp, _, _, _, rfl, rfl, SqL.of hp7, atI_nat (j := d) (by rw [List.getElem?_map, kj.at_]; rfl), rfl, _, rfl, ite2 (fun e => ?_) (fun e => ?_)⟩
                · have hbg : b.1 = g := by
                    have := V.int.inj (of_decide_eq_true e)
                    omega
                  have hfd : ∀ e, frm (B.drop j) g e = frm (B.drop (j + 1)) g e + if b.1 = g ∧ b.2 = e then 1 else 0 := fun e => frm_drop hbb g e
                  refine ⟨_, rfl, _, rfl, lm, _, b.2, _, rfl, rfl, SqL.of hm7, fnL_get hlt.2, _, _, rfl, rfl, lm, _, _, b.2, rfl, rfl, hm7, Evl.ixN_nat (by rw [fnL_len]; exact hlt.2), ?_⟩
                  have e2 : (fnL n fun e => mis B (placed.take (d + 1)) e + frm (B.drop j) g e).set b.2 (V.int (((mis B (placed.take (d + 1)) b.2 + frm (B.drop j) g b.2 : Nat) : Int) - 1)) = fnL n fun e => mis B (placed.take (d + 1)) e + frm (B.drop (j + 1)) g e := by
                    refine fnL_set hlt.2 ?_ ?_
                    · rw [hfd, if_pos ⟨hbg, rfl⟩]
                      omega
                    · intro i hi
                      rw [hfd, if_neg (fun z => hi z.2.symm)]
                      rfl
                  have hm8 : (upd H7 lm (.lst (fnL n fun e => mis B (placed.take (d + 1)) e + frm (B.drop (j + 1)) g e))) lm = some (.lst (fnL n fun e => mis B (placed.take (d + 1)) e + frm (B.drop (j + 1)) g e)) := upd_same
                  rw [← e2] at hm8
                  have hp8 : (upd H7 lm (.lst ((fnL n fun e => mis B (placed.take (d + 1)) e + frm (B.drop j) g e).set b.2 (V.int (((mis B (placed.take (d + 1)) b.2 + frm (B.drop j) g b.2 : Nat) : Int) - 1))))) lp = some (.lst (placed.map fun i => V.int (i : Nat))) := by
                    rw [upd_ne npm]
                    exact hp7
                  have sm8 := same_mut (p := lm) (o := .lst ((fnL n fun e => mis B (placed.take (d + 1)) e + frm (B.drop j) g e).set b.2 (V.int (((mis B (placed.take (d + 1)) b.2 + frm (B.drop j) g b.2 : Nat) : Int) - 1)))) sm7 hm1
                  have hg8 : ((fnL n fun e => mis B (placed.take (d + 1)) e + frm (B.drop j) g e).set b.2 (V.int (((mis B (placed.take (d + 1)) b.2 + frm (B.drop j) g b.2 : Nat) : Int) - 1)))[b.2]? = some (V.int ((mis B (placed.take (d + 1)) b.2 + frm (B.drop (j + 1)) g b.2 : Nat) : Int)) := by
                    rw [e2]
                    exact fnL_get hlt.2
                  have hm9 := hm8
                  rw [e2] at hm9
                  refine ⟨_, rfl, _, rfl, lm, _, _, _, rfl, rfl, SqL.of upd_same, atI_nat hg8, rfl, _, rfl, ite2 (fun e3 => ?_) (fun e3 => ?_)⟩
                  · have hz : mis B (placed.take (d + 1)) b.2 + frm (B.drop (j + 1)) g b.2 = 0 := by
                      have := V.int.inj (of_decide_eq_true e3)
                      omega
                    have hlp1 := hpl placed kj.nd kj.lt
                    have hdl : d < placed.length := (List.getElem?_eq_some_iff.mp kj.at_).1
                    refine ⟨_, rfl, .inl ⟨rfl, _, SqL.of hp8⟩, _, rfl, lp, _, _, rfl, rfl, hp8, by rw [List.length_map]; exact small1000 (by omega), ?_⟩
                    refine ⟨placed ++ [b.2], _, _, rfl, kj.put hbb hbg hlt.2 hz, ?_, ?_, same_mut sm8 hp1⟩
                    · rw [upd_same, List.map_append]
                      rfl
                    · rw [upd_ne npm.symm, List.take_append_of_le_length (by omega), ← e2]
                      exact upd_same
                  · have hz : mis B (placed.take (d + 1)) b.2 + frm (B.drop (j + 1)) g b.2 ≠ 0 := fun z => by
                      apply e3
                      rw [z]
                      rfl
                    refine ⟨placed, _, _, rfl, kj.not hbb hbg hz, hp8, ?_, sm8⟩
                    rw [← e2]
                    exact upd_same
                · have hbg : b.1 ≠ g := fun z => by
                    apply e
                    rw [z]
                    exact decide_eq_true rfl
                  refine ⟨placed, _, _, rfl, kj.skip hbb hbg, hp7, ?_, sm7⟩
                  have : (fun e => mis B (placed.take (d + 1)) e + frm (B.drop (j + 1)) g e) = fun e => mis B (placed.take (d + 1)) e + frm (B.drop j) g e := funext fun e => by
                    rw [frm_drop hbb, if_neg (fun z => hbg z.1)]
                    rfl
                  rw [this]
                  exact hm7
              · rintro σ H7 ⟨placed, s4, s5, rfl, kj, hp7, hm7, sm7⟩
                rw [ba1.1] at kj hm7
                refine ⟨_, rfl, _, _, rfl, rfl, placed, _, _, rfl, kj.done, hp7, ?_, sm7⟩
                rw [List.drop_length] at hm7
                exact hm7
          · have hd : d = placed.length := by
              have e' : ¬ (d : Int) < ((placed.map fun i => V.int (i : Nat)).length : Int) := fun z => e (decide_eq_true z)
              rw [List.length_map] at e'
              have := ki.le
              omega
            subst hd
            exact ⟨_, rfl, q placed lp H6 ki sm6 hp0 hp6⟩
abbrev DOrder (P : Program) (w : World) (K : PySem.W.Frag) (mg : Str → Option Value) (base : Heap) := Df P w K mg base 2 "bare_order" ["many_gates", "wires"] (spOrder K)
theorem ok_order {f fA : Addr} {fd fdA : FuncData} (F : Fun K "bare_order" "bare_order" sOrder f fd) (hm : mg "bare_order" = some (.ref f)) (B : Bt mg) (DA : DAlong P w K mg base fA fdA) : DOrder P w K mg base f fd := by
  refine ⟨?_, hm, F.kp, F.binds fun _ _ _ _ _ _ us hl => match us, hl with | [_, _], _ => rfl⟩
  refine F.ok scOrder (fun vs H Q E h => ?_) (fun cdv A outer s H vs Q E hr h => ?_)
  · obtain ⟨n, lw, ws, rfl, _⟩ := h
    rfl
  · obtain ⟨n, lw, ws, rfl, ⟨wv, sw, wa⟩, hws, hn, hwl, q⟩ := h
    have nd := scOrder.nd
    refine ⟨_, pss_one <| ps_ret <| pe_call DA.ok hr (by rfl) DA.mg DA.kp DA.bd .nil pass0 <| pa_cons (pv 0) <| (pa_cons · pa_nil) <|
      pe_lc (own := [("start", 2), ("end", 3), ("held", 4)]) (g := gTup K 3 (gCons (gName 2) (gCons (gName 3) (gCons (gName 4) gNil)))) (tt := tTest (tOp rEq (tCB (Evl.rLenS K) (tCons (tVar 4) tNil)) (tC (.int 0)))) (te := tTup (tCons (tVar 2) (tCons (tVar 3) tNil))) rfl nd
        (pi_list (pv 1)) (blkOk_by (N := nOrder) (sc := defScope sOrder) (own := [("start", 2), ("end", 3), ("held", 4)]) (by decide +kernel))
        (fun _ _ _ _ _ => pg_tup rfl (pgs_cons (pg_name (i := 2) nd rfl (Or.inl rfl)) (pgs_cons (pg_name (i := 3) nd rfl (Or.inl rfl)) (pgs_cons (pg_name (i := 4) nd rfl (Or.inl rfl)) pgs_nil))))
        (fun _ _ _ _ _ => pts_one (pt_cmpR op_eq (pe_callB call_len_seq (by rfl) B.len PySem.boot_len (pa_cons (pv 4) pa_nil)) pe_int (nomark _)))
        (fun _ _ _ _ _ => pe_tup (pa_cons (pv 2) (pa_cons (pv 3) pa_nil))), ?_⟩
    have hlw : wv.length = ws.length := wa.1
    -- bare = [..]
    refine ⟨_, rfl, _, rfl, lw, rfl, ⟨_, sw⟩, fun lb hlb => ?_⟩
    refine lc_list (K := K) (a := lw) (xs := wv) (fun i Hc => ∃ bv, Hc lb = some (.lst bv) ∧ All2 (PairV K Hc) bv (bare (ws.take i)) ∧ Same H Hc) ⟨[], upd_same, by simpa [bare] using All2.nil, same_new hlb⟩ (fun i Hc _ ⟨_, _, _, sm⟩ => sm.seq sw) ?_ ?_
    · rintro i x Hc hx ⟨bv, hb, ba, sm⟩
      obtain ⟨y, hy, a, b, rfl, sq1, sq2⟩ := wa.get hx
      have hyi : i < ws.length := (List.getElem?_eq_some_iff.mp hy).1
      have t := TK.same sm
      have hbl : bv.length ≤ 1000 := by
        rw [ba.1]
        have := bare_len (ws.take i)
        rw [List.length_take] at this
        omega
      refine ⟨a, _, rfl, t.seq sq1, rfl, _, _, rfl, _, _, rfl, _, _, rfl, rfl, rfl, ?_⟩
      refine ⟨_, rfl, b, _, rfl, .inr (t.seq sq2), rfl, _, rfl, ite2 (fun e => ?_) (fun e => ?_)⟩
      · have he : y.2.2.isEmpty = true := by
          have e' : (((y.2.2.map V.int).length : Nat) : Int) = 0 := V.int.inj (of_decide_eq_true e)
          rw [List.length_map] at e'
          rw [List.isEmpty_iff, ← List.length_eq_zero_iff]
          omega
        refine ⟨_, rfl, _, rfl, (by show 2 ≤ sizeLine; decide), fun p hp => ?_⟩
        have smp : Same Hc (upd Hc p (.tup [.int (y.1 : Nat), .int (y.2.1 : Nat)])) := same_new hp
        have npb : p ≠ lb := fun z => by
          rw [z, hb] at hp
          cases hp
        have t2 : TK Hc (upd (upd Hc p (.tup [.int (y.1 : Nat), .int (y.2.1 : Nat)])) lb (.lst (bv ++ [.ref p]))) := (TK.new hp).trans (TK.lst (smp _ _ hb))
        refine ⟨bv, smp _ _ hb, Nat.lt_of_le_of_lt hbl (small1000 (Nat.le_refl _)), bv ++ [.ref p], upd_same, ?_, same_mut (sm.trans smp) hlb⟩
        rw [bare_take hy, if_pos he]
        exact (ba.imp fun _ _ r => r.tk t2).snoc ⟨p, rfl, .inl (.inl (by rw [upd_ne npb]; exact upd_same))⟩
      · have he : ¬ y.2.2.isEmpty = true := fun z => by
          apply e
          rw [List.isEmpty_iff] at z
          rw [z]
          rfl
        exact ⟨bv, hb, by rw [bare_take hy, if_neg he]; exact ba, sm⟩
    · rintro H1 ⟨bv, hb1, ba1, sm1⟩
      rw [hlw, List.take_length] at ba1
      have hbl : bv.length ≤ 1000 := by
        rw [ba1.1]
        have := bare_len ws
        omega
      have hBlt : ∀ b ∈ bare ws, b.1 < n ∧ b.2 < n := by
        intro b hb
        obtain ⟨x, hx, rfl⟩ := List.mem_map.mp hb
        rw [List.mem_filter] at hx
        exact hws x hx.1
      exact ⟨n, lb, bv, bare ws, rfl, SqL.of hb1, ba1, hBlt, hn, by have := bare_len ws; omega, fun ord p H2 ki s2 hp h2 => q ord p H2 ki (sm1.trans s2) (sm1.free hp) h2⟩
end
end Lag

set_option maxRecDepth 100000
set_option maxHeartbeats 4000000
namespace Lag
open PySem PySem.Spec PyProof.Rows L2
abbrev sChkRings : Stmt := topS 33
abbrev sInit : Stmt := inClass (topS 27) 0
abbrev sEq : Stmt := inClass (topS 27) 1
abbrev sIns : Stmt := inClass (topS 27) 2
abbrev sOuts : Stmt := inClass (topS 27) 3
def spChkRings (K : PySem.W.Frag) : Sp := fun vs H Q _ => ∃ (n : Nat) (lw : Addr) (ws : List Wr), vs = [.int (n : Nat), .ref lw] ∧ RW K H lw ws ∧ (∀ x ∈ ws, x.1 < n ∧ x.2.1 < n) ∧ n ≤ 1000 ∧ ws.length ≤ 1000 ∧
  (∃ ρ : Nat → Nat, ∀ x ∈ ws, x.2.2 = [] → ρ x.1 < ρ x.2.1) ∧ ∀ H', Same H H' → Q .non H'
/-! ### a net's object -/
def nf (lg lw : Addr) : List (Str × V) := putF "wires" (.ref lw) (putF "gates" (.ref lg) [])
theorem gw_ne : ¬ (("gates" : Str) = "wires") := by decide +kernel
theorem nf_eq (lg lw : Addr) : nf lg lw = ([("gates", V.ref lg), ("wires", V.ref lw)] : List (Str × V)) := by
  show (if ("gates" : Str) = "wires" then [(("gates" : Str), V.ref lw)] else (("gates" : Str), V.ref lg) :: putF "wires" (V.ref lw) []) = ([("gates", V.ref lg), ("wires", V.ref lw)] : List (Str × V))
  rw [if_neg gw_ne]
  all_goals rfl
theorem nf_gates (lg lw : Addr) : (nf lg lw).lookup ("gates" : Str) = some (.ref lg) := by
  unfold nf
  rw [lookup_putF, if_neg gw_ne, lookup_putF, if_pos rfl]
theorem nf_wires (lg lw : Addr) : (nf lg lw).lookup ("wires" : Str) = some (.ref lw) := by
  unfold nf
  rw [lookup_putF, if_pos rfl]
theorem nf_no (lg lw : Addr) {m : Str} (h1 : ¬ m = "wires") (h2 : ¬ m = "gates") : (nf lg lw).lookup m = none := by
  unfold nf
  rw [lookup_putF, if_neg h1, lookup_putF, if_neg h2]
  all_goals rfl
/-- the class as the top has made it -/
structure NT (K : PySem.W.Frag) (mg : Str → Option Value) (C : Addr) : Prop where
  cl : Cls K C
  nG : NoAttr K C "gates"
  nW : NoAttr K C "wires"
  mg : mg "Net" = some (.ref C)
/-- a net at p: its own lists at lg, lw -/
structure NetAt (K : PySem.W.Frag) (C : Addr) (H : Hp) (p lg lw : Addr) (gs : List Gt) (ws : List Wr) : Prop where
  ob : ∃ dx, H p = some (.ins C dx (nf lg lw))
  g : LG K H lg gs
  w : LW K H lw ws
  ne : lg ≠ lw
theorem LG.same {K : PySem.W.Frag} {H H' : Hp} {l : Addr} {gs : List Gt} (h : LG K H l gs) (s : Same H H') : LG K H' l gs := by
  obtain ⟨vs, q, a⟩ := h
  exact ⟨vs, s _ _ q, a.imp fun _ _ r => r.tk (TK.same s)⟩
theorem LW.same {K : PySem.W.Frag} {H H' : Hp} {l : Addr} {ws : List Wr} (h : LW K H l ws) (s : Same H H') : LW K H' l ws := by
  obtain ⟨vs, q, a⟩ := h
  exact ⟨vs, s _ _ q, a.imp fun _ _ r => r.tk (TK.same s)⟩
theorem LG.rg {K : PySem.W.Frag} {H : Hp} {l : Addr} {gs : List Gt} (h : LG K H l gs) : RG K H l gs := by
  obtain ⟨vs, q, a⟩ := h
  exact ⟨vs, SqL.of q, a⟩
theorem LW.rw {K : PySem.W.Frag} {H : Hp} {l : Addr} {ws : List Wr} (h : LW K H l ws) : RW K H l ws := by
  obtain ⟨vs, q, a⟩ := h
  exact ⟨vs, SqL.of q, a⟩
theorem NetAt.same {K : PySem.W.Frag} {C : Addr} {H H' : Hp} {p lg lw : Addr} {gs : List Gt} {ws : List Wr} (n : NetAt K C H p lg lw gs ws) (s : Same H H') : NetAt K C H' p lg lw gs ws := by
  obtain ⟨dx, h⟩ := n.ob
  exact ⟨⟨dx, s _ _ h⟩, n.g.same s, n.w.same s, n.ne⟩
def spInit (K : PySem.W.Frag) (C : Addr) : Sp := fun vs H Q _ => ∃ (p dx lg lw : Addr) (gs : List Gt) (ws : List Wr), vs = [.ref p, .ref lg, .ref lw] ∧ H p = some (.ins C dx []) ∧ RG K H lg gs ∧ RW K H lw ws ∧ NetOk gs ws ∧
  ∀ (H' : Hp) (lg' lw' : Addr), NetAt K C H' p lg' lw' gs ws → H lg' = none → H lw' = none → (∀ b o, H b = some o → b ≠ p → H' b = some o) → Q .non H'
/-- the places of a kind, rising -/
def plc (gs : List Gt) (k : Str) (n : Nat) : List Nat := (List.range n).filter fun i => decide (kindAt gs i = k)
def spPlaces (K : PySem.W.Frag) : Sp := fun vs H Q _ => ∃ (k : Str) (lg : Addr) (gs : List Gt), vs = [.str k, .ref lg] ∧ RG K H lg gs ∧ gs.length ≤ 1000 ∧
  ∀ p H', H p = none → Same H H' → H' p = some (.lst ((plc gs k gs.length).map fun i => V.int (i : Nat))) → Q (.ref p) H'
def spPorts (K : PySem.W.Frag) (C : Addr) (k : Str) : Sp := fun vs H Q _ => ∃ (p lg lw : Addr) (gs : List Gt) (ws : List Wr), vs = [.ref p] ∧ NetAt K C H p lg lw gs ws ∧ gs.length ≤ 1000 ∧
  ∀ l H', H l = none → Same H H' → H' l = some (.lst ((plc gs k gs.length).map fun i => V.int (i : Nat))) → Q (.ref l) H'
section
variable {P : Program} {w : World} {K : PySem.W.Frag} {mg : Str → Option Value} {base : Heap}
theorem scChkRings : FnScope ["many_gates", "wires", "placed"] ["many_gates", "wires"] (defScope sChkRings) := ⟨rfl, rfl, rfl, by decide +kernel, rfl, by decide +kernel, by decide +kernel⟩
abbrev DChkRings (P : Program) (w : World) (K : PySem.W.Frag) (mg : Str → Option Value) (base : Heap) := Df P w K mg base 3 "check_rings" ["many_gates", "wires"] (spChkRings K)
theorem ok_chkRings {f fO : Addr} {fd fdO : FuncData} (F : Fun K "check_rings" "check_rings" sChkRings f fd) (hm : mg "check_rings" = some (.ref f)) (B : Bt mg) (DO : DOrder P w K mg base fO fdO) : DChkRings P w K mg base f fd := by
  refine ⟨?_, hm, F.kp, F.binds fun _ _ _ _ _ _ us hl => match us, hl with | [_, _], _ => rfl⟩
  refine F.ok scChkRings (fun vs H Q E h => ?_) (fun cdv A outer s H vs Q E hr h => ?_)
  · obtain ⟨n, lw, ws, rfl, _⟩ := h
    rfl
  · obtain ⟨n, lw, ws, rfl, R, hws, hn, hwl, rk, q⟩ := h
    have nd := scChkRings.nd
    refine ⟨_, pss_cons (ps_set (i := 2) nd rfl (Or.inl rfl) (pe_call DO.ok hr (by rfl) DO.mg DO.kp DO.bd .nil pass0 (pa_cons (pv 0) (pa_cons (pv 1) pa_nil)))) <|
      pss_one <| ps_if (pt_cmpR op_lt (pe_callB call_len_seq (by rfl) B.len PySem.boot_len (pa_cons (pv 2) pa_nil)) (pv 0) (nomark _)) (pss_one ps_never) pss_nil, ?_⟩
    refine ⟨_, rfl, _, rfl, n, lw, ws, rfl, R, hws, hn, hwl, fun ord p H1 ho sm hp h1 => ?_⟩
    have hpl : ord.length = n := by rw [(ho.full hws rk).length_eq, List.length_range]
    refine ⟨_, rfl, p, _, rfl, .inl (SqL.of h1), _, rfl, _, _, rfl, rfl, false, ?_, iteF (q H1 sm)⟩
    show V.bl (decide (((ord.map fun i => V.int (i : Nat)).length : Int) < (n : Int))) = V.bl false
    rw [decide_eq_false]
    rw [List.length_map, hpl]
    omega
theorem scInit : FnScope ["self", "gates", "wires"] ["self", "gates", "wires"] (defScope sInit) := ⟨rfl, rfl, rfl, by decide +kernel, rfl, by decide +kernel, by decide +kernel⟩
theorem ok_init {f fG fW fR C : Addr} {fd fdG fdW fdR : FuncData} (F : Fun K "__init__" "Net.__init__" sInit f fd) (T : NT K mg C) (B : Bt mg) (DG : DChkGates P w K mg base fG fdG) (DW : DChkWires P w K mg base fW fdW) (DR : DChkRings P w K mg base fR fdR) :
    FnOk P w K mg base CX0 6 f fd ["self", "gates", "wires"] (spInit K C) := by
  refine F.ok scInit (fun vs H Q E h => ?_) (fun cdv A outer s H vs Q E hr h => ?_)
  · obtain ⟨p, dx, lg, lw, gs, ws, rfl, _⟩ := h
    rfl
  · obtain ⟨p, dx, lg, lw, gs, ws, rfl, hp, RGs, RWs, N, q⟩ := h
    have hr4 : Room 4 _ := hr.mono (by decide)
    have hr2 : Room 3 _ := hr.mono (by decide)
    refine ⟨_, pss_cons (ps_expr (pe_call DG.ok hr4 (by rfl) DG.mg DG.kp DG.bd .nil pass0 (pa_cons (pv 1) pa_nil))) <|
      pss_cons (ps_expr (pe_call DW.ok hr (by rfl) DW.mg DW.kp DW.bd .nil pass0 (pa_cons (pv 1) (pa_cons (pv 2) pa_nil)))) <|
      pss_cons (ps_expr (pe_call DR.ok hr2 (by rfl) DR.mg DR.kp DR.bd .nil pass0 (pa_cons (pe_callB call_len_seq (by rfl) B.len PySem.boot_len (pa_cons (pv 1) pa_nil)) (pa_cons (pv 2) pa_nil)))) <|
      pss_cons (ps_fld (pv 0) (pe_callTy call_list_of (by rfl) B.list (by decide +kernel) (pa_cons (pv 1) pa_nil)) rfl) <|
      pss_one (ps_fld (pv 0) (pe_callTy call_list_of (by rfl) B.list (by decide +kernel) (pa_cons (pv 2) pa_nil)) rfl), ?_⟩
    refine ⟨_, rfl, lg, gs, rfl, RGs, N.ne, N.gok, fun H1 sm1 => ?_⟩
    refine ⟨_, rfl, _, rfl, lg, lw, gs, ws, rfl, RGs.same sm1, RWs.same sm1, N, fun H2 sm2 => ?_⟩
    have s2 := sm1.trans sm2
    obtain ⟨gv, sg, ga⟩ := RGs.same s2
    have hlg : gv.length = gs.length := ga.1
    refine ⟨_, rfl, lg, gv, rfl, .inl sg, _, rfl, gv.length, lw, ws, rfl, RWs.same s2, fun x hx => ?_, by have := N.gl; omega, N.wl, N.rank, fun H3 sm3 => ?_⟩
    · rw [hlg]
      exact ⟨(N.wok x hx).s, (N.wok x hx).e⟩
    have s3 := s2.trans sm3
    obtain ⟨gv3, sg3, ga3⟩ := RGs.same s3
    obtain ⟨wv3, sw3, wa3⟩ := RWs.same s3
    have hp3 := s3 _ _ hp
    refine ⟨_, rfl, lg, gv3, rfl, .inl sg3, fun l1 hl1 => ?_⟩
    have np1 : p ≠ l1 := ne_of_none hp3 hl1
    have sm4 : Same H3 (upd H3 l1 (.lst gv3)) := same_new hl1
    refine ⟨_, rfl, p, C, dx, [], rfl, sm4 _ _ hp3, T.cl, T.nG, (by show 0 < 1000; decide), ?_⟩
    have hw4 : SqL K (upd (upd H3 l1 (.lst gv3)) p (.ins C dx (putF "gates" (.ref l1) []))) lw wv3 := by
      rcases sm4.seq sw3 with (h | ⟨o, h⟩) | h
      · have n : lw ≠ p := fun z => by
          rw [z, sm4 _ _ hp3] at h
          cases h
        exact .inl (.inl (by rw [upd_ne n]; exact h))
      · have n : lw ≠ p := fun z => by
          rw [z, sm4 _ _ hp3] at h
          cases h
        exact .inl (.inr ⟨o, by rw [upd_ne n]; exact h⟩)
      · exact .inr h
    refine ⟨_, rfl, lw, wv3, rfl, .inl hw4, fun l2 hl2 => ?_⟩
    have np2 : p ≠ l2 := fun z => by
      rw [← z, upd_same] at hl2
      cases hl2
    have h11 : (upd (upd H3 l1 (.lst gv3)) p (.ins C dx (putF "gates" (.ref l1) []))) l1 = some (.lst gv3) := by
      rw [upd_ne np1.symm]
      exact upd_same
    have n12 : l1 ≠ l2 := ne_of_none h11 hl2
    have hl2' : H3 l2 = none := by
      rw [upd_ne np2.symm, upd_ne n12.symm] at hl2
      exact hl2
    refine ⟨_, rfl, p, C, dx, _, rfl, (by rw [upd_ne np2]; exact upd_same), T.cl, T.nW, (by show 1 < 1000; decide), ?_⟩
    have keep : ∀ b o, b ≠ p → H3 b = some o → (upd (upd (upd (upd H3 l1 (.lst gv3)) p (.ins C dx (putF "gates" (.ref l1) []))) l2 (.lst wv3)) p (.ins C dx (putF "wires" (.ref l2) (putF "gates" (.ref l1) [])))) b = some o := fun b o nb e => by
      rw [upd_ne nb, upd_ne (ne_of_none e hl2'), upd_ne nb, upd_ne (ne_of_none e hl1)]
      exact e
    have tk : TK H3 (upd (upd (upd (upd H3 l1 (.lst gv3)) p (.ins C dx (putF "gates" (.ref l1) []))) l2 (.lst wv3)) p (.ins C dx (putF "wires" (.ref l2) (putF "gates" (.ref l1) [])))) := fun b o t e => keep b o (fun z => by
      rw [z, hp3] at e
      cases e
      exact t) e
    refine q _ l1 l2 ⟨⟨dx, upd_same⟩, ⟨gv3, ?_, ga3.imp fun _ _ r => r.tk tk⟩, ⟨wv3, ?_, wa3.imp fun _ _ r => r.tk tk⟩, n12⟩ (s3.free hl1) (s3.free hl2') fun b o e nb => keep b o nb (s3 _ _ e)
    · rw [upd_ne np1.symm, upd_ne n12, upd_ne np1.symm]
      exact upd_same
    · rw [upd_ne np2.symm]
      exact upd_same
/-! ### places_of, ins, outs -/
abbrev nPlaces : List Str := ["kind", "gates", "number", "gate"]
theorem plc_succ {gs : List Gt} {k : Str} {i : Nat} : plc gs k (i + 1) = if kindAt gs i = k then plc gs k i ++ [i] else plc gs k i := by
  unfold plc
  rw [List.range_succ, List.filter_append, List.filter_cons]
  by_cases h : kindAt gs i = k
  · rw [if_pos h, if_pos (decide_eq_true h)]
    rfl
  · rw [if_neg h, if_neg (by simp [h]), List.filter_nil, List.append_nil]
theorem plc_len (gs : List Gt) (k : Str) (n : Nat) : (plc gs k n).length ≤ n := by
  unfold plc
  have := List.length_filter_le (fun i => decide (kindAt gs i = k)) (List.range n)
  rw [List.length_range] at this
  exact this
end
end Lag

set_option maxRecDepth 100000
set_option maxHeartbeats 4000000
namespace Lag
open PySem PySem.Spec PyProof.Rows L2
/-! ### == and != by an own __eq__, whatever the other thing is -/
section
variable {X : Cx} {pins : List (Addr × Obj)} {σ : L2.St} {H : Hp} {s : Shared}
/-- what typeOf says -/
def TyL (X : Cx) (s : Shared) (v tb : Value) : Prop := PySem.W.Looks (model X.prog X.w) s.heap (typeOf v) tb
theorem ty_looks {y : V} {v tb : Value} (I : Inv X pins σ H s) (r : RelV y v) (t : TyOf X.K H y tb) : TyL X s v tb := by
  cases t with
  | non => cases r; exact .of_pure rfl
  | bl b => cases r; exact .of_pure rfl
  | int i => obtain ⟨t, rfl⟩ := r; exact .of_pure rfl
  | str x => obtain ⟨t, rfl⟩ := r; exact .of_pure rfl
  | flt x => obtain ⟨t, rfl⟩ := r; exact .of_pure rfl
  | @lst a xs ea =>
    cases r
    obtain ⟨_, _, n, _, h1⟩ := (show ObjOk X.prog X.w H s.heap a (.lst xs) from I.hok a _ ea)
    exact (PySem.W.Looks.ld h1).andThen .now
  | @frz a ob xs ea =>
    cases r
    obtain ⟨_, _, _, n, _, h1⟩ := (show ObjOk X.prog X.w H s.heap a (.frz ob (.lst xs)) from I.hok a _ ea)
    exact (PySem.W.Looks.ld h1).andThen .now
  | @tup a xs ea =>
    cases r
    obtain ⟨_, _, _, o, h1, h2, _⟩ := (show ObjOk X.prog X.w H s.heap a (.tup xs) from I.hok a _ ea)
    exact h2 ▸ (PySem.W.Looks.ld h1).andThen .now
  | @dK a kvs ea =>
    cases r
    obtain ⟨_, _, vs, _, o, es, ep, h1, h2, _⟩ := (show ObjOk X.prog X.w H s.heap a (.dK kvs) from I.hok a _ ea)
    exact h2.1 ▸ (PySem.W.Looks.ld h1).andThen .now
  | @dT a kvs ea =>
    cases r
    obtain ⟨_, _, xs, _, o, es, ep, h1, h2, _⟩ := (show ObjOk X.prog X.w H s.heap a (.dT kvs) from I.hok a _ ea)
    exact h2.1 ▸ (PySem.W.Looks.ld h1).andThen .now
  | @ins a C dx fs ea cl ha hn htk hm =>
    cases r
    obtain ⟨mA, O, _⟩ := ins_get I.hok ea
    obtain ⟨od, J, _⟩ := O.look
    exact J.type
/-- a call of a def from within -/
theorem call_own {n : Nat} {f : Addr} {fd : FuncData} {ps : List Str} {sp : Sp} {xs : List V} {us : List Value} {Q : VK} {A : Around} (F : FnOk X.prog X.w X.K X.mg X.base CX0 n f fd ps sp) (hb : Binds X.K fd ps []) (sb : Sub X n A) (I : Inv X pins σ H s) (rx : Vals xs us)
    (h : sp xs H Q E0) : wpAny (model X.prog X.w) A (call (.ref f) us) (EP X pins σ Q) X.xe s := by
  have e0 : Env0 X.prog X.w X.K X.mg X.base A X.stack s H := by
    have e := I.env0
    exact ⟨by rw [sb.fr]; exact e.frames, e.mod, e.bs, e.bsz, e.funs, e.frf, e.hok, e.bare⟩
  have hl := F.len _ _ _ _ h
  have hl' : us.length = ps.length := by rw [← rx.length, hl]
  refine wpAny_call (codeAny_mono (F.run A X.stack s H ⟨us, []⟩ us xs _ E0 sb.room e0 (by
    have := hb s us I.kIn (by simpa using hl')
    simpa using this) rx h) fun r s' hq => ?_)
  cases r with
  | error e => exact False.elim hq
  | ok fl =>
    cases fl with
    | ret w => exact I.after hq
    | next => exact False.elim hq
    | brk => exact False.elim hq
    | cont => exact False.elim hq
/-- a special method that is a built-in -/
theorem ifBound_B {M : Model} {K : PySem.W.Frag} {A : Around} {E : Value → Shared → Prop} {s : Shared} {x C : Addr} {ox : Obj} {od : Option Obj} {name : Str} {id : String} {args : List Value} {Q : Option Value → Shared → Prop} (X : K.In s.heap) (I : PySem.W.InstAt s.heap x ox C od)
    (hs : PySem.W.findIn K (.ref C) name = some (some (.builtin id))) (hb : ∀ self, bindSpecial (.builtin id) self = pure (.builtin id, [self]))
    (h : wpAny M A (call (.builtin id) (.ref x :: args)) (fun v => Q (some v)) E s) : wpAny M A (callSpecialIfBound? (.ref x) name args) Q E s := by
  simp only [callSpecialIfBound?, bindSpecialIfBound?]
  refine wpAny_holding (wpAny_bind (wpAny_bind (wpAny_bind (I.type.here ((PySem.W.looks_findIn X hs).here ?_)))))
  refine wpAny_bind (wpAny_askSetting (wpAny_ite ?_))
  have fin : wpAny M A (call (.builtin id) ([.ref x] ++ args) >>= fun v => pure (some v)) Q E s := wpAny_bind (wpAny_mono h (fun v s' h' => wpAny_pure h') fun _ _ h' => h')
  split
  · exact wpAny_bind (wpAny_of_eq (hb _) (wpAny_pure (by exact fin)))
  · exact wpAny_tryCatch (wpAny_bind (wpAny_of_eq (hb _) (wpAny_pure (by exact fin))))
theorem bind_ne (self : Value) : bindSpecial (.builtin "object.__ne__") self = pure (.builtin "object.__ne__", [self]) := PySem.F.slot_tuple_iterator_ne.bind self
theorem ne_body {K : PySem.W.Frag} {prog : Program} {w : World} {A : Around} {E : Value → Shared → Prop} {s : Shared} {x C f : Addr} {ox : Obj} {od : Option Obj} {b : Value} {Q : Fin → Shared → Prop} (X : K.In s.heap) (I : PySem.W.InstAt s.heap x ox C od)
    (hs : PySem.W.findIn K (.ref C) "__eq__" = some (some (.ref f))) (hf : PySem.W.isFn K (.ref f) = true) (hu : A.units < cLine)
    (hcall : wpAny (model prog w) A (call (.ref f) [.ref x, b]) (fun v s' => ∃ c, v = .bool c ∧ Q (.done (.ret (.bool (!c)))) s') E s) :
    wpAny (model prog w) A (Builtin.«object.__ne__» ⟨[.ref x, b], []⟩) Q E s := by
  obtain ⟨h, g, d, t, os⟩ := s
  unfold Builtin.«object.__ne__»
  repeat (first
    | with_reducible refine wpAny_cRoomFor hu ?_
    | (refine wpAny_bind (m := callSpecialIfBound? (.ref x) (Str.ofString "__eq__") [b])
        (PySem.W.ifBound_K X I hs hf (wpAny_mono hcall (fun r s' hr => by
          obtain ⟨c, rfl, hq⟩ := hr
          repeat (first | exact hq | exact wpAny_pure hq | exact wpAny_truthy_bool hq | (refine wpAny_bind (m := truthy (.bool _)) (wpAny_truthy_bool ?_)) | wp_step)) fun _ _ e => e)))
    | wp_step)
theorem op_eqO {n : Nat} {C f : Addr} {fd : FuncData} {ps : List Str} {sp : Sp} (F : FnOk X.prog X.w X.K X.mg X.base CX0 n f fd ps sp) (hs : PySem.W.findIn X.K (.ref C) "__eq__" = some (some (.ref f))) (hf : PySem.W.isFn X.K (.ref f) = true) (hb : Binds X.K fd ps []) (hr : Room n X.A) :
    OpR X (compareOp .Eq) (fun x y H Q => ∃ a dx fs tb, x = .ref a ∧ H a = some (.ins C dx fs) ∧ TyOf X.K H y tb ∧ PySem.W.notFirst X.K C tb = true ∧ sp [x, y] H (fun v H' => ∃ c, v = .bl c ∧ Q v H') E0) := by
  intro pins s σ H x y u v Q I rx ry h
  obtain ⟨a, dx, fs, tb, rfl, ha, ty, nf, q⟩ := h
  cases rx
  obtain ⟨mA, J, _⟩ := ins_get I.hok ha
  obtain ⟨od, J, _⟩ := J.look
  obtain ⟨m, hF⟩ := I.fr
  show wpAny (model X.prog X.w) X.A (richCompare .Eq (.ref a) v) (EP X pins σ Q) X.xe s
  refine PySem.W.cmp_K (op := .Eq) (tb := tb) hr.units0 hF I.ok.mod.kin J (ty_looks I ry ty) nf hs hf ?_
  refine wpAny_mono (call_own F hb ⟨hr, rfl⟩ I (.cons (show RelV (V.ref a) (Value.ref a) from rfl) (.cons ry .nil)) q) (fun r s' z => ?_) fun _ _ x => x
  obtain ⟨z, H', I', rz, c, ez, q'⟩ := z
  subst ez
  cases rz
  exact ⟨.bl c, H', I', rfl, q'⟩
theorem op_neO {n : Nat} {C f : Addr} {fd : FuncData} {ps : List Str} {sp : Sp} (F : FnOk X.prog X.w X.K X.mg X.base CX0 n f fd ps sp) (hs : PySem.W.findIn X.K (.ref C) "__eq__" = some (some (.ref f))) (hn : PySem.W.findIn X.K (.ref C) "__ne__" = some (some (.builtin "object.__ne__")))
    (ho : PySem.W.mroIn X.K C (.type "object") = some true) (hf : PySem.W.isFn X.K (.ref f) = true) (hb : Binds X.K fd ps []) (hr : Room (n + 1) X.A) :
    OpR X (compareOp .NotEq) (fun x y H Q => ∃ a dx fs tb, x = .ref a ∧ H a = some (.ins C dx fs) ∧ TyOf X.K H y tb ∧ PySem.W.notFirst X.K C tb = true ∧ sp [x, y] H (fun v H' => ∃ c, v = .bl c ∧ Q (.bl (!c)) H') E0) := by
  intro pins s σ H x y u v Q I rx ry h
  obtain ⟨a, dx, fs, tb, rfl, ha, ty, nf, q⟩ := h
  cases rx
  obtain ⟨mA, J, _⟩ := ins_get I.hok ha
  obtain ⟨od, J, _⟩ := J.look
  have hb' := ty_looks I ry ty
  have sb : Sub X (n + 1) X.A := ⟨hr, rfl⟩
  show wpAny (model X.prog X.w) X.A (richCompare .NotEq (.ref a) v) (EP X pins σ Q) X.xe s
  have one : wpAny (model X.prog X.w) X.A (tryCompare (.ref a) "__ne__" v) (fun r s' => ∃ w, r = some w ∧ EP X pins σ Q w s') X.xe s := by
    unfold tryCompare
    refine wpAny_bind (ifBound_B I.kIn J hn bind_ne (wpAny_call (codeAny_call_builtin PySem.F.slot_tuple_iterator_ne.plain PySem.F.cmpEntry_ne
      (PySem.W.check_slot PySem.F.cmpKind_ne PySem.F.cmpSplit_ne (J.type.andThen (PySem.W.looks_mroIn I.kIn ho)) (PySem.F.cmpArgs_ne _ _)
        (ne_body I.kIn J hs hf sb.in1.room.units0 (wpAny_mono (call_own F hb sb.in1 I (.cons (show RelV (V.ref a) (Value.ref a) from rfl) (.cons ry .nil)) q) (fun r s' z => ?_) fun _ _ x => x))))))
    obtain ⟨z, H', I', rz, c, ez, q'⟩ := z
    subst ez
    cases rz
    have fin : EP X pins σ Q (.bool (!c)) s' := ⟨.bl (!c), H', I', rfl, q'⟩
    first | exact ⟨c, rfl, wpAny_pure ⟨_, rfl, fin⟩⟩ | exact ⟨c, rfl, wpAny_pure (wpAny_pure ⟨_, rfl, fin⟩)⟩ | exact ⟨c, rfl, ⟨_, rfl, fin⟩⟩
  unfold richCompare
  simp only [oneThing_ref]
  refine wpAny_holding (wpAny_bind (wpAny_cRoomFor hr.units0 ?_))
  refine wpAny_bind (J.type.here (wpAny_bind (hb'.here ?_)))
  split
  · rename_i q'
    have e : PySem.W.subIn X.K tb (.ref C) = some false := by
      rcases Bool.or_eq_true_iff.mp nf with e | e
      · rw [beq_iff_eq.mp e] at q'; simp at q'
      · exact beq_iff_eq.mp e
    refine wpAny_bind ((PySem.W.looks_subIn I.kIn e).here ?_)
    simp only [Bool.false_eq_true, if_false]
    refine wpAny_bind (wpAny_mono one (fun r s' z => ?_) fun _ _ e => e)
    obtain ⟨v, rfl, hq⟩ := z
    exact wpAny_pure hq
  · refine wpAny_bind (wpAny_pure ?_)
    simp only [Bool.false_eq_true, if_false]
    refine wpAny_bind (wpAny_mono one (fun r s' z => ?_) fun _ _ e => e)
    obtain ⟨v, rfl, hq⟩ := z
    exact wpAny_pure hq
end
end Lag

set_option maxRecDepth 100000
set_option maxHeartbeats 4000000
namespace Lag
open PySem PySem.Spec PyProof.Rows L2
/-! ### nets as data that is compared -/
def gateD (g : Gt) : PyData := .tuple [.str g.1, .int g.2]
def gatesD (gs : List Gt) : PyData := .list (gs.map gateD)
def wireD (x : Wr) : PyData := .tuple [.int (x.1 : Nat), .int (x.2.1 : Nat), .tuple (x.2.2.map PyData.int)]
def wiresD (ws : List Wr) : PyData := .list (ws.map wireD)
def intsD (l : List Nat) : PyData := .list (l.map fun i => .int (i : Nat))
theorem eqvAll_map {α : Type} [DecidableEq α] {f : α → PyData} (h : ∀ x y, PyData.eqv (f x) (f y) = decide (x = y)) : ∀ xs ys : List α, PyData.eqvAll (xs.map f) (ys.map f) = decide (xs = ys)
  | [], [] => rfl
  | [], _ :: _ => rfl
  | _ :: _, [] => rfl
  | x :: xs, y :: ys => by
    show (PyData.eqv (f x) (f y) && PyData.eqvAll (xs.map f) (ys.map f)) = _
    rw [h, eqvAll_map h xs ys, Bool.eq_iff_iff]
    simp
theorem gateD_eq (a b : Gt) : PyData.eqv (gateD a) (gateD b) = decide (a = b) := by
  show ((a.1 == b.1) && ((a.2 == b.2) && true)) = _
  rw [Bool.eq_iff_iff]
  simp [Prod.ext_iff]
theorem gatesD_eq (a b : List Gt) : PyData.eqv (gatesD a) (gatesD b) = decide (a = b) := eqvAll_map gateD_eq a b
theorem intD_eq (a b : Int) : PyData.eqv (.int a) (.int b) = decide (a = b) := rfl
theorem wireD_eq (a b : Wr) : PyData.eqv (wireD a) (wireD b) = decide (a = b) := by
  show ((((a.1 : Nat) : Int) == ((b.1 : Nat) : Int)) && ((((a.2.1 : Nat) : Int) == ((b.2.1 : Nat) : Int)) && (PyData.eqvAll (a.2.2.map PyData.int) (b.2.2.map PyData.int) && true))) = _
  rw [eqvAll_map intD_eq, Bool.eq_iff_iff]
  simp only [Bool.and_eq_true, beq_iff_eq, decide_eq_true_eq, and_true]
  constructor
  · rintro ⟨h1, h2, h3⟩
    exact Prod.ext (by omega) (Prod.ext (by show a.2.1 = b.2.1; omega) h3)
  · rintro rfl
    exact ⟨rfl, rfl, rfl⟩
theorem wiresD_eq (a b : List Wr) : PyData.eqv (wiresD a) (wiresD b) = decide (a = b) := eqvAll_map wireD_eq a b
theorem natD_eq (a b : Nat) : PyData.eqv (.int (a : Nat)) (.int (b : Nat)) = decide (a = b) := by
  show (((a : Nat) : Int) == ((b : Nat) : Int)) = _
  rw [Bool.eq_iff_iff]
  simp
  omega
theorem intsD_eq (a b : List Nat) : PyData.eqv (intsD a) (intsD b) = decide (a = b) := eqvAll_map natD_eq a b
theorem lay_all {ds : List PyData} : (∀ d ∈ ds, PyData.canLay0 d = true) → PyData.canLayAll0 ds = true := by
  induction ds with
  | nil => intro _; rfl
  | cons d ds ih =>
    intro h
    show (PyData.canLay0 d && PyData.canLayAll0 ds) = true
    rw [h d (List.mem_cons_self ..), ih fun x hx => h x (List.mem_cons_of_mem _ hx)]
    rfl
theorem depth_all {ds : List PyData} {k : Nat} : (∀ d ∈ ds, PyData.depth d ≤ k) → PyData.depthAll ds ≤ k := by
  induction ds with
  | nil => intro _; exact Nat.zero_le _
  | cons d ds ih =>
    intro h
    show max (PyData.depth d) (PyData.depthAll ds) ≤ k
    have h1 := h d (List.mem_cons_self ..)
    have h2 := ih fun x hx => h x (List.mem_cons_of_mem _ hx)
    omega
/-- such data may be compared, to the depth k -/
def Sh (k : Nat) (d : PyData) : Prop := PyData.canLay0 d = true ∧ PyData.depth d ≤ k
theorem Sh.ok {k : Nat} {d : PyData} (h : Sh k d) (hk : k ≤ 64) : SeqAt.shaped d = true := by
  show (PyData.canLay0 d && decide (PyData.depth d ≤ 64)) = true
  rw [h.1, decide_eq_true (Nat.le_trans h.2 hk)]
  rfl
theorem sh_list {k : Nat} {ds : List PyData} (h : ∀ d ∈ ds, Sh k d) : Sh (k + 1) (.list ds) := ⟨lay_all fun d hd => (h d hd).1, Nat.succ_le_succ (depth_all fun d hd => (h d hd).2)⟩
theorem sh_tuple {k : Nat} {ds : List PyData} (h : ∀ d ∈ ds, Sh k d) : Sh (k + 1) (.tuple ds) := ⟨lay_all fun d hd => (h d hd).1, Nat.succ_le_succ (depth_all fun d hd => (h d hd).2)⟩
theorem sh_int {k : Nat} (i : Int) : Sh k (.int i) := ⟨rfl, Nat.zero_le _⟩
theorem kinds_str : ∀ k ∈ kinds, PyData.canLay0 (.str k) = true := by decide +kernel
theorem sh_kind {k : Nat} {z : Str} (h : z ∈ kinds) : Sh k (.str z) := ⟨kinds_str z h, Nat.zero_le _⟩
theorem sh_gates {gs : List Gt} (h : ∀ g ∈ gs, GOk g) : Sh 2 (gatesD gs) := by
  refine sh_list fun d hd => ?_
  obtain ⟨g, hg, rfl⟩ := List.mem_map.mp hd
  refine sh_tuple fun d hd => ?_
  simp only [List.mem_cons, List.not_mem_nil, or_false] at hd
  rcases hd with rfl | rfl
  · exact sh_kind (h g hg).1
  · exact sh_int _
theorem sh_wires (ws : List Wr) : Sh 3 (wiresD ws) := by
  refine sh_list fun d hd => ?_
  obtain ⟨g, hg, rfl⟩ := List.mem_map.mp hd
  refine sh_tuple fun d hd => ?_
  simp only [List.mem_cons, List.not_mem_nil, or_false] at hd
  rcases hd with rfl | rfl | rfl
  · exact sh_int _
  · exact sh_int _
  · refine sh_tuple fun d hd => ?_
    obtain ⟨i, _, rfl⟩ := List.mem_map.mp hd
    exact sh_int _
theorem sh_ints (l : List Nat) : Sh 1 (intsD l) := by
  refine sh_list fun d hd => ?_
  obtain ⟨i, _, rfl⟩ := List.mem_map.mp hd
  exact sh_int _
section
variable {K : PySem.W.Frag} {H : Hp}
theorem dp_all {α : Type} {R : V → α → Prop} {f : α → PyData} (h : ∀ v x, R v x → Dp K H v (f x)) : ∀ {vs : List V} {xs : List α}, All2 R vs xs → DpAll K H vs (xs.map f)
  | [], [], _ => .nil
  | [], _ :: _, a => by have := a.1; simp at this
  | _ :: _, [], a => by have := a.1; simp at this
  | _ :: _, _ :: _, a => .cons (h _ _ a.head) (dp_all h a.tail)
theorem GateV.dp {v : V} {g : Gt} (h : GateV K H v g) : Dp K H v (gateD g) := by
  obtain ⟨a, rfl, s⟩ := h
  exact .tup s (.cons (.str _) (.cons (.int _) .nil))
theorem ints_dp : ∀ l : List Int, DpAll K H (l.map V.int) (l.map PyData.int)
  | [] => .nil
  | i :: l => .cons (.int i) (ints_dp l)
theorem nats_dp : ∀ l : List Nat, DpAll K H (l.map fun i => V.int (i : Nat)) (l.map fun i => PyData.int (i : Nat))
  | [] => .nil
  | i :: l => .cons (.int _) (nats_dp l)
theorem WireV.dp {v : V} {x : Wr} (h : WireV K H v x) : Dp K H v (wireD x) := by
  obtain ⟨a, b, rfl, s1, s2⟩ := h
  exact .tup s1 (.cons (.int _) (.cons (.int _) (.cons (.tup s2 (ints_dp _)) .nil)))
theorem RG.dp {l : Addr} {gs : List Gt} (h : RG K H l gs) : Dp K H (.ref l) (gatesD gs) := by
  obtain ⟨vs, s, a⟩ := h
  exact .lst s (dp_all (fun _ _ r => GateV.dp r) a)
theorem RW.dp {l : Addr} {ws : List Wr} (h : RW K H l ws) : Dp K H (.ref l) (wiresD ws) := by
  obtain ⟨vs, s, a⟩ := h
  exact .lst s (dp_all (fun _ _ r => WireV.dp r) a)
theorem dp_ints {l : Addr} {xs : List Nat} (h : SqL K H l (xs.map fun i => V.int (i : Nat))) : Dp K H (.ref l) (intsD xs) := .lst h (nats_dp xs)
end
/-! ### Net.__eq__ -/
structure NTy (K : PySem.W.Frag) (C : Addr) : Prop where
  ha : PySem.W.findIn K (.ref C) "__class__" = some (some (.builtin "object.__class__"))
  hn : PySem.W.specialIn K (.builtin "object.__class__") "__get__" = some (some (.builtin "getset_descriptor.__get__"))
  htk : PySem.W.takesIn K (.builtin "object.__class__") = some true
  hm : PySem.W.mroIn K C (.type "object") = some true
theorem ty_net {K : PySem.W.Frag} {mg : Str → Option Value} {C : Addr} {H : Hp} {p dx : Addr} {fs : List (Str × V)} (T : NT K mg C) (Y : NTy K C) (h : H p = some (.ins C dx fs)) : TyOf K H (.ref p) (.ref C) := .ins h T.cl Y.ha Y.hn Y.htk Y.hm
def spEqN (K : PySem.W.Frag) (C : Addr) : Sp := fun vs H Q _ => ∃ (p lg lw : Addr) (gs : List Gt) (ws : List Wr) (y : V), vs = [.ref p, y] ∧ NetAt K C H p lg lw gs ws ∧
  ((∃ (q lg' lw' : Addr) (gs' : List Gt) (ws' : List Wr), y = .ref q ∧ NetAt K C H q lg' lw' gs' ws' ∧ (∀ g ∈ gs, GOk g) ∧ (∀ g ∈ gs', GOk g) ∧ Q (.bl (decide (gs = gs') && decide (ws = ws'))) H) ∨
    (∃ t, TyX K H y t ∧ PySem.W.kitOne K t (.ref C) = some false ∧ Q (.bl false) H))
section
variable {P : Program} {w : World} {K : PySem.W.Frag} {mg : Str → Option Value} {base : Heap}
theorem scEq : FnScope ["self", "other"] ["self", "other"] (defScope sEq) := ⟨rfl, rfl, rfl, by decide +kernel, rfl, by decide +kernel, by decide +kernel⟩
theorem kit_self {K : PySem.W.Frag} (C : Addr) : PySem.W.kitOne K (.ref C) (.ref C) = some true := by
  unfold PySem.W.kitOne
  rw [if_pos (beq_self_eq_true _)]
theorem ok_eqN {f C : Addr} {fd : FuncData} (F : Fun K "__eq__" "Net.__eq__" sEq f fd) (T : NT K mg C) (Y : NTy K C) (B : Bt mg) : FnOk P w K mg base CX0 1 f fd ["self", "other"] (spEqN K C) := by
  refine F.ok scEq (fun vs H Q E h => ?_) (fun cdv A outer s H vs Q E hr h => ?_)
  · obtain ⟨p, lg, lw, gs, ws, y, rfl, _⟩ := h
    rfl
  · obtain ⟨p, lg, lw, gs, ws, y, rfl, N, h⟩ := h
    refine ⟨_, pss_one <| ps_ret <| pe_and (pe_callB call_isi (by rfl) B.isi (by decide +kernel) (pa_cons (pv 1) (pa_cons (pe_glob (v := .ref C) (by rfl) T.mg rfl) pa_nil))) <|
      pe_and (pe_cmpR (op_eqD hr.units) (pe_fld (pv 0) rfl) (pe_fld (pv 1) rfl) (nomark _)) <| pe_one <| pe_cmpR (op_eqD hr.units) (pe_fld (pv 0) rfl) (pe_fld (pv 1) rfl) (nomark _), ?_⟩
    obtain ⟨dx, hp⟩ := N.ob
    rcases h with ⟨q, lg', lw', gs', ws', rfl, N', gok, gok', k⟩ | ⟨t, ty, kt, k⟩
    · obtain ⟨dx', hq⟩ := N'.ob
      refine ⟨_, rfl, _, _, _, _, true, rfl, .own C, .base (ty_net T Y hq), kit_self C, true, rfl, iteT ?_⟩
      refine ⟨_, rfl, p, C, dx, _, _, rfl, hp, T.cl, T.nG, nf_gates _ _, _, rfl, q, C, dx', _, _, rfl, hq, T.cl, T.nG, nf_gates _ _, _, _, N.g.rg.dp, N'.g.rg.dp, (sh_gates gok).ok (by decide), (sh_gates gok').ok (by decide), _, rfl, ?_⟩
      rw [gatesD_eq]
      cases e : decide (gs = gs') with
      | false =>
        rw [e] at k
        exact iteF k
      | true =>
        rw [e] at k
        refine iteT ⟨_, rfl, p, C, dx, _, _, rfl, hp, T.cl, T.nW, nf_wires _ _, _, rfl, q, C, dx', _, _, rfl, hq, T.cl, T.nW, nf_wires _ _, _, _, N.w.rw.dp, N'.w.rw.dp, (sh_wires _).ok (by decide), (sh_wires _).ok (by decide), ?_⟩
        rw [wiresD_eq]
        exact k
    · exact ⟨_, rfl, _, _, _, _, false, rfl, .own C, ty, kt, false, rfl, iteF k⟩
end
end Lag

set_option maxRecDepth 100000
set_option maxHeartbeats 4000000
namespace Lag
open PySem PySem.Spec PyProof.Rows L2
/-! ### what keeps a net a net -/
theorem kindAt_set {gs : List Gt} {i j : Nat} {g : Gt} (h : i < gs.length) : kindAt (gs.set i g) j = if j = i then g.1 else kindAt gs j := by
  unfold kindAt
  rw [List.getD_eq_getElem?_getD, List.getD_eq_getElem?_getD, List.getElem?_set]
  by_cases e : i = j
  · subst e
    rw [if_pos rfl, if_pos h, if_pos rfl]
    rfl
  · rw [if_neg e, if_neg (fun z => e z.symm)]
/-- another gate at a place whose gate is no port: no port, and no first where it was none -/
theorem NetOk.setG {gs : List Gt} {ws : List Wr} (N : NetOk gs ws) {i : Nat} {g : Gt} (hi : i < gs.length) (hg : GOk g) (h1 : g.1 ≠ "out") (h2 : g.1 ≠ "in") (h3 : g.1 = "first" → kindAt gs i = "first") : NetOk (gs.set i g) ws := by
  have kk := @kindAt_set gs i
  refine ⟨?_, by rw [List.length_set]; exact N.gl, N.wl, ?_, fun x hx => ?_, fun e he hk => ?_, fun e he hk => ?_, N.rank⟩
  · intro z
    have := congrArg List.length z
    rw [List.length_set] at this
    exact N.ne (List.length_eq_zero_iff.mp this)
  · intro y hy
    rcases List.mem_or_eq_of_mem_set hy with hy | hy
    · exact N.gok y hy
    · rw [hy]
      exact hg
  · have W := N.wok x hx
    refine ⟨by rw [List.length_set]; exact W.s, by rw [List.length_set]; exact W.e, ?_, ?_, W.r, W.rl⟩
    · rw [kk hi]
      split
      · exact h1
      · exact W.ks
    · rw [kk hi]
      split
      · exact h2
      · exact W.ke
  · rw [List.length_set] at he
    rw [kk hi] at hk
    split at hk
    · exact absurd hk h1
    · exact N.one e he hk
  · rw [List.length_set] at he
    rw [kk hi] at hk
    split at hk
    · rename_i hei
      subst hei
      exact N.some _ he (h3 hk)
    · exact N.some e he hk
theorem kindAt_app {gs : List Gt} {g : Gt} {j : Nat} (h : j < gs.length) : kindAt (gs ++ [g]) j = kindAt gs j := by
  unfold kindAt
  rw [List.getD_eq_getElem?_getD, List.getD_eq_getElem?_getD, List.getElem?_append_left h]
theorem NetOk.addIn {gs : List Gt} {ws : List Wr} (N : NetOk gs ws) (hl : gs.length < 100) : NetOk (gs ++ [(("in" : Str), (0 : Int))]) ws := by
  have kl : kindAt (gs ++ [(("in" : Str), (0 : Int))]) gs.length = "in" := by
    unfold kindAt
    rw [List.getD_eq_getElem?_getD, List.getElem?_append_right (Nat.le_refl _), Nat.sub_self]
    rfl
  refine ⟨by simp, by simp; omega, N.wl, ?_, fun x hx => ?_, fun e he hk => ?_, fun e he hk => ?_, N.rank⟩
  · intro y hy
    rcases List.mem_append.mp hy with hy | hy
    · exact N.gok y hy
    · simp at hy
      subst hy
      exact ⟨by show ("in" : Str) ∈ kinds; decide +kernel, Int.le_refl 0, (by show (0 : Int) ≤ 100; decide), fun _ => rfl⟩
  · have W := N.wok x hx
    exact ⟨by have := W.s; simp; omega, by have := W.e; simp; omega, by rw [kindAt_app W.s]; exact W.ks, by rw [kindAt_app W.e]; exact W.ke, W.r, W.rl⟩
  · by_cases h : e < gs.length
    · rw [kindAt_app h] at hk
      exact N.one e h hk
    · have : e = gs.length := by simp at he; omega
      subst this
      rw [kl] at hk
      exact absurd hk (by decide +kernel)
  · by_cases h : e < gs.length
    · rw [kindAt_app h] at hk
      exact N.some e h hk
    · have : e = gs.length := by simp at he; omega
      subst this
      rw [kl] at hk
      exact absurd hk (by decide +kernel)
theorem cnt_set {ws : List Wr} {i : Nat} {x y : Wr} (h : ws[i]? = some x) (he : y.2.1 = x.2.1) (e : Nat) : cnt (ws.set i y) e = cnt ws e := by
  obtain ⟨hi, rfl⟩ := List.getElem?_eq_some_iff.mp h
  have h1 : ws.set i y = ws.take i ++ y :: ws.drop (i + 1) := List.set_eq_take_append_cons_drop .. |>.trans (by rw [if_pos hi])
  have h2 : ws = ws.take i ++ ws[i] :: ws.drop (i + 1) := by rw [List.getElem_cons_drop, List.take_append_drop]
  unfold cnt
  conv => rhs; rw [h2]
  rw [h1, List.countP_append, List.countP_append, List.countP_cons, List.countP_cons, he]
/-- a wire with other registers, one at least -/
theorem NetOk.setW {gs : List Gt} {ws : List Wr} (N : NetOk gs ws) {i : Nat} {x : Wr} {r : List Int} (h : ws[i]? = Option.some x) (hr : ROk r) (hl : r.length ≤ 900) (hne : r ≠ []) : NetOk gs (ws.set i (x.1, x.2.1, r)) := by
  have W := N.wok x (List.mem_of_getElem? h)
  obtain ⟨ρ, hρ⟩ := N.rank
  refine ⟨N.ne, N.gl, by rw [List.length_set]; exact N.wl, N.gok, fun y hy => ?_, fun e he hk => ?_, fun e he hk => ?_, ρ, fun y hy hyr => ?_⟩
  · rcases List.mem_or_eq_of_mem_set hy with hy | hy
    · exact N.wok y hy
    · rw [hy]
      exact ⟨W.s, W.e, W.ks, W.ke, hr, hl⟩
  · rw [cnt_set (y := (x.1, x.2.1, r)) h rfl]
    exact N.one e he hk
  · rw [cnt_set (y := (x.1, x.2.1, r)) h rfl]
    exact N.some e he hk
  · rcases List.mem_or_eq_of_mem_set hy with hy | hy
    · exact hρ y hy hyr
    · rw [hy] at hyr
      exact absurd hyr hne
theorem NetOk.perm {gs : List Gt} {ws ws' : List Wr} (N : NetOk gs ws) (p : ws'.Perm ws) : NetOk gs ws' := by
  obtain ⟨ρ, hρ⟩ := N.rank
  have c : ∀ e, cnt ws' e = cnt ws e := fun e => p.countP_eq _
  exact ⟨N.ne, N.gl, by rw [p.length_eq]; exact N.wl, N.gok, fun x hx => N.wok x (p.mem_iff.mp hx), fun e he hk => by rw [c]; exact N.one e he hk, fun e he hk => by rw [c]; exact N.some e he hk, ρ, fun x hx h => hρ x (p.mem_iff.mp hx) h⟩
/-! ### slices -/
theorem take_min {α : Type} (l : List α) (k : Nat) : l.take (min k l.length) = l.take k := by
  by_cases h : k ≤ l.length
  · rw [Nat.min_eq_left h]
  · rw [Nat.min_eq_right (by omega), List.take_length, List.take_of_length_le (by omega)]
theorem drop_min {α : Type} (l : List α) (k : Nat) : l.drop (min k l.length) = l.drop k := by
  by_cases h : k ≤ l.length
  · rw [Nat.min_eq_left h]
  · rw [Nat.min_eq_right (by omega), List.drop_length, List.drop_of_length_le (by omega)]
theorem cut_to {xs : List V} (k : Nat) : cutV xs none (some (k : Int)) = xs.take k := by
  unfold cutV
  rw [HT.sIx_none, HT.sIx_nat, List.drop_zero, Nat.sub_zero, take_min]
theorem cut_from {xs : List V} (k : Nat) : cutV xs (some (k : Int)) none = xs.drop k := by
  unfold cutV
  rw [HT.sIx_none, HT.sIx_nat, drop_min]
  exact List.take_of_length_le (by rw [List.length_drop]; omega)
theorem cut_mid {xs : List V} (j k : Nat) : cutV xs (some (j : Int)) (some (k : Int)) = (xs.take k).drop j := by
  unfold cutV
  rw [HT.sIx_nat, HT.sIx_nat, List.drop_take, drop_min]
  by_cases h : j ≤ xs.length
  · by_cases h2 : k ≤ xs.length
    · rw [Nat.min_eq_left h, Nat.min_eq_left h2]
    · rw [List.take_of_length_le (by rw [List.length_drop]; omega), List.take_of_length_le (by rw [List.length_drop]; omega)]
  · rw [List.drop_of_length_le (by omega)]
    simp
section
variable {α β : Type} {R : α → β → Prop} {xs xs' : List α} {ys ys' : List β}
theorem All2.take (h : All2 R xs ys) (k : Nat) : All2 R (xs.take k) (ys.take k) := by
  refine ⟨by rw [List.length_take, List.length_take, h.1], fun i x y hx hy => ?_⟩
  have hi : i < k := by
    have := (List.getElem?_eq_some_iff.mp hx).1
    rw [List.length_take] at this
    omega
  rw [List.getElem?_take_of_lt hi] at hx hy
  exact h.2 i x y hx hy
theorem All2.drop (h : All2 R xs ys) (k : Nat) : All2 R (xs.drop k) (ys.drop k) := by
  refine ⟨by rw [List.length_drop, List.length_drop, h.1], fun i x y hx hy => ?_⟩
  rw [List.getElem?_drop] at hx hy
  exact h.2 _ x y hx hy
theorem All2.append (h : All2 R xs ys) (h' : All2 R xs' ys') : All2 R (xs ++ xs') (ys ++ ys') := by
  induction xs generalizing ys with
  | nil =>
    cases ys with
    | nil => exact h'
    | cons _ _ => have := h.1; simp at this
  | cons x xs ih =>
    cases ys with
    | nil => have := h.1; simp at this
    | cons y ys => exact All2.cons h.head (ih h.tail)
theorem All2.reverse (h : All2 R xs ys) : All2 R xs.reverse ys.reverse := by
  induction xs generalizing ys with
  | nil =>
    cases ys with
    | nil => exact h
    | cons _ _ => have := h.1; simp at this
  | cons x xs ih =>
    cases ys with
    | nil => have := h.1; simp at this
    | cons y ys =>
      rw [List.reverse_cons, List.reverse_cons]
      exact (ih h.tail).snoc h.head
theorem All2.one {x : α} {y : β} (r : R x y) : All2 R [x] [y] := All2.cons r All2.nil
end
theorem set_cut {α : Type} {l : List α} {i : Nat} {y : α} (h : i < l.length) : l.take i ++ [y] ++ l.drop (i + 1) = l.set i y := by
  rw [List.set_eq_take_append_cons_drop, if_pos h, List.append_assoc]
  rfl
theorem swap_perm {α : Type} (l : List α) (i : Nat) : (l.take i ++ ((l.take (i + 2)).drop i).reverse ++ l.drop (i + 2)).Perm l := by
  have e : l = l.take i ++ (l.take (i + 2)).drop i ++ l.drop (i + 2) := by
    have h1 : l.take i = (l.take (i + 2)).take i := by rw [List.take_take, Nat.min_eq_left (by omega)]
    rw [h1, List.take_append_drop, List.take_append_drop]
  conv => rhs; rw [e]
  exact ((List.Perm.refl _).append (List.reverse_perm _)).append (List.Perm.refl _)
end Lag

set_option maxRecDepth 100000
set_option maxHeartbeats 8000000
namespace Lag
open PySem PySem.Spec PyProof.Rows L2
abbrev sDigit : Stmt := topS 38 -- @_law_digit
abbrev sGates : Stmt := topS 39 -- @_law_gates
abbrev sLWorths : Stmt := topS 40 -- @_law_worths
theorem st_norm {f : L2.St → Hp → Prop} {σ σ' : L2.St} {H : Hp} (e : σ = σ') (h : f σ' H) : f σ H := e ▸ h
theorem gn_norm {i : Nat} {x : V} {σ σ' : L2.St} {H : Hp} {N : L2.St → Hp → Prop} (e : σ.set i (some x) = σ') (h : N σ' H) : gName i x σ H N := by
  subst e
  exact h
theorem All2.pushT {α : Type} {R : Hp → V → α → Prop} {H H2 : Hp} {D : Addr} {acc : List V} {l : List α} {v : V} {x : α} {o : HO} (mono : ∀ {H H' : Hp} {v : V} {x : α}, TK H H' → R H v x → R H' v x) (h : All2 (R H) acc l) (hD : H2 D = some (.lst acc)) (t : TK H H2) (r : R H2 v x) : All2 (R (upd H2 D o)) (acc ++ [v]) (l ++ [x]) :=
  (h.imp fun _ _ r => mono (t.trans (TK.lst hD)) r).snoc (mono (TK.lst hD) r)
def rTupOf (K : PySem.W.Frag) : List V → Hp → VK → Prop := fun xs H Q => ∃ p ys, xs = [.ref p] ∧ ((SqL K H p ys ∧ ∀ l, H l = none → Q (.ref l) (upd H l (.tup ys))) ∨ (SqT K H p ys ∧ Q (.ref p) H))
theorem mod_b {x n : Int} (h : 0 < n) (hn : n ≤ 4294967296) : -(2 ^ 64) < x % n ∧ x % n < 2 ^ 64 := by
  have h1 := Int.emod_nonneg x (show n ≠ 0 by omega)
  have h2 := Int.emod_lt_of_pos x h
  constructor
  · have e : (-(2 ^ 64) : Int) = -18446744073709551616 := by decide
    omega
  · have e : (2 ^ 64 : Int) = 18446744073709551616 := by decide
    omega
/-! ### _law_digit -/
def spDraw : Sp := fun vs H Q _ => ∃ (w : Addr) (n : Int), vs = [.ref w, .int n] ∧ 0 < n ∧ n < 1000000 ∧ WellAt w H ∧ ∀ d H', 0 ≤ d → d < n → Dr w H H' → Q (.int d) H'
section
variable {P : Program} {w : World} {K : PySem.W.Frag} {mg : Str → Option Value} {base : Heap}
abbrev nDigit : List Str := ["_law_state", "_law_base", "_law_cell", "_law_found", "_law_number"]
theorem scDigit : FnScope nDigit ["_law_state", "_law_base"] (defScope sDigit) := ⟨rfl, rfl, rfl, by decide +kernel, rfl, by decide +kernel, by decide +kernel⟩
abbrev DDraw (P : Program) (w : World) (K : PySem.W.Frag) (mg : Str → Option Value) (base : Heap) := Df P w K mg base 1 "_law_digit" ["_law_state", "_law_base"] spDraw
theorem ok_digit {f : Addr} {fd : FuncData} (F : Fun K "_law_digit" "_law_digit" sDigit f fd) (hm : mg "_law_digit" = some (.ref f)) (B : Bt mg) : DDraw P w K mg base f fd := by
  refine ⟨?_, hm, F.kp, F.binds fun _ _ _ _ _ _ us hl => match us, hl with | [_, _], _ => rfl⟩
  refine F.ok scDigit (fun vs H Q E h => ?_) (fun cdv A outer s H vs Q E hr h => ?_)
  · obtain ⟨wl, n, rfl, _⟩ := h
    rfl
  · obtain ⟨wl, n, rfl, hn, hn2, ⟨xs, hw, hst⟩, q⟩ := h
    have nd := scDigit.nd
    refine ⟨_, Evl.pss_cut (ps_if (pt_cmpR op_eq (pe_callB call_len_seq (by rfl) B.len PySem.boot_len (pa_cons (pv 0) pa_nil)) pe_int (nomark _))
        (pss_cons (ps_set (i := 2) nd rfl (.inl rfl) (pe_ix ix_list (pv 0) pe_int (fun _ _ => rfl))) <|
          pss_cons (ps_asg (pe_ix ix_list (pe_lst (pa_cons pe_int (pa_cons (pv 2) pa_nil))) (pe_callTy call_int1 (by rfl) B.int (by decide +kernel) (pa_cons (pe_cmpR op_ge (pv 2) (pe_op op_pow pe_int pe_int) (nomark _)) pa_nil)) (fun _ _ => rfl)) (pg_sub (pv 0) pe_int set_list)) <|
          pss_one <| ps_expr <| pe_bm PySem.F.plainAttrs_list PySem.F.slot_list_extend PySem.F.type_list_extend mt_extend (pv 0) <| (pa_cons · pa_nil) <| pe_lst (pa_cons (pe_op op_mod (pv 2) pe_int) (pa_cons pe_int pa_nil))) pss_nil) <|
      pss_cons (ps_if (pt_cmpR op_gt (pe_ix ix_list (pv 0) pe_int (fun _ _ => rfl)) pe_int (nomark _))
        (pss_cons (ps_set (i := 3) nd rfl (Or.inl rfl) (pe_op op_mod (pe_ix ix_list (pv 0) pe_int (fun _ _ => rfl)) (pv 1)))
        (pss_cons (ps_asg (pe_op op_fdiv (pe_ix ix_list (pv 0) pe_int (fun _ _ => rfl)) (pv 1)) (pg_sub (pv 0) pe_int set_list))
        (pss_one (ps_ret (pv 3))))) pss_nil)
      (pss_cons (ps_asg (pe_op op_add (pe_ix ix_list (pv 0) pe_int (fun _ _ => rfl)) pe_int) (pg_sub (pv 0) pe_int set_list))
      (pss_cons (ps_set (i := 4) nd rfl (Or.inl rfl) (pe_op op_mod (pe_op op_mul (pe_op op_add (pe_op op_add (pe_ix ix_list (pv 0) pe_int (fun _ _ => rfl)) (pe_op op_mul pe_int (pe_ix ix_list (pv 0) pe_int (fun _ _ => rfl)))) pe_int) pe_int) pe_int))
      (pss_cons (ps_set (i := 4) nd rfl (Or.inl rfl) (pe_op op_mod (pe_op op_mul (pv 4) (pe_op op_add (pe_op op_fdiv (pv 4) pe_int) pe_int)) pe_int))
      (pss_one (ps_ret (pe_op op_mod (pe_op op_mod (pe_op op_mul (pv 4) (pe_op op_add (pe_op op_fdiv (pv 4) pe_int) pe_int)) pe_int) (pv 1))))))), ?_⟩
    refine ⟨fun σ H' => ∃ (a b c : Int) (s2 : Option V), σ = [some (.ref wl), some (.int n), s2, none, none] ∧ H' wl = some (.lst [.int a, .int b, .int c]) ∧ But wl H H', ?_, ?_⟩
    · refine ⟨_, rfl, wl, xs, rfl, .inl (SqL.of hw), rfl, _, rfl, ite2 (fun e => ?_) (fun e => ?_)⟩
      · have e' : ((xs.length : Nat) : Int) = 1 := V.int.inj (of_decide_eq_true e)
        rcases hst with ⟨a, rfl⟩ | ⟨a, b, c, rfl⟩
        · refine ⟨_, rfl, wl, _, 0, .int a, rfl, rfl, SqL.of hw, atI_nat (j := 0) rfl, ?_⟩
          refine ⟨_, rfl, (by show 2 ≤ sizeLine; decide), fun l hl => ?_⟩
          have nl : wl ≠ l := ne_of_none hw hl
          refine ⟨_, rfl, _, _, rfl, rfl, ⟨by decide, by decide, by decide⟩, _, _, rfl, rfl, .inr ⟨_, rfl, ?_⟩⟩
          refine ⟨l, _, _, .int (if decide (10 ^ (18 : Int).toNat ≤ a) = true then a else 0), rfl, rfl, SqL.of upd_same, ?_, ?_⟩
          · cases decide (10 ^ (18 : Int).toNat ≤ a) with
            | true => rfl
            | false => rfl
          generalize (if decide (10 ^ (18 : Int).toNat ≤ a) = true then a else 0) = a2
          have hw1 : (upd H l (.lst [.int 0, .int a])) wl = some (.lst [.int a]) := by
            rw [upd_ne nl]
            exact hw
          have b1 : But wl H (upd H l (.lst [.int 0, .int a])) := But.new hl
          generalize upd H l (.lst [.int 0, .int a]) = H1 at hw1 b1
          refine ⟨_, rfl, wl, _, 0, 0, rfl, rfl, hw1, rfl, ?_⟩
          have hw2 : (upd H1 wl (.lst [.int a2])) wl = some (.lst [.int a2]) := upd_same
          have b2 : But wl H (upd H1 wl (.lst [.int a2])) := b1.trans But.upd
          show _
          refine ⟨_, rfl, .inl ⟨rfl, _, SqL.of hw2⟩, _, rfl, _, _, rfl, rfl, (by show (0 : Int) < 2147483647; decide), (by show 2 ≤ sizeLine; decide), fun l2 hl2 => ?_⟩
          have nl2 : wl ≠ l2 := ne_of_none hw2 hl2
          refine ⟨wl, l2, [.int a2], _, rfl, rfl, by rw [upd_ne nl2]; exact hw2, upd_same, (by show 1 + 2 ≤ sizeLine; decide), ?_⟩
          exact ⟨_, _, _, _, rfl, upd_same, (b2.trans (But.new hl2)).trans But.upd⟩
        · exact absurd e' (by show ¬ ((3 : Nat) : Int) = 1; decide)
      · rcases hst with ⟨a, rfl⟩ | ⟨a, b, c, rfl⟩
        · exact absurd rfl e
        · exact ⟨a, b, c, _, rfl, hw, But.refl _ _⟩
    rintro σ H0 ⟨a, b, c, s2, rfl, hw0, b0⟩
    have dr : ∀ {a b c : Int} {H' : Hp}, But wl H H' → H' wl = some (.lst [.int a, .int b, .int c]) → Dr wl H H' := fun hb h => ⟨hb, _, h, .inr ⟨_, _, _, rfl⟩⟩
    refine ⟨_, rfl, wl, _, 0, .int a, rfl, rfl, SqL.of hw0, atI_nat (j := 0) rfl, _, _, rfl, rfl, _, rfl, ite2 (fun e => ?_) (fun e => ?_)⟩
    · refine ⟨_, rfl, wl, _, 0, .int a, rfl, rfl, SqL.of hw0, atI_nat (j := 0) rfl, _, rfl, _, _, rfl, rfl, hn, ?_⟩
      refine ⟨_, rfl, wl, _, 0, .int a, rfl, rfl, SqL.of hw0, atI_nat (j := 0) rfl, _, rfl, _, _, rfl, rfl, ⟨hn, by omega⟩, ?_⟩
      refine ⟨_, rfl, wl, _, 0, 0, rfl, rfl, hw0, rfl, ?_⟩
      refine ⟨_, rfl, ?_⟩
      exact q _ _ (Int.emod_nonneg _ (by omega)) (Int.emod_lt_of_pos _ hn) (dr (b0.trans But.upd) upd_same)
    · have h1 : (upd H0 wl (HO.lst [.int a, .int b, .int (c + 1)])) wl = some (.lst [.int a, .int b, .int (c + 1)]) := upd_same
      refine ⟨_, rfl, wl, _, 2, .int c, rfl, rfl, SqL.of hw0, atI_nat (j := 2) rfl, _, _, rfl, rfl, ?_⟩
      refine ⟨_, rfl, wl, _, 2, 2, rfl, rfl, hw0, rfl, ?_⟩
      refine ⟨_, rfl, wl, _, 1, .int b, rfl, rfl, SqL.of h1, atI_nat (j := 1) rfl, _, rfl, wl, _, 2, .int (c + 1), rfl, rfl, SqL.of h1, atI_nat (j := 2) rfl, _, _, rfl, rfl, .inl ⟨by decide, by decide⟩, _, _, rfl, rfl, _, _, rfl, rfl, _, _, rfl, rfl, .inr ⟨by decide, by decide⟩, _, _, rfl, rfl, (by show (0 : Int) < 2147483647; decide), ?_⟩
      refine ⟨_, rfl, _, rfl, _, _, rfl, rfl, ⟨by decide, by decide⟩, _, _, rfl, rfl, _, _, rfl, rfl, .inl (mod_b (by decide) (by decide)), _, _, rfl, rfl, (by show (0 : Int) < 2147483647; decide), ?_⟩
      refine ⟨_, rfl, _, rfl, _, _, rfl, rfl, ⟨by decide, by decide⟩, _, _, rfl, rfl, _, _, rfl, rfl, .inl (mod_b (by decide) (by decide)), _, _, rfl, rfl, (by show (0 : Int) < 2147483399; decide), _, rfl, _, _, rfl, rfl, hn, ?_⟩
      exact q _ _ (Int.emod_nonneg _ (by omega)) (Int.emod_lt_of_pos _ hn) (dr (b0.trans But.upd) h1)
end
/-! ### _law_gates -/
def inG : Gt := ("in", 0)
def outG : Gt := ("out", 0)
def innP (k : Str) : Bool := k != "in" && k != "out"
def nInn (gs : List Gt) : Nat := gs.countP fun g => innP g.1
structure GSh (gs : List Gt) (a b : Nat) : Prop where
  ex : ∃ mid c, gs = List.replicate a inG ++ mid ++ List.replicate c outG ∧ mid.length = b ∧ 1 ≤ c ∧ c ≤ 2 ∧ ∀ g ∈ mid, GOk g ∧ g.1 ≠ "in" ∧ g.1 ≠ "out"
  a2 : a ≤ 2
  b1 : 1 ≤ b
  b2 : b ≤ 20
def spGates (K : PySem.W.Frag) : Sp := fun vs H Q _ => ∃ (wl : Addr) (m : Int), vs = [.ref wl, .int m] ∧ 0 < m ∧ m ≤ 20 ∧ WellAt wl H ∧ ∀ t lg gs (a b : Nat) H', Dr wl H H' → H' t = some (.tup [.ref lg, .int (a : Nat), .int (b : Nat)]) → H lg = none → LG K H' lg gs → GSh gs a b → (b : Int) ≤ m → Q (.ref t) H'
def inner7 : List Str := ["sum", "times", "most", "least", "first", "one", "sum"]
theorem inner7_ok : ∀ k ∈ inner7, k ∈ kinds ∧ k ≠ "in" ∧ k ≠ "out" := by decide +kernel
theorem rep_flat {α : Type} (n : Nat) (x : α) : (List.replicate n [x]).flatten = List.replicate n x := by
  induction n with
  | zero => rfl
  | succ n ih => rw [List.replicate_succ, List.flatten_cons, ih, List.replicate_succ]; rfl
theorem all2_rep {α β : Type} {R : α → β → Prop} {x : α} {y : β} (h : R x y) : ∀ n, All2 R (List.replicate n x) (List.replicate n y)
  | 0 => All2.nil
  | n + 1 => All2.cons h (all2_rep h n)
section
variable {P : Program} {w : World} {K : PySem.W.Frag} {mg : Str → Option Value} {base : Heap}
abbrev nGates : List Str := ["_law_state", "_law_most", "_law_inner", "_law_ins", "_law_gates_here", "_law_k", "_law_kind"]
theorem scGates : FnScope nGates ["_law_state", "_law_most"] (defScope sGates) := ⟨rfl, rfl, rfl, by decide +kernel, rfl, by decide +kernel, by decide +kernel⟩
abbrev DGates (P : Program) (w : World) (K : PySem.W.Frag) (mg : Str → Option Value) (base : Heap) := Df P w K mg base 2 "_law_gates" ["_law_state", "_law_most"] (spGates K)
theorem ok_gates {f fD : Addr} {fd fdD : FuncData} (F : Fun K "_law_gates" "_law_gates" sGates f fd) (hm : mg "_law_gates" = some (.ref f)) (B : Bt mg) (DD : DDraw P w K mg base fD fdD) : DGates P w K mg base f fd := by
  refine ⟨?_, hm, F.kp, F.binds fun _ _ _ _ _ _ us hl => match us, hl with | [_, _], _ => rfl⟩
  refine F.ok scGates (fun vs H Q E h => ?_) (fun cdv A outer s H vs Q E hr h => ?_)
  · obtain ⟨wl, m, rfl, _⟩ := h
    rfl
  · obtain ⟨wl, m, rfl, hm0, hm1, hw, q⟩ := h
    have nd := scGates.nd
    refine ⟨_, pss_cons (ps_set (i := 2) nd rfl (.inl rfl) (pe_op op_add pe_int (pe_call DD.ok hr (by rfl) DD.mg DD.kp DD.bd .nil pass0 (pa_cons (pv 0) (pa_cons (pv 1) pa_nil))))) <|
      pss_cons (ps_set (i := 3) nd rfl (.inl rfl) (pe_call DD.ok hr (by rfl) DD.mg DD.kp DD.bd .nil pass0 (pa_cons (pv 0) (pa_cons pe_int pa_nil)))) <|
      pss_cons (ps_set (i := 4) nd rfl (.inl rfl) (pe_op op_rep (pe_lst (pa_cons (pe_tup (pa_cons pe_str (pa_cons pe_int pa_nil))) pa_nil)) (pv 3))) <|
      pss_cons (ps_for PassesOwn.never rfl (pi_range1 (by rfl) B.range (pa_cons (pv 2) pa_nil)) (pg_name (i := 5) nd rfl (.inl rfl)) <|
        pss_cons (ps_set (i := 6) nd rfl (.inl rfl) (pe_ix ix_list (pe_lst (pa_cons pe_str (pa_cons pe_str (pa_cons pe_str (pa_cons pe_str (pa_cons pe_str (pa_cons pe_str (pa_cons pe_str pa_nil)))))))) (pe_call DD.ok hr (by rfl) DD.mg DD.kp DD.bd .nil pass0 (pa_cons (pv 0) (pa_cons pe_int pa_nil))) (fun _ _ => rfl))) <|
        pss_one <| ps_expr <| pe_bm PySem.F.plainAttrs_list PySem.F.slot_list_append PySem.F.type_list_append mt_append (pv 4) <| (pa_cons · pa_nil) <| pe_tup <| pa_cons (pv 6) <| (pa_cons · pa_nil) <|
          pe_ix ix_list (pe_lst (pa_cons (pe_call DD.ok hr (by rfl) DD.mg DD.kp DD.bd .nil pass0 (pa_cons (pv 0) (pa_cons pe_int pa_nil))) (pa_cons (pe_call DD.ok hr (by rfl) DD.mg DD.kp DD.bd .nil pass0 (pa_cons (pv 0) (pa_cons pe_int pa_nil))) (pa_cons pe_int (pa_cons pe_int pa_nil))))) (pe_call DD.ok hr (by rfl) DD.mg DD.kp DD.bd .nil pass0 (pa_cons (pv 0) (pa_cons pe_int pa_nil))) (fun _ _ => rfl)) <|
      pss_one <| ps_ret <| pe_tup <| pa_cons (pe_op op_cat (pv 4) (pe_op op_rep (pe_lst (pa_cons (pe_tup (pa_cons pe_str (pa_cons pe_int pa_nil))) pa_nil)) (pe_op op_add pe_int (pe_call DD.ok hr (by rfl) DD.mg DD.kp DD.bd .nil pass0 (pa_cons (pv 0) (pa_cons pe_int pa_nil)))))) <| pa_cons (pv 3) <| pa_cons (pv 2) pa_nil, ?_⟩
    refine ⟨_, rfl, _, rfl, wl, m, rfl, hm0, by omega, hw, fun d1 H1 d10 d11 E1 => ⟨_, _, rfl, rfl, ?_⟩⟩
    refine ⟨_, rfl, wl, 3, rfl, by decide, by decide, E1.well, fun d2 H2 d20 d21 E2 => ?_⟩
    obtain ⟨a, rfl⟩ : ∃ a : Nat, d2 = (a : Int) := ⟨d2.toNat, by omega⟩
    obtain ⟨b0, rfl⟩ : ∃ b : Nat, d1 = (b : Int) := ⟨d1.toNat, by omega⟩
    have D2 := E1.trans E2
    refine ⟨(by show 2 ≤ sizeLine; decide), fun t3 ht3 => ?_⟩
    have D3 := D2.trans (Dr.new (o := .tup [.str "in", .int 0]) D2.well ht3)
    have et3 : SqT K (upd H2 t3 (.tup [.str "in", .int 0])) t3 [.str "in", .int 0] := .inl (.inl upd_same)
    generalize upd H2 t3 (.tup [.str "in", .int 0]) = H3 at D3 et3
    refine ⟨(by show 1 ≤ sizeLine; decide), fun l4 hl4 => ?_⟩
    have D4 := D3.trans (Dr.new (o := .lst [.ref t3]) D3.well hl4)
    have et4 := (TK.new (o := .lst [.ref t3]) hl4).seq et3
    have el4 : (upd H3 l4 (.lst [.ref t3])) l4 = some (.lst [.ref t3]) := upd_same
    generalize upd H3 l4 (.lst [.ref t3]) = H4 at D4 et4 el4
    refine ⟨_, rfl, l4, _, _, rfl, rfl, el4, by omega, by omega, ?_, fun lg hlg => ?_⟩
    · show 1 * _ ≤ sizeLine
      exact Nat.le_of_lt (small1000 (by omega))
    rw [Int.toNat_natCast, rep_flat]
    have D5 := D4.trans (Dr.new (o := .lst (List.replicate a (V.ref t3))) D4.well hlg)
    have et5 := (TK.new (o := .lst (List.replicate a (V.ref t3))) hlg).seq et4
    have el5 : (upd H4 lg (.lst (List.replicate a (V.ref t3)))) lg = some (.lst (List.replicate a (V.ref t3))) := upd_same
    have nlg : lg ≠ wl := (D4.well.ne hlg).symm
    have hlg0 : H lg = none := D4.free hw hlg
    generalize upd H4 lg (.lst (List.replicate a (V.ref t3))) = H5 at D5 et5 el5
    refine gn_norm (σ' := [some (.ref wl), some (.int m), some (.int (1 + (b0 : Nat))), some (.int (a : Nat)), some (.ref lg), none, none]) rfl ?_
    refine ⟨_, rfl, _, rfl, by omega, by omega, for_range (lo := 0) (n := (1 + ((b0 : Nat) : Int)).toNat) (fun i σ H' => ∃ (s5 s6 : Option V) (acc : List V) (mid : List Gt), σ = [some (.ref wl), some (.int m), some (.int (1 + (b0 : Nat))), some (.int (a : Nat)), some (.ref lg), s5, s6] ∧ H' lg = some (.lst acc) ∧ All2 (GateV K H') acc (List.replicate a inG ++ mid) ∧ mid.length = i ∧ (∀ g ∈ mid, GOk g ∧ g.1 ≠ "in" ∧ g.1 ≠ "out") ∧ Dr wl H H')
      ⟨_, _, _, [], rfl, el5, by rw [List.append_nil]; exact all2_rep ⟨t3, rfl, et5⟩ a, rfl, by simp, D5⟩ ?_ ?_⟩
    · rintro i σ H6 hi ⟨s5, s6, acc, mid, rfl, hacc, haa, hml, hmid, D6⟩
      have hal : acc.length = a + i := by rw [haa.1, List.length_append, List.length_replicate, hml]
      refine ⟨(by show 7 ≤ sizeLine; decide), fun l7 hl7 => ?_⟩
      have D7 := D6.trans (Dr.new (o := .lst (inner7.map V.str)) D6.well hl7)
      have E67 := Dr.new (o := .lst (inner7.map V.str)) D6.well hl7
      refine ⟨_, rfl, wl, 7, rfl, by decide, by decide, D7.well, fun k8 H8 k80 k81 E8 => ?_⟩
      have el7 := E8.but _ _ (D6.well.ne hl7).symm (upd_same (H := H6) (a := l7) (o := .lst (inner7.map V.str)))
      have hk8 : k8.toNat < (inner7.map V.str).length := by show k8.toNat < 7; omega
      refine ⟨l7, inner7.map V.str, k8, (inner7.map V.str)[k8.toNat], rfl, rfl, SqL.of el7, at_of (j := k8.toNat) (by omega) (List.getElem?_eq_getElem hk8), ?_⟩
      obtain ⟨kd, hkd, ekd⟩ := List.mem_map.mp (List.getElem_mem hk8)
      rw [← ekd]
      have hk := inner7_ok kd hkd
      have E68 := E67.trans E8
      have D8 := D6.trans E68
      have hacc8 := E68.but _ _ nlg hacc
      refine gn_norm (σ' := [some (.ref wl), some (.int m), some (.int (1 + (b0 : Nat))), some (.int (a : Nat)), some (.ref lg), some (.int (0 + (i : Nat))), some (.str kd)]) rfl ?_
      refine ⟨_, rfl, .inl ⟨rfl, _, SqL.of hacc8⟩, _, rfl, _, rfl, wl, 10, rfl, by decide, by decide, D8.well, fun z1 H9 z10 z11 E9 => ?_⟩
      refine ⟨_, rfl, wl, 4, rfl, by decide, by decide, E9.well, fun z2 H10 z20 z21 E10 => ?_⟩
      refine ⟨(by show 4 ≤ sizeLine; decide), fun l10 hl10 => ?_⟩
      have E11 := (E9.trans E10).trans (Dr.new (o := .lst [.int z1, .int z2, .int 0, .int 100]) E10.well hl10)
      refine ⟨_, rfl, wl, 4, rfl, by decide, by decide, E11.well, fun j H12 j0 j1 E12 => ?_⟩
      have el10 := E12.but _ _ (E10.well.ne hl10).symm (upd_same (H := H10) (a := l10) (o := .lst [.int z1, .int z2, .int 0, .int 100]))
      obtain ⟨wt, hwt, w0, w1⟩ : ∃ wt : Int, ([.int z1, .int z2, .int 0, .int 100] : List V)[j.toNat]? = some (.int wt) ∧ 0 ≤ wt ∧ wt ≤ 100 := by
        rcases (by omega : j.toNat = 0 ∨ j.toNat = 1 ∨ j.toNat = 2 ∨ j.toNat = 3) with h | h | h | h <;> rw [h]
        · exact ⟨z1, rfl, z10, by omega⟩
        · exact ⟨z2, rfl, z20, by omega⟩
        · exact ⟨0, rfl, by decide, by decide⟩
        · exact ⟨100, rfl, by decide, by decide⟩
      refine ⟨l10, _, j, .int wt, rfl, rfl, SqL.of el10, at_of (j := j.toNat) (by omega) hwt, (by show 2 ≤ sizeLine; decide), fun p hp => ?_⟩
      have E13 := (E68.trans (E11.trans E12)).trans (Dr.new (o := .tup [.str kd, .int wt]) E12.well hp)
      have hacc13 := E13.but _ _ nlg hacc
      refine ⟨lg, acc, _, rfl, rfl, hacc13, small1000 (by omega), ?_⟩
      refine ⟨_, _, acc ++ [.ref p], mid ++ [(kd, wt)], rfl, upd_same, ?_, by simp [hml], fun g hg => ?_, set_well (D6.trans E13) hlg0 nlg⟩
      · rw [← List.append_assoc]
        exact All2.pushT (fun t r => GateV.tk t r) haa hacc13 (TK.dr D6.well E13.but) ⟨p, rfl, .inl (.inl upd_same)⟩
      · rcases List.mem_append.mp hg with hg | hg
        · exact hmid g hg
        · simp at hg
          subst hg
          exact ⟨⟨hk.1, w0, w1, fun hp => by
            rcases hp with z | z
            · exact absurd z hk.2.1
            · exact absurd z hk.2.2⟩, hk.2.1, hk.2.2⟩
    · rintro σ H6 ⟨s5, s6, acc, mid, rfl, hacc, haa, hml, hmid, D6⟩
      have hal : acc.length = a + mid.length := by rw [haa.1, List.length_append, List.length_replicate]
      have hml' : mid.length = 1 + b0 := by omega
      refine ⟨_, rfl, (by show 2 ≤ sizeLine; decide), fun t7 ht7 => ?_⟩
      have E7 := Dr.new (o := .tup [.str "out", .int 0]) D6.well ht7
      have et7 : SqT K (upd H6 t7 (.tup [.str "out", .int 0])) t7 [.str "out", .int 0] := .inl (.inl upd_same)
      generalize upd H6 t7 (.tup [.str "out", .int 0]) = H7 at E7 et7
      refine ⟨(by show 1 ≤ sizeLine; decide), fun l8 hl8 => ?_⟩
      have E8 := E7.trans (Dr.new (o := .lst [.ref t7]) E7.well hl8)
      have et8 := (TK.new (o := .lst [.ref t7]) hl8).seq et7
      have el8 : (upd H7 l8 (.lst [.ref t7])) l8 = some (.lst [.ref t7]) := upd_same
      have nl8 : l8 ≠ wl := (E7.well.ne hl8).symm
      generalize upd H7 l8 (.lst [.ref t7]) = H8 at E8 et8 el8
      refine ⟨_, rfl, wl, 2, rfl, by decide, by decide, E8.well, fun d9 H9 d90 d91 E9 => ⟨_, _, rfl, rfl, ?_⟩⟩
      obtain ⟨c0, rfl⟩ : ∃ c : Nat, d9 = (c : Int) := ⟨d9.toNat, by omega⟩
      have et9 := (TK.dr E8.well E9.but).seq et8
      have el9 := E9.but _ _ nl8 el8
      refine ⟨l8, _, _, rfl, rfl, el9, by omega, by omega, ?_, fun l10 hl10 => ?_⟩
      · show 1 * _ ≤ sizeLine
        exact Nat.le_of_lt (small1000 (by omega))
      have ec : (1 + ((c0 : Nat) : Int)).toNat = 1 + c0 := by omega
      rw [ec, rep_flat]
      have E10 := (E8.trans E9).trans (Dr.new (o := .lst (List.replicate (1 + c0) (V.ref t7))) E9.well hl10)
      have et10 := (TK.new (o := .lst (List.replicate (1 + c0) (V.ref t7))) hl10).seq et9
      have el10 : (upd H9 l10 (.lst (List.replicate (1 + c0) (V.ref t7)))) l10 = some (.lst (List.replicate (1 + c0) (V.ref t7))) := upd_same
      generalize upd H9 l10 (.lst (List.replicate (1 + c0) (V.ref t7))) = H10 at E10 et10 el10
      refine ⟨lg, l10, _, _, rfl, rfl, E10.but _ _ nlg hacc, el10, ?_, fun l11 hl11 => ?_⟩
      · rw [List.length_replicate, hal]
        exact Nat.le_of_lt (small1000 (by omega))
      have E11 := E10.trans (Dr.new (o := .lst (acc ++ List.replicate (1 + c0) (V.ref t7))) E10.well hl11)
      have et11 := (TK.new (o := .lst (acc ++ List.replicate (1 + c0) (V.ref t7))) hl11).seq et10
      have el11 : (upd H10 l11 (.lst (acc ++ List.replicate (1 + c0) (V.ref t7)))) l11 = some (.lst (acc ++ List.replicate (1 + c0) (V.ref t7))) := upd_same
      have hl110 : H l11 = none := (D6.trans E10).free hw hl11
      generalize upd H10 l11 (.lst (acc ++ List.replicate (1 + c0) (V.ref t7))) = H11 at E11 et11 el11
      have G11 : LG K H11 l11 (List.replicate a inG ++ mid ++ List.replicate (1 + c0) outG) := ⟨_, el11, (haa.imp fun _ _ r => r.tk (TK.dr D6.well E11.but)).append (all2_rep ⟨t7, rfl, et11⟩ _)⟩
      refine ⟨_, rfl, _, rfl, (by show 3 ≤ sizeLine; decide), fun t12 ht12 => ?_⟩
      have st : Same H11 (upd H11 t12 (.tup [.ref l11, .int (a : Nat), .int (1 + (b0 : Nat))])) := same_new ht12
      refine q t12 l11 _ a (1 + b0) _ ((D6.trans E11).trans ⟨But.same st, E11.well.same st⟩) ?_ hl110 (G11.same st) ⟨⟨mid, 1 + c0, rfl, hml', by omega, by omega, hmid⟩, by omega, by omega, by omega⟩ (by omega)
      rw [upd_same]
      rfl
end
/-! ### _law_worths -/
def spLWorths (K : PySem.W.Frag) : Sp := fun vs H Q _ => ∃ (wl : Addr) (m : Nat), vs = [.ref wl, .int (m : Nat)] ∧ m ≤ 100 ∧ WellAt wl H ∧ ∀ p rs H', Dr wl H H' → H' p = some (.tup (rs.map V.int)) → rs.length = m → ROk rs → Q (.ref p) H'
section
variable {P : Program} {w : World} {K : PySem.W.Frag} {mg : Str → Option Value} {base : Heap}
abbrev nLWorths : List Str := ["_law_state", "_law_many", "_law_k"]
theorem scLWorths : FnScope nLWorths ["_law_state", "_law_many"] (defScope sLWorths) := ⟨rfl, rfl, rfl, by decide +kernel, rfl, by decide +kernel, by decide +kernel⟩
abbrev DLWorths (P : Program) (w : World) (K : PySem.W.Frag) (mg : Str → Option Value) (base : Heap) := Df P w K mg base 2 "_law_worths" ["_law_state", "_law_many"] (spLWorths K)
theorem ok_lworths {f fD : Addr} {fd fdD : FuncData} (F : Fun K "_law_worths" "_law_worths" sLWorths f fd) (hm : mg "_law_worths" = some (.ref f)) (B : Bt mg) (DD : DDraw P w K mg base fD fdD) : DLWorths P w K mg base f fd := by
  refine ⟨?_, hm, F.kp, F.binds fun _ _ _ _ _ _ us hl => match us, hl with | [_, _], _ => rfl⟩
  refine F.ok scLWorths (fun vs H Q E h => ?_) (fun cdv A outer s H vs Q E hr h => ?_)
  · obtain ⟨wl, m, rfl, _⟩ := h
    rfl
  · obtain ⟨wl, m, rfl, hm1, hw, q⟩ := h
    have nd := scLWorths.nd
    refine ⟨_, pss_one <| ps_ret <| pe_callTy call_tuple_of (by rfl) B.tuple (by decide +kernel) <| (pa_cons · pa_nil) <| pe_lc (own := [("_law_k", 2)]) (g := gName 2) (tt := tYes) (te := tCall spDraw [] E0 (tCons (tVar 0) (tCons (tC (.int 97)) tNil))) rfl nd (pi_range1 (by rfl) B.range (pa_cons (pv 1) pa_nil)) (blkOk_by (N := nLWorths) (sc := defScope sLWorths) (own := [("_law_k", 2)]) (by decide +kernel))
      (fun _ _ _ _ _ => pg_name (i := 2) nd rfl (.inl rfl)) (fun _ _ _ _ _ => pts_nil) (fun _ _ _ _ _ => pe_call DD.ok hr (by rfl) DD.mg DD.kp DD.bd .nil pass0 (pa_cons (pv 0) (pa_cons pe_int pa_nil))), ?_⟩
    refine ⟨_, rfl, _, rfl, by omega, by omega, fun R hR => ?_⟩
    have nRw : R ≠ wl := (hw.ne hR).symm
    refine lc_range (lo := 0) (n := ((m : Int)).toNat) (fun i Hc => ∃ rs : List Int, rs.length = i ∧ ROk rs ∧ Hc R = some (.lst (rs.map V.int)) ∧ Dr wl H Hc) ⟨[], rfl, by simp [ROk], upd_same, Dr.new hw hR⟩ ?_ ?_
    · rintro i Hc hi ⟨rs, hl, hr', hc, d⟩
      refine ⟨rfl, tyes ?_⟩
      refine ⟨_, rfl, wl, 97, rfl, by decide, by decide, d.well, fun z H2 z0 z1 E => ?_⟩
      refine ⟨_, E.but _ _ nRw hc, by rw [List.length_map]; exact small1000 (by omega), rs ++ [z], by simp [hl], ?_, ?_, set_well (d.trans E) hR nRw⟩
      · intro y hy
        rcases List.mem_append.mp hy with hy | hy
        · exact hr' y hy
        · simp at hy
          subst hy
          exact ⟨z0, by omega⟩
      · rw [upd_same, List.map_append]
        rfl
    · rintro Hc ⟨rs, hl, hr', hc, d⟩
      refine ⟨R, _, rfl, .inl ⟨SqL.of hc, fun p hp => ?_⟩⟩
      exact q p rs _ (d.trans (Dr.new d.well hp)) upd_same (by omega) hr'
end
end Lag

set_option maxRecDepth 100000
set_option maxHeartbeats 8000000
namespace Lag
open PySem PySem.Spec PyProof.Rows L2
abbrev sLWires : Stmt := topS 41 -- @_law_wires
abbrev sLParts : Stmt := topS 42 -- @_law_parts
theorem kindAt_i {gs : List Gt} {i : Nat} (h : i < gs.length) : kindAt gs i = gs[i].1 := kindAt_get (List.getElem?_eq_getElem h)
theorem GSh.len {gs : List Gt} {a b : Nat} (h : GSh gs a b) : a + b + 1 ≤ gs.length ∧ gs.length ≤ a + b + 2 := by
  obtain ⟨mid, c, rfl, hm, c1, c2, _⟩ := h.ex
  rw [List.length_append, List.length_append, List.length_replicate, List.length_replicate, hm]
  omega
theorem GSh.kind {gs : List Gt} {a b i : Nat} (h : GSh gs a b) (hi : i < gs.length) : (i < a → kindAt gs i = "in") ∧ (a ≤ i → i < a + b → kindAt gs i ≠ "in" ∧ kindAt gs i ≠ "out") ∧ (a + b ≤ i → kindAt gs i = "out") := by
  obtain ⟨mid, c, rfl, hm, c1, c2, hk⟩ := h.ex
  rw [List.length_append, List.length_append, List.length_replicate, List.length_replicate, hm] at hi
  refine ⟨fun h1 => ?_, fun h1 h2 => ?_, fun h1 => ?_⟩
  · refine kindAt_get (g := inG) ?_
    rw [List.getElem?_append_left (by rw [List.length_append, List.length_replicate]; omega), List.getElem?_append_left (by rw [List.length_replicate]; exact h1), List.getElem?_replicate, if_pos h1]
  · have e : (List.replicate a inG ++ mid ++ List.replicate c outG)[i]? = some (mid[i - a]'(by omega)) := by
      rw [List.getElem?_append_left (by rw [List.length_append, List.length_replicate]; omega), List.getElem?_append_right (by rw [List.length_replicate]; exact h1), List.length_replicate, List.getElem?_eq_getElem]
    rw [kindAt_get e]
    exact (hk _ (List.getElem_mem _)).2
  · refine kindAt_get (g := outG) ?_
    rw [List.getElem?_append_right (by rw [List.length_append, List.length_replicate]; omega), List.length_append, List.length_replicate, List.getElem?_replicate, if_pos (by omega)]
theorem GSh.gok {gs : List Gt} {a b : Nat} (h : GSh gs a b) : ∀ g ∈ gs, GOk g := by
  obtain ⟨mid, c, rfl, hm, c1, c2, hk⟩ := h.ex
  intro g hg
  rcases List.mem_append.mp hg with hg | hg
  · rcases List.mem_append.mp hg with hg | hg
    · rw [List.eq_of_mem_replicate hg]
      exact ⟨by show ("in" : Str) ∈ kinds; decide +kernel, Int.le_refl 0, (by show (0 : Int) ≤ 100; decide), fun _ => rfl⟩
    · exact (hk g hg).1
  · rw [List.eq_of_mem_replicate hg]
    exact ⟨by show ("out" : Str) ∈ kinds; decide +kernel, Int.le_refl 0, (by show (0 : Int) ≤ 100; decide), fun _ => rfl⟩
def spLWires (K : PySem.W.Frag) : Sp := fun vs H Q _ => ∃ (wl lg : Addr) (gs : List Gt) (a b : Nat), vs = [.ref wl, .ref lg, .int (a : Nat), .int (b : Nat)] ∧ WellAt wl H ∧ lg ≠ wl ∧ LG K H lg gs ∧ GSh gs a b ∧ ∀ l ws H', Dr wl H H' → H l = none → LW K H' l ws → WInv gs ws gs.length → Q (.ref l) H'
section
variable {P : Program} {w : World} {K : PySem.W.Frag} {mg : Str → Option Value} {base : Heap}
abbrev nLWires : List Str := ["_law_state", "_law_gates_here", "_law_ins", "_law_inner", "_law_wires_here", "_law_end", "_law_k", "_law_start"]
theorem scLWires : FnScope nLWires ["_law_state", "_law_gates_here", "_law_ins", "_law_inner"] (defScope sLWires) := ⟨rfl, rfl, rfl, by decide +kernel, rfl, by decide +kernel, by decide +kernel⟩
abbrev DLWires (P : Program) (w : World) (K : PySem.W.Frag) (mg : Str → Option Value) (base : Heap) := Df P w K mg base 3 "_law_wires" ["_law_state", "_law_gates_here", "_law_ins", "_law_inner"] (spLWires K)
theorem ok_lwires {f fD fW : Addr} {fd fdD fdW : FuncData} (F : Fun K "_law_wires" "_law_wires" sLWires f fd) (hm : mg "_law_wires" = some (.ref f)) (B : Bt mg) (DD : DDraw P w K mg base fD fdD) (DW : DLWorths P w K mg base fW fdW) : DLWires P w K mg base f fd := by
  refine ⟨?_, hm, F.kp, F.binds fun _ _ _ _ _ _ us hl => match us, hl with | [_, _, _, _], _ => rfl⟩
  refine F.ok scLWires (fun vs H Q E h => ?_) (fun cdv A outer s H vs Q E hr h => ?_)
  · obtain ⟨wl, lg, gs, a, b, rfl, _⟩ := h
    rfl
  · obtain ⟨wl, lg, gs, a, b, rfl, hw, nlg, G, gsh, q⟩ := h
    have nd := scLWires.nd
    have hr1 : Room 1 _ := hr.mono (by decide)
    refine ⟨_, pss_cons (ps_set (i := 4) nd rfl (.inl rfl) (pe_lst pa_nil)) <|
      pss_cons (ps_for PassesOwn.never rfl (pi_range2 (by rfl) B.range (pa_cons (pv 2) (pa_cons (pe_callB call_len_seq (by rfl) B.len PySem.boot_len (pa_cons (pv 1) pa_nil)) pa_nil))) (pg_name (i := 5) nd rfl (.inl rfl)) <|
        pss_one <| ps_for PassesOwn.never rfl (pi_range1 (by rfl) B.range (pa_cons (pe_op op_add pe_int (pe_op op_mul (pe_call DD.ok hr1 (by rfl) DD.mg DD.kp DD.bd .nil pass0 (pa_cons (pv 0) (pa_cons pe_int pa_nil))) (pe_callTy call_int1 (by rfl) B.int (by decide +kernel) (pa_cons (pe_cmpR op_lt (pv 5) (pe_op op_add (pv 2) (pv 3)) (nomark _)) pa_nil)))) pa_nil)) (pg_name (i := 6) nd rfl (.inl rfl)) <|
          pss_cons (ps_set (i := 7) nd rfl (.inl rfl) (pe_call DD.ok hr1 (by rfl) DD.mg DD.kp DD.bd .nil pass0 (pa_cons (pv 0) (pa_cons (pe_op op_add (pv 2) (pv 3)) pa_nil)))) <|
          pss_one <| ps_expr <| pe_bm PySem.F.plainAttrs_list PySem.F.slot_list_append PySem.F.type_list_append mt_append (pv 4) <| (pa_cons · pa_nil) <| pe_tup <| pa_cons (pv 7) <| pa_cons (pv 5) <| (pa_cons · pa_nil) <|
            pe_call DW.ok hr (by rfl) DW.mg DW.kp DW.bd .nil pass0 (pa_cons (pv 0) (pa_cons (pe_op op_add (pe_call DD.ok hr1 (by rfl) DD.mg DD.kp DD.bd .nil pass0 (pa_cons (pv 0) (pa_cons pe_int pa_nil))) (pe_callTy call_int1 (by rfl) B.int (by decide +kernel) (pa_cons (pe_cmpR op_ge (pv 7) (pv 5) (nomark _)) pa_nil))) pa_nil))) <|
      pss_one <| ps_ret (pv 4), ?_⟩
    obtain ⟨gl1, gl2⟩ := gsh.len
    have ha2 := gsh.a2
    have hb1 := gsh.b1
    have hb2 := gsh.b2
    obtain ⟨gv, hgv, ga⟩ := id G
    have hlg : gv.length = gs.length := ga.1
    refine ⟨Nat.zero_le _, fun D hD => ?_⟩
    have nDw : D ≠ wl := (hw.ne hD).symm
    have s0 : Same H (upd H D (.lst [])) := same_new hD
    have D0 : Dr wl H (upd H D (.lst [])) := Dr.new hw hD
    refine ⟨_, rfl, _, rfl, lg, gv, rfl, .inl (s0.seq (SqL.of hgv)), _, _, rfl, ⟨by omega, by omega, by omega, by omega⟩, ?_⟩
    refine for_range (fun i σ H' => ∃ (s5 s6 s7 : Option V) (acc : List V) (ws : List Wr), σ = [some (.ref wl), some (.ref lg), some (.int (a : Nat)), some (.int (b : Nat)), some (.ref D), s5, s6, s7] ∧ H' D = some (.lst acc) ∧ All2 (WireV K H') acc ws ∧ WInv gs ws (a + i) ∧ Dr wl H H')
      ⟨_, _, _, [], [], rfl, upd_same, All2.nil, ⟨by simp, fun e he hk => ?_, fun e he hk => ?_, by simp, by simp, fun e => Nat.zero_le 3⟩, D0⟩ ?_ ?_
    · have h1 := (gsh.kind (i := e) (by omega)).1 he
      rw [h1] at hk
      exact absurd hk (by decide +kernel)
    · have h1 := (gsh.kind (i := e) (by omega)).1 he
      rw [h1] at hk
      exact absurd hk (by decide +kernel)
    · rintro i σ H1 hi ⟨s5, s6, s7, acc, ws, rfl, hacc, haa, wi, D1⟩
      rw [hlg] at hi
      have hie : a + i < gs.length := by omega
      have ee : ((a : Nat) : Int) + ((i : Nat) : Int) = ((a + i : Nat) : Int) := by omega
      rw [ee]
      generalize he : a + i = e at hie wi
      obtain ⟨k1, k2, k3⟩ := gsh.kind hie
      refine ⟨_, rfl, wl, 3, rfl, by decide, by decide, D1.well, fun d H2 d0 d1 E2 => ?_⟩
      refine ⟨_, rfl, _, rfl, _, rfl, _, _, rfl, rfl, _, _, rfl, rfl, .inr ⟨_, rfl, _, _, rfl, rfl, .inl ?_, _, _, rfl, rfl, _, rfl, ?_⟩⟩
      · have e64 : (2 ^ 64 : Int) = 18446744073709551616 := by decide
        exact ⟨by omega, by omega⟩
      have hmany : ∃ mm : Nat, (1 : Int) + d * (if decide (((e : Nat) : Int) < ((a : Nat) : Int) + ((b : Nat) : Int)) = true then 1 else 0) = (mm : Int) ∧ 1 ≤ mm ∧ mm ≤ 3 ∧ (a + b ≤ e → mm = 1) := by
        by_cases hlt : e < a + b
        · refine ⟨1 + d.toNat, ?_, by omega, by omega, fun h => by omega⟩
          rw [if_pos (decide_eq_true (by omega))]
          omega
        · refine ⟨1, ?_, by omega, by omega, fun _ => rfl⟩
          rw [if_neg (by rw [decide_eq_true_eq]; omega)]
          omega
      obtain ⟨mm, hmm, mm1, mm3, mmo⟩ := hmany
      rw [hmm]
      have D2 := D1.trans E2
      refine ⟨by omega, by omega, for_range (lo := 0) (n := ((mm : Nat) : Int).toNat) (fun j σ H' => ∃ (s6 s7 : Option V) (acc : List V) (ws : List Wr), σ = [some (.ref wl), some (.ref lg), some (.int (a : Nat)), some (.int (b : Nat)), some (.ref D), some (.int (e : Nat)), s6, s7] ∧ H' D = some (.lst acc) ∧ All2 (WireV K H') acc ws ∧ WInv2 gs ws e j ∧ Dr wl H H')
        ⟨_, _, acc, ws, rfl, E2.but _ _ nDw hacc, haa.imp fun _ _ r => r.tk (TK.dr D1.well E2.but), wi.go, D2⟩ ?_ ?_⟩
      · rintro j σ H3 hj ⟨s6', s7', acc3, ws3, rfl, hacc3, haa3, wi3, D3⟩
        have hal3 : acc3.length ≤ 200 := by
          rw [haa3.1]
          have := wi3.len
          omega
        refine ⟨_, rfl, _, rfl, _, rfl, _, _, rfl, rfl, wl, _, rfl, by omega, by omega, D3.well, fun st H4 st0 st1 E4 => ?_⟩
        obtain ⟨sx, rfl⟩ : ∃ sx : Nat, st = (sx : Int) := ⟨st.toNat, by omega⟩
        have hsx : sx < a + b := by omega
        have hacc4 := E4.but _ _ nDw hacc3
        refine ⟨_, rfl, .inl ⟨rfl, _, SqL.of hacc4⟩, _, rfl, _, rfl, _, rfl, _, rfl, wl, 3, rfl, by decide, by decide, E4.well, fun r0 H5 r00 r01 E5 => ?_⟩
        refine ⟨_, rfl, _, rfl, _, _, rfl, rfl, .inr ⟨_, rfl, _, _, rfl, rfl, ?_⟩⟩
        obtain ⟨rl, hrl, rl3, rlp⟩ : ∃ rl : Nat, r0 + (if decide (((e : Nat) : Int) ≤ ((sx : Nat) : Int)) = true then 1 else 0) = (rl : Int) ∧ rl ≤ 3 ∧ (e ≤ sx → 1 ≤ rl) := by
          by_cases hle : e ≤ sx
          · refine ⟨r0.toNat + 1, ?_, by omega, fun _ => by omega⟩
            rw [if_pos (decide_eq_true (by omega))]
            omega
          · refine ⟨r0.toNat, ?_, by omega, fun h => absurd h hle⟩
            rw [if_neg (by rw [decide_eq_true_eq]; omega)]
            omega
        refine ⟨wl, rl, congrArg (fun z => [V.ref wl, V.int z]) hrl, by omega, E5.well, fun p6 rs H6 E6 ep6 hrs hrok => ?_⟩
        refine ⟨(by show 3 ≤ sizeLine; decide), fun p hp => ?_⟩
        have E36 := E4.trans (E5.trans E6)
        have E7 := E36.trans (Dr.new (o := .tup [.int (sx : Nat), .int (e : Nat), .ref p6]) E36.well hp)
        have hacc7 := E7.but _ _ nDw hacc3
        refine ⟨D, acc3, _, rfl, rfl, hacc7, small1000 (by omega), ?_⟩
        refine ⟨_, _, acc3 ++ [.ref p], ws3 ++ [(sx, e, rs)], rfl, upd_same, All2.pushT (fun t r => WireV.tk t r) haa3 hacc7 (TK.dr D3.well E7.but) ⟨p, p6, rfl, .inl (.inl upd_same), (TK.new hp).seq (.inl (.inl ep6))⟩, wi3.app ⟨by show sx < gs.length; omega, hie, ?_, ?_, hrok, by show rs.length ≤ 900; omega⟩ (fun h => ?_) rfl (by show rs.length ≤ 3; omega), set_well (D3.trans E7) hD nDw⟩
        · show kindAt gs sx ≠ "out"
          rcases Nat.lt_or_ge sx a with h | h
          · rw [(gsh.kind (i := sx) (by omega)).1 h]
            decide +kernel
          · exact ((gsh.kind (i := sx) (by omega)).2.1 h hsx).2
        · show kindAt gs e ≠ "in"
          rcases Nat.lt_or_ge e (a + b) with h | h
          · exact (k2 (by omega) h).1
          · rw [k3 h]
            decide +kernel
        · have h : rs = [] := h
          show sx < e
          rcases Nat.lt_or_ge sx e with h2 | h2
          · exact h2
          · have := rlp h2
            rw [h] at hrs
            simp at hrs
            omega
      · rintro σ H3 ⟨s6', s7', acc3, ws3, rfl, hacc3, haa3, wi3, D3⟩
        rw [Int.toNat_natCast] at wi3
        refine ⟨_, _, _, acc3, ws3, rfl, hacc3, haa3, ?_, D3⟩
        have e2 : a + (i + 1) = e + 1 := by omega
        rw [e2]
        refine wi3.done (fun hk => mmo ?_) (fun _ => mm1) mm3
        rcases Nat.lt_or_ge e (a + b) with h | h
        · exact absurd hk (k2 (by omega) h).2
        · exact h
    · rintro σ H1 ⟨s5, s6, s7, acc, ws, rfl, hacc, haa, wi, D1⟩
      have e2 : a + (((gv.length : Nat) : Int) - ((a : Nat) : Int)).toNat = gs.length := by omega
      rw [e2] at wi
      exact ⟨_, rfl, q D ws H1 D1 hD ⟨acc, hacc, haa⟩ wi⟩
end
end Lag

set_option maxRecDepth 100000
set_option maxHeartbeats 8000000
namespace Lag
open PySem PySem.Spec PyProof.Rows L2
theorem LG.dr {K : PySem.W.Frag} {wl l : Addr} {H H' : Hp} {gs : List Gt} (h : LG K H l gs) (n : l ≠ wl) (W : WellAt wl H) (d : Dr wl H H') : LG K H' l gs := by
  obtain ⟨vs, q, a⟩ := h
  exact ⟨vs, d.but _ _ n q, a.imp fun _ _ r => r.tk (TK.dr W d.but)⟩
theorem LW.dr {K : PySem.W.Frag} {wl l : Addr} {H H' : Hp} {ws : List Wr} (h : LW K H l ws) (n : l ≠ wl) (W : WellAt wl H) (d : Dr wl H H') : LW K H' l ws := by
  obtain ⟨vs, q, a⟩ := h
  exact ⟨vs, d.but _ _ n q, a.imp fun _ _ r => r.tk (TK.dr W d.but)⟩
/-- what stands while a net is asked -/
structure RS (K : PySem.W.Frag) (C wl : Addr) (H : Hp) (lg lw p ng nw : Addr) (gs : List Gt) (ws : List Wr) : Prop where
  W : WellAt wl H
  g : LG K H lg gs
  w : LW K H lw ws
  n : NetAt K C H p ng nw gs ws
  n1 : lg ≠ wl
  n2 : lw ≠ wl
  n3 : p ≠ wl
  n4 : ng ≠ wl
  n5 : nw ≠ wl
/-! ### numbered on from t -/
def rotL (n t : Nat) : List Nat := (List.range n).drop t ++ (List.range n).take t
theorem rot_perm (n t : Nat) : (rotL n t).Perm (List.range n) := by
  unfold rotL
  refine List.perm_append_comm.trans ?_
  rw [List.take_append_drop]
theorem rot_map {gs : List Gt} (t : Nat) : ((rotL gs.length t).map fun k => gs.getD k ("", 0)) = gs.drop t ++ gs.take t := by
  have e : (List.range gs.length).map (fun k => gs.getD k ("", 0)) = gs := by
    refine List.ext_getElem? fun i => ?_
    rw [List.getElem?_map]
    by_cases h : i < gs.length
    · rw [List.getElem?_range h, List.getElem?_eq_getElem h]
      show some (gs.getD i ("", 0)) = _
      rw [List.getD_eq_getElem?_getD, List.getElem?_eq_getElem h]
      rfl
    · rw [List.getElem?_eq_none (by rw [List.length_range]; omega), List.getElem?_eq_none (by omega)]
      rfl
  unfold rotL
  rw [List.map_append, List.map_drop, List.map_take, e]
theorem rot_idx {n t i : Nat} (ht : t < n) (hi : i < n) : (((rotL n t).idxOf i : Nat) : Int) = ((i : Int) - (t : Int)) % (n : Int) := by
  have nd : (rotL n t).Nodup := (rot_perm n t).nodup_iff.mpr List.nodup_range
  have key : ∀ j, (rotL n t)[j]? = some i → (rotL n t).idxOf i = j := fun j hj => by
    obtain ⟨hjl, e⟩ := List.getElem?_eq_some_iff.mp hj
    rw [← e]
    exact List.Nodup.idxOf_getElem nd j hjl
  rcases Nat.lt_or_ge i t with h | h
  · have hj : (rotL n t)[n - t + i]? = some i := by
      unfold rotL
      rw [List.getElem?_append_right (by rw [List.length_drop, List.length_range]; omega), List.length_drop, List.length_range, List.getElem?_take_of_lt (by omega), List.getElem?_range (by omega)]
      congr 1
      omega
    rw [key _ hj]
    have : ((i : Int) - (t : Int)) % (n : Int) = ((i : Int) - (t : Int) + (n : Int)) % (n : Int) := by rw [Int.add_emod_right]
    rw [this, Int.emod_eq_of_lt (by omega) (by omega)]
    omega
  · have hj : (rotL n t)[i - t]? = some i := by
      unfold rotL
      rw [List.getElem?_append_left (by rw [List.length_drop, List.length_range]; omega), List.getElem?_drop, List.getElem?_range (by omega)]
      congr 1
      omega
    rw [key _ hj, Int.emod_eq_of_lt (by omega) (by omega)]
    omega
theorem rot_at {n t i : Nat} (hi : i < n) : (rotL n t)[(rotL n t).idxOf i]? = some i := by
  have mi : i ∈ rotL n t := (rot_perm n t).mem_iff.mpr (List.mem_range.mpr hi)
  rw [List.getElem?_eq_getElem (List.idxOf_lt_length_iff.mpr mi), List.getElem_idxOf]
theorem cnt_rot {n t : Nat} {us ws : List Wr} (hp : us.Perm ws) (hw : ∀ x ∈ ws, x.2.1 < n) (c3 : ∀ e, cnt ws e ≤ 3) : ∀ e, cnt (us.map fun x => ((rotL n t).idxOf x.1, (rotL n t).idxOf x.2.1, x.2.2)) e ≤ 3 := fun e => by
  unfold cnt
  rw [List.countP_map]
  by_cases h : ∃ x ∈ us, (rotL n t).idxOf x.2.1 = e
  · obtain ⟨x0, h0, h1⟩ := h
    refine Nat.le_trans (Nat.le_of_eq ?_) (c3 x0.2.1)
    unfold cnt
    rw [← hp.countP_eq]
    refine List.countP_congr fun x hx => ?_
    simp only [Function.comp, beq_iff_eq]
    constructor
    · intro z
      have a1 := rot_at (t := t) (hw x (hp.mem_iff.mp hx))
      rw [z, ← h1, rot_at (t := t) (hw x0 (hp.mem_iff.mp h0))] at a1
      exact (Option.some.inj a1).symm
    · intro z
      rw [z, h1]
  · rw [List.countP_eq_zero.mpr]
    · exact Nat.zero_le _
    · intro x hx z
      simp only [Function.comp, beq_iff_eq] at z
      exact h ⟨x, hx, z⟩
theorem nInn_rot (gs : List Gt) (t : Nat) : nInn (gs.drop t ++ gs.take t) = nInn gs := by
  unfold nInn
  rw [List.countP_append, Nat.add_comm, ← List.countP_append, List.take_append_drop]
theorem GSh.inn {gs : List Gt} {a b : Nat} (h : GSh gs a b) : nInn gs ≤ b := by
  obtain ⟨mid, c, e, hm, _⟩ := h.ex
  have h1 : (List.replicate a inG).countP (fun g => innP g.1) = 0 := List.countP_eq_zero.mpr fun g hg => by
    rw [List.eq_of_mem_replicate hg]
    decide +kernel
  have h2 : (List.replicate c outG).countP (fun g => innP g.1) = 0 := List.countP_eq_zero.mpr fun g hg => by
    rw [List.eq_of_mem_replicate hg]
    decide +kernel
  have h3 : mid.countP (fun g => innP g.1) ≤ mid.length := List.countP_le_length
  unfold nInn
  rw [e, List.countP_append, List.countP_append, h1, h2]
  omega
def spLParts (K : PySem.W.Frag) : Sp := fun vs H Q _ => ∃ (wl : Addr) (m : Int), vs = [.ref wl, .int m] ∧ 0 < m ∧ m ≤ 20 ∧ WellAt wl H ∧
  ∀ (gs : List Gt) (ws : List Wr) (lg lw p : Addr) (H' : Hp), NetOk gs ws → gs.length ≤ 24 → (gs.length : Int) ≤ m + 4 → (nInn gs : Int) ≤ m → ws.length ≤ 3 * gs.length → (∀ x ∈ ws, x.2.2.length ≤ 3) → ws.length ≤ 72 → ws ≠ [] → (∀ e, cnt ws e ≤ 3) → (∃ i, i < gs.length ∧ kindAt gs i ≠ "in" ∧ kindAt gs i ≠ "out") → Dr wl H H' → H lg = none → H lw = none → lg ≠ lw → LG K H' lg gs → LW K H' lw ws → H' p = some (.tup [.ref lg, .ref lw]) → Q (.ref p) H'
section
variable {P : Program} {w : World} {K : PySem.W.Frag} {mg : Str → Option Value} {base : Heap}
abbrev nLParts : List Str := ["_law_state", "_law_most", "_law_gates_here", "_law_ins", "_law_inner", "_law_wires_here", "_law_many", "_law_turn", "_law_start", "_law_end", "_law_stock"]
theorem scLParts : FnScope nLParts ["_law_state", "_law_most"] (defScope sLParts) := ⟨rfl, rfl, rfl, by decide +kernel, rfl, by decide +kernel, by decide +kernel⟩
abbrev DLParts (P : Program) (w : World) (K : PySem.W.Frag) (mg : Str → Option Value) (base : Heap) := Df P w K mg base 4 "_law_parts" ["_law_state", "_law_most"] (spLParts K)
def rotE : TE := tTup (tCons (tOp (rI (fun _ j => 0 < j) fun i j => .int (i % j)) (tOp (rI0 fun i j => .int (i - j)) (tVar 8) (tVar 7)) (tVar 6)) (tCons (tOp (rI (fun _ j => 0 < j) fun i j => .int (i % j)) (tOp (rI0 fun i j => .int (i - j)) (tVar 9) (tVar 7)) (tVar 6)) (tCons (tVar 10) tNil)))
theorem ok_lparts {f fD fG fW : Addr} {fd fdD fdG fdW : FuncData} (F : Fun K "_law_parts" "_law_parts" sLParts f fd) (hm : mg "_law_parts" = some (.ref f)) (B : Bt mg) (DD : DDraw P w K mg base fD fdD) (DG : DGates P w K mg base fG fdG) (DW : DLWires P w K mg base fW fdW) : DLParts P w K mg base f fd := by
  refine ⟨?_, hm, F.kp, F.binds fun _ _ _ _ _ _ us hl => match us, hl with | [_, _], _ => rfl⟩
  refine F.ok scLParts (fun vs H Q E h => ?_) (fun cdv A outer s H vs Q E hr h => ?_)
  · obtain ⟨wl, m, rfl, _⟩ := h
    rfl
  · obtain ⟨wl, m, rfl, hm0, hm1, hw, q⟩ := h
    have nd := scLParts.nd
    have hr2 : Room 2 _ := hr.mono (by decide)
    have hr1 : Room 1 _ := hr.mono (by decide)
    refine ⟨_, pss_cons (ps_asg (pe_call DG.ok hr2 (by rfl) DG.mg DG.kp DG.bd .nil pass0 (pa_cons (pv 0) (pa_cons (pv 1) pa_nil))) (pg_tup (by rfl) (pgs_cons (pg_name (i := 2) nd rfl (.inl rfl)) (pgs_cons (pg_name (i := 3) nd rfl (.inl rfl)) (pgs_cons (pg_name (i := 4) nd rfl (.inl rfl)) pgs_nil))))) <|
      pss_cons (ps_set (i := 5) nd rfl (.inl rfl) (pe_call DW.ok hr (by rfl) DW.mg DW.kp DW.bd .nil pass0 (pa_cons (pv 0) (pa_cons (pv 2) (pa_cons (pv 3) (pa_cons (pv 4) pa_nil)))))) <|
      pss_cons (ps_set (i := 6) nd rfl (.inr rfl) (pe_callB call_len_seq (by rfl) B.len PySem.boot_len (pa_cons (pv 2) pa_nil))) <|
      pss_cons (ps_set (i := 7) nd rfl (.inr rfl) (pe_call DD.ok hr1 (by rfl) DD.mg DD.kp DD.bd .nil pass0 (pa_cons (pv 0) (pa_cons (pv 6) pa_nil)))) <|
      pss_cons (ps_setLc (i := 5) (own := [("_law_start", 8), ("_law_end", 9), ("_law_stock", 10)]) (g := gTup K 3 (gCons (gName 8) (gCons (gName 9) (gCons (gName 10) gNil)))) (tt := tYes) (te := rotE) rfl nd rfl rfl (sw_true rfl rfl rfl (by decide +kernel)) (pi_list (pv 5)) (blkOk_by (N := nLParts) (sc := defScope sLParts) (own := [("_law_start", 8), ("_law_end", 9), ("_law_stock", 10)]) (by decide +kernel))
          (fun _ _ _ _ _ => pg_tup rfl (pgs_cons (pg_name (i := 8) nd rfl (.inl rfl)) (pgs_cons (pg_name (i := 9) nd rfl (.inl rfl)) (pgs_cons (pg_name (i := 10) nd rfl (.inl rfl)) pgs_nil)))) (fun _ _ _ _ _ => pts_nil)
          (fun _ _ _ _ _ => pe_tup (pa_cons (pe_op op_mod (pe_op op_sub (pv 8) (pv 7)) (pv 6)) (pa_cons (pe_op op_mod (pe_op op_sub (pv 9) (pv 7)) (pv 6)) (pa_cons (pv 10) pa_nil))))) <|
      Evl.pss_cut (ps_if (pt_cmpR op_eq (pe_call DD.ok hr1 (by rfl) DD.mg DD.kp DD.bd .nil pass0 (pa_cons (pv 0) (pa_cons pe_int pa_nil))) pe_int (nomark _)) (pss_one (ps_expr (pe_bm0 PySem.F.plainAttrs_list PySem.F.slot_list_reverse PySem.F.type_list_reverse mt_reverse (pv 5)))) pss_nil) <|
      pss_one <| ps_ret <| pe_tup <| pa_cons (pe_op op_cat (pe_slice sl_list (pv 2) (po_some (pv 7)) po_none) (pe_slice sl_list (pv 2) po_none (po_some (pv 7)))) <| pa_cons (pv 5) pa_nil, ?_⟩
    refine ⟨_, rfl, _, rfl, wl, m, rfl, hm0, hm1, hw, fun t1 lg0 gs a b H1 E1 et1 hlg0 G1 gsh hbm => ?_⟩
    refine ⟨t1, _, rfl, .inl (.inl et1), rfl, _, _, rfl, _, _, rfl, _, _, rfl, rfl, ?_⟩
    obtain ⟨gl1, gl2⟩ := gsh.len
    have ha2 := gsh.a2
    have hb1 := gsh.b1
    have hb2 := gsh.b2
    have nlg0 : lg0 ≠ wl := (hw.ne hlg0).symm
    refine ⟨_, rfl, _, rfl, _, rfl, _, rfl, wl, lg0, gs, a, b, rfl, E1.well, nlg0, G1, gsh, fun lw0 ws H2 E2 hlw0 W2 wi => ?_⟩
    have nlw0 : lw0 ≠ wl := (E1.well.ne hlw0).symm
    have D2 := E1.trans E2
    have G2 := G1.dr nlg0 E1.well E2
    have gne : gs ≠ [] := fun z => by
      rw [z] at gl1
      simp at gl1
    have N := wi.net gne (by omega) gsh.gok
    have hwl := wi.len
    obtain ⟨gv, hgv, ga⟩ := id G2
    have hlg : gv.length = gs.length := ga.1
    refine ⟨_, rfl, lg0, gv, rfl, .inl (SqL.of hgv), ?_⟩
    refine ⟨_, rfl, _, rfl, wl, _, rfl, by omega, by omega, E2.well, fun d H3 d0 d1 E3 => ?_⟩
    obtain ⟨t, rfl⟩ : ∃ t : Nat, d = (t : Int) := ⟨d.toNat, by omega⟩
    have ht : t < gs.length := by omega
    have D3 := D2.trans E3
    have hgv3 := E3.but _ _ nlg0 hgv
    have ga3 := ga.imp fun _ _ r => r.tk (TK.dr E2.well E3.but)
    obtain ⟨wv, hwv, wa⟩ := W2.dr nlw0 E2.well E3
    have hlw : wv.length = ws.length := wa.1
    refine gn_norm (σ' := [some (.ref wl), some (.int m), some (.ref lg0), some (.int (a : Nat)), some (.int (b : Nat)), some (.ref lw0), some (.int (gv.length : Nat)), some (.int (t : Nat)), none, none, none]) rfl ?_
    -- numbered anew
    refine ⟨_, rfl, lw0, rfl, ⟨_, SqL.of hwv⟩, fun lw hlw' => ?_⟩
    have nlw : lw ≠ wl := (E3.well.ne hlw').symm
    have hlwH : H lw = none := D3.free hw hlw'
    refine lc_list (K := K) (a := lw0) (xs := wv) (fun i Hc => ∃ acc, Hc lw = some (.lst acc) ∧ acc.length = i ∧ All2 (WireV K Hc) acc ((ws.take i).map fun x => ((rotL gs.length t).idxOf x.1, (rotL gs.length t).idxOf x.2.1, x.2.2)) ∧ Same H3 Hc) ⟨[], upd_same, rfl, by simpa using All2.nil, same_new hlw'⟩ (fun i Hc _ ⟨_, _, _, _, sm⟩ => SqL.of (sm _ _ hwv)) ?_ ?_
    · rintro i v Hc hv ⟨acc, hacc, hal, haa, sm⟩
      obtain ⟨x, hx, a', b', rfl, sq1, sq2⟩ := wa.get hv
      have hi : i < ws.length := (List.getElem?_eq_some_iff.mp hx).1
      have WX := N.wok x (List.mem_of_getElem? hx)
      have tk := TK.same sm
      refine ⟨a', _, rfl, tk.seq sq1, rfl, _, _, rfl, _, _, rfl, _, _, rfl, rfl, rfl, tyes ?_⟩
      refine ⟨_, rfl, _, rfl, _, _, rfl, rfl, _, rfl, _, _, rfl, rfl, (by show (0 : Int) < ((gv.length : Nat) : Int); omega), ?_⟩
      refine ⟨_, rfl, _, rfl, _, _, rfl, rfl, _, rfl, _, _, rfl, rfl, (by show (0 : Int) < ((gv.length : Nat) : Int); omega), _, rfl, (by show 3 ≤ sizeLine; decide), fun p hp => ?_⟩
      have sp : Same Hc (upd Hc p (.tup [.int ((((x.1 : Nat) : Int) - ((t : Nat) : Int)) % ((gv.length : Nat) : Int)), .int ((((x.2.1 : Nat) : Int) - ((t : Nat) : Int)) % ((gv.length : Nat) : Int)), .ref b'])) := same_new hp
      refine ⟨acc, sp _ _ hacc, small1000 (by omega), acc ++ [.ref p], upd_same, by simp [hal], ?_, same_mut (sm.trans sp) hlw'⟩
      rw [List.take_add_one, hx, List.map_append]
      refine All2.pushT (fun t r => WireV.tk t r) haa (sp _ _ hacc) (TK.same sp) ⟨p, b', rfl, .inl (.inl ?_), (TK.same (sm.trans sp)).seq sq2⟩
      rw [upd_same]
      show some (HO.tup [V.int _, V.int _, V.ref b']) = some (HO.tup [V.int _, V.int _, V.ref b'])
      rw [rot_idx ht WX.s, rot_idx ht WX.e, hlg]
    rintro H4 ⟨acc, hacc, hal, haa, s4⟩
    rw [hlw, List.take_length] at haa
    have D4 : Dr wl H H4 := D3.trans ⟨But.same s4, D3.well.same s4⟩
    have hne : ws ≠ [] := fun z => by
      have hk := (gsh.kind (i := a + b) (by omega)).2.2 (Nat.le_refl _)
      have := N.one (a + b) (by omega) hk
      rw [z] at this
      cases this
    have hinner : ∃ i, i < (gs.drop t ++ gs.take t).length ∧ kindAt (gs.drop t ++ gs.take t) i ≠ "in" ∧ kindAt (gs.drop t ++ gs.take t) i ≠ "out" := by
      have hk := (gsh.kind (i := a) (by omega)).2.1 (Nat.le_refl _) (by omega)
      have hmem : gs[a]'(by omega) ∈ gs.drop t ++ gs.take t := by
        have : gs[a]'(by omega) ∈ gs.take t ++ gs.drop t := by
          rw [List.take_append_drop]
          exact List.getElem_mem _
        rcases List.mem_append.mp this with h | h
        · exact List.mem_append.mpr (.inr h)
        · exact List.mem_append.mpr (.inl h)
      obtain ⟨i, hi⟩ := List.getElem?_of_mem hmem
      refine ⟨i, (List.getElem?_eq_some_iff.mp hi).1, ?_⟩
      rw [kindAt_get hi, ← kindAt_i]
      exact hk
    refine gn_norm (σ' := [some (.ref wl), some (.int m), some (.ref lg0), some (.int (a : Nat)), some (.int (b : Nat)), some (.ref lw), some (.int (gv.length : Nat)), some (.int (t : Nat)), none, none, none]) rfl ?_
    -- turned about, perhaps
    refine ⟨fun σ H' => ∃ (acc : List V) (us : List Wr), σ = [some (.ref wl), some (.int m), some (.ref lg0), some (.int (a : Nat)), some (.int (b : Nat)), some (.ref lw), some (.int (gv.length : Nat)), some (.int (t : Nat)), none, none, none] ∧ us.Perm ws ∧ H' lw = some (.lst acc) ∧ All2 (WireV K H') acc (us.map fun x => ((rotL gs.length t).idxOf x.1, (rotL gs.length t).idxOf x.2.1, x.2.2)) ∧ Dr wl H H' ∧ H' lg0 = some (.lst gv) ∧ All2 (GateV K H') gv gs, ?_, ?_⟩
    · refine ⟨_, rfl, wl, 2, rfl, by decide, by decide, D4.well, fun z H5 z0 z1 E5 => ?_⟩
      have D5 := D4.trans E5
      have h5 := E5.but _ _ nlw hacc
      have a5 := haa.imp fun _ _ r => r.tk (TK.dr D4.well E5.but)
      have g5 := E5.but _ _ nlg0 (s4 _ _ hgv3)
      have ga5 := (ga3.imp fun _ _ r => r.tk (TK.same s4)).imp fun _ _ r => r.tk (TK.dr D4.well E5.but)
      refine ⟨rfl, _, rfl, ite2 (fun e => ?_) (fun e => ⟨acc, ws, rfl, .refl _, h5, a5, D5, g5, ga5⟩)⟩
      have ngw : lg0 ≠ lw := ne_of_none hgv3 hlw'
      refine ⟨_, rfl, .inl ⟨rfl, _, SqL.of h5⟩, lw, _, rfl, rfl, h5, acc.reverse, ws.reverse, rfl, List.reverse_perm _, upd_same, ?_, set_well D5 hlwH nlw, by rw [upd_ne ngw]; exact g5, ga5.imp fun _ _ r => r.tk (TK.lst h5)⟩
      rw [List.map_reverse]
      exact (a5.imp fun _ _ r => r.tk (TK.lst h5)).reverse
    rintro σ H5 ⟨acc5, us, rfl, hp, hacc5, haa5, D5, hgv5, ga5⟩
    have NA := N.anew (rot_perm gs.length t) hp
    rw [rot_map] at NA
    refine ⟨_, rfl, _, rfl, _, rfl, lg0, gv, rfl, SqL.of hgv5, fun l6 hl6 => ?_⟩
    have s6 : Same H5 (upd H5 l6 (.lst (cutV gv (some ((t : Nat) : Int)) none))) := same_new hl6
    have el6 : (upd H5 l6 (.lst (cutV gv (some ((t : Nat) : Int)) none))) l6 = some (.lst (gv.drop t)) := by rw [upd_same, cut_from]
    generalize upd H5 l6 (.lst (cutV gv (some ((t : Nat) : Int)) none)) = H6 at s6 el6
    refine ⟨_, rfl, _, rfl, _, rfl, lg0, gv, rfl, SqL.of (s6 _ _ hgv5), fun l7 hl7 => ?_⟩
    have s7 : Same H6 (upd H6 l7 (.lst (cutV gv none (some ((t : Nat) : Int))))) := same_new hl7
    have el7 : (upd H6 l7 (.lst (cutV gv none (some ((t : Nat) : Int))))) l7 = some (.lst (gv.take t)) := by rw [upd_same, cut_to]
    generalize upd H6 l7 (.lst (cutV gv none (some ((t : Nat) : Int)))) = H7 at s7 el7
    refine ⟨l6, l7, _, _, rfl, rfl, s7 _ _ el6, el7, ?_, fun l8 hl8 => ?_⟩
    · rw [List.length_drop, List.length_take]
      exact Nat.le_of_lt (small1000 (by omega))
    have s8 : Same H7 (upd H7 l8 (.lst (gv.drop t ++ gv.take t))) := same_new hl8
    have el8 : (upd H7 l8 (.lst (gv.drop t ++ gv.take t))) l8 = some (.lst (gv.drop t ++ gv.take t)) := upd_same
    generalize upd H7 l8 (.lst (gv.drop t ++ gv.take t)) = H8 at s8 el8
    have t8 := s6.trans (s7.trans s8)
    have hl8H : H l8 = none := D5.free hw ((s6.trans s7).free hl8)
    have nl8 : l8 ≠ lw := fun z => by
      rw [z, (s6.trans s7) _ _ hacc5] at hl8
      cases hl8
    refine ⟨_, rfl, (by show 2 ≤ sizeLine; decide), fun p hp' => ?_⟩
    have s9 := t8.trans (same_new (o := .tup [.ref l8, .ref lw]) hp')
    have ga9 := ga5.imp fun _ _ r => r.tk (TK.same s9)
    have rl : ∀ x ∈ us.map (fun x : Wr => ((rotL gs.length t).idxOf x.1, (rotL gs.length t).idxOf x.2.1, x.2.2)), x.2.2.length ≤ 3 := fun y hy => by
      obtain ⟨x, hx, rfl⟩ := List.mem_map.mp hy
      exact wi.r2 x (hp.mem_iff.mp hx)
    have c3 := cnt_rot (t := t) hp (fun x hx => (N.wok x hx).e) wi.c3
    refine q _ _ l8 lw p _ NA ?_ ?_ ?_ ?_ rl ?_ ?_ c3 hinner (D5.trans ⟨But.same s9, D5.well.same s9⟩) hl8H hlwH nl8 ⟨_, same_new hp' _ _ el8, (ga9.drop t).append (ga9.take t)⟩ ⟨acc5, s9 _ _ hacc5, haa5.imp fun _ _ r => r.tk (TK.same s9)⟩ upd_same
    · rw [List.length_append, List.length_drop, List.length_take]
      omega
    · rw [List.length_append, List.length_drop, List.length_take]
      omega
    · have := nInn_rot gs t
      have := gsh.inn
      omega
    · rw [List.length_map, hp.length_eq, List.length_append, List.length_drop, List.length_take]
      omega
    · rw [List.length_map, hp.length_eq]
      omega
    · intro z
      have := List.map_eq_nil_iff.mp z
      rw [this] at hp
      exact hne hp.nil_eq.symm
end
end Lag

set_option maxRecDepth 100000
namespace Lag
open PySem PySem.Spec PyProof.Rows L2
/-! ### rings: every row of wires that closes, told from its least place (mathematics only) -/
def stA (ws : List Wr) (p : Nat) : Nat := (ws.getD p (0, 0, [])).1
def enA (ws : List Wr) (p : Nat) : Nat := (ws.getD p (0, 0, [])).2.1
def endL (ws : List Wr) (r : List Nat) : Nat := enA ws (r.getLastD 0)
def begL (ws : List Wr) (r : List Nat) : Nat := stA ws (r.headD 0)
inductive Rw (ws : List Wr) : List Nat → Prop where
  | one {p : Nat} : p < ws.length → Rw ws [p]
  | snoc {r : List Nat} {p : Nat} : Rw ws r → p < ws.length → stA ws p = endL ws r → endL ws r ∉ r.map (stA ws) → Rw ws (r ++ [p])
def longR (ws : List Wr) (r : List Nat) : List (List Nat) := ((List.range ws.length).filter fun p => decide (stA ws p = endL ws r ∧ endL ws r ∉ r.map (stA ws))).map fun p => r ++ [p]
def rowsL (ws : List Wr) : Nat → List (List Nat)
  | 0 => (List.range ws.length).map fun p => [p]
  | k + 1 => (rowsL ws k).flatMap (longR ws)
structure RingR (ws : List Wr) (r : List Nat) : Prop where
  rw : Rw ws r
  cl : endL ws r = begL ws r
  mn : ∀ p ∈ r, r.headD 0 ≤ p
theorem endL_snoc (ws : List Wr) (r : List Nat) (p : Nat) : endL ws (r ++ [p]) = enA ws p := by
  unfold endL
  rw [List.getLastD_eq_getLast?, List.getLast?_concat]
  rfl
theorem begL_app {ws : List Wr} {r : List Nat} (s : List Nat) (h : r ≠ []) : begL ws (r ++ s) = begL ws r := by
  cases r with
  | nil => exact absurd rfl h
  | cons a b => rfl
theorem head_app {r : List Nat} (s : List Nat) (h : r ≠ []) : (r ++ s).headD 0 = r.headD 0 := by
  cases r with
  | nil => exact absurd rfl h
  | cons a b => rfl
theorem beg_mem {ws : List Wr} {r : List Nat} (h : r ≠ []) : begL ws r ∈ r.map (stA ws) := by
  cases r with
  | nil => exact absurd rfl h
  | cons a b => exact List.mem_map.mpr ⟨a, List.mem_cons_self, rfl⟩
theorem snoc_of {α : Type} {l : List α} (h : l ≠ []) : ∃ r p, l = r ++ [p] := ⟨l.dropLast, l.getLast h, (List.dropLast_concat_getLast h).symm⟩
section
variable {ws : List Wr} {r : List Nat}
theorem Rw.ne (h : Rw ws r) : r ≠ [] := by
  cases h with
  | one => exact List.cons_ne_nil _ _
  | snoc => exact List.append_ne_nil_of_right_ne_nil _ (List.cons_ne_nil _ _)
theorem Rw.lt (h : Rw ws r) : ∀ p ∈ r, p < ws.length := by
  induction h with
  | one hp =>
    intro p h
    rw [List.mem_singleton.mp h]
    exact hp
  | snoc _ hp _ _ ih =>
    intro p h
    rcases List.mem_append.mp h with z | z
    · exact ih p z
    · rw [List.mem_singleton.mp z]
      exact hp
theorem Rw.nd (h : Rw ws r) : (r.map (stA ws)).Nodup := by
  induction h with
  | one hp => exact List.nodup_cons.mpr ⟨List.not_mem_nil, List.nodup_nil⟩
  | snoc _ hp e ne ih =>
    rw [List.map_append, List.nodup_append]
    refine ⟨ih, List.nodup_cons.mpr ⟨List.not_mem_nil, List.nodup_nil⟩, fun a ha b hb z => ?_⟩
    have := List.mem_singleton.mp hb
    subst z
    rw [this, e] at ha
    exact ne ha
theorem Rw.nodup (h : Rw ws r) : r.Nodup := List.Pairwise.of_map (stA ws) (fun a b z e => z (by rw [e])) h.nd
theorem Rw.len (h : Rw ws r) : r.length ≤ ws.length := by
  have := List.Nodup.length_le_of_subset h.nodup (l₂ := List.range ws.length) fun p hp => List.mem_range.mpr (h.lt p hp)
  rwa [List.length_range] at this
/-- what stands in front -/
theorem Rw.pre {p : Nat} (h : Rw ws (r ++ [p])) (n : r ≠ []) : Rw ws r ∧ stA ws p = endL ws r ∧ endL ws r ∉ r.map (stA ws) := by
  generalize e : r ++ [p] = l at h
  cases h with
  | one hp =>
    have := congrArg List.length e
    rw [List.length_append] at this
    have h0 : r.length = 0 := by
      have : r.length + 1 = 1 := this
      omega
    exact absurd (List.eq_nil_of_length_eq_zero h0) n
  | snoc h1 h2 h3 h4 =>
    obtain ⟨rfl, e2⟩ := List.append_inj' e rfl
    cases e2
    exact ⟨h1, h3, h4⟩
theorem Rw.front : ∀ {s : List Nat}, Rw ws (r ++ s) → r ≠ [] → Rw ws r := by
  intro s
  induction hn : s.length generalizing s with
  | zero =>
    intro h _
    rw [List.eq_nil_of_length_eq_zero hn, List.append_nil] at h
    exact h
  | succ n ih =>
    intro h hr
    obtain ⟨s', p, rfl⟩ := snoc_of (l := s) (fun z => by rw [z] at hn; cases hn)
    rw [← List.append_assoc] at h
    exact ih (s := s') (by rw [List.length_append] at hn; exact Nat.succ.inj hn) (h.pre (fun z => hr (List.append_eq_nil_iff.mp z).1)).1 hr
theorem mem_rows : ∀ {k : Nat} {r : List Nat}, r ∈ rowsL ws k ↔ r.length = k + 1 ∧ Rw ws r
  | 0, r => by
    unfold rowsL
    rw [List.mem_map]
    constructor
    · rintro ⟨p, hp, rfl⟩
      exact ⟨rfl, .one (List.mem_range.mp hp)⟩
    · rintro ⟨hl, h⟩
      match r, hl with
      | [p], _ => exact ⟨p, List.mem_range.mpr (h.lt p List.mem_cons_self), rfl⟩
  | k + 1, r => by
    unfold rowsL
    rw [List.mem_flatMap]
    constructor
    · rintro ⟨s, hs, hr⟩
      obtain ⟨hl, h⟩ := mem_rows.mp hs
      obtain ⟨p, hp, rfl⟩ := List.mem_map.mp hr
      obtain ⟨h1, h2⟩ := List.mem_filter.mp hp
      obtain ⟨h3, h4⟩ := of_decide_eq_true h2
      exact ⟨by rw [List.length_append, hl]; rfl, .snoc h (List.mem_range.mp h1) h3 h4⟩
    · rintro ⟨hl, h⟩
      obtain ⟨s, p, rfl⟩ := snoc_of h.ne
      rw [List.length_append] at hl
      have hl : s.length = k + 1 := Nat.succ.inj hl
      obtain ⟨h1, h2, h3⟩ := h.pre (fun z => by rw [z] at hl; cases hl)
      refine ⟨s, mem_rows.mpr ⟨hl, h1⟩, List.mem_map.mpr ⟨p, List.mem_filter.mpr ⟨List.mem_range.mpr (h.lt p (by simp)), decide_eq_true ⟨h2, h3⟩⟩, rfl⟩⟩
theorem rows_nd : ∀ k, (rowsL ws k).Nodup
  | 0 => by
    unfold rowsL
    exact List.Pairwise.map (R := fun a b => a ≠ b) _ (fun a b h z => h (List.cons.inj z).1) List.nodup_range
  | k + 1 => by
    unfold rowsL
    refine List.pairwise_flatMap.mpr ⟨fun s _ => ?_, List.Pairwise.imp (fun {a b} hne c h1 d h2 e => ?_) (rows_nd k)⟩
    · refine List.Pairwise.map (R := fun a b => a ≠ b) _ (fun a b h z => ?_) (List.Pairwise.filter _ List.nodup_range)
      have := List.append_cancel_left z
      exact h (List.cons.inj this).1
    · obtain ⟨p, _, rfl⟩ := List.mem_map.mp h1
      obtain ⟨p', _, rfl⟩ := List.mem_map.mp h2
      exact hne (List.append_inj' e rfl).1
/-- the rings, as rows grow -/
def ringB (ws : List Wr) (r : List Nat) : Bool := decide (endL ws r = begL ws r ∧ ∀ p ∈ r, r.headD 0 ≤ p)
def foundK (ws : List Wr) (k : Nat) : List (List Nat) := (rowsL ws k).filter (ringB ws)
def foundL (ws : List Wr) (n : Nat) : List (List Nat) := (List.range n).flatMap (foundK ws)
theorem mem_found : r ∈ foundL ws (ws.length + 1) ↔ RingR ws r := by
  unfold foundL foundK ringB
  rw [List.mem_flatMap]
  constructor
  · rintro ⟨k, _, h⟩
    obtain ⟨h1, h2⟩ := List.mem_filter.mp h
    obtain ⟨h3, h4⟩ := of_decide_eq_true h2
    exact ⟨(mem_rows.mp h1).2, h3, h4⟩
  · intro h
    have hl := h.rw.len
    have hp : 0 < r.length := List.length_pos_iff.mpr h.rw.ne
    exact ⟨r.length - 1, List.mem_range.mpr (by omega), List.mem_filter.mpr ⟨mem_rows.mpr ⟨by omega, h.rw⟩, decide_eq_true ⟨h.cl, h.mn⟩⟩⟩
theorem found_nd (n : Nat) : (foundL ws n).Nodup := by
  unfold foundL
  refine List.pairwise_flatMap.mpr ⟨fun k _ => List.Pairwise.filter _ (rows_nd k), List.Pairwise.imp ?_ List.nodup_range⟩
  intro a b hne c h1 d h2 e
  subst e
  have e1 := (mem_rows.mp (List.mem_filter.mp h1).1).1
  have e2 := (mem_rows.mp (List.mem_filter.mp h2).1).1
  omega
end
/-! ### a walk that turns back early -/
structure FrOk (ws : List Wr) (fr : List Nat → Nat → Bool) : Prop where
  beg : ∀ path, fr path (begL ws path) = true
  back : ∀ path q, q < ws.length → path.headD 0 < q → fr path (enA ws q) = true → stA ws q ∉ path.map (stA ws) → stA ws q ≠ endL ws path → fr path (stA ws q) = true
  sound : ∀ path g, fr path g = true → g = begL ws path ∨ g ∉ path.map (stA ws) ∧ g ≠ endL ws path
def nextR (ws : List Wr) (fr : List Nat → Nat → Bool) (path : List Nat) : List Nat := (List.range ws.length).filter fun p => decide (path.headD 0 < p ∧ stA ws p = endL ws path ∧ fr path (enA ws p) = true)
def walkR (ws : List Wr) (fr : List Nat → Nat → Bool) : Nat → List Nat → List (List Nat)
  | 0, _ => []
  | f + 1, path => if endL ws path = begL ws path then [path] else (nextR ws fr path).flatMap fun p => walkR ws fr f (path ++ [p])
section
variable {ws : List Wr} {fr : List Nat → Nat → Bool}
/-- a row under way -/
structure Und (ws : List Wr) (path : List Nat) : Prop where
  rw : Rw ws path
  mn : ∀ p ∈ path, path.headD 0 ≤ p
  en : endL ws path = begL ws path ∨ endL ws path ∉ path.map (stA ws)
theorem Und.next (F : FrOk ws fr) {path : List Nat} {p : Nat} (u : Und ws path) (ne : endL ws path ≠ begL ws path) (h : p ∈ nextR ws fr path) : Und ws (path ++ [p]) := by
  obtain ⟨h1, h2⟩ := List.mem_filter.mp h
  obtain ⟨h3, h4, h5⟩ := of_decide_eq_true h2
  have hn := u.rw.ne
  refine ⟨.snoc u.rw (List.mem_range.mp h1) h4 (u.en.resolve_left ne), fun q hq => ?_, ?_⟩
  · rw [head_app _ hn]
    rcases List.mem_append.mp hq with z | z
    · exact u.mn q z
    · rw [List.mem_singleton.mp z]
      exact Nat.le_of_lt h3
  · rw [endL_snoc, begL_app _ hn]
    rcases F.sound path _ h5 with z | ⟨z1, z2⟩
    · exact .inl z
    · refine .inr fun z => ?_
      rw [List.map_append] at z
      rcases List.mem_append.mp z with z | z
      · exact z1 z
      · have := List.mem_singleton.mp z
        rw [this, h4] at z2
        exact z2 rfl
theorem walk_pre : ∀ {f : Nat} {path r : List Nat}, r ∈ walkR ws fr f path → ∃ s, r = path ++ s
  | 0, _, _, h => nomatch h
  | f + 1, path, r, h => by
    unfold walkR at h
    split at h
    · exact ⟨[], by rw [List.mem_singleton.mp h, List.append_nil]⟩
    · obtain ⟨p, _, hr⟩ := List.mem_flatMap.mp h
      obtain ⟨s, e⟩ := walk_pre hr
      exact ⟨p :: s, by rw [e, List.append_assoc]; rfl⟩
theorem walk_sound (F : FrOk ws fr) : ∀ {f : Nat} {path r : List Nat}, Und ws path → r ∈ walkR ws fr f path → RingR ws r
  | 0, _, _, _, h => nomatch h
  | f + 1, path, r, u, h => by
    unfold walkR at h
    split at h
    · rename_i c
      rw [List.mem_singleton.mp h]
      exact ⟨u.rw, c, u.mn⟩
    · rename_i c
      obtain ⟨p, hp, hr⟩ := List.mem_flatMap.mp h
      exact walk_sound F (u.next F c hp) hr
theorem free_at (F : FrOk ws fr) {path : List Nat} (hn : path ≠ []) : ∀ {t s : List Nat}, s ≠ [] → RingR ws (path ++ (s ++ t)) → fr path (endL ws (path ++ s)) = true
  | [], s, hs, h => by
    rw [List.append_nil] at h
    rw [h.cl, begL_app _ hn]
    exact F.beg path
  | q :: t, s, hs, h => by
    have e : path ++ (s ++ q :: t) = path ++ ((s ++ [q]) ++ t) := by simp
    rw [e] at h
    have ih := free_at F hn (t := t) (s := s ++ [q]) (by simp) h
    have e2 : path ++ (s ++ [q]) = (path ++ s) ++ [q] := (List.append_assoc ..).symm
    rw [e2, endL_snoc] at ih
    have hr : Rw ws ((path ++ s) ++ [q]) := by
      have := h.rw
      rw [← List.append_assoc, e2] at this
      exact this.front (by simp)
    have hps : path ++ s ≠ [] := fun z => hn (List.append_eq_nil_iff.mp z).1
    obtain ⟨r1, r2, r3⟩ := hr.pre hps
    rw [← r2]
    have nd := hr.nd
    rw [List.map_append, List.map_append, List.nodup_append] at nd
    obtain ⟨n1, _, n3⟩ := nd
    refine F.back path q (hr.lt q (by simp)) ?_ ih (fun z => n3 _ (List.mem_append.mpr (.inl z)) _ (List.mem_singleton.mpr rfl) rfl) fun z => ?_
    · have hm := h.mn q (by simp)
      rw [head_app _ hn] at hm
      have nq : path.headD 0 ≠ q := fun z => by
        have nd2 := hr.nodup
        rw [List.append_assoc, List.nodup_append] at nd2
        refine nd2.2.2 (path.headD 0) ?_ q (by simp) z
        cases path with
        | nil => exact absurd rfl hn
        | cons a b => exact List.mem_cons_self
      omega
    · -- the first behind the path begins where the path ends
      cases s with
      | nil => exact hs rfl
      | cons p s' =>
        have hp : Rw ws (path ++ [p]) := by
          have e3 : (path ++ p :: s') ++ [q] = (path ++ [p]) ++ (s' ++ [q]) := by simp
          rw [e3] at hr
          exact hr.front (by simp)
        obtain ⟨_, p2, _⟩ := hp.pre hn
        refine n3 (stA ws p) (List.mem_append.mpr (.inr (List.mem_map.mpr ⟨p, List.mem_cons_self, rfl⟩))) _ (List.mem_singleton.mpr rfl) ?_
        rw [p2, z]
theorem walk_full (F : FrOk ws fr) : ∀ {f : Nat} {path s : List Nat}, path ≠ [] → RingR ws (path ++ s) → s.length < f → path ++ s ∈ walkR ws fr f path
  | 0, _, _, _, _, h => absurd h (Nat.not_lt_zero _)
  | f + 1, path, s, hn, h, hl => by
    unfold walkR
    cases s with
    | nil =>
      rw [List.append_nil] at h
      rw [if_pos h.cl, List.append_nil]
      exact List.mem_singleton.mpr rfl
    | cons p t =>
      have e : path ++ p :: t = (path ++ [p]) ++ t := by simp
      have hr : Rw ws (path ++ [p]) := by
        have := h.rw
        rw [e] at this
        exact this.front (by simp)
      obtain ⟨r1, r2, r3⟩ := hr.pre hn
      have nc : ¬ endL ws path = begL ws path := fun z => r3 (by rw [z]; exact beg_mem hn)
      rw [if_neg nc]
      refine List.mem_flatMap.mpr ⟨p, List.mem_filter.mpr ⟨List.mem_range.mpr (hr.lt p (by simp)), decide_eq_true ⟨?_, r2, ?_⟩⟩, ?_⟩
      · have hm := h.mn p (by simp)
        rw [head_app _ hn] at hm
        have nq : path.headD 0 ≠ p := fun z => by
          have nd2 := hr.nodup
          rw [List.nodup_append] at nd2
          refine nd2.2.2 (path.headD 0) ?_ p (by simp) z
          cases path with
          | nil => exact absurd rfl hn
          | cons a b => exact List.mem_cons_self
        omega
      · have := free_at F hn (s := [p]) (t := t) (by simp) (by rw [← List.append_assoc]; rw [← e]; exact h)
        rwa [endL_snoc] at this
      · rw [e]
        rw [e] at h
        exact walk_full F (by simp) h (by simpa using hl)
def walks (ws : List Wr) (fr : List Nat → Nat → Bool) : List (List Nat) := (List.range ws.length).flatMap fun p => walkR ws fr (ws.length + 1) [p]
theorem mem_walks (F : FrOk ws fr) {r : List Nat} : r ∈ walks ws fr ↔ RingR ws r := by
  unfold walks
  rw [List.mem_flatMap]
  constructor
  · rintro ⟨p, hp, h⟩
    refine walk_sound F ⟨.one (List.mem_range.mp hp), fun q hq => by rw [List.mem_singleton.mp hq]; exact Nat.le_refl _, ?_⟩ h
    by_cases z : endL ws [p] = begL ws [p]
    · exact .inl z
    · exact .inr fun y => z (List.mem_singleton.mp y)
  · intro h
    have hn := h.rw.ne
    have hl := h.rw.len
    have hlt := h.rw.lt
    cases r with
    | nil => exact absurd rfl hn
    | cons p t =>
      refine ⟨p, List.mem_range.mpr (hlt p List.mem_cons_self), ?_⟩
      have := walk_full F (path := [p]) (s := t) (f := ws.length + 1) (by simp) h (by
        have : (p :: t).length = t.length + 1 := rfl
        omega)
      exact this
/-- told in order -/
theorem walk_lt : ∀ {f : Nat} {path : List Nat}, (walkR ws fr f path).Pairwise (· < ·)
  | 0, _ => List.Pairwise.nil
  | f + 1, path => by
    unfold walkR
    split
    · exact List.pairwise_singleton _ _
    · unfold nextR
      refine List.pairwise_flatMap.mpr ⟨fun p _ => walk_lt, List.Pairwise.imp (fun {p q} hpq a ha b hb => ?_) (List.Pairwise.filter _ List.pairwise_lt_range)⟩
      obtain ⟨s, rfl⟩ := walk_pre ha
      obtain ⟨t, rfl⟩ := walk_pre hb
      rw [List.append_assoc, List.append_assoc]
      exact List.append_left_lt (List.Lex.rel hpq)
theorem walks_lt : (walks ws fr).Pairwise (· < ·) := by
  unfold walks
  refine List.pairwise_flatMap.mpr ⟨fun p _ => walk_lt, List.Pairwise.imp (fun {p q} hpq a ha b hb => ?_) List.pairwise_lt_range⟩
  obtain ⟨s, rfl⟩ := walk_pre ha
  obtain ⟨t, rfl⟩ := walk_pre hb
  exact List.Lex.rel hpq
end
end Lag

set_option maxRecDepth 100000
set_option maxHeartbeats 4000000
/-! ### sorted of lists of numbers -/
namespace LsL
open PySem PySem.W PySem.Calls PyProof.Rows PySem.SeqAt Builtin
theorem first_suc {e r : Nat → Bool} {fin : Bool} : ∀ l : List Nat, firstLt e r fin (l.map Nat.succ) = firstLt (fun j => e (j + 1)) (fun j => r (j + 1)) fin l
  | [] => rfl
  | j :: t => by
    rw [List.map_cons]
    unfold firstLt
    rw [first_suc t]
theorem first_lex : ∀ ns ms : List Int, firstLt (fun j => ns.getD j 0 == ms.getD j 0) (fun j => decide (ns.getD j 0 < ms.getD j 0)) (decide (ns.length < ms.length)) (List.range (min ns.length ms.length)) = HT.lexLt ns ms
  | [], [] => rfl
  | [], y :: ys => by
    show firstLt _ _ (decide (0 < ys.length + 1)) (List.range (min 0 (ys.length + 1))) = true
    rw [Nat.zero_min]
    show decide (0 < ys.length + 1) = true
    exact decide_eq_true (by omega)
  | x :: xs, [] => by
    show firstLt _ _ (decide (xs.length + 1 < 0)) (List.range (min (xs.length + 1) 0)) = false
    rw [Nat.min_zero]
    show decide (xs.length + 1 < 0) = false
    exact decide_eq_false (by omega)
  | x :: xs, y :: ys => by
    have ih := first_lex xs ys
    show firstLt _ _ (decide (xs.length + 1 < ys.length + 1)) (List.range (min (xs.length + 1) (ys.length + 1))) = _
    rw [Nat.succ_min_succ, List.range_succ_eq_map, HT.lexLt_cons]
    have ed : decide (xs.length + 1 < ys.length + 1) = decide (xs.length < ys.length) := by
      by_cases z : xs.length < ys.length
      · rw [decide_eq_true z, decide_eq_true (by omega)]
      · rw [decide_eq_false z, decide_eq_false (by omega)]
    rw [ed]
    by_cases z : x = y
    · rw [if_pos z, firstLt_yes (by show (x == y) = true; rw [z]; simp), first_suc]
      exact ih
    · rw [if_neg z, firstLt_no (by show (x == y) = false; simp [z])]
      rfl
def IsLi (h : Heap) (v : Value) (ns : List Int) : Prop := ∃ (a : Addr) (items : Array Value), v = .ref a ∧ h.IsList a items ∧ IntsAre items.toList ns
theorem ints_len : ∀ {vs : List Value} {ns : List Int}, IntsAre vs ns → vs.length = ns.length := fun h => by
  induction h with
  | nil => rfl
  | cons _ _ _ ih => simp [ih]
theorem ints_at : ∀ {vs : List Value} {ns : List Int}, IntsAre vs ns → ∀ (j : Nat) (h : j < vs.length), ∃ t, vs[j] = .int (ns.getD j 0) t := fun h => by
  induction h with
  | nil => exact fun j h => absurd h (Nat.not_lt_zero _)
  | cons _ _ _ ih =>
    intro j hj
    cases j with
    | zero => exact ⟨_, rfl⟩
    | succ j => exact ih j (Nat.lt_of_succ_lt_succ hj)
theorem IsLi.keeps {h h' : Heap} {v : Value} {ns : List Int} (x : IsLi h v ns) (k : ∀ b o, v = .ref b → h.get? b = some o → h'.get? b = some o) : IsLi h' v ns := by
  obtain ⟨a, items, e, ⟨o, ho, hc⟩, i⟩ := x
  exact ⟨a, items, e, ⟨o, k _ _ e ho, hc⟩, i⟩
theorem IsLi.type {M : Model} {h : Heap} {v : Value} {ns : List Int} (x : IsLi h v ns) : Looks M h (typeOf v) (.type "list") := by
  obtain ⟨a, items, rfl, ⟨o, ho, hc, n, hd⟩, i⟩ := x
  have z : Looks M h (typeOf (.ref a)) o.cls := (Looks.ld ho).andThen .now
  rw [hc] at z
  exact z
section
variable {prog : Program} {w : World} {A : Around} {E : Value → Shared → Prop} {s : Shared}
theorem lt_li {v u : Value} {ns ms : List Int} {Q : Bool → Shared → Prop} (hu : A.units < cLine) (hv : IsLi s.heap v ns) (hw : IsLi s.heap u ms) (h : Q (HT.lexLt ns ms) s) : wpAny (model prog w) A (keyLt' oneType' v u) Q E s := by
  obtain ⟨a, items, rfl, la, ia⟩ := hv
  obtain ⟨b, items2, rfl, lb, ib⟩ := hw
  obtain ⟨o, ho, hc, _⟩ := id la
  rw [keyLt'_oneType, oneLt'_eq]
  simp only [if_true]
  refine wpAny_bind (wpAny_cRoomFor hu ?_)
  have l1 := ints_len ia
  have l2 := ints_len ib
  rw [Array.length_toList] at l1 l2
  rw [← first_lex ns ms, ← l1, ← l2] at h
  refine wpAny_bind (wpAny_callSpecialIfBound?_slot (T := "list") ⟨_, ho, hc⟩ F.slot_list_lt (call_list_lt (e := fun j => ns.getD j 0 == ms.getD j 0) (r := fun j => decide (ns.getD j 0 < ms.getD j 0)) la lb (fun j j1 j2 => ?_) (fun j j1 j2 _ => ?_) ?_))
  · obtain ⟨t, e⟩ := ints_at ia j (by simpa using j1)
    obtain ⟨t2, e2⟩ := ints_at ib j (by simpa using j2)
    rw [Array.getElem_toList] at e e2
    rw [e, e2]
    exact EqAt.int_int _ _ _ _
  · obtain ⟨t, e⟩ := ints_at ia j (by simpa using j1)
    obtain ⟨t2, e2⟩ := ints_at ib j (by simpa using j2)
    rw [Array.getElem_toList] at e e2
    rw [e, e2]
    exact fun prog w E Q h => wpAny_lt_int h
  · exact wpAny_truthy_bool h
theorem li_sortable {a : Addr} {vs : List Value} {k : Value → List Int} (h2 : 2 ≤ vs.length) (hu : A.units < cLine) (hv : ∀ v ∈ vs, IsLi s.heap v (k v)) (ha : ∀ v ∈ vs, v ≠ .ref a) :
    SrtO.SortableO prog w A s a vs fun v u => HT.lexLt (k v) (k u) := by
  intro h' keep
  have hv' : ∀ v ∈ vs, IsLi h' v (k v) := fun v hm => (hv v hm).keeps fun b o e g => keep b o (fun z => ha v hm (by rw [e, z])) g
  refine ⟨oneType', fun Q E hq => ?_, ?_⟩
  · exact kas_kind (s := { s with heap := h' }) (T := .type "list") h2 (fun v hm => (hv' v hm).type) (by first | decide +kernel | rfl) (by first | decide +kernel | rfl) hq
  · intro p q hp hq
    exact lt_li (s := { s with heap := h' }) (Q := fun r s' => s' = _ ∧ r = HT.lexLt (k p.1) (k q.1)) (E := fun _ _ => False) hu (hv' p.1 hp) (hv' q.1 hq) ⟨rfl, rfl⟩
theorem sorted_li {l : Addr} {vs : List Value} {k : Value → List Int} {Q : Value → Shared → Prop} (hu : A.units + 2 < cLine) (hl : s.heap.IsList l vs.toArray) (hz : vs.length ≤ sizeLine) (hv : ∀ v ∈ vs, IsLi s.heap v (k v))
    (h : ∀ (h' : Heap) (d : Addr) (out : List Value), SrtO.Srtd (fun v u => HT.lexLt (k v) (k u)) out → SrtO.Stb (fun v u => HT.lexLt (k v) (k u)) out vs → (∀ b o, s.heap.get? b = some o → h'.get? b = some o) → s.heap.objs.size ≤ d → (∃ n, h'.get? d = some (seqObj "list" out.toArray n)) → Q (.ref d) { s with heap := h' }) :
    wpAny (model prog w) A (call (.builtin "sorted") [.ref l]) Q E s := by
  refine SrtO.sorted_ord (NtL.swo_lexL k) hl hz (fun h2 h₁ a ha kk => ?_) fun out hs hb => ?_
  · refine li_sortable (s := { s with heap := h₁ }) h2 (by show A.units + 2 < cLine; omega) (fun v hm => (hv v hm).keeps fun b o e g => (kk b o g).2) fun v hm z => ?_
    obtain ⟨b, items, e, ⟨o, ho, _⟩, _⟩ := hv v hm
    rw [e] at z
    exact (kk b o ho).1 (Value.ref.inj z)
  · exact h _ _ out hs hb (fun b o e => sortedAll_old e) (Nat.le_succ _) (sortedAll_at s.heap vs out.toArray)
end
end LsL
namespace L2
open PySem PySem.Spec PyProof.Rows
def ltL (k : V → List Int) (x y : V) : Bool := HT.lexLt (k x) (k y)
theorem ltL_swo (k : V → List Int) : SrtO.Swo (ltL k) := NtL.swo_lexL k
/-- sorted(xs), xs a list of lists of ints -/
def rSortedLL (K : PySem.W.Frag) : List V → Hp → VK → Prop := fun vs H Q => ∃ (a : Addr) (xs : List V) (k : V → List Int), vs = [V.ref a] ∧ SqL K H a xs ∧ (∀ x ∈ xs, ∃ t, x = V.ref t ∧ H t = some (.lst ((k x).map V.int))) ∧
  ∀ ys p, SrtO.Srtd (ltL k) ys → SrtO.Stb (ltL k) ys xs → H p = none → Q (.ref p) (upd H p (.lst ys))
section
variable {X : Cx}
theorem cr_sortedLL (hu : X.A.units + 64 < cLine) : CallR X (.builtin "sorted") (rSortedLL X.K) := by
  intro pins s σ H vs us Q I r h
  obtain ⟨a, xs, k, rfl, hs, hx, q⟩ := h
  obtain ⟨its, rv, hl, hz⟩ := I.list hs
  obtain ⟨u, rfl, ru⟩ := vals1 r
  obtain rfl : u = Value.ref a := ru
  obtain ⟨e1, e2⟩ := refs_back rv fun x m => by
    obtain ⟨t, e, _⟩ := hx x m
    exact ⟨t, e⟩
  refine LsL.sorted_li (k := fun u => k (backV u)) (by show X.A.units + _ < cLine; omega) hl.isList (by rw [← rv.length]; exact hz) (fun v hv => ?_) fun h' d out h1 h2 kp hd hn => ?_
  · obtain ⟨t, rfl⟩ := e2 v hv
    have hm : V.ref t ∈ xs := by rw [e1]; exact List.mem_map.mpr ⟨_, hv, rfl⟩
    obtain ⟨t', e, ht⟩ := hx _ hm
    cases e
    obtain ⟨_, its2, n, r2, hob⟩ := I.hok _ _ ht
    exact ⟨t, its2.toArray, rfl, ⟨_, hob, rfl, n, rfl⟩, intsAre_of r2⟩
  · have h3 : ∀ u ∈ out, ∃ a, u = Value.ref a := fun u hu => e2 u (h2.perm.mem_iff.mp hu)
    obtain ⟨n, hn⟩ := hn
    have hb : SrtO.Stb (ltL k) (out.map backV) xs := by
      rw [e1]
      exact SrtO.Stb.map (ltL_swo k) backV h2
    refine ⟨.ref d, upd H d (.lst (out.map backV)), I.laid (t' := s.toks) kp hd ⟨?_, out, n, vals_back h3, hn⟩, rfl, q _ d (SrtO.srtd_map h1) hb (I.hok.fresh hd)⟩
    rw [hb.len]
    exact hz
end
end L2

set_option maxRecDepth 100000
namespace Lag
open PySem PySem.Spec PyProof.Rows L2
def intsN (r : List Nat) : List Int := r.map fun (p : Nat) => ((p : Nat) : Int)
theorem lex_nats : ∀ a b : List Nat, HT.lexLt (intsN a) (intsN b) = decide (a < b)
  | [], [] => rfl
  | [], y :: ys => by
    rw [decide_eq_true (List.nil_lt_cons y ys)]
    rfl
  | x :: xs, [] => by
    rw [decide_eq_false (List.not_lt_nil _)]
    rfl
  | x :: xs, y :: ys => by
    show HT.lexLt (((x : Nat) : Int) :: intsN xs) (((y : Nat) : Int) :: intsN ys) = _
    rw [HT.lexLt_cons, lex_nats xs ys]
    by_cases z : x = y
    · subst z
      rw [if_pos rfl]
      by_cases c : xs < ys
      · rw [decide_eq_true c, decide_eq_true (List.cons_lt_cons_iff.mpr (.inr ⟨rfl, c⟩))]
      · rw [decide_eq_false c, decide_eq_false fun h => c ((List.cons_lt_cons_iff.mp h).elim (fun h => absurd h (Nat.lt_irrefl _)) fun h => h.2)]
    · rw [if_neg (by omega)]
      by_cases c : x < y
      · rw [decide_eq_true (by omega : ((x : Nat) : Int) < y), decide_eq_true (List.cons_lt_cons_iff.mpr (.inl c))]
      · rw [decide_eq_false (by omega : ¬ ((x : Nat) : Int) < y), decide_eq_false fun h => (List.cons_lt_cons_iff.mp h).elim c fun h => z h.1]
theorem lt_uniq : ∀ {l m : List (List Nat)}, l.Pairwise (· < ·) → m.Pairwise (· < ·) → (∀ a, a ∈ l ↔ a ∈ m) → l = m
  | [], [], _, _, _ => rfl
  | [], b :: m, _, _, h => absurd ((h b).mpr List.mem_cons_self) List.not_mem_nil
  | a :: l, [], _, _, h => absurd ((h a).mp List.mem_cons_self) List.not_mem_nil
  | a :: l, b :: m, h1, h2, h => by
    obtain ⟨a1, a2⟩ := List.pairwise_cons.mp h1
    obtain ⟨b1, b2⟩ := List.pairwise_cons.mp h2
    have e : a = b := by
      rcases List.mem_cons.mp ((h a).mp List.mem_cons_self) with z | z
      · exact z
      · rcases List.mem_cons.mp ((h b).mpr List.mem_cons_self) with y | y
        · exact y.symm
        · exact absurd (List.lt_trans (a1 b y) (b1 a z)) (List.lt_irrefl _)
    subst e
    rw [lt_uniq a2 b2 fun c => ⟨fun z => ?_, fun z => ?_⟩]
    · rcases List.mem_cons.mp ((h c).mp (List.mem_cons_of_mem _ z)) with y | y
      · exact absurd (a1 c z) (by rw [y]; exact List.lt_irrefl _)
      · exact y
    · rcases List.mem_cons.mp ((h c).mpr (List.mem_cons_of_mem _ z)) with y | y
      · exact absurd (b1 c z) (by rw [y]; exact List.lt_irrefl _)
      · exact y
/-- what the law sorts is what the walk tells -/
theorem rings_sorted {ws : List Wr} {fr : List Nat → Nat → Bool} (F : FrOk ws fr) {ls : List (List Nat)} (hp : ls.Perm (foundL ws (ws.length + 1))) (hs : ls.Pairwise fun a b => ¬ b < a) : ls = walks ws fr := by
  have nd : ls.Nodup := hp.nodup_iff.mpr (found_nd _)
  refine lt_uniq ?_ walks_lt fun a => (hp.mem_iff.trans mem_found).trans (mem_walks F).symm
  refine List.Pairwise.imp (fun {a b} h => ?_) (hs.and nd)
  rcases List.le_iff_lt_or_eq.mp (List.not_lt.mp h.1) with z | z
  · exact z
  · exact absurd z h.2
end Lag
namespace Lag
open PySem PySem.Spec PyProof.Rows L2
/-- the gates from which one comes back to the path's beginning, behind its first place, past the path -/
inductive Back (ws : List Wr) (path : List Nat) : Nat → Prop where
  | beg : Back ws path (begL ws path)
  | back {q : Nat} : q < ws.length → path.headD 0 < q → Back ws path (enA ws q) → stA ws q ∉ path.map (stA ws) → stA ws q ≠ endL ws path → Back ws path (stA ws q)
noncomputable def frB (ws : List Wr) (path : List Nat) (g : Nat) : Bool := @decide (Back ws path g) (Classical.propDecidable _)
theorem frB_iff {ws : List Wr} {path : List Nat} {g : Nat} : frB ws path g = true ↔ Back ws path g := by
  unfold frB
  exact @decide_eq_true_iff _ (Classical.propDecidable _)
theorem frB_ok (ws : List Wr) : FrOk ws (frB ws) := ⟨fun path => frB_iff.mpr .beg, fun path q h1 h2 h3 h4 h5 => frB_iff.mpr (.back h1 h2 (frB_iff.mp h3) h4 h5), fun path g h => by
  cases frB_iff.mp h with
  | beg => exact .inl rfl
  | back _ _ _ h4 h5 => exact .inr ⟨h4, h5⟩⟩
end Lag

set_option maxRecDepth 100000
namespace Lag
open PySem PySem.Spec PyProof.Rows L2
/-! ### how many rows there may be: few wires end at one gate -/
inductive ChB (ws : List Wr) : List Nat → Prop where
  | one {p : Nat} : p < ws.length → ChB ws [p]
  | cons {p : Nat} {r : List Nat} : p < ws.length → enA ws p = begL ws r → r ≠ [] → ChB ws r → ChB ws (p :: r)
section
variable {ws : List Wr}
theorem endL_cons (p : Nat) {r : List Nat} (h : r ≠ []) : endL ws (p :: r) = endL ws r := by
  cases r with
  | nil => exact absurd rfl h
  | cons a b => rfl
theorem ChB.snoc {r : List Nat} (h : ChB ws r) {q : Nat} (hq : q < ws.length) (e : stA ws q = endL ws r) : ChB ws (r ++ [q]) := by
  induction h with
  | one hp => exact .cons hp e.symm (List.cons_ne_nil _ _) (.one hq)
  | @cons p r hp e2 hn _ ih =>
    rw [endL_cons p hn] at e
    exact .cons hp (e2.trans (begL_app [_] hn).symm) (fun z => hn (List.append_eq_nil_iff.mp z).1) (ih e)
theorem Rw.ch {r : List Nat} (h : Rw ws r) : ChB ws r := by
  induction h with
  | one hp => exact .one hp
  | snoc _ hp e _ ih => exact ih.snoc hp e
def rowsB (ws : List Wr) : Nat → List (List Nat)
  | 0 => (List.range ws.length).map fun p => [p]
  | k + 1 => (rowsB ws k).flatMap fun r => ((List.range ws.length).filter fun p => decide (enA ws p = begL ws r)).map fun p => p :: r
theorem ChB.mem {r : List Nat} (h : ChB ws r) : ∃ k, r.length = k + 1 ∧ r ∈ rowsB ws k := by
  induction h with
  | one hp => exact ⟨0, rfl, List.mem_map.mpr ⟨_, List.mem_range.mpr hp, rfl⟩⟩
  | cons hp e hn _ ih =>
    obtain ⟨k, hk, hm⟩ := ih
    exact ⟨k + 1, by rw [List.length_cons, hk], List.mem_flatMap.mpr ⟨_, hm, List.mem_map.mpr ⟨_, List.mem_filter.mpr ⟨List.mem_range.mpr hp, decide_eq_true e⟩, rfl⟩⟩⟩
theorem flat_le {α β : Type} {f : α → List β} {d : Nat} : ∀ {l : List α}, (∀ a ∈ l, (f a).length ≤ d) → (l.flatMap f).length ≤ l.length * d
  | [], _ => Nat.zero_le _
  | a :: l, h => by
    rw [List.flatMap_cons, List.length_append, List.length_cons, Nat.succ_mul]
    have h1 := h a List.mem_cons_self
    have h2 := flat_le (f := f) (l := l) fun b hb => h b (List.mem_cons_of_mem _ hb)
    omega
def inTo (ws : List Wr) (g : Nat) : List Nat := (List.range ws.length).filter fun p => decide (enA ws p = g)
theorem rowsB_le {d : Nat} (hd : ∀ g, (inTo ws g).length ≤ d) : ∀ k, (rowsB ws k).length ≤ ws.length * d ^ k
  | 0 => by
    unfold rowsB
    rw [List.length_map, List.length_range, Nat.pow_zero, Nat.mul_one]
    exact Nat.le_refl _
  | k + 1 => by
    unfold rowsB
    refine Nat.le_trans (flat_le (d := d) fun r _ => ?_) ?_
    · rw [List.length_map]
      exact hd _
    · rw [Nat.pow_succ, ← Nat.mul_assoc]
      exact Nat.mul_le_mul_right _ (rowsB_le hd k)
theorem rows_le {d : Nat} (hd : ∀ g, (inTo ws g).length ≤ d) (k : Nat) : (rowsL ws k).length ≤ ws.length * d ^ k :=
  Nat.le_trans (List.Nodup.length_le_of_subset (rows_nd k) fun r hr => by
    obtain ⟨hl, h⟩ := mem_rows.mp hr
    obtain ⟨k', hk, hm⟩ := h.ch.mem
    have : k' = k := by omega
    rw [this] at hm
    exact hm) (rowsB_le hd k)
/-- rows have no more wires than there are gates to start from -/
theorem rows_nil {n k : Nat} (hs : ∀ p, p < ws.length → stA ws p < n) (h : n ≤ k) : rowsL ws k = [] := by
  refine List.eq_nil_iff_forall_not_mem.mpr fun r hr => ?_
  obtain ⟨hl, h1⟩ := mem_rows.mp hr
  have := List.Nodup.length_le_of_subset h1.nd (l₂ := List.range n) fun g hg => by
    obtain ⟨p, hp, rfl⟩ := List.mem_map.mp hg
    exact List.mem_range.mpr (hs p (h1.lt p hp))
  rw [List.length_map, List.length_range] at this
  omega
end
end Lag

set_option maxRecDepth 100000
namespace Lag
open PySem PySem.Spec PyProof.Rows L2
section
variable {ws : List Wr} {fr : List Nat → Nat → Bool}
theorem walk_iff (F : FrOk ws fr) {M f : Nat} {path r : List Nat} (hM : ∀ r, Rw ws r → r.length ≤ M) (u : Und ws path) (h : M + 1 ≤ f + path.length) : r ∈ walkR ws fr f path ↔ RingR ws r ∧ ∃ s, r = path ++ s := by
  constructor
  · exact fun z => ⟨walk_sound F u z, walk_pre z⟩
  · rintro ⟨h1, s, rfl⟩
    have := hM _ h1.rw
    rw [List.length_append] at this
    exact walk_full F u.rw.ne h1 (by omega)
/-- enough fuel is enough -/
theorem walk_fuel (F : FrOk ws fr) {M f f' : Nat} {path : List Nat} (hM : ∀ r, Rw ws r → r.length ≤ M) (u : Und ws path) (h : M + 1 ≤ f + path.length) (h' : M + 1 ≤ f' + path.length) : walkR ws fr f path = walkR ws fr f' path :=
  lt_uniq walk_lt walk_lt fun _ => (walk_iff F hM u h).trans (walk_iff F hM u h').symm
/-- the rings from the places below m that may come next -/
def nexts (ws : List Wr) (fr : List Nat → Nat → Bool) (f : Nat) (path : List Nat) (m : Nat) : List (List Nat) :=
  ((List.range m).filter fun p => decide (path.headD 0 < p ∧ stA ws p = endL ws path ∧ fr path (enA ws p) = true)).flatMap fun p => walkR ws fr f (path ++ [p])
theorem nexts_yes {f m : Nat} {path : List Nat} (h : path.headD 0 < m ∧ stA ws m = endL ws path ∧ fr path (enA ws m) = true) : nexts ws fr f path (m + 1) = nexts ws fr f path m ++ walkR ws fr f (path ++ [m]) := by
  unfold nexts
  rw [List.range_succ, List.filter_append, List.flatMap_append, List.filter_cons, if_pos (decide_eq_true h), List.filter_nil, List.flatMap_cons, List.flatMap_nil, List.append_nil]
theorem nexts_no {f m : Nat} {path : List Nat} (h : ¬ (path.headD 0 < m ∧ stA ws m = endL ws path ∧ fr path (enA ws m) = true)) : nexts ws fr f path (m + 1) = nexts ws fr f path m := by
  unfold nexts
  rw [List.range_succ, List.filter_append, List.flatMap_append, List.filter_cons, if_neg (by rw [decide_eq_false h]; exact Bool.false_ne_true), List.filter_nil, List.flatMap_nil, List.append_nil]
theorem nexts_low {f : Nat} {path : List Nat} : ∀ {m : Nat}, m ≤ path.headD 0 + 1 → nexts ws fr f path m = []
  | 0, _ => rfl
  | m + 1, h => by
    rw [nexts_no (fun z => by have := z.1; omega)]
    exact nexts_low (by omega)
theorem nexts_len {f m : Nat} {path : List Nat} : ∀ d, (nexts ws fr f path m).length ≤ (nexts ws fr f path (m + d)).length
  | 0 => Nat.le_refl _
  | d + 1 => by
    refine Nat.le_trans (nexts_len d) ?_
    rw [← Nat.add_assoc]
    by_cases z : path.headD 0 < m + d ∧ stA ws (m + d) = endL ws path ∧ fr path (enA ws (m + d)) = true
    · rw [nexts_yes z, List.length_append]
      omega
    · rw [nexts_no z]
      exact Nat.le_refl _
theorem walk_nexts {f : Nat} {path : List Nat} (h : endL ws path ≠ begL ws path) : walkR ws fr (f + 1) path = nexts ws fr f path ws.length := by
  show (if endL ws path = begL ws path then [path] else _) = _
  rw [if_neg h]
  rfl
theorem walk_stop {f : Nat} {path : List Nat} (h : endL ws path = begL ws path) : walkR ws fr (f + 1) path = [path] := by
  show (if endL ws path = begL ws path then [path] else _) = _
  rw [if_pos h]
/-- as many rings as the law finds -/
theorem walks_len (F : FrOk ws fr) : (walks ws fr).length = (foundL ws (ws.length + 1)).length := by
  have nd : (walks ws fr).Nodup := by
    refine List.Pairwise.imp (fun {a b} (h : a < b) => ?_) (walks_lt (ws := ws) (fr := fr))
    intro e
    subst e
    exact List.lt_irrefl _ h
  exact Nat.le_antisymm (List.Nodup.length_le_of_subset nd fun r hr => mem_found.mpr ((mem_walks F).mp hr)) (List.Nodup.length_le_of_subset (found_nd _) fun r hr => (mem_walks F).mpr (mem_found.mp hr))
end
end Lag

set_option maxRecDepth 100000
set_option maxHeartbeats 8000000
namespace Lag
open PySem PySem.Spec PyProof.Rows L2
abbrev sBack : Stmt := topS 4 -- @gates_back
abbrev natV (r : List Nat) : List V := r.map fun i => V.int (i : Nat)
def wst (ws : List Wr) (k : Nat) : Nat := (ws.getD k (0, 0, [])).1
def wen (ws : List Wr) (k : Nat) : Nat := (ws.getD k (0, 0, [])).2.1
theorem wst_at {ws : List Wr} {k : Nat} {x : Wr} (h : ws[k]? = some x) : wst ws k = x.1 := by
  unfold wst
  rw [List.getD_eq_getElem?_getD, h]
  rfl
theorem wen_at {ws : List Wr} {k : Nat} {x : Wr} (h : ws[k]? = some x) : wen ws k = x.2.1 := by
  unfold wen
  rw [List.getD_eq_getElem?_getD, h]
  rfl
theorem nat_in {k : Nat} {r : List Nat} : inV (.int (k : Nat)) (natV r) = decide (k ∈ r) := by
  rw [Bool.eq_iff_iff, decide_eq_true_iff]
  unfold inV
  rw [List.any_eq_true]
  constructor
  · rintro ⟨v, hv, he⟩
    obtain ⟨i, hi, rfl⟩ := List.mem_map.mp hv
    have he' : ((i : Nat) : Int) = ((k : Nat) : Int) := eq_of_beq (α := Int) he
    have e : i = k := by omega
    rw [← e]
    exact hi
  · intro h
    exact ⟨_, List.mem_map.mpr ⟨k, h, rfl⟩, (beq_self_eq_true ((k : Nat) : Int) : _)⟩
theorem nat_flat (r : List Nat) : (natV r).all flatV = true := by
  rw [List.all_eq_true]
  intro v hv
  obtain ⟨i, _, rfl⟩ := List.mem_map.mp hv
  rfl
theorem nat_len (r : List Nat) : (natV r).length = r.length := List.length_map ..
theorem nat_get {r : List Nat} {i k : Nat} (h : r[i]? = some k) : (natV r)[i]? = some (.int (k : Nat)) := by
  rw [List.getElem?_map, h]
  rfl
theorem nodup_le {n : Nat} {l : List Nat} (hnd : l.Nodup) (hlt : ∀ e ∈ l, e < n) : l.length ≤ n := by
  have h2 := List.Nodup.length_le_of_subset hnd (l₂ := List.range n) (fun a ha => List.mem_range.mpr (hlt a ha))
  rw [List.length_range] at h2
  exact h2
/-- found's i-th gate is done, up to this place -/
def ClB (ws : List Wr) (pa fs : List Nat) (k0 i lim : Nat) : Prop := ∀ q, k0 < q → q < lim → q < ws.length → fs[i]? = some (wen ws q) → wst ws q ∉ pa → wst ws q ∈ fs
theorem ClB.app {ws : List Wr} {pa fs : List Nat} {k0 i lim : Nat} (h : ClB ws pa fs k0 i lim) (hi : i < fs.length) (x : Nat) : ClB ws pa (fs ++ [x]) k0 i lim := fun q h1 h2 h3 h4 h5 => by
  rw [List.getElem?_append_left hi] at h4
  exact List.mem_append.mpr (.inl (h q h1 h2 h3 h4 h5))
theorem ClB.next {ws : List Wr} {pa fs : List Nat} {k0 i lim : Nat} (h : ClB ws pa fs k0 i lim) (n : fs[i]? = some (wen ws lim) → wst ws lim ∉ pa → wst ws lim ∈ fs) : ClB ws pa fs k0 i (lim + 1) := fun q h1 h2 h3 h4 h5 => by
  by_cases z : q = lim
  · rw [z] at h4 h5 ⊢
    exact n h4 h5
  · exact h q h1 (by omega) h3 h4 h5
def spBack (K : PySem.W.Frag) (C : Addr) : Sp := fun vs H Q _ => ∃ (p ng nw lp : Addr) (gs : List Gt) (ws : List Wr) (k0 : Nat) (r : List Nat), vs = [.ref p, .ref lp] ∧ NetAt K C H p ng nw gs ws ∧ NetOk gs ws ∧ H lp = some (.lst (natV (k0 :: r))) ∧ (∀ k ∈ k0 :: r, k < ws.length) ∧ r.length ≤ 100 ∧
  ∀ lf fs H', Same H H' → H lf = none → H' lf = some (.lst (natV fs)) → (∀ g, g ∈ fs ↔ Back ws (k0 :: r) g) → Q (.ref lf) H'
section
variable {P : Program} {w : World} {K : PySem.W.Frag} {mg : Str → Option Value} {base : Heap}
abbrev nBack : List Str := ["net", "path", "place", "passed", "found", "done", "start", "end", "held"]
theorem scBack : FnScope nBack ["net", "path"] (defScope sBack) := ⟨rfl, rfl, rfl, by decide +kernel, rfl, by decide +kernel, by decide +kernel⟩
abbrev DBack (P : Program) (w : World) (K : PySem.W.Frag) (mg : Str → Option Value) (base : Heap) (C : Addr) := Df P w K mg base 1 "gates_back" ["net", "path"] (spBack K C)
theorem ok_back {f C : Addr} {fd : FuncData} (F : Fun K "gates_back" "gates_back" sBack f fd) (hm : mg "gates_back" = some (.ref f)) (B : Bt mg) (T : NT K mg C) : DBack P w K mg base C f fd := by
  refine ⟨?_, hm, F.kp, F.binds fun _ _ _ _ _ _ us hl => match us, hl with | [_, _], _ => rfl⟩
  refine F.ok scBack (fun vs H Q E h => ?_) (fun cdv A outer s H vs Q E hr h => ?_)
  · obtain ⟨p, ng, nw, lp, gs, ws, k0, r, rfl, _⟩ := h
    rfl
  · obtain ⟨p, ng, nw, lp, gs, ws, k0, r, rfl, NA, N, hlp, hlt, hrl, q⟩ := h
    have nd := scBack.nd
    refine ⟨_, pss_cons (ps_setLc (i := 3) (own := [("place", 2)]) (g := gName 2) (tt := tYes) (te := tOp (rIxT K) (tOp (rIxL K) (tFld K (tVar 0) "wires") (tVar 2)) (tC (.int 0))) rfl nd rfl rfl (sw_true rfl rfl rfl (by decide +kernel)) (pi_list (pv 1)) (blkOk_by (N := nBack) (sc := defScope sBack) (own := [("place", 2)]) (by decide +kernel)) (fun _ _ _ _ _ => pg_name (i := 2) nd rfl (.inl rfl)) (fun _ _ _ _ _ => pts_nil)
          (fun _ _ _ _ _ => pe_ix ix_tup (pe_ix ix_list (pe_fld (pv 0) rfl) (pv 2) (fun _ _ => rfl)) pe_int (fun _ _ => rfl))) <|
      pss_cons (ps_expr (pe_bm PySem.F.plainAttrs_list PySem.F.slot_list_append PySem.F.type_list_append mt_append (pv 3) (pa_cons (pe_ix ix_tup (pe_ix ix_list (pe_fld (pv 0) rfl) (pe_ix ix_list (pv 1) (pe_un un_neg pe_int) (fun _ _ => rfl)) (fun _ _ => rfl)) pe_int (fun _ _ => rfl)) pa_nil))) <|
      pss_cons (ps_set (i := 4) nd rfl (.inl rfl) (pe_lst (pa_cons (pe_ix ix_list (pv 3) pe_int (fun _ _ => rfl)) pa_nil))) <|
      pss_cons (ps_set (i := 5) nd rfl (.inl rfl) pe_int) <|
      pss_cons (ps_while PassesOwn.never (pt_cmpR op_lt (pv 5) (pe_callB call_len_seq (by rfl) B.len PySem.boot_len (pa_cons (pv 4) pa_nil)) (nomark _)) <|
        pss_cons (ps_for PassesOwn.never rfl (pi_list (pe_slice sl_list (pe_fld (pv 0) rfl) (po_some (pe_op op_add (pe_ix ix_list (pv 1) pe_int (fun _ _ => rfl)) pe_int)) po_none)) (pg_tup rfl (pgs_cons (pg_name (i := 6) nd rfl (.inl rfl)) (pgs_cons (pg_name (i := 7) nd rfl (.inl rfl)) (pgs_cons (pg_name (i := 8) nd rfl (.inl rfl)) pgs_nil)))) <|
          pss_one <| ps_if (PW.pt (pw_and (pt_cmpR op_eq (pv 7) (pe_ix ix_list (pv 4) (pv 5) (fun _ _ => rfl)) (nomark _)) (pw_and (pt_cmpR op_notIn_seq (pv 6) (pv 3) (by rfl)) (pw_and1 (pt_cmpR op_notIn_seq (pv 6) (pv 4) (by rfl))))))
            (pss_one (ps_expr (pe_bm PySem.F.plainAttrs_list PySem.F.slot_list_append PySem.F.type_list_append mt_append (pv 4) (pa_cons (pv 6) pa_nil)))) pss_nil) <|
        pss_one <| ps_aug (i := 5) nd rfl (Or.inl rfl) pe_int ip_add) <|
      pss_one <| ps_ret (pv 4), ?_⟩
    have hgl := N.gl
    have hwl := N.wl
    obtain ⟨dx, ob⟩ := id NA.ob
    obtain ⟨wv, hwv, wa⟩ := id NA.w
    have hlw : wv.length = ws.length := wa.1
    have rl1 : ((k0 :: r).map (wst ws)).length = r.length + 1 := by simp
    -- passed
    refine ⟨_, rfl, lp, rfl, ⟨_, SqL.of hlp⟩, fun D hD => ?_⟩
    refine lc_list (K := K) (a := lp) (xs := natV (k0 :: r)) (fun i Hc => Hc D = some (.lst (natV (((k0 :: r).map (wst ws)).take i))) ∧ Same H Hc) ⟨upd_same, same_new hD⟩ (fun i Hc _ ⟨_, sm⟩ => SqL.of (sm _ _ hlp)) ?_ ?_
    · rintro i v Hc hv ⟨hc, sm⟩
      obtain ⟨k, hk, rfl⟩ : ∃ k, (k0 :: r)[i]? = some k ∧ v = .int (k : Nat) := by
        rw [List.getElem?_map] at hv
        cases e : (k0 :: r)[i]? with
        | none => rw [e] at hv; cases hv
        | some k => rw [e] at hv; cases hv; exact ⟨k, rfl, rfl⟩
      have hkl := hlt k (List.mem_of_getElem? hk)
      obtain ⟨x, hx⟩ : ∃ x, ws[k]? = some x := ⟨_, List.getElem?_eq_getElem hkl⟩
      obtain ⟨v, hv', a, b, rfl, s1, s2⟩ := wa.getR hx
      refine ⟨rfl, tyes ?_⟩
      refine ⟨_, rfl, p, C, dx, _, _, rfl, sm _ _ ob, T.cl, T.nW, nf_wires _ _, _, rfl, nw, wv, _, _, rfl, rfl, SqL.of (sm _ _ hwv), atI_nat hv', a, _, _, .int x.1, rfl, rfl, (TK.same sm).seq s1, atI_nat (j := 0) rfl, _, hc, ?_, ?_, same_mut sm hD⟩
      · rw [nat_len, List.length_take, rl1]
        exact small1000 (by omega)
      · rw [upd_same, List.take_add_one, List.getElem?_map, hk]
        show _ = some (HO.lst (natV (_ ++ [wst ws k])))
        rw [wst_at hx]
        show _ = some (HO.lst (List.map _ (_ ++ _)))
        rw [List.map_append]
        rfl
    rintro H1 ⟨hD1, sm1⟩
    rw [nat_len, List.length_cons, ← rl1, List.take_length] at hD1
    -- passed.append
    obtain ⟨r0, kl, hrk⟩ : ∃ r0 kl, k0 :: r = r0 ++ [kl] := ⟨_, _, (List.dropLast_concat_getLast (List.cons_ne_nil _ _)).symm⟩
    have hkl := hlt kl (by rw [hrk]; simp)
    obtain ⟨x, hx⟩ : ∃ x, ws[kl]? = some x := ⟨_, List.getElem?_eq_getElem hkl⟩
    obtain ⟨v, hv', a, b, rfl, s1, s2⟩ := wa.getR hx
    have ee : endL ws (k0 :: r) = x.2.1 := by
      rw [hrk]
      exact (endL_snoc ws r0 kl).trans (wen_at hx)
    refine ⟨_, rfl, .inl ⟨rfl, _, SqL.of hD1⟩, _, rfl, p, C, dx, _, _, rfl, sm1 _ _ ob, T.cl, T.nW, nf_wires _ _, _, rfl, _, rfl, lp, _, _, .int (kl : Nat), rfl, rfl, SqL.of (sm1 _ _ hlp), ?_, nw, wv, _, _, rfl, rfl, SqL.of (sm1 _ _ hwv), atI_nat hv', a, _, _, .int x.2.1, rfl, rfl, (TK.same sm1).seq s1, atI_nat (j := 1) rfl, D, _, _, rfl, rfl, hD1, ?_, ?_⟩
    · rw [hrk]
      show atI (List.map _ (_ ++ _)) _ = _
      rw [List.map_append]
      exact atI_last _ _
    · rw [nat_len, rl1]
      exact small1000 (by omega)
    have hD2 : (upd H1 D (.lst (natV ((k0 :: r).map (wst ws)) ++ [.int x.2.1]))) D = some (.lst (natV ((k0 :: r).map (wst ws) ++ [endL ws (k0 :: r)]))) := by
      rw [upd_same, ee]
      show _ = some (HO.lst (List.map _ (_ ++ _)))
      rw [List.map_append]
      rfl
    have sm2 : Same H (upd H1 D (.lst (natV ((k0 :: r).map (wst ws)) ++ [.int x.2.1]))) := same_mut sm1 hD
    generalize upd H1 D (.lst (natV ((k0 :: r).map (wst ws)) ++ [.int x.2.1])) = H2 at hD2 sm2
    -- found
    generalize hpa : (k0 :: r).map (wst ws) ++ [endL ws (k0 :: r)] = pa at hD2 q
    have hpa0 : pa[0]? = some (wst ws k0) := by rw [← hpa]; rfl
    refine ⟨_, rfl, D, _, _, .int (wst ws k0 : Nat), rfl, rfl, SqL.of hD2, atI_nat (j := 0) (nat_get hpa0), (by show 1 ≤ sizeLine; decide), fun lf hlf => ?_⟩
    have nfD : D ≠ lf := ne_of_none hD2 hlf
    have sm3 := sm2.trans (same_new (o := .lst [.int (wst ws k0 : Nat)]) hlf)
    have hf3 : (upd H2 lf (.lst [.int (wst ws k0 : Nat)])) lf = some (.lst (natV [wst ws k0])) := upd_same
    have hD3 : (upd H2 lf (.lst [.int (wst ws k0 : Nat)])) D = some (.lst (natV pa)) := by rw [upd_ne nfD]; exact hD2
    have hlf0 : H lf = none := sm2.free hlf
    generalize upd H2 lf (.lst [.int (wst ws k0 : Nat)]) = H3 at sm3 hf3 hD3
    -- the while
    have hk0 := hlt k0 (List.mem_cons_self ..)
    have hw0 : wst ws k0 < gs.length := by
      obtain ⟨y, hy⟩ : ∃ y, ws[k0]? = some y := ⟨_, List.getElem?_eq_getElem hk0⟩
      rw [wst_at hy]
      exact (N.wok y (List.mem_of_getElem? hy)).s
    refine ⟨fun m σ H4 => ∃ (fs : List Nat) (d : Nat) (s6 s7 s8 : Option V), σ = [some (.ref p), some (.ref lp), none, some (.ref D), some (.ref lf), some (.int (d : Nat)), s6, s7, s8] ∧ fs.Nodup ∧ (∀ f ∈ fs, f < gs.length ∧ Back ws (k0 :: r) f) ∧ wst ws k0 ∈ fs ∧ (∀ i, i < d → ClB ws pa fs k0 i ws.length) ∧ d ≤ fs.length ∧ H4 lf = some (.lst (natV fs)) ∧ H4 D = some (.lst (natV pa)) ∧ Same H H4 ∧ m = gs.length - d, ?_, ?_⟩
    · exact ⟨gs.length, [wst ws k0], 0, _, _, _, rfl, (by simp), (fun f hf => by
        rw [List.mem_singleton] at hf
        rw [hf]
        exact ⟨hw0, .beg⟩), List.mem_singleton.mpr rfl, (fun i hi => absurd hi (Nat.not_lt_zero _)), Nat.zero_le _, hf3, hD3, sm3, rfl⟩
    rintro m σ H4 ⟨fs, d, s6, s7, s8, rfl, fnd, fok, f0, fcl, hd, hf4, hD4, sm4, rfl⟩
    refine ⟨_, rfl, _, rfl, lf, _, rfl, .inl (SqL.of hf4), _, _, rfl, rfl, _, rfl, ite2 (fun e => ?_) (fun e => ?_)⟩
    · have hdl : d < fs.length := by
        have e' : (d : Int) < ((natV fs).length : Int) := of_decide_eq_true e
        rw [nat_len] at e'
        omega
      have hfl := nodup_le fnd fun f hf => (fok f hf).1
      refine ⟨fun σ H5 => ∃ (fs : List Nat) (s6 s7 s8 : Option V), σ = [some (.ref p), some (.ref lp), none, some (.ref D), some (.ref lf), some (.int ((d : Nat) + 1)), s6, s7, s8] ∧ fs.Nodup ∧ (∀ f ∈ fs, f < gs.length ∧ Back ws (k0 :: r) f) ∧ wst ws k0 ∈ fs ∧ (∀ i, i < d + 1 → ClB ws pa fs k0 i ws.length) ∧ d + 1 ≤ fs.length ∧ H5 lf = some (.lst (natV fs)) ∧ H5 D = some (.lst (natV pa)) ∧ Same H H5, ?_, ?_⟩
      · rintro σ' H' ⟨fs', t6, t7, t8, rfl, a1, a2, a21, a22, a3, a4, a5, a6⟩
        exact ⟨gs.length - (d + 1), by omega, fs', d + 1, t6, t7, t8, rfl, a1, a2, a21, a22, a3, a4, a5, a6, rfl⟩
      refine ⟨_, rfl, p, C, dx, _, _, rfl, sm4 _ _ ob, T.cl, T.nW, nf_wires _ _, _, rfl, lp, _, _, .int (k0 : Nat), rfl, rfl, SqL.of (sm4 _ _ hlp), atI_nat (j := 0) rfl, _, _, rfl, rfl, _, rfl, nw, wv, rfl, SqL.of (sm4 _ _ hwv), fun ls hls => ?_⟩
      have hls0 : H ls = none := sm4.free hls
      have hcut : cutV wv (some ((k0 : Nat) + 1 : Int)) none = wv.drop (k0 + 1) := by
        have := cut_from (xs := wv) (k0 + 1)
        exact this
      rw [hcut]
      have sm5 := sm4.trans (same_new (o := .lst (wv.drop (k0 + 1))) hls)
      have e5 : (upd H4 ls (.lst (wv.drop (k0 + 1)))) ls = some (.lst (wv.drop (k0 + 1))) := upd_same
      have f5 : (upd H4 ls (.lst (wv.drop (k0 + 1)))) lf = some (.lst (natV fs)) := by rw [upd_ne (ne_of_none hf4 hls)]; exact hf4
      have D5 : (upd H4 ls (.lst (wv.drop (k0 + 1)))) D = some (.lst (natV pa)) := by rw [upd_ne (ne_of_none hD4 hls)]; exact hD4
      have nls : ls ≠ lf := fun z => by
        rw [z, hf4] at hls
        cases hls
      generalize upd H4 ls (.lst (wv.drop (k0 + 1))) = H5 at sm5 e5 f5 D5
      refine ⟨ls, rfl, ⟨_, SqL.of e5⟩, for_list (K := K) (a := ls) (xs := wv.drop (k0 + 1)) (fun j σ H6 => ∃ (fs : List Nat) (s6 s7 s8 : Option V), σ = [some (.ref p), some (.ref lp), none, some (.ref D), some (.ref lf), some (.int (d : Nat)), s6, s7, s8] ∧ fs.Nodup ∧ (∀ f ∈ fs, f < gs.length ∧ Back ws (k0 :: r) f) ∧ wst ws k0 ∈ fs ∧ (∀ i, i < d → ClB ws pa fs k0 i ws.length) ∧ ClB ws pa fs k0 d (k0 + 1 + j) ∧ d + 1 ≤ fs.length ∧ H6 lf = some (.lst (natV fs)) ∧ H6 D = some (.lst (natV pa)) ∧ H6 ls = some (.lst (wv.drop (k0 + 1))) ∧ Same H H6)
        ⟨fs, _, _, _, rfl, fnd, fok, f0, fcl, (fun q h1 h2 _ _ _ => by omega), hdl, f5, D5, e5, sm5⟩ (fun i σ H6 _ ⟨_, _, _, _, _, _, _, _, _, _, _, _, _, z, _⟩ => SqL.of z) ?_ ?_⟩
      · rintro j v σ H6 hv ⟨fs, s6, s7, s8, rfl, fnd, fok, f0, fcl, fcd, hdl, f6, D6, e6, sm6⟩
        rw [List.getElem?_drop] at hv
        obtain ⟨x, hx, a, b, rfl, q1, q2⟩ := wa.get hv
        have W := N.wok x (List.mem_of_getElem? hx)
        have hfl := nodup_le fnd fun f hf => (fok f hf).1
        obtain ⟨g, hg⟩ : ∃ g, fs[d]? = some g := ⟨_, List.getElem?_eq_getElem (by omega)⟩
        refine ⟨a, _, rfl, (TK.same sm6).seq q1, rfl, _, _, rfl, _, _, rfl, _, _, rfl, rfl, ?_⟩
        have keep : (fs[d]? = some (wen ws (k0 + 1 + j)) → wst ws (k0 + 1 + j) ∉ pa → wst ws (k0 + 1 + j) ∈ fs) → ∃ (fs : List Nat) (t6 t7 t8 : Option V), [some (.ref p), some (.ref lp), none, some (.ref D), some (.ref lf), some (.int (d : Nat)), some (V.int x.1), some (V.int x.2.1), some (V.ref b)] = [some (.ref p), some (.ref lp), none, some (.ref D), some (.ref lf), some (.int (d : Nat)), t6, t7, t8] ∧ fs.Nodup ∧ (∀ f ∈ fs, f < gs.length ∧ Back ws (k0 :: r) f) ∧ wst ws k0 ∈ fs ∧ (∀ i, i < d → ClB ws pa fs k0 i ws.length) ∧ ClB ws pa fs k0 d (k0 + 1 + (j + 1)) ∧ d + 1 ≤ fs.length ∧ H6 lf = some (.lst (natV fs)) ∧ H6 D = some (.lst (natV pa)) ∧ H6 ls = some (.lst (wv.drop (k0 + 1))) ∧ Same H H6 := fun n => ⟨fs, _, _, _, rfl, fnd, fok, f0, fcl, fcd.next n, hdl, f6, D6, e6, sm6⟩
        have ew := wst_at hx
        have ee2 := wen_at hx
        refine ⟨_, rfl, _, rfl, _, rfl, lf, _, _, _, rfl, rfl, SqL.of f6, atI_nat (j := d) (nat_get hg), rfl, _, rfl, ite2 (fun e1 => ?_) (fun e1 => iteF (keep fun y _ => absurd (by rw [hg, ee2] at y; cases y; exact decide_eq_true rfl) e1))⟩
        refine ⟨_, rfl, _, rfl, D, _, rfl, .inl (SqL.of D6), rfl, nat_flat _, _, rfl, ?_⟩
        rw [show inV (V.int (x.1 : Nat)) (natV pa) = decide (x.1 ∈ pa) from nat_in]
        refine ite2 (fun e2 => ?_) (fun e2 => iteF (keep fun _ y => absurd y (by rw [ew]; simpa using e2)))
        refine ⟨_, rfl, _, rfl, lf, _, rfl, .inl (SqL.of f6), rfl, nat_flat _, _, rfl, ?_⟩
        rw [show inV (V.int (x.1 : Nat)) (natV fs) = decide (x.1 ∈ fs) from nat_in]
        refine ite2 (fun e3 => ?_) (fun e3 => keep fun _ _ => by rw [ew]; simpa using e3)
        have h2 : x.1 ∉ pa := of_decide_eq_false (by simpa using e2)
        have h3 : x.1 ∉ fs := of_decide_eq_false (by simpa using e3)
        refine ⟨_, rfl, .inl ⟨rfl, _, SqL.of f6⟩, _, rfl, lf, _, _, rfl, rfl, f6, by rw [nat_len]; exact small1000 (by omega), fs ++ [x.1], _, _, _, rfl, ?_, ?_, List.mem_append.mpr (.inl f0), (fun i hi => (fcl i hi).app (by omega) _), (fcd.app (by omega) _).next (fun _ _ => by rw [ew]; exact List.mem_append.mpr (.inr (List.mem_singleton.mpr rfl))), by rw [List.length_append]; omega, ?_, by rw [upd_ne nfD]; exact D6, by rw [upd_ne nls]; exact e6, same_mut sm6 hlf0⟩
        · rw [List.nodup_append]
          exact ⟨fnd, (by simp), fun a ha b hb => by
            rw [List.mem_singleton] at hb
            rintro rfl
            exact h3 (hb ▸ ha)⟩
        · intro f hf
          rcases List.mem_append.mp hf with z | z
          · exact fok f z
          · rw [List.mem_singleton] at z
            rw [z]
            refine ⟨W.s, ?_⟩
            have hgm : g = x.2.1 := by
              have y := of_decide_eq_true e1
              have y := V.int.inj y
              omega
            have bg := (fok g (List.mem_of_getElem? hg)).2
            rw [hgm] at bg
            rw [← ew]
            have h2' : wst ws (k0 + 1 + j) ∉ pa := by rw [ew]; exact h2
            rw [← hpa] at h2'
            have kl2 : k0 + 1 + j < ws.length := (List.getElem?_eq_some_iff.mp hx).1
            exact .back (q := k0 + 1 + j) kl2 (by show k0 < _; omega) (by show Back ws _ (wen ws _); rw [ee2]; exact bg) (fun z => h2' (List.mem_append.mpr (.inl z))) fun z => h2' (List.mem_append.mpr (.inr (List.mem_singleton.mpr z)))
        · rw [upd_same]
          show _ = some (HO.lst (List.map _ (_ ++ _)))
          rw [List.map_append]
          rfl
      · rintro σ H6 ⟨fs, s6, s7, s8, rfl, a1, a2, a21, a22, a23, a3, a4, a5, _, a6⟩
        refine ⟨_, rfl, _, _, rfl, rfl, fs, _, _, _, rfl, a1, a2, a21, fun i hi => ?_, a3, a4, a5, a6⟩
        by_cases z : i < d
        · exact a22 i z
        · have z : i = d := by omega
          subst z
          intro q h1 _ h3 h4 h5
          exact a23 q h1 (by rw [List.length_drop, hlw]; omega) h3 h4 h5
    · refine ⟨_, rfl, q lf fs H4 sm4 hlf0 hf4 fun g => ⟨fun hg => (fok g hg).2, fun hb => ?_⟩⟩
      have hdl : d = fs.length := by
        have e' : ¬ (d : Int) < ((natV fs).length : Int) := fun y => e (decide_eq_true y)
        rw [nat_len] at e'
        omega
      induction hb with
      | beg => exact f0
      | @back q h1 h2 _ h4 h5 ih =>
        obtain ⟨i, hi⟩ := List.getElem?_of_mem ih
        have hil : i < fs.length := (List.getElem?_eq_some_iff.mp hi).1
        refine fcl i (by omega) q h2 h1 h1 hi ?_
        rw [← hpa]
        intro z
        rcases List.mem_append.mp z with z | z
        · exact h4 z
        · exact h5 (List.mem_singleton.mp z)
end
end Lag

set_option maxRecDepth 100000
set_option maxHeartbeats 8000000
namespace Lag
open PySem PySem.Spec PyProof.Rows L2
abbrev sAddR : Stmt := topS 3 -- @add_rings
theorem NetAt.but {K : PySem.W.Frag} {C p ng nw lt : Addr} {H H' : Hp} {gs : List Gt} {ws : List Wr} {tv : List V} (n : NetAt K C H p ng nw gs ws) (hl : H lt = some (.lst tv)) (h1 : ng ≠ lt) (h2 : nw ≠ lt) (b : But lt H H') : NetAt K C H' p ng nw gs ws := by
  obtain ⟨dx, h⟩ := n.ob
  obtain ⟨gv, hg, ga⟩ := n.g
  obtain ⟨wv, hw, wa⟩ := n.w
  have t : TK H H' := fun c u t e => by
    refine b c u (fun z => ?_) e
    rw [z, hl] at e
    cases e
    exact t
  exact ⟨⟨dx, b _ _ (ne_of h hl (by intro z; cases z)) h⟩, ⟨gv, b _ _ h1 hg, ga.imp fun _ _ r => r.tk t⟩, ⟨wv, b _ _ h2 hw, wa.imp fun _ _ r => r.tk t⟩, n.ne⟩
def ToldV (H : Hp) (lt : Addr) (Av : Addr → Prop) (v : V) (r : List Nat) : Prop := ∃ a, v = .ref a ∧ a ≠ lt ∧ Av a ∧ H a = some (.lst (natV r))
theorem ToldV.but {H H' : Hp} {lt : Addr} {Av : Addr → Prop} {v : V} {r : List Nat} (h : ToldV H lt Av v r) (b : But lt H H') : ToldV H' lt Av v r := by
  obtain ⟨a, e, n, va, ha⟩ := h
  exact ⟨a, e, n, va, b _ _ n ha⟩
def spAddR (K : PySem.W.Frag) (C : Addr) (n : Nat) : Sp := fun vs H Q _ => ∃ (p ng nw lp lt : Addr) (gs : List Gt) (ws : List Wr) (k0 : Nat) (r : List Nat) (tv : List V) (ts : List (List Nat)) (Av : Addr → Prop) (M : Nat), vs = [.ref p, .ref lp, .ref lt] ∧ NetAt K C H p ng nw gs ws ∧ NetOk gs ws ∧ ng ≠ lt ∧ nw ≠ lt ∧ lp ≠ lt ∧ H lp = some (.lst (natV (k0 :: r))) ∧ Und ws (k0 :: r) ∧ ((∀ r', Rw ws r' → r'.length ≤ M) ∧ M ≤ 100 ∧ M + 1 ≤ n + (r.length + 1)) ∧ Av lp ∧ (∀ a, H a = none → Av a) ∧
  H lt = some (.lst tv) ∧ All2 (ToldV H lt Av) tv ts ∧ ts.length + (walkR ws (frB ws) n (k0 :: r)).length ≤ 10000000 ∧ ∀ tv' H', But lt H H' → H' lt = some (.lst tv') → All2 (ToldV H' lt Av) tv' (ts ++ walkR ws (frB ws) n (k0 :: r)) → Q .non H'
section
variable {P : Program} {w : World} {K : PySem.W.Frag} {mg : Str → Option Value} {base : Heap}
abbrev nAddR : List Str := ["net", "path", "told", "start", "end", "free", "place"]
theorem scAddR : FnScope nAddR ["net", "path", "told"] (defScope sAddR) := ⟨rfl, rfl, rfl, by decide +kernel, rfl, by decide +kernel, by decide +kernel⟩
abbrev DAddR (P : Program) (w : World) (K : PySem.W.Frag) (mg : Str → Option Value) (base : Heap) (C : Addr) (n : Nat) := Df P w K mg base (n + 1) "add_rings" ["net", "path", "told"] (spAddR K C n)
theorem ok_addR {f fB C : Addr} {fd fdB : FuncData} (F : Fun K "add_rings" "add_rings" sAddR f fd) (hm : mg "add_rings" = some (.ref f)) (B : Bt mg) (T : NT K mg C) (DB : DBack P w K mg base C fB fdB) : ∀ n, DAddR P w K mg base C n f fd
  | 0 => by
    refine ⟨?_, hm, F.kp, F.binds fun _ _ _ _ _ _ us hl => match us, hl with | [_, _, _], _ => rfl⟩
    refine F.ok scAddR (fun vs H Q E h => ?_) (fun cdv A outer s H vs Q E hr h => ?_)
    · obtain ⟨p, ng, nw, lp, lt, gs, ws, k0, r, tv, ts, Av, M, rfl, _⟩ := h
      rfl
    · obtain ⟨p, ng, nw, lp, lt, gs, ws, k0, r, tv, ts, Av, M, rfl, NA, N, n1, n2, n3, hlp, pin, ⟨hM, hM1, hn⟩, _⟩ := h
      exfalso
      have := hM _ pin.rw
      rw [List.length_cons] at this
      omega
  | n + 1 => by
    have DR := ok_addR (n := n) F hm B T DB
    refine ⟨?_, hm, F.kp, F.binds fun _ _ _ _ _ _ us hl => match us, hl with | [_, _, _], _ => rfl⟩
    refine F.ok scAddR (fun vs H Q E h => ?_) (fun cdv A outer s H vs Q E hr h => ?_)
    · obtain ⟨p, ng, nw, lp, lt, gs, ws, k0, r, tv, ts, Av, M, rfl, _⟩ := h
      rfl
    · obtain ⟨p, ng, nw, lp, lt, gs, ws, k0, r, tv, ts, Av, M, rfl, NA, N, n1, n2, n3, hlp, pin, ⟨hM, hM1, hn⟩, avl, av, hlt, trw, hcap, q⟩ := h
      have nd := scAddR.nd
      have hr1 : Room 1 _ := hr.mono (by omega)
      refine ⟨_, pss_cons (ps_set (i := 3) nd rfl (.inl rfl) (pe_ix ix_tup (pe_ix ix_list (pe_fld (pv 0) rfl) (pe_ix ix_list (pv 1) pe_int (fun _ _ => rfl)) (fun _ _ => rfl)) pe_int (fun _ _ => rfl))) <|
        pss_cons (ps_set (i := 4) nd rfl (.inl rfl) (pe_ix ix_tup (pe_ix ix_list (pe_fld (pv 0) rfl) (pe_ix ix_list (pv 1) (pe_un un_neg pe_int) (fun _ _ => rfl)) (fun _ _ => rfl)) pe_int (fun _ _ => rfl))) <|
        pss_cons (ps_if (pt_cmpR op_eq (pv 4) (pv 3) (nomark _)) (pss_cons (ps_expr (pe_bm PySem.F.plainAttrs_list PySem.F.slot_list_append PySem.F.type_list_append mt_append (pv 2) (pa_cons (pv 1) pa_nil))) (pss_one ps_retN)) pss_nil) <|
        pss_cons (ps_set (i := 5) nd rfl (.inl rfl) (pe_call DB.ok hr1 (by rfl) DB.mg DB.kp DB.bd .nil pass0 (pa_cons (pv 0) (pa_cons (pv 1) pa_nil)))) <|
        pss_one <| ps_for PassesOwn.never rfl (pi_range2 (by rfl) B.range (pa_cons (pe_op op_add (pe_ix ix_list (pv 1) pe_int (fun _ _ => rfl)) pe_int) (pa_cons (pe_callB call_len_seq (by rfl) B.len PySem.boot_len (pa_cons (pe_fld (pv 0) rfl) pa_nil)) pa_nil))) (pg_name (i := 6) nd rfl (.inl rfl)) <|
          pss_one <| ps_if (PW.pt (pw_and (pt_cmpR op_eq (pe_ix ix_tup (pe_ix ix_list (pe_fld (pv 0) rfl) (pv 6) (fun _ _ => rfl)) pe_int (fun _ _ => rfl)) (pv 4) (nomark _)) (pw_and1 (pt_cmpR op_in_seq (pe_ix ix_tup (pe_ix ix_list (pe_fld (pv 0) rfl) (pv 6) (fun _ _ => rfl)) pe_int (fun _ _ => rfl)) (pv 5) (by rfl)))))
            (pss_one (ps_expr (pe_call DR.ok hr (by rfl) DR.mg DR.kp DR.bd .nil pass0 (pa_cons (pv 0) (pa_cons (pe_op op_cat (pv 1) (pe_lst (pa_cons (pv 6) pa_nil))) (pa_cons (pv 2) pa_nil)))))) pss_nil, ?_⟩
      have hgl := N.gl
      have hwl := N.wl
      have hrl := hM _ pin.rw
      rw [List.length_cons] at hrl
      have tl : tv.length = ts.length := trw.1
      obtain ⟨dx, ob⟩ := id NA.ob
      obtain ⟨wv, hwv, wa⟩ := id NA.w
      have hlw : wv.length = ws.length := wa.1
      have hk0 := pin.rw.lt k0 (List.mem_cons_self ..)
      obtain ⟨x0, hx0⟩ : ∃ x, ws[k0]? = some x := ⟨_, List.getElem?_eq_getElem hk0⟩
      obtain ⟨v0, hv0, a0, b0, rfl, s01, s02⟩ := wa.getR hx0
      obtain ⟨r0, kl, hrk⟩ : ∃ r0 kl, k0 :: r = r0 ++ [kl] := ⟨_, _, (List.dropLast_concat_getLast (List.cons_ne_nil _ _)).symm⟩
      have hkl := pin.rw.lt kl (by rw [hrk]; simp)
      obtain ⟨x1, hx1⟩ : ∃ x, ws[kl]? = some x := ⟨_, List.getElem?_eq_getElem hkl⟩
      obtain ⟨v1, hv1, a1, b1, rfl, s11, s12⟩ := wa.getR hx1
      have ee : endL ws (k0 :: r) = x1.2.1 := by rw [hrk, endL_snoc]; exact wen_at hx1
      have es : wst ws k0 = x0.1 := wst_at hx0
      refine ⟨_, rfl, p, C, dx, _, _, rfl, ob, T.cl, T.nW, nf_wires _ _, _, rfl, lp, _, _, .int (k0 : Nat), rfl, rfl, SqL.of hlp, atI_nat (j := 0) rfl, nw, wv, _, _, rfl, rfl, SqL.of hwv, atI_nat hv0, a0, _, _, .int x0.1, rfl, rfl, s01, atI_nat (j := 0) rfl, ?_⟩
      refine ⟨_, rfl, p, C, dx, _, _, rfl, ob, T.cl, T.nW, nf_wires _ _, _, rfl, _, rfl, lp, _, _, .int (kl : Nat), rfl, rfl, SqL.of hlp, ?_, nw, wv, _, _, rfl, rfl, SqL.of hwv, atI_nat hv1, a1, _, _, .int x1.2.1, rfl, rfl, s11, atI_nat (j := 1) rfl, ?_⟩
      · rw [hrk]
        show atI (List.map _ (_ ++ _)) _ = _
        rw [List.map_append]
        exact atI_last _ _
      refine ⟨_, rfl, _, rfl, rfl, _, rfl, ite2 (fun e => ?_) (fun e => ?_)⟩
      · have hcl : x1.2.1 = x0.1 := by
          have := V.int.inj (of_decide_eq_true e)
          omega
        refine ⟨_, rfl, .inl ⟨rfl, _, SqL.of hlt⟩, _, rfl, lt, _, _, rfl, rfl, hlt, by show _ < 2 ^ 24; rw [tl]; omega, ?_⟩
        have hst : endL ws (k0 :: r) = begL ws (k0 :: r) := by rw [ee, hcl]; exact es.symm
        refine q _ _ But.upd upd_same ?_
        rw [walk_stop hst]
        refine All2.snoc (trw.imp fun v r' z => ?_) ⟨lp, rfl, n3, avl, by rw [upd_ne n3]; exact hlp⟩
        obtain ⟨a, e', n', va, ha⟩ := z
        exact ⟨a, e', n', va, by rw [upd_ne n']; exact ha⟩
      · have hne : endL ws (k0 :: r) ≠ begL ws (k0 :: r) := fun z => by
          apply e
          have z : x1.2.1 = x0.1 := by rw [← ee, ← es]; exact z
          rw [z]
          exact decide_eq_true rfl
        rw [walk_nexts hne] at hcap q
        refine ⟨_, rfl, _, rfl, p, ng, nw, lp, gs, ws, k0, r, rfl, NA, N, hlp, pin.rw.lt, by omega, fun lf fs H1 sm1 hlf hf1 ffs => ?_⟩
        have hlt1 := sm1 _ _ hlt
        have nlf : lf ≠ lt := fun z => by
          rw [z, hlt] at hlf
          cases hlf
        refine ⟨_, rfl, lp, _, _, .int (k0 : Nat), rfl, rfl, SqL.of (sm1 _ _ hlp), atI_nat (j := 0) rfl, _, _, rfl, rfl, _, rfl, p, C, dx, _, _, rfl, sm1 _ _ ob, T.cl, T.nW, nf_wires _ _, nw, wv, rfl, .inl (SqL.of (sm1 _ _ hwv)), _, _, rfl, ?_, ?_⟩
        · rw [hlw]
          omega
        have hcnt : ((wv.length : Int) - ((k0 : Nat) + 1 : Int)).toNat = ws.length - (k0 + 1) := by
          rw [hlw]
          omega
        rw [hcnt]
        refine for_range (lo := (k0 : Nat) + 1) (n := ws.length - (k0 + 1)) (fun i σ H2 => ∃ (s6 : Option V) (tv2 : List V), σ = [some (.ref p), some (.ref lp), some (.ref lt), some (.int (x0.1 : Nat)), some (.int (x1.2.1 : Nat)), some (.ref lf), s6] ∧ But lt H1 H2 ∧ H2 lt = some (.lst tv2) ∧ All2 (ToldV H2 lt Av) tv2 (ts ++ nexts ws (frB ws) n (k0 :: r) (k0 + 1 + i)))
          ⟨_, tv, rfl, But.refl _ _, hlt1, by rw [show nexts ws (frB ws) n (k0 :: r) (k0 + 1 + 0) = [] from nexts_low (Nat.le_refl _), List.append_nil]; exact trw.imp fun _ _ z => z.but (But.same sm1)⟩ ?_ ?_
        · rintro i σ H2 hi ⟨s6, tv2, rfl, bt, hlt2, trw2⟩
          have ek : ((k0 : Nat) + 1 : Int) + (i : Nat) = ((k0 + 1 + i : Nat) : Int) := by omega
          rw [ek]
          have hkk : k0 + 1 + i < ws.length := by omega
          obtain ⟨k, hk⟩ : ∃ k, k0 + 1 + i = k := ⟨_, rfl⟩
          have hk1 : k0 + 1 + (i + 1) = k + 1 := by omega
          rw [hk] at hkk trw2 ⊢
          obtain ⟨x, hx⟩ : ∃ x, ws[k]? = some x := ⟨_, List.getElem?_eq_getElem hkk⟩
          have NA2 := (NA.same sm1).but hlt1 n1 n2 bt
          obtain ⟨dx2, ob2⟩ := id NA2.ob
          obtain ⟨wv2, hwv2, wa2⟩ := id NA2.w
          obtain ⟨v2, hv2, a2, b2, rfl, s21, s22⟩ := wa2.getR hx
          have hlp2 := bt _ _ n3 (sm1 _ _ hlp)
          have hlf2 := bt _ _ nlf hf1
          have keep : ¬ ((k0 :: r).headD 0 < k ∧ stA ws k = endL ws (k0 :: r) ∧ frB ws (k0 :: r) (enA ws k) = true) → ∃ (s6 : Option V) (tv2 : List V), [some (.ref p), some (.ref lp), some (.ref lt), some (.int (x0.1 : Nat)), some (.int (x1.2.1 : Nat)), some (.ref lf), some (V.int (k : Nat))] = [some (.ref p), some (.ref lp), some (.ref lt), some (.int (x0.1 : Nat)), some (.int (x1.2.1 : Nat)), some (.ref lf), s6] ∧ But lt H1 H2 ∧ H2 lt = some (.lst tv2) ∧ All2 (ToldV H2 lt Av) tv2 (ts ++ nexts ws (frB ws) n (k0 :: r) (k0 + 1 + (i + 1))) := fun no => ⟨_, tv2, rfl, bt, hlt2, by rw [hk1, nexts_no no]; exact trw2⟩
          have ew : stA ws k = x.1 := wst_at hx
          have ee2 : enA ws k = x.2.1 := wen_at hx
          refine ⟨_, rfl, p, C, dx2, _, _, rfl, ob2, T.cl, T.nW, nf_wires _ _, _, rfl, nw, wv2, _, _, rfl, rfl, SqL.of hwv2, atI_nat hv2, a2, _, _, .int x.1, rfl, rfl, s21, atI_nat (j := 0) rfl, _, rfl, rfl, _, rfl, ite2 (fun e1 => ?_) (fun e1 => iteF (keep fun y => e1 (by rw [← ew, y.2.1, ee]; exact decide_eq_true rfl)))⟩
          refine ⟨_, rfl, p, C, dx2, _, _, rfl, ob2, T.cl, T.nW, nf_wires _ _, _, rfl, nw, wv2, _, _, rfl, rfl, SqL.of hwv2, atI_nat hv2, a2, _, _, .int x.2.1, rfl, rfl, s21, atI_nat (j := 1) rfl, _, rfl, lf, _, rfl, .inl (SqL.of hlf2), rfl, nat_flat _, _, rfl, ?_⟩
          rw [show inV (V.int (x.2.1 : Nat)) (natV fs) = decide (x.2.1 ∈ fs) from nat_in]
          refine ite2 (fun e2 => ?_) (fun e2 => keep fun y => e2 (decide_eq_true ((ffs _).mpr (by rw [← ee2]; exact frB_iff.mp y.2.2))))
          have h1 : x.1 = x1.2.1 := by
            have := V.int.inj (of_decide_eq_true e1)
            omega
          have h2 : x.2.1 ∈ fs := of_decide_eq_true (by simpa using e2)
          have yes : (k0 :: r).headD 0 < k ∧ stA ws k = endL ws (k0 :: r) ∧ frB ws (k0 :: r) (enA ws k) = true := ⟨by show k0 < k; omega, by rw [ew, ee, h1], frB_iff.mpr (by rw [ee2]; exact (ffs _).mp h2)⟩
          have pin2 := pin.next (frB_ok ws) hne (List.mem_filter.mpr ⟨List.mem_range.mpr hkk, decide_eq_true yes⟩)
          have hc2 : (nexts ws (frB ws) n (k0 :: r) (k + 1)).length ≤ (nexts ws (frB ws) n (k0 :: r) ws.length).length := by
            have := nexts_len (ws := ws) (fr := frB ws) (f := n) (m := k + 1) (path := k0 :: r) (ws.length - (k + 1))
            rwa [show k + 1 + (ws.length - (k + 1)) = ws.length by omega] at this
          rw [nexts_yes yes, List.length_append] at hc2
          refine ⟨_, rfl, _, rfl, _, rfl, (by show 1 ≤ sizeLine; decide), fun l3 hl3 => ?_⟩
          have b3 : But lt H2 (upd H2 l3 (.lst [.int (k : Nat)])) := But.new hl3
          have hlt3 : (upd H2 l3 (.lst [.int (k : Nat)])) lt = some (.lst tv2) := by rw [upd_ne (ne_of_none hlt2 hl3)]; exact hlt2
          have e3 : (upd H2 l3 (.lst [.int (k : Nat)])) l3 = some (.lst [.int (k : Nat)]) := upd_same
          generalize upd H2 l3 (.lst [.int (k : Nat)]) = H3 at b3 hlt3 e3
          refine ⟨lp, l3, _, _, rfl, rfl, b3 _ _ n3 hlp2, e3, ?_, fun l4 hl4 => ?_⟩
          · rw [nat_len, List.length_cons]
            show r.length + 1 + 1 ≤ sizeLine
            exact Nat.le_of_lt (small1000 (by omega))
          have b4 : But lt H3 (upd H3 l4 (.lst (natV (k0 :: r) ++ [.int (k : Nat)]))) := But.new hl4
          have hlt4 : (upd H3 l4 (.lst (natV (k0 :: r) ++ [.int (k : Nat)]))) lt = some (.lst tv2) := by rw [upd_ne (ne_of_none hlt3 hl4)]; exact hlt3
          have e4 : (upd H3 l4 (.lst (natV (k0 :: r) ++ [.int (k : Nat)]))) l4 = some (.lst (natV (k0 :: (r ++ [k])))) := by
            rw [upd_same]
            show _ = some (HO.lst (List.map _ ((k0 :: r) ++ _)))
            rw [List.map_append]
            rfl
          have n4 : l4 ≠ lt := (ne_of_none hlt3 hl4).symm
          generalize upd H3 l4 (.lst (natV (k0 :: r) ++ [.int (k : Nat)])) = H4 at b4 hlt4 e4
          have b24 := b3.trans b4
          have dead : ∀ {a : Addr}, H4 a = none → Av a := fun {a} z => av a (by
            cases ha : H a with
            | none => rfl
            | some o =>
              by_cases y : a = lt
              · rw [y, hlt4] at z
                cases z
              · rw [b24 _ _ y (bt _ _ y (sm1 _ _ ha))] at z
                cases z)
          have av4 : Av l4 := av l4 (by
            cases ha : H l4 with
            | none => rfl
            | some o =>
              rw [b3 _ _ n4 (bt _ _ n4 (sm1 _ _ ha))] at hl4
              cases hl4)
          refine ⟨_, rfl, p, ng, nw, l4, lt, gs, ws, k0, r ++ [k], tv2, _, Av, M, rfl, NA2.but hlt2 n1 n2 b24, N, n1, n2, n4, e4, pin2, ⟨hM, hM1, by rw [List.length_append]; show _ ≤ n + (r.length + 1 + 1); omega⟩, av4, fun a z => dead z, hlt4, trw2.imp fun _ _ z => z.but b24, ?_, fun tv5 H5 b5 e5 trw5 => ?_⟩
          · rw [List.length_append]
            show _ + _ + (walkR ws (frB ws) n ((k0 :: r) ++ [k])).length ≤ _
            omega
          refine ⟨_, tv5, rfl, (bt.trans b24).trans b5, e5, ?_⟩
          rw [hk1, nexts_yes yes, ← List.append_assoc]
          exact trw5
        · rintro σ H2 ⟨s6, tv2, rfl, bt, hlt2, trw2⟩
          refine q tv2 H2 ((But.same sm1).trans bt) hlt2 ?_
          have el : k0 + 1 + (ws.length - (k0 + 1)) = ws.length := by omega
          rw [el] at trw2
          exact trw2
end
end Lag

set_option maxRecDepth 100000
set_option maxHeartbeats 8000000
namespace Lag
open PySem PySem.Spec PyProof.Rows L2
abbrev sRings : Stmt := topS 2 -- @rings
theorem und_one {ws : List Wr} {i : Nat} (hi : i < ws.length) : Und ws [i] := ⟨.one hi, fun q hq => by rw [List.mem_singleton.mp hq]; exact Nat.le_refl _, by
  by_cases z : endL ws [i] = begL ws [i]
  · exact .inl z
  · exact .inr fun y => z (List.mem_singleton.mp y)⟩
theorem walks8 {ws : List Wr} {M : Nat} (hM : ∀ r, Rw ws r → r.length ≤ M) (h : M ≤ 7) : walks ws (frB ws) = (List.range ws.length).flatMap fun p => walkR ws (frB ws) 8 [p] := by
  unfold walks
  have e : ∀ l : List Nat, (∀ p ∈ l, p < ws.length) → l.flatMap (fun p => walkR ws (frB ws) (ws.length + 1) [p]) = l.flatMap fun p => walkR ws (frB ws) 8 [p] := fun l => by
    induction l with
    | nil => intro _; rfl
    | cons a l ih =>
      intro hl
      rw [List.flatMap_cons, List.flatMap_cons, ih fun p hp => hl p (List.mem_cons_of_mem _ hp)]
      have hu := und_one (hl a List.mem_cons_self)
      rw [lt_uniq walk_lt walk_lt fun _ => (walk_iff (frB_ok ws) (M := ws.length) (f := ws.length + 1) (fun _ h => h.len) hu (by show _ ≤ ws.length + 1 + 1; omega)).trans (walk_iff (frB_ok ws) (f := 8) hM hu (by show M + 1 ≤ 8 + 1; omega)).symm]
  exact e _ fun p hp => List.mem_range.mp hp
theorem flat_range_le {α : Type} {g : Nat → List α} {m : Nat} : ∀ d, ((List.range m).flatMap g).length ≤ ((List.range (m + d)).flatMap g).length
  | 0 => Nat.le_refl _
  | d + 1 => by
    refine Nat.le_trans (flat_range_le d) ?_
    rw [← Nat.add_assoc, List.range_succ, List.flatMap_append, List.length_append]
    omega
def spRings (K : PySem.W.Frag) (C : Addr) : Sp := fun vs H Q _ => ∃ (p ng nw : Addr) (gs : List Gt) (ws : List Wr) (M : Nat), vs = [.ref p] ∧ NetAt K C H p ng nw gs ws ∧ NetOk gs ws ∧ (∀ r', Rw ws r' → r'.length ≤ M) ∧ M ≤ 7 ∧ (walks ws (frB ws)).length ≤ 10000000 ∧
  ∀ lt tv H', Same H H' → H lt = none → H' lt = some (.lst tv) → All2 (ToldV H' lt fun a => H a = none) tv (walks ws (frB ws)) → Q (.ref lt) H'
section
variable {P : Program} {w : World} {K : PySem.W.Frag} {mg : Str → Option Value} {base : Heap}
theorem scRings : FnScope ["net", "told", "place"] ["net"] (defScope sRings) := ⟨rfl, rfl, rfl, by decide +kernel, rfl, by decide +kernel, by decide +kernel⟩
abbrev DRings (P : Program) (w : World) (K : PySem.W.Frag) (mg : Str → Option Value) (base : Heap) (C : Addr) := Df P w K mg base 10 "rings" ["net"] (spRings K C)
theorem ok_rings {f fA C : Addr} {fd fdA : FuncData} (F : Fun K "rings" "rings" sRings f fd) (hm : mg "rings" = some (.ref f)) (B : Bt mg) (T : NT K mg C) (DA : DAddR P w K mg base C 8 fA fdA) : DRings P w K mg base C f fd := by
  refine ⟨?_, hm, F.kp, F.binds fun _ _ _ _ _ _ us hl => match us, hl with | [_], _ => rfl⟩
  refine F.ok scRings (fun vs H Q E h => ?_) (fun cdv A outer s H vs Q E hr h => ?_)
  · obtain ⟨p, ng, nw, gs, ws, M, rfl, _⟩ := h
    rfl
  · obtain ⟨p, ng, nw, gs, ws, M, rfl, NA, N, hM, hM7, hcap, q⟩ := h
    have hwl := N.wl
    rw [walks8 hM hM7] at hcap q
    have nd := scRings.nd
    refine ⟨_, pss_cons (ps_set (i := 1) nd rfl (.inl rfl) (pe_lst pa_nil)) <|
      pss_cons (ps_for PassesOwn.never rfl (pi_range1 (by rfl) B.range (pa_cons (pe_callB call_len_seq (by rfl) B.len PySem.boot_len (pa_cons (pe_fld (pv 0) rfl) pa_nil)) pa_nil)) (pg_name (i := 2) nd rfl (.inl rfl)) <|
        pss_one <| ps_expr (pe_call DA.ok hr (by rfl) DA.mg DA.kp DA.bd .nil pass0 (pa_cons (pv 0) (pa_cons (pe_lst (pa_cons (pv 2) pa_nil)) (pa_cons (pv 1) pa_nil))))) <|
      pss_one <| ps_ret (pv 1), ?_⟩
    refine ⟨(by show 0 ≤ sizeLine; decide), fun lt hlt => ?_⟩
    have sm : Same H (upd H lt (.lst [])) := same_new hlt
    have e1 : (upd H lt (.lst [])) lt = some (.lst []) := upd_same
    have NA1 := NA.same sm
    obtain ⟨dx, ob⟩ := id NA1.ob
    obtain ⟨gv, hgv, ga⟩ := id NA.g
    obtain ⟨wv, hwv, wa⟩ := id NA.w
    have n1 : ng ≠ lt := ne_of_none hgv hlt
    have n2 : nw ≠ lt := ne_of_none hwv hlt
    have hwv1 := sm _ _ hwv
    generalize upd H lt (.lst []) = H1 at sm e1 NA1 ob hwv1
    have hlw : wv.length = ws.length := wa.1
    have old : ∀ {H2 : Hp} {a : Addr}, But lt H1 H2 → H2 a = none → H a = none := fun {H2 a} bt z => by
      cases ha : H a with
      | none => rfl
      | some o =>
        rw [bt _ _ (ne_of_none ha hlt) (sm _ _ ha)] at z
        cases z
    refine ⟨_, rfl, p, C, dx, _, _, rfl, ob, T.cl, T.nW, nf_wires _ _, nw, wv, rfl, .inl (SqL.of hwv1), _, rfl, by rw [hlw]; omega, by rw [hlw]; omega, ?_⟩
    rw [hlw, Int.toNat_natCast]
    refine for_range (lo := 0) (n := ws.length) (fun i σ H2 => ∃ (s2 : Option V) (tv2 : List V), σ = [some (.ref p), some (.ref lt), s2] ∧ But lt H1 H2 ∧ H2 lt = some (.lst tv2) ∧ All2 (ToldV H2 lt fun a => H a = none) tv2 ((List.range i).flatMap fun p => walkR ws (frB ws) 8 [p]))
      ⟨_, [], rfl, But.refl _ _, e1, All2.nil⟩ ?_ ?_
    · rintro i σ H2 hi ⟨s2, tv2, rfl, bt, hlt2, trw2⟩
      have ek : (0 : Int) + (i : Nat) = ((i : Nat) : Int) := Int.zero_add _
      rw [ek]
      have NA2 := NA1.but e1 n1 n2 bt
      refine ⟨_, rfl, _, rfl, (by show 1 ≤ sizeLine; decide), fun l3 hl3 => ?_⟩
      have b3 : But lt H2 (upd H2 l3 (.lst [.int (i : Nat)])) := But.new hl3
      have hlt3 : (upd H2 l3 (.lst [.int (i : Nat)])) lt = some (.lst tv2) := by rw [upd_ne (ne_of_none hlt2 hl3)]; exact hlt2
      have e3 : (upd H2 l3 (.lst [.int (i : Nat)])) l3 = some (.lst (natV [i])) := upd_same
      have n3 : l3 ≠ lt := (ne_of_none hlt2 hl3).symm
      generalize upd H2 l3 (.lst [.int (i : Nat)]) = H3 at b3 hlt3 e3
      have l3n : H l3 = none := old bt hl3
      have er : (List.range (i + 1)).flatMap (fun p => walkR ws (frB ws) 8 [p]) = (List.range i).flatMap (fun p => walkR ws (frB ws) 8 [p]) ++ walkR ws (frB ws) 8 [i] := by rw [List.range_succ, List.flatMap_append, List.flatMap_cons, List.flatMap_nil, List.append_nil]
      have hc := flat_range_le (g := fun p => walkR ws (frB ws) 8 [p]) (m := i + 1) (ws.length - (i + 1))
      rw [show i + 1 + (ws.length - (i + 1)) = ws.length by omega, er, List.length_append] at hc
      refine ⟨_, rfl, p, ng, nw, l3, lt, gs, ws, i, [], tv2, _, fun a => H a = none, M, rfl, NA2.but hlt2 n1 n2 b3, N, n1, n2, n3, e3, und_one hi, ⟨hM, by omega, by show M + 1 ≤ 8 + (0 + 1); omega⟩, l3n, fun a z => old (bt.trans b3) z, hlt3, trw2.imp fun _ _ z => z.but b3, by omega, fun tv5 H5 b5 e5 trw5 => ?_⟩
      refine ⟨_, tv5, rfl, (bt.trans b3).trans b5, e5, ?_⟩
      rw [er]
      exact trw5
    · rintro σ H2 ⟨s2, tv2, rfl, bt, hlt2, trw2⟩
      exact ⟨_, rfl, q lt tv2 H2 (fun b o h => bt b o (ne_of_none h hlt) (sm _ _ h)) hlt hlt2 trw2⟩
end
end Lag

set_option maxRecDepth 100000
set_option maxHeartbeats 8000000
namespace Lag
open PySem PySem.Spec PyProof.Rows L2
abbrev sLoadOf : Stmt := topS 6 -- @load_of
abbrev sLoads : Stmt := topS 5 -- @loads
abbrev sIsSlow : Stmt := topS 8 -- @is_slower
abbrev sSlow : Stmt := topS 7 -- @slowest
def regsAt (ws : List Wr) (k : Nat) : Int := (((ws.getD k (0, 0, [])).2.2.length : Nat) : Int)
def waitAt (gs : List Gt) (i : Nat) : Int := (gs.getD i ("", 0)).2
theorem waitAt_get {gs : List Gt} {i : Nat} {g : Gt} (h : gs[i]? = some g) : waitAt gs i = g.2 := by
  unfold waitAt
  rw [List.getD_eq_getElem?_getD, h]
  rfl
theorem regsAt_get {ws : List Wr} {k : Nat} {x : Wr} (h : ws[k]? = some x) : regsAt ws k = ((x.2.2.length : Nat) : Int) := by
  unfold regsAt
  rw [List.getD_eq_getElem?_getD, h]
  rfl
def loadW (gs : List Gt) (ws : List Wr) (r : List Nat) : List Int := r.map fun k => waitAt gs (wst ws k)
def loadR (ws : List Wr) (r : List Nat) : List Int := r.map fun k => regsAt ws k
/-- a ring's wait and registers -/
def load (gs : List Gt) (ws : List Wr) (r : List Nat) : List Int := [(loadW gs ws r).sum, (loadR ws r).sum]
theorem getD_mem {ws : List Wr} {p : Nat} (h : p < ws.length) : ws.getD p (0, 0, []) ∈ ws := by
  rw [List.getD_eq_getElem?_getD, List.getElem?_eq_getElem h]
  exact List.getElem_mem _
theorem Rw.rank {ws : List Wr} {ρ : Nat → Nat} (hρ : ∀ x ∈ ws, x.2.2 = [] → ρ x.1 < ρ x.2.1) {r : List Nat} (h : Rw ws r) : (∀ k ∈ r, (ws.getD k (0, 0, [])).2.2 = []) → ρ (begL ws r) < ρ (endL ws r) := by
  induction h with
  | @one p hp =>
    intro h0
    exact hρ (ws.getD p (0, 0, [])) (getD_mem hp) (h0 p (List.mem_singleton.mpr rfl))
  | @snoc r p h1 hp e _ ih =>
    intro h0
    have a := ih fun k hk => h0 k (List.mem_append.mpr (.inl hk))
    have b : ρ (stA ws p) < ρ (enA ws p) := hρ (ws.getD p (0, 0, [])) (getD_mem hp) (h0 p (List.mem_append.mpr (.inr (List.mem_singleton.mpr rfl))))
    rw [endL_snoc, begL_app _ h1.ne]
    rw [e] at b
    exact Nat.lt_trans a b
theorem loadR_nn (ws : List Wr) : ∀ r : List Nat, 0 ≤ (loadR ws r).sum
  | [] => Int.le_refl 0
  | k :: r => by
    show 0 ≤ (regsAt ws k :: loadR ws r).sum
    rw [List.sum_cons]
    have h1 := loadR_nn ws r
    have h2 : 0 ≤ regsAt ws k := Int.natCast_nonneg _
    omega
theorem loadR_zero {ws : List Wr} : ∀ {r : List Nat}, (loadR ws r).sum < 1 → ∀ k ∈ r, (ws.getD k (0, 0, [])).2.2 = []
  | [], _, k, h => nomatch h
  | k :: r, hs, k', h => by
    have hs : (regsAt ws k :: loadR ws r).sum < 1 := hs
    rw [List.sum_cons] at hs
    have h1 := loadR_nn ws r
    have h2 : 0 ≤ regsAt ws k := Int.natCast_nonneg _
    rcases List.mem_cons.mp h with z | z
    · have h3 : regsAt ws k = 0 := by omega
      rw [z]
      have h4 : ((ws.getD k (0, 0, [])).2.2.length : Int) = 0 := h3
      exact List.eq_nil_of_length_eq_zero (by omega)
    · exact loadR_zero (by omega) k' z
theorem ring_pos {gs : List Gt} {ws : List Wr} (N : NetOk gs ws) {r : List Nat} (h : RingR ws r) : 1 ≤ (loadR ws r).sum := by
  obtain ⟨ρ, hρ⟩ := N.rank
  by_cases z : (loadR ws r).sum < 1
  · have := h.rw.rank hρ (loadR_zero z)
    rw [h.cl] at this
    exact absurd this (Nat.lt_irrefl _)
  · omega
theorem loadR_le {gs : List Gt} {ws : List Wr} (N : NetOk gs ws) : ∀ {r : List Nat}, (∀ k ∈ r, k < ws.length) → (loadR ws r).sum ≤ 900 * (r.length : Int)
  | [], _ => Int.le_refl 0
  | k :: r, h => by
    show (regsAt ws k :: loadR ws r).sum ≤ _
    rw [List.sum_cons, List.length_cons]
    have h1 := loadR_le N (r := r) fun k' z => h k' (List.mem_cons_of_mem _ z)
    have h2 := (N.wok _ (getD_mem (h k List.mem_cons_self))).rl
    have h3 : regsAt ws k = (((ws.getD k (0, 0, [])).2.2.length : Nat) : Int) := rfl
    omega
theorem loadW_b {gs : List Gt} {ws : List Wr} (N : NetOk gs ws) : ∀ {r : List Nat}, (∀ k ∈ r, k < ws.length) → 0 ≤ (loadW gs ws r).sum ∧ (loadW gs ws r).sum ≤ 100 * (r.length : Int)
  | [], _ => ⟨Int.le_refl 0, Int.le_refl 0⟩
  | k :: r, h => by
    show 0 ≤ (waitAt gs (wst ws k) :: loadW gs ws r).sum ∧ (waitAt gs (wst ws k) :: loadW gs ws r).sum ≤ _
    rw [List.sum_cons, List.length_cons]
    have h1 := loadW_b N (r := r) fun k' z => h k' (List.mem_cons_of_mem _ z)
    have h2 : wst ws k < gs.length := (N.wok _ (getD_mem (h k List.mem_cons_self))).s
    have h3 := waitAt_get (List.getElem?_eq_getElem h2)
    have h4 := N.gok _ (List.getElem_mem h2)
    rw [h3]
    have h5 := h4.2.1
    have h6 := h4.2.2.1
    omega
theorem slow_trans {o0 o1 b0 b1 n0 n1 : Int} (h1 : o0 * b1 ≤ b0 * o1) (h2 : b0 * n1 ≤ n0 * b1) (ho : 0 ≤ o1) (hn : 0 ≤ n1) (hb : 0 < b1) : o0 * n1 ≤ n0 * o1 := by
  have h3 := Int.mul_le_mul_of_nonneg_right h1 hn
  have h4 := Int.mul_le_mul_of_nonneg_right h2 ho
  refine Int.le_of_mul_le_mul_right (a := b1) ?_ hb
  have e1 : o0 * n1 * b1 = o0 * b1 * n1 := Int.mul_right_comm ..
  have e2 : n0 * o1 * b1 = n0 * b1 * o1 := Int.mul_right_comm ..
  have e3 : b0 * o1 * n1 = b0 * n1 * o1 := Int.mul_right_comm ..
  omega
/-- no other ring is slower -/
def NoSlow (gs : List Gt) (ws : List Wr) (r o : List Nat) : Prop := (loadW gs ws o).sum * (loadR ws r).sum ≤ (loadW gs ws r).sum * (loadR ws o).sum
theorem mul_b {a b : Int} (h1 : 0 ≤ a) (h2 : a ≤ 1000000) (h3 : 0 ≤ b) (h4 : b ≤ 1000000) : (-(2 ^ 64) : Int) < a ∧ a < 2 ^ 64 := by
  have e : (2 ^ 64 : Int) = 18446744073709551616 := by decide
  constructor <;> omega
def spLoadOf (K : PySem.W.Frag) (C : Addr) : Sp := fun vs H Q _ => ∃ (p ng nw lr : Addr) (gs : List Gt) (ws : List Wr) (r : List Nat), vs = [.ref p, .ref lr] ∧ NetAt K C H p ng nw gs ws ∧ NetOk gs ws ∧ H lr = some (.lst (natV r)) ∧ (∀ k ∈ r, k < ws.length) ∧ r.length ≤ 200 ∧
  ∀ l H', Same H H' → H' l = some (.tup ((load gs ws r).map V.int)) → Q (.ref l) H'
def LoadV (H : Hp) (gs : List Gt) (ws : List Wr) (v : V) (r : List Nat) : Prop := ∃ a, v = .ref a ∧ H a = some (.tup ((load gs ws r).map V.int))
theorem LoadV.same {H H' : Hp} {gs : List Gt} {ws : List Wr} {v : V} {r : List Nat} (s : Same H H') (h : LoadV H gs ws v r) : LoadV H' gs ws v r := by
  obtain ⟨a, e, h⟩ := h
  exact ⟨a, e, s _ _ h⟩
theorem LoadV.lst {H : Hp} {D : Addr} {xs ys : List V} {gs : List Gt} {ws : List Wr} {v : V} {r : List Nat} (e : H D = some (.lst xs)) (h : LoadV H gs ws v r) : LoadV (upd H D (.lst ys)) gs ws v r := by
  obtain ⟨a, e', h⟩ := h
  refine ⟨a, e', ?_⟩
  rw [upd_ne (fun z => by rw [z, e] at h; cases h)]
  exact h
def spLoads (K : PySem.W.Frag) (C : Addr) : Sp := fun vs H Q _ => ∃ (p ng nw : Addr) (gs : List Gt) (ws : List Wr) (M : Nat), vs = [.ref p] ∧ NetAt K C H p ng nw gs ws ∧ NetOk gs ws ∧ (∀ r', Rw ws r' → r'.length ≤ M) ∧ M ≤ 7 ∧ (walks ws (frB ws)).length ≤ 10000000 ∧
  ∀ l lv H', Same H H' → H l = none → H' l = some (.lst lv) → All2 (LoadV H' gs ws) lv (walks ws (frB ws)) → Q (.ref l) H'
def spIsSlow (K : PySem.W.Frag) : Sp := fun vs H Q _ => ∃ (a b : Addr) (x y u v : Int), vs = [.ref a, .ref b] ∧ SqT K H a [.int x, .int y] ∧ SqT K H b [.int u, .int v] ∧ (0 ≤ x ∧ x ≤ 1000000) ∧ (0 ≤ u ∧ u ≤ 1000000) ∧ Q (.bl (decide (u * y < x * v))) H
def spSlow (K : PySem.W.Frag) (C : Addr) : Sp := fun vs H Q _ => ∃ (p ng nw : Addr) (gs : List Gt) (ws : List Wr) (M : Nat), vs = [.ref p] ∧ NetAt K C H p ng nw gs ws ∧ NetOk gs ws ∧ (∀ r', Rw ws r' → r'.length ≤ M) ∧ M ≤ 7 ∧ (walks ws (frB ws)).length ≤ 10000000 ∧
  (walks ws (frB ws) = [] → ∀ H', Same H H' → Q .non H') ∧
  ∀ a r H', walks ws (frB ws) ≠ [] → Same H H' → H a = none → H' a = some (.lst (natV r)) → r ∈ walks ws (frB ws) → (∀ o ∈ walks ws (frB ws), NoSlow gs ws r o) → Q (.ref a) H'
section
variable {P : Program} {w : World} {K : PySem.W.Frag} {mg : Str → Option Value} {base : Heap}
abbrev nLoadOf : List Str := ["net", "ring", "place", "wait"]
theorem scLoadOf : FnScope nLoadOf ["net", "ring"] (defScope sLoadOf) := ⟨rfl, rfl, rfl, by decide +kernel, rfl, by decide +kernel, by decide +kernel⟩
abbrev DLoadOf (P : Program) (w : World) (K : PySem.W.Frag) (mg : Str → Option Value) (base : Heap) (C : Addr) := Df P w K mg base 1 "load_of" ["net", "ring"] (spLoadOf K C)
theorem ok_loadOf {f C : Addr} {fd : FuncData} (F : Fun K "load_of" "load_of" sLoadOf f fd) (hm : mg "load_of" = some (.ref f)) (B : Bt mg) (ms : mg "sum" = none) (T : NT K mg C) : DLoadOf P w K mg base C f fd := by
  refine ⟨?_, hm, F.kp, F.binds fun _ _ _ _ _ _ us hl => match us, hl with | [_, _], _ => rfl⟩
  refine F.ok scLoadOf (fun vs H Q E h => ?_) (fun cdv A outer s H vs Q E hr h => ?_)
  · obtain ⟨p, ng, nw, lr, gs, ws, r, rfl, _⟩ := h
    rfl
  · obtain ⟨p, ng, nw, lr, gs, ws, r, rfl, NA, N, hlr, hlt, hrl, q⟩ := h
    have nd := scLoadOf.nd
    refine ⟨_, pss_cons (ps_set (i := 3) nd rfl (.inl rfl) (pe_callB (cr_sum rfl) (by rfl) ms (by decide +kernel) (pa_cons (pe_lc (own := [("place", 2)]) (g := gName 2) (tt := tYes) (te := tOp (rIxT K) (tOp (rIxL K) (tFld K (tVar 0) "gates") (tOp (rIxT K) (tOp (rIxL K) (tFld K (tVar 0) "wires") (tVar 2)) (tC (.int 0)))) (tC (.int 1))) rfl nd
          (pi_list (pv 1)) (blkOk_by (N := nLoadOf) (sc := defScope sLoadOf) (own := [("place", 2)]) (by decide +kernel)) (fun _ _ _ _ _ => pg_name (i := 2) nd rfl (.inl rfl)) (fun _ _ _ _ _ => pts_nil)
          (fun _ _ _ _ _ => pe_ix ix_tup (pe_ix ix_list (pe_fld (pv 0) rfl) (pe_ix ix_tup (pe_ix ix_list (pe_fld (pv 0) rfl) (pv 2) (fun _ _ => rfl)) pe_int (fun _ _ => rfl)) (fun _ _ => rfl)) pe_int (fun _ _ => rfl))) pa_nil))) <|
      pss_one <| ps_ret <| pe_tup (pa_cons (pv 3) (pa_cons (pe_callB (cr_sum rfl) (by rfl) ms (by decide +kernel) (pa_cons (pe_lc (own := [("place", 2)]) (g := gName 2) (tt := tYes) (te := tCB (Evl.rLenS K) (tCons (tOp (rIxT K) (tOp (rIxL K) (tFld K (tVar 0) "wires") (tVar 2)) (tC (.int 2))) tNil)) rfl nd
          (pi_list (pv 1)) (blkOk_by (N := nLoadOf) (sc := defScope sLoadOf) (own := [("place", 2)]) (by decide +kernel)) (fun _ _ _ _ _ => pg_name (i := 2) nd rfl (.inl rfl)) (fun _ _ _ _ _ => pts_nil)
          (fun _ _ _ _ _ => pe_callB call_len_seq (by rfl) B.len PySem.boot_len (pa_cons (pe_ix ix_tup (pe_ix ix_list (pe_fld (pv 0) rfl) (pv 2) (fun _ _ => rfl)) pe_int (fun _ _ => rfl)) pa_nil))) pa_nil)) pa_nil)), ?_⟩
    have hwl := N.wl
    obtain ⟨dx, ob⟩ := id NA.ob
    obtain ⟨gv, hgv, ga⟩ := id NA.g
    obtain ⟨wv, hwv, wa⟩ := id NA.w
    have hlw : wv.length = ws.length := wa.1
    refine ⟨_, rfl, lr, rfl, ⟨_, SqL.of hlr⟩, fun D hD => ?_⟩
    refine lc_list (K := K) (a := lr) (xs := natV r) (fun i Hc => Hc D = some (.lst ((loadW gs ws (r.take i)).map V.int)) ∧ Same H Hc) ⟨by rw [upd_same]; rfl, same_new hD⟩ (fun i Hc _ ⟨_, sm⟩ => SqL.of (sm _ _ hlr)) ?_ ?_
    · rintro i v Hc hv ⟨hc, sm⟩
      obtain ⟨k, hk, rfl⟩ : ∃ k, r[i]? = some k ∧ v = .int (k : Nat) := by
        rw [List.getElem?_map] at hv
        cases e : r[i]? with
        | none => rw [e] at hv; cases hv
        | some k => rw [e] at hv; cases hv; exact ⟨k, rfl, rfl⟩
      have hkl := hlt k (List.mem_of_getElem? hk)
      obtain ⟨x, hx⟩ : ∃ x, ws[k]? = some x := ⟨_, List.getElem?_eq_getElem hkl⟩
      obtain ⟨v, hv', a, b, rfl, s1, s2⟩ := wa.getR hx
      have WX := N.wok x (List.mem_of_getElem? hx)
      obtain ⟨g, hg⟩ : ∃ g, gs[x.1]? = some g := ⟨_, List.getElem?_eq_getElem WX.s⟩
      obtain ⟨v2, hv2, a2, rfl, s3⟩ := ga.getR hg
      have tk := TK.same sm
      refine ⟨rfl, tyes ?_⟩
      refine ⟨_, rfl, p, C, dx, _, _, rfl, sm _ _ ob, T.cl, T.nG, nf_gates _ _, _, rfl, p, C, dx, _, _, rfl, sm _ _ ob, T.cl, T.nW, nf_wires _ _, _, rfl, nw, wv, _, _, rfl, rfl, SqL.of (sm _ _ hwv), atI_nat hv', a, _, _, .int x.1, rfl, rfl, tk.seq s1, atI_nat (j := 0) rfl, ng, gv, _, _, rfl, rfl, SqL.of (sm _ _ hgv), atI_nat hv2, a2, _, _, .int g.2, rfl, rfl, tk.seq s3, atI_nat (j := 1) rfl, _, hc, ?_, ?_, same_mut sm hD⟩
      · unfold loadW
        rw [List.length_map, List.length_map, List.length_take]
        exact small1000 (by omega)
      · rw [upd_same, List.take_add_one, hk]
        unfold loadW
        rw [List.map_append, List.map_append]
        show _ = some (HO.lst (_ ++ [V.int (waitAt gs (wst ws k))]))
        rw [wst_at hx, waitAt_get hg]
    rintro H1 ⟨hc1, sm1⟩
    rw [nat_len, List.take_length] at hc1
    refine ⟨D, _, rfl, SqL.of hc1, ?_⟩
    have tk1 := TK.same sm1
    refine gn_norm (σ' := [some (.ref p), some (.ref lr), none, some (.int (loadW gs ws r).sum)]) rfl ?_
    refine ⟨_, rfl, _, rfl, lr, rfl, ⟨_, SqL.of (sm1 _ _ hlr)⟩, fun D2 hD2 => ?_⟩
    refine lc_list (K := K) (a := lr) (xs := natV r) (fun i Hc => Hc D2 = some (.lst ((loadR ws (r.take i)).map V.int)) ∧ Same H1 Hc) ⟨by rw [upd_same]; rfl, same_new hD2⟩ (fun i Hc _ ⟨_, sm⟩ => SqL.of (sm _ _ (sm1 _ _ hlr))) ?_ ?_
    · rintro i v Hc hv ⟨hc, sm⟩
      obtain ⟨k, hk, rfl⟩ : ∃ k, r[i]? = some k ∧ v = .int (k : Nat) := by
        rw [List.getElem?_map] at hv
        cases e : r[i]? with
        | none => rw [e] at hv; cases hv
        | some k => rw [e] at hv; cases hv; exact ⟨k, rfl, rfl⟩
      have hkl := hlt k (List.mem_of_getElem? hk)
      obtain ⟨x, hx⟩ : ∃ x, ws[k]? = some x := ⟨_, List.getElem?_eq_getElem hkl⟩
      obtain ⟨v, hv', a, b, rfl, s1, s2⟩ := wa.getR hx
      have sm' := sm1.trans sm
      have tk := TK.same sm'
      refine ⟨rfl, tyes ?_⟩
      refine ⟨_, rfl, p, C, dx, _, _, rfl, sm' _ _ ob, T.cl, T.nW, nf_wires _ _, _, rfl, nw, wv, _, _, rfl, rfl, SqL.of (sm' _ _ hwv), atI_nat hv', a, _, _, .ref b, rfl, rfl, tk.seq s1, atI_nat (j := 2) rfl, b, _, rfl, .inr (tk.seq s2), _, hc, ?_, ?_, same_mut sm hD2⟩
      · unfold loadR
        rw [List.length_map, List.length_map, List.length_take]
        exact small1000 (by omega)
      · rw [upd_same, List.take_add_one, hk]
        unfold loadR
        rw [List.map_append, List.map_append, List.length_map]
        show _ = some (HO.lst (_ ++ [V.int (regsAt ws k)]))
        rw [regsAt_get hx]
    rintro H2 ⟨hc2, sm2⟩
    rw [nat_len, List.take_length] at hc2
    refine ⟨D2, _, rfl, SqL.of hc2, (by show 2 ≤ sizeLine; decide), fun l hl => ?_⟩
    exact q l _ ((sm1.trans sm2).trans (same_new hl)) upd_same
abbrev nLoads : List Str := ["net", "ring"]
theorem scLoads : FnScope nLoads ["net"] (defScope sLoads) := ⟨rfl, rfl, rfl, by decide +kernel, rfl, by decide +kernel, by decide +kernel⟩
abbrev DLoads (P : Program) (w : World) (K : PySem.W.Frag) (mg : Str → Option Value) (base : Heap) (C : Addr) := Df P w K mg base 11 "loads" ["net"] (spLoads K C)
theorem ok_loads {f fL fR C : Addr} {fd fdL fdR : FuncData} (F : Fun K "loads" "loads" sLoads f fd) (hm : mg "loads" = some (.ref f)) (DLO : DLoadOf P w K mg base C fL fdL) (DRi : DRings P w K mg base C fR fdR) : DLoads P w K mg base C f fd := by
  refine ⟨?_, hm, F.kp, F.binds fun _ _ _ _ _ _ us hl => match us, hl with | [_], _ => rfl⟩
  refine F.ok scLoads (fun vs H Q E h => ?_) (fun cdv A outer s H vs Q E hr h => ?_)
  · obtain ⟨p, ng, nw, gs, ws, M, rfl, _⟩ := h
    rfl
  · obtain ⟨p, ng, nw, gs, ws, M, rfl, NA, N, hM, hM7, hcap, q⟩ := h
    have nd := scLoads.nd
    refine ⟨_, pss_one (ps_ret (pe_lc (own := [("ring", 1)]) (g := (gName 1)) (tt := tYes) (te := (tCall (spLoadOf K C) [] E0 (tCons (tVar 0) (tCons (tVar 1) tNil)))) rfl nd (pi_list (pe_call DRi.ok (hr.mono (by decide)) (by rfl) DRi.mg DRi.kp DRi.bd .nil pass0 (pa_cons (pv 0) pa_nil))) (blkOk_by (N := nLoads) (sc := defScope sLoads) (own := [("ring", 1)]) (by decide +kernel)) (fun _ _ _ _ _ => (pg_name (i := 1) nd rfl (.inl rfl))) (fun _ _ _ _ _ => pts_nil) (fun _ _ _ _ _ => (pe_call DLO.ok (hr.mono (by decide)) (by rfl) DLO.mg DLO.kp DLO.bd .nil pass0 (pa_cons (pv 0) (pa_cons (pv 1) pa_nil)))))), ?_⟩
    refine ⟨_, rfl, p, ng, nw, gs, ws, M, rfl, NA, N, hM, hM7, hcap, fun lt tv H1 sm1 hlt elt trw => ?_⟩
    refine ⟨lt, rfl, ⟨_, SqL.of elt⟩, fun D hD => ?_⟩
    have hD0 : H D = none := sm1.free hD
    have nD : lt ≠ D := ne_of_none elt hD
    have htl : tv.length = (walks ws (frB ws)).length := trw.1
    refine lc_list (K := K) (a := lt) (xs := tv) (fun i Hc => ∃ acc, Hc D = some (.lst acc) ∧ acc.length = i ∧ All2 (LoadV Hc gs ws) acc ((walks ws (frB ws)).take i) ∧ Same H1 Hc) ⟨[], upd_same, rfl, All2.nil, same_new hD⟩ (fun i Hc _ ⟨_, _, _, _, sm⟩ => SqL.of (sm _ _ elt)) ?_ ?_
    · rintro i v Hc hv ⟨acc, hc, hal, aa, sm⟩
      obtain ⟨r, hr', a, rfl, na, _, ha⟩ := trw.get hv
      have hi : i < tv.length := (List.getElem?_eq_some_iff.mp hv).1
      have hring := (mem_walks (frB_ok ws)).mp (List.mem_of_getElem? hr')
      have hrl := hM _ hring.rw
      refine ⟨rfl, tyes ?_⟩
      refine ⟨_, rfl, _, rfl, p, ng, nw, a, gs, ws, r, rfl, (NA.same sm1).same sm, N, sm _ _ ha, hring.rw.lt, by omega, fun l H' s' el => ?_⟩
      refine ⟨acc, s' _ _ hc, by show _ < 2 ^ 24; omega, acc ++ [.ref l], upd_same, by rw [List.length_append, hal]; rfl, ?_, same_mut (sm.trans s') hD⟩
      rw [List.take_add_one, hr']
      exact (aa.imp fun _ _ z => (z.same s').lst (s' _ _ hc)).snoc (LoadV.lst (s' _ _ hc) ⟨l, rfl, el⟩)
    · rintro H2 ⟨acc, hc, hal, aa, sm⟩
      rw [htl, List.take_length] at aa
      exact q D acc H2 (sm1.trans sm) hD0 hc aa
abbrev nIsSlow : List Str := ["load", "other"]
theorem scIsSlow : FnScope nIsSlow ["load", "other"] (defScope sIsSlow) := ⟨rfl, rfl, rfl, by decide +kernel, rfl, by decide +kernel, by decide +kernel⟩
abbrev DIsSlow (P : Program) (w : World) (K : PySem.W.Frag) (mg : Str → Option Value) (base : Heap) := Df P w K mg base 1 "is_slower" ["load", "other"] (spIsSlow K)
theorem ok_isSlow {f : Addr} {fd : FuncData} (F : Fun K "is_slower" "is_slower" sIsSlow f fd) (hm : mg "is_slower" = some (.ref f)) : DIsSlow P w K mg base f fd := by
  refine ⟨?_, hm, F.kp, F.binds fun _ _ _ _ _ _ us hl => match us, hl with | [_, _], _ => rfl⟩
  refine F.ok scIsSlow (fun vs H Q E h => ?_) (fun cdv A outer s H vs Q E hr h => ?_)
  · obtain ⟨a, b, x, y, u, v, rfl, _⟩ := h
    rfl
  · obtain ⟨a, b, x, y, u, v, rfl, s1, s2, ⟨x0, x1⟩, ⟨u0, u1⟩, q⟩ := h
    have nd := scIsSlow.nd
    refine ⟨_, pss_one (ps_ret (pe_cmpR op_gt (pe_op op_mul (pe_ix ix_tup (pv 0) pe_int (fun _ _ => rfl)) (pe_ix ix_tup (pv 1) pe_int (fun _ _ => rfl))) (pe_op op_mul (pe_ix ix_tup (pv 1) pe_int (fun _ _ => rfl)) (pe_ix ix_tup (pv 0) pe_int (fun _ _ => rfl))) (nomark _))), ?_⟩
    have bx := mul_b x0 x1 (Int.le_refl 0) (by decide)
    have bu := mul_b u0 u1 (Int.le_refl 0) (by decide)
    refine ⟨_, rfl, a, _, _, .int x, rfl, rfl, s1, atI_nat (j := 0) rfl, _, rfl, b, _, _, .int v, rfl, rfl, s2, atI_nat (j := 1) rfl, _, _, rfl, rfl, .inl bx, ?_⟩
    refine ⟨_, rfl, b, _, _, .int u, rfl, rfl, s2, atI_nat (j := 0) rfl, _, rfl, a, _, _, .int y, rfl, rfl, s1, atI_nat (j := 1) rfl, _, _, rfl, rfl, .inl bu, ?_⟩
    exact ⟨_, _, rfl, rfl, q⟩
abbrev nSlow : List Str := ["net", "best", "ring"]
theorem scSlow : FnScope nSlow ["net"] (defScope sSlow) := ⟨rfl, rfl, rfl, by decide +kernel, rfl, by decide +kernel, by decide +kernel⟩
abbrev DSlow (P : Program) (w : World) (K : PySem.W.Frag) (mg : Str → Option Value) (base : Heap) (C : Addr) := Df P w K mg base 11 "slowest" ["net"] (spSlow K C)
theorem ok_slow {f fL fR fI C : Addr} {fd fdL fdR fdI : FuncData} (F : Fun K "slowest" "slowest" sSlow f fd) (hm : mg "slowest" = some (.ref f)) (DLO : DLoadOf P w K mg base C fL fdL) (DRi : DRings P w K mg base C fR fdR) (DIS : DIsSlow P w K mg base fI fdI) : DSlow P w K mg base C f fd := by
  refine ⟨?_, hm, F.kp, F.binds fun _ _ _ _ _ _ us hl => match us, hl with | [_], _ => rfl⟩
  refine F.ok scSlow (fun vs H Q E h => ?_) (fun cdv A outer s H vs Q E hr h => ?_)
  · obtain ⟨p, ng, nw, gs, ws, M, rfl, _⟩ := h
    rfl
  · obtain ⟨p, ng, nw, gs, ws, M, rfl, NA, N, hM, hM7, hcap, q0, q⟩ := h
    have nd := scSlow.nd
    refine ⟨_, pss_cons (ps_set (i := 1) nd rfl (.inl rfl) pe_non) <|
        pss_cons (ps_for PassesOwn.never rfl (pi_list (pe_call DRi.ok (hr.mono (by decide)) (by rfl) DRi.mg DRi.kp DRi.bd .nil pass0 (pa_cons (pv 0) pa_nil))) (pg_name (i := 2) nd rfl (.inl rfl)) (pss_one (ps_if (PW.pt (pw_or (pt_cmpR op_isN (pv 1) pe_non (nomark _)) (pw_or1 (pt_val (pe_call DIS.ok (hr.mono (by decide)) (by rfl) DIS.mg DIS.kp DIS.bd .nil pass0 (pa_cons (pe_call DLO.ok (hr.mono (by decide)) (by rfl) DLO.mg DLO.kp DLO.bd .nil pass0 (pa_cons (pv 0) (pa_cons (pv 2) pa_nil))) (pa_cons (pe_call DLO.ok (hr.mono (by decide)) (by rfl) DLO.mg DLO.kp DLO.bd .nil pass0 (pa_cons (pv 0) (pa_cons (pv 1) pa_nil))) pa_nil))))))) (pss_one (ps_set (i := 1) nd rfl (.inl rfl) (pv 2))) pss_nil))) <|
        pss_one (ps_ret (pv 1)), ?_⟩
    refine ⟨_, rfl, p, ng, nw, gs, ws, M, rfl, NA, N, hM, hM7, hcap, fun lt tv H1 sm1 hlt elt trw => ?_⟩
    have htl : tv.length = (walks ws (frB ws)).length := trw.1
    refine ⟨lt, rfl, ⟨_, SqL.of elt⟩, for_list (K := K) (a := lt) (xs := tv) (fun i σ Hc => ∃ (b : V) (s2 : Option V), σ = [some (.ref p), some b, s2] ∧ Same H1 Hc ∧ (i = 0 ∧ b = .non ∨ ∃ (a : Addr) (r : List Nat), b = .ref a ∧ H a = none ∧ H1 a = some (.lst (natV r)) ∧ r ∈ walks ws (frB ws) ∧ ∀ o ∈ (walks ws (frB ws)).take i, NoSlow gs ws r o))
      ⟨_, _, rfl, Same.refl _, .inl ⟨rfl, rfl⟩⟩ (fun i σ Hc _ ⟨_, _, _, sm, _⟩ => SqL.of (sm _ _ elt)) ?_ ?_⟩
    · rintro i v σ Hc hv ⟨b, s2, rfl, sm, hb⟩
      obtain ⟨r, hr', a, rfl, na, ha0, ha⟩ := trw.get hv
      have hrw := List.mem_of_getElem? hr'
      have hring := (mem_walks (frB_ok ws)).mp hrw
      have hrl := hM _ hring.rw
      have hi : i < (walks ws (frB ws)).length := (List.getElem?_eq_some_iff.mp hr').1
      have tk : (walks ws (frB ws)).take (i + 1) = (walks ws (frB ws)).take i ++ [r] := by rw [List.take_add_one, hr']; rfl
      have NA1 := NA.same sm1
      have self : NoSlow gs ws r r := Int.le_refl _
      refine ⟨_, rfl, rfl, _, rfl, ?_⟩
      rcases hb with ⟨i0, rfl⟩ | ⟨a0, r0, rfl, ha00, ha01, hr0, ho⟩
      · refine ite2 (fun _ => ?_) (fun e => absurd (decide_eq_true rfl) e)
        refine ite2 (fun _ => ?_) (fun e => absurd rfl e)
        refine ⟨_, rfl, _, _, rfl, sm, .inr ⟨a, r, rfl, ha0, ha, hrw, fun o ho => ?_⟩⟩
        rw [tk, i0] at ho
        rw [List.mem_singleton.mp ho]
        exact self
      · refine ite2 (fun e => absurd (of_decide_eq_true e) (fun z => nomatch z)) (fun _ => ?_)
        have hring0 := (mem_walks (frB_ok ws)).mp hr0
        have hrl0 := hM _ hring0.rw
        refine ⟨_, rfl, _, rfl, p, ng, nw, a, gs, ws, r, rfl, NA1.same sm, N, sm _ _ ha, hring.rw.lt, by omega, fun l2 H2 s2 e2 => ?_⟩
        refine ⟨_, rfl, _, rfl, p, ng, nw, a0, gs, ws, r0, rfl, (NA1.same sm).same s2, N, s2 _ _ (sm _ _ ha01), hring0.rw.lt, by omega, fun l3 H3 s3 e3 => ?_⟩
        have b1 := loadW_b N hring.rw.lt
        have b2 := loadW_b N hring0.rw.lt
        have b3 := loadR_nn ws r
        refine ⟨l2, l3, (loadW gs ws r).sum, (loadR ws r).sum, (loadW gs ws r0).sum, (loadR ws r0).sum, rfl, .inl (.inl (s3 _ _ e2)), .inl (.inl e3), ⟨b1.1, by omega⟩, ⟨b2.1, by omega⟩, ?_⟩
        have sm' := sm.trans (s2.trans s3)
        refine ⟨_, rfl, ite2 (fun e => ?_) (fun e => ?_)⟩
        · refine ⟨_, rfl, _, _, rfl, sm', .inr ⟨a, r, rfl, ha0, ha, hrw, fun o ho' => ?_⟩⟩
          have e := of_decide_eq_true e
          rw [tk] at ho'
          rcases List.mem_append.mp ho' with z | z
          · exact slow_trans (ho o z) (Int.le_of_lt e) (loadR_nn ws o) b3 (by have := ring_pos N hring0; omega)
          · rw [List.mem_singleton.mp z]
            exact self
        · refine ⟨_, _, rfl, sm', .inr ⟨a0, r0, rfl, ha00, ha01, hr0, fun o ho' => ?_⟩⟩
          have e : ¬ (loadW gs ws r0).sum * (loadR ws r).sum < (loadW gs ws r).sum * (loadR ws r0).sum := fun z => e (decide_eq_true z)
          rw [tk] at ho'
          rcases List.mem_append.mp ho' with z | z
          · exact ho o z
          · rw [List.mem_singleton.mp z]
            show (loadW gs ws r).sum * (loadR ws r0).sum ≤ (loadW gs ws r0).sum * (loadR ws r).sum
            omega
    · rintro σ Hc ⟨b, s2, rfl, sm, hb⟩
      have smA := sm1.trans sm
      rcases hb with ⟨i0, rfl⟩ | ⟨a0, r0, rfl, ha00, ha01, hr0, ho⟩
      · refine ⟨_, rfl, q0 (List.eq_nil_of_length_eq_zero (by omega)) Hc smA⟩
      · rw [htl, List.take_length] at ho
        exact ⟨_, rfl, q a0 r0 Hc (List.ne_nil_of_mem hr0) smA ha00 (sm _ _ ha01) hr0 ho⟩
end
end Lag

set_option maxRecDepth 100000
set_option maxHeartbeats 8000000
namespace Lag
open PySem PySem.Spec PyProof.Rows L2
abbrev sLonger : Stmt := topS 43 -- @_law_longer
abbrev sLRings : Stmt := topS 44 -- @_law_rings
abbrev sLLoad : Stmt := topS 45 -- @_law_load
def RowV (H : Hp) (v : V) (r : List Nat) : Prop := ∃ a, v = .ref a ∧ H a = some (.lst (natV r))
theorem RowV.same {H H' : Hp} {v : V} {r : List Nat} (h : RowV H v r) (s : Same H H') : RowV H' v r := by
  obtain ⟨a, e, h⟩ := h
  exact ⟨a, e, s _ _ h⟩
theorem ToldV.row {H : Hp} {lt : Addr} {Av : Addr → Prop} {v : V} {r : List Nat} (h : ToldV H lt Av v r) : RowV H v r := by
  obtain ⟨a, e, _, _, h⟩ := h
  exact ⟨a, e, h⟩
def longJ (ws : List Wr) (r : List Nat) (m : Nat) : List (List Nat) := ((List.range m).filter fun p => decide (stA ws p = endL ws r ∧ endL ws r ∉ r.map (stA ws))).map fun p => r ++ [p]
theorem longJ_yes {ws : List Wr} {r : List Nat} {m : Nat} (h : stA ws m = endL ws r ∧ endL ws r ∉ r.map (stA ws)) : longJ ws r (m + 1) = longJ ws r m ++ [r ++ [m]] := by
  unfold longJ
  rw [List.range_succ, List.filter_append, List.map_append, List.filter_cons, if_pos (decide_eq_true h), List.filter_nil]
  rfl
theorem longJ_no {ws : List Wr} {r : List Nat} {m : Nat} (h : ¬ (stA ws m = endL ws r ∧ endL ws r ∉ r.map (stA ws))) : longJ ws r (m + 1) = longJ ws r m := by
  unfold longJ
  rw [List.range_succ, List.filter_append, List.map_append, List.filter_cons, if_neg (by rw [decide_eq_false h]; exact Bool.false_ne_true), List.filter_nil, List.map_nil, List.append_nil]
theorem longJ_len {ws : List Wr} {r : List Nat} {m : Nat} : ∀ d, (longJ ws r m).length ≤ (longJ ws r (m + d)).length
  | 0 => Nat.le_refl _
  | d + 1 => by
    refine Nat.le_trans (longJ_len d) ?_
    rw [← Nat.add_assoc]
    by_cases z : stA ws (m + d) = endL ws r ∧ endL ws r ∉ r.map (stA ws)
    · rw [longJ_yes z, List.length_append]
      omega
    · rw [longJ_no z]
      exact Nat.le_refl _
theorem flat_take {α β : Type} {f : α → List β} {l : List α} (k : Nat) : ((l.take k).flatMap f).length ≤ (l.flatMap f).length := by
  have e : (l.flatMap f).length = ((l.take k ++ l.drop k).flatMap f).length := by rw [List.take_append_drop]
  rw [e, List.flatMap_append, List.length_append]
  omega
theorem flat_snoc {α β : Type} {f : α → List β} {l : List α} {k : Nat} {a : α} (h : l[k]? = some a) : (l.take (k + 1)).flatMap f = (l.take k).flatMap f ++ f a := by
  rw [List.take_add_one, h, List.flatMap_append]
  show _ ++ List.flatMap f [a] = _
  rw [List.flatMap_cons, List.flatMap_nil, List.append_nil]
def spLonger (K : PySem.W.Frag) : Sp := fun vs H Q _ => ∃ (lw lr : Addr) (ws : List Wr) (rv : List V) (rs : List (List Nat)), vs = [.ref lw, .ref lr] ∧ LW K H lw ws ∧ ws.length ≤ 100 ∧ H lr = some (.lst rv) ∧ All2 (RowV H) rv rs ∧ (∀ r ∈ rs, Rw ws r) ∧ (rs.flatMap (longR ws)).length ≤ 1000000 ∧
  ∀ l tv H', Same H H' → H' l = some (.lst tv) → All2 (RowV H') tv (rs.flatMap (longR ws)) → Q (.ref l) H'
def spLRings (K : PySem.W.Frag) : Sp := fun vs H Q _ => ∃ (lw : Addr) (ws : List Wr), vs = [.ref lw] ∧ LW K H lw ws ∧ ws.length ≤ 100 ∧ (∀ k, (rowsL ws k).length ≤ 1000000) ∧ (∀ k, (foundL ws k).length ≤ 8000000) ∧
  ∀ l tv H', Same H H' → H l = none → H' l = some (.lst tv) → All2 (RowV H') tv (walks ws (frB ws)) → Q (.ref l) H'
def spLLoad (K : PySem.W.Frag) : Sp := fun vs H Q _ => ∃ (lg lw lr : Addr) (gs : List Gt) (ws : List Wr) (r : List Nat), vs = [.ref lg, .ref lw, .ref lr] ∧ LG K H lg gs ∧ LW K H lw ws ∧ NetOk gs ws ∧ H lr = some (.lst (natV r)) ∧ (∀ k ∈ r, k < ws.length) ∧ r.length ≤ 200 ∧
  ∀ l H', Same H H' → H' l = some (.tup ((load gs ws r).map V.int)) → Q (.ref l) H'
section
variable {P : Program} {w : World} {K : PySem.W.Frag} {mg : Str → Option Value} {base : Heap}
abbrev nLonger : List Str := ["_law_wires_here", "_law_rows", "_law_later", "_law_row", "_law_here", "_law_place", "_law_starts"]
theorem scLonger : FnScope nLonger ["_law_wires_here", "_law_rows"] (defScope sLonger) := ⟨rfl, rfl, rfl, by decide +kernel, rfl, by decide +kernel, by decide +kernel⟩
abbrev DLonger (P : Program) (w : World) (K : PySem.W.Frag) (mg : Str → Option Value) (base : Heap) := Df P w K mg base 1 "_law_longer" ["_law_wires_here", "_law_rows"] (spLonger K)
theorem ok_longer {f : Addr} {fd : FuncData} (F : Fun K "_law_longer" "_law_longer" sLonger f fd) (hm : mg "_law_longer" = some (.ref f)) (B : Bt mg) : DLonger P w K mg base f fd := by
  refine ⟨?_, hm, F.kp, F.binds fun _ _ _ _ _ _ us hl => match us, hl with | [_, _], _ => rfl⟩
  refine F.ok scLonger (fun vs H Q E h => ?_) (fun cdv A outer s H vs Q E hr h => ?_)
  · obtain ⟨lw, lr, ws, rv, rs, rfl, _⟩ := h
    rfl
  · obtain ⟨lw, lr, ws, rv, rs, rfl, W, hwl, hrv, ra, hrs, hcap, q⟩ := h
    have nd := scLonger.nd
    refine ⟨_, pss_cons (ps_set (i := 2) nd rfl (.inl rfl) (pe_lst pa_nil)) <|
        pss_cons (ps_for PassesOwn.never rfl (pi_list (pv 1)) (pg_name (i := 3) nd rfl (.inl rfl)) (pss_cons (ps_set (i := 4) nd rfl (.inl rfl) (pe_ix ix_tup (pe_ix ix_list (pv 0) (pe_ix ix_list (pv 3) (pe_un un_neg pe_int) (fun _ _ => rfl)) (fun _ _ => rfl)) pe_int (fun _ _ => rfl))) <|
        pss_cons (ps_setLc (i := 6) (own := [("_law_place", 5)]) (g := (gName 5)) (tt := tYes) (te := (tOp (rIxT K) (tOp (rIxL K) (tVar 0) (tVar 5)) (tC (.int 0)))) rfl nd rfl rfl (sw_true rfl rfl rfl (by decide +kernel)) (pi_list (pv 3)) (blkOk_by (N := nLonger) (sc := defScope sLonger) (own := [("_law_place", 5)]) (by decide +kernel)) (fun _ _ _ _ _ => (pg_name (i := 5) nd rfl (.inl rfl))) (fun _ _ _ _ _ => pts_nil) (fun _ _ _ _ _ => (pe_ix ix_tup (pe_ix ix_list (pv 0) (pv 5) (fun _ _ => rfl)) pe_int (fun _ _ => rfl)))) <|
        pss_one (ps_for PassesOwn.never rfl (pi_range1 (by rfl) B.range (pa_cons (pe_callB call_len_seq (by rfl) B.len PySem.boot_len (pa_cons (pv 0) pa_nil)) pa_nil)) (pg_name (i := 5) nd rfl (.inl rfl)) (pss_one (ps_if (PW.pt (pw_and (pt_cmpR op_eq (pe_ix ix_tup (pe_ix ix_list (pv 0) (pv 5) (fun _ _ => rfl)) pe_int (fun _ _ => rfl)) (pv 4) (nomark _)) (pw_and1 (pt_cmpR op_notIn_seq (pv 4) (pv 6) (by rfl))))) (pss_one (ps_expr (pe_bm PySem.F.plainAttrs_list PySem.F.slot_list_append PySem.F.type_list_append mt_append (pv 2) (pa_cons (pe_op op_cat (pv 3) (pe_lst (pa_cons (pv 5) pa_nil))) pa_nil)))) pss_nil))))) <|
        pss_one (ps_ret (pv 2)), ?_⟩
    obtain ⟨wv, hwv, wa⟩ := id W
    have hlw : wv.length = ws.length := wa.1
    refine ⟨(by show 0 ≤ sizeLine; decide), fun lt hlt => ?_⟩
    have sm0 : Same H (upd H lt (.lst [])) := same_new hlt
    have e0 : (upd H lt (.lst [])) lt = some (.lst []) := upd_same
    generalize upd H lt (.lst []) = H1 at sm0 e0
    refine gn_norm (σ' := [some (.ref lw), some (.ref lr), some (.ref lt), none, none, none, none]) rfl ?_
    have nlw : lw ≠ lt := ne_of_none hwv hlt
    have nlr : lr ≠ lt := ne_of_none hrv hlt
    refine ⟨_, rfl, lr, rfl, ⟨_, SqL.of (sm0 _ _ hrv)⟩, for_list (K := K) (a := lr) (xs := rv) (fun i σ Hc => ∃ (t3 t4 t5 t6 : Option V) (acc : List V), σ = [some (.ref lw), some (.ref lr), some (.ref lt), t3, t4, t5, t6] ∧ Hc lt = some (.lst acc) ∧ All2 (ToldV Hc lt fun _ => True) acc ((rs.take i).flatMap (longR ws)) ∧ But lt H1 Hc)
      ⟨_, _, _, _, [], rfl, e0, All2.nil, But.refl _ _⟩ (fun i σ Hc _ ⟨_, _, _, _, _, _, _, _, bt⟩ => SqL.of (bt _ _ nlr (sm0 _ _ hrv))) ?_ ?_⟩
    · rintro i v σ Hc hv ⟨t3, t4, t5, t6, acc, rfl, hacc, aa, bt⟩
      obtain ⟨r, hr', a, rfl, ha⟩ := ra.get hv
      have hrw := hrs r (List.mem_of_getElem? hr')
      have hrl := hrw.len
      have nla : a ≠ lt := ne_of_none ha hlt
      have old : ∀ {b : Addr} {o : HO}, H b = some o → Hc b = some o := fun {b o} h => bt _ _ (ne_of_none h hlt) (sm0 _ _ h)
      have tk : TK H Hc := fun b o t h => old h
      obtain ⟨k0, r0, rfl⟩ : ∃ k0 r0, r = k0 :: r0 := by
        cases r with
        | nil => exact absurd rfl hrw.ne
        | cons k0 r0 => exact ⟨k0, r0, rfl⟩
      obtain ⟨r1, kl, hrk⟩ : ∃ r1 kl, k0 :: r0 = r1 ++ [kl] := ⟨_, _, (List.dropLast_concat_getLast (List.cons_ne_nil _ _)).symm⟩
      have hkl := hrw.lt kl (by rw [hrk]; simp)
      obtain ⟨x, hx⟩ : ∃ x, ws[kl]? = some x := ⟨_, List.getElem?_eq_getElem hkl⟩
      obtain ⟨v1, hv1, a1, b1, rfl, s11, s12⟩ := wa.getR hx
      have ee : endL ws (k0 :: r0) = x.2.1 := by rw [hrk, endL_snoc]; exact wen_at hx
      refine gn_norm (σ' := [some (.ref lw), some (.ref lr), some (.ref lt), some (.ref a), t4, t5, t6]) rfl ?_
      refine ⟨_, rfl, _, rfl, _, rfl, a, _, _, .int (kl : Nat), rfl, rfl, SqL.of (old ha), ?_, lw, wv, _, _, rfl, rfl, SqL.of (old hwv), atI_nat hv1, a1, _, _, .int x.2.1, rfl, rfl, tk.seq s11, atI_nat (j := 1) rfl, ?_⟩
      · rw [hrk]
        show atI (List.map _ (_ ++ _)) _ = _
        rw [List.map_append]
        exact atI_last _ _
      refine gn_norm (σ' := [some (.ref lw), some (.ref lr), some (.ref lt), some (.ref a), some (.int (x.2.1 : Nat)), t5, t6]) rfl ?_
      -- starts
      refine ⟨_, rfl, a, rfl, ⟨_, SqL.of (old ha)⟩, fun D hD => ?_⟩
      have nDl : D ≠ lt := (ne_of_none hacc hD).symm
      have rl1 : ((k0 :: r0).map (wst ws)).length = (k0 :: r0).length := by simp
      refine lc_list (K := K) (a := a) (xs := natV (k0 :: r0)) (fun j Hd => Hd D = some (.lst (natV (((k0 :: r0).map (wst ws)).take j))) ∧ Same Hc Hd) ⟨upd_same, same_new hD⟩ (fun j Hd _ ⟨_, sm⟩ => SqL.of (sm _ _ (old ha))) ?_ ?_
      · rintro j v Hd hv ⟨hd, sm⟩
        obtain ⟨k, hk, rfl⟩ : ∃ k, (k0 :: r0)[j]? = some k ∧ v = .int (k : Nat) := by
          rw [List.getElem?_map] at hv
          cases e : (k0 :: r0)[j]? with
          | none => rw [e] at hv; cases hv
          | some k => rw [e] at hv; cases hv; exact ⟨k, rfl, rfl⟩
        have hkl := hrw.lt k (List.mem_of_getElem? hk)
        obtain ⟨y, hy⟩ : ∃ y, ws[k]? = some y := ⟨_, List.getElem?_eq_getElem hkl⟩
        obtain ⟨v2, hv2, a2, b2, rfl, s21, s22⟩ := wa.getR hy
        refine ⟨rfl, tyes ?_⟩
        refine ⟨_, rfl, _, rfl, lw, wv, _, _, rfl, rfl, SqL.of (sm _ _ (old hwv)), atI_nat hv2, a2, _, _, .int y.1, rfl, rfl, (TK.same sm).seq (tk.seq s21), atI_nat (j := 0) rfl, _, hd, ?_, ?_, same_mut sm hD⟩
        · rw [nat_len, List.length_take, rl1]
          exact small1000 (by omega)
        · rw [upd_same, List.take_add_one, List.getElem?_map, hk]
          show _ = some (HO.lst (natV (_ ++ [wst ws k])))
          rw [wst_at hy]
          show _ = some (HO.lst (List.map _ (_ ++ _)))
          rw [List.map_append]
          rfl
      rintro H2 ⟨hD2, sm2⟩
      rw [nat_len, ← rl1, List.take_length] at hD2
      refine gn_norm (σ' := [some (.ref lw), some (.ref lr), some (.ref lt), some (.ref a), some (.int (x.2.1 : Nat)), t5, some (.ref D)]) rfl ?_
      refine ⟨_, rfl, lw, wv, rfl, .inl (SqL.of (sm2 _ _ (old hwv))), _, rfl, by rw [hlw]; omega, by rw [hlw]; omega, ?_⟩
      rw [hlw, Int.toNat_natCast]
      have hcap1 := flat_take (f := longR ws) (l := rs) (i + 1)
      rw [flat_snoc hr', List.length_append] at hcap1
      refine for_range (lo := 0) (n := ws.length) (fun j σ Hd => ∃ (t5 : Option V) (acc : List V), σ = [some (.ref lw), some (.ref lr), some (.ref lt), some (.ref a), some (.int (x.2.1 : Nat)), t5, some (.ref D)] ∧ Hd lt = some (.lst acc) ∧ All2 (ToldV Hd lt fun _ => True) acc ((rs.take i).flatMap (longR ws) ++ longJ ws (k0 :: r0) j) ∧ But lt H2 Hd)
        ⟨_, acc, rfl, sm2 _ _ hacc, (by rw [show longJ ws (k0 :: r0) 0 = [] from rfl, List.append_nil]; exact aa.imp fun _ _ z => z.but (But.same sm2)), But.refl _ _⟩ ?_ ?_
      · rintro j σ Hd hj ⟨t5, acc, rfl, hacc, aa, bd⟩
        have ek : (0 : Int) + (j : Nat) = ((j : Nat) : Int) := Int.zero_add _
        rw [ek]
        have old2 : ∀ {b : Addr} {o : HO}, H b = some o → Hd b = some o := fun {b o} h => bd _ _ (ne_of_none h hlt) (sm2 _ _ (old h))
        have tk2 : TK H Hd := fun b o t h => old2 h
        have hDd := bd _ _ nDl hD2
        obtain ⟨y, hy⟩ : ∃ y, ws[j]? = some y := ⟨_, List.getElem?_eq_getElem hj⟩
        obtain ⟨v2, hv2, a2, b2, rfl, s21, s22⟩ := wa.getR hy
        have ew : stA ws j = y.1 := wst_at hy
        have keep : ¬ (stA ws j = endL ws (k0 :: r0) ∧ endL ws (k0 :: r0) ∉ (k0 :: r0).map (stA ws)) → ∃ (t5 : Option V) (acc : List V), [some (.ref lw), some (.ref lr), some (.ref lt), some (.ref a), some (.int (x.2.1 : Nat)), some (V.int (j : Nat)), some (.ref D)] = [some (.ref lw), some (.ref lr), some (.ref lt), some (.ref a), some (.int (x.2.1 : Nat)), t5, some (.ref D)] ∧ Hd lt = some (.lst acc) ∧ All2 (ToldV Hd lt fun _ => True) acc ((rs.take i).flatMap (longR ws) ++ longJ ws (k0 :: r0) (j + 1)) ∧ But lt H2 Hd := fun no => ⟨_, acc, rfl, hacc, by rw [longJ_no no]; exact aa, bd⟩
        refine ⟨_, rfl, _, rfl, lw, wv, _, _, rfl, rfl, SqL.of (old2 hwv), atI_nat hv2, a2, _, _, .int y.1, rfl, rfl, tk2.seq s21, atI_nat (j := 0) rfl, _, rfl, rfl, _, rfl, ite2 (fun e1 => ?_) (fun e1 => iteF (keep fun z => e1 (by rw [← ew, z.1, ee]; exact decide_eq_true rfl)))⟩
        refine ⟨_, rfl, _, rfl, D, _, rfl, .inl (SqL.of hDd), rfl, nat_flat _, _, rfl, ?_⟩
        rw [show inV (V.int (x.2.1 : Nat)) (natV ((k0 :: r0).map (wst ws))) = decide (x.2.1 ∈ (k0 :: r0).map (wst ws)) from nat_in]
        refine ite2 (fun e2 => ?_) (fun e2 => keep fun z => e2 (by
          have z2 : endL ws (k0 :: r0) ∉ (k0 :: r0).map (wst ws) := z.2
          rw [ee] at z2
          rw [decide_eq_false z2]
          rfl))
        have h1 : y.1 = x.2.1 := by
          have := V.int.inj (of_decide_eq_true e1)
          omega
        have h2 : x.2.1 ∉ (k0 :: r0).map (wst ws) := of_decide_eq_false (by simpa using e2)
        have yes : stA ws j = endL ws (k0 :: r0) ∧ endL ws (k0 :: r0) ∉ (k0 :: r0).map (stA ws) := ⟨by rw [ew, ee, h1], by rw [ee]; exact h2⟩
        have hc2 := longJ_len (ws := ws) (r := k0 :: r0) (m := j + 1) (ws.length - (j + 1))
        rw [show j + 1 + (ws.length - (j + 1)) = ws.length by omega, longJ_yes yes, List.length_append] at hc2
        have hc3 : (longJ ws (k0 :: r0) ws.length).length = (longR ws (k0 :: r0)).length := rfl
        have hal := aa.1
        rw [List.length_append] at hal
        refine ⟨_, rfl, .inl ⟨rfl, _, SqL.of hacc⟩, _, rfl, _, rfl, (by show 1 ≤ sizeLine; decide), fun l3 hl3 => ?_⟩
        have b3 : But lt Hd (upd Hd l3 (.lst [.int (j : Nat)])) := But.new hl3
        have hlt3 : (upd Hd l3 (.lst [.int (j : Nat)])) lt = some (.lst acc) := by rw [upd_ne (ne_of_none hacc hl3)]; exact hacc
        have e3 : (upd Hd l3 (.lst [.int (j : Nat)])) l3 = some (.lst [.int (j : Nat)]) := upd_same
        generalize upd Hd l3 (.lst [.int (j : Nat)]) = H3 at b3 hlt3 e3
        refine ⟨a, l3, _, _, rfl, rfl, b3 _ _ nla (old2 ha), e3, ?_, fun l4 hl4 => ?_⟩
        · rw [nat_len]
          exact Nat.le_of_lt (small1000 (by show _ + 1 ≤ 1000; omega))
        have b4 : But lt H3 (upd H3 l4 (.lst (natV (k0 :: r0) ++ [.int (j : Nat)]))) := But.new hl4
        have hlt4 : (upd H3 l4 (.lst (natV (k0 :: r0) ++ [.int (j : Nat)]))) lt = some (.lst acc) := by rw [upd_ne (ne_of_none hlt3 hl4)]; exact hlt3
        have e4 : (upd H3 l4 (.lst (natV (k0 :: r0) ++ [.int (j : Nat)]))) l4 = some (.lst (natV ((k0 :: r0) ++ [j]))) := by
          rw [upd_same]
          show _ = some (HO.lst (List.map _ ((k0 :: r0) ++ _)))
          rw [List.map_append]
          rfl
        have n4 : l4 ≠ lt := (ne_of_none hlt3 hl4).symm
        generalize upd H3 l4 (.lst (natV (k0 :: r0) ++ [.int (j : Nat)])) = H4 at b4 hlt4 e4
        have b24 := b3.trans b4
        refine ⟨lt, acc, _, rfl, rfl, hlt4, (by show _ < 2 ^ 24; omega), ?_⟩
        refine ⟨_, acc ++ [.ref l4], rfl, upd_same, ?_, (bd.trans b24).trans But.upd⟩
        rw [longJ_yes yes, ← List.append_assoc]
        refine All2.snoc (aa.imp fun v r' z => (z.but b24).but But.upd) ⟨l4, rfl, n4, trivial, by rw [upd_ne n4]; exact e4⟩
      · rintro σ Hd ⟨t5, acc, rfl, hacc, aa, bd⟩
        refine ⟨_, _, _, _, acc, rfl, hacc, ?_, (bt.trans (But.same sm2)).trans bd⟩
        rw [flat_snoc hr']
        exact aa
    · rintro σ Hc ⟨t3, t4, t5, t6, acc, rfl, hacc, aa, bt⟩
      rw [ra.1, List.take_length] at aa
      refine ⟨_, rfl, q lt acc Hc (fun b o h => bt b o (ne_of_none h hlt) (sm0 _ _ h)) hacc (aa.imp fun _ _ z => z.row)⟩
end
end Lag

set_option maxRecDepth 100000
set_option maxHeartbeats 8000000
namespace Lag
open PySem PySem.Spec PyProof.Rows L2
def intOf : V → Int
  | .int i => i
  | _ => 0
def rowK (H : Hp) : V → List Int
  | .ref a => (match H a with
    | some (.lst xs) => xs.map intOf
    | _ => [])
  | _ => []
theorem rowK_at {H : Hp} {a : Addr} {r : List Nat} (h : H a = some (.lst (natV r))) : rowK H (.ref a) = intsN r := by
  show (match H a with | some (.lst xs) => xs.map intOf | _ => []) = _
  rw [h]
  show (natV r).map intOf = _
  unfold natV intsN
  rw [List.map_map]
  rfl
theorem intsN_V (r : List Nat) : (intsN r).map V.int = natV r := by
  unfold natV intsN
  rw [List.map_map]
  rfl
theorem all2_map {α β γ : Type} {f : α → γ} {g : β → γ} {R : α → β → Prop} (h : ∀ x y, R x y → f x = g y) : ∀ {xs : List α} {ys : List β}, All2 R xs ys → xs.map f = ys.map g
  | [], [], _ => rfl
  | [], _ :: _, a => by have := a.1; simp at this
  | _ :: _, [], a => by have := a.1; simp at this
  | x :: xs, y :: ys, a => by rw [List.map_cons, List.map_cons, h _ _ a.head, all2_map h a.tail]
theorem found_succ (ws : List Wr) (k : Nat) : foundL ws (k + 1) = foundL ws k ++ (rowsL ws k).filter (ringB ws) := by
  unfold foundL
  rw [List.range_succ, List.flatMap_append, List.flatMap_cons, List.flatMap_nil, List.append_nil]
  rfl
theorem filt_snoc {α : Type} {p : α → Bool} {l : List α} {k : Nat} {a : α} (h : l[k]? = some a) : (l.take (k + 1)).filter p = (l.take k).filter p ++ (if p a = true then [a] else []) := by
  rw [List.take_add_one, h, List.filter_append]
  show _ ++ List.filter p [a] = _
  rw [List.filter_cons, List.filter_nil]
theorem filt_take {α : Type} {p : α → Bool} {l : List α} (k : Nat) : ((l.take k).filter p).length ≤ (l.filter p).length := by
  have e : (l.filter p).length = ((l.take k ++ l.drop k).filter p).length := by rw [List.take_append_drop]
  rw [e, List.filter_append, List.length_append]
  omega
section
variable {P : Program} {w : World} {K : PySem.W.Frag} {mg : Str → Option Value} {base : Heap}
abbrev nLLoad : List Str := ["_law_gates_here", "_law_wires_here", "_law_ring", "_law_place"]
theorem scLLoad : FnScope nLLoad ["_law_gates_here", "_law_wires_here", "_law_ring"] (defScope sLLoad) := ⟨rfl, rfl, rfl, by decide +kernel, rfl, by decide +kernel, by decide +kernel⟩
abbrev DLLoad (P : Program) (w : World) (K : PySem.W.Frag) (mg : Str → Option Value) (base : Heap) := Df P w K mg base 1 "_law_load" ["_law_gates_here", "_law_wires_here", "_law_ring"] (spLLoad K)
theorem ok_lload {f : Addr} {fd : FuncData} (F : Fun K "_law_load" "_law_load" sLLoad f fd) (hm : mg "_law_load" = some (.ref f)) (B : Bt mg) (ms : mg "sum" = none) : DLLoad P w K mg base f fd := by
  refine ⟨?_, hm, F.kp, F.binds fun _ _ _ _ _ _ us hl => match us, hl with | [_, _, _], _ => rfl⟩
  refine F.ok scLLoad (fun vs H Q E h => ?_) (fun cdv A outer s H vs Q E hr h => ?_)
  · obtain ⟨lg, lw, lr, gs, ws, r, rfl, _⟩ := h
    rfl
  · obtain ⟨lg, lw, lr, gs, ws, r, rfl, G, W, N, hlr, hlt, hrl, q⟩ := h
    have nd := scLLoad.nd
    refine ⟨_, pss_one (ps_ret (pe_tup (pa_cons (pe_callB (cr_sum rfl) (by rfl) ms (by decide +kernel) (pa_cons (pe_lc (own := [("_law_place", 3)]) (g := (gName 3)) (tt := tYes) (te := (tOp (rIxT K) (tOp (rIxL K) (tVar 0) (tOp (rIxT K) (tOp (rIxL K) (tVar 1) (tVar 3)) (tC (.int 0)))) (tC (.int 1)))) rfl nd (pi_list (pv 2)) (blkOk_by (N := nLLoad) (sc := defScope sLLoad) (own := [("_law_place", 3)]) (by decide +kernel)) (fun _ _ _ _ _ => (pg_name (i := 3) nd rfl (.inl rfl))) (fun _ _ _ _ _ => pts_nil) (fun _ _ _ _ _ => (pe_ix ix_tup (pe_ix ix_list (pv 0) (pe_ix ix_tup (pe_ix ix_list (pv 1) (pv 3) (fun _ _ => rfl)) pe_int (fun _ _ => rfl)) (fun _ _ => rfl)) pe_int (fun _ _ => rfl)))) pa_nil)) (pa_cons (pe_callB (cr_sum rfl) (by rfl) ms (by decide +kernel) (pa_cons (pe_lc (own := [("_law_place", 3)]) (g := (gName 3)) (tt := tYes) (te := (tCB (Evl.rLenS K) (tCons (tOp (rIxT K) (tOp (rIxL K) (tVar 1) (tVar 3)) (tC (.int 2))) tNil))) rfl nd (pi_list (pv 2)) (blkOk_by (N := nLLoad) (sc := defScope sLLoad) (own := [("_law_place", 3)]) (by decide +kernel)) (fun _ _ _ _ _ => (pg_name (i := 3) nd rfl (.inl rfl))) (fun _ _ _ _ _ => pts_nil) (fun _ _ _ _ _ => (pe_callB call_len_seq (by rfl) B.len PySem.boot_len (pa_cons (pe_ix ix_tup (pe_ix ix_list (pv 1) (pv 3) (fun _ _ => rfl)) pe_int (fun _ _ => rfl)) pa_nil)))) pa_nil)) pa_nil)))), ?_⟩
    have hwl := N.wl
    obtain ⟨gv, hgv, ga⟩ := id G
    obtain ⟨wv, hwv, wa⟩ := id W
    have hlw : wv.length = ws.length := wa.1
    refine ⟨_, rfl, lr, rfl, ⟨_, SqL.of hlr⟩, fun D hD => ?_⟩
    refine lc_list (K := K) (a := lr) (xs := natV r) (fun i Hc => Hc D = some (.lst ((loadW gs ws (r.take i)).map V.int)) ∧ Same H Hc) ⟨by rw [upd_same]; rfl, same_new hD⟩ (fun i Hc _ ⟨_, sm⟩ => SqL.of (sm _ _ hlr)) ?_ ?_
    · rintro i v Hc hv ⟨hc, sm⟩
      obtain ⟨k, hk, rfl⟩ : ∃ k, r[i]? = some k ∧ v = .int (k : Nat) := by
        rw [List.getElem?_map] at hv
        cases e : r[i]? with
        | none => rw [e] at hv; cases hv
        | some k => rw [e] at hv; cases hv; exact ⟨k, rfl, rfl⟩
      have hkl := hlt k (List.mem_of_getElem? hk)
      obtain ⟨x, hx⟩ : ∃ x, ws[k]? = some x := ⟨_, List.getElem?_eq_getElem hkl⟩
      obtain ⟨v, hv', a, b, rfl, s1, s2⟩ := wa.getR hx
      have WX := N.wok x (List.mem_of_getElem? hx)
      obtain ⟨g, hg⟩ : ∃ g, gs[x.1]? = some g := ⟨_, List.getElem?_eq_getElem WX.s⟩
      obtain ⟨v2, hv2, a2, rfl, s3⟩ := ga.getR hg
      have tk := TK.same sm
      refine ⟨rfl, tyes ?_⟩
      refine ⟨_, rfl, _, rfl, _, rfl, lw, wv, _, _, rfl, rfl, SqL.of (sm _ _ hwv), atI_nat hv', a, _, _, .int x.1, rfl, rfl, tk.seq s1, atI_nat (j := 0) rfl, lg, gv, _, _, rfl, rfl, SqL.of (sm _ _ hgv), atI_nat hv2, a2, _, _, .int g.2, rfl, rfl, tk.seq s3, atI_nat (j := 1) rfl, _, hc, ?_, ?_, same_mut sm hD⟩
      · unfold loadW
        rw [List.length_map, List.length_map, List.length_take]
        exact small1000 (by omega)
      · rw [upd_same, List.take_add_one, hk]
        unfold loadW
        rw [List.map_append, List.map_append]
        show _ = some (HO.lst (_ ++ [V.int (waitAt gs (wst ws k))]))
        rw [wst_at hx, waitAt_get hg]
    rintro H1 ⟨hc1, sm1⟩
    rw [nat_len, List.take_length] at hc1
    refine ⟨D, _, rfl, SqL.of hc1, ?_⟩
    have tk1 := TK.same sm1
    refine ⟨_, rfl, lr, rfl, ⟨_, SqL.of (sm1 _ _ hlr)⟩, fun D2 hD2 => ?_⟩
    refine lc_list (K := K) (a := lr) (xs := natV r) (fun i Hc => Hc D2 = some (.lst ((loadR ws (r.take i)).map V.int)) ∧ Same H1 Hc) ⟨by rw [upd_same]; rfl, same_new hD2⟩ (fun i Hc _ ⟨_, sm⟩ => SqL.of (sm _ _ (sm1 _ _ hlr))) ?_ ?_
    · rintro i v Hc hv ⟨hc, sm⟩
      obtain ⟨k, hk, rfl⟩ : ∃ k, r[i]? = some k ∧ v = .int (k : Nat) := by
        rw [List.getElem?_map] at hv
        cases e : r[i]? with
        | none => rw [e] at hv; cases hv
        | some k => rw [e] at hv; cases hv; exact ⟨k, rfl, rfl⟩
      have hkl := hlt k (List.mem_of_getElem? hk)
      obtain ⟨x, hx⟩ : ∃ x, ws[k]? = some x := ⟨_, List.getElem?_eq_getElem hkl⟩
      obtain ⟨v, hv', a, b, rfl, s1, s2⟩ := wa.getR hx
      have sm' := sm1.trans sm
      have tk := TK.same sm'
      refine ⟨rfl, tyes ?_⟩
      refine ⟨_, rfl, _, rfl, lw, wv, _, _, rfl, rfl, SqL.of (sm' _ _ hwv), atI_nat hv', a, _, _, .ref b, rfl, rfl, tk.seq s1, atI_nat (j := 2) rfl, b, _, rfl, .inr (tk.seq s2), _, hc, ?_, ?_, same_mut sm hD2⟩
      · unfold loadR
        rw [List.length_map, List.length_map, List.length_take]
        exact small1000 (by omega)
      · rw [upd_same, List.take_add_one, hk]
        unfold loadR
        rw [List.map_append, List.map_append, List.length_map]
        show _ = some (HO.lst (_ ++ [V.int (regsAt ws k)]))
        rw [regsAt_get hx]
    rintro H2 ⟨hc2, sm2⟩
    rw [nat_len, List.take_length] at hc2
    refine ⟨D2, _, rfl, SqL.of hc2, (by show 2 ≤ sizeLine; decide), fun l hl => ?_⟩
    exact q l _ ((sm1.trans sm2).trans (same_new hl)) upd_same
abbrev nLRings : List Str := ["_law_wires_here", "_law_place", "_law_rows", "_law_found", "_law_turn", "_law_row"]
theorem scLRings : FnScope nLRings ["_law_wires_here"] (defScope sLRings) := ⟨rfl, rfl, rfl, by decide +kernel, rfl, by decide +kernel, by decide +kernel⟩
abbrev DLRings (P : Program) (w : World) (K : PySem.W.Frag) (mg : Str → Option Value) (base : Heap) := Df P w K mg base 2 "_law_rings" ["_law_wires_here"] (spLRings K)
theorem ok_lrings {f fO : Addr} {fd fdO : FuncData} (F : Fun K "_law_rings" "_law_rings" sLRings f fd) (hm : mg "_law_rings" = some (.ref f)) (B : Bt mg) (mn : mg "min" = none) (mso : mg "sorted" = none) (DLo : DLonger P w K mg base fO fdO) : DLRings P w K mg base f fd := by
  refine ⟨?_, hm, F.kp, F.binds fun _ _ _ _ _ _ us hl => match us, hl with | [_], _ => rfl⟩
  refine F.ok scLRings (fun vs H Q E h => ?_) (fun cdv A outer s H vs Q E hr h => ?_)
  · obtain ⟨lw, ws, rfl, _⟩ := h
    rfl
  · obtain ⟨lw, ws, rfl, W, hwl, hrc, hfc, q⟩ := h
    have nd := scLRings.nd
    refine ⟨_, pss_cons (ps_setLc (i := 2) (own := [("_law_place", 1)]) (g := (gName 1)) (tt := tYes) (te := (tLst (tCons (tVar 1) tNil))) rfl nd rfl rfl (sw_true rfl rfl rfl (by decide +kernel)) (pi_range1 (by rfl) B.range (pa_cons (pe_callB call_len_seq (by rfl) B.len PySem.boot_len (pa_cons (pv 0) pa_nil)) pa_nil)) (blkOk_by (N := nLRings) (sc := defScope sLRings) (own := [("_law_place", 1)]) (by decide +kernel)) (fun _ _ _ _ _ => (pg_name (i := 1) nd rfl (.inl rfl))) (fun _ _ _ _ _ => pts_nil) (fun _ _ _ _ _ => (pe_lst (pa_cons (pv 1) pa_nil)))) <|
        pss_cons (ps_set (i := 3) nd rfl (.inl rfl) (pe_lst pa_nil)) <|
        pss_cons (ps_for PassesOwn.never rfl (pi_range1 (by rfl) B.range (pa_cons (pe_op op_add (pe_callB call_len_seq (by rfl) B.len PySem.boot_len (pa_cons (pv 0) pa_nil)) pe_int) pa_nil)) (pg_name (i := 4) nd rfl (.inl rfl)) (pss_cons (ps_set (i := 3) nd rfl (.inl rfl) (pe_op op_cat (pv 3) (pe_lc (own := [("_law_row", 5)]) (g := (gName 5)) (tt := (tAnd (tTest (tOp rEq (tOp (rIxT K) (tOp (rIxL K) (tVar 0) (tOp (rIxL K) (tVar 5) (tUn (rU fun i => .int (-i)) (tC (.int 1))))) (tC (.int 1))) (tOp (rIxT K) (tOp (rIxL K) (tVar 0) (tOp (rIxL K) (tVar 5) (tC (.int 0)))) (tC (.int 0))))) (tTest (tOp rEq (tCB (rMin K) (tCons (tVar 5) tNil)) (tOp (rIxL K) (tVar 5) (tC (.int 0))))))) (te := (tVar 5)) rfl nd (pi_list (pv 2)) (blkOk_by (N := nLRings) (sc := defScope sLRings) (own := [("_law_row", 5)]) (by decide +kernel)) (fun _ _ _ _ _ => (pg_name (i := 5) nd rfl (.inl rfl))) (fun _ _ _ _ _ => pts_one (PW.pt (pw_and (pt_cmpR op_eq (pe_ix ix_tup (pe_ix ix_list (pv 0) (pe_ix ix_list (pv 5) (pe_un un_neg pe_int) (fun _ _ => rfl)) (fun _ _ => rfl)) pe_int (fun _ _ => rfl)) (pe_ix ix_tup (pe_ix ix_list (pv 0) (pe_ix ix_list (pv 5) pe_int (fun _ _ => rfl)) (fun _ _ => rfl)) pe_int (fun _ _ => rfl)) (nomark _)) (pw_and1 (pt_cmpR op_eq (pe_callB (cr_min rfl) (by rfl) mn (by decide +kernel) (pa_cons (pv 5) pa_nil)) (pe_ix ix_list (pv 5) pe_int (fun _ _ => rfl)) (nomark _)))))) (fun _ _ _ _ _ => (pv 5))))) <|
        pss_one (ps_set (i := 2) nd rfl (.inl rfl) (pe_call DLo.ok (hr.mono (by decide)) (by rfl) DLo.mg DLo.kp DLo.bd .nil pass0 (pa_cons (pv 0) (pa_cons (pv 2) pa_nil)))))) <|
        pss_one (ps_ret (pe_callB (cr_sortedLL hr.units) (by rfl) mso (by decide +kernel) (pa_cons (pv 3) pa_nil))), ?_⟩
    obtain ⟨wv, hwv, wa⟩ := id W
    have hlw : wv.length = ws.length := wa.1
    refine ⟨_, rfl, lw, wv, rfl, .inl (SqL.of hwv), _, rfl, by rw [hlw]; omega, by rw [hlw]; omega, fun lr hlr => ?_⟩
    rw [hlw, Int.toNat_natCast]
    refine lc_range (lo := 0) (n := ws.length) (fun i Hc => ∃ acc, Hc lr = some (.lst acc) ∧ All2 (ToldV Hc lr fun _ => True) acc ((List.range i).map fun p => [p]) ∧ Same H Hc) ⟨[], upd_same, All2.nil, same_new hlr⟩ ?_ ?_
    · rintro i Hc hi ⟨acc, hc, aa, sm⟩
      have ek : (0 : Int) + (i : Nat) = ((i : Nat) : Int) := Int.zero_add _
      refine ⟨rfl, tyes ?_⟩
      rw [ek]
      refine ⟨_, rfl, (by show 1 ≤ sizeLine; decide), fun l hl => ?_⟩
      have b1 : But lr Hc (upd Hc l (.lst [.int (i : Nat)])) := But.new hl
      have s1 : Same Hc (upd Hc l (.lst [.int (i : Nat)])) := same_new hl
      have e1 : (upd Hc l (.lst [.int (i : Nat)])) l = some (.lst (natV [i])) := upd_same
      have n1 : l ≠ lr := (ne_of_none hc hl).symm
      generalize upd Hc l (.lst [.int (i : Nat)]) = H1 at b1 s1 e1
      have hal := aa.1
      rw [List.length_map, List.length_range] at hal
      refine ⟨acc, s1 _ _ hc, small1000 (by omega), acc ++ [.ref l], upd_same, ?_, same_mut (sm.trans s1) hlr⟩
      rw [List.range_succ, List.map_append]
      exact All2.snoc (aa.imp fun _ _ z => (z.but b1).but But.upd) ⟨l, rfl, n1, trivial, by rw [upd_ne n1]; exact e1⟩
    rintro H1 ⟨rv, hrv, ra, sm1⟩
    have ra : All2 (RowV H1) rv (rowsL ws 0) := ra.imp fun _ _ z => z.row
    refine gn_norm (σ' := [some (.ref lw), none, some (.ref lr), none, none, none]) rfl ?_
    refine ⟨(by show 0 ≤ sizeLine; decide), fun lf hlf => ?_⟩
    have s2 : Same H1 (upd H1 lf (.lst [])) := same_new hlf
    have e2 : (upd H1 lf (.lst [])) lf = some (.lst []) := upd_same
    generalize upd H1 lf (.lst []) = H2 at s2 e2
    have sm2 := sm1.trans s2
    refine gn_norm (σ' := [some (.ref lw), none, some (.ref lr), some (.ref lf), none, none]) rfl ?_
    refine ⟨_, rfl, lw, wv, rfl, .inl (SqL.of (sm2 _ _ hwv)), _, _, rfl, rfl, _, rfl, by rw [hlw]; omega, by rw [hlw]; omega, ?_⟩
    have ecn : (((wv.length : Nat) : Int) + 1).toNat = ws.length + 1 := by omega
    rw [ecn]
    refine for_range (lo := 0) (n := ws.length + 1) (fun k σ Hc => ∃ (t1 t4 t5 : Option V) (lr lf : Addr) (rv fv : List V), σ = [some (.ref lw), t1, some (.ref lr), some (.ref lf), t4, t5] ∧ Hc lr = some (.lst rv) ∧ All2 (RowV Hc) rv (rowsL ws k) ∧ Hc lf = some (.lst fv) ∧ All2 (RowV Hc) fv (foundL ws k) ∧ Same H Hc)
      ⟨_, _, _, lr, lf, rv, [], rfl, s2 _ _ hrv, ra.imp fun _ _ z => z.same s2, e2, All2.nil, sm2⟩ ?_ ?_
    · rintro k σ Hc hk ⟨t1, t4, t5, lr, lf, rv, fv, rfl, hrv, ra, hfv, fa, sm⟩
      have tk := TK.same sm
      refine ⟨_, rfl, _, rfl, lr, rfl, ⟨_, SqL.of hrv⟩, fun D hD => ?_⟩
      refine lc_list (K := K) (a := lr) (xs := rv) (fun i Hd => ∃ acc, Hd D = some (.lst acc) ∧ All2 (RowV Hc) acc (((rowsL ws k).take i).filter (ringB ws)) ∧ Same Hc Hd) ⟨[], upd_same, All2.nil, same_new hD⟩ (fun i Hd _ ⟨_, _, _, sd⟩ => SqL.of (sd _ _ hrv)) ?_ ?_
      · rintro i v Hd hv ⟨acc, hd, aa, sd⟩
        obtain ⟨r, hr', a, rfl, ha⟩ := ra.get hv
        have hrw := (mem_rows.mp (List.mem_of_getElem? hr')).2
        have hrl := hrw.len
        obtain ⟨k0, r0, rfl⟩ : ∃ k0 r0, r = k0 :: r0 := by
          cases r with
          | nil => exact absurd rfl hrw.ne
          | cons k0 r0 => exact ⟨k0, r0, rfl⟩
        obtain ⟨r1, kl, hrk⟩ : ∃ r1 kl, k0 :: r0 = r1 ++ [kl] := ⟨_, _, (List.dropLast_concat_getLast (List.cons_ne_nil _ _)).symm⟩
        have hkl := hrw.lt kl (by rw [hrk]; simp)
        have hk0 := hrw.lt k0 List.mem_cons_self
        obtain ⟨x, hx⟩ : ∃ x, ws[kl]? = some x := ⟨_, List.getElem?_eq_getElem hkl⟩
        obtain ⟨v1, hv1, a1, b1, rfl, s11, s12⟩ := wa.getR hx
        obtain ⟨y, hy⟩ : ∃ y, ws[k0]? = some y := ⟨_, List.getElem?_eq_getElem hk0⟩
        obtain ⟨v2, hv2, a2, b2, rfl, s21, s22⟩ := wa.getR hy
        have ee : endL ws (k0 :: r0) = x.2.1 := by rw [hrk, endL_snoc]; exact wen_at hx
        have eb : begL ws (k0 :: r0) = y.1 := wst_at hy
        have fs := filt_snoc (p := ringB ws) hr'
        have hal := aa.1
        have hft := filt_take (p := ringB ws) (l := rowsL ws k) i
        have hfl : ((rowsL ws k).filter (ringB ws)).length ≤ 1000000 := Nat.le_trans (List.length_filter_le _ _) (hrc k)
        have tkd := tk.trans (TK.same sd)
        have hwd := sd _ _ (sm _ _ hwv)
        have had := sd _ _ ha
        have no : ringB ws (k0 :: r0) = false → ∃ acc, Hd D = some (.lst acc) ∧ All2 (RowV Hc) acc (((rowsL ws k).take (i + 1)).filter (ringB ws)) ∧ Same Hc Hd := fun z => by
          rw [z] at fs
          rw [fs]
          exact ⟨acc, hd, by rw [if_neg Bool.false_ne_true, List.append_nil]; exact aa, sd⟩
        refine ⟨rfl, ?_⟩
        refine ⟨_, rfl, _, rfl, _, rfl, a, _, _, .int (kl : Nat), rfl, rfl, SqL.of had, ?_, lw, wv, _, _, rfl, rfl, SqL.of hwd, atI_nat hv1, a1, _, _, .int x.2.1, rfl, rfl, tkd.seq s11, atI_nat (j := 1) rfl, ?_⟩
        · rw [hrk]
          show atI (List.map _ (_ ++ _)) _ = _
          rw [List.map_append]
          exact atI_last _ _
        refine ⟨_, rfl, _, rfl, a, _, _, .int (k0 : Nat), rfl, rfl, SqL.of had, atI_nat (j := 0) rfl, lw, wv, _, _, rfl, rfl, SqL.of hwd, atI_nat hv2, a2, _, _, .int y.1, rfl, rfl, tkd.seq s21, atI_nat (j := 0) rfl, rfl, _, rfl, ite2 (fun e1 => ?_) (fun e1 => iteF (no ?_))⟩
        · have h1 : endL ws (k0 :: r0) = begL ws (k0 :: r0) := by
            have := V.int.inj (of_decide_eq_true e1)
            rw [ee, eb]
            omega
          refine ⟨_, rfl, a, intsN (k0 :: r0), rfl, by rw [intsN_V]; exact SqL.of had, (by show 0 < (intsN (k0 :: r0)).length; unfold intsN; rw [List.length_map]; exact Nat.succ_pos _), fun m hm1 hm2 => ?_⟩
          refine ⟨_, rfl, a, _, _, .int (k0 : Nat), rfl, rfl, SqL.of had, atI_nat (j := 0) rfl, rfl, _, rfl, ite2 (fun e2 => ?_) (fun e2 => no ?_)⟩
          · have h2 := V.int.inj (of_decide_eq_true e2)
            have hyes : ringB ws (k0 :: r0) = true := decide_eq_true ⟨h1, fun p hp => by
              have := hm2 (p : Nat) (List.mem_map.mpr ⟨p, hp, rfl⟩)
              show k0 ≤ p
              omega⟩
            rw [hyes, if_pos rfl] at fs
            refine ⟨_, rfl, acc, hd, (by show _ < 2 ^ 24; omega), acc ++ [.ref a], upd_same, ?_, same_mut sd hD⟩
            rw [fs]
            exact All2.snoc aa ⟨a, rfl, ha⟩
          · refine decide_eq_false fun z => e2 ?_
            obtain ⟨p, hp, rfl⟩ := List.mem_map.mp hm1
            have h3 := z.2 p hp
            have h3 : k0 ≤ p := h3
            have h4 := hm2 (k0 : Nat) (List.mem_map.mpr ⟨k0, List.mem_cons_self, rfl⟩)
            have h5 : ((p : Nat) : Int) = ((k0 : Nat) : Int) := by omega
            rw [h5]
            exact decide_eq_true rfl
        · refine decide_eq_false fun z => e1 ?_
          rw [← ee, ← eb, z.1]
          exact decide_eq_true rfl
      rintro H3 ⟨dv, hd3, da, s3⟩
      rw [ra.1, List.take_length] at da
      have fl := fa.1
      have dl := da.1
      have hfk := hfc (k + 1)
      rw [found_succ, List.length_append] at hfk
      refine ⟨lf, D, _, _, rfl, rfl, s3 _ _ hfv, hd3, (by show _ ≤ 2 ^ 24; omega), fun lf2 hlf2 => ?_⟩
      have s4 : Same H3 (upd H3 lf2 (.lst (fv ++ dv))) := same_new hlf2
      have e4 : (upd H3 lf2 (.lst (fv ++ dv))) lf2 = some (.lst (fv ++ dv)) := upd_same
      generalize upd H3 lf2 (.lst (fv ++ dv)) = H4 at s4 e4
      have s34 := s3.trans s4
      have sm4 := sm.trans s34
      refine gn_norm (σ' := [some (.ref lw), t1, some (.ref lr), some (.ref lf2), some (.int (0 + (k : Nat))), t5]) rfl ?_
      refine ⟨_, rfl, _, rfl, lw, lr, ws, rv, rowsL ws k, rfl, W.same sm4, hwl, s34 _ _ hrv, ra.imp fun _ _ z => z.same s34, fun r hr => (mem_rows.mp hr).2, hrc (k + 1), fun lr2 rv2 H5 s5 hrv2 ra2 => ?_⟩
      refine ⟨_, _, _, lr2, lf2, rv2, fv ++ dv, rfl, hrv2, ra2, s5 _ _ e4, ?_, sm4.trans s5⟩
      rw [found_succ]
      have s35 := s34.trans s5
      exact (fa.imp fun _ _ z => z.same s35).append (da.imp fun _ _ z => z.same s35)
    · rintro σ Hc ⟨t1, t4, t5, lr, lf, rv, fv, rfl, hrv, ra, hfv, fa, sm⟩
      refine ⟨_, rfl, lf, fv, rowK Hc, rfl, SqL.of hfv, fun x hx => ?_, fun ys p srt stb hp => ?_⟩
      · obtain ⟨i, hi⟩ := List.getElem?_of_mem hx
        obtain ⟨r, _, a, rfl, ha⟩ := fa.get hi
        exact ⟨a, rfl, by rw [rowK_at ha, intsN_V]; exact ha⟩
      obtain ⟨rs, hrp, ya⟩ := fa.perm stb.perm
      have em : ys.map (rowK Hc) = rs.map intsN := all2_map (fun v r z => by
        obtain ⟨a, rfl, ha⟩ := z
        exact rowK_at ha) ya
      have hso : rs.Pairwise fun a b => ¬ b < a := by
        have h1 : (ys.map (rowK Hc)).Pairwise fun a b => HT.lexLt b a = false := List.Pairwise.map _ (fun a b z => z) srt
        rw [em] at h1
        refine List.Pairwise.imp (fun {a b} z => ?_) (List.Pairwise.of_map intsN (R := fun a b => HT.lexLt (intsN b) (intsN a) = false) (fun a b z => z) h1)
        rw [lex_nats] at z
        exact of_decide_eq_false z
      have ew := rings_sorted (frB_ok ws) hrp hso
      rw [ew] at ya
      have sp : Same Hc (upd Hc p (.lst ys)) := same_new hp
      exact q p ys _ (sm.trans sp) (sm.free hp) upd_same (ya.imp fun _ _ z => z.same sp)
end
end Lag

set_option maxRecDepth 100000
set_option maxHeartbeats 8000000
namespace Lag
open PySem PySem.Spec PyProof.Rows L2
abbrev sJoined : Stmt := topS 46 -- @_law_all_joined
/-! ### a tuple no times, one time, twice -/
theorem tuple_mul0 (l : Addr) (items : Array Value) (n : Nat) (dd : Option Addr) (sl : Array (Option Value)) (u : Tok) (c1 : (items.isEmpty || (0 : Int) == 1) = false) :
    Meets (Builtin.«tuple.__mul__» ⟨[.ref l, .int 0 u], []⟩) (fun _ R s => s.heap.get? l = some { cls := .type "tuple", dict := dd, data := .seq items n, slots := sl } ∧
      R (.ok (.ret (Value.ref s.heap.objs.size))) { s with heap := s.heap.push { cls := Value.type "tuple", data := Data.seq #[] }, toks := s.toks }) :=
  .of_wp fun prog w A R s h => by
    obtain ⟨hp, g, d, tk, os⟩ := s
    obtain ⟨hl, h⟩ := h
    have f1 := AutoSeq1.idx_int
    have c0 : (decide ((0 : Int) < -(2 ^ 63)) || decide ((0 : Int) ≥ 2 ^ 63)) = false := by decide
    have c2 : (decide ((0 : Int) ≤ 0) || items.isEmpty) = true := rfl
    wp_walk using wpAny_loadPart' hl
    repeat (first
      | (refine wpAny_ite_false (decide_eq_false (by rw [c0]; exact Bool.false_ne_true)) ?_; wp_walk using wpAny_loadPart' hl)
      | (refine wpAny_ite_false (decide_eq_false (by rw [c1]; exact Bool.false_ne_true)) ?_; wp_walk using wpAny_loadPart' hl)
      | (refine wpAny_ite_true (decide_eq_true c2) ?_; wp_walk using wpAny_loadPart' hl))
    exact ⟨_, rfl, h⟩
theorem tuple_mul1 (l : Addr) (items : Array Value) (n : Nat) (dd : Option Addr) (sl : Array (Option Value)) (u : Tok) :
    Meets (Builtin.«tuple.__mul__» ⟨[.ref l, .int 1 u], []⟩) (fun _ R s => s.heap.get? l = some { cls := .type "tuple", dict := dd, data := .seq items n, slots := sl } ∧
      R (.ok (.ret (Value.ref l))) s) :=
  .of_wp fun prog w A R s h => by
    obtain ⟨hp, g, d, tk, os⟩ := s
    obtain ⟨hl, h⟩ := h
    have f1 := AutoSeq1.idx_int
    have c0 : (decide ((1 : Int) < -(2 ^ 63)) || decide ((1 : Int) ≥ 2 ^ 63)) = false := by decide
    have c1 : (items.isEmpty || (1 : Int) == 1) = true := by rw [show ((1 : Int) == 1) = true from rfl, Bool.or_true]
    wp_walk using wpAny_loadPart' hl
    repeat (first
      | (refine wpAny_ite_false (decide_eq_false (by rw [c0]; exact Bool.false_ne_true)) ?_; wp_walk using wpAny_loadPart' hl)
      | (refine wpAny_ite_true (decide_eq_true c1) ?_; wp_walk using wpAny_loadPart' hl))
    exact ⟨_, rfl, h⟩
def rRep01 (K : PySem.W.Frag) : R2 := fun x y H Q => ∃ l xs, x = .ref l ∧ SqT K H l xs ∧ xs ≠ [] ∧ ((y = .int 1 ∧ Q (.ref l) H) ∨ (y = .int 0 ∧ ∀ p, H p = none → Q (.ref p) (upd H p (.tup []))))
section
variable {X : Cx}
theorem op_rep01 : OpR X (binaryOp .Mult) (rRep01 X.K) := by
  intro pins s σ H x y v u Q I rx ry h
  obtain ⟨l, xs, rfl, hT, hne, h⟩ := h
  cases rx
  obtain ⟨its, r, ⟨⟨cls, dd, data, sl⟩, ho, hc, n, hd⟩, hs⟩ := I.tuple hT
  simp only at hc hd
  subst hc hd
  have hle : its.length = xs.length := r.length.symm
  have hi : its.toArray.isEmpty = false := by
    cases its with
    | nil => exact absurd (List.eq_nil_of_length_eq_zero hle.symm) hne
    | cons a b => rfl
  rcases h with ⟨rfl, q⟩ | ⟨rfl, q⟩
  · obtain ⟨t, rfl⟩ := ry
    refine wpAny_binaryOp_repeat_ref (T := "tuple") (U := "int") (by decide) ⟨_, ho, rfl⟩ (fun s' => typeIs_int s' 1 t) noFill_tuple_mul PySem.F.fills_int_mul PySem.F.slot_int_rmul repeat_tuple PySem.F.slot_int_index.lookup
      (call_meets PySem.F.slot_int_rmul (typeIs_int s 1 t) PySem.F.entry_int_rmul (PySem.F.args_int_rmul_2 _ _) (int_rmul_tuple 1 t l its.toArray n dd sl)
        ⟨ho, rfl, ⟨_, ho, rfl⟩, call_meets PySem.F.slot_tuple_mul ⟨_, ho, rfl⟩ PySem.F.entry_tuple_mul (PySem.F.args_tuple_mul_2 _ _) (tuple_mul1 l its.toArray n dd sl t) ⟨ho, ?_⟩⟩)
    exact ⟨.ref l, H, I, rfl, q⟩
  · obtain ⟨t, rfl⟩ := ry
    refine wpAny_binaryOp_repeat_ref (T := "tuple") (U := "int") (by decide) ⟨_, ho, rfl⟩ (fun s' => typeIs_int s' 0 t) noFill_tuple_mul PySem.F.fills_int_mul PySem.F.slot_int_rmul repeat_tuple PySem.F.slot_int_index.lookup
      (call_meets PySem.F.slot_int_rmul (typeIs_int s 0 t) PySem.F.entry_int_rmul (PySem.F.args_int_rmul_2 _ _) (int_rmul_tuple 0 t l its.toArray n dd sl)
        ⟨ho, rfl, ⟨_, ho, rfl⟩, call_meets PySem.F.slot_tuple_mul ⟨_, ho, rfl⟩ PySem.F.entry_tuple_mul (PySem.F.args_tuple_mul_2 _ _) (tuple_mul0 l its.toArray n dd sl t (by rw [hi]; rfl)) ⟨ho, ?_⟩⟩)
    refine ⟨.ref s.heap.objs.size, _, I.laid (t' := s.toks) (o := .tup []) (fun b ob q => Heap.get?_push_of_some _ q) (Nat.le_refl _) ?_, rfl, q _ (I.hok.fresh (Nat.le_refl _))⟩
    exact ⟨Nat.zero_le _, _, .nil, IsTup.new _ _⟩
end

abbrev rRep3 (K : PySem.W.Frag) : R2 := fun x y H Q => rRep01 K x y H Q ∨ rRepT K x y H Q
theorem rep_12 {K : PySem.W.Frag} {H : Hp} {Q : VK} {z d : Int} (d0 : 1 ≤ d) (d1 : d < 3) {l : Addr} (hl : SqT K H l [.int z]) (q : ∀ p H' (rs : List Int), Same H H' → SqT K H' p (rs.map V.int) → 1 ≤ rs.length → rs.length ≤ 2 → (∀ y ∈ rs, y = z) → Q (.ref p) H') : rRep3 K (.ref l) (.int d) H Q := by
  rcases (by omega : d = 1 ∨ d = 2) with rfl | rfl
  · exact .inl ⟨l, _, rfl, hl, by simp, .inl ⟨rfl, q l H [z] (Same.refl _) hl (by simp) (by simp) (by simp)⟩⟩
  · exact .inr ⟨l, 2, _, rfl, rfl, hl, by simp, by decide, by decide, (by show 1 ≤ 1000; decide), fun p hp => q p _ [z, z] (same_new hp) (.inl (.inl upd_same)) (by simp) (by simp) (by simp)⟩
theorem Dr.ofSame {wl : Addr} {H H' : Hp} (W : WellAt wl H) (s : Same H H') : Dr wl H H' := ⟨But.same s, W.same s⟩
/-! ### few rings -/
structure RFew (ws : List Wr) : Prop where
  M : ∀ r, Rw ws r → r.length ≤ 6
  rows : ∀ k, (rowsL ws k).length ≤ 1000000
  found : ∀ k, (foundL ws k).length ≤ 8000000
  walks : (walks ws (frB ws)).length ≤ 10000000
theorem rfew_of {ws : List Wr} {d : Nat} (hM : ∀ r, Rw ws r → r.length ≤ 6) (hd : ∀ g, (inTo ws g).length ≤ d) (d1 : 1 ≤ d) (h : ws.length * d ^ 5 ≤ 1000000) : RFew ws := by
  have hr : ∀ k, (rowsL ws k).length ≤ 1000000 ∧ (6 ≤ k → rowsL ws k = []) := fun k => by
    rcases Nat.lt_or_ge k 6 with z | z
    · refine ⟨Nat.le_trans (rows_le hd k) (Nat.le_trans (Nat.mul_le_mul_left _ (Nat.pow_le_pow_right d1 (by omega))) h), fun y => absurd y (by omega)⟩
    · have e : rowsL ws k = [] := List.eq_nil_iff_forall_not_mem.mpr fun r hr => by
        obtain ⟨hl, h1⟩ := mem_rows.mp hr
        have := hM r h1
        omega
      exact ⟨by rw [e]; exact Nat.zero_le _, fun _ => e⟩
  have hf : ∀ k, (foundL ws k).length ≤ 1000000 * min k 6 := fun k => by
    induction k with
    | zero => exact Nat.zero_le _
    | succ k ih =>
      rw [found_succ, List.length_append]
      have h1 := List.length_filter_le (ringB ws) (rowsL ws k)
      obtain ⟨h2, h3⟩ := hr k
      rcases Nat.lt_or_ge k 6 with z | z
      · have e1 : min k 6 = k := Nat.min_eq_left (by omega)
        have e2 : min (k + 1) 6 = k + 1 := Nat.min_eq_left (by omega)
        rw [e1] at ih
        rw [e2]
        omega
      · rw [h3 z] at h1
        have e1 : min k 6 = 6 := Nat.min_eq_right z
        have e2 : min (k + 1) 6 = 6 := Nat.min_eq_right (by omega)
        have h1 : ((rowsL ws k).filter (ringB ws)).length ≤ 0 := by rw [h3 z]; exact Nat.le_refl _
        rw [e1] at ih
        rw [e2]
        omega
  have hf8 : ∀ k, (foundL ws k).length ≤ 8000000 := fun k => by
    have := hf k
    have e := Nat.min_le_right k 6
    omega
  refine ⟨hM, fun k => (hr k).1, hf8, ?_⟩
  rw [walks_len (frB_ok ws)]
  have := hf8 (ws.length + 1)
  omega
theorem range_getD (ws : List Wr) : (List.range ws.length).map (fun p => ws.getD p (0, 0, [])) = ws := by
  refine List.ext_getElem? fun i => ?_
  rw [List.getElem?_map]
  by_cases h : i < ws.length
  · rw [List.getElem?_range h, List.getElem?_eq_getElem h]
    show some (ws.getD i (0, 0, [])) = _
    rw [List.getD_eq_getElem?_getD, List.getElem?_eq_getElem h]
    rfl
  · rw [List.getElem?_eq_none (by rw [List.length_range]; omega), List.getElem?_eq_none (by omega)]
    rfl
theorem inTo_cnt (ws : List Wr) (g : Nat) : (inTo ws g).length = cnt ws g := by
  have e : cnt ws g = cnt ((List.range ws.length).map (fun p => ws.getD p (0, 0, []))) g := by rw [range_getD]
  rw [e]
  unfold inTo cnt
  rw [List.countP_map, List.countP_eq_length_filter]
  rfl
theorem Rw.few {ws : List Wr} {n : Nat} (hs : ∀ p, p < ws.length → stA ws p < n) {r : List Nat} (h : Rw ws r) : r.length ≤ n := by
  have := List.Nodup.length_le_of_subset h.nd (l₂ := List.range n) fun g hg => by
    obtain ⟨p, hp, rfl⟩ := List.mem_map.mp hg
    exact List.mem_range.mpr (hs p (h.lt p hp))
  rwa [List.length_map, List.length_range] at this
theorem kindsAt (gs : List Gt) : (List.range gs.length).map (fun i => gs.getD i ("", 0)) = gs := by
  refine List.ext_getElem? fun i => ?_
  rw [List.getElem?_map]
  by_cases h : i < gs.length
  · rw [List.getElem?_range h, List.getElem?_eq_getElem h]
    show some (gs.getD i ("", 0)) = _
    rw [List.getD_eq_getElem?_getD, List.getElem?_eq_getElem h]
    rfl
  · rw [List.getElem?_eq_none (by rw [List.length_range]; omega), List.getElem?_eq_none (by omega)]
    rfl
theorem inn_count (gs : List Gt) : ((List.range gs.length).filter fun i => innP (kindAt gs i)).length = nInn gs := by
  have e : nInn gs = nInn ((List.range gs.length).map (fun i => gs.getD i ("", 0))) := by rw [kindsAt]
  rw [e]
  unfold nInn
  rw [List.countP_map, List.countP_eq_length_filter]
  rfl
theorem Rw.inn {gs : List Gt} {ws : List Wr} (N : NetOk gs ws) {r : List Nat} (h : Rw ws r) : ∀ s ∈ (r.map (stA ws)).tail, s < gs.length ∧ innP (kindAt gs s) = true := by
  induction h with
  | one hp => intro s hs; cases hs
  | @snoc r p h1 hp e ne ih =>
    intro s hs
    rw [List.map_append] at hs
    cases r with
    | nil => exact absurd rfl h1.ne
    | cons k0 r0 =>
      have hs : s ∈ (r0.map (stA ws)) ++ [stA ws p] := hs
      rcases List.mem_append.mp hs with z | z
      · exact ih s z
      · have z : s = stA ws p := List.mem_singleton.mp z
        obtain ⟨r1, kl, hrk⟩ : ∃ r1 kl, k0 :: r0 = r1 ++ [kl] := ⟨_, _, (List.dropLast_concat_getLast (List.cons_ne_nil _ _)).symm⟩
        have hkl := h1.lt kl (by rw [hrk]; simp)
        have W1 := N.wok _ (getD_mem hp)
        have W2 := N.wok _ (getD_mem hkl)
        have e2 : stA ws p = enA ws kl := by rw [e, hrk, endL_snoc]
        rw [z]
        refine ⟨W1.s, ?_⟩
        have k1 : kindAt gs (stA ws p) ≠ "out" := W1.ks
        have k2 : kindAt gs (stA ws p) ≠ "in" := by rw [e2]; exact W2.ke
        unfold innP
        rw [Bool.and_eq_true]
        exact ⟨bne_iff_ne.mpr k2, bne_iff_ne.mpr k1⟩
theorem Rw.parts {gs : List Gt} {ws : List Wr} (N : NetOk gs ws) {r : List Nat} (h : Rw ws r) : r.length ≤ nInn gs + 1 := by
  have h1 := h.inn N
  have nd := h.nd
  have h2 : (r.map (stA ws)).tail.Nodup := nd.sublist (List.tail_sublist _)
  have h3 := List.Nodup.length_le_of_subset h2 (l₂ := (List.range gs.length).filter fun i => innP (kindAt gs i)) fun s hs => List.mem_filter.mpr ⟨List.mem_range.mpr (h1 s hs).1, (h1 s hs).2⟩
  rw [inn_count, List.length_tail, List.length_map] at h3
  omega
/-! ### six gates, each joined to each other one -/
def JOk (us : List Wr) : Prop := ∀ x ∈ us, x.1 < 6 ∧ x.2.1 < 6 ∧ ROk x.2.2 ∧ 1 ≤ x.2.2.length ∧ x.2.2.length ≤ 2
structure JU (n : Nat) (us : List Wr) : Prop where
  ok : JOk us
  c : ∀ g, cnt us g ≤ n
  l : us.length ≤ 6 * n
structure JV (j : Nat) (us : List Wr) : Prop where
  ok : JOk us
  c : ∀ g, cnt us g ≤ 1
  z : ∀ g, j ≤ g → cnt us g = 0
  l : us.length ≤ j
theorem cnt_app2 (us vs : List Wr) (g : Nat) : cnt (us ++ vs) g = cnt us g + cnt vs g := List.countP_append ..
theorem JOk.app {us vs : List Wr} (h1 : JOk us) (h2 : JOk vs) : JOk (us ++ vs) := fun x hx => (List.mem_append.mp hx).elim (h1 x) (h2 x)
theorem JU.go {n : Nat} {us vs : List Wr} (h : JU n us) (v : JV 6 vs) : JU (n + 1) (us ++ vs) := ⟨h.ok.app v.ok, fun g => by
  rw [cnt_app2]
  have := h.c g
  have := v.c g
  omega, by
  rw [List.length_append]
  have := h.l
  have := v.l
  omega⟩
theorem JV.mono {j : Nat} {us : List Wr} (h : JV j us) : JV (j + 1) us := ⟨h.ok, h.c, fun g hg => h.z g (by omega), Nat.le_succ_of_le h.l⟩
theorem JV.put {j : Nat} {us : List Wr} (h : JV j us) {x : Wr} (hx : x.1 < 6 ∧ x.2.1 < 6 ∧ ROk x.2.2 ∧ 1 ≤ x.2.2.length ∧ x.2.2.length ≤ 2) (e : x.2.1 = j) : JV (j + 1) (us ++ [x]) := by
  have c1 : ∀ g, cnt [x] g = if j = g then 1 else 0 := fun g => by
    unfold cnt
    rw [List.countP_cons, List.countP_nil, Nat.zero_add, e]
    by_cases z : j = g
    · rw [if_pos z, if_pos (by rw [z]; exact beq_self_eq_true g)]
    · rw [if_neg z, if_neg (by rw [beq_eq_false_iff_ne.mpr z]; exact Bool.false_ne_true)]
  refine ⟨h.ok.app fun y hy => by rw [List.mem_singleton.mp hy]; exact hx, fun g => ?_, fun g hg => ?_, ?_⟩
  · rw [cnt_app2, c1]
    by_cases z : j = g
    · rw [if_pos z, h.z g (by omega)]
      exact Nat.le_refl _
    · rw [if_neg z]
      exact h.c g
  · rw [cnt_app2, c1, if_neg (by omega), h.z g (by omega)]
  · rw [List.length_append]
    have := h.l
    show _ + 1 ≤ _
    omega
theorem joined_net {gs : List Gt} {ws : List Wr} (h : JU 6 ws) (hl : gs.length = 6) (hg : ∀ g ∈ gs, g.1 = "sum" ∧ 0 ≤ g.2 ∧ g.2 ≤ 100) : NetOk gs ws ∧ RFew ws := by
  have kk : ∀ g, g < gs.length → kindAt gs g = "sum" := fun g hg' => by
    rw [kindAt_get (List.getElem?_eq_getElem hg')]
    exact (hg _ (List.getElem_mem _)).1
  have hw := h.l
  refine ⟨⟨(fun e => by rw [e] at hl; cases hl), by omega, by omega, fun g hg' => ?_, fun x hx => ?_, fun e he hk => ?_, fun e he hk => ?_, ⟨fun _ => 0, fun x hx e => ?_⟩⟩, rfew_of (d := 6) (fun r hr => hr.few (n := 6) fun p hp => (h.ok _ (getD_mem hp)).1) (fun g => by rw [inTo_cnt]; exact h.c g) (by decide) ?_⟩
  · obtain ⟨h1, h2, h3⟩ := hg g hg'
    refine ⟨by rw [h1]; decide, h2, h3, fun z => ?_⟩
    rw [h1] at z
    rcases z with z | z <;> exact absurd z (by decide)
  · obtain ⟨h1, h2, h3, h4, h5⟩ := h.ok x hx
    have a1 : x.1 < gs.length := by omega
    have a2 : x.2.1 < gs.length := by omega
    exact ⟨a1, a2, (by rw [kk _ a1]; decide), (by rw [kk _ a2]; decide), h3, by omega⟩
  · rw [kk e he] at hk
    exact absurd hk (by decide)
  · rw [kk e he] at hk
    exact absurd hk (by decide)
  · have := (h.ok x hx).2.2.2.1
    rw [e] at this
    exact absurd this (by decide)
  · have : ws.length * 6 ^ 5 ≤ 36 * 6 ^ 5 := Nat.mul_le_mul_right _ (by omega)
    exact Nat.le_trans this (by decide)
def spJoined (K : PySem.W.Frag) : Sp := fun vs H Q _ => ∃ wl : Addr, vs = [.ref wl] ∧ WellAt wl H ∧
  ∀ (gs : List Gt) (ws : List Wr) (lg lw p : Addr) (H' : Hp), NetOk gs ws → RFew ws → ws.length ≤ 100 → Dr wl H H' → H lg = none → H lw = none → LG K H' lg gs → LW K H' lw ws → H' p = some (.tup [.ref lg, .ref lw]) → Q (.ref p) H'
section
variable {P : Program} {w : World} {K : PySem.W.Frag} {mg : Str → Option Value} {base : Heap}
abbrev nJoined : List Str := ["_law_state", "_law_k", "_law_gates_here", "_law_wires_here", "_law_start", "_law_end"]
theorem scJoined : FnScope nJoined ["_law_state"] (defScope sJoined) := ⟨rfl, rfl, rfl, by decide +kernel, rfl, by decide +kernel, by decide +kernel⟩
abbrev DJoined (P : Program) (w : World) (K : PySem.W.Frag) (mg : Str → Option Value) (base : Heap) := Df P w K mg base 2 "_law_all_joined" ["_law_state"] (spJoined K)
theorem ok_joined {f fD : Addr} {fd fdD : FuncData} (F : Fun K "_law_all_joined" "_law_all_joined" sJoined f fd) (hm : mg "_law_all_joined" = some (.ref f)) (B : Bt mg) (DD : DDraw P w K mg base fD fdD) : DJoined P w K mg base f fd := by
  refine ⟨?_, hm, F.kp, F.binds fun _ _ _ _ _ _ us hl => match us, hl with | [_], _ => rfl⟩
  refine F.ok scJoined (fun vs H Q E h => ?_) (fun cdv A outer s H vs Q E hr h => ?_)
  · obtain ⟨wl, rfl, _⟩ := h
    rfl
  · obtain ⟨wl, rfl, hw, q⟩ := h
    have nd := scJoined.nd
    refine ⟨_, pss_cons (ps_setLc (i := 2) (own := [("_law_k", 1)]) (g := (gName 1)) (tt := tYes) (te := (tTup (tCons (tC (.str "sum")) (tCons (tCall spDraw [] E0 (tCons (tVar 0) (tCons (tC (.int 10)) tNil))) tNil)))) rfl nd rfl rfl (sw_true rfl rfl rfl (by decide +kernel)) (pi_range1 (by rfl) B.range (pa_cons pe_int pa_nil)) (blkOk_by (N := nJoined) (sc := defScope sJoined) (own := [("_law_k", 1)]) (by decide +kernel)) (fun _ _ _ _ _ => (pg_name (i := 1) nd rfl (.inl rfl))) (fun _ _ _ _ _ => pts_nil) (fun _ _ _ _ _ => (pe_tup (pa_cons pe_str (pa_cons (pe_call DD.ok (hr.mono (by decide)) (by rfl) DD.mg DD.kp DD.bd .nil pass0 (pa_cons (pv 0) (pa_cons pe_int pa_nil))) pa_nil))))) <|
        pss_cons (ps_set (i := 3) nd rfl (.inl rfl) (pe_lst pa_nil)) <|
        pss_cons (ps_for PassesOwn.never rfl (pi_range1 (by rfl) B.range (pa_cons pe_int pa_nil)) (pg_name (i := 4) nd rfl (.inr rfl)) (pss_one (ps_set (i := 3) nd rfl (.inl rfl) (pe_op op_cat (pv 3) (pe_lc (own := [("_law_end", 5)]) (g := (gName 5)) (tt := (tTest (tOp rNe (tVar 5) (tVar 4)))) (te := (tTup (tCons (tVar 4) (tCons (tVar 5) (tCons (tOp (rRep3 K) (tTup (tCons (tC (.int 5)) tNil)) (tOp (rI0 fun i j => .int (i + j)) (tC (.int 1)) (tCall spDraw [] E0 (tCons (tVar 0) (tCons (tC (.int 2)) tNil))))) tNil))))) rfl nd (pi_range1 (by rfl) B.range (pa_cons pe_int pa_nil)) (blkOk_by (N := nJoined) (sc := defScope sJoined) (own := [("_law_end", 5)]) (by decide +kernel)) (fun _ _ _ _ _ => (pg_name (i := 5) nd rfl (.inl rfl))) (fun _ _ _ _ _ => pts_one (pt_cmpR op_ne (pv 5) (pv 4) (nomark _))) (fun _ _ _ _ _ => (pe_tup (pa_cons (pv 4) (pa_cons (pv 5) (pa_cons (pe_op (OpR.or op_rep01 op_repT) (pe_tup (pa_cons pe_int pa_nil)) (pe_op op_add pe_int (pe_call DD.ok (hr.mono (by decide)) (by rfl) DD.mg DD.kp DD.bd .nil pass0 (pa_cons (pv 0) (pa_cons pe_int pa_nil))))) pa_nil)))))))))) <|
        pss_one (ps_ret (pe_tup (pa_cons (pv 2) (pa_cons (pv 3) pa_nil)))), ?_⟩
    -- the gates
    refine ⟨6, rfl, by decide, by decide, fun lg hlg => ?_⟩
    have nlg : lg ≠ wl := (hw.ne hlg).symm
    refine lc_range (lo := 0) (n := 6) (fun i Hc => ∃ (acc : List V) (gs : List Gt), Hc lg = some (.lst acc) ∧ gs.length = i ∧ All2 (GateV K Hc) acc gs ∧ (∀ g ∈ gs, g.1 = "sum" ∧ 0 ≤ g.2 ∧ g.2 ≤ 100) ∧ Dr wl H Hc) ⟨[], [], upd_same, rfl, .nil, (fun g h => nomatch h), Dr.new hw hlg⟩ ?_ ?_
    · rintro i Hc hi ⟨acc, gs, hc, hgl, al, hgk, dr⟩
      have hal : acc.length = i := al.1.trans hgl
      refine ⟨rfl, tyes ?_⟩
      refine ⟨_, rfl, wl, 10, rfl, by decide, by decide, dr.well, fun d4 Hf d40 d41 E4 => ?_⟩
      have D4 := dr.trans E4
      refine ⟨(by show 2 ≤ sizeLine; decide), fun t ht => ?_⟩
      have q5 := same_new (o := .tup [.str "sum", .int d4]) ht
      have f5 : (upd Hf t (.tup [.str "sum", .int d4])) t = some (.tup [.str "sum", .int d4]) := upd_same
      generalize upd Hf t (.tup [.str "sum", .int d4]) = Hg at q5 f5
      have D5 := D4.trans (Dr.ofSame D4.well q5)
      have E35 := E4.trans (Dr.ofSame D4.well q5)
      have hcg := E35.but _ _ nlg hc
      refine ⟨acc, hcg, small1000 (by omega), acc ++ [.ref t], gs ++ [(("sum" : Str), d4)], upd_same, by rw [List.length_append, hgl]; rfl, ?_, fun g hg => ?_, set_well D5 hlg nlg⟩
      · exact All2.snoc (al.imp fun _ _ r => (r.tk (TK.dr dr.well E35.but)).tk (TK.lst hcg)) ((show GateV K Hg (.ref t) (("sum" : Str), d4) from ⟨t, rfl, .inl (.inl f5)⟩).tk (TK.lst hcg))
      · rcases List.mem_append.mp hg with z | z
        · exact hgk g z
        · rw [List.mem_singleton.mp z]
          exact ⟨rfl, d40, by show d4 ≤ 100; omega⟩
    rintro H2 ⟨acc, gs, hg2, hgl, ga2, hgk, D2⟩
    refine gn_norm (σ' := [some (.ref wl), none, some (.ref lg), none, none, none]) rfl ?_
    have G2 : LG K H2 lg gs := ⟨acc, hg2, ga2⟩
    refine ⟨(by show 0 ≤ sizeLine; decide), fun lw hlw => ?_⟩
    have s3 : Same H2 (upd H2 lw (.lst [])) := same_new hlw
    have e3 : (upd H2 lw (.lst [])) lw = some (.lst []) := upd_same
    generalize upd H2 lw (.lst []) = H3 at s3 e3
    have D3 := D2.trans (Dr.ofSame D2.well s3)
    refine gn_norm (σ' := [some (.ref wl), none, some (.ref lg), some (.ref lw), none, none]) rfl ?_
    refine ⟨6, rfl, by decide, by decide, ?_⟩
    refine for_range (lo := 0) (n := 6) (fun i σ Hc => ∃ (t1 t4 t5 : Option V) (lw : Addr) (wv : List V) (us : List Wr), σ = [some (.ref wl), t1, some (.ref lg), some (.ref lw), t4, t5] ∧ Hc lw = some (.lst wv) ∧ H lw = none ∧ All2 (WireV K Hc) wv us ∧ JU i us ∧ LG K Hc lg gs ∧ Dr wl H Hc)
      ⟨_, _, _, lw, [], [], rfl, e3, D2.free hw hlw, .nil, ⟨(fun x h => nomatch h), (fun g => Nat.zero_le 0), Nat.zero_le _⟩, G2.same s3, D3⟩ ?_ ?_
    · rintro i σ Hc hi ⟨t1, t4, t5, lw, wv, us, rfl, hwv, hlw0, wa, ju, Gc, Dc⟩
      have ek : (0 : Int) + (i : Nat) = ((i : Nat) : Int) := Int.zero_add _
      rw [ek]
      refine gn_norm (σ' := [some (.ref wl), t1, some (.ref lg), some (.ref lw), some (.int (i : Nat)), t5]) rfl ?_
      refine ⟨_, rfl, 6, rfl, by decide, by decide, fun D hD => ?_⟩
      have nDw : D ≠ wl := (Dc.well.ne hD).symm
      refine lc_range (lo := 0) (n := 6) (fun j Hd => ∃ (acc : List V) (vs : List Wr), Hd D = some (.lst acc) ∧ All2 (WireV K Hd) acc vs ∧ JV j vs ∧ Dr wl Hc Hd) ⟨[], [], upd_same, .nil, ⟨(fun x h => nomatch h), (fun g => Nat.zero_le 1), (fun g _ => rfl), Nat.zero_le _⟩, Dr.new Dc.well hD⟩ ?_ ?_
      · rintro j Hd hj ⟨acc, vs, hd, va, jv, dd⟩
        have ej : (0 : Int) + (j : Nat) = ((j : Nat) : Int) := Int.zero_add _
        rw [ej]
        refine ⟨rfl, ?_⟩
        refine ⟨_, rfl, _, rfl, rfl, _, rfl, ite2 (fun e => ?_) (fun e => ⟨acc, vs, hd, va, jv.mono, dd⟩)⟩
        refine ⟨_, rfl, _, rfl, (by show 1 ≤ sizeLine; decide), fun t5' ht5 => ?_⟩
        have s5 := same_new (o := .tup [.int 5]) ht5
        have e5 : (upd Hd t5' (.tup [.int 5])) t5' = some (.tup [.int 5]) := upd_same
        generalize upd Hd t5' (.tup [.int 5]) = H5 at s5 e5
        have D5 := dd.trans (Dr.ofSame dd.well s5)
        refine ⟨_, rfl, wl, 2, rfl, by decide, by decide, D5.well, fun d6 H6 d60 d61 E6 => ⟨_, _, rfl, rfl, ?_⟩⟩
        have e6 : SqT K H6 t5' [.int 5] := (TK.dr D5.well E6.but).seq (.inl (.inl e5))
        refine rep_12 (by omega) (by omega) e6 fun p H7 rs s7 h7 r1 r2 r5 => ⟨(by show 3 ≤ sizeLine; decide), fun t ht => ?_⟩
        have s8 := same_new (o := .tup [.int (i : Nat), .int (j : Nat), .ref p]) ht
        have e8 : (upd H7 t (.tup [.int (i : Nat), .int (j : Nat), .ref p])) t = some (.tup [.int (i : Nat), .int (j : Nat), .ref p]) := upd_same
        generalize upd H7 t (.tup [.int (i : Nat), .int (j : Nat), .ref p]) = H8 at s8 e8
        have Ed := ((Dr.ofSame dd.well s5).trans E6).trans (Dr.ofSame E6.well (s7.trans s8))
        have hd8 := Ed.but _ _ nDw hd
        have hvl := jv.l
        refine ⟨acc, hd8, small1000 (by rw [va.1]; omega), acc ++ [.ref t], vs ++ [(i, j, rs)], upd_same, ?_, jv.put ⟨hi, hj, fun y hy => by rw [r5 y hy]; exact ⟨by decide, by decide⟩, r1, r2⟩ rfl, set_well (dd.trans Ed) hD nDw⟩
        exact All2.snoc (va.imp fun _ _ r => (r.tk (TK.dr dd.well Ed.but)).tk (TK.lst hd8)) ((show WireV K H8 (.ref t) (i, j, rs) from ⟨t, p, rfl, .inl (.inl e8), (TK.same s8).seq h7⟩).tk (TK.lst hd8))
      rintro H4 ⟨dv, vs, hd4, va4, jv, D4⟩
      have nlww : lw ≠ wl := fun z => by
        obtain ⟨xs, hx, _⟩ := hw
        rw [z, hx] at hlw0
        cases hlw0
      have h1 := ju.l
      have h2 := jv.l
      have hwv4 := D4.but _ _ nlww hwv
      refine ⟨lw, D, _, _, rfl, rfl, hwv4, hd4, Nat.le_of_lt (small1000 (by rw [wa.1, va4.1]; omega)), fun l5 hl5 => ?_⟩
      have s5 : Same H4 (upd H4 l5 (.lst (wv ++ dv))) := same_new hl5
      have e5 : (upd H4 l5 (.lst (wv ++ dv))) l5 = some (.lst (wv ++ dv)) := upd_same
      have f5 : H l5 = none := (Dc.trans D4).free hw hl5
      generalize upd H4 l5 (.lst (wv ++ dv)) = H5 at s5 e5
      refine ⟨_, _, _, l5, wv ++ dv, us ++ vs, rfl, e5, f5, ?_, ju.go jv, (Gc.dr nlg Dc.well D4).same s5, (Dc.trans D4).trans (Dr.ofSame D4.well s5)⟩
      exact (wa.imp fun _ _ r => (r.tk (TK.dr Dc.well D4.but)).tk (TK.same s5)).append (va4.imp fun _ _ r => r.tk (TK.same s5))
    · rintro σ Hc ⟨t1, t4, t5, lw, wv, us, rfl, hwv, hlw0, wa, ju, Gc, Dc⟩
      obtain ⟨N, R⟩ := joined_net ju hgl hgk
      have h1 := ju.l
      refine ⟨_, rfl, _, rfl, (by show 2 ≤ sizeLine; decide), fun p hp => ?_⟩
      have sp : Same Hc (upd Hc p (.tup [.ref lg, .ref lw])) := same_new hp
      exact q gs us lg lw p _ N R (by omega) (Dc.trans (Dr.ofSame Dc.well sp)) hlg hlw0 (Gc.same sp) (LW.same ⟨wv, hwv, wa⟩ sp) upd_same
end
end Lag

set_option maxRecDepth 100000
set_option maxHeartbeats 8000000
namespace Lag
open PySem PySem.Spec PyProof.Rows L2
abbrev sLaw : Stmt := topS 47 -- @law
def tupD (l : List Int) : PyData := .tuple (l.map PyData.int)
theorem tupD_eq (a b : List Int) : PyData.eqv (tupD a) (tupD b) = decide (a = b) := eqvAll_map (fun x y => intD_eq x y) a b
theorem sh_tup (l : List Int) : Sh 1 (tupD l) := by
  refine sh_tuple fun d hd => ?_
  obtain ⟨i, _, rfl⟩ := List.mem_map.mp hd
  exact sh_int _
theorem dp_tup {K : PySem.W.Frag} {H : Hp} {l : Addr} {xs : List Int} (h : SqT K H l (xs.map V.int)) : Dp K H (.ref l) (tupD xs) := .tup h (ints_dp xs)
section
variable {K : PySem.W.Frag} {C : Addr} {H : Hp}
theorem net_in {Q : Addr → Hp → Prop} {lg lw : Addr} {gs : List Gt} {ws : List Wr} (R : RG K H lg gs) (R2 : RW K H lw ws) (N : NetOk gs ws)
    (q : ∀ p ng nw H', NetAt K C H' p ng nw gs ws → Same H H' → H p = none → H ng = none → H nw = none → Q p H') :
    ∀ x dx, H x = none → H dx = none → dx ≠ x → spInit K C (.ref x :: ([.ref lg, .ref lw] ++ [])) (upd (upd H dx (.own x)) x (.ins C dx [])) (fun v H' => v = .non ∧ Q x H') E0 := by
  intro x dx hx hdx ne
  have s0 : Same H (upd (upd H dx (.own x)) x (.ins C dx [])) := fun b o e => by
    rw [upd_ne (ne_of_none e hx), upd_ne (ne_of_none e hdx)]
    exact e
  refine ⟨x, dx, lg, lw, gs, ws, rfl, upd_same, R.same s0, R2.same s0, N, fun H' ng nw A h1 h2 k => ⟨rfl, ?_⟩⟩
  exact q x ng nw H' A (Same.made hx hdx k) hx (s0.free h1) (s0.free h2)
end
def tupsD (l : List (List Int)) : PyData := .list (l.map tupD)
theorem tupsD_eq (a b : List (List Int)) : PyData.eqv (tupsD a) (tupsD b) = decide (a = b) := eqvAll_map tupD_eq a b
theorem sh_tups (l : List (List Int)) : Sh 2 (tupsD l) := by
  refine sh_list fun d hd => ?_
  obtain ⟨i, _, rfl⟩ := List.mem_map.mp hd
  exact sh_tup i
def spLaw (K : PySem.W.Frag) : Sp := fun vs H Q _ => ∃ (a : Addr) (ns : List Int), vs = [.ref a] ∧ SqL K H a (ns.map V.int) ∧ ns.length ≤ 63 ∧ ∀ H', Q (.bl true) H'
theorem hu65_of {k : Nat} {A : Around} (r : Room k A) : A.units + 65 < cLine := by have := r.un; omega
def rowsD (R : List (List Nat)) : PyData := .list (R.map intsD)
theorem rowsD_eq (a b : List (List Nat)) : PyData.eqv (rowsD a) (rowsD b) = decide (a = b) := eqvAll_map intsD_eq a b
theorem sh_rows (R : List (List Nat)) : Sh 2 (rowsD R) := by
  refine sh_list fun d hd => ?_
  obtain ⟨i, _, rfl⟩ := List.mem_map.mp hd
  exact sh_ints i
theorem dp_rowsN {K : PySem.W.Frag} {H : Hp} {l : Addr} {tv : List V} {R : List (List Nat)} (h : H l = some (.lst tv)) (a : All2 (RowV H) tv R) : Dp K H (.ref l) (rowsD R) :=
  .lst (SqL.of h) (dp_all (fun v r h => by obtain ⟨b, rfl, s⟩ := h; exact dp_ints (SqL.of s)) a)
theorem dp_loads {K : PySem.W.Frag} {H : Hp} {l : Addr} {tv : List V} {gs : List Gt} {ws : List Wr} {R : List (List Nat)} (h : H l = some (.lst tv)) (a : All2 (LoadV H gs ws) tv R) : Dp K H (.ref l) (tupsD (R.map (load gs ws))) := by
  have e : tupsD (R.map (load gs ws)) = .list (R.map fun r => tupD (load gs ws r)) := by
    unfold tupsD
    rw [List.map_map]
    rfl
  rw [e]
  exact .lst (SqL.of h) (dp_all (fun v r h => by obtain ⟨b, rfl, s⟩ := h; exact dp_tup (.inl (.inl s))) a)
theorem any_rows {R : List (List Nat)} {r : List Nat} (h : r ∈ R) : ((R.map intsD).any fun z => PyData.eqv z (intsD r)) = true := by
  rw [List.any_eq_true]
  exact ⟨intsD r, List.mem_map.mpr ⟨r, h, rfl⟩, by rw [intsD_eq]; exact decide_eq_true rfl⟩
section
variable {P : Program} {w : World} {K : PySem.W.Frag} {mg : Str → Option Value} {base : Heap}
abbrev nLaw : List Str := ["_law_script", "_law_k", "_law_state", "_law_gates_here", "_law_wires_here", "_law_net", "_law_due", "_law_ring", "_law_some", "_law_turn", "_law_found", "_law_told", "_law_wait", "_law_many", "_law_other"]
theorem scLaw : FnScope nLaw ["_law_script"] (defScope sLaw) := ⟨rfl, rfl, rfl, by decide +kernel, rfl, by decide +kernel, by decide +kernel⟩
theorem ok_law {f fC fD fP fI fJ fR fL fK fM fS C : Addr} {fd fdC fdD fdP fdI fdJ fdR fdL fdK fdM fdS : FuncData} (F : Fun K "law" "law" sLaw f fd) (B : Bt mg) (mn : mg "min" = none) (T : NT K mg C) (DCa : DCellAt P w K mg base fC fdC) (DD : DDraw P w K mg base fD fdD) (DPa : DLParts P w K mg base fP fdP)
    (MK : Mk K C fI) (init : FnOk P w K mg base CX0 6 fI fdI ["self", "gates", "wires"] (spInit K C)) (bI : Binds K fdI ["self", "gates", "wires"] []) (DAJ : DJoined P w K mg base fJ fdJ) (DLR : DLRings P w K mg base fR fdR) (DLL : DLLoad P w K mg base fL fdL)
    (DRi : DRings P w K mg base C fK fdK) (DLs : DLoads P w K mg base C fM fdM) (DSl : DSlow P w K mg base C fS fdS) :
    FnOk P w K mg base CX0 12 f fd ["_law_script"] (spLaw K) := by
  refine F.ok scLaw (fun vs H Q E h => ?_) (fun cdv A outer s H vs Q E hr h => ?_)
  · obtain ⟨a, ns, rfl, _⟩ := h
    rfl
  · obtain ⟨a, ns, rfl, hS, hlen, q⟩ := h
    have nd := scLaw.nd
    refine ⟨_, pss_cons (ps_for PassesOwn.never rfl (pi_range1 (by rfl) B.range (pa_cons (pe_callB (call_max2 rfl) (by rfl) B.max (by decide +kernel) (pa_cons pe_int (pa_cons (pe_callB (call_min2 rfl) (by rfl) mn (by decide +kernel) (pa_cons pe_int (pa_cons (pe_callB call_len_seq (by rfl) B.len PySem.boot_len (pa_cons (pv 0) pa_nil)) pa_nil))) pa_nil))) pa_nil)) (pg_name (i := 1) nd rfl (.inl rfl)) (pss_cons (ps_set (i := 2) nd rfl (.inl rfl) (pe_lst (pa_cons (pe_op op_add (pe_call DCa.ok (hr.mono (by decide)) (by rfl) DCa.mg DCa.kp DCa.bd .nil pass0 (pa_cons (pv 0) (pa_cons (pv 1) pa_nil))) (pe_op op_mul pe_int (pv 1))) pa_nil))) <|
        pss_cons (ps_asg (pe_call DPa.ok (hr.mono (by decide)) (by rfl) DPa.mg DPa.kp DPa.bd .nil pass0 (pa_cons (pv 2) (pa_cons pe_int pa_nil))) (pg_tup rfl (pgs_cons (pg_name (i := 3) nd rfl (.inr rfl)) (pgs_cons (pg_name (i := 4) nd rfl (.inr rfl)) pgs_nil)))) <|
        Evl.pss_cut (ps_if (pt_cmpR op_eq (pe_call DD.ok (hr.mono (by decide)) (by rfl) DD.mg DD.kp DD.bd .nil pass0 (pa_cons (pv 2) (pa_cons pe_int pa_nil))) pe_int (nomark _)) (pss_one (ps_asg (pe_call DAJ.ok (hr.mono (by decide)) (by rfl) DAJ.mg DAJ.kp DAJ.bd .nil pass0 (pa_cons (pv 2) pa_nil)) (pg_tup rfl (pgs_cons (pg_name (i := 3) nd rfl (.inr rfl)) (pgs_cons (pg_name (i := 4) nd rfl (.inr rfl)) pgs_nil))))) pss_nil) <|
        pss_cons (ps_set (i := 5) nd rfl (.inl rfl) (pe_make MK init (hr.mono (by decide)) (by rfl) T.mg bI .nil pass0 (pa_cons (pv 3) (pa_cons (pv 4) pa_nil)))) <|
        pss_cons (ps_set (i := 6) nd rfl (.inl rfl) (pe_call DLR.ok (hr.mono (by decide)) (by rfl) DLR.mg DLR.kp DLR.bd .nil pass0 (pa_cons (pv 4) pa_nil))) <|
        pss_cons (ps_setLc (i := 8) (own := [("_law_ring", 7)]) (g := (gName 7)) (tt := tYes) (te := (tCall (spLLoad K) [] E0 (tCons (tVar 3) (tCons (tVar 4) (tCons (tVar 7) tNil))))) rfl nd rfl rfl (sw_true rfl rfl rfl (by decide +kernel)) (pi_list (pv 6)) (blkOk_by (N := nLaw) (sc := defScope sLaw) (own := [("_law_ring", 7)]) (by decide +kernel)) (fun _ _ _ _ _ => (pg_name (i := 7) nd rfl (.inl rfl))) (fun _ _ _ _ _ => pts_nil) (fun _ _ _ _ _ => (pe_call DLL.ok (hr.mono (by decide)) (by rfl) DLL.mg DLL.kp DLL.bd .nil pass0 (pa_cons (pv 3) (pa_cons (pv 4) (pa_cons (pv 7) pa_nil)))))) <|
        pss_cons (ps_for PassesOwn.never rfl (pi_range1 (by rfl) B.range (pa_cons pe_int pa_nil)) (pg_name (i := 9) nd rfl (.inl rfl)) (pss_cons (ps_set (i := 10) nd rfl (.inl rfl) (pe_call DRi.ok (hr.mono (by decide)) (by rfl) DRi.mg DRi.kp DRi.bd .nil pass0 (pa_cons (pv 5) pa_nil))) <|
        pss_cons (ps_set (i := 11) nd rfl (.inl rfl) (pe_call DLs.ok (hr.mono (by decide)) (by rfl) DLs.mg DLs.kp DLs.bd .nil pass0 (pa_cons (pv 5) pa_nil))) <|
        pss_cons (ps_if (PW.pt (pw_or (pt_not (pt_val (pe_callB call_isi (by rfl) B.isi (by decide +kernel) (pa_cons (pv 10) (pa_cons (pe_bltn (v := .ty "list") (by rfl) B.list (by decide +kernel) rfl) pa_nil))))) (pw_or (pt_cmpR (op_neD hr.units) (pv 10) (pv 6) (nomark _)) (pw_or (pt_not (pt_val (pe_callB call_isi (by rfl) B.isi (by decide +kernel) (pa_cons (pv 11) (pa_cons (pe_bltn (v := .ty "list") (by rfl) B.list (by decide +kernel) rfl) pa_nil))))) (pw_or1 (pt_cmpR (op_neD hr.units) (pv 11) (pv 8) (nomark _))))))) (pss_one (ps_ret pe_bl)) pss_nil) <|
        pss_cons (ps_for PassesOwn.never rfl (pi_list (pv 10)) (pg_name (i := 7) nd rfl (.inl rfl)) (pss_one (ps_expr (pe_bm PySem.F.plainAttrs_list PySem.F.slot_list_append PySem.F.type_list_append mt_append (pv 7) (pa_cons pe_int pa_nil))))) <|
        pss_one (ps_expr (pe_bm0 PySem.F.plainAttrs_list PySem.F.slot_list_clear PySem.F.type_list_clear mt_clear (pv 11))))) <|
        Evl.pss_cut (ps_if (pt_cmpR (op_neD hr.units) (pv 6) (pe_lst pa_nil) (nomark _)) (pss_one (ps_expr (pe_bm PySem.F.plainAttrs_list PySem.F.slot_list_append PySem.F.type_list_append mt_append (pe_call DSl.ok (hr.mono (by decide)) (by rfl) DSl.mg DSl.kp DSl.bd .nil pass0 (pa_cons (pv 5) pa_nil)) (pa_cons pe_int pa_nil)))) pss_nil) <|
        pss_cons (ps_set (i := 7) nd rfl (.inl rfl) (pe_call DSl.ok (hr.mono (by decide)) (by rfl) DSl.mg DSl.kp DSl.bd .nil pass0 (pa_cons (pv 5) pa_nil))) <|
        pss_one (ps_if (PW.pt (pw_or (pt_cmpR op_isN (pv 7) pe_non (nomark _)) (pw_or1 (pt_cmpR (op_eqD hr.units) (pv 6) (pe_lst pa_nil) (nomark _))))) (pss_one (ps_if (PW.pt (pw_or (pt_cmpR op_notN (pv 7) pe_non (nomark _)) (pw_or1 (pt_cmpR (op_neD hr.units) (pv 6) (pe_lst pa_nil) (nomark _))))) (pss_one (ps_ret pe_bl)) pss_nil)) (pss_cons (ps_if (pt_cmpR (op_notInD (hu65_of hr)) (pv 7) (pv 6) (by rfl)) (pss_one (ps_ret pe_bl)) pss_nil) <|
        pss_cons (ps_asg (pe_call DLL.ok (hr.mono (by decide)) (by rfl) DLL.mg DLL.kp DLL.bd .nil pass0 (pa_cons (pv 3) (pa_cons (pv 4) (pa_cons (pv 7) pa_nil)))) (pg_tup rfl (pgs_cons (pg_name (i := 12) nd rfl (.inr rfl)) (pgs_cons (pg_name (i := 13) nd rfl (.inr rfl)) pgs_nil)))) <|
        pss_one (ps_if (pt_cmpR (op_neD hr.units) (pe_lc (own := [("_law_other", 14)]) (g := (gName 14)) (tt := (tTest (tOp (rI0 fun i j => .bl (decide (j < i))) (tOp (rI CMul fun i j => .int (i * j)) (tOp (rIxT K) (tVar 14) (tC (.int 0))) (tVar 13)) (tOp (rI CMul fun i j => .int (i * j)) (tVar 12) (tOp (rIxT K) (tVar 14) (tC (.int 1))))))) (te := (tC (.int 1))) rfl nd (pi_list (pv 8)) (blkOk_by (N := nLaw) (sc := defScope sLaw) (own := [("_law_other", 14)]) (by decide +kernel)) (fun _ _ _ _ _ => (pg_name (i := 14) nd rfl (.inl rfl))) (fun _ _ _ _ _ => pts_one (pt_cmpR op_gt (pe_op op_mul (pe_ix ix_tup (pv 14) pe_int (fun _ _ => rfl)) (pv 13)) (pe_op op_mul (pv 12) (pe_ix ix_tup (pv 14) pe_int (fun _ _ => rfl))) (nomark _))) (fun _ _ _ _ _ => pe_int)) (pe_lst pa_nil) (nomark _)) (pss_one (ps_ret pe_bl)) pss_nil))))) <|
        pss_one (ps_ret pe_bl), ?_⟩
    refine ⟨_, rfl, a, _, rfl, .inl hS, 8, _, rfl, 1, _, rfl, _, rfl, ?_, ?_, ?_⟩
    · split <;> split <;> omega
    · split <;> split <;> omega
    refine for_range (lo := 0) (fun i σ H' => ∃ t1 t2 t3 t4 t5 t6 t7 t8 t9 t10 t11 t12 t13 t14 : Option V, σ = [some (.ref a), t1, t2, t3, t4, t5, t6, t7, t8, t9, t10, t11, t12, t13, t14] ∧ Same H H') ⟨_, _, _, _, _, _, _, _, _, _, _, _, _, _, rfl, Same.refl _⟩ ?_ (fun σ H' ⟨_, _, _, _, _, _, _, _, _, _, _, _, _, _, e, _⟩ => by subst e; exact q H')
    rintro i σ H0 hi ⟨t1, t2, t3, t4, t5, t6, t7, t8, t9, t10, t11, t12, t13, t14, rfl, s0⟩
    have ek : (0 : Int) + (i : Nat) = ((i : Nat) : Int) := Int.zero_add _
    rw [ek]
    refine ⟨_, rfl, _, rfl, a, ns, _, rfl, by omega, s0.seq hS, fun z => ?_⟩
    refine ⟨_, rfl, _, _, rfl, rfl, .inl ⟨by decide, by decide⟩, _, _, rfl, rfl, (by show 1 ≤ sizeLine; decide), fun wl hwl => ?_⟩
    have s1 : Same H0 (upd H0 wl (.lst [.int (z + 31 * (i : Nat))])) := same_new hwl
    have W1 : WellAt wl (upd H0 wl (.lst [.int (z + 31 * (i : Nat))])) := ⟨_, upd_same, .inl ⟨_, rfl⟩⟩
    generalize upd H0 wl (.lst [.int (z + 31 * (i : Nat))]) = H1 at s1 W1
    refine gn_norm (σ' := [some (.ref a), some (.int (i : Nat)), some (.ref wl), t3, t4, t5, t6, t7, t8, t9, t10, t11, t12, t13, t14]) rfl ?_
    refine ⟨_, rfl, wl, 5, rfl, by decide, by decide, W1, fun gs ws lg lw p H2 N gl24 glm hnI hwg rl3 hw72 wne c3 inner D2 hlg hlw nlgw LG2 LW2 ep => ?_⟩
    refine ⟨p, _, rfl, .inl (.inl ep), rfl, _, _, rfl, _, _, rfl, rfl, ?_⟩
    have nlg : lg ≠ wl := (W1.ne hlg).symm
    have nlw : lw ≠ wl := (W1.ne hlw).symm
    have W2 := D2.well
    refine gn_norm (σ' := [some (.ref a), some (.int (i : Nat)), some (.ref wl), some (.ref lg), some (.ref lw), t5, t6, t7, t8, t9, t10, t11, t12, t13, t14]) rfl ?_
    have RF : RFew ws := rfew_of (d := 3) (fun r hr => by have := hr.parts N; omega) (fun g => by rw [inTo_cnt]; exact c3 g) (by decide) (Nat.le_trans (Nat.mul_le_mul_right _ (show ws.length ≤ 72 from hw72)) (by decide))
    refine ⟨fun σ Hd => ∃ (gs : List Gt) (ws : List Wr) (lg lw : Addr), σ = [some (.ref a), some (.int (i : Nat)), some (.ref wl), some (.ref lg), some (.ref lw), t5, t6, t7, t8, t9, t10, t11, t12, t13, t14] ∧ NetOk gs ws ∧ RFew ws ∧ ws.length ≤ 100 ∧ LG K Hd lg gs ∧ LW K Hd lw ws ∧ Dr wl H1 Hd, ?_, ?_⟩
    · refine ⟨_, rfl, wl, 8, rfl, by decide, by decide, W2, fun d7 H7 d70 d71 E7 => ⟨rfl, _, rfl, ite2 (fun _ => ?_) (fun _ => ?_)⟩⟩
      · refine ⟨_, rfl, wl, rfl, E7.well, fun gs ws lg lw p H' N RF hwl DG hlg hlw G W ep => ?_⟩
        exact ⟨p, _, rfl, .inl (.inl ep), rfl, _, _, rfl, _, _, rfl, rfl, gs, ws, lg, lw, rfl, N, RF, hwl, G, W, (D2.trans E7).trans DG⟩
      · exact ⟨gs, ws, lg, lw, rfl, N, RF, by omega, LG2.dr nlg W2 E7, LW2.dr nlw W2 E7, D2.trans E7⟩
    clear RF N gl24 glm hnI hwg rl3 hw72 wne c3 inner hlg hlw nlgw LG2 LW2 ep nlg nlw W2 D2
    clear gs ws lg lw
    rintro σ H3 ⟨gs, ws, lg, lw, rfl, N, RF, hwl100, LG3, LW3, D3⟩
    refine ⟨_, rfl, _, rfl, ?_⟩
    refine net_in LG3.rg LW3.rw N fun p1 ng1 nw1 H4 NA4 s4 hp1 hng1 hnw1 => ?_
    refine gn_norm (σ' := [some (.ref a), some (.int (i : Nat)), some (.ref wl), some (.ref lg), some (.ref lw), some (.ref p1), t6, t7, t8, t9, t10, t11, t12, t13, t14]) rfl ?_
    refine ⟨_, rfl, lw, ws, rfl, LW3.same s4, hwl100, RF.rows, RF.found, fun ld dv H5 s5 hld eld dra => ?_⟩
    refine gn_norm (σ' := [some (.ref a), some (.int (i : Nat)), some (.ref wl), some (.ref lg), some (.ref lw), some (.ref p1), some (.ref ld), t7, t8, t9, t10, t11, t12, t13, t14]) rfl ?_
    have NA5 := NA4.same s5
    have s45 := s4.trans s5
    have G5 := LG3.same s45
    have LW5 := LW3.same s45
    have dl : dv.length = (walks ws (frB ws)).length := dra.1
    have cap := RF.walks
    -- some
    refine ⟨_, rfl, ld, rfl, ⟨_, SqL.of eld⟩, fun lsm hlsm => ?_⟩
    refine lc_list (K := K) (a := ld) (xs := dv) (fun j Hc => ∃ acc, Hc lsm = some (.lst acc) ∧ acc.length = j ∧ All2 (LoadV Hc gs ws) acc ((walks ws (frB ws)).take j) ∧ Same H5 Hc) ⟨[], upd_same, rfl, All2.nil, same_new hlsm⟩ (fun j Hc _ ⟨_, _, _, _, sm⟩ => SqL.of (sm _ _ eld)) ?_ ?_
    · rintro j v Hc hv ⟨acc, hc, hal, aa, sm⟩
      obtain ⟨r, hr', b, rfl, hb⟩ := dra.get hv
      have hj : j < dv.length := (List.getElem?_eq_some_iff.mp hv).1
      have hring := (mem_walks (frB_ok ws)).mp (List.mem_of_getElem? hr')
      have hrl := RF.M _ hring.rw
      refine ⟨rfl, tyes ?_⟩
      refine ⟨_, rfl, _, rfl, _, rfl, lg, lw, b, gs, ws, r, rfl, G5.same sm, LW5.same sm, N, sm _ _ hb, hring.rw.lt, by omega, fun l H' s' el => ?_⟩
      refine ⟨acc, s' _ _ hc, by show _ < 2 ^ 24; omega, acc ++ [.ref l], upd_same, by rw [List.length_append, hal]; rfl, ?_, same_mut (sm.trans s') hlsm⟩
      rw [List.take_add_one, hr']
      exact (aa.imp fun _ _ z => (z.same s').lst (s' _ _ hc)).snoc (LoadV.lst (s' _ _ hc) ⟨l, rfl, el⟩)
    rintro H6 ⟨sv, hsv, hsl, sa, s6⟩
    rw [dl, List.take_length] at sa
    refine gn_norm (σ' := [some (.ref a), some (.int (i : Nat)), some (.ref wl), some (.ref lg), some (.ref lw), some (.ref p1), some (.ref ld), t7, some (.ref lsm), t9, t10, t11, t12, t13, t14]) rfl ?_
    have NA6 := NA5.same s6
    have eld6 := s6 _ _ eld
    have dra6 := dra.imp fun _ _ z => z.same s6
    have shR := (sh_rows (walks ws (frB ws))).ok (by decide)
    have shL := (sh_tups ((walks ws (frB ws)).map (load gs ws))).ok (by decide)
    have eqR : PyData.eqv (rowsD (walks ws (frB ws))) (rowsD (walks ws (frB ws))) = true := by rw [rowsD_eq, decide_eq_true rfl]
    have eqL : PyData.eqv (tupsD ((walks ws (frB ws)).map (load gs ws))) (tupsD ((walks ws (frB ws)).map (load gs ws))) = true := by rw [tupsD_eq, decide_eq_true rfl]
    have she : SeqAt.shaped (.list []) = true := (sh_list (k := 0) fun d hd => by cases hd).ok (by decide)
    have eq0 : PyData.eqv (rowsD (walks ws (frB ws))) (.list []) = decide (walks ws (frB ws) = []) := rowsD_eq (walks ws (frB ws)) []
    refine ⟨2, rfl, by decide, by decide, ?_⟩
    refine for_range (lo := 0) (fun k σ Hc => ∃ u7 u9 u10 u11 : Option V, σ = [some (.ref a), some (.int (i : Nat)), some (.ref wl), some (.ref lg), some (.ref lw), some (.ref p1), some (.ref ld), u7, some (.ref lsm), u9, u10, u11, t12, t13, t14] ∧ Same H6 Hc) ⟨_, _, _, _, rfl, Same.refl _⟩ ?_ ?_
    · rintro k σ Hc hk ⟨u7, u9, u10, u11, rfl, sc⟩
      refine gn_norm (σ' := [some (.ref a), some (.int (i : Nat)), some (.ref wl), some (.ref lg), some (.ref lw), some (.ref p1), some (.ref ld), u7, some (.ref lsm), some (.int (0 + (k : Nat))), u10, u11, t12, t13, t14]) rfl ?_
      refine ⟨_, rfl, p1, ng1, nw1, gs, ws, 6, rfl, NA6.same sc, N, RF.M, by decide, cap, fun lt tv H7 s7 hlt elt trw => ?_⟩
      refine gn_norm (σ' := [some (.ref a), some (.int (i : Nat)), some (.ref wl), some (.ref lg), some (.ref lw), some (.ref p1), some (.ref ld), u7, some (.ref lsm), some (.int (0 + (k : Nat))), some (.ref lt), u11, t12, t13, t14]) rfl ?_
      have s67 := sc.trans s7
      refine ⟨_, rfl, p1, ng1, nw1, gs, ws, 6, rfl, NA6.same s67, N, RF.M, by decide, cap, fun l lv H8 s8 hl el la => ?_⟩
      refine gn_norm (σ' := [some (.ref a), some (.int (i : Nat)), some (.ref wl), some (.ref lg), some (.ref lw), some (.ref p1), some (.ref ld), u7, some (.ref lsm), some (.int (0 + (k : Nat))), some (.ref lt), some (.ref l), t12, t13, t14]) rfl ?_
      have s68 := s67.trans s8
      have elt8 := s8 _ _ elt
      have dp1 := dp_rowsN (K := K) elt8 (trw.imp fun _ _ z => z.row.same s8)
      have dp2 := dp_rowsN (K := K) (s68 _ _ eld6) (dra6.imp fun _ _ z => z.same s68)
      have dp3 := dp_loads (K := K) el la
      have dp4 := dp_loads (K := K) (s68 _ _ hsv) (sa.imp fun _ _ z => z.same s68)
      refine ⟨_, rfl, _, _, _, _, true, rfl, .ty "list", ty_lst (SqL.of elt8), kit_ty (by decide +kernel), true, rfl, ?_⟩
      refine iteF ⟨_, rfl, _, rfl, _, _, dp1, dp2, shR, shR, false, ?_, iteF ?_⟩
      · rw [eqR]
        rfl
      refine ⟨_, rfl, _, _, _, _, true, rfl, .ty "list", ty_lst (SqL.of el), kit_ty (by decide +kernel), true, rfl, ?_⟩
      refine iteF ⟨_, rfl, _, rfl, _, _, dp3, dp4, shL, shL, false, ?_, iteF ?_⟩
      · rw [eqL]
        rfl
      -- append to each row
      have tl : tv.length = (walks ws (frB ws)).length := trw.1
      have hlt6 : H6 lt = none := sc.free hlt
      have hl6 : H6 l = none := s67.free hl
      refine ⟨_, rfl, lt, rfl, ⟨_, SqL.of elt8⟩, for_list (K := K) (a := lt) (xs := tv) (fun j σ Hd => ∃ u7 : Option V, σ = [some (.ref a), some (.int (i : Nat)), some (.ref wl), some (.ref lg), some (.ref lw), some (.ref p1), some (.ref ld), u7, some (.ref lsm), some (.int (0 + (k : Nat))), some (.ref lt), some (.ref l), t12, t13, t14] ∧ Same H6 Hd ∧ Hd lt = some (.lst tv) ∧ Hd l = some (.lst lv) ∧ ∀ v ∈ tv, ∃ (b : Addr) (ys : List V), v = .ref b ∧ b ≠ lt ∧ b ≠ l ∧ H6 b = none ∧ Hd b = some (.lst ys) ∧ ys.length ≤ 1000 + j)
        ⟨_, rfl, s68, elt8, el, fun v hv => ?_⟩ (fun j σ Hd _ ⟨_, _, _, z, _⟩ => SqL.of z) ?_ ?_⟩
      · obtain ⟨j, hj⟩ := List.getElem?_of_mem hv
        obtain ⟨r, hr', b, rfl, nb, hb0, hb⟩ := trw.get hj
        have hring := (mem_walks (frB_ok ws)).mp (List.mem_of_getElem? hr')
        have hrl := RF.M _ hring.rw
        exact ⟨b, _, rfl, nb, ne_of_none hb hl, sc.free hb0, s8 _ _ hb, by rw [nat_len]; omega⟩
      · rintro j v σ Hd hv ⟨u7, rfl, sd, elt, el, hrow⟩
        have hj : j < tv.length := (List.getElem?_eq_some_iff.mp hv).1
        obtain ⟨b, ys, rfl, nb, nb2, hb0, hb, hyl⟩ := hrow v (List.mem_of_getElem? hv)
        refine ⟨_, rfl, .inl ⟨rfl, _, SqL.of hb⟩, b, ys, _, rfl, rfl, hb, by show _ < 2 ^ 24; omega, ?_⟩
        refine ⟨_, rfl, same_mut sd hb0, (upd_ne nb.symm).trans elt, (upd_ne nb2.symm).trans el, fun v' hv' => ?_⟩
        obtain ⟨b', ys', rfl, nb', nb2', hb0', hb', hyl'⟩ := hrow v' hv'
        by_cases z : b' = b
        · subst z
          exact ⟨b', _, rfl, nb', nb2', hb0', upd_same, by rw [List.length_append]; show _ + 1 ≤ _; omega⟩
        · exact ⟨b', ys', rfl, nb', nb2', hb0', (upd_ne z).trans hb', by omega⟩
      · rintro σ Hd ⟨u7, rfl, sd, elt, el, hrow⟩
        refine ⟨_, rfl, .inl ⟨rfl, _, SqL.of el⟩, l, _, rfl, rfl, el, ?_⟩
        exact ⟨_, _, _, _, rfl, same_mut sd hl6⟩
    · rintro σ Hc ⟨u7, u9, u10, u11, rfl, sc⟩
      -- slowest(..).append(0)
      refine ⟨fun σ Hd => σ = [some (.ref a), some (.int (i : Nat)), some (.ref wl), some (.ref lg), some (.ref lw), some (.ref p1), some (.ref ld), u7, some (.ref lsm), u9, u10, u11, t12, t13, t14] ∧ Same H6 Hd, ?_, ?_⟩
      · refine ⟨_, rfl, (by show 0 ≤ sizeLine; decide), fun l2 hl2 => ?_⟩
        have s9 : Same Hc (upd Hc l2 (.lst [])) := same_new hl2
        have e9 : (upd Hc l2 (.lst [])) l2 = some (.lst []) := upd_same
        generalize upd Hc l2 (.lst []) = H9 at s9 e9
        have s69 := sc.trans s9
        refine ⟨_, _, dp_rowsN (s69 _ _ eld6) (dra6.imp fun _ _ z => z.same s69), .lst (SqL.of e9) .nil, shR, she, _, rfl, ?_⟩
        rw [eq0]
        by_cases hnil : walks ws (frB ws) = []
        · rw [decide_eq_true hnil]
          exact iteF ⟨rfl, s69⟩
        · rw [decide_eq_false hnil]
          refine iteT ⟨_, rfl, p1, ng1, nw1, gs, ws, 6, rfl, NA6.same s69, N, RF.M, by decide, cap, fun h => absurd h hnil, fun b r H' _ s' hb0 hb hr hmax => ?_⟩
          have hring := (mem_walks (frB_ok ws)).mp hr
          have hrl := RF.M _ hring.rw
          refine ⟨.inl ⟨rfl, _, SqL.of hb⟩, b, _, _, rfl, rfl, hb, small1000 (by rw [nat_len]; omega), rfl, same_mut (s69.trans s') (s69.free hb0)⟩
      rintro σ Hd ⟨rfl, sd⟩
      have fin : ∀ {Hx : Hp}, Same H6 Hx → Same H Hx := fun {Hx} sx b o e => by
        have e0 := s0 _ _ e
        exact sx _ _ (s6 _ _ (s45 _ _ (D3.but _ _ (ne_of_none e0 hwl) (s1 _ _ e0))))
      refine ⟨_, rfl, p1, ng1, nw1, gs, ws, 6, rfl, NA6.same sd, N, RF.M, by decide, cap, fun hnil H' s' => ?_, fun b r H' hne s' hb0 hb hr hmax => ?_⟩
      · have s9 := sd.trans s'
        refine gn_norm (σ' := [some (.ref a), some (.int (i : Nat)), some (.ref wl), some (.ref lg), some (.ref lw), some (.ref p1), some (.ref ld), some .non, some (.ref lsm), u9, u10, u11, t12, t13, t14]) rfl ?_
        refine ⟨_, rfl, rfl, _, rfl, ite2 (fun _ => ?_) (fun e => absurd (decide_eq_true rfl) e)⟩
        refine ite2 (fun _ => ?_) (fun e => absurd rfl e)
        refine ⟨_, rfl, rfl, false, ?_, iteF ?_⟩
        · rw [decide_eq_true rfl]
          rfl
        refine ⟨_, rfl, (by show 0 ≤ sizeLine; decide), fun l2 hl2 => ?_⟩
        have s10 : Same H' (upd H' l2 (.lst [])) := same_new hl2
        have e10 : (upd H' l2 (.lst [])) l2 = some (.lst []) := upd_same
        generalize upd H' l2 (.lst []) = H10 at s10 e10
        have s610 := s9.trans s10
        refine ⟨_, _, dp_rowsN (s610 _ _ eld6) (dra6.imp fun _ _ z => z.same s610), .lst (SqL.of e10) .nil, shR, she, false, ?_, iteF ?_⟩
        · rw [eq0, decide_eq_true hnil]
          rfl
        exact ⟨_, _, _, _, _, _, _, _, _, _, _, _, _, _, rfl, fin s610⟩
      · have s9 := sd.trans s'
        have hring := (mem_walks (frB_ok ws)).mp hr
        have hrl := RF.M _ hring.rw
        refine gn_norm (σ' := [some (.ref a), some (.int (i : Nat)), some (.ref wl), some (.ref lg), some (.ref lw), some (.ref p1), some (.ref ld), some (.ref b), some (.ref lsm), u9, u10, u11, t12, t13, t14]) rfl ?_
        refine ⟨_, rfl, rfl, _, rfl, ite2 (fun e => absurd (of_decide_eq_true e) (fun z => nomatch z)) (fun _ => ?_)⟩
        refine ⟨_, rfl, (by show 0 ≤ sizeLine; decide), fun l2 hl2 => ?_⟩
        have s10 : Same H' (upd H' l2 (.lst [])) := same_new hl2
        have e10 : (upd H' l2 (.lst [])) l2 = some (.lst []) := upd_same
        generalize upd H' l2 (.lst []) = H10 at s10 e10
        have s610 := s9.trans s10
        have hb10 := s10 _ _ hb
        have dpR := dp_rowsN (K := K) (s610 _ _ eld6) (dra6.imp fun _ _ z => z.same s610)
        refine ⟨_, _, dpR, .lst (SqL.of e10) .nil, shR, she, false, ?_, iteF ?_⟩
        · rw [eq0, decide_eq_false hne]
        refine ⟨_, rfl, _, rfl, _, _, dp_ints (SqL.of hb10), dpR, (sh_ints r).ok (by decide), shR, false, ?_, iteF ?_⟩
        · rw [any_rows hr]
          rfl
        refine ⟨_, rfl, _, rfl, _, rfl, lg, lw, b, gs, ws, r, rfl, (G5.same s6).same s610, (LW5.same s6).same s610, N, hb10, hring.rw.lt, by omega, fun t H11 s11 et => ?_⟩
        refine ⟨t, _, rfl, .inl (.inl et), rfl, _, _, rfl, _, _, rfl, rfl, ?_⟩
        have s611 := s610.trans s11
        refine gn_norm (σ' := [some (.ref a), some (.int (i : Nat)), some (.ref wl), some (.ref lg), some (.ref lw), some (.ref p1), some (.ref ld), some (.ref b), some (.ref lsm), u9, u10, u11, some (.int (loadW gs ws r).sum), some (.int (loadR ws r).sum), t14]) rfl ?_
        refine ⟨_, rfl, lsm, rfl, ⟨_, SqL.of (s611 _ _ hsv)⟩, fun D hD => ?_⟩
        have b1 := loadW_b N hring.rw.lt
        refine lc_list (K := K) (a := lsm) (xs := sv) (fun k Hd => Hd D = some (.lst []) ∧ Same H11 Hd) ⟨upd_same, same_new hD⟩ (fun k Hd _ ⟨_, sd⟩ => SqL.of (sd _ _ (s611 _ _ hsv))) ?_ ?_
        · rintro j v Hd hv ⟨hd, sd⟩
          obtain ⟨o, ho, t2, rfl, st2⟩ := sa.get hv
          have hoR := List.mem_of_getElem? ho
          have hring2 := (mem_walks (frB_ok ws)).mp hoR
          have hrl2 := RF.M _ hring2.rw
          have b2 := loadW_b N hring2.rw.lt
          have sq : SqT K Hd t2 [.int (loadW gs ws o).sum, .int (loadR ws o).sum] := .inl (.inl (sd _ _ (s611 _ _ st2)))
          have m1 := mul_b (b := 0) b2.1 (by omega) (Int.le_refl 0) (by decide)
          have m2 := mul_b (b := 0) b1.1 (by omega) (Int.le_refl 0) (by decide)
          refine ⟨rfl, ?_⟩
          refine ⟨_, rfl, t2, _, _, .int (loadW gs ws o).sum, rfl, rfl, sq, atI_nat (j := 0) rfl, _, rfl, _, _, rfl, rfl, .inl m1, ?_⟩
          refine ⟨_, rfl, _, rfl, t2, _, _, .int (loadR ws o).sum, rfl, rfl, sq, atI_nat (j := 1) rfl, _, _, rfl, rfl, .inl m2, ?_⟩
          refine ⟨_, _, rfl, rfl, _, rfl, ite2 (fun e => ?_) (fun _ => ⟨hd, sd⟩)⟩
          have e := of_decide_eq_true e
          have hm : (loadW gs ws o).sum * (loadR ws r).sum ≤ (loadW gs ws r).sum * (loadR ws o).sum := hmax o hoR
          exact absurd e (by omega)
        rintro H12 ⟨hd12, s12⟩
        refine ⟨(by show 0 ≤ sizeLine; decide), fun l3 hl3 => ?_⟩
        have s13 : Same H12 (upd H12 l3 (.lst [])) := same_new hl3
        have e13 : (upd H12 l3 (.lst [])) l3 = some (.lst []) := upd_same
        generalize upd H12 l3 (.lst []) = H13 at s13 e13
        refine ⟨.list [], .list [], .lst (SqL.of (s13 _ _ hd12)) .nil, .lst (SqL.of e13) .nil, she, she, false, rfl, iteF ?_⟩
        exact ⟨_, _, _, _, _, _, _, _, _, _, _, _, _, _, rfl, fin (s611.trans (s12.trans s13))⟩
end
end Lag

set_option maxRecDepth 100000
set_option maxHeartbeats 8000000
namespace Lag
open PySem PySem.Spec PyProof.Rows L2
theorem all_mk {l : PySem.W.OpenLaw} {w : World} {K : PySem.W.Frag} {h : Heap} {mg : Str → Option Value} {fa C : Addr} (X : K.In h) (G : h.Ns mainGlobals mg) (hfa : mg "law" = some (.ref fa))
    {fd0 : Addr} {odd0 and0 : Option Addr} {sld0 : Array (Option Value)} {ocd0 kVd0 dcd0 pmd0 cdd0 ctd0 : Value}
    {fd1 : Addr} {odd1 and1 : Option Addr} {sld1 : Array (Option Value)} {ocd1 kVd1 dcd1 pmd1 cdd1 ctd1 : Value}
    {fd2 : Addr} {odd2 and2 : Option Addr} {sld2 : Array (Option Value)} {ocd2 kVd2 dcd2 pmd2 cdd2 ctd2 : Value}
    {fd3 : Addr} {odd3 and3 : Option Addr} {sld3 : Array (Option Value)} {ocd3 kVd3 dcd3 pmd3 cdd3 ctd3 : Value}
    {fd4 : Addr} {odd4 and4 : Option Addr} {sld4 : Array (Option Value)} {ocd4 kVd4 dcd4 pmd4 cdd4 ctd4 : Value}
    {fd5 : Addr} {odd5 and5 : Option Addr} {sld5 : Array (Option Value)} {ocd5 kVd5 dcd5 pmd5 cdd5 ctd5 : Value}
    {fd6 : Addr} {odd6 and6 : Option Addr} {sld6 : Array (Option Value)} {ocd6 kVd6 dcd6 pmd6 cdd6 ctd6 : Value}
    {fd7 : Addr} {odd7 and7 : Option Addr} {sld7 : Array (Option Value)} {ocd7 kVd7 dcd7 pmd7 cdd7 ctd7 : Value}
    {fd8 : Addr} {odd8 and8 : Option Addr} {sld8 : Array (Option Value)} {ocd8 kVd8 dcd8 pmd8 cdd8 ctd8 : Value}
    {fd9 : Addr} {odd9 and9 : Option Addr} {sld9 : Array (Option Value)} {ocd9 kVd9 dcd9 pmd9 cdd9 ctd9 : Value}
    {fd10 : Addr} {odd10 and10 : Option Addr} {sld10 : Array (Option Value)} {ocd10 kVd10 dcd10 pmd10 cdd10 ctd10 : Value}
    {fd11 : Addr} {odd11 and11 : Option Addr} {sld11 : Array (Option Value)} {ocd11 kVd11 dcd11 pmd11 cdd11 ctd11 : Value}
    {fd12 : Addr} {odd12 and12 : Option Addr} {sld12 : Array (Option Value)} {ocd12 kVd12 dcd12 pmd12 cdd12 ctd12 : Value}
    {fd13 : Addr} {odd13 and13 : Option Addr} {sld13 : Array (Option Value)} {ocd13 kVd13 dcd13 pmd13 cdd13 ctd13 : Value}
    {fd14 : Addr} {odd14 and14 : Option Addr} {sld14 : Array (Option Value)} {ocd14 kVd14 dcd14 pmd14 cdd14 ctd14 : Value}
    {fd15 : Addr} {odd15 and15 : Option Addr} {sld15 : Array (Option Value)} {ocd15 kVd15 dcd15 pmd15 cdd15 ctd15 : Value}
    {fd16 : Addr} {odd16 and16 : Option Addr} {sld16 : Array (Option Value)} {ocd16 kVd16 dcd16 pmd16 cdd16 ctd16 : Value}
    {fd17 : Addr} {odd17 and17 : Option Addr} {sld17 : Array (Option Value)} {ocd17 kVd17 dcd17 pmd17 cdd17 ctd17 : Value}
    {fd18 : Addr} {odd18 and18 : Option Addr} {sld18 : Array (Option Value)} {ocd18 kVd18 dcd18 pmd18 cdd18 ctd18 : Value}
    {fd19 : Addr} {odd19 and19 : Option Addr} {sld19 : Array (Option Value)} {ocd19 kVd19 dcd19 pmd19 cdd19 ctd19 : Value}
    {fd20 : Addr} {odd20 and20 : Option Addr} {sld20 : Array (Option Value)} {ocd20 kVd20 dcd20 pmd20 cdd20 ctd20 : Value}
    {fd21 : Addr} {odd21 and21 : Option Addr} {sld21 : Array (Option Value)} {ocd21 kVd21 dcd21 pmd21 cdd21 ctd21 : Value}
    {fd22 : Addr} {odd22 and22 : Option Addr} {sld22 : Array (Option Value)} {ocd22 kVd22 dcd22 pmd22 cdd22 ctd22 : Value}
    {fd23 : Addr} {odd23 and23 : Option Addr} {sld23 : Array (Option Value)} {ocd23 kVd23 dcd23 pmd23 cdd23 ctd23 : Value}
    {fd24 : Addr} {odd24 and24 : Option Addr} {sld24 : Array (Option Value)} {ocd24 kVd24 dcd24 pmd24 cdd24 ctd24 : Value}
    {fd25 : Addr} {odd25 and25 : Option Addr} {sld25 : Array (Option Value)} {ocd25 kVd25 dcd25 pmd25 cdd25 ctd25 : Value}
    {fd26 : Addr} {odd26 and26 : Option Addr} {sld26 : Array (Option Value)} {ocd26 kVd26 dcd26 pmd26 cdd26 ctd26 : Value}
    {fd27 : Addr} {odd27 and27 : Option Addr} {sld27 : Array (Option Value)} {ocd27 kVd27 dcd27 pmd27 cdd27 ctd27 : Value}
    {fd28 : Addr} {odd28 and28 : Option Addr} {sld28 : Array (Option Value)} {ocd28 kVd28 dcd28 pmd28 cdd28 ctd28 : Value}
    {fm0 : Addr} {odm0 anm0 : Option Addr} {slm0 : Array (Option Value)} {ocm0 kVm0 dcm0 pmm0 cdm0 ctm0 : Value}
    {tGW tGA : Tok}
    {aK nnK : Nat} {ddK : Option Addr} {ssK : Array (Option Value)} {tK0 tK1 tK2 tK3 tK4 tK5 tK6 tK7 : Tok}
    {aW nnW : Nat} {ddW : Option Addr} {ssW : Array (Option Value)} {tW0 tW1 : Tok}
    {aF nnF : Nat} {ddF : Option Addr} {ssF : Array (Option Value)} {tF0 tF1 : Tok}
    (aC : PySem.W.nsIn K mainGlobals "Net" = some (some (.ref C)))
    (ad0 : PySem.W.nsIn K mainGlobals "is_whole" = some (some (.ref fd0)))
    (ld0 : K.lookup fd0 = some ⟨ocd0, odd0, .func (PySem.W.fnOf "is_whole" "is_whole" (defArgs sWhole) (defBody sWhole) (defScope sWhole) .none kVd0 dcd0 pmd0 and0 cdd0 ctd0), sld0⟩)
    (cd0 : PySem.W.codeIn K cdd0 "is_whole" = true)
    (kd0 : PySem.W.keepIn K (.ref fd0) = true)
    (ad1 : PySem.W.nsIn K mainGlobals "is_whole_from_to" = some (some (.ref fd1)))
    (ld1 : K.lookup fd1 = some ⟨ocd1, odd1, .func (PySem.W.fnOf "is_whole_from_to" "is_whole_from_to" (defArgs sFromTo) (defBody sFromTo) (defScope sFromTo) .none kVd1 dcd1 pmd1 and1 cdd1 ctd1), sld1⟩)
    (cd1 : PySem.W.codeIn K cdd1 "is_whole_from_to" = true)
    (kd1 : PySem.W.keepIn K (.ref fd1) = true)
    (ad2 : PySem.W.nsIn K mainGlobals "is_worth" = some (some (.ref fd2)))
    (ld2 : K.lookup fd2 = some ⟨ocd2, odd2, .func (PySem.W.fnOf "is_worth" "is_worth" (defArgs sWorth) (defBody sWorth) (defScope sWorth) .none kVd2 dcd2 pmd2 and2 cdd2 ctd2), sld2⟩)
    (cd2 : PySem.W.codeIn K cdd2 "is_worth" = true)
    (kd2 : PySem.W.keepIn K (.ref fd2) = true)
    (ad3 : PySem.W.nsIn K mainGlobals "is_gate" = some (some (.ref fd3)))
    (ld3 : K.lookup fd3 = some ⟨ocd3, odd3, .func (PySem.W.fnOf "is_gate" "is_gate" (defArgs sIsGate) (defBody sIsGate) (defScope sIsGate) .none kVd3 dcd3 pmd3 and3 cdd3 ctd3), sld3⟩)
    (cd3 : PySem.W.codeIn K cdd3 "is_gate" = true)
    (kd3 : PySem.W.keepIn K (.ref fd3) = true)
    (ad4 : PySem.W.nsIn K mainGlobals "check_gates" = some (some (.ref fd4)))
    (ld4 : K.lookup fd4 = some ⟨ocd4, odd4, .func (PySem.W.fnOf "check_gates" "check_gates" (defArgs sChkGates) (defBody sChkGates) (defScope sChkGates) .none kVd4 dcd4 pmd4 and4 cdd4 ctd4), sld4⟩)
    (cd4 : PySem.W.codeIn K cdd4 "check_gates" = true)
    (kd4 : PySem.W.keepIn K (.ref fd4) = true)
    (ad5 : PySem.W.nsIn K mainGlobals "is_wire" = some (some (.ref fd5)))
    (ld5 : K.lookup fd5 = some ⟨ocd5, odd5, .func (PySem.W.fnOf "is_wire" "is_wire" (defArgs sIsWire) (defBody sIsWire) (defScope sIsWire) .none kVd5 dcd5 pmd5 and5 cdd5 ctd5), sld5⟩)
    (cd5 : PySem.W.codeIn K cdd5 "is_wire" = true)
    (kd5 : PySem.W.keepIn K (.ref fd5) = true)
    (ad6 : PySem.W.nsIn K mainGlobals "is_taken" = some (some (.ref fd6)))
    (ld6 : K.lookup fd6 = some ⟨ocd6, odd6, .func (PySem.W.fnOf "is_taken" "is_taken" (defArgs sTaken) (defBody sTaken) (defScope sTaken) .none kVd6 dcd6 pmd6 and6 cdd6 ctd6), sld6⟩)
    (cd6 : PySem.W.codeIn K cdd6 "is_taken" = true)
    (kd6 : PySem.W.keepIn K (.ref fd6) = true)
    (ad7 : PySem.W.nsIn K mainGlobals "check_wires" = some (some (.ref fd7)))
    (ld7 : K.lookup fd7 = some ⟨ocd7, odd7, .func (PySem.W.fnOf "check_wires" "check_wires" (defArgs sChkWires) (defBody sChkWires) (defScope sChkWires) .none kVd7 dcd7 pmd7 and7 cdd7 ctd7), sld7⟩)
    (cd7 : PySem.W.codeIn K cdd7 "check_wires" = true)
    (kd7 : PySem.W.keepIn K (.ref fd7) = true)
    (ad8 : PySem.W.nsIn K mainGlobals "order_along" = some (some (.ref fd8)))
    (ld8 : K.lookup fd8 = some ⟨ocd8, odd8, .func (PySem.W.fnOf "order_along" "order_along" (defArgs sAlong) (defBody sAlong) (defScope sAlong) .none kVd8 dcd8 pmd8 and8 cdd8 ctd8), sld8⟩)
    (cd8 : PySem.W.codeIn K cdd8 "order_along" = true)
    (kd8 : PySem.W.keepIn K (.ref fd8) = true)
    (ad9 : PySem.W.nsIn K mainGlobals "bare_order" = some (some (.ref fd9)))
    (ld9 : K.lookup fd9 = some ⟨ocd9, odd9, .func (PySem.W.fnOf "bare_order" "bare_order" (defArgs sOrder) (defBody sOrder) (defScope sOrder) .none kVd9 dcd9 pmd9 and9 cdd9 ctd9), sld9⟩)
    (cd9 : PySem.W.codeIn K cdd9 "bare_order" = true)
    (kd9 : PySem.W.keepIn K (.ref fd9) = true)
    (ad10 : PySem.W.nsIn K mainGlobals "check_rings" = some (some (.ref fd10)))
    (ld10 : K.lookup fd10 = some ⟨ocd10, odd10, .func (PySem.W.fnOf "check_rings" "check_rings" (defArgs sChkRings) (defBody sChkRings) (defScope sChkRings) .none kVd10 dcd10 pmd10 and10 cdd10 ctd10), sld10⟩)
    (cd10 : PySem.W.codeIn K cdd10 "check_rings" = true)
    (kd10 : PySem.W.keepIn K (.ref fd10) = true)
    (ad11 : PySem.W.nsIn K mainGlobals "gates_back" = some (some (.ref fd11)))
    (ld11 : K.lookup fd11 = some ⟨ocd11, odd11, .func (PySem.W.fnOf "gates_back" "gates_back" (defArgs sBack) (defBody sBack) (defScope sBack) .none kVd11 dcd11 pmd11 and11 cdd11 ctd11), sld11⟩)
    (cd11 : PySem.W.codeIn K cdd11 "gates_back" = true)
    (kd11 : PySem.W.keepIn K (.ref fd11) = true)
    (ad12 : PySem.W.nsIn K mainGlobals "add_rings" = some (some (.ref fd12)))
    (ld12 : K.lookup fd12 = some ⟨ocd12, odd12, .func (PySem.W.fnOf "add_rings" "add_rings" (defArgs sAddR) (defBody sAddR) (defScope sAddR) .none kVd12 dcd12 pmd12 and12 cdd12 ctd12), sld12⟩)
    (cd12 : PySem.W.codeIn K cdd12 "add_rings" = true)
    (kd12 : PySem.W.keepIn K (.ref fd12) = true)
    (ad13 : PySem.W.nsIn K mainGlobals "rings" = some (some (.ref fd13)))
    (ld13 : K.lookup fd13 = some ⟨ocd13, odd13, .func (PySem.W.fnOf "rings" "rings" (defArgs sRings) (defBody sRings) (defScope sRings) .none kVd13 dcd13 pmd13 and13 cdd13 ctd13), sld13⟩)
    (cd13 : PySem.W.codeIn K cdd13 "rings" = true)
    (kd13 : PySem.W.keepIn K (.ref fd13) = true)
    (ad14 : PySem.W.nsIn K mainGlobals "load_of" = some (some (.ref fd14)))
    (ld14 : K.lookup fd14 = some ⟨ocd14, odd14, .func (PySem.W.fnOf "load_of" "load_of" (defArgs sLoadOf) (defBody sLoadOf) (defScope sLoadOf) .none kVd14 dcd14 pmd14 and14 cdd14 ctd14), sld14⟩)
    (cd14 : PySem.W.codeIn K cdd14 "load_of" = true)
    (kd14 : PySem.W.keepIn K (.ref fd14) = true)
    (ad15 : PySem.W.nsIn K mainGlobals "loads" = some (some (.ref fd15)))
    (ld15 : K.lookup fd15 = some ⟨ocd15, odd15, .func (PySem.W.fnOf "loads" "loads" (defArgs sLoads) (defBody sLoads) (defScope sLoads) .none kVd15 dcd15 pmd15 and15 cdd15 ctd15), sld15⟩)
    (cd15 : PySem.W.codeIn K cdd15 "loads" = true)
    (kd15 : PySem.W.keepIn K (.ref fd15) = true)
    (ad16 : PySem.W.nsIn K mainGlobals "is_slower" = some (some (.ref fd16)))
    (ld16 : K.lookup fd16 = some ⟨ocd16, odd16, .func (PySem.W.fnOf "is_slower" "is_slower" (defArgs sIsSlow) (defBody sIsSlow) (defScope sIsSlow) .none kVd16 dcd16 pmd16 and16 cdd16 ctd16), sld16⟩)
    (cd16 : PySem.W.codeIn K cdd16 "is_slower" = true)
    (kd16 : PySem.W.keepIn K (.ref fd16) = true)
    (ad17 : PySem.W.nsIn K mainGlobals "slowest" = some (some (.ref fd17)))
    (ld17 : K.lookup fd17 = some ⟨ocd17, odd17, .func (PySem.W.fnOf "slowest" "slowest" (defArgs sSlow) (defBody sSlow) (defScope sSlow) .none kVd17 dcd17 pmd17 and17 cdd17 ctd17), sld17⟩)
    (cd17 : PySem.W.codeIn K cdd17 "slowest" = true)
    (kd17 : PySem.W.keepIn K (.ref fd17) = true)
    (ad18 : PySem.W.nsIn K mainGlobals "_law_cell_at" = some (some (.ref fd18)))
    (ld18 : K.lookup fd18 = some ⟨ocd18, odd18, .func (PySem.W.fnOf "_law_cell_at" "_law_cell_at" (defArgs sCellAt) (defBody sCellAt) (defScope sCellAt) .none kVd18 dcd18 pmd18 and18 cdd18 ctd18), sld18⟩)
    (cd18 : PySem.W.codeIn K cdd18 "_law_cell_at" = true)
    (kd18 : PySem.W.keepIn K (.ref fd18) = true)
    (ad19 : PySem.W.nsIn K mainGlobals "_law_digit" = some (some (.ref fd19)))
    (ld19 : K.lookup fd19 = some ⟨ocd19, odd19, .func (PySem.W.fnOf "_law_digit" "_law_digit" (defArgs sDigit) (defBody sDigit) (defScope sDigit) .none kVd19 dcd19 pmd19 and19 cdd19 ctd19), sld19⟩)
    (cd19 : PySem.W.codeIn K cdd19 "_law_digit" = true)
    (kd19 : PySem.W.keepIn K (.ref fd19) = true)
    (ad20 : PySem.W.nsIn K mainGlobals "_law_gates" = some (some (.ref fd20)))
    (ld20 : K.lookup fd20 = some ⟨ocd20, odd20, .func (PySem.W.fnOf "_law_gates" "_law_gates" (defArgs sGates) (defBody sGates) (defScope sGates) .none kVd20 dcd20 pmd20 and20 cdd20 ctd20), sld20⟩)
    (cd20 : PySem.W.codeIn K cdd20 "_law_gates" = true)
    (kd20 : PySem.W.keepIn K (.ref fd20) = true)
    (ad21 : PySem.W.nsIn K mainGlobals "_law_worths" = some (some (.ref fd21)))
    (ld21 : K.lookup fd21 = some ⟨ocd21, odd21, .func (PySem.W.fnOf "_law_worths" "_law_worths" (defArgs sLWorths) (defBody sLWorths) (defScope sLWorths) .none kVd21 dcd21 pmd21 and21 cdd21 ctd21), sld21⟩)
    (cd21 : PySem.W.codeIn K cdd21 "_law_worths" = true)
    (kd21 : PySem.W.keepIn K (.ref fd21) = true)
    (ad22 : PySem.W.nsIn K mainGlobals "_law_wires" = some (some (.ref fd22)))
    (ld22 : K.lookup fd22 = some ⟨ocd22, odd22, .func (PySem.W.fnOf "_law_wires" "_law_wires" (defArgs sLWires) (defBody sLWires) (defScope sLWires) .none kVd22 dcd22 pmd22 and22 cdd22 ctd22), sld22⟩)
    (cd22 : PySem.W.codeIn K cdd22 "_law_wires" = true)
    (kd22 : PySem.W.keepIn K (.ref fd22) = true)
    (ad23 : PySem.W.nsIn K mainGlobals "_law_parts" = some (some (.ref fd23)))
    (ld23 : K.lookup fd23 = some ⟨ocd23, odd23, .func (PySem.W.fnOf "_law_parts" "_law_parts" (defArgs sLParts) (defBody sLParts) (defScope sLParts) .none kVd23 dcd23 pmd23 and23 cdd23 ctd23), sld23⟩)
    (cd23 : PySem.W.codeIn K cdd23 "_law_parts" = true)
    (kd23 : PySem.W.keepIn K (.ref fd23) = true)
    (ad24 : PySem.W.nsIn K mainGlobals "_law_longer" = some (some (.ref fd24)))
    (ld24 : K.lookup fd24 = some ⟨ocd24, odd24, .func (PySem.W.fnOf "_law_longer" "_law_longer" (defArgs sLonger) (defBody sLonger) (defScope sLonger) .none kVd24 dcd24 pmd24 and24 cdd24 ctd24), sld24⟩)
    (cd24 : PySem.W.codeIn K cdd24 "_law_longer" = true)
    (kd24 : PySem.W.keepIn K (.ref fd24) = true)
    (ad25 : PySem.W.nsIn K mainGlobals "_law_rings" = some (some (.ref fd25)))
    (ld25 : K.lookup fd25 = some ⟨ocd25, odd25, .func (PySem.W.fnOf "_law_rings" "_law_rings" (defArgs sLRings) (defBody sLRings) (defScope sLRings) .none kVd25 dcd25 pmd25 and25 cdd25 ctd25), sld25⟩)
    (cd25 : PySem.W.codeIn K cdd25 "_law_rings" = true)
    (kd25 : PySem.W.keepIn K (.ref fd25) = true)
    (ad26 : PySem.W.nsIn K mainGlobals "_law_load" = some (some (.ref fd26)))
    (ld26 : K.lookup fd26 = some ⟨ocd26, odd26, .func (PySem.W.fnOf "_law_load" "_law_load" (defArgs sLLoad) (defBody sLLoad) (defScope sLLoad) .none kVd26 dcd26 pmd26 and26 cdd26 ctd26), sld26⟩)
    (cd26 : PySem.W.codeIn K cdd26 "_law_load" = true)
    (kd26 : PySem.W.keepIn K (.ref fd26) = true)
    (ad27 : PySem.W.nsIn K mainGlobals "_law_all_joined" = some (some (.ref fd27)))
    (ld27 : K.lookup fd27 = some ⟨ocd27, odd27, .func (PySem.W.fnOf "_law_all_joined" "_law_all_joined" (defArgs sJoined) (defBody sJoined) (defScope sJoined) .none kVd27 dcd27 pmd27 and27 cdd27 ctd27), sld27⟩)
    (cd27 : PySem.W.codeIn K cdd27 "_law_all_joined" = true)
    (kd27 : PySem.W.keepIn K (.ref fd27) = true)
    (ad28 : PySem.W.nsIn K mainGlobals "law" = some (some (.ref fd28)))
    (ld28 : K.lookup fd28 = some ⟨ocd28, odd28, .func (PySem.W.fnOf "law" "law" (defArgs sLaw) (defBody sLaw) (defScope sLaw) .none kVd28 dcd28 pmd28 and28 cdd28 ctd28), sld28⟩)
    (cd28 : PySem.W.codeIn K cdd28 "law" = true)
    (kd28 : PySem.W.keepIn K (.ref fd28) = true)
    (am0 : PySem.W.findIn K (.ref C) "__init__" = some (some (.ref fm0)))
    (im0 : PySem.W.isFn K (.ref fm0) = true)
    (lm0 : K.lookup fm0 = some ⟨ocm0, odm0, .func (PySem.W.fnOf "__init__" "Net.__init__" (defArgs sInit) (defBody sInit) (defScope sInit) .none kVm0 dcm0 pmm0 anm0 cdm0 ctm0), slm0⟩)
    (cm0 : PySem.W.codeIn K cdm0 "Net.__init__" = true)
    (km0 : PySem.W.keepIn K (.ref fm0) = true)
    (pgC : PySem.W.plainGet K C Str.empty = true)
    (hdC : PySem.W.hasDictIn K C = true)
    (poC : PySem.W.plainOver K C = true)
    (saC : PySem.W.findIn K (.ref C) "__setattr__" = some (some (.builtin "object.__setattr__")))
    (mkC : PySem.W.makesIn K C = true)
    (kcC : PySem.W.keepIn K (.ref C) = true)
    (nG : PySem.W.findIn K (.ref C) "gates" = some none)
    (nW : PySem.W.findIn K (.ref C) "wires" = some none)
    (zisi : PySem.W.nsIn K mainGlobals "isinstance" = some none)
    (zint : PySem.W.nsIn K mainGlobals "int" = some none)
    (zbool : PySem.W.nsIn K mainGlobals "bool" = some none)
    (zlen : PySem.W.nsIn K mainGlobals "len" = some none)
    (ztuple : PySem.W.nsIn K mainGlobals "tuple" = some none)
    (zstr : PySem.W.nsIn K mainGlobals "str" = some none)
    (zlist : PySem.W.nsIn K mainGlobals "list" = some none)
    (zall : PySem.W.nsIn K mainGlobals "all" = some none)
    (zenum : PySem.W.nsIn K mainGlobals "enumerate" = some none)
    (zzip : PySem.W.nsIn K mainGlobals "zip" = some none)
    (zrange : PySem.W.nsIn K mainGlobals "range" = some none)
    (zmax : PySem.W.nsIn K mainGlobals "max" = some none)
    (zmin : PySem.W.nsIn K mainGlobals "min" = some none)
    (zsorted : PySem.W.nsIn K mainGlobals "sorted" = some none)
    (zsum : PySem.W.nsIn K mainGlobals "sum" = some none)
    (gGW : PySem.W.nsIn K mainGlobals "GREATEST_WORTH" = some (some (.int 96 tGW)))
    (gGA : PySem.W.nsIn K mainGlobals "GREATEST_WAIT" = some (some (.int 100 tGA)))
    (gK : PySem.W.nsIn K mainGlobals "KINDS" = some (some (.ref aK)))
    (oK : K.lookup aK = some ⟨.type "tuple", ddK, .seq #[.str "in" tK0, .str "out" tK1, .str "sum" tK2, .str "times" tK3, .str "most" tK4, .str "least" tK5, .str "first" tK6, .str "one" tK7] nnK, ssK⟩)
    (gW : PySem.W.nsIn K mainGlobals "OUTER_KINDS" = some (some (.ref aW)))
    (oW : K.lookup aW = some ⟨.type "tuple", ddW, .seq #[.str "in" tW0, .str "out" tW1] nnW, ssW⟩)
    (gF : PySem.W.nsIn K mainGlobals "KINDS_WITH_A_WIRE" = some (some (.ref aF)))
    (oF : K.lookup aF = some ⟨.type "tuple", ddF, .seq #[.str "out" tF0, .str "first" tF1] nnF, ssF⟩) :
    ∃ fd : FuncData, (∀ (s : Shared) (v : Value), BindsTo s fd ⟨[v], []⟩ [("_law_script", v)]) ∧ ∀ base : Heap, K.In base → base.Ns mainGlobals mg → FnOk l.prog w K mg base CX0 12 fa fd ["_law_script"] (spLaw K) := by
  have e := hfa.symm.trans (PySem.W.mg_of X G ad28)
  cases e
  have Fd0 := fun_mk (st := sWhole) ld0 cd0 kd0
  have Fd1 := fun_mk (st := sFromTo) ld1 cd1 kd1
  have Fd2 := fun_mk (st := sWorth) ld2 cd2 kd2
  have Fd3 := fun_mk (st := sIsGate) ld3 cd3 kd3
  have Fd4 := fun_mk (st := sChkGates) ld4 cd4 kd4
  have Fd5 := fun_mk (st := sIsWire) ld5 cd5 kd5
  have Fd6 := fun_mk (st := sTaken) ld6 cd6 kd6
  have Fd7 := fun_mk (st := sChkWires) ld7 cd7 kd7
  have Fd8 := fun_mk (st := sAlong) ld8 cd8 kd8
  have Fd9 := fun_mk (st := sOrder) ld9 cd9 kd9
  have Fd10 := fun_mk (st := sChkRings) ld10 cd10 kd10
  have Fd11 := fun_mk (st := sBack) ld11 cd11 kd11
  have Fd12 := fun_mk (st := sAddR) ld12 cd12 kd12
  have Fd13 := fun_mk (st := sRings) ld13 cd13 kd13
  have Fd14 := fun_mk (st := sLoadOf) ld14 cd14 kd14
  have Fd15 := fun_mk (st := sLoads) ld15 cd15 kd15
  have Fd16 := fun_mk (st := sIsSlow) ld16 cd16 kd16
  have Fd17 := fun_mk (st := sSlow) ld17 cd17 kd17
  have Fd18 := fun_mk (st := sCellAt) ld18 cd18 kd18
  have Fd19 := fun_mk (st := sDigit) ld19 cd19 kd19
  have Fd20 := fun_mk (st := sGates) ld20 cd20 kd20
  have Fd21 := fun_mk (st := sLWorths) ld21 cd21 kd21
  have Fd22 := fun_mk (st := sLWires) ld22 cd22 kd22
  have Fd23 := fun_mk (st := sLParts) ld23 cd23 kd23
  have Fd24 := fun_mk (st := sLonger) ld24 cd24 kd24
  have Fd25 := fun_mk (st := sLRings) ld25 cd25 kd25
  have Fd26 := fun_mk (st := sLLoad) ld26 cd26 kd26
  have Fd27 := fun_mk (st := sJoined) ld27 cd27 kd27
  have Fd28 := fun_mk (st := sLaw) ld28 cd28 kd28
  have Fm0 := fun_mk (st := sInit) lm0 cm0 km0
  have B : Bt mg := ⟨PySem.W.mg_none_of X G zisi, PySem.W.mg_none_of X G zint, PySem.W.mg_none_of X G zbool, PySem.W.mg_none_of X G zlen, PySem.W.mg_none_of X G ztuple, PySem.W.mg_none_of X G zstr, PySem.W.mg_none_of X G zlist, PySem.W.mg_none_of X G zall, PySem.W.mg_none_of X G zenum, PySem.W.mg_none_of X G zzip, PySem.W.mg_none_of X G zrange, PySem.W.mg_none_of X G zmax⟩
  have b_min := PySem.W.mg_none_of X G zmin
  have b_sorted := PySem.W.mg_none_of X G zsorted
  have b_sum := PySem.W.mg_none_of X G zsum
  have Cn : Cns K mg aK aW aF := ⟨⟨_, PySem.W.mg_of X G gGW⟩, ⟨_, PySem.W.mg_of X G gGA⟩, PySem.W.mg_of X G gK, fun _ => .inr ⟨_, _, _, oK, rfl, rfl, (by show 8 ≤ sizeLine; decide), .cons ⟨_, rfl⟩ (.cons ⟨_, rfl⟩ (.cons ⟨_, rfl⟩ (.cons ⟨_, rfl⟩ (.cons ⟨_, rfl⟩ (.cons ⟨_, rfl⟩ (.cons ⟨_, rfl⟩ (.cons ⟨_, rfl⟩ (.nil))))))))⟩, PySem.W.mg_of X G gW, fun _ => .inr ⟨_, _, _, oW, rfl, rfl, (by show 2 ≤ sizeLine; decide), .cons ⟨_, rfl⟩ (.cons ⟨_, rfl⟩ (.nil))⟩, PySem.W.mg_of X G gF, fun _ => .inr ⟨_, _, _, oF, rfl, rfl, (by show 2 ≤ sizeLine; decide), .cons ⟨_, rfl⟩ (.cons ⟨_, rfl⟩ (.nil))⟩⟩
  have T : NT K mg C := ⟨⟨pgC, hdC, poC, saC⟩, nG, nW, PySem.W.mg_of X G aC⟩
  have bm0 := Fm0.binds (ps := ["self", "gates", "wires"]) fun _ _ _ _ _ _ us hl => match us, hl with | [_, _, _], _ => rfl
  refine ⟨PySem.W.fnOf "law" "law" (defArgs sLaw) (defBody sLaw) (defScope sLaw) .none kVd28 dcd28 pmd28 and28 cdd28 ctd28, fun s v => .of_eq rfl, fun base _ _ => ?_⟩
  have whole := ok_whole (P := l.prog) (w := w) (base := base) Fd0 (PySem.W.mg_of X G ad0) B
  have ft := ok_fromTo (P := l.prog) (w := w) (base := base) Fd1 (PySem.W.mg_of X G ad1) whole
  have wo := ok_worth (P := l.prog) (w := w) (base := base) Fd2 (PySem.W.mg_of X G ad2) Cn ft
  have ig := ok_isGate (P := l.prog) (w := w) (base := base) Fd3 (PySem.W.mg_of X G ad3) B Cn ft
  have cg := ok_chkGates (P := l.prog) (w := w) (base := base) Fd4 (PySem.W.mg_of X G ad4) B ig
  have iw := ok_isWire (P := l.prog) (w := w) (base := base) Fd5 (PySem.W.mg_of X G ad5) B ft wo
  have tk := ok_taken (P := l.prog) (w := w) (base := base) Fd6 (PySem.W.mg_of X G ad6)
  have cw := ok_chkWires (P := l.prog) (w := w) (base := base) Fd7 (PySem.W.mg_of X G ad7) B Cn iw tk
  have al := ok_along (P := l.prog) (w := w) (base := base) Fd8 (PySem.W.mg_of X G ad8) B
  have od := ok_order (P := l.prog) (w := w) (base := base) Fd9 (PySem.W.mg_of X G ad9) B al
  have cr := ok_chkRings (P := l.prog) (w := w) (base := base) Fd10 (PySem.W.mg_of X G ad10) B od
  have init := ok_init (P := l.prog) (w := w) (base := base) Fm0 T B cg cw cr
  have MK : Mk K C fm0 := ⟨mkC, am0, im0, kcC⟩
  have bck := ok_back (P := l.prog) (w := w) (base := base) Fd11 (PySem.W.mg_of X G ad11) B T
  have adr := ok_addR (P := l.prog) (w := w) (base := base) Fd12 (PySem.W.mg_of X G ad12) B T bck 8
  have rgs := ok_rings (P := l.prog) (w := w) (base := base) Fd13 (PySem.W.mg_of X G ad13) B T adr
  have lof := ok_loadOf (P := l.prog) (w := w) (base := base) Fd14 (PySem.W.mg_of X G ad14) B b_sum T
  have lds := ok_loads (P := l.prog) (w := w) (base := base) Fd15 (PySem.W.mg_of X G ad15) lof rgs
  have isl := ok_isSlow (P := l.prog) (w := w) (base := base) Fd16 (PySem.W.mg_of X G ad16)
  have slw := ok_slow (P := l.prog) (w := w) (base := base) Fd17 (PySem.W.mg_of X G ad17) lof rgs isl
  have ca := ok_cellAt (P := l.prog) (w := w) (base := base) Fd18 (PySem.W.mg_of X G ad18) B.len
  have dg := ok_digit (P := l.prog) (w := w) (base := base) Fd19 (PySem.W.mg_of X G ad19) B
  have ga := ok_gates (P := l.prog) (w := w) (base := base) Fd20 (PySem.W.mg_of X G ad20) B dg
  have lw := ok_lworths (P := l.prog) (w := w) (base := base) Fd21 (PySem.W.mg_of X G ad21) B dg
  have wi := ok_lwires (P := l.prog) (w := w) (base := base) Fd22 (PySem.W.mg_of X G ad22) B dg lw
  have pa := ok_lparts (P := l.prog) (w := w) (base := base) Fd23 (PySem.W.mg_of X G ad23) B dg ga wi
  have lgr := ok_longer (P := l.prog) (w := w) (base := base) Fd24 (PySem.W.mg_of X G ad24) B
  have lrg := ok_lrings (P := l.prog) (w := w) (base := base) Fd25 (PySem.W.mg_of X G ad25) B b_min b_sorted lgr
  have lld := ok_lload (P := l.prog) (w := w) (base := base) Fd26 (PySem.W.mg_of X G ad26) B b_sum
  have jnd := ok_joined (P := l.prog) (w := w) (base := base) Fd27 (PySem.W.mg_of X G ad27) B dg
  exact ok_law Fd28 B b_min T ca dg pa MK init bm0 jnd lrg lld rgs lds slw
end Lag

set_option maxRecDepth 100000
open PySem PySem.W PyProof.Rows
set_option maxRecDepth 100000 in
set_option maxHeartbeats 0 in
theorem PySem.Challenge.cw_lagshift_k51_rings_and_loads_holds : PySem.Challenge.rw_lagshift_k51_rings_and_loads.Holds := by
  w_on; o_law; k_head; (case hw => w_witness2)
  k_fill
  refine L2.walk_of (l := PySem.Challenge.rw_lagshift_k51_rings_and_loads) (n := 63) (k := 12) (x := "_law_script") (CX := fun _ => L2.CX0) (sp := fun w => Lag.spLaw _) rfl (by decide) rfl ⟨rfl, by decide, by decide⟩ (fun w h Y => PySem.W.kIn_of Y) ?F (fun _ _ a ns hl _ hS => ⟨a, ns, rfl, hS, hl, fun _ => rfl⟩) (fun _ _ _ _ _ h => h)
  case F =>
    intro w mg fa h KX G hmg
    refine' Lag.all_mk KX G hmg ?aC ?ad0 ?ld0 ?cd0 ?kd0 ?ad1 ?ld1 ?cd1 ?kd1 ?ad2 ?ld2 ?cd2 ?kd2 ?ad3 ?ld3 ?cd3 ?kd3 ?ad4 ?ld4 ?cd4 ?kd4 ?ad5 ?ld5 ?cd5 ?kd5 ?ad6 ?ld6 ?cd6 ?kd6 ?ad7 ?ld7 ?cd7 ?kd7 ?ad8 ?ld8 ?cd8 ?kd8 ?ad9 ?ld9 ?cd9 ?kd9 ?ad10 ?ld10 ?cd10 ?kd10 ?ad11 ?ld11 ?cd11 ?kd11 ?ad12 ?ld12 ?cd12 ?kd12 ?ad13 ?ld13 ?cd13 ?kd13 ?ad14 ?ld14 ?cd14 ?kd14 ?ad15 ?ld15 ?cd15 ?kd15 ?ad16 ?ld16 ?cd16 ?kd16 ?ad17 ?ld17 ?cd17 ?kd17 ?ad18 ?ld18 ?cd18 ?kd18 ?ad19 ?ld19 ?cd19 ?kd19 ?ad20 ?ld20 ?cd20 ?kd20 ?ad21 ?ld21 ?cd21 ?kd21 ?ad22 ?ld22 ?cd22 ?kd22 ?ad23 ?ld23 ?cd23 ?kd23 ?ad24 ?ld24 ?cd24 ?kd24 ?ad25 ?ld25 ?cd25 ?kd25 ?ad26 ?ld26 ?cd26 ?kd26 ?ad27 ?ld27 ?cd27 ?kd27 ?ad28 ?ld28 ?cd28 ?kd28 ?am0 ?im0 ?lm0 ?cm0 ?km0 ?pgC ?hdC ?poC ?saC ?mkC ?kcC ?nG ?nW ?zisi ?zint ?zbool ?zlen ?ztuple ?zstr ?zlist ?zall ?zenum ?zzip ?zrange ?zmax ?zmin ?zsorted ?zsum ?gGW ?gGA ?gK ?oK ?gW ?oW ?gF ?oF
    (case aC => k_is)
    (case ad0 => k_is)
    (case ld0 => k_is)
    (case cd0 => k_is)
    (case kd0 => k_is)
    (case ad1 => k_is)
    (case ld1 => k_is)
    (case cd1 => k_is)
    (case kd1 => k_is)
    (case ad2 => k_is)
    (case ld2 => k_is)
    (case cd2 => k_is)
    (case kd2 => k_is)
    (case ad3 => k_is)
    (case ld3 => k_is)
    (case cd3 => k_is)
    (case kd3 => k_is)
    (case ad4 => k_is)
    (case ld4 => k_is)
    (case cd4 => k_is)
    (case kd4 => k_is)
    (case ad5 => k_is)
    (case ld5 => k_is)
    (case cd5 => k_is)
    (case kd5 => k_is)
    (case ad6 => k_is)
    (case ld6 => k_is)
    (case cd6 => k_is)
    (case kd6 => k_is)
    (case ad7 => k_is)
    (case ld7 => k_is)
    (case cd7 => k_is)
    (case kd7 => k_is)
    (case ad8 => k_is)
    (case ld8 => k_is)
    (case cd8 => k_is)
    (case kd8 => k_is)
    (case ad9 => k_is)
    (case ld9 => k_is)
    (case cd9 => k_is)
    (case kd9 => k_is)
    (case ad10 => k_is)
    (case ld10 => k_is)
    (case cd10 => k_is)
    (case kd10 => k_is)
    (case ad11 => k_is)
    (case ld11 => k_is)
    (case cd11 => k_is)
    (case kd11 => k_is)
    (case ad12 => k_is)
    (case ld12 => k_is)
    (case cd12 => k_is)
    (case kd12 => k_is)
    (case ad13 => k_is)
    (case ld13 => k_is)
    (case cd13 => k_is)
    (case kd13 => k_is)
    (case ad14 => k_is)
    (case ld14 => k_is)
    (case cd14 => k_is)
    (case kd14 => k_is)
    (case ad15 => k_is)
    (case ld15 => k_is)
    (case cd15 => k_is)
    (case kd15 => k_is)
    (case ad16 => k_is)
    (case ld16 => k_is)
    (case cd16 => k_is)
    (case kd16 => k_is)
    (case ad17 => k_is)
    (case ld17 => k_is)
    (case cd17 => k_is)
    (case kd17 => k_is)
    (case ad18 => k_is)
    (case ld18 => k_is)
    (case cd18 => k_is)
    (case kd18 => k_is)
    (case ad19 => k_is)
    (case ld19 => k_is)
    (case cd19 => k_is)
    (case kd19 => k_is)
    (case ad20 => k_is)
    (case ld20 => k_is)
    (case cd20 => k_is)
    (case kd20 => k_is)
    (case ad21 => k_is)
    (case ld21 => k_is)
    (case cd21 => k_is)
    (case kd21 => k_is)
    (case ad22 => k_is)
    (case ld22 => k_is)
    (case cd22 => k_is)
    (case kd22 => k_is)
    (case ad23 => k_is)
    (case ld23 => k_is)
    (case cd23 => k_is)
    (case kd23 => k_is)
    (case ad24 => k_is)
    (case ld24 => k_is)
    (case cd24 => k_is)
    (case kd24 => k_is)
    (case ad25 => k_is)
    (case ld25 => k_is)
    (case cd25 => k_is)
    (case kd25 => k_is)
    (case ad26 => k_is)
    (case ld26 => k_is)
    (case cd26 => k_is)
    (case kd26 => k_is)
    (case ad27 => k_is)
    (case ld27 => k_is)
    (case cd27 => k_is)
    (case kd27 => k_is)
    (case ad28 => k_is)
    (case ld28 => k_is)
    (case cd28 => k_is)
    (case kd28 => k_is)
    (case am0 => k_is)
    (case im0 => k_is)
    (case lm0 => k_is)
    (case cm0 => k_is)
    (case km0 => k_is)
    (case pgC => k_is)
    (case hdC => k_is)
    (case poC => k_is)
    (case saC => k_is)
    (case mkC => k_is)
    (case kcC => k_is)
    (case nG => k_is)
    (case nW => k_is)
    (case zisi => k_is)
    (case zint => k_is)
    (case zbool => k_is)
    (case zlen => k_is)
    (case ztuple => k_is)
    (case zstr => k_is)
    (case zlist => k_is)
    (case zall => k_is)
    (case zenum => k_is)
    (case zzip => k_is)
    (case zrange => k_is)
    (case zmax => k_is)
    (case zmin => k_is)
    (case zsorted => k_is)
    (case zsum => k_is)
    (case gGW => k_is)
    (case gGA => k_is)
    (case gK => k_is)
    (case oK => k_is)
    (case gW => k_is)
    (case oW => k_is)
    (case gF => k_is)
    (case oF => k_is)

