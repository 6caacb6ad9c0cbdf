import PyProof.Rows.All
import Wide.All
import OpenK.AllK
import Wide.FinOn
import HandS.ForMost
import HandS.IsInst
import HandS.Evl
import HandS.Flow
import HandS.Conv
import HandS.Wide
import HandS.Walk
import HandS.Zip
import HandS.OwnEq
import HandS.Style
import HandS.TupAny
import KE.KMinKey
import HandS.SortKw
import HandS.CallLocal
import HandS.More
import PyProof.Rows.NestShow
import HandS.WordsExc
import HandS.ExcOwn
import HandS.ExcField
import HandS.TryOnly
import HandS.ExcIs
import HandS.ExcInit
import HandS.TryMany
import KE.KNestM
import PySem.Challenge.RW_lagshift_k62_what_is_not_taken_over
set_option Elab.async false
set_option linter.all false
set_option maxRecDepth 100000
set_option maxHeartbeats 4000000
namespace Lag
open PySem PySem.Spec PyProof.Rows L2
/-! ### the text by its places -/
def topS (i : Nat) : Stmt := PySem.Challenge.pw_lagshift_k62_what_is_not_taken_over.main.body.getD i (.Pass ⟨0, 0, 0, 0⟩)
abbrev sCellAt : Stmt := topS 61 -- @_law_cell_at
/-! ### heaps -/
/-- all stands as it stood but at w -/
def But (w : Addr) (H H' : Hp) : Prop := ∀ b o, b ≠ w → H b = some o → H' b = some o
theorem But.refl (w : Addr) (H : Hp) : But w H H := fun _ _ _ h => h
theorem But.trans {w : Addr} {H H1 H2 : Hp} (a : But w H H1) (b : But w H1 H2) : But w H H2 := fun c o n h => b c o n (a c o n h)
theorem But.same {w : Addr} {H H1 : Hp} (a : Same H H1) : But w H H1 := fun c o _ h => a c o h
theorem But.upd {w : Addr} {H : Hp} {o : HO} : But w H (upd H w o) := fun c u n h => by rw [upd_ne n]; exact h
theorem But.new {w p : Addr} {H : Hp} {o : HO} (h : H p = none) : But w H (L2.upd H p o) := fun c u n e => by rw [upd_ne (ne_of_none e h)]; exact e
theorem same_new {H : Hp} {p : Addr} {o : HO} (h : H p = none) : Same H (upd H p o) := fun b x e => by rw [upd_ne (ne_of_none e h)]; exact e
/-- an object that H does not know may be changed -/
theorem same_mut {H H' : Hp} {p : Addr} {o : HO} (e : Same H H') (h : H p = none) : Same H (upd H' p o) := fun a u ha => by rw [upd_ne (ne_of_none ha h)]; exact e a u ha
theorem But.mut {w p : Addr} {H H' : Hp} {o : HO} (e : But w H H') (h : H p = none) : But w H (L2.upd H' p o) := fun a u n ha => by rw [upd_ne (ne_of_none ha h)]; exact e a u n ha
theorem But.seq {K : PySem.W.Frag} {w a : Addr} {H H' : Hp} {xs : List V} (e : But w H H') (n : a ≠ w) (h : SqL K H a xs) : SqL K H' a xs := by
  rcases h with (h | ⟨o, h⟩) | h
  · exact .inl (.inl (e _ _ n h))
  · exact .inl (.inr ⟨o, e _ _ n h⟩)
  · exact .inr h
/-- at w the state: one number, or three -/
def StOk (xs : List V) : Prop := (∃ a : Int, xs = [.int a]) ∨ ∃ a b c : Int, xs = [.int a, .int b, .int c]
def WellAt (w : Addr) (H : Hp) : Prop := ∃ xs : List V, H w = some (.lst xs) ∧ StOk xs
theorem WellAt.new {w p : Addr} {H : Hp} {o : HO} (W : WellAt w H) (h : H p = none) : WellAt w (upd H p o) := by
  obtain ⟨xs, e, k⟩ := W
  exact ⟨xs, by rw [upd_ne (ne_of_none e h)]; exact e, k⟩
theorem WellAt.same {w : Addr} {H H' : Hp} (W : WellAt w H) (s : Same H H') : WellAt w H' := by
  obtain ⟨xs, e, k⟩ := W
  exact ⟨xs, s _ _ e, k⟩
theorem WellAt.ne {w p : Addr} {H : Hp} (W : WellAt w H) (h : H p = none) : w ≠ p := by
  obtain ⟨xs, e, k⟩ := W
  exact ne_of_none e h
/-- a draw of the well: what stood stands, the well is one -/
structure Dr (w : Addr) (H H' : Hp) : Prop where
  but : But w H H'
  well : WellAt w H'
theorem Dr.trans {w : Addr} {H H1 H2 : Hp} (a : Dr w H H1) (b : Dr w H1 H2) : Dr w H H2 := ⟨a.but.trans b.but, b.well⟩
theorem Dr.free {w p : Addr} {H H' : Hp} (d : Dr w H H') (W : WellAt w H) (h : H' p = none) : H p = none := by
  cases q : H p with
  | none => rfl
  | some o =>
    have n : p ≠ w := (d.well.ne h).symm
    rw [d.but _ _ n q] at h
    cases h
/-! ### the promises of the draws -/
def spCellAt (K : PySem.W.Frag) : Sp := fun vs H Q _ => ∃ (a : Addr) (ns : List Int) (k : Int), vs = [.ref a, .int k] ∧ 0 ≤ k ∧ SqL K H a (ns.map V.int) ∧ ∀ z : Int, Q (.int z) H
section
variable {P : Program} {w : World} {K : PySem.W.Frag} {mg : Str → Option Value} {base : Heap}
/-- a def at its name: it keeps its promise, its name holds it, its arguments bind -/
structure Df (P : Program) (w : World) (K : PySem.W.Frag) (mg : Str → Option Value) (base : Heap) (k : Nat) (name : Str) (ps : List Str) (sp : Sp) (f : Addr) (fd : FuncData) : Prop where
  ok : FnOk P w K mg base CX0 k f fd ps sp
  mg : mg name = some (.ref f)
  kp : PySem.W.keepIn K (.ref f) = true
  bd : Binds K fd ps []
/-! ### _law_cell_at -/
theorem scCellAt : FnScope ["_law_script", "_law_k"] ["_law_script", "_law_k"] (defScope sCellAt) := ⟨rfl, rfl, rfl, by decide +kernel, rfl, by decide +kernel, by decide +kernel⟩
abbrev DCellAt (P : Program) (w : World) (K : PySem.W.Frag) (mg : Str → Option Value) (base : Heap) := Df P w K mg base 1 "_law_cell_at" ["_law_script", "_law_k"] (spCellAt K)
theorem ok_cellAt {f : Addr} {fd : FuncData} (F : Fun K "_law_cell_at" "_law_cell_at" sCellAt f fd) (hm : mg "_law_cell_at" = some (.ref f)) (ml : mg "len" = none) : DCellAt P w K mg base f fd := by
  refine ⟨?_, hm, F.kp, F.binds fun _ _ _ _ _ _ us hl => match us, hl with | [_, _], _ => rfl⟩
  refine F.ok scCellAt (fun vs H Q E h => ?_) (fun cdv A outer s H vs Q E hr h => ?_)
  · obtain ⟨a, ns, k, rfl, _⟩ := h
    rfl
  · obtain ⟨a, ns, k, rfl, hk, hS, q⟩ := h
    refine ⟨_, pss_cons (ps_if (pt_cmpR op_lt (pv 1) (pe_callB call_len_seq (by rfl) ml PySem.boot_len (pa_cons (pv 0) pa_nil)) (nomark _))
        (pss_one (ps_ret (pe_ix ix_list (pv 0) (pv 1) (fun _ _ => rfl)))) pss_nil)
      (pss_one (ps_ret pe_int)), ?_⟩
    refine ⟨_, rfl, .ref a, rfl, a, _, rfl, .inl hS, _, _, rfl, rfl, _, rfl, ite2 (fun e => ?_) (fun e => ?_)⟩
    · have e1 : k < ((ns.map V.int).length : Int) := of_decide_eq_true e
      rw [List.length_map] at e1
      have hj : k.toNat < ns.length := by omega
      refine ⟨_, rfl, _, rfl, a, _, k, .int (ns[k.toNat]), rfl, rfl, hS, at_of (j := k.toNat) (by omega) ?_, q _⟩
      rw [List.getElem?_map, List.getElem?_eq_getElem hj]
      rfl
    · exact q 0
end
/-! ### what is kept of tuples -/
def isT : HO → Prop
  | .tup _ => True
  | .frz _ _ => True
  | _ => False
/-- tuples, and what is locked, stand as they stood -/
def TK (H H' : Hp) : Prop := ∀ a o, isT o → H a = some o → H' a = some o
theorem TK.refl (H : Hp) : TK H H := fun _ _ _ h => h
theorem TK.trans {H H1 H2 : Hp} (a : TK H H1) (b : TK H1 H2) : TK H H2 := fun c o t h => b c o t (a c o t h)
theorem TK.same {H H1 : Hp} (a : Same H H1) : TK H H1 := fun c o _ h => a c o h
theorem TK.new {p : Addr} {H : Hp} {o : HO} (h : H p = none) : TK H (upd H p o) := TK.same (same_new h)
theorem TK.lst {l : Addr} {H : Hp} {xs : List V} {o : HO} (h : H l = some (.lst xs)) : TK H (upd H l o) := fun c u t e => by
  have n : c ≠ l := fun z => by
    rw [z, h] at e
    cases e
    exact t
  rw [upd_ne n]
  exact e
theorem TK.dr {w : Addr} {H H' : Hp} (W : WellAt w H) (d : But w H H') : TK H H' := fun c u t e => by
  obtain ⟨xs, h, _⟩ := W
  have n : c ≠ w := fun z => by
    rw [z, h] at e
    cases e
    exact t
  exact d _ _ n e
theorem TK.seq {K : PySem.W.Frag} {H H' : Hp} {a : Addr} {xs : List V} (t : TK H H') (h : SqT K H a xs) : SqT K H' a xs := by
  rcases h with (h | ⟨o, h⟩) | h
  · exact .inl (.inl (t _ _ trivial h))
  · exact .inl (.inr ⟨o, t _ _ trivial h⟩)
  · exact .inr h
/-! ### gates and wires as data -/
abbrev Gt := Str × Int
abbrev Wr := Nat × Nat × List Int
def kinds : List Str := ["in", "out", "sum", "times", "most", "least", "first", "one"]
def portK (k : Str) : Prop := k = "in" ∨ k = "out"
/-- a gate -/
def GOk (g : Gt) : Prop := g.1 ∈ kinds ∧ 0 ≤ g.2 ∧ g.2 ≤ 100 ∧ (portK g.1 → g.2 = 0)
def GateV (K : PySem.W.Frag) (H : Hp) (v : V) (g : Gt) : Prop := ∃ a, v = .ref a ∧ SqT K H a [.str g.1, .int g.2]
def WireV (K : PySem.W.Frag) (H : Hp) (v : V) (x : Wr) : Prop := ∃ a b, v = .ref a ∧ SqT K H a [.int x.1, .int x.2.1, .ref b] ∧ SqT K H b (x.2.2.map V.int)
theorem GateV.tk {K : PySem.W.Frag} {H H' : Hp} {v : V} {g : Gt} (t : TK H H') (h : GateV K H v g) : GateV K H' v g := by
  obtain ⟨a, e, s⟩ := h
  exact ⟨a, e, t.seq s⟩
theorem WireV.tk {K : PySem.W.Frag} {H H' : Hp} {v : V} {x : Wr} (t : TK H H') (h : WireV K H v x) : WireV K H' v x := by
  obtain ⟨a, b, e, s, s2⟩ := h
  exact ⟨a, b, e, t.seq s, t.seq s2⟩
theorem Dr.new {wl p : Addr} {H : Hp} {o : HO} (W : WellAt wl H) (h : H p = none) : Dr wl H (upd H p o) := ⟨But.new h, W.new h⟩
def ROk (r : List Int) : Prop := ∀ x ∈ r, 0 ≤ x ∧ x ≤ 96
theorem tyes {σ : L2.St} {H : Hp} {A B : Hp → Prop} (h : A H) : tYes σ H (fun b H3 => if b = true then A H3 else B H3) := by
  show if true = true then A H else B H
  rw [if_pos rfl]
  exact h
/-! ### two lists, place by place -/
def All2 {α β : Type} (R : α → β → Prop) (xs : List α) (ys : List β) : Prop := xs.length = ys.length ∧ ∀ (i : Nat) (x : α) (y : β), xs[i]? = some x → ys[i]? = some y → R x y
section
variable {α β : Type} {R S : α → β → Prop} {xs : List α} {ys : List β} {x : α} {y : β}
theorem All2.nil : All2 R [] [] := ⟨rfl, fun i x y h => by simp at h⟩
theorem All2.imp (h : All2 R xs ys) (f : ∀ x y, R x y → S x y) : All2 S xs ys := ⟨h.1, fun i x y a b => f x y (h.2 i x y a b)⟩
theorem All2.snoc (h : All2 R xs ys) (r : R x y) : All2 R (xs ++ [x]) (ys ++ [y]) := by
  refine ⟨by simp [h.1], fun i a b ha hb => ?_⟩
  by_cases hi : i < xs.length
  · rw [List.getElem?_append_left hi] at ha
    rw [List.getElem?_append_left (by rw [← h.1]; exact hi)] at hb
    exact h.2 i a b ha hb
  · rw [List.getElem?_append_right (by omega)] at ha
    rw [List.getElem?_append_right (by rw [← h.1]; omega), ← h.1] at hb
    cases e : i - xs.length with
    | zero =>
      rw [e] at ha hb
      simp at ha hb
      subst ha hb
      exact r
    | succ n =>
      rw [e] at ha
      simp at ha
theorem All2.cons (r : R x y) (h : All2 R xs ys) : All2 R (x :: xs) (y :: ys) := by
  refine ⟨by simp [h.1], fun i a b ha hb => ?_⟩
  cases i with
  | zero =>
    simp at ha hb
    subst ha hb
    exact r
  | succ n => exact h.2 n a b (by simpa using ha) (by simpa using hb)
theorem All2.head {x : α} {y : β} (h : All2 R (x :: xs) (y :: ys)) : R x y := h.2 0 x y rfl rfl
theorem All2.tail {x : α} {y : β} (h : All2 R (x :: xs) (y :: ys)) : All2 R xs ys := ⟨by have := h.1; simp at this; exact this, fun i a b ha hb => h.2 (i + 1) a b (by simpa using ha) (by simpa using hb)⟩
theorem All2.get (h : All2 R xs ys) {i : Nat} {x : α} (e : xs[i]? = some x) : ∃ y, ys[i]? = some y ∧ R x y := by
  have hi := (List.getElem?_eq_some_iff.mp e).1
  have hj : i < ys.length := by rw [← h.1]; exact hi
  exact ⟨ys[i], List.getElem?_eq_getElem hj, h.2 i x _ e (List.getElem?_eq_getElem hj)⟩
theorem All2.getR (h : All2 R xs ys) {i : Nat} {y : β} (e : ys[i]? = some y) : ∃ x, xs[i]? = some x ∧ R x y := by
  have hi := (List.getElem?_eq_some_iff.mp e).1
  have hj : i < xs.length := by rw [h.1]; exact hi
  exact ⟨xs[i], List.getElem?_eq_getElem hj, h.2 i _ y (List.getElem?_eq_getElem hj) e⟩
theorem All2.perm {xs' : List α} (p : xs'.Perm xs) : ∀ {ys : List β}, All2 R xs ys → ∃ ys', ys'.Perm ys ∧ All2 R xs' ys' := by
  induction p with
  | nil => intro ys h; exact ⟨ys, .refl _, h⟩
  | @cons a l1 l2 p ih =>
    intro ys h
    cases ys with
    | nil => have := h.1; simp at this
    | cons y ys =>
      obtain ⟨ys', p', h'⟩ := ih h.tail
      exact ⟨y :: ys', p'.cons y, h'.cons h.head⟩
  | swap a b l =>
    intro ys h
    match ys, h with
    | [], h => have := h.1; simp at this
    | [_], h => have := h.1; simp at this
    | y :: z :: ys, h => exact ⟨z :: y :: ys, .swap _ _ _, All2.cons h.tail.head (All2.cons h.head h.tail.tail)⟩
  | trans p1 p2 ih1 ih2 =>
    intro ys h
    obtain ⟨ys1, q1, h1⟩ := ih2 h
    obtain ⟨ys2, q2, h2⟩ := ih1 h1
    exact ⟨ys2, q2.trans q1, h2⟩
end
/-! ### nets as data -/
def kindAt (gs : List Gt) (i : Nat) : Str := (gs.getD i ("", 0)).1
def cnt (ws : List Wr) (e : Nat) : Nat := ws.countP (fun x => x.2.1 == e)
/-- a wire between these gates -/
structure WOk (gs : List Gt) (x : Wr) : Prop where
  s : x.1 < gs.length
  e : x.2.1 < gs.length
  ks : kindAt gs x.1 ≠ "out"
  ke : kindAt gs x.2.1 ≠ "in"
  r : ROk x.2.2
  rl : x.2.2.length ≤ 900
structure NetOk (gs : List Gt) (ws : List Wr) : Prop where
  ne : gs ≠ []
  gl : gs.length ≤ 100
  wl : ws.length ≤ 1000
  gok : ∀ g ∈ gs, GOk g
  wok : ∀ x ∈ ws, WOk gs x
  one : ∀ e, e < gs.length → kindAt gs e = "out" → cnt ws e = 1
  some : ∀ e, e < gs.length → kindAt gs e = "first" → 1 ≤ cnt ws e
  rank : ∃ ρ : Nat → Nat, ∀ x ∈ ws, x.2.2 = [] → ρ x.1 < ρ x.2.1
/-- numbered anew: the gate k is the old gate at left's place k -/
theorem NetOk.anew {gs : List Gt} {ws : List Wr} {left : List Nat} (N : NetOk gs ws) (p : left.Perm (List.range gs.length)) {ws' : List Wr} (pw : ws'.Perm ws) :
    NetOk (left.map fun k => gs.getD k ("", 0)) (ws'.map fun x => (left.idxOf x.1, left.idxOf x.2.1, x.2.2)) := by
  have hl : left.length = gs.length := by rw [p.length_eq, List.length_range]
  have nd : left.Nodup := p.nodup_iff.mpr List.nodup_range
  have mem : ∀ i, i < gs.length → i ∈ left := fun i hi => p.mem_iff.mpr (List.mem_range.mpr hi)
  have memb : ∀ i, i ∈ left → i < gs.length := fun i hi => List.mem_range.mp (p.mem_iff.mp hi)
  have il : ∀ i, i < gs.length → left.idxOf i < left.length := fun i hi => List.idxOf_lt_length_iff.mpr (mem i hi)
  have ge : ∀ i (h : i < gs.length), left[left.idxOf i]? = Option.some i := fun i h => by
    rw [List.getElem?_eq_getElem (il i h), List.getElem_idxOf]
  have kk : ∀ i, i < gs.length → kindAt (left.map fun k => gs.getD k ("", 0)) (left.idxOf i) = kindAt gs i := fun i h => by
    unfold kindAt
    rw [List.getD_eq_getElem?_getD, List.getElem?_map, ge i h]
    rfl
  have inj : ∀ i j, i < gs.length → j < gs.length → left.idxOf i = left.idxOf j → i = j := fun i j hi hj e => by
    have h1 := ge i hi
    rw [e, ge j hj] at h1
    exact (Option.some.inj h1).symm
  have cc : ∀ e, e < gs.length → cnt (ws'.map fun x => (left.idxOf x.1, left.idxOf x.2.1, x.2.2)) (left.idxOf e) = cnt ws e := fun e he => by
    unfold cnt
    rw [List.countP_map, ← pw.countP_eq]
    refine List.countP_congr fun x hx => ?_
    have := (N.wok x (pw.mem_iff.mp hx)).e
    simp only [Function.comp, beq_iff_eq]
    exact ⟨fun z => inj _ _ this he z, fun z => by rw [z]⟩
  have back : ∀ e, e < left.length → ∃ i, i < gs.length ∧ left.idxOf i = e := fun e he => by
    refine ⟨left[e], memb _ (List.getElem_mem he), ?_⟩
    exact List.Nodup.idxOf_getElem nd e he
  obtain ⟨ρ, hρ⟩ := N.rank
  refine ⟨?_, by simpa [hl] using N.gl, by simpa [pw.length_eq] using N.wl, ?_, ?_, ?_, ?_, ?_⟩
  · intro z
    have := congrArg List.length z
    simp [hl] at this
    exact N.ne this
  · intro g hg
    obtain ⟨k, hk, rfl⟩ := List.mem_map.mp hg
    refine N.gok _ ?_
    rw [List.getD_eq_getElem?_getD, List.getElem?_eq_getElem (memb k hk)]
    exact List.getElem_mem _
  · intro y hy
    obtain ⟨x, hx, rfl⟩ := List.mem_map.mp hy
    have W := N.wok x (pw.mem_iff.mp hx)
    refine ⟨by simpa using il _ W.s, by simpa using il _ W.e, ?_, ?_, W.r, W.rl⟩
    · show kindAt _ (left.idxOf x.1) ≠ _
      rw [kk _ W.s]
      exact W.ks
    · show kindAt _ (left.idxOf x.2.1) ≠ _
      rw [kk _ W.e]
      exact W.ke
  · intro e he hk
    obtain ⟨i, hi, rfl⟩ := back e (by simpa using he)
    rw [kk i hi] at hk
    rw [cc i hi]
    exact N.one i hi hk
  · intro e he hk
    obtain ⟨i, hi, rfl⟩ := back e (by simpa using he)
    rw [kk i hi] at hk
    rw [cc i hi]
    exact N.some i hi hk
  · refine ⟨fun k => ρ (left.getD k 0), fun y hy h => ?_⟩
    obtain ⟨x, hx, rfl⟩ := List.mem_map.mp hy
    have W := N.wok x (pw.mem_iff.mp hx)
    have := hρ x (pw.mem_iff.mp hx) h
    simp only [List.getD_eq_getElem?_getD, ge _ W.s, ge _ W.e, Option.getD_some]
    exact this
theorem set_well {wl D : Addr} {H0 H : Hp} {o : HO} (d : Dr wl H0 H) (h0 : H0 D = none) (n : D ≠ wl) : Dr wl H0 (upd H D o) := by
  refine ⟨fun c u nc e => ?_, ?_⟩
  · rw [upd_ne (ne_of_none e h0)]
    exact d.but c u nc e
  · obtain ⟨xs, hx, k⟩ := d.well
    exact ⟨xs, by rw [upd_ne n.symm]; exact hx, k⟩
def tLen (K : PySem.W.Frag) (i : Nat) : TE := tCB (Evl.rLenS K) (tCons (tVar i) tNil)
/-- the wires into the gates ahead of i -/
structure WInv (gs : List Gt) (ws : List Wr) (i : Nat) : Prop where
  ok : ∀ x ∈ ws, WOk gs x ∧ (x.2.2 = [] → x.1 < x.2.1) ∧ x.2.1 < i
  one : ∀ e, e < i → kindAt gs e = "out" → cnt ws e = 1
  some : ∀ e, e < i → kindAt gs e = "first" → 1 ≤ cnt ws e
  len : ws.length ≤ 3 * i
  r2 : ∀ x ∈ ws, x.2.2.length ≤ 3
/-- .. and j wires into the gate i -/
structure WInv2 (gs : List Gt) (ws : List Wr) (i j : Nat) : Prop where
  ok : ∀ x ∈ ws, WOk gs x ∧ (x.2.2 = [] → x.1 < x.2.1) ∧ x.2.1 < i + 1
  one : ∀ e, e < i → kindAt gs e = "out" → cnt ws e = 1
  some : ∀ e, e < i → kindAt gs e = "first" → 1 ≤ cnt ws e
  here : cnt ws i = j
  len : ws.length ≤ 3 * i + j
  r2 : ∀ x ∈ ws, x.2.2.length ≤ 3
theorem WInv.go {gs : List Gt} {ws : List Wr} {i : Nat} (h : WInv gs ws i) : WInv2 gs ws i 0 := by
  refine ⟨fun x hx => ⟨(h.ok x hx).1, (h.ok x hx).2.1, by have := (h.ok x hx).2.2; omega⟩, h.one, h.some, ?_, h.len, h.r2⟩
  unfold cnt
  rw [List.countP_eq_zero]
  intro x hx z
  have := (h.ok x hx).2.2
  simp at z
  omega
theorem WInv2.app {gs : List Gt} {ws : List Wr} {i j : Nat} {x : Wr} (h : WInv2 gs ws i j) (hx : WOk gs x) (hr : x.2.2 = [] → x.1 < x.2.1) (he : x.2.1 = i) (h2 : x.2.2.length ≤ 3) : WInv2 gs (ws ++ [x]) i (j + 1) := by
  have c : ∀ e, e < i → cnt (ws ++ [x]) e = cnt ws e := fun e he' => by
    unfold cnt
    rw [List.countP_append]
    have : (x.2.1 == e) = false := by simp; omega
    simp [List.countP_cons, this]
  refine ⟨fun y hy => ?_, fun e h1 h2 => by rw [c e h1]; exact h.one e h1 h2, fun e h1 h2 => by rw [c e h1]; exact h.some e h1 h2, ?_, by have := h.len; simp; omega, fun y hy => ?_⟩
  · rcases List.mem_append.mp hy with hy | hy
    · exact h.ok y hy
    · simp at hy
      subst hy
      exact ⟨hx, hr, by omega⟩
  · have := h.here
    unfold cnt at this ⊢
    rw [List.countP_append, this]
    simp [List.countP_cons, he]
  · rcases List.mem_append.mp hy with hy | hy
    · exact h.r2 y hy
    · simp at hy
      subst hy
      exact h2
theorem WInv2.done {gs : List Gt} {ws : List Wr} {i j : Nat} (h : WInv2 gs ws i j) (h1 : kindAt gs i = "out" → j = 1) (h2 : kindAt gs i = "first" → 1 ≤ j) (hj : j ≤ 3) : WInv gs ws (i + 1) := by
  refine ⟨fun x hx => h.ok x hx, fun e he hk => ?_, fun e he hk => ?_, by have := h.len; omega, h.r2⟩
  · by_cases hi : e = i
    · subst hi
      rw [h.here]
      exact h1 hk
    · exact h.one e (by omega) hk
  · by_cases hi : e = i
    · subst hi
      rw [h.here]
      exact h2 hk
    · exact h.some e (by omega) hk
theorem WInv.net {gs : List Gt} {ws : List Wr} (h : WInv gs ws gs.length) (ne : gs ≠ []) (gl : gs.length ≤ 100) (gok : ∀ g ∈ gs, GOk g) : NetOk gs ws :=
  ⟨ne, gl, by have := h.len; omega, gok, fun x hx => (h.ok x hx).1, h.one, h.some, id, fun x hx hr => (h.ok x hx).2.1 hr⟩
/-- lists of gates, of wires, that stand tracked -/
def LG (K : PySem.W.Frag) (H : Hp) (l : Addr) (gs : List Gt) : Prop := ∃ vs, H l = some (.lst vs) ∧ All2 (GateV K H) vs gs
def LW (K : PySem.W.Frag) (H : Hp) (l : Addr) (ws : List Wr) : Prop := ∃ vs, H l = some (.lst vs) ∧ All2 (WireV K H) vs ws
theorem kindAt_get {gs : List Gt} {i : Nat} {g : Gt} (h : gs[i]? = some g) : kindAt gs i = g.1 := by
  unfold kindAt
  rw [List.getD_eq_getElem?_getD, h]
  rfl
theorem all2_eq {α β : Type} {f : β → α} : ∀ {xs : List α} {ys : List β}, All2 (fun x y => x = f y) xs ys → xs = ys.map f
  | [], [], _ => rfl
  | [], _ :: _, h => by have := h.1; simp at this
  | _ :: _, [], h => by have := h.1; simp at this
  | x :: xs, y :: ys, h => by rw [List.map_cons, ← all2_eq h.tail, ← h.head]
theorem eq_all2 {α β : Type} {f : β → α} (ys : List β) : All2 (fun x y => x = f y) (ys.map f) ys := ⟨by simp, fun i x y h1 h2 => by
  rw [List.getElem?_map, h2] at h1
  exact (Option.some.inj h1).symm⟩
theorem rgV_nat (n : Nat) : rgV 0 (n : Int) = (List.range n).map fun i => V.int (i : Nat) := by
  unfold rgV
  have : ((n : Int) - 0).toNat = n := by omega
  rw [this]
  refine List.map_congr_left fun i _ => ?_
  rw [Int.zero_add]
theorem flat_ints (l : List Nat) : (l.map fun i => V.int (i : Nat)).all flatV = true := by
  rw [List.all_eq_true]
  intro x hx
  obtain ⟨i, _, rfl⟩ := List.mem_map.mp hx
  rfl
/-- where a number stands among numbers without two alike -/
theorem idx_at {left : List Nat} {a : Nat} (h : a ∈ left) : (left.map fun i => V.int (i : Nat))[left.idxOf a]? = some (V.int (a : Nat)) := by
  rw [List.getElem?_map, List.getElem?_eq_getElem (List.idxOf_lt_length_iff.mpr h), List.getElem_idxOf]
  rfl
theorem eqV_int (a b : Int) : eqV (V.int a) (V.int b) = decide (a = b) := rfl
theorem idx_no {left : List Nat} {a m : Nat} {z : V} (nd : left.Nodup) (hm : m < left.idxOf a) (h : (left.map fun i => V.int (i : Nat))[m]? = some z) : eqV z (V.int (a : Nat)) = false := by
  rw [List.getElem?_map] at h
  cases e : left[m]? with
  | none =>
    rw [e] at h
    cases h
  | some b =>
    rw [e] at h
    cases h
    rw [eqV_int]
    refine decide_eq_false fun z => ?_
    have z : b = a := by omega
    obtain ⟨hm', eb⟩ := List.getElem?_eq_some_iff.mp e
    have := List.Nodup.idxOf_getElem nd m hm'
    rw [eb, z] at this
    omega
end Lag

set_option maxRecDepth 100000
set_option maxHeartbeats 4000000
namespace Lag
open PySem PySem.Spec PyProof.Rows L2
abbrev sWhole : Stmt := topS 12
abbrev sFromTo : Stmt := topS 13
abbrev sWorth : Stmt := topS 14
abbrev sIsGate : Stmt := topS 27
abbrev sChkGates : Stmt := topS 26
/-! ### o[i] of a list, by values -/
def rGetL (K : PySem.W.Frag) : V → V → Hp → VK → Prop := fun o i H Q => ∃ (p : Addr) (xs : List V) (j : Nat) (v : V), o = .ref p ∧ i = .int (j : Nat) ∧ SqL K H p xs ∧ xs[j]? = some v ∧ Q v H
theorem get_list {X : Cx} : PGet X (rGetL X.K) := by
  intro pins s σ H o i ov iv Q I ro ri h
  obtain ⟨p, xs, j, v, rfl, rfl, hq, he, q⟩ := h
  cases ro
  obtain ⟨t, rfl⟩ := ri
  obtain ⟨its, r, pl, hz⟩ := I.list hq
  obtain ⟨w, ew, rw'⟩ := r.get he
  have hl := r.length
  have hn := line63
  have hj : j < its.length := (List.getElem?_eq_some_iff.mp ew).1
  exact wpAny_getItem_list pl.isList (by omega) (by omega) (by simpa using ew) ⟨v, H, I, rw', q⟩
/-! ### names of built-ins, constants of the text -/
structure Bt (mg : Str → Option Value) : Prop where
  isi : mg "isinstance" = none
  int : mg "int" = none
  bool : mg "bool" = none
  len : mg "len" = none
  tuple : mg "tuple" = none
  str : mg "str" = none
  list : mg "list" = none
  all : mg "all" = none
  enum : mg "enumerate" = none
  zip : mg "zip" = none
  range : mg "range" = none
  max : mg "max" = none
structure Cns (K : PySem.W.Frag) (mg : Str → Option Value) (aK aW aF : Addr) : Prop where
  gw : ∃ t, mg "GREATEST_WORTH" = some (.int 96 t)
  ga : ∃ t, mg "GREATEST_WAIT" = some (.int 100 t)
  mK : mg "KINDS" = some (.ref aK)
  sK : ∀ H, SqT K H aK (kinds.map V.str)
  mW : mg "OUTER_KINDS" = some (.ref aW)
  sW : ∀ H, SqT K H aW [.str "in", .str "out"]
  mF : mg "KINDS_WITH_A_WIRE" = some (.ref aF)
  sF : ∀ H, SqT K H aF [.str "out", .str "first"]
theorem ty_tup {K : PySem.W.Frag} {H : Hp} {a : Addr} {xs : List V} (h : SqT K H a xs) : TyX K H (.ref a) (.type "tuple") := by
  rcases h with (h | ⟨o, h⟩) | ⟨o, its, n, hk, hc, _⟩
  · exact .base (.tup h)
  · exact .fTuple h
  · exact .kTuple hk hc
theorem ty_lst {K : PySem.W.Frag} {H : Hp} {a : Addr} {xs : List V} (h : SqL K H a xs) : TyX K H (.ref a) (.type "list") := by
  rcases h with (h | ⟨o, h⟩) | ⟨o, its, n, hk, hc, _⟩
  · exact .base (.lst h)
  · exact .base (.frz h)
  · exact .kList hk hc
/-! ### promises -/
def spWhole : Sp := fun vs H Q _ => ∃ n : Int, vs = [.int n] ∧ Q (.bl true) H
def spFromTo : Sp := fun vs H Q _ => ∃ n a b : Int, vs = [.int n, .int a, .int b] ∧ Q (.bl (decide (a ≤ n) && decide (n ≤ b))) H
def spWorth : Sp := fun vs H Q _ => ∃ n : Int, vs = [.int n] ∧ Q (.bl (decide (0 ≤ n) && decide (n ≤ 96))) H
def spIsGate (K : PySem.W.Frag) : Sp := fun vs H Q _ => ∃ (v : V) (g : Gt), vs = [v] ∧ GateV K H v g ∧ GOk g ∧ ∀ H', Same H H' → Q (.bl true) H'
/-- lists that are read -/
def RG (K : PySem.W.Frag) (H : Hp) (l : Addr) (gs : List Gt) : Prop := ∃ vs, SqL K H l vs ∧ All2 (GateV K H) vs gs
def RW (K : PySem.W.Frag) (H : Hp) (l : Addr) (ws : List Wr) : Prop := ∃ vs, SqL K H l vs ∧ All2 (WireV K H) vs ws
theorem RG.same {K : PySem.W.Frag} {H H' : Hp} {l : Addr} {gs : List Gt} (h : RG K H l gs) (s : Same H H') : RG K H' l gs := by
  obtain ⟨vs, q, a⟩ := h
  exact ⟨vs, s.seq q, a.imp fun _ _ r => r.tk (TK.same s)⟩
theorem RW.same {K : PySem.W.Frag} {H H' : Hp} {l : Addr} {ws : List Wr} (h : RW K H l ws) (s : Same H H') : RW K H' l ws := by
  obtain ⟨vs, q, a⟩ := h
  exact ⟨vs, s.seq q, a.imp fun _ _ r => r.tk (TK.same s)⟩
def spChkGates (K : PySem.W.Frag) : Sp := fun vs H Q _ => ∃ (l : Addr) (gs : List Gt), vs = [.ref l] ∧ RG K H l gs ∧ gs ≠ [] ∧ (∀ g ∈ gs, GOk g) ∧ ∀ H', Same H H' → Q .non H'
section
variable {P : Program} {w : World} {K : PySem.W.Frag} {mg : Str → Option Value} {base : Heap}
/-! ### is_whole, is_whole_from_to, is_worth -/
theorem scWhole : FnScope ["thing"] ["thing"] (defScope sWhole) := ⟨rfl, rfl, rfl, by decide +kernel, rfl, by decide +kernel, by decide +kernel⟩
abbrev DWhole (P : Program) (w : World) (K : PySem.W.Frag) (mg : Str → Option Value) (base : Heap) := Df P w K mg base 1 "is_whole" ["thing"] spWhole
theorem ok_whole {f : Addr} {fd : FuncData} (F : Fun K "is_whole" "is_whole" sWhole f fd) (hm : mg "is_whole" = some (.ref f)) (B : Bt mg) : DWhole P w K mg base f fd := by
  refine ⟨?_, hm, F.kp, F.binds fun _ _ _ _ _ _ us hl => match us, hl with | [_], _ => rfl⟩
  refine F.ok scWhole (fun vs H Q E h => ?_) (fun cdv A outer s H vs Q E hr h => ?_)
  · obtain ⟨n, rfl, _⟩ := h
    rfl
  · obtain ⟨n, rfl, q⟩ := h
    refine ⟨_, pss_one <| ps_ret <| pe_and (pe_callB call_isi (by rfl) B.isi (by decide +kernel) (pa_cons (pv 0) (pa_cons (pe_bltn (v := .ty "int") (by rfl) B.int (by decide +kernel) rfl) pa_nil)))
      (pe_one (pe_not (pe_callB call_isi (by rfl) B.isi (by decide +kernel) (pa_cons (pv 0) (pa_cons (pe_bltn (v := .ty "bool") (by rfl) B.bool (by decide +kernel) rfl) pa_nil))))), ?_⟩
    refine ⟨_, rfl, _, _, _, _, true, rfl, .ty "int", .base (.int n), kit_ty (by decide +kernel), true, rfl, iteT ?_⟩
    exact ⟨_, rfl, _, _, _, _, false, rfl, .ty "bool", .base (.int n), kit_ty (by decide +kernel), false, rfl, q⟩
theorem scFromTo : FnScope ["thing", "least", "greatest"] ["thing", "least", "greatest"] (defScope sFromTo) := ⟨rfl, rfl, rfl, by decide +kernel, rfl, by decide +kernel, by decide +kernel⟩
abbrev DFromTo (P : Program) (w : World) (K : PySem.W.Frag) (mg : Str → Option Value) (base : Heap) := Df P w K mg base 2 "is_whole_from_to" ["thing", "least", "greatest"] spFromTo
theorem ok_fromTo {f fW : Addr} {fd fdW : FuncData} (F : Fun K "is_whole_from_to" "is_whole_from_to" sFromTo f fd) (hm : mg "is_whole_from_to" = some (.ref f)) (DW : DWhole P w K mg base fW fdW) : DFromTo P w K mg base f fd := by
  refine ⟨?_, hm, F.kp, F.binds fun _ _ _ _ _ _ us hl => match us, hl with | [_, _, _], _ => rfl⟩
  refine F.ok scFromTo (fun vs H Q E h => ?_) (fun cdv A outer s H vs Q E hr h => ?_)
  · obtain ⟨n, a, b, rfl, _⟩ := h
    rfl
  · obtain ⟨n, a, b, rfl, q⟩ := h
    refine ⟨_, pss_one <| ps_ret <| pe_and (pe_call DW.ok hr (by rfl) DW.mg DW.kp DW.bd .nil pass0 (pa_cons (pv 0) pa_nil)) (pe_one (pe_chain op_le op_le (pv 1) (pv 0) (pv 2))), ?_⟩
    refine ⟨_, rfl, n, rfl, true, rfl, iteT ?_⟩
    refine ⟨_, rfl, _, rfl, _, _, rfl, rfl, _, rfl, ?_⟩
    cases e : decide (a ≤ n) with
    | false =>
      rw [e] at q
      exact iteF q
    | true =>
      rw [e] at q
      exact iteT ⟨_, rfl, _, _, rfl, rfl, q⟩
theorem scWorth : FnScope ["thing"] ["thing"] (defScope sWorth) := ⟨rfl, rfl, rfl, by decide +kernel, rfl, by decide +kernel, by decide +kernel⟩
abbrev DWorth (P : Program) (w : World) (K : PySem.W.Frag) (mg : Str → Option Value) (base : Heap) := Df P w K mg base 3 "is_worth" ["thing"] spWorth
theorem ok_worth {f fF aK aW aF : Addr} {fd fdF : FuncData} (F : Fun K "is_worth" "is_worth" sWorth f fd) (hm : mg "is_worth" = some (.ref f)) (C : Cns K mg aK aW aF) (DF : DFromTo P w K mg base fF fdF) : DWorth P w K mg base f fd := by
  obtain ⟨tg, hgw⟩ := C.gw
  refine ⟨?_, hm, F.kp, F.binds fun _ _ _ _ _ _ us hl => match us, hl with | [_], _ => rfl⟩
  refine F.ok scWorth (fun vs H Q E h => ?_) (fun cdv A outer s H vs Q E hr h => ?_)
  · obtain ⟨n, rfl, _⟩ := h
    rfl
  · obtain ⟨n, rfl, q⟩ := h
    refine ⟨_, pss_one <| ps_ret <| pe_call DF.ok hr (by rfl) DF.mg DF.kp DF.bd .nil pass0 <| pa_cons (pv 0) <| pa_cons pe_int <| pa_cons (pe_glob (v := .int 96) (by rfl) hgw ⟨_, rfl⟩) pa_nil, ?_⟩
    exact ⟨_, rfl, n, 0, 96, rfl, q⟩
/-! ### is_gate -/
theorem scIsGate : FnScope ["thing", "kind", "wait"] ["thing"] (defScope sIsGate) := ⟨rfl, rfl, rfl, by decide +kernel, rfl, by decide +kernel, by decide +kernel⟩
abbrev DIsGate (P : Program) (w : World) (K : PySem.W.Frag) (mg : Str → Option Value) (base : Heap) := Df P w K mg base 3 "is_gate" ["thing"] (spIsGate K)
theorem kinds_in {k : Str} (h : k ∈ kinds) : inV (.str k) (kinds.map V.str) = true := by
  unfold inV
  rw [List.any_eq_true]
  exact ⟨.str k, List.mem_map.mpr ⟨k, h, rfl⟩, beq_self_eq_true k⟩
theorem flat_strs (l : List Str) : (l.map V.str).all flatV = true := by
  rw [List.all_eq_true]
  intro x hx
  obtain ⟨i, _, rfl⟩ := List.mem_map.mp hx
  rfl
theorem ok_isGate {f fF aK aW aF : Addr} {fd fdF : FuncData} (F : Fun K "is_gate" "is_gate" sIsGate f fd) (hm : mg "is_gate" = some (.ref f)) (B : Bt mg) (C : Cns K mg aK aW aF) (DF : DFromTo P w K mg base fF fdF) : DIsGate P w K mg base f fd := by
  obtain ⟨tg, hga⟩ := C.ga
  refine ⟨?_, hm, F.kp, F.binds fun _ _ _ _ _ _ us hl => match us, hl with | [_], _ => rfl⟩
  refine F.ok scIsGate (fun vs H Q E h => ?_) (fun cdv A outer s H vs Q E hr h => ?_)
  · obtain ⟨v, g, rfl, _⟩ := h
    rfl
  · obtain ⟨v, g, rfl, ⟨a, rfl, sq⟩, gok, q⟩ := h
    have nd := scIsGate.nd
    refine ⟨_, pss_cons (ps_if (PW.pt (pw_or (pt_not (pt_val (pe_callB call_isi (by rfl) B.isi (by decide +kernel) (pa_cons (pv 0) (pa_cons (pe_bltn (v := .ty "tuple") (by rfl) B.tuple (by decide +kernel) rfl) pa_nil)))))
          (pw_or1 (pt_cmpR op_ne (pe_callB call_len_seq (by rfl) B.len PySem.boot_len (pa_cons (pv 0) pa_nil)) pe_int (nomark _))))) (pss_one (ps_ret pe_bl)) pss_nil) <|
      pss_cons (ps_asg (pv 0) (pg_tup (by rfl) (pgs_cons (pg_name (i := 1) nd rfl (.inl rfl)) (pgs_cons (pg_name (i := 2) nd rfl (.inl rfl)) pgs_nil)))) <|
      pss_cons (ps_if (PW.pt (pw_or (pt_not (pt_val (pe_callB call_isi (by rfl) B.isi (by decide +kernel) (pa_cons (pv 1) (pa_cons (pe_bltn (v := .ty "str") (by rfl) B.str (by decide +kernel) rfl) pa_nil)))))
          (pw_or1 (pt_cmpR op_notIn_seq (pv 1) (pe_glob (v := .ref aK) (by rfl) C.mK rfl) (by rfl))))) (pss_one (ps_ret pe_bl)) pss_nil) <|
      pss_one <| ps_ret <| pe_call DF.ok hr (by rfl) DF.mg DF.kp DF.bd .nil pass0 <| pa_cons (pv 2) <| pa_cons pe_int <| (pa_cons · pa_nil) <|
        pe_ifExp (pt_cmpR op_in_seq (pv 1) (pe_glob (v := .ref aW) (by rfl) C.mW rfl) (by rfl)) pe_int (pe_glob (v := .int 100) (by rfl) hga ⟨_, rfl⟩), ?_⟩
    refine ⟨_, rfl, _, _, _, _, true, rfl, .ty "tuple", ty_tup sq, kit_ty (by decide +kernel), true, rfl, ?_⟩
    refine iteF ⟨_, rfl, a, _, rfl, .inr sq, rfl, _, rfl, iteF ?_⟩
    refine ⟨_, rfl, a, _, rfl, sq, rfl, _, _, rfl, _, _, rfl, rfl, ?_⟩
    refine ⟨_, rfl, _, _, _, _, true, rfl, .ty "str", .base (.str g.1), kit_ty (by decide +kernel), true, rfl, ?_⟩
    refine iteF ⟨_, rfl, aK, _, rfl, .inr (C.sK H), rfl, flat_strs _, false, ?_, iteF ?_⟩
    · show V.bl (!inV (V.str g.1) (kinds.map V.str)) = V.bl false
      rw [kinds_in gok.1]
      rfl
    refine ⟨_, rfl, _, rfl, aW, _, rfl, .inr (C.sW H), rfl, rfl, _, rfl, ite2 (fun e => ?_) (fun e => ?_)⟩
    · have hp : portK g.1 := by
        have e' : inV (V.str g.1) [V.str "in", V.str "out"] = true := e
        unfold inV at e'
        rw [List.any_eq_true] at e'
        obtain ⟨x, hx, hxe⟩ := e'
        simp only [List.mem_cons, List.not_mem_nil, or_false] at hx
        rcases hx with rfl | rfl
        · exact .inl (eq_of_beq hxe).symm
        · exact .inr (eq_of_beq hxe).symm
      have h0 := gok.2.2.2 hp
      refine ⟨g.2, 0, 0, rfl, ?_⟩
      rw [h0]
      exact q H (Same.refl H)
    · refine ⟨g.2, 0, 100, rfl, ?_⟩
      rw [decide_eq_true gok.2.1, decide_eq_true gok.2.2.1]
      exact q H (Same.refl H)
end
end Lag

set_option maxRecDepth 100000
set_option maxHeartbeats 4000000
namespace Lag
open PySem PySem.Spec PyProof.Rows L2
abbrev sIsWire : Stmt := topS 29
abbrev sTaken : Stmt := topS 30
def spIsWire (K : PySem.W.Frag) : Sp := fun vs H Q _ => ∃ (v : V) (x : Wr) (n : Nat), vs = [v, .int (n : Nat)] ∧ WireV K H v x ∧ x.1 < n ∧ x.2.1 < n ∧ ROk x.2.2 ∧ x.2.2.length ≤ 1000 ∧ ∀ H', Same H H' → Q (.bl true) H'
def spTaken (K : PySem.W.Frag) : Sp := fun vs H Q _ => ∃ (v : V) (x : Wr) (lg lc : Addr) (gs : List Gt) (cs : List Nat), vs = [v, .ref lg, .ref lc] ∧ WireV K H v x ∧ RG K H lg gs ∧ SqL K H lc (cs.map fun i => V.int (i : Nat)) ∧ WOk gs x ∧ cs.length = gs.length ∧
  (kindAt gs x.2.1 = "out" → cs[x.2.1]? = some 0) ∧ Q (.bl true) H
section
variable {P : Program} {w : World} {K : PySem.W.Frag} {mg : Str → Option Value} {base : Heap}
/-! ### check_gates -/
theorem scChkGates : FnScope ["gates", "thing"] ["gates"] (defScope sChkGates) := ⟨rfl, rfl, rfl, by decide +kernel, rfl, by decide +kernel, by decide +kernel⟩
abbrev DChkGates (P : Program) (w : World) (K : PySem.W.Frag) (mg : Str → Option Value) (base : Heap) := Df P w K mg base 4 "check_gates" ["gates"] (spChkGates K)
theorem ok_chkGates {f fG : Addr} {fd fdG : FuncData} (F : Fun K "check_gates" "check_gates" sChkGates f fd) (hm : mg "check_gates" = some (.ref f)) (B : Bt mg) (DG : DIsGate P w K mg base fG fdG) : DChkGates P w K mg base f fd := by
  refine ⟨?_, hm, F.kp, F.binds fun _ _ _ _ _ _ us hl => match us, hl with | [_], _ => rfl⟩
  refine F.ok scChkGates (fun vs H Q E h => ?_) (fun cdv A outer s H vs Q E hr h => ?_)
  · obtain ⟨l, gs, rfl, _⟩ := h
    rfl
  · obtain ⟨l, gs, rfl, R, hne, gok, q⟩ := h
    have nd := scChkGates.nd
    refine ⟨_, pss_cons (ps_if (PW.pt (pw_or (pt_not (pt_val (pe_callB call_isi (by rfl) B.isi (by decide +kernel) (pa_cons (pv 0) (pa_cons (pe_bltn (v := .ty "list") (by rfl) B.list (by decide +kernel) rfl) pa_nil)))))
          (pw_or1 (pt_cmpR op_eq (pe_callB call_len_seq (by rfl) B.len PySem.boot_len (pa_cons (pv 0) pa_nil)) pe_int (nomark _))))) (pss_one ps_never) pss_nil) <|
      pss_one <| ps_for PassesOwn.never rfl (pi_list (pv 0)) (pg_name (i := 1) nd rfl (.inl rfl)) <|
        pss_one <| ps_if (pt_not (pt_val (pe_call DG.ok hr (by rfl) DG.mg DG.kp DG.bd .nil pass0 (pa_cons (pv 1) pa_nil)))) (pss_one ps_never) pss_nil, ?_⟩
    obtain ⟨gv, sg, ga⟩ := R
    have hl : gv.length = gs.length := ga.1
    have hpos : 0 < gs.length := by
      cases gs with
      | nil => exact absurd rfl hne
      | cons _ _ => simp
    refine ⟨_, rfl, _, _, _, _, true, rfl, .ty "list", ty_lst sg, kit_ty (by decide +kernel), true, rfl, ?_⟩
    refine iteF ⟨_, rfl, l, gv, rfl, .inl sg, rfl, false, ?_, iteF ?_⟩
    · show V.bl (decide (V.int (gv.length : Int) = V.int 0)) = V.bl false
      rw [decide_eq_false]
      intro z
      have := V.int.inj z
      omega
    refine ⟨_, rfl, l, rfl, ⟨_, sg⟩, for_list (K := K) (a := l) (xs := gv) (fun i σ H2 => ∃ y, σ = [some (.ref l), y] ∧ Same H H2) ⟨_, rfl, Same.refl H⟩ (fun i σ H2 _ ⟨_, _, sm⟩ => sm.seq sg) ?_ ?_⟩
    · rintro i x σ H2 hx ⟨y, rfl, sm⟩
      obtain ⟨g, hg, gv⟩ := ga.get hx
      refine ⟨_, rfl, x, g, rfl, gv.tk (TK.same sm), gok g (List.mem_of_getElem? hg), fun H3 sm3 => ⟨true, rfl, iteF ⟨_, rfl, sm.trans sm3⟩⟩⟩
    · rintro σ H2 ⟨y, rfl, sm⟩
      exact q H2 sm
/-! ### is_wire -/
abbrev nIsWire : List Str := ["thing", "many_gates", "start", "end", "held", "worth"]
theorem scIsWire : FnScope nIsWire ["thing", "many_gates"] (defScope sIsWire) := ⟨rfl, rfl, rfl, by decide +kernel, rfl, by decide +kernel, by decide +kernel⟩
abbrev DIsWire (P : Program) (w : World) (K : PySem.W.Frag) (mg : Str → Option Value) (base : Heap) := Df P w K mg base 4 "is_wire" ["thing", "many_gates"] (spIsWire K)
theorem ok_isWire {f fF fW : Addr} {fd fdF fdW : FuncData} (F : Fun K "is_wire" "is_wire" sIsWire f fd) (hm : mg "is_wire" = some (.ref f)) (B : Bt mg) (DF : DFromTo P w K mg base fF fdF) (DW : DWorth P w K mg base fW fdW) : DIsWire P w K mg base f fd := by
  refine ⟨?_, hm, F.kp, F.binds fun _ _ _ _ _ _ us hl => match us, hl with | [_, _], _ => rfl⟩
  refine F.ok scIsWire (fun vs H Q E h => ?_) (fun cdv A outer s H vs Q E hr h => ?_)
  · obtain ⟨v, x, n, rfl, _⟩ := h
    rfl
  · obtain ⟨v, x, n, rfl, ⟨a, b, rfl, sq1, sq2⟩, hs, he, rok, rl, q⟩ := h
    have nd := scIsWire.nd
    have hr2 : Room 2 _ := hr.mono (by decide)
    refine ⟨_, pss_cons (ps_if (PW.pt (pw_or (pt_not (pt_val (pe_callB call_isi (by rfl) B.isi (by decide +kernel) (pa_cons (pv 0) (pa_cons (pe_bltn (v := .ty "tuple") (by rfl) B.tuple (by decide +kernel) rfl) pa_nil)))))
          (pw_or1 (pt_cmpR op_ne (pe_callB call_len_seq (by rfl) B.len PySem.boot_len (pa_cons (pv 0) pa_nil)) pe_int (nomark _))))) (pss_one (ps_ret pe_bl)) pss_nil) <|
      pss_cons (ps_asg (pv 0) (pg_tup (by rfl) (pgs_cons (pg_name (i := 2) nd rfl (.inl rfl)) (pgs_cons (pg_name (i := 3) nd rfl (.inl rfl)) (pgs_cons (pg_name (i := 4) nd rfl (.inl rfl)) pgs_nil))))) <|
      pss_cons (ps_if (PW.pt (pw_or (pt_not (pt_val (pe_call DF.ok hr2 (by rfl) DF.mg DF.kp DF.bd .nil pass0 (pa_cons (pv 2) (pa_cons pe_int (pa_cons (pe_op op_sub (pv 1) pe_int) pa_nil))))))
          (pw_or1 (pt_not (pt_val (pe_call DF.ok hr2 (by rfl) DF.mg DF.kp DF.bd .nil pass0 (pa_cons (pv 3) (pa_cons pe_int (pa_cons (pe_op op_sub (pv 1) pe_int) pa_nil))))))))) (pss_one (ps_ret pe_bl)) pss_nil) <|
      pss_one <| ps_ret <| pe_and (pe_callB call_isi (by rfl) B.isi (by decide +kernel) (pa_cons (pv 4) (pa_cons (pe_bltn (v := .ty "tuple") (by rfl) B.tuple (by decide +kernel) rfl) pa_nil))) <| pe_one <|
        pe_callB (cr_all rfl) (by rfl) B.all (by decide +kernel) <| (pa_cons · pa_nil) <| pe_lc (own := [("worth", 5)]) (g := gName 5) (tt := tYes) (te := tCall spWorth [] E0 (tCons (tVar 5) tNil)) rfl nd (pi_tup (pv 4)) (blkOk_by (N := nIsWire) (sc := defScope sIsWire) (own := [("worth", 5)]) (by decide +kernel))
          (fun _ _ _ _ _ => pg_name (i := 5) nd rfl (.inl rfl)) (fun _ _ _ _ _ => pts_nil) (fun _ _ _ _ _ => pe_call DW.ok hr (by rfl) DW.mg DW.kp DW.bd .nil pass0 (pa_cons (pv 5) pa_nil)), ?_⟩
    refine ⟨_, rfl, _, _, _, _, true, rfl, .ty "tuple", ty_tup sq1, kit_ty (by decide +kernel), true, rfl, ?_⟩
    refine iteF ⟨_, rfl, a, _, rfl, .inr sq1, rfl, _, rfl, iteF ?_⟩
    refine ⟨_, rfl, a, _, rfl, sq1, rfl, _, _, rfl, _, _, rfl, _, _, rfl, rfl, ?_⟩
    refine ⟨_, rfl, _, rfl, _, _, rfl, rfl, _, _, _, rfl, true, ?_, iteF ?_⟩
    · rw [decide_eq_true (by omega), decide_eq_true (by omega)]
      rfl
    refine ⟨_, rfl, _, rfl, _, _, rfl, rfl, _, _, _, rfl, true, ?_, iteF ?_⟩
    · rw [decide_eq_true (by omega), decide_eq_true (by omega)]
      rfl
    refine ⟨_, rfl, _, _, _, _, true, rfl, .ty "tuple", ty_tup sq2, kit_ty (by decide +kernel), true, rfl, iteT ?_⟩
    refine ⟨_, rfl, b, rfl, ⟨_, sq2⟩, fun D hD => ?_⟩
    refine lc_tup (K := K) (a := b) (xs := x.2.2.map V.int) (fun i Hc => Hc D = some (.lst ((List.replicate i true).map V.bl)) ∧ Same H Hc) ⟨upd_same, same_new hD⟩ (fun i Hc _ ⟨_, sm⟩ => (TK.same sm).seq sq2) ?_ ?_
    · rintro i y Hc hy ⟨hc, sm⟩
      rw [List.getElem?_map] at hy
      cases ey : x.2.2[i]? with
      | none =>
        rw [ey] at hy
        cases hy
      | some z =>
      rw [ey] at hy
      cases hy
      have hz := rok z (List.mem_of_getElem? ey)
      have hi : i < x.2.2.length := (List.getElem?_eq_some_iff.mp ey).1
      refine ⟨rfl, tyes ?_⟩
      refine ⟨_, rfl, z, rfl, _, hc, by rw [List.length_map, List.length_replicate]; exact small1000 (by omega), ?_, same_mut sm hD⟩
      rw [upd_same, decide_eq_true hz.1, decide_eq_true hz.2, List.replicate_succ', List.map_append]
      rfl
    · rintro Hc ⟨hc, sm⟩
      refine ⟨D, _, rfl, SqL.of hc, ?_⟩
      have e : (List.replicate (x.2.2.map V.int).length true).all id = true := by
        rw [List.all_eq_true]
        intro y hy
        rw [List.mem_replicate] at hy
        rw [hy.2]
        rfl
      rw [e]
      exact q Hc sm
/-! ### is_taken -/
theorem scTaken : FnScope ["wire", "gates", "come", "start", "end"] ["wire", "gates", "come"] (defScope sTaken) := ⟨rfl, rfl, rfl, by decide +kernel, rfl, by decide +kernel, by decide +kernel⟩
abbrev DTaken (P : Program) (w : World) (K : PySem.W.Frag) (mg : Str → Option Value) (base : Heap) := Df P w K mg base 1 "is_taken" ["wire", "gates", "come"] (spTaken K)
theorem ok_taken {f : Addr} {fd : FuncData} (F : Fun K "is_taken" "is_taken" sTaken f fd) (hm : mg "is_taken" = some (.ref f)) : DTaken P w K mg base f fd := by
  refine ⟨?_, hm, F.kp, F.binds fun _ _ _ _ _ _ us hl => match us, hl with | [_, _, _], _ => rfl⟩
  refine F.ok scTaken (fun vs H Q E h => ?_) (fun cdv A outer s H vs Q E hr h => ?_)
  · obtain ⟨v, x, lg, lc, gs, cs, rfl, _⟩ := h
    rfl
  · obtain ⟨v, x, lg, lc, gs, cs, rfl, ⟨a, b, rfl, sq1, sq2⟩, ⟨gv, sg, ga⟩, sc, W, hcl, h0, q⟩ := h
    have nd := scTaken.nd
    refine ⟨_, pss_cons (ps_par (i := 3) (j := 4) (by rfl) nd rfl rfl (by decide) rfl rfl (pa_cons (pe_ix ix_tup (pv 0) pe_int (fun _ _ => rfl)) (pa_cons (pe_ix ix_tup (pv 0) pe_int (fun _ _ => rfl)) pa_nil)) (by rfl)) <|
      pss_cons (ps_if (PW.pt (pw_or (pt_cmpR op_eq (pe_ix ix_tup (pe_ix ix_list (pv 1) (pv 3) (fun _ _ => rfl)) pe_int (fun _ _ => rfl)) pe_str (nomark _)) (pw_or1 (pt_cmpR op_eq (pe_ix ix_tup (pe_ix ix_list (pv 1) (pv 4) (fun _ _ => rfl)) pe_int (fun _ _ => rfl)) pe_str (nomark _))))) (pss_one (ps_ret pe_bl)) pss_nil) <|
      pss_one <| ps_ret <| pe_or (pe_cmpR op_ne (pe_ix ix_tup (pe_ix ix_list (pv 1) (pv 4) (fun _ _ => rfl)) pe_int (fun _ _ => rfl)) pe_str (nomark _)) (pe_one (pe_cmpR op_eq (pe_ix ix_list (pv 2) (pv 4) (fun _ _ => rfl)) pe_int (nomark _))), ?_⟩
    have hl : gv.length = gs.length := ga.1
    obtain ⟨vs1, g1, e1, f1, a1, rfl, s1⟩ : ∃ vs1 g1, gv[x.1]? = some vs1 ∧ gs[x.1]? = some g1 ∧ GateV K H vs1 g1 := by
      have e1 : gs[x.1]? = some (gs[x.1]'W.s) := List.getElem?_eq_getElem W.s
      obtain ⟨y, hy, r⟩ := ga.getR e1
      exact ⟨y, _, hy, e1, r⟩
    obtain ⟨vs2, g2, e2, f2, a2, rfl, s2⟩ : ∃ vs2 g2, gv[x.2.1]? = some vs2 ∧ gs[x.2.1]? = some g2 ∧ GateV K H vs2 g2 := by
      have e1 : gs[x.2.1]? = some (gs[x.2.1]'W.e) := List.getElem?_eq_getElem W.e
      obtain ⟨y, hy, r⟩ := ga.getR e1
      exact ⟨y, _, hy, e1, r⟩
    have k1 := kindAt_get f1
    have k2 := kindAt_get f2
    refine ⟨_, rfl, a, _, 0, _, rfl, rfl, sq1, atI_nat (j := 0) rfl, _, rfl, a, _, 1, _, rfl, rfl, sq1, atI_nat (j := 1) rfl, _, _, rfl, ?_⟩
    refine ⟨_, rfl, _, rfl, lg, gv, _, _, rfl, rfl, sg, atI_nat e1, a1, _, 0, _, rfl, rfl, s1, atI_nat (j := 0) rfl, rfl, false, ?_, iteF ?_⟩
    · show V.bl (decide (V.str g1.1 = V.str "out")) = V.bl false
      rw [decide_eq_false]
      intro z
      exact W.ks (by rw [k1]; exact V.str.inj z)
    refine ⟨_, rfl, _, rfl, lg, gv, _, _, rfl, rfl, sg, atI_nat e2, a2, _, 0, _, rfl, rfl, s2, atI_nat (j := 0) rfl, rfl, false, ?_, iteF ?_⟩
    · show V.bl (decide (V.str g2.1 = V.str "in")) = V.bl false
      rw [decide_eq_false]
      intro z
      exact W.ke (by rw [k2]; exact V.str.inj z)
    refine ⟨_, rfl, _, rfl, lg, gv, _, _, rfl, rfl, sg, atI_nat e2, a2, _, 0, _, rfl, rfl, s2, atI_nat (j := 0) rfl, rfl, _, rfl, ite2 (fun e => ?_) (fun e => ?_)⟩
    · exact q
    · have hk : kindAt gs x.2.1 = "out" := by
        rw [k2]
        refine Classical.byContradiction fun z => e ?_
        show (!decide (V.str g2.1 = V.str "out")) = true
        rw [decide_eq_false (fun y => z (V.str.inj y))]
        rfl
      have hc := h0 hk
      refine ⟨_, rfl, _, rfl, lc, _, _, .int 0, rfl, rfl, sc, atI_nat (by rw [List.getElem?_map, hc]; rfl), rfl, q⟩
end
end Lag

set_option maxRecDepth 100000
set_option maxHeartbeats 4000000
namespace Lag
open PySem PySem.Spec PyProof.Rows L2
abbrev sChkWires : Stmt := topS 28
def cntL (n : Nat) (ws : List Wr) : List Nat := (List.range n).map (cnt ws)
theorem cntL_len (n : Nat) (ws : List Wr) : (cntL n ws).length = n := by simp [cntL]
theorem cntL_get {n e : Nat} {ws : List Wr} (h : e < n) : (cntL n ws)[e]? = some (cnt ws e) := by
  unfold cntL
  rw [List.getElem?_map, List.getElem?_range h]
  rfl
theorem cntL_nil (n : Nat) : cntL n [] = List.replicate n 0 := by
  refine List.ext_getElem? fun i => ?_
  by_cases h : i < n
  · rw [cntL_get h, List.getElem?_replicate, if_pos h]
    rfl
  · rw [List.getElem?_eq_none (by rw [cntL_len]; omega), List.getElem?_eq_none (by simp; omega)]
theorem cnt_app (ws : List Wr) (x : Wr) (e : Nat) : cnt (ws ++ [x]) e = cnt ws e + if x.2.1 = e then 1 else 0 := by
  unfold cnt
  rw [List.countP_append, List.countP_cons, List.countP_nil]
  by_cases h : x.2.1 = e <;> simp [h]
theorem cntL_app {n : Nat} {ws : List Wr} {x : Wr} (h : x.2.1 < n) : (cntL n ws).set x.2.1 (cnt ws x.2.1 + 1) = cntL n (ws ++ [x]) := by
  refine List.ext_getElem? fun i => ?_
  by_cases hi : i < n
  · rw [cntL_get hi, cnt_app, List.getElem?_set]
    by_cases e : x.2.1 = i
    · rw [if_pos e, if_pos e, if_pos (by rw [cntL_len]; exact h), e]
    · rw [if_neg e, if_neg e, cntL_get hi]
      rfl
  · rw [List.getElem?_eq_none (by rw [List.length_set, cntL_len]; omega), List.getElem?_eq_none (by rw [cntL_len]; omega)]
theorem cnt_take_lt {ws : List Wr} {i : Nat} {x : Wr} (h : ws[i]? = some x) : cnt (ws.take i) x.2.1 + 1 ≤ cnt ws x.2.1 := by
  have e : ws.take (i + 1) = ws.take i ++ [x] := by rw [List.take_add_one, h]; rfl
  have h1 : cnt (ws.take (i + 1)) x.2.1 ≤ cnt ws x.2.1 := by
    unfold cnt
    exact List.Sublist.countP_le (List.take_sublist _ _)
  rw [e, cnt_app, if_pos rfl] at h1
  exact h1
def spChkWires (K : PySem.W.Frag) : Sp := fun vs H Q _ => ∃ (lg lw : Addr) (gs : List Gt) (ws : List Wr), vs = [.ref lg, .ref lw] ∧ RG K H lg gs ∧ RW K H lw ws ∧ NetOk gs ws ∧ ∀ H', Same H H' → Q .non H'
theorem map_set' {α β : Type} (f : α → β) (l : List α) (i : Nat) (a : α) : (l.map f).set i (f a) = (l.set i a).map f := by simp [List.map_set]
section
variable {P : Program} {w : World} {K : PySem.W.Frag} {mg : Str → Option Value} {base : Heap}
theorem scChkWires : FnScope ["gates", "wires", "come", "place", "thing", "gate", "many"] ["gates", "wires"] (defScope sChkWires) := ⟨rfl, rfl, rfl, by decide +kernel, rfl, by decide +kernel, by decide +kernel⟩
abbrev DChkWires (P : Program) (w : World) (K : PySem.W.Frag) (mg : Str → Option Value) (base : Heap) := Df P w K mg base 5 "check_wires" ["gates", "wires"] (spChkWires K)
theorem ok_chkWires {f fW fT aK aW aF : Addr} {fd fdW fdT : FuncData} (F : Fun K "check_wires" "check_wires" sChkWires f fd) (hm : mg "check_wires" = some (.ref f)) (B : Bt mg) (C : Cns K mg aK aW aF) (DW : DIsWire P w K mg base fW fdW) (DT : DTaken P w K mg base fT fdT) : DChkWires P w K mg base f fd := by
  refine ⟨?_, hm, F.kp, F.binds fun _ _ _ _ _ _ us hl => match us, hl with | [_, _], _ => rfl⟩
  refine F.ok scChkWires (fun vs H Q E h => ?_) (fun cdv A outer s H vs Q E hr h => ?_)
  · obtain ⟨lg, lw, gs, ws, rfl, _⟩ := h
    rfl
  · obtain ⟨lg, lw, gs, ws, rfl, RGs, ⟨wv, sw, wa⟩, N, q⟩ := h
    have nd := scChkWires.nd
    have hr1 : Room 1 _ := hr.mono (by decide)
    refine ⟨_, pss_cons (ps_if (pt_not (pt_val (pe_callB call_isi (by rfl) B.isi (by decide +kernel) (pa_cons (pv 1) (pa_cons (pe_bltn (v := .ty "list") (by rfl) B.list (by decide +kernel) rfl) pa_nil))))) (pss_one ps_never) pss_nil) <|
      pss_cons (ps_set (i := 2) nd rfl (Or.inl rfl) (pe_op op_rep (pe_lst (pa_cons pe_int pa_nil)) (pe_callB call_len_seq (by rfl) B.len PySem.boot_len (pa_cons (pv 0) pa_nil)))) <|
      pss_cons (ps_for PassesOwn.never rfl (pi_enum (by rfl) B.enum (pa_cons (pv 1) pa_nil)) (pg_tup rfl (pgs_cons (pg_name (i := 3) nd rfl (Or.inl rfl)) (pgs_cons (pg_name (i := 4) nd rfl (Or.inl rfl)) pgs_nil))) <|
        pss_cons (ps_if (PW.pt (pw_or (pt_not (pt_val (pe_call DW.ok hr (by rfl) DW.mg DW.kp DW.bd .nil pass0 (pa_cons (pv 4) (pa_cons (pe_callB call_len_seq (by rfl) B.len PySem.boot_len (pa_cons (pv 0) pa_nil)) pa_nil)))))
            (pw_or1 (pt_not (pt_val (pe_call DT.ok hr1 (by rfl) DT.mg DT.kp DT.bd .nil pass0 (pa_cons (pv 4) (pa_cons (pv 0) (pa_cons (pv 2) pa_nil))))))))) (pss_one ps_never) pss_nil) <|
        pss_one <| ps_augS (pv 2) (pe_ix ix_tup (pv 4) pe_int (fun _ _ => rfl)) get_list pe_int ip_add set_list) <|
      pss_one <| ps_for PassesOwn.never rfl (pi_zip (by rfl) B.zip (pa_cons (pv 0) (pa_cons (pv 2) pa_nil))) (pg_tup rfl (pgs_cons (pg_name (i := 5) nd rfl (Or.inl rfl)) (pgs_cons (pg_name (i := 6) nd rfl (Or.inl rfl)) pgs_nil))) <|
        pss_one <| ps_if (PW.pt (pw_and (pt_cmpR op_in_seq (pe_ix ix_tup (pv 5) pe_int (fun _ _ => rfl)) (pe_glob (v := .ref aF) (by rfl) C.mF rfl) (by rfl)) (pw_and1 (pt_cmpR op_eq (pv 6) pe_int (nomark _))))) (pss_one ps_never) pss_nil, ?_⟩
    obtain ⟨gv, sg, ga⟩ := id RGs
    have hlg : gv.length = gs.length := ga.1
    have hlw : wv.length = ws.length := wa.1
    have hgl := N.gl
    refine ⟨_, rfl, _, _, _, _, true, rfl, .ty "list", ty_lst sw, kit_ty (by decide +kernel), true, rfl, iteF ?_⟩
    refine ⟨(by show 1 ≤ sizeLine; decide), fun l0 hl0 => ?_⟩
    refine ⟨_, rfl, lg, gv, rfl, .inl ((same_new hl0).seq sg), ?_⟩
    refine ⟨l0, _, _, rfl, rfl, upd_same, by omega, by omega, ?_, fun lc hlc => ?_⟩
    · show 1 * _ ≤ sizeLine
      have : 1 * ((gv.length : Int)).toNat ≤ 1000 := by omega
      exact Nat.le_of_lt (small1000 this)
    have sm0 : Same H (upd H l0 (.lst [.int 0])) := same_new hl0
    have hlc0 : H lc = none := sm0.free hlc
    have e0 : (List.replicate ((gv.length : Int)).toNat [V.int 0]).flatten = (cntL gs.length (ws.take 0)).map fun i => V.int (i : Nat) := by
      rw [List.take_zero, cntL_nil, List.map_replicate, ← hlg, Int.toNat_natCast]
      generalize gv.length = n
      induction n with
      | zero => rfl
      | succ n ih =>
        rw [List.replicate_succ, List.flatten_cons, ih, List.replicate_succ]
        rfl
    rw [e0]
    -- for place, thing in enumerate(wires)
    refine ⟨_, rfl, lw, wv, rfl, (sm0.trans (same_new hlc)).seq sw, for_it (walk_enum (K := K) (a := lw) (xs := wv)) (fun i σ H2 => ∃ s3 s4 : Option V, σ = [some (.ref lg), some (.ref lw), some (.ref lc), s3, s4, none, none] ∧
        H2 lc = some (.lst ((cntL gs.length (ws.take i)).map fun i => V.int (i : Nat))) ∧ Same H H2)
      ⟨_, _, rfl, upd_same, sm0.trans (same_new hlc)⟩ (fun i σ H2 _ ⟨_, _, _, _, sm⟩ => sm.seq sw) ?_ ?_⟩
    · rintro i v σ H2 H2' hi ⟨s3, s4, rfl, hc, sm⟩ ⟨T, x1, y, rfl, hT, rfl, ex, ey⟩
      cases ex
      obtain ⟨x, hx, wx⟩ := wa.get ey
      have W := N.wok x (List.mem_of_getElem? hx)
      have hxi : i < ws.length := (List.getElem?_eq_some_iff.mp hx).1
      have smT : Same H2 (upd H2 T (.tup [.int (i : Nat), y])) := same_new hT
      have sm2 := sm.trans smT
      refine ⟨T, _, rfl, .inl (.inl upd_same), rfl, _, _, rfl, _, _, rfl, rfl, ?_⟩
      refine ⟨_, rfl, _, rfl, lg, gv, rfl, .inl (sm2.seq sg), y, x, gv.length, rfl, wx.tk (TK.same sm2), by rw [hlg]; exact W.s, by rw [hlg]; exact W.e, W.r, by have := W.rl; omega, fun H3 sm3 => ⟨true, rfl, iteF ?_⟩⟩
      have sm4 := sm2.trans sm3
      have hc3 := sm3 _ _ (smT _ _ hc)
      refine ⟨_, rfl, _, rfl, _, rfl, y, x, lg, lc, gs, cntL gs.length (ws.take i), rfl, wx.tk (TK.same sm4), RGs.same sm4, SqL.of hc3, W, cntL_len _ _, fun hk => ?_, true, rfl, iteF ?_⟩
      · rw [cntL_get W.e]
        have h1 := N.one _ W.e hk
        have h2 := cnt_take_lt hx
        congr 1
        omega
      obtain ⟨a, b, rfl, sq1, sq2⟩ := wx
      have hlen : x.2.1 < (cntL gs.length (ws.take i)).length := by rw [cntL_len]; exact W.e
      refine ⟨_, rfl, _, rfl, a, _, 1, _, rfl, rfl, (TK.same sm4).seq sq1, atI_nat (j := 1) rfl, lc, _, x.2.1, .int (cnt (ws.take i) x.2.1 : Nat), rfl, rfl, SqL.of hc3, by rw [List.getElem?_map, cntL_get W.e]; rfl, _, _, rfl, rfl, lc, _, _, x.2.1, rfl, rfl, hc3, Evl.ixN_nat (by rw [List.length_map]; exact hlen), ?_⟩
      refine ⟨_, _, rfl, ?_, same_mut sm4 hlc0⟩
      have et : ws.take (i + 1) = ws.take i ++ [x] := by rw [List.take_add_one, hx]; rfl
      rw [upd_same, et, ← cntL_app W.e, ← map_set']
      rfl
    · rintro σ H2 ⟨s3, s4, rfl, hc, sm⟩
      rw [hlw, List.take_length] at hc
      -- for gate, many in zip(gates, come)
      refine ⟨_, rfl, _, rfl, lg, lc, gv, _, rfl, sm.seq sg, SqL.of hc, RZ.for_zipL (K := K) (a := lg) (b := lc) (xs := gv) (by rw [List.length_map, cntL_len]; exact hlg) (fun i σ H3 => ∃ s5 s6 : Option V, σ = [some (.ref lg), some (.ref lw), some (.ref lc), s3, s4, s5, s6] ∧ Same H2 H3)
        ⟨_, _, rfl, Same.refl H2⟩ (fun i σ H3 ⟨_, _, _, sm3⟩ => ⟨(sm.trans sm3).seq sg, SqL.of (sm3 _ _ hc)⟩) ?_ ?_⟩
      · rintro i x y T σ H3 hx hy ⟨s5, s6, rfl, sm3⟩ hT
        obtain ⟨g, hg, a, rfl, sq⟩ := ga.get hx
        have hgi : i < gs.length := (List.getElem?_eq_some_iff.mp hg).1
        rw [List.getElem?_map, cntL_get hgi] at hy
        cases hy
        have sm4 : Same H (upd H3 T (.tup [.ref a, .int (cnt ws i : Nat)])) := (sm.trans sm3).trans (same_new hT)
        refine ⟨T, _, rfl, .inl (.inl upd_same), rfl, _, _, rfl, _, _, rfl, rfl, ?_⟩
        refine ⟨_, rfl, a, _, 0, _, rfl, rfl, (TK.same sm4).seq sq, atI_nat (j := 0) rfl, aF, _, rfl, .inr (C.sF _), rfl, rfl, _, rfl, ite2 (fun e => ?_) (fun e => ?_)⟩
        · have e' : inV (V.str g.1) [V.str "out", V.str "first"] = true := e
          have hpos : 1 ≤ cnt ws i := by
            unfold inV at e'
            rw [List.any_eq_true] at e'
            obtain ⟨x, hx, hxe⟩ := e'
            simp only [List.mem_cons, List.not_mem_nil, or_false] at hx
            rcases hx with rfl | rfl
            · have := N.one i hgi (by rw [kindAt_get hg]; exact (eq_of_beq hxe).symm)
              omega
            · exact N.some i hgi (by rw [kindAt_get hg]; exact (eq_of_beq hxe).symm)
          refine ⟨_, rfl, rfl, false, ?_, iteF ⟨_, _, rfl, sm3.trans (same_new hT)⟩⟩
          show V.bl (decide (V.int (cnt ws i : Int) = V.int 0)) = V.bl false
          rw [decide_eq_false]
          intro z
          have := V.int.inj z
          omega
        · exact iteF ⟨_, _, rfl, sm3.trans (same_new hT)⟩
      · rintro σ H3 ⟨s5, s6, rfl, sm3⟩
        exact q H3 (sm.trans sm3)
end
end Lag

set_option maxRecDepth 100000
set_option maxHeartbeats 4000000
namespace Lag
open PySem PySem.Spec PyProof.Rows L2
/-! ### the order of gates along wires without registers: the mathematics -/
def bare (ws : List Wr) : List (Nat × Nat) := (ws.filter fun x => x.2.2.isEmpty).map fun x => (x.1, x.2.1)
/-- how many wires of B lead into e from gates that are not in dn -/
def mis (B : List (Nat × Nat)) (dn : List Nat) (e : Nat) : Nat := B.countP fun b => b.2 == e && !dn.contains b.1
def frm (B : List (Nat × Nat)) (g e : Nat) : Nat := B.countP fun b => b.1 == g && b.2 == e
theorem mis_split {B : List (Nat × Nat)} {dn : List Nat} {g : Nat} (h : g ∉ dn) (e : Nat) : mis B dn e = mis B (dn ++ [g]) e + frm B g e := by
  unfold mis frm
  induction B with
  | nil => rfl
  | cons b B ih =>
    rw [List.countP_cons, List.countP_cons, List.countP_cons, ih]
    by_cases h1 : b.2 = e
    · by_cases h2 : b.1 = g
      · have : b.1 ∉ dn := by rw [h2]; exact h
        simp [h1, h2, h]
        omega
      · by_cases h3 : b.1 ∈ dn
        · simp [h1, h2, h3]
        · simp [h1, h2, h3]
          omega
    · simp [h1]
theorem mis_zero {B : List (Nat × Nat)} {dn : List Nat} {e : Nat} (h : mis B dn e = 0) {b : Nat × Nat} (hb : b ∈ B) (he : b.2 = e) : b.1 ∈ dn := by
  unfold mis at h
  rw [List.countP_eq_zero] at h
  have := h b hb
  simp [he] at this
  exact this
theorem frm_drop {B : List (Nat × Nat)} {j : Nat} {b : Nat × Nat} (h : B[j]? = some b) (g e : Nat) : frm (B.drop j) g e = frm (B.drop (j + 1)) g e + if b.1 = g ∧ b.2 = e then 1 else 0 := by
  obtain ⟨hj, rfl⟩ := List.getElem?_eq_some_iff.mp h
  rw [List.drop_eq_getElem_cons hj]
  unfold frm
  rw [List.countP_cons]
  by_cases h1 : B[j].1 = g <;> by_cases h2 : B[j].2 = e <;> simp [h1, h2]
structure KI (B : List (Nat × Nat)) (n : Nat) (placed : List Nat) (d : Nat) : Prop where
  nd : placed.Nodup
  lt : ∀ e ∈ placed, e < n
  le : d ≤ placed.length
  iff : ∀ e, e < n → (e ∈ placed ↔ mis B (placed.take d) e = 0)
  top : ∀ (j e : Nat), placed[j]? = some e → ∀ b ∈ B, b.2 = e → b.1 ∈ placed.take j
structure KJ (B : List (Nat × Nat)) (n : Nat) (placed : List Nat) (d g j : Nat) : Prop where
  nd : placed.Nodup
  lt : ∀ e ∈ placed, e < n
  at_ : placed[d]? = some g
  iff : ∀ e, e < n → (e ∈ placed ↔ mis B (placed.take (d + 1)) e + frm (B.drop j) g e = 0)
  top : ∀ (j e : Nat), placed[j]? = some e → ∀ b ∈ B, b.2 = e → b.1 ∈ placed.take j
theorem take_add {l : List Nat} {d g : Nat} (h : l[d]? = some g) : l.take (d + 1) = l.take d ++ [g] := by rw [List.take_add_one, h]; rfl
theorem nodup_take {l : List Nat} {d g : Nat} (nd : l.Nodup) (h : l[d]? = some g) : g ∉ l.take d := by
  intro hm
  obtain ⟨i, hi⟩ := List.getElem?_of_mem hm
  have h1 : i < d := by
    have := (List.getElem?_eq_some_iff.mp hi).1
    rw [List.length_take] at this
    omega
  rw [List.getElem?_take_of_lt h1] at hi
  have := nd_ix nd hi h
  omega
theorem KI.go {B : List (Nat × Nat)} {n : Nat} {placed : List Nat} {d g : Nat} (h : KI B n placed d) (hg : placed[d]? = some g) : KJ B n placed d g 0 :=
  ⟨h.nd, h.lt, hg, fun e he => by rw [h.iff e he, take_add hg, mis_split (nodup_take h.nd hg), List.drop_zero], h.top⟩
theorem KJ.done {B : List (Nat × Nat)} {n : Nat} {placed : List Nat} {d g : Nat} (h : KJ B n placed d g B.length) : KI B n placed (d + 1) := by
  have hd : d < placed.length := (List.getElem?_eq_some_iff.mp h.at_).1
  refine ⟨h.nd, h.lt, hd, fun e he => ?_, h.top⟩
  rw [h.iff e he, List.drop_length]
  rfl
theorem KJ.skip {B : List (Nat × Nat)} {n : Nat} {placed : List Nat} {d g j : Nat} {b : Nat × Nat} (h : KJ B n placed d g j) (hb : B[j]? = some b) (hg : b.1 ≠ g) : KJ B n placed d g (j + 1) :=
  ⟨h.nd, h.lt, h.at_, fun e he => by rw [h.iff e he, frm_drop hb, if_neg (fun z => hg z.1)]; rfl, h.top⟩
theorem KJ.not {B : List (Nat × Nat)} {n : Nat} {placed : List Nat} {d g j : Nat} {b : Nat × Nat} (h : KJ B n placed d g j) (hb : B[j]? = some b) (hg : b.1 = g) (hn : mis B (placed.take (d + 1)) b.2 + frm (B.drop (j + 1)) g b.2 ≠ 0) : KJ B n placed d g (j + 1) := by
  refine ⟨h.nd, h.lt, h.at_, fun e he => ?_, h.top⟩
  rw [h.iff e he, frm_drop hb]
  by_cases h2 : b.2 = e
  · subst h2
    rw [if_pos ⟨hg, rfl⟩]
    omega
  · rw [if_neg (fun z => h2 z.2)]
    rfl
theorem KJ.put {B : List (Nat × Nat)} {n : Nat} {placed : List Nat} {d g j : Nat} {b : Nat × Nat} (h : KJ B n placed d g j) (hb : B[j]? = some b) (hg : b.1 = g) (hlt : b.2 < n) (hn : mis B (placed.take (d + 1)) b.2 + frm (B.drop (j + 1)) g b.2 = 0) : KJ B n (placed ++ [b.2]) d g (j + 1) := by
  have hd : d < placed.length := (List.getElem?_eq_some_iff.mp h.at_).1
  have hnot : b.2 ∉ placed := fun z => by
    have := (h.iff _ hlt).mp z
    rw [frm_drop hb, if_pos ⟨hg, rfl⟩] at this
    omega
  have et : (placed ++ [b.2]).take (d + 1) = placed.take (d + 1) := List.take_append_of_le_length (by omega)
  refine ⟨?_, ?_, ?_, ?_, ?_⟩
  · rw [List.nodup_append]
    refine ⟨h.nd, by simp, fun a ha c hc => ?_⟩
    simp at hc
    subst hc
    intro z
    exact hnot (by rw [← z]; exact ha)
  · intro e he
    rcases List.mem_append.mp he with he | he
    · exact h.lt e he
    · simp at he
      subst he
      exact hlt
  · rw [List.getElem?_append_left hd]
    exact h.at_
  · intro e he
    rw [et, List.mem_append]
    by_cases h2 : b.2 = e
    · subst h2
      simp [hn]
    · have := h.iff e he
      rw [frm_drop hb, if_neg (fun z => h2 z.2)] at this
      rw [this]
      simp
      intro z
      exact absurd z.symm h2
  · intro k e hk c hc hce
    by_cases hk' : k < placed.length
    · rw [List.getElem?_append_left hk'] at hk
      rw [List.take_append_of_le_length (by omega)]
      exact h.top k e hk c hc hce
    · have hkl : k = placed.length := by
        have := (List.getElem?_eq_some_iff.mp hk).1
        simp at this
        omega
      subst hkl
      rw [List.getElem?_append_right (by omega)] at hk
      simp at hk
      subst hk
      rw [List.take_left']
      · have := mis_zero (show mis B (placed.take (d + 1)) b.2 = 0 by omega) hc hce
        exact List.mem_of_mem_take this
      · rfl
/-- what the order is: gates without two alike, each behind those it hangs on; all whose wires come from such -/
def Ord (n : Nat) (ws : List Wr) (ord : List Nat) : Prop := KI (bare ws) n ord ord.length
theorem Ord.full {n : Nat} {ws : List Wr} {ord : List Nat} (h : Ord n ws ord) (hw : ∀ x ∈ ws, x.1 < n ∧ x.2.1 < n) (rk : ∃ ρ : Nat → Nat, ∀ x ∈ ws, x.2.2 = [] → ρ x.1 < ρ x.2.1) : ord.Perm (List.range n) := by
  obtain ⟨ρ, hρ⟩ := rk
  have all : ∀ r e, e < n → ρ e = r → e ∈ ord := by
    intro r
    induction r using Nat.strongRecOn with
    | ind r ih =>
      intro e he hr
      rw [h.iff e he, List.take_length]
      unfold mis
      rw [List.countP_eq_zero]
      intro b hb
      obtain ⟨x, hx, rfl⟩ := List.mem_map.mp hb
      rw [List.mem_filter] at hx
      have hr0 : x.2.2 = [] := by simpa using hx.2
      have := hρ x hx.1 hr0
      simp
      intro z
      exact ih (ρ x.1) (by rw [← hr, ← z]; exact this) x.1 (hw x hx.1).1 rfl
  rw [List.perm_iff_count]
  intro a
  rw [h.nd.count, List.nodup_range.count]
  by_cases ha : a < n
  · rw [if_pos (all _ a ha rfl), if_pos (List.mem_range.mpr ha)]
  · rw [if_neg (fun z => ha (h.lt a z)), if_neg (fun z => ha (List.mem_range.mp z))]
end Lag

set_option maxRecDepth 100000
set_option maxHeartbeats 8000000
namespace Lag
open PySem PySem.Spec PyProof.Rows L2
abbrev sAlong : Stmt := topS 16
abbrev sOrder : Stmt := topS 32
def PairV (K : PySem.W.Frag) (H : Hp) (v : V) (b : Nat × Nat) : Prop := ∃ a, v = .ref a ∧ SqT K H a [.int (b.1 : Nat), .int (b.2 : Nat)]
theorem PairV.tk {K : PySem.W.Frag} {H H' : Hp} {v : V} {b : Nat × Nat} (t : TK H H') (h : PairV K H v b) : PairV K H' v b := by
  obtain ⟨a, e, s⟩ := h
  exact ⟨a, e, t.seq s⟩
/-- numbers by a function of the place -/
def fnL (n : Nat) (f : Nat → Nat) : List V := (List.range n).map fun e => V.int (f e : Nat)
theorem fnL_len (n : Nat) (f : Nat → Nat) : (fnL n f).length = n := by simp [fnL]
theorem fnL_get {n e : Nat} {f : Nat → Nat} (h : e < n) : (fnL n f)[e]? = some (V.int (f e : Nat)) := by
  unfold fnL
  rw [List.getElem?_map, List.getElem?_range h]
  rfl
theorem fnL_set {n e : Nat} {f f' : Nat → Nat} {z : Int} (h : e < n) (he : (f' e : Int) = z) (ho : ∀ i, i ≠ e → f' i = f i) : (fnL n f).set e (V.int z) = fnL n f' := by
  refine List.ext_getElem? fun i => ?_
  by_cases hi : i < n
  · rw [fnL_get hi, List.getElem?_set]
    by_cases ei : e = i
    · subst ei
      rw [if_pos rfl, if_pos (by rw [fnL_len]; exact h), he]
    · rw [if_neg ei, fnL_get hi, ho i (fun z => ei z.symm)]
  · rw [List.getElem?_eq_none (by rw [List.length_set, fnL_len]; omega), List.getElem?_eq_none (by rw [fnL_len]; omega)]
theorem fnL_zero (n : Nat) (f : Nat → Nat) (h : ∀ e, f e = 0) : (List.replicate n [V.int 0]).flatten = fnL n f := by
  have e : f = fun _ => 0 := funext h
  subst e
  unfold fnL
  induction n with
  | zero => rfl
  | succ n ih =>
    rw [List.replicate_succ', List.flatten_append, ih, List.range_succ, List.map_append]
    rfl
def spOrder (K : PySem.W.Frag) : Sp := fun vs H Q _ => ∃ (n : Nat) (lw : Addr) (ws : List Wr), vs = [.int (n : Nat), .ref lw] ∧ RW K H lw ws ∧ (∀ x ∈ ws, x.1 < n ∧ x.2.1 < n) ∧ n ≤ 1000 ∧ ws.length ≤ 1000 ∧
  ∀ (ord : List Nat) (p : Addr) (H' : Hp), Ord n ws ord → Same H H' → H p = none → H' p = some (.lst (ord.map fun i => V.int (i : Nat))) → Q (.ref p) H'
def spAlong (K : PySem.W.Frag) : Sp := fun vs H Q _ => ∃ (n : Nat) (lb : Addr) (bv : List V) (B : List (Nat × Nat)), vs = [.int (n : Nat), .ref lb] ∧ SqL K H lb bv ∧ All2 (PairV K H) bv B ∧ (∀ b ∈ B, b.1 < n ∧ b.2 < n) ∧ n ≤ 1000 ∧ B.length ≤ 1000 ∧
  ∀ (ord : List Nat) (p : Addr) (H' : Hp), KI B n ord ord.length → Same H H' → H p = none → H' p = some (.lst (ord.map fun i => V.int (i : Nat))) → Q (.ref p) H'
abbrev nAlong : List Str := ["many", "pairs", "missing", "start", "end", "placed", "done", "place"]
theorem scAlong : FnScope nAlong ["many", "pairs"] (defScope sAlong) := ⟨rfl, rfl, rfl, by decide +kernel, rfl, by decide +kernel, by decide +kernel⟩
abbrev nOrder : List Str := ["many_gates", "wires", "start", "end", "held"]
theorem scOrder : FnScope nOrder ["many_gates", "wires"] (defScope sOrder) := ⟨rfl, rfl, rfl, by decide +kernel, rfl, by decide +kernel, by decide +kernel⟩
theorem bare_take {ws : List Wr} {i : Nat} {x : Wr} (h : ws[i]? = some x) : bare (ws.take (i + 1)) = if x.2.2.isEmpty then bare (ws.take i) ++ [(x.1, x.2.1)] else bare (ws.take i) := by
  unfold bare
  rw [List.take_add_one, h]
  show ((ws.take i ++ [x]).filter _).map _ = _
  rw [List.filter_append]
  by_cases e : x.2.2.isEmpty
  · rw [if_pos e, List.filter_cons, if_pos e, List.map_append]
    rfl
  · rw [if_neg e, List.filter_cons, if_neg e, List.filter_nil, List.append_nil]
theorem bare_len (ws : List Wr) : (bare ws).length ≤ ws.length := by
  unfold bare
  rw [List.length_map]
  exact List.length_filter_le _ _
theorem mis_take {B : List (Nat × Nat)} {i : Nat} {b : Nat × Nat} (h : B[i]? = some b) (e : Nat) : mis (B.take (i + 1)) [] e = mis (B.take i) [] e + if b.2 = e then 1 else 0 := by
  unfold mis
  rw [List.take_add_one, h]
  show (B.take i ++ [b]).countP _ = _
  rw [List.countP_append, List.countP_cons, List.countP_nil]
  by_cases h1 : b.2 = e <;> simp [h1]
section
variable {P : Program} {w : World} {K : PySem.W.Frag} {mg : Str → Option Value} {base : Heap}
abbrev DAlong (P : Program) (w : World) (K : PySem.W.Frag) (mg : Str → Option Value) (base : Heap) := Df P w K mg base 1 "order_along" ["many", "pairs"] (spAlong K)
theorem ok_along {f : Addr} {fd : FuncData} (F : Fun K "order_along" "order_along" sAlong f fd) (hm : mg "order_along" = some (.ref f)) (Bb : Bt mg) : DAlong P w K mg base f fd := by
  refine ⟨?_, hm, F.kp, F.binds fun _ _ _ _ _ _ us hl => match us, hl with | [_, _], _ => rfl⟩
  refine F.ok scAlong (fun vs H Q E h => ?_) (fun cdv A outer s H vs Q E hr h => ?_)
  · obtain ⟨n, lb, bv, B, rfl, _⟩ := h
    rfl
  · obtain ⟨n, lb, bv, B, rfl, sb, ba1, hBlt, hn, hwl, q⟩ := h
    have nd := scAlong.nd
    refine ⟨_, pss_cons (ps_set (i := 2) nd rfl (Or.inr rfl) (pe_op op_rep (pe_lst (pa_cons pe_int pa_nil)) (pv 0))) <|
      pss_cons (ps_for PassesOwn.never rfl (pi_list (pv 1)) (pg_tup rfl (pgs_cons (pg_name (i := 3) nd rfl (Or.inl rfl)) (pgs_cons (pg_name (i := 4) nd rfl (Or.inl rfl)) pgs_nil)))
        (pss_one (ps_augS (pv 2) (pv 4) get_list pe_int ip_add set_list))) <|
      pss_cons (ps_setLc (i := 5) (own := [("place", 7)]) (g := gName 7) (tt := tTest (tOp rEq (tOp (rIxL K) (tVar 2) (tVar 7)) (tC (.int 0)))) (te := tVar 7) rfl nd rfl rfl (sw_true rfl rfl rfl (by decide +kernel))
          (pi_range1 (by rfl) Bb.range (pa_cons (pv 0) pa_nil)) (blkOk_by (N := nAlong) (sc := defScope sAlong) (own := [("place", 7)]) (by decide +kernel)) (fun _ _ _ _ _ => pg_name (i := 7) nd rfl (Or.inl rfl))
          (fun _ _ _ _ _ => pts_one (pt_cmpR op_eq (pe_ix ix_list (pv 2) (pv 7) (fun _ _ => rfl)) pe_int (nomark _))) (fun _ _ _ _ _ => pv 7)) <|
      pss_cons (ps_set (i := 6) nd rfl (Or.inl rfl) pe_int) <|
      pss_cons (ps_while PassesOwn.never (pt_cmpR op_lt (pv 6) (pe_callB call_len_seq (by rfl) Bb.len PySem.boot_len (pa_cons (pv 5) pa_nil)) (nomark _)) <|
        pss_cons (ps_for PassesOwn.never rfl (pi_list (pv 1)) (pg_tup rfl (pgs_cons (pg_name (i := 3) nd rfl (Or.inl rfl)) (pgs_cons (pg_name (i := 4) nd rfl (Or.inl rfl)) pgs_nil))) <|
          pss_one <| ps_if (pt_cmpR op_eq (pv 3) (pe_ix ix_list (pv 5) (pv 6) (fun _ _ => rfl)) (nomark _))
            (pss_cons (ps_augS (pv 2) (pv 4) get_list pe_int ip_sub set_list) <| pss_one <| ps_if (pt_cmpR op_eq (pe_ix ix_list (pv 2) (pv 4) (fun _ _ => rfl)) pe_int (nomark _))
              (pss_one (ps_expr (pe_bm PySem.F.plainAttrs_list PySem.F.slot_list_append PySem.F.type_list_append mt_append (pv 5) (pa_cons (pv 4) pa_nil)))) pss_nil) pss_nil) <|
        pss_one <| ps_aug (i := 6) nd rfl (Or.inl rfl) pe_int ip_add) <|
      pss_one <| ps_ret (pv 5), ?_⟩
    have hbl : bv.length ≤ 1000 := by
      rw [ba1.1]
      omega
    -- missing = [0] * many_gates
    refine ⟨(by show 1 ≤ sizeLine; decide), fun l0 hl0 => ?_⟩
    have sm2 : Same H (upd H l0 (.lst [.int 0])) := same_new hl0
    refine ⟨_, rfl, l0, _, _, rfl, rfl, upd_same, by omega, by omega, ?_, fun lm hlm => ?_⟩
    · show 1 * _ ≤ sizeLine
      have : 1 * ((n : Int)).toNat ≤ 1000 := by omega
      exact Nat.le_of_lt (small1000 this)
    rw [Int.toNat_natCast, fnL_zero n (mis (B.take 0) []) (fun e => by simp [mis])]
    have sm3 : Same H (upd (upd H l0 (.lst [.int 0])) lm (.lst (fnL n (mis (B.take 0) [])))) := sm2.trans (same_new hlm)
    have hm1 : H lm = none := sm2.free hlm
    -- for start, end in bare: missing[end] += 1
    refine ⟨_, rfl, lb, rfl, ⟨_, sm3.seq sb⟩, for_list (K := K) (a := lb) (xs := bv) (fun i σ H4 => ∃ s4 s5 : Option V, σ = [some (.int (n : Nat)), some (.ref lb), some (.ref lm), s4, s5, none, none, none] ∧
        H4 lm = some (.lst (fnL n (mis (B.take i) []))) ∧ Same H H4) ⟨_, _, rfl, upd_same, sm3⟩ (fun i σ H4 _ ⟨_, _, _, _, sm⟩ => sm.seq sb) ?_ ?_⟩
    · rintro i x σ H4 hx ⟨s4, s5, rfl, hml, sm4⟩
      obtain ⟨b, hbb, a, rfl, sq⟩ := ba1.get hx
      have hlt := hBlt b (List.mem_of_getElem? hbb)
      refine ⟨a, _, rfl, (TK.same sm4).seq sq, rfl, _, _, rfl, _, _, rfl, rfl, ?_⟩
      refine ⟨_, rfl, _, rfl, lm, _, b.2, _, rfl, rfl, SqL.of hml, fnL_get hlt.2, _, _, rfl, rfl, lm, _, _, b.2, rfl, rfl, hml, Evl.ixN_nat (by rw [fnL_len]; exact hlt.2), ?_⟩
      refine ⟨_, _, rfl, ?_, same_mut sm4 hm1⟩
      rw [upd_same]
      refine congrArg (fun z => some (HO.lst z)) (fnL_set hlt.2 ?_ ?_)
      · rw [mis_take hbb, if_pos rfl]
        show ((mis (B.take i) [] b.2 + 1 : Nat) : Int) = ((mis (B.take i) [] b.2 : Nat) : Int) + 1
        omega
      · intro j hj
        rw [mis_take hbb, if_neg (fun z => hj z.symm)]
        rfl
    · rintro σ H4 ⟨s4, s5, rfl, hml, sm4⟩
      rw [ba1.1, List.take_length] at hml
      -- placed = [gate for gate in range(many_gates) if missing[gate] == 0]
      refine ⟨_, rfl, _, rfl, by omega, by omega, fun lp hlp => ?_⟩
      refine lc_range (lo := 0) (n := ((n : Int)).toNat) (fun i Hc => Hc lp = some (.lst (((List.range i).filter fun e => mis B [] e == 0).map fun i => V.int (i : Nat))) ∧ Same H4 Hc) ⟨upd_same, same_new hlp⟩ ?_ ?_
      · rintro i Hc hi ⟨hc, sm⟩
        have hi' : i < n := by omega
        have hlen : (((List.range i).filter fun e => mis B [] e == 0).map fun i => V.int (i : Nat)).length ≤ 1000 := by
          rw [List.length_map]
          have := List.length_filter_le (fun e => mis B [] e == 0) (List.range i)
          rw [List.length_range] at this
          omega
        have e0 : (0 : Int) + (i : Int) = (i : Int) := Int.zero_add _
        rw [e0]
        refine ⟨rfl, ?_⟩
        refine ⟨_, rfl, _, rfl, lm, _, _, _, rfl, rfl, SqL.of (sm _ _ hml), atI_nat (fnL_get hi'), rfl, _, rfl, ite2 (fun e => ?_) (fun e => ?_)⟩
        · have hz : mis B [] i = 0 := by
            have := V.int.inj (of_decide_eq_true e)
            omega
          refine ⟨_, rfl, _, hc, Nat.lt_of_le_of_lt hlen (small1000 (Nat.le_refl _)), ?_, same_mut sm hlp⟩
          rw [upd_same, List.range_succ, List.filter_append, List.map_append, List.filter_cons, if_pos (by rw [hz]; rfl)]
          rfl
        · have hz : ¬ (mis B [] i == 0) = true := fun z => by
            apply e
            rw [beq_iff_eq] at z
            rw [z]
            rfl
          refine ⟨?_, sm⟩
          rw [List.range_succ, List.filter_append, List.filter_cons, if_neg hz, List.filter_nil, List.append_nil]
          exact hc
      · rintro H5 ⟨hp5, sm5⟩
        rw [Int.toNat_natCast] at hp5
        have k0 : KI B n ((List.range n).filter fun e => mis B [] e == 0) 0 := by
          refine ⟨List.nodup_range.sublist List.filter_sublist, fun e he => List.mem_range.mp (List.mem_filter.mp he).1, Nat.zero_le _, fun e he => ?_, fun j e hj b hb hbe => ?_⟩
          · rw [List.mem_filter, List.take_zero]
            simp [he]
          · have hm0 := (List.mem_filter.mp (List.mem_of_getElem? hj)).2
            rw [beq_iff_eq] at hm0
            have := mis_zero hm0 hb hbe
            simp at this
        -- the while
        have hp0 : H lp = none := sm4.free hlp
        refine ⟨fun m σ H6 => ∃ (placed : List Nat) (d : Nat) (s4 s5 : Option V), σ = [some (.int (n : Nat)), some (.ref lb), some (.ref lm), s4, s5, some (.ref lp), some (.int (d : Nat)), none] ∧
          KI B n placed d ∧ H6 lp = some (.lst (placed.map fun i => V.int (i : Nat))) ∧ H6 lm = some (.lst (fnL n (mis B (placed.take d)))) ∧ Same H H6 ∧ m = n - d, ?_, ?_⟩
        · have h5m := sm5 _ _ hml
          have e0 : mis B [] = mis B (((List.range n).filter fun e => mis B [] e == 0).take 0) := by rw [List.take_zero]
          rw [e0] at h5m
          exact ⟨n, _, 0, _, _, rfl, k0, hp5, h5m, sm4.trans sm5, rfl⟩
        · rintro m σ H6 ⟨placed, d, s4, s5, rfl, ki, hp6, hm6, sm6, rfl⟩
          have hp1 : H lp = none := sm4.free hlp
          have npm : lp ≠ lm := fun z => by
            rw [z, hml] at hlp
            cases hlp
          refine ⟨_, rfl, _, rfl, lp, _, rfl, .inl (SqL.of hp6), _, _, rfl, rfl, _, rfl, ite2 (fun e => ?_) (fun e => ?_)⟩
          · have hd : d < placed.length := by
              have e' : (d : Int) < ((placed.map fun i => V.int (i : Nat)).length : Int) := of_decide_eq_true e
              rw [List.length_map] at e'
              omega
            have hpl : ∀ placed : List Nat, placed.Nodup → (∀ e ∈ placed, e < n) → placed.length ≤ n := fun l hnd hlt => by
              have h1 : l.length = (l.filter fun e => decide (e < n)).length := by
                rw [List.filter_eq_self.mpr]
                intro a ha
                exact decide_eq_true (hlt a ha)
              have h2 := List.Nodup.length_le_of_subset hnd (l₂ := List.range n) (fun a ha => List.mem_range.mpr (hlt a ha))
              rw [List.length_range] at h2
              exact h2
            have hdn := hpl placed ki.nd ki.lt
            have hg : placed[d]? = some placed[d] := List.getElem?_eq_getElem hd
            refine ⟨fun σ H7 => ∃ (placed : List Nat) (s4 s5 : Option V), σ = [some (.int (n : Nat)), some (.ref lb), some (.ref lm), s4, s5, some (.ref lp), some (.int ((d : Nat) + 1)), none] ∧
              KI B n placed (d + 1) ∧ H7 lp = some (.lst (placed.map fun i => V.int (i : Nat))) ∧ H7 lm = some (.lst (fnL n (mis B (placed.take (d + 1))))) ∧ Same H H7, ?_, ?_⟩
            · rintro σ' H' ⟨placed', t4, t5, rfl, ki', hp', hm', sm'⟩
              exact ⟨n - (d + 1), by omega, placed', d + 1, t4, t5, rfl, ki', hp', hm', sm', rfl⟩
            · have e1 : mis B (placed.take d) = fun e => mis B (placed.take (d + 1)) e + frm (B.drop 0) placed[d] e := funext fun e => by
                rw [take_add hg, List.drop_zero]
                exact mis_split (nodup_take ki.nd hg) e
              rw [e1] at hm6
              generalize placed[d] = g at hg hm6
              refine ⟨_, rfl, lb, rfl, ⟨_, sm6.seq sb⟩, for_list (K := K) (a := lb) (xs := bv) (fun j σ H7 => ∃ (placed : List Nat) (s4 s5 : Option V), σ = [some (.int (n : Nat)), some (.ref lb), some (.ref lm), s4, s5, some (.ref lp), some (.int (d : Nat)), none] ∧
                  KJ B n placed d g j ∧ H7 lp = some (.lst (placed.map fun i => V.int (i : Nat))) ∧ H7 lm = some (.lst (fnL n fun e => mis B (placed.take (d + 1)) e + frm (B.drop j) g e)) ∧ Same H H7)
                ⟨placed, _, _, rfl, ki.go hg, hp6, hm6, sm6⟩ (fun i σ H4 _ ⟨_, _, _, _, _, _, _, sm⟩ => sm.seq sb) ?_ ?_⟩
              · rintro j x σ H7 hx ⟨placed, s4, s5, rfl, kj, hp7, hm7, sm7⟩
                obtain ⟨b, hbb, a, rfl, sq⟩ := ba1.get hx
                have hlt := hBlt b (List.mem_of_getElem? hbb)
                refine ⟨a, _, rfl, (TK.same sm7).seq sq, rfl, _, _, rfl, _, _, rfl, rfl, ?_⟩
                refine ⟨_, rfl, _, rfl, _, rfl, lp, _, _, _, rfl, rfl, SqL.of hp7, atI_nat (j := d) (by rw [List.getElem?_map, kj.at_]; rfl), rfl, _, rfl, ite2 (fun e => ?_) (fun e => ?_)⟩
                · have hbg : b.1 = g := by
                    have := V.int.inj (of_decide_eq_true e)
                    omega
                  have hfd : ∀ e, frm (B.drop j) g e = frm (B.drop (j + 1)) g e + if b.1 = g ∧ b.2 = e then 1 else 0 := fun e => frm_drop hbb g e
                  refine ⟨_, rfl, _, rfl, lm, _, b.2, _, rfl, rfl, SqL.of hm7, fnL_get hlt.2, _, _, rfl, rfl, lm, _, _, b.2, rfl, rfl, hm7, Evl.ixN_nat (by rw [fnL_len]; exact hlt.2), ?_⟩
                  have e2 : (fnL n fun e => mis B (placed.take (d + 1)) e + frm (B.drop j) g e).set b.2 (V.int (((mis B (placed.take (d + 1)) b.2 + frm (B.drop j) g b.2 : Nat) : Int) - 1)) = fnL n fun e => mis B (placed.take (d + 1)) e + frm (B.drop (j + 1)) g e := by
                    refine fnL_set hlt.2 ?_ ?_
                    · rw [hfd, if_pos ⟨hbg, rfl⟩]
                      omega
                    · intro i hi
                      rw [hfd, if_neg (fun z => hi z.2.symm)]
                      rfl
                  have hm8 : (upd H7 lm (.lst (fnL n fun e => mis B (placed.take (d + 1)) e + frm (B.drop (j + 1)) g e))) lm = some (.lst (fnL n fun e => mis B (placed.take (d + 1)) e + frm (B.drop (j + 1)) g e)) := upd_same
                  rw [← e2] at hm8
                  have hp8 : (upd H7 lm (.lst ((fnL n fun e => mis B (placed.take (d + 1)) e + frm (B.drop j) g e).set b.2 (V.int (((mis B (placed.take (d + 1)) b.2 + frm (B.drop j) g b.2 : Nat) : Int) - 1))))) lp = some (.lst (placed.map fun i => V.int (i : Nat))) := by
                    rw [upd_ne npm]
                    exact hp7
                  have sm8 := same_mut (p := lm) (o := .lst ((fnL n fun e => mis B (placed.take (d + 1)) e + frm (B.drop j) g e).set b.2 (V.int (((mis B (placed.take (d + 1)) b.2 + frm (B.drop j) g b.2 : Nat) : Int) - 1)))) sm7 hm1
                  have hg8 : ((fnL n fun e => mis B (placed.take (d + 1)) e + frm (B.drop j) g e).set b.2 (V.int (((mis B (placed.take (d + 1)) b.2 + frm (B.drop j) g b.2 : Nat) : Int) - 1)))[b.2]? = some (V.int ((mis B (placed.take (d + 1)) b.2 + frm (B.drop (j + 1)) g b.2 : Nat) : Int)) := by
                    rw [e2]
                    exact fnL_get hlt.2
                  have hm9 := hm8
                  rw [e2] at hm9
                  refine ⟨_, rfl, _, rfl, lm, _, _, _, rfl, rfl, SqL.of upd_same, atI_nat hg8, rfl, _, rfl, ite2 (fun e3 => ?_) (fun e3 => ?_)⟩
                  · have hz : mis B (placed.take (d + 1)) b.2 + frm (B.drop (j + 1)) g b.2 = 0 := by
                      have := V.int.inj (of_decide_eq_true e3)
                      omega
                    have hlp1 := hpl placed kj.nd kj.lt
                    have hdl : d < placed.length := (List.getElem?_eq_some_iff.mp kj.at_).1
                    refine ⟨_, rfl, .inl ⟨rfl, _, SqL.of hp8⟩, _, rfl, lp, _, _, rfl, rfl, hp8, by rw [List.length_map]; exact small1000 (by omega), ?_⟩
                    refine ⟨placed ++ [b.2], _, _, rfl, kj.put hbb hbg hlt.2 hz, ?_, ?_, same_mut sm8 hp1⟩
                    · rw [upd_same, List.map_append]
                      rfl
                    · rw [upd_ne npm.symm, List.take_append_of_le_length (by omega), ← e2]
                      exact upd_same
                  · have hz : mis B (placed.take (d + 1)) b.2 + frm (B.drop (j + 1)) g b.2 ≠ 0 := fun z => by
                      apply e3
                      rw [z]
                      rfl
                    refine ⟨placed, _, _, rfl, kj.not hbb hbg hz, hp8, ?_, sm8⟩
                    rw [← e2]
                    exact upd_same
                · have hbg : b.1 ≠ g := fun z => by
                    apply e
                    rw [z]
                    exact decide_eq_true rfl
                  refine ⟨placed, _, _, rfl, kj.skip hbb hbg, hp7, ?_, sm7⟩
                  have : (fun e => mis B (placed.take (d + 1)) e + frm (B.drop (j + 1)) g e) = fun e => mis B (placed.take (d + 1)) e + frm (B.drop j) g e := funext fun e => by
                    rw [frm_drop hbb, if_neg (fun z => hbg z.1)]
                    rfl
                  rw [this]
                  exact hm7
              · rintro σ H7 ⟨placed, s4, s5, rfl, kj, hp7, hm7, sm7⟩
                rw [ba1.1] at kj hm7
                refine ⟨_, rfl, _, _, rfl, rfl, placed, _, _, rfl, kj.done, hp7, ?_, sm7⟩
                rw [List.drop_length] at hm7
                exact hm7
          · have hd : d = placed.length := by
              have e' : ¬ (d : Int) < ((placed.map fun i => V.int (i : Nat)).length : Int) := fun z => e (decide_eq_true z)
              rw [List.length_map] at e'
              have := ki.le
              omega
            subst hd
            exact ⟨_, rfl, q placed lp H6 ki sm6 hp0 hp6⟩
abbrev DOrder (P : Program) (w : World) (K : PySem.W.Frag) (mg : Str → Option Value) (base : Heap) := Df P w K mg base 2 "bare_order" ["many_gates", "wires"] (spOrder K)
theorem ok_order {f fA : Addr} {fd fdA : FuncData} (F : Fun K "bare_order" "bare_order" sOrder f fd) (hm : mg "bare_order" = some (.ref f)) (B : Bt mg) (DA : DAlong P w K mg base fA fdA) : DOrder P w K mg base f fd := by
  refine ⟨?_, hm, F.kp, F.binds fun _ _ _ _ _ _ us hl => match us, hl with | [_, _], _ => rfl⟩
  refine F.ok scOrder (fun vs H Q E h => ?_) (fun cdv A outer s H vs Q E hr h => ?_)
  · obtain ⟨n, lw, ws, rfl, _⟩ := h
    rfl
  · obtain ⟨n, lw, ws, rfl, ⟨wv, sw, wa⟩, hws, hn, hwl, q⟩ := h
    have nd := scOrder.nd
    refine ⟨_, pss_one <| ps_ret <| pe_call DA.ok hr (by rfl) DA.mg DA.kp DA.bd .nil pass0 <| pa_cons (pv 0) <| (pa_cons · pa_nil) <|
      pe_lc (own := [("start", 2), ("end", 3), ("held", 4)]) (g := gTup K 3 (gCons (gName 2) (gCons (gName 3) (gCons (gName 4) gNil)))) (tt := tTest (tOp rEq (tCB (Evl.rLenS K) (tCons (tVar 4) tNil)) (tC (.int 0)))) (te := tTup (tCons (tVar 2) (tCons (tVar 3) tNil))) rfl nd
        (pi_list (pv 1)) (blkOk_by (N := nOrder) (sc := defScope sOrder) (own := [("start", 2), ("end", 3), ("held", 4)]) (by decide +kernel))
        (fun _ _ _ _ _ => pg_tup rfl (pgs_cons (pg_name (i := 2) nd rfl (Or.inl rfl)) (pgs_cons (pg_name (i := 3) nd rfl (Or.inl rfl)) (pgs_cons (pg_name (i := 4) nd rfl (Or.inl rfl)) pgs_nil))))
        (fun _ _ _ _ _ => pts_one (pt_cmpR op_eq (pe_callB call_len_seq (by rfl) B.len PySem.boot_len (pa_cons (pv 4) pa_nil)) pe_int (nomark _)))
        (fun _ _ _ _ _ => pe_tup (pa_cons (pv 2) (pa_cons (pv 3) pa_nil))), ?_⟩
    have hlw : wv.length = ws.length := wa.1
    -- bare = [..]
    refine ⟨_, rfl, _, rfl, lw, rfl, ⟨_, sw⟩, fun lb hlb => ?_⟩
    refine lc_list (K := K) (a := lw) (xs := wv) (fun i Hc => ∃ bv, Hc lb = some (.lst bv) ∧ All2 (PairV K Hc) bv (bare (ws.take i)) ∧ Same H Hc) ⟨[], upd_same, by simpa [bare] using All2.nil, same_new hlb⟩ (fun i Hc _ ⟨_, _, _, sm⟩ => sm.seq sw) ?_ ?_
    · rintro i x Hc hx ⟨bv, hb, ba, sm⟩
      obtain ⟨y, hy, a, b, rfl, sq1, sq2⟩ := wa.get hx
      have hyi : i < ws.length := (List.getElem?_eq_some_iff.mp hy).1
      have t := TK.same sm
      have hbl : bv.length ≤ 1000 := by
        rw [ba.1]
        have := bare_len (ws.take i)
        rw [List.length_take] at this
        omega
      refine ⟨a, _, rfl, t.seq sq1, rfl, _, _, rfl, _, _, rfl, _, _, rfl, rfl, rfl, ?_⟩
      refine ⟨_, rfl, b, _, rfl, .inr (t.seq sq2), rfl, _, rfl, ite2 (fun e => ?_) (fun e => ?_)⟩
      · have he : y.2.2.isEmpty = true := by
          have e' : (((y.2.2.map V.int).length : Nat) : Int) = 0 := V.int.inj (of_decide_eq_true e)
          rw [List.length_map] at e'
          rw [List.isEmpty_iff, ← List.length_eq_zero_iff]
          omega
        refine ⟨_, rfl, _, rfl, (by show 2 ≤ sizeLine; decide), fun p hp => ?_⟩
        have smp : Same Hc (upd Hc p (.tup [.int (y.1 : Nat), .int (y.2.1 : Nat)])) := same_new hp
        have npb : p ≠ lb := fun z => by
          rw [z, hb] at hp
          cases hp
        have t2 : TK Hc (upd (upd Hc p (.tup [.int (y.1 : Nat), .int (y.2.1 : Nat)])) lb (.lst (bv ++ [.ref p]))) := (TK.new hp).trans (TK.lst (smp _ _ hb))
        refine ⟨bv, smp _ _ hb, Nat.lt_of_le_of_lt hbl (small1000 (Nat.le_refl _)), bv ++ [.ref p], upd_same, ?_, same_mut (sm.trans smp) hlb⟩
        rw [bare_take hy, if_pos he]
        exact (ba.imp fun _ _ r => r.tk t2).snoc ⟨p, rfl, .inl (.inl (by rw [upd_ne npb]; exact upd_same))⟩
      · have he : ¬ y.2.2.isEmpty = true := fun z => by
          apply e
          rw [List.isEmpty_iff] at z
          rw [z]
          rfl
        exact ⟨bv, hb, by rw [bare_take hy, if_neg he]; exact ba, sm⟩
    · rintro H1 ⟨bv, hb1, ba1, sm1⟩
      rw [hlw, List.take_length] at ba1
      have hbl : bv.length ≤ 1000 := by
        rw [ba1.1]
        have := bare_len ws
        omega
      have hBlt : ∀ b ∈ bare ws, b.1 < n ∧ b.2 < n := by
        intro b hb
        obtain ⟨x, hx, rfl⟩ := List.mem_map.mp hb
        rw [List.mem_filter] at hx
        exact hws x hx.1
      exact ⟨n, lb, bv, bare ws, rfl, SqL.of hb1, ba1, hBlt, hn, by have := bare_len ws; omega, fun ord p H2 ki s2 hp h2 => q ord p H2 ki (sm1.trans s2) (sm1.free hp) h2⟩
end
end Lag

set_option maxRecDepth 100000
set_option maxHeartbeats 4000000
namespace Lag
open PySem PySem.Spec PyProof.Rows L2
abbrev sChkRings : Stmt := topS 31
abbrev sInit : Stmt := inClass (topS 23) 0
abbrev sEq : Stmt := inClass (topS 23) 1
abbrev sIns : Stmt := inClass (topS 23) 2
abbrev sOuts : Stmt := inClass (topS 23) 3
abbrev sPlaces : Stmt := topS 24
def spChkRings (K : PySem.W.Frag) : Sp := fun vs H Q _ => ∃ (n : Nat) (lw : Addr) (ws : List Wr), vs = [.int (n : Nat), .ref lw] ∧ RW K H lw ws ∧ (∀ x ∈ ws, x.1 < n ∧ x.2.1 < n) ∧ n ≤ 1000 ∧ ws.length ≤ 1000 ∧
  (∃ ρ : Nat → Nat, ∀ x ∈ ws, x.2.2 = [] → ρ x.1 < ρ x.2.1) ∧ ∀ H', Same H H' → Q .non H'
/-! ### a net's object -/
def nf (lg lw : Addr) : List (Str × V) := putF "wires" (.ref lw) (putF "gates" (.ref lg) [])
theorem gw_ne : ¬ (("gates" : Str) = "wires") := by decide +kernel
theorem nf_eq (lg lw : Addr) : nf lg lw = ([("gates", V.ref lg), ("wires", V.ref lw)] : List (Str × V)) := by
  show (if ("gates" : Str) = "wires" then [(("gates" : Str), V.ref lw)] else (("gates" : Str), V.ref lg) :: putF "wires" (V.ref lw) []) = ([("gates", V.ref lg), ("wires", V.ref lw)] : List (Str × V))
  rw [if_neg gw_ne]
  all_goals rfl
theorem nf_gates (lg lw : Addr) : (nf lg lw).lookup ("gates" : Str) = some (.ref lg) := by
  unfold nf
  rw [lookup_putF, if_neg gw_ne, lookup_putF, if_pos rfl]
theorem nf_wires (lg lw : Addr) : (nf lg lw).lookup ("wires" : Str) = some (.ref lw) := by
  unfold nf
  rw [lookup_putF, if_pos rfl]
theorem nf_no (lg lw : Addr) {m : Str} (h1 : ¬ m = "wires") (h2 : ¬ m = "gates") : (nf lg lw).lookup m = none := by
  unfold nf
  rw [lookup_putF, if_neg h1, lookup_putF, if_neg h2]
  all_goals rfl
/-- the class as the top has made it -/
structure NT (K : PySem.W.Frag) (mg : Str → Option Value) (C : Addr) : Prop where
  cl : Cls K C
  nG : NoAttr K C "gates"
  nW : NoAttr K C "wires"
  mg : mg "Net" = some (.ref C)
/-- a net at p: its own lists at lg, lw -/
structure NetAt (K : PySem.W.Frag) (C : Addr) (H : Hp) (p lg lw : Addr) (gs : List Gt) (ws : List Wr) : Prop where
  ob : ∃ dx, H p = some (.ins C dx (nf lg lw))
  g : LG K H lg gs
  w : LW K H lw ws
  ne : lg ≠ lw
theorem LG.same {K : PySem.W.Frag} {H H' : Hp} {l : Addr} {gs : List Gt} (h : LG K H l gs) (s : Same H H') : LG K H' l gs := by
  obtain ⟨vs, q, a⟩ := h
  exact ⟨vs, s _ _ q, a.imp fun _ _ r => r.tk (TK.same s)⟩
theorem LW.same {K : PySem.W.Frag} {H H' : Hp} {l : Addr} {ws : List Wr} (h : LW K H l ws) (s : Same H H') : LW K H' l ws := by
  obtain ⟨vs, q, a⟩ := h
  exact ⟨vs, s _ _ q, a.imp fun _ _ r => r.tk (TK.same s)⟩
theorem LG.rg {K : PySem.W.Frag} {H : Hp} {l : Addr} {gs : List Gt} (h : LG K H l gs) : RG K H l gs := by
  obtain ⟨vs, q, a⟩ := h
  exact ⟨vs, SqL.of q, a⟩
theorem LW.rw {K : PySem.W.Frag} {H : Hp} {l : Addr} {ws : List Wr} (h : LW K H l ws) : RW K H l ws := by
  obtain ⟨vs, q, a⟩ := h
  exact ⟨vs, SqL.of q, a⟩
theorem NetAt.same {K : PySem.W.Frag} {C : Addr} {H H' : Hp} {p lg lw : Addr} {gs : List Gt} {ws : List Wr} (n : NetAt K C H p lg lw gs ws) (s : Same H H') : NetAt K C H' p lg lw gs ws := by
  obtain ⟨dx, h⟩ := n.ob
  exact ⟨⟨dx, s _ _ h⟩, n.g.same s, n.w.same s, n.ne⟩
def spInit (K : PySem.W.Frag) (C : Addr) : Sp := fun vs H Q _ => ∃ (p dx lg lw : Addr) (gs : List Gt) (ws : List Wr), vs = [.ref p, .ref lg, .ref lw] ∧ H p = some (.ins C dx []) ∧ RG K H lg gs ∧ RW K H lw ws ∧ NetOk gs ws ∧
  ∀ (H' : Hp) (lg' lw' : Addr), NetAt K C H' p lg' lw' gs ws → H lg' = none → H lw' = none → (∀ b o, H b = some o → b ≠ p → H' b = some o) → Q .non H'
/-- the places of a kind, rising -/
def plc (gs : List Gt) (k : Str) (n : Nat) : List Nat := (List.range n).filter fun i => decide (kindAt gs i = k)
def spPlaces (K : PySem.W.Frag) : Sp := fun vs H Q _ => ∃ (k : Str) (lg : Addr) (gs : List Gt), vs = [.str k, .ref lg] ∧ RG K H lg gs ∧ gs.length ≤ 1000 ∧
  ∀ p H', H p = none → Same H H' → H' p = some (.lst ((plc gs k gs.length).map fun i => V.int (i : Nat))) → Q (.ref p) H'
def spPorts (K : PySem.W.Frag) (C : Addr) (k : Str) : Sp := fun vs H Q _ => ∃ (p lg lw : Addr) (gs : List Gt) (ws : List Wr), vs = [.ref p] ∧ NetAt K C H p lg lw gs ws ∧ gs.length ≤ 1000 ∧
  ∀ l H', H l = none → Same H H' → H' l = some (.lst ((plc gs k gs.length).map fun i => V.int (i : Nat))) → Q (.ref l) H'
section
variable {P : Program} {w : World} {K : PySem.W.Frag} {mg : Str → Option Value} {base : Heap}
theorem scChkRings : FnScope ["many_gates", "wires", "placed"] ["many_gates", "wires"] (defScope sChkRings) := ⟨rfl, rfl, rfl, by decide +kernel, rfl, by decide +kernel, by decide +kernel⟩
abbrev DChkRings (P : Program) (w : World) (K : PySem.W.Frag) (mg : Str → Option Value) (base : Heap) := Df P w K mg base 3 "check_rings" ["many_gates", "wires"] (spChkRings K)
theorem ok_chkRings {f fO : Addr} {fd fdO : FuncData} (F : Fun K "check_rings" "check_rings" sChkRings f fd) (hm : mg "check_rings" = some (.ref f)) (B : Bt mg) (DO : DOrder P w K mg base fO fdO) : DChkRings P w K mg base f fd := by
  refine ⟨?_, hm, F.kp, F.binds fun _ _ _ _ _ _ us hl => match us, hl with | [_, _], _ => rfl⟩
  refine F.ok scChkRings (fun vs H Q E h => ?_) (fun cdv A outer s H vs Q E hr h => ?_)
  · obtain ⟨n, lw, ws, rfl, _⟩ := h
    rfl
  · obtain ⟨n, lw, ws, rfl, R, hws, hn, hwl, rk, q⟩ := h
    have nd := scChkRings.nd
    refine ⟨_, pss_cons (ps_set (i := 2) nd rfl (Or.inl rfl) (pe_call DO.ok hr (by rfl) DO.mg DO.kp DO.bd .nil pass0 (pa_cons (pv 0) (pa_cons (pv 1) pa_nil)))) <|
      pss_one <| ps_if (pt_cmpR op_lt (pe_callB call_len_seq (by rfl) B.len PySem.boot_len (pa_cons (pv 2) pa_nil)) (pv 0) (nomark _)) (pss_one ps_never) pss_nil, ?_⟩
    refine ⟨_, rfl, _, rfl, n, lw, ws, rfl, R, hws, hn, hwl, fun ord p H1 ho sm hp h1 => ?_⟩
    have hpl : ord.length = n := by rw [(ho.full hws rk).length_eq, List.length_range]
    refine ⟨_, rfl, p, _, rfl, .inl (SqL.of h1), _, rfl, _, _, rfl, rfl, false, ?_, iteF (q H1 sm)⟩
    show V.bl (decide (((ord.map fun i => V.int (i : Nat)).length : Int) < (n : Int))) = V.bl false
    rw [decide_eq_false]
    rw [List.length_map, hpl]
    omega
theorem scInit : FnScope ["self", "gates", "wires"] ["self", "gates", "wires"] (defScope sInit) := ⟨rfl, rfl, rfl, by decide +kernel, rfl, by decide +kernel, by decide +kernel⟩
theorem ok_init {f fG fW fR C : Addr} {fd fdG fdW fdR : FuncData} (F : Fun K "__init__" "Net.__init__" sInit f fd) (T : NT K mg C) (B : Bt mg) (DG : DChkGates P w K mg base fG fdG) (DW : DChkWires P w K mg base fW fdW) (DR : DChkRings P w K mg base fR fdR) :
    FnOk P w K mg base CX0 6 f fd ["self", "gates", "wires"] (spInit K C) := by
  refine F.ok scInit (fun vs H Q E h => ?_) (fun cdv A outer s H vs Q E hr h => ?_)
  · obtain ⟨p, dx, lg, lw, gs, ws, rfl, _⟩ := h
    rfl
  · obtain ⟨p, dx, lg, lw, gs, ws, rfl, hp, RGs, RWs, N, q⟩ := h
    have hr4 : Room 4 _ := hr.mono (by decide)
    have hr2 : Room 3 _ := hr.mono (by decide)
    refine ⟨_, pss_cons (ps_expr (pe_call DG.ok hr4 (by rfl) DG.mg DG.kp DG.bd .nil pass0 (pa_cons (pv 1) pa_nil))) <|
      pss_cons (ps_expr (pe_call DW.ok hr (by rfl) DW.mg DW.kp DW.bd .nil pass0 (pa_cons (pv 1) (pa_cons (pv 2) pa_nil)))) <|
      pss_cons (ps_expr (pe_call DR.ok hr2 (by rfl) DR.mg DR.kp DR.bd .nil pass0 (pa_cons (pe_callB call_len_seq (by rfl) B.len PySem.boot_len (pa_cons (pv 1) pa_nil)) (pa_cons (pv 2) pa_nil)))) <|
      pss_cons (ps_fld (pv 0) (pe_callTy call_list_of (by rfl) B.list (by decide +kernel) (pa_cons (pv 1) pa_nil)) rfl) <|
      pss_one (ps_fld (pv 0) (pe_callTy call_list_of (by rfl) B.list (by decide +kernel) (pa_cons (pv 2) pa_nil)) rfl), ?_⟩
    refine ⟨_, rfl, lg, gs, rfl, RGs, N.ne, N.gok, fun H1 sm1 => ?_⟩
    refine ⟨_, rfl, _, rfl, lg, lw, gs, ws, rfl, RGs.same sm1, RWs.same sm1, N, fun H2 sm2 => ?_⟩
    have s2 := sm1.trans sm2
    obtain ⟨gv, sg, ga⟩ := RGs.same s2
    have hlg : gv.length = gs.length := ga.1
    refine ⟨_, rfl, lg, gv, rfl, .inl sg, _, rfl, gv.length, lw, ws, rfl, RWs.same s2, fun x hx => ?_, by have := N.gl; omega, N.wl, N.rank, fun H3 sm3 => ?_⟩
    · rw [hlg]
      exact ⟨(N.wok x hx).s, (N.wok x hx).e⟩
    have s3 := s2.trans sm3
    obtain ⟨gv3, sg3, ga3⟩ := RGs.same s3
    obtain ⟨wv3, sw3, wa3⟩ := RWs.same s3
    have hp3 := s3 _ _ hp
    refine ⟨_, rfl, lg, gv3, rfl, .inl sg3, fun l1 hl1 => ?_⟩
    have np1 : p ≠ l1 := ne_of_none hp3 hl1
    have sm4 : Same H3 (upd H3 l1 (.lst gv3)) := same_new hl1
    refine ⟨_, rfl, p, C, dx, [], rfl, sm4 _ _ hp3, T.cl, T.nG, (by show 0 < 1000; decide), ?_⟩
    have hw4 : SqL K (upd (upd H3 l1 (.lst gv3)) p (.ins C dx (putF "gates" (.ref l1) []))) lw wv3 := by
      rcases sm4.seq sw3 with (h | ⟨o, h⟩) | h
      · have n : lw ≠ p := fun z => by
          rw [z, sm4 _ _ hp3] at h
          cases h
        exact .inl (.inl (by rw [upd_ne n]; exact h))
      · have n : lw ≠ p := fun z => by
          rw [z, sm4 _ _ hp3] at h
          cases h
        exact .inl (.inr ⟨o, by rw [upd_ne n]; exact h⟩)
      · exact .inr h
    refine ⟨_, rfl, lw, wv3, rfl, .inl hw4, fun l2 hl2 => ?_⟩
    have np2 : p ≠ l2 := fun z => by
      rw [← z, upd_same] at hl2
      cases hl2
    have h11 : (upd (upd H3 l1 (.lst gv3)) p (.ins C dx (putF "gates" (.ref l1) []))) l1 = some (.lst gv3) := by
      rw [upd_ne np1.symm]
      exact upd_same
    have n12 : l1 ≠ l2 := ne_of_none h11 hl2
    have hl2' : H3 l2 = none := by
      rw [upd_ne np2.symm, upd_ne n12.symm] at hl2
      exact hl2
    refine ⟨_, rfl, p, C, dx, _, rfl, (by rw [upd_ne np2]; exact upd_same), T.cl, T.nW, (by show 1 < 1000; decide), ?_⟩
    have keep : ∀ b o, b ≠ p → H3 b = some o → (upd (upd (upd (upd H3 l1 (.lst gv3)) p (.ins C dx (putF "gates" (.ref l1) []))) l2 (.lst wv3)) p (.ins C dx (putF "wires" (.ref l2) (putF "gates" (.ref l1) [])))) b = some o := fun b o nb e => by
      rw [upd_ne nb, upd_ne (ne_of_none e hl2'), upd_ne nb, upd_ne (ne_of_none e hl1)]
      exact e
    have tk : TK H3 (upd (upd (upd (upd H3 l1 (.lst gv3)) p (.ins C dx (putF "gates" (.ref l1) []))) l2 (.lst wv3)) p (.ins C dx (putF "wires" (.ref l2) (putF "gates" (.ref l1) [])))) := fun b o t e => keep b o (fun z => by
      rw [z, hp3] at e
      cases e
      exact t) e
    refine q _ l1 l2 ⟨⟨dx, upd_same⟩, ⟨gv3, ?_, ga3.imp fun _ _ r => r.tk tk⟩, ⟨wv3, ?_, wa3.imp fun _ _ r => r.tk tk⟩, n12⟩ (s3.free hl1) (s3.free hl2') fun b o e nb => keep b o nb (s3 _ _ e)
    · rw [upd_ne np1.symm, upd_ne n12, upd_ne np1.symm]
      exact upd_same
    · rw [upd_ne np2.symm]
      exact upd_same
/-! ### places_of, ins, outs -/
abbrev nPlaces : List Str := ["kind", "gates", "number", "gate"]
theorem scPlaces : FnScope nPlaces ["kind", "gates"] (defScope sPlaces) := ⟨rfl, rfl, rfl, by decide +kernel, rfl, by decide +kernel, by decide +kernel⟩
abbrev DPlaces (P : Program) (w : World) (K : PySem.W.Frag) (mg : Str → Option Value) (base : Heap) := Df P w K mg base 1 "places_of" ["kind", "gates"] (spPlaces K)
theorem plc_succ {gs : List Gt} {k : Str} {i : Nat} : plc gs k (i + 1) = if kindAt gs i = k then plc gs k i ++ [i] else plc gs k i := by
  unfold plc
  rw [List.range_succ, List.filter_append, List.filter_cons]
  by_cases h : kindAt gs i = k
  · rw [if_pos h, if_pos (decide_eq_true h)]
    rfl
  · rw [if_neg h, if_neg (by simp [h]), List.filter_nil, List.append_nil]
theorem plc_len (gs : List Gt) (k : Str) (n : Nat) : (plc gs k n).length ≤ n := by
  unfold plc
  have := List.length_filter_le (fun i => decide (kindAt gs i = k)) (List.range n)
  rw [List.length_range] at this
  exact this
theorem ok_places {f : Addr} {fd : FuncData} (F : Fun K "places_of" "places_of" sPlaces f fd) (hm : mg "places_of" = some (.ref f)) (B : Bt mg) : DPlaces P w K mg base f fd := by
  refine ⟨?_, hm, F.kp, F.binds fun _ _ _ _ _ _ us hl => match us, hl with | [_, _], _ => rfl⟩
  refine F.ok scPlaces (fun vs H Q E h => ?_) (fun cdv A outer s H vs Q E hr h => ?_)
  · obtain ⟨k, lg, gs, rfl, _⟩ := h
    rfl
  · obtain ⟨k, lg, gs, rfl, ⟨gv, sg, ga⟩, hl, q⟩ := h
    have nd := scPlaces.nd
    refine ⟨_, pss_one <| ps_ret <| pe_lc (own := [("number", 2), ("gate", 3)]) (g := gTup K 2 (gCons (gName 2) (gCons (gName 3) gNil))) (tt := tTest (tOp rEq (tOp (rIxT K) (tVar 3) (tC (.int 0))) (tVar 0))) (te := tVar 2) rfl nd
      (pi_enum (by rfl) B.enum (pa_cons (pv 1) pa_nil)) (blkOk_by (N := nPlaces) (sc := defScope sPlaces) (own := [("number", 2), ("gate", 3)]) (by decide +kernel))
      (fun _ _ _ _ _ => pg_tup rfl (pgs_cons (pg_name (i := 2) nd rfl (Or.inl rfl)) (pgs_cons (pg_name (i := 3) nd rfl (Or.inl rfl)) pgs_nil)))
      (fun _ _ _ _ _ => pts_one (pt_cmpR op_eq (pe_ix ix_tup (pv 3) pe_int (fun _ _ => rfl)) (pv 0) (nomark _))) (fun _ _ _ _ _ => pv 2), ?_⟩
    have hlg : gv.length = gs.length := ga.1
    refine ⟨_, rfl, lg, gv, rfl, sg, fun D hD => ?_⟩
    refine lc_it (walk_enum (K := K) (a := lg) (xs := gv)) (fun i Hc => Hc D = some (.lst ((plc gs k i).map fun i => V.int (i : Nat))) ∧ Same H Hc) ⟨upd_same, same_new hD⟩ (fun i Hc _ ⟨_, sm⟩ => sm.seq sg) ?_ ?_
    · rintro i x Hc Hc' hi ⟨hc, sm⟩ ⟨T, x1, y, rfl, hT, rfl, ex, ey⟩
      cases ex
      obtain ⟨g, hg, a, rfl, sq⟩ := ga.get ey
      have smT : Same Hc (upd Hc T (.tup [.int (i : Nat), .ref a])) := same_new hT
      have hlen : ((plc gs k i).map fun i => V.int (i : Nat)).length ≤ 1000 := by
        rw [List.length_map]
        have := plc_len gs k i
        omega
      refine ⟨T, _, rfl, .inl (.inl upd_same), rfl, _, _, rfl, _, _, rfl, rfl, rfl, ?_⟩
      refine ⟨_, rfl, a, _, 0, _, rfl, rfl, (TK.same (sm.trans smT)).seq sq, atI_nat (j := 0) rfl, _, rfl, rfl, _, rfl, ite2 (fun e => ?_) (fun e => ?_)⟩
      · have hk : kindAt gs i = k := by
          rw [kindAt_get hg]
          exact V.str.inj (of_decide_eq_true e)
        refine ⟨_, rfl, _, smT _ _ hc, Nat.lt_of_le_of_lt hlen (small1000 (Nat.le_refl _)), ?_, same_mut (sm.trans smT) hD⟩
        rw [upd_same, plc_succ, if_pos hk, List.map_append]
        rfl
      · have hk : ¬ kindAt gs i = k := fun z => e (decide_eq_true (by rw [← z, kindAt_get hg]))
        refine ⟨?_, sm.trans smT⟩
        rw [plc_succ, if_neg hk]
        exact smT _ _ hc
    · rintro Hc ⟨hc, sm⟩
      rw [hlg] at hc
      exact q D Hc hD sm hc
theorem scIns : FnScope ["self"] ["self"] (defScope sIns) := ⟨rfl, rfl, rfl, by decide +kernel, rfl, by decide +kernel, by decide +kernel⟩
theorem ok_ins {f fP C : Addr} {fd fdP : FuncData} (F : Fun K "ins" "Net.ins" sIns f fd) (T : NT K mg C) (DP : DPlaces P w K mg base fP fdP) : FnOk P w K mg base CX0 2 f fd ["self"] (spPorts K C "in") := by
  refine F.ok scIns (fun vs H Q E h => ?_) (fun cdv A outer s H vs Q E hr h => ?_)
  · obtain ⟨p, lg, lw, gs, ws, rfl, _⟩ := h
    rfl
  · obtain ⟨p, lg, lw, gs, ws, rfl, N, hl, q⟩ := h
    obtain ⟨dx, hp⟩ := N.ob
    refine ⟨_, pss_one <| ps_ret <| pe_call DP.ok hr (by rfl) DP.mg DP.kp DP.bd .nil pass0 <| pa_cons pe_str <| pa_cons (pe_fld (pv 0) rfl) pa_nil, ?_⟩
    exact ⟨_, rfl, p, C, dx, _, _, rfl, hp, T.cl, T.nG, nf_gates _ _, "in", lg, gs, rfl, N.g.rg, hl, q⟩
theorem scOuts : FnScope ["self"] ["self"] (defScope sOuts) := ⟨rfl, rfl, rfl, by decide +kernel, rfl, by decide +kernel, by decide +kernel⟩
theorem ok_outs {f fP C : Addr} {fd fdP : FuncData} (F : Fun K "outs" "Net.outs" sOuts f fd) (T : NT K mg C) (DP : DPlaces P w K mg base fP fdP) : FnOk P w K mg base CX0 2 f fd ["self"] (spPorts K C "out") := by
  refine F.ok scOuts (fun vs H Q E h => ?_) (fun cdv A outer s H vs Q E hr h => ?_)
  · obtain ⟨p, lg, lw, gs, ws, rfl, _⟩ := h
    rfl
  · obtain ⟨p, lg, lw, gs, ws, rfl, N, hl, q⟩ := h
    obtain ⟨dx, hp⟩ := N.ob
    refine ⟨_, pss_one <| ps_ret <| pe_call DP.ok hr (by rfl) DP.mg DP.kp DP.bd .nil pass0 <| pa_cons pe_str <| pa_cons (pe_fld (pv 0) rfl) pa_nil, ?_⟩
    exact ⟨_, rfl, p, C, dx, _, _, rfl, hp, T.cl, T.nG, nf_gates _ _, "out", lg, gs, rfl, N.g.rg, hl, q⟩
end
end Lag

set_option maxRecDepth 100000
set_option maxHeartbeats 4000000
namespace Lag
open PySem PySem.Spec PyProof.Rows L2
/-! ### == and != by an own __eq__, whatever the other thing is -/
section
variable {X : Cx} {pins : List (Addr × Obj)} {σ : L2.St} {H : Hp} {s : Shared}
/-- what typeOf says -/
def TyL (X : Cx) (s : Shared) (v tb : Value) : Prop := PySem.W.Looks (model X.prog X.w) s.heap (typeOf v) tb
theorem ty_looks {y : V} {v tb : Value} (I : Inv X pins σ H s) (r : RelV y v) (t : TyOf X.K H y tb) : TyL X s v tb := by
  cases t with
  | non => cases r; exact .of_pure rfl
  | bl b => cases r; exact .of_pure rfl
  | int i => obtain ⟨t, rfl⟩ := r; exact .of_pure rfl
  | str x => obtain ⟨t, rfl⟩ := r; exact .of_pure rfl
  | flt x => obtain ⟨t, rfl⟩ := r; exact .of_pure rfl
  | @lst a xs ea =>
    cases r
    obtain ⟨_, _, n, _, h1⟩ := (show ObjOk X.prog X.w H s.heap a (.lst xs) from I.hok a _ ea)
    exact (PySem.W.Looks.ld h1).andThen .now
  | @frz a ob xs ea =>
    cases r
    obtain ⟨_, _, _, n, _, h1⟩ := (show ObjOk X.prog X.w H s.heap a (.frz ob (.lst xs)) from I.hok a _ ea)
    exact (PySem.W.Looks.ld h1).andThen .now
  | @tup a xs ea =>
    cases r
    obtain ⟨_, _, _, o, h1, h2, _⟩ := (show ObjOk X.prog X.w H s.heap a (.tup xs) from I.hok a _ ea)
    exact h2 ▸ (PySem.W.Looks.ld h1).andThen .now
  | @dK a kvs ea =>
    cases r
    obtain ⟨_, _, vs, _, o, es, ep, h1, h2, _⟩ := (show ObjOk X.prog X.w H s.heap a (.dK kvs) from I.hok a _ ea)
    exact h2.1 ▸ (PySem.W.Looks.ld h1).andThen .now
  | @dT a kvs ea =>
    cases r
    obtain ⟨_, _, xs, _, o, es, ep, h1, h2, _⟩ := (show ObjOk X.prog X.w H s.heap a (.dT kvs) from I.hok a _ ea)
    exact h2.1 ▸ (PySem.W.Looks.ld h1).andThen .now
  | @ins a C dx fs ea cl ha hn htk hm =>
    cases r
    obtain ⟨mA, O, _⟩ := ins_get I.hok ea
    obtain ⟨od, J, _⟩ := O.look
    exact J.type
/-- a call of a def from within -/
theorem call_own {n : Nat} {f : Addr} {fd : FuncData} {ps : List Str} {sp : Sp} {xs : List V} {us : List Value} {Q : VK} {A : Around} (F : FnOk X.prog X.w X.K X.mg X.base CX0 n f fd ps sp) (hb : Binds X.K fd ps []) (sb : Sub X n A) (I : Inv X pins σ H s) (rx : Vals xs us)
    (h : sp xs H Q E0) : wpAny (model X.prog X.w) A (call (.ref f) us) (EP X pins σ Q) X.xe s := by
  have e0 : Env0 X.prog X.w X.K X.mg X.base A X.stack s H := by
    have e := I.env0
    exact ⟨by rw [sb.fr]; exact e.frames, e.mod, e.bs, e.bsz, e.funs, e.frf, e.hok, e.bare⟩
  have hl := F.len _ _ _ _ h
  have hl' : us.length = ps.length := by rw [← rx.length, hl]
  refine wpAny_call (codeAny_mono (F.run A X.stack s H ⟨us, []⟩ us xs _ E0 sb.room e0 (by
    have := hb s us I.kIn (by simpa using hl')
    simpa using this) rx h) fun r s' hq => ?_)
  cases r with
  | error e => exact False.elim hq
  | ok fl =>
    cases fl with
    | ret w => exact I.after hq
    | next => exact False.elim hq
    | brk => exact False.elim hq
    | cont => exact False.elim hq
/-- a special method that is a built-in -/
theorem ifBound_B {M : Model} {K : PySem.W.Frag} {A : Around} {E : Value → Shared → Prop} {s : Shared} {x C : Addr} {ox : Obj} {od : Option Obj} {name : Str} {id : String} {args : List Value} {Q : Option Value → Shared → Prop} (X : K.In s.heap) (I : PySem.W.InstAt s.heap x ox C od)
    (hs : PySem.W.findIn K (.ref C) name = some (some (.builtin id))) (hb : ∀ self, bindSpecial (.builtin id) self = pure (.builtin id, [self]))
    (h : wpAny M A (call (.builtin id) (.ref x :: args)) (fun v => Q (some v)) E s) : wpAny M A (callSpecialIfBound? (.ref x) name args) Q E s := by
  simp only [callSpecialIfBound?, bindSpecialIfBound?]
  refine wpAny_holding (wpAny_bind (wpAny_bind (wpAny_bind (I.type.here ((PySem.W.looks_findIn X hs).here ?_)))))
  refine wpAny_bind (wpAny_askSetting (wpAny_ite ?_))
  have fin : wpAny M A (call (.builtin id) ([.ref x] ++ args) >>= fun v => pure (some v)) Q E s := wpAny_bind (wpAny_mono h (fun v s' h' => wpAny_pure h') fun _ _ h' => h')
  split
  · exact wpAny_bind (wpAny_of_eq (hb _) (wpAny_pure (by exact fin)))
  · exact wpAny_tryCatch (wpAny_bind (wpAny_of_eq (hb _) (wpAny_pure (by exact fin))))
theorem bind_ne (self : Value) : bindSpecial (.builtin "object.__ne__") self = pure (.builtin "object.__ne__", [self]) := PySem.F.slot_tuple_iterator_ne.bind self
theorem ne_body {K : PySem.W.Frag} {prog : Program} {w : World} {A : Around} {E : Value → Shared → Prop} {s : Shared} {x C f : Addr} {ox : Obj} {od : Option Obj} {b : Value} {Q : Fin → Shared → Prop} (X : K.In s.heap) (I : PySem.W.InstAt s.heap x ox C od)
    (hs : PySem.W.findIn K (.ref C) "__eq__" = some (some (.ref f))) (hf : PySem.W.isFn K (.ref f) = true) (hu : A.units < cLine)
    (hcall : wpAny (model prog w) A (call (.ref f) [.ref x, b]) (fun v s' => ∃ c, v = .bool c ∧ Q (.done (.ret (.bool (!c)))) s') E s) :
    wpAny (model prog w) A (Builtin.«object.__ne__» ⟨[.ref x, b], []⟩) Q E s := by
  obtain ⟨h, g, d, t, os⟩ := s
  unfold Builtin.«object.__ne__»
  repeat (first
    | with_reducible refine wpAny_cRoomFor hu ?_
    | (refine wpAny_bind (m := callSpecialIfBound? (.ref x) (Str.ofString "__eq__") [b])
        (PySem.W.ifBound_K X I hs hf (wpAny_mono hcall (fun r s' hr => by
          obtain ⟨c, rfl, hq⟩ := hr
          repeat (first | exact hq | exact wpAny_pure hq | exact wpAny_truthy_bool hq | (refine wpAny_bind (m := truthy (.bool _)) (wpAny_truthy_bool ?_)) | wp_step)) fun _ _ e => e)))
    | wp_step)
theorem op_eqO {n : Nat} {C f : Addr} {fd : FuncData} {ps : List Str} {sp : Sp} (F : FnOk X.prog X.w X.K X.mg X.base CX0 n f fd ps sp) (hs : PySem.W.findIn X.K (.ref C) "__eq__" = some (some (.ref f))) (hf : PySem.W.isFn X.K (.ref f) = true) (hb : Binds X.K fd ps []) (hr : Room n X.A) :
    OpR X (compareOp .Eq) (fun x y H Q => ∃ a dx fs tb, x = .ref a ∧ H a = some (.ins C dx fs) ∧ TyOf X.K H y tb ∧ PySem.W.notFirst X.K C tb = true ∧ sp [x, y] H (fun v H' => ∃ c, v = .bl c ∧ Q v H') E0) := by
  intro pins s σ H x y u v Q I rx ry h
  obtain ⟨a, dx, fs, tb, rfl, ha, ty, nf, q⟩ := h
  cases rx
  obtain ⟨mA, J, _⟩ := ins_get I.hok ha
  obtain ⟨od, J, _⟩ := J.look
  obtain ⟨m, hF⟩ := I.fr
  show wpAny (model X.prog X.w) X.A (richCompare .Eq (.ref a) v) (EP X pins σ Q) X.xe s
  refine PySem.W.cmp_K (op := .Eq) (tb := tb) hr.units0 hF I.ok.mod.kin J (ty_looks I ry ty) nf hs hf ?_
  refine wpAny_mono (call_own F hb ⟨hr, rfl⟩ I (.cons (show RelV (V.ref a) (Value.ref a) from rfl) (.cons ry .nil)) q) (fun r s' z => ?_) fun _ _ x => x
  obtain ⟨z, H', I', rz, c, ez, q'⟩ := z
  subst ez
  cases rz
  exact ⟨.bl c, H', I', rfl, q'⟩
theorem op_neO {n : Nat} {C f : Addr} {fd : FuncData} {ps : List Str} {sp : Sp} (F : FnOk X.prog X.w X.K X.mg X.base CX0 n f fd ps sp) (hs : PySem.W.findIn X.K (.ref C) "__eq__" = some (some (.ref f))) (hn : PySem.W.findIn X.K (.ref C) "__ne__" = some (some (.builtin "object.__ne__")))
    (ho : PySem.W.mroIn X.K C (.type "object") = some true) (hf : PySem.W.isFn X.K (.ref f) = true) (hb : Binds X.K fd ps []) (hr : Room (n + 1) X.A) :
    OpR X (compareOp .NotEq) (fun x y H Q => ∃ a dx fs tb, x = .ref a ∧ H a = some (.ins C dx fs) ∧ TyOf X.K H y tb ∧ PySem.W.notFirst X.K C tb = true ∧ sp [x, y] H (fun v H' => ∃ c, v = .bl c ∧ Q (.bl (!c)) H') E0) := by
  intro pins s σ H x y u v Q I rx ry h
  obtain ⟨a, dx, fs, tb, rfl, ha, ty, nf, q⟩ := h
  cases rx
  obtain ⟨mA, J, _⟩ := ins_get I.hok ha
  obtain ⟨od, J, _⟩ := J.look
  have hb' := ty_looks I ry ty
  have sb : Sub X (n + 1) X.A := ⟨hr, rfl⟩
  show wpAny (model X.prog X.w) X.A (richCompare .NotEq (.ref a) v) (EP X pins σ Q) X.xe s
  have one : wpAny (model X.prog X.w) X.A (tryCompare (.ref a) "__ne__" v) (fun r s' => ∃ w, r = some w ∧ EP X pins σ Q w s') X.xe s := by
    unfold tryCompare
    refine wpAny_bind (ifBound_B I.kIn J hn bind_ne (wpAny_call (codeAny_call_builtin PySem.F.slot_tuple_iterator_ne.plain PySem.F.cmpEntry_ne
      (PySem.W.check_slot PySem.F.cmpKind_ne PySem.F.cmpSplit_ne (J.type.andThen (PySem.W.looks_mroIn I.kIn ho)) (PySem.F.cmpArgs_ne _ _)
        (ne_body I.kIn J hs hf sb.in1.room.units0 (wpAny_mono (call_own F hb sb.in1 I (.cons (show RelV (V.ref a) (Value.ref a) from rfl) (.cons ry .nil)) q) (fun r s' z => ?_) fun _ _ x => x))))))
    obtain ⟨z, H', I', rz, c, ez, q'⟩ := z
    subst ez
    cases rz
    have fin : EP X pins σ Q (.bool (!c)) s' := ⟨.bl (!c), H', I', rfl, q'⟩
    first | exact ⟨c, rfl, wpAny_pure ⟨_, rfl, fin⟩⟩ | exact ⟨c, rfl, wpAny_pure (wpAny_pure ⟨_, rfl, fin⟩)⟩ | exact ⟨c, rfl, ⟨_, rfl, fin⟩⟩
  unfold richCompare
  simp only [oneThing_ref]
  refine wpAny_holding (wpAny_bind (wpAny_cRoomFor hr.units0 ?_))
  refine wpAny_bind (J.type.here (wpAny_bind (hb'.here ?_)))
  split
  · rename_i q'
    have e : PySem.W.subIn X.K tb (.ref C) = some false := by
      rcases Bool.or_eq_true_iff.mp nf with e | e
      · rw [beq_iff_eq.mp e] at q'; simp at q'
      · exact beq_iff_eq.mp e
    refine wpAny_bind ((PySem.W.looks_subIn I.kIn e).here ?_)
    simp only [Bool.false_eq_true, if_false]
    refine wpAny_bind (wpAny_mono one (fun r s' z => ?_) fun _ _ e => e)
    obtain ⟨v, rfl, hq⟩ := z
    exact wpAny_pure hq
  · refine wpAny_bind (wpAny_pure ?_)
    simp only [Bool.false_eq_true, if_false]
    refine wpAny_bind (wpAny_mono one (fun r s' z => ?_) fun _ _ e => e)
    obtain ⟨v, rfl, hq⟩ := z
    exact wpAny_pure hq
end
end Lag

set_option maxRecDepth 100000
set_option maxHeartbeats 4000000
namespace Lag
open PySem PySem.Spec PyProof.Rows L2
/-! ### nets as data that is compared -/
def gateD (g : Gt) : PyData := .tuple [.str g.1, .int g.2]
def gatesD (gs : List Gt) : PyData := .list (gs.map gateD)
def wireD (x : Wr) : PyData := .tuple [.int (x.1 : Nat), .int (x.2.1 : Nat), .tuple (x.2.2.map PyData.int)]
def wiresD (ws : List Wr) : PyData := .list (ws.map wireD)
def intsD (l : List Nat) : PyData := .list (l.map fun i => .int (i : Nat))
theorem eqvAll_map {α : Type} [DecidableEq α] {f : α → PyData} (h : ∀ x y, PyData.eqv (f x) (f y) = decide (x = y)) : ∀ xs ys : List α, PyData.eqvAll (xs.map f) (ys.map f) = decide (xs = ys)
  | [], [] => rfl
  | [], _ :: _ => rfl
  | _ :: _, [] => rfl
  | x :: xs, y :: ys => by
    show (PyData.eqv (f x) (f y) && PyData.eqvAll (xs.map f) (ys.map f)) = _
    rw [h, eqvAll_map h xs ys, Bool.eq_iff_iff]
    simp
theorem gateD_eq (a b : Gt) : PyData.eqv (gateD a) (gateD b) = decide (a = b) := by
  show ((a.1 == b.1) && ((a.2 == b.2) && true)) = _
  rw [Bool.eq_iff_iff]
  simp [Prod.ext_iff]
theorem gatesD_eq (a b : List Gt) : PyData.eqv (gatesD a) (gatesD b) = decide (a = b) := eqvAll_map gateD_eq a b
theorem intD_eq (a b : Int) : PyData.eqv (.int a) (.int b) = decide (a = b) := rfl
theorem wireD_eq (a b : Wr) : PyData.eqv (wireD a) (wireD b) = decide (a = b) := by
  show ((((a.1 : Nat) : Int) == ((b.1 : Nat) : Int)) && ((((a.2.1 : Nat) : Int) == ((b.2.1 : Nat) : Int)) && (PyData.eqvAll (a.2.2.map PyData.int) (b.2.2.map PyData.int) && true))) = _
  rw [eqvAll_map intD_eq, Bool.eq_iff_iff]
  simp only [Bool.and_eq_true, beq_iff_eq, decide_eq_true_eq, and_true]
  constructor
  · rintro ⟨h1, h2, h3⟩
    exact Prod.ext (by omega) (Prod.ext (by show a.2.1 = b.2.1; omega) h3)
  · rintro rfl
    exact ⟨rfl, rfl, rfl⟩
theorem wiresD_eq (a b : List Wr) : PyData.eqv (wiresD a) (wiresD b) = decide (a = b) := eqvAll_map wireD_eq a b
theorem natD_eq (a b : Nat) : PyData.eqv (.int (a : Nat)) (.int (b : Nat)) = decide (a = b) := by
  show (((a : Nat) : Int) == ((b : Nat) : Int)) = _
  rw [Bool.eq_iff_iff]
  simp
  omega
theorem intsD_eq (a b : List Nat) : PyData.eqv (intsD a) (intsD b) = decide (a = b) := eqvAll_map natD_eq a b
theorem lay_all {ds : List PyData} : (∀ d ∈ ds, PyData.canLay0 d = true) → PyData.canLayAll0 ds = true := by
  induction ds with
  | nil => intro _; rfl
  | cons d ds ih =>
    intro h
    show (PyData.canLay0 d && PyData.canLayAll0 ds) = true
    rw [h d (List.mem_cons_self ..), ih fun x hx => h x (List.mem_cons_of_mem _ hx)]
    rfl
theorem depth_all {ds : List PyData} {k : Nat} : (∀ d ∈ ds, PyData.depth d ≤ k) → PyData.depthAll ds ≤ k := by
  induction ds with
  | nil => intro _; exact Nat.zero_le _
  | cons d ds ih =>
    intro h
    show max (PyData.depth d) (PyData.depthAll ds) ≤ k
    have h1 := h d (List.mem_cons_self ..)
    have h2 := ih fun x hx => h x (List.mem_cons_of_mem _ hx)
    omega
/-- such data may be compared, to the depth k -/
def Sh (k : Nat) (d : PyData) : Prop := PyData.canLay0 d = true ∧ PyData.depth d ≤ k
theorem Sh.ok {k : Nat} {d : PyData} (h : Sh k d) (hk : k ≤ 64) : SeqAt.shaped d = true := by
  show (PyData.canLay0 d && decide (PyData.depth d ≤ 64)) = true
  rw [h.1, decide_eq_true (Nat.le_trans h.2 hk)]
  rfl
theorem sh_list {k : Nat} {ds : List PyData} (h : ∀ d ∈ ds, Sh k d) : Sh (k + 1) (.list ds) := ⟨lay_all fun d hd => (h d hd).1, Nat.succ_le_succ (depth_all fun d hd => (h d hd).2)⟩
theorem sh_tuple {k : Nat} {ds : List PyData} (h : ∀ d ∈ ds, Sh k d) : Sh (k + 1) (.tuple ds) := ⟨lay_all fun d hd => (h d hd).1, Nat.succ_le_succ (depth_all fun d hd => (h d hd).2)⟩
theorem sh_int {k : Nat} (i : Int) : Sh k (.int i) := ⟨rfl, Nat.zero_le _⟩
theorem kinds_str : ∀ k ∈ kinds, PyData.canLay0 (.str k) = true := by decide +kernel
theorem sh_kind {k : Nat} {z : Str} (h : z ∈ kinds) : Sh k (.str z) := ⟨kinds_str z h, Nat.zero_le _⟩
theorem sh_gates {gs : List Gt} (h : ∀ g ∈ gs, GOk g) : Sh 2 (gatesD gs) := by
  refine sh_list fun d hd => ?_
  obtain ⟨g, hg, rfl⟩ := List.mem_map.mp hd
  refine sh_tuple fun d hd => ?_
  simp only [List.mem_cons, List.not_mem_nil, or_false] at hd
  rcases hd with rfl | rfl
  · exact sh_kind (h g hg).1
  · exact sh_int _
theorem sh_wires (ws : List Wr) : Sh 3 (wiresD ws) := by
  refine sh_list fun d hd => ?_
  obtain ⟨g, hg, rfl⟩ := List.mem_map.mp hd
  refine sh_tuple fun d hd => ?_
  simp only [List.mem_cons, List.not_mem_nil, or_false] at hd
  rcases hd with rfl | rfl | rfl
  · exact sh_int _
  · exact sh_int _
  · refine sh_tuple fun d hd => ?_
    obtain ⟨i, _, rfl⟩ := List.mem_map.mp hd
    exact sh_int _
theorem sh_ints (l : List Nat) : Sh 1 (intsD l) := by
  refine sh_list fun d hd => ?_
  obtain ⟨i, _, rfl⟩ := List.mem_map.mp hd
  exact sh_int _
section
variable {K : PySem.W.Frag} {H : Hp}
theorem dp_all {α : Type} {R : V → α → Prop} {f : α → PyData} (h : ∀ v x, R v x → Dp K H v (f x)) : ∀ {vs : List V} {xs : List α}, All2 R vs xs → DpAll K H vs (xs.map f)
  | [], [], _ => .nil
  | [], _ :: _, a => by have := a.1; simp at this
  | _ :: _, [], a => by have := a.1; simp at this
  | _ :: _, _ :: _, a => .cons (h _ _ a.head) (dp_all h a.tail)
theorem GateV.dp {v : V} {g : Gt} (h : GateV K H v g) : Dp K H v (gateD g) := by
  obtain ⟨a, rfl, s⟩ := h
  exact .tup s (.cons (.str _) (.cons (.int _) .nil))
theorem ints_dp : ∀ l : List Int, DpAll K H (l.map V.int) (l.map PyData.int)
  | [] => .nil
  | i :: l => .cons (.int i) (ints_dp l)
theorem nats_dp : ∀ l : List Nat, DpAll K H (l.map fun i => V.int (i : Nat)) (l.map fun i => PyData.int (i : Nat))
  | [] => .nil
  | i :: l => .cons (.int _) (nats_dp l)
theorem WireV.dp {v : V} {x : Wr} (h : WireV K H v x) : Dp K H v (wireD x) := by
  obtain ⟨a, b, rfl, s1, s2⟩ := h
  exact .tup s1 (.cons (.int _) (.cons (.int _) (.cons (.tup s2 (ints_dp _)) .nil)))
theorem RG.dp {l : Addr} {gs : List Gt} (h : RG K H l gs) : Dp K H (.ref l) (gatesD gs) := by
  obtain ⟨vs, s, a⟩ := h
  exact .lst s (dp_all (fun _ _ r => GateV.dp r) a)
theorem RW.dp {l : Addr} {ws : List Wr} (h : RW K H l ws) : Dp K H (.ref l) (wiresD ws) := by
  obtain ⟨vs, s, a⟩ := h
  exact .lst s (dp_all (fun _ _ r => WireV.dp r) a)
theorem dp_ints {l : Addr} {xs : List Nat} (h : SqL K H l (xs.map fun i => V.int (i : Nat))) : Dp K H (.ref l) (intsD xs) := .lst h (nats_dp xs)
end
/-! ### Net.__eq__ -/
structure NTy (K : PySem.W.Frag) (C : Addr) : Prop where
  ha : PySem.W.findIn K (.ref C) "__class__" = some (some (.builtin "object.__class__"))
  hn : PySem.W.specialIn K (.builtin "object.__class__") "__get__" = some (some (.builtin "getset_descriptor.__get__"))
  htk : PySem.W.takesIn K (.builtin "object.__class__") = some true
  hm : PySem.W.mroIn K C (.type "object") = some true
theorem ty_net {K : PySem.W.Frag} {mg : Str → Option Value} {C : Addr} {H : Hp} {p dx : Addr} {fs : List (Str × V)} (T : NT K mg C) (Y : NTy K C) (h : H p = some (.ins C dx fs)) : TyOf K H (.ref p) (.ref C) := .ins h T.cl Y.ha Y.hn Y.htk Y.hm
def spEqN (K : PySem.W.Frag) (C : Addr) : Sp := fun vs H Q _ => ∃ (p lg lw : Addr) (gs : List Gt) (ws : List Wr) (y : V), vs = [.ref p, y] ∧ NetAt K C H p lg lw gs ws ∧
  ((∃ (q lg' lw' : Addr) (gs' : List Gt) (ws' : List Wr), y = .ref q ∧ NetAt K C H q lg' lw' gs' ws' ∧ (∀ g ∈ gs, GOk g) ∧ (∀ g ∈ gs', GOk g) ∧ Q (.bl (decide (gs = gs') && decide (ws = ws'))) H) ∨
    (∃ t, TyX K H y t ∧ PySem.W.kitOne K t (.ref C) = some false ∧ Q (.bl false) H))
section
variable {P : Program} {w : World} {K : PySem.W.Frag} {mg : Str → Option Value} {base : Heap}
theorem scEq : FnScope ["self", "other"] ["self", "other"] (defScope sEq) := ⟨rfl, rfl, rfl, by decide +kernel, rfl, by decide +kernel, by decide +kernel⟩
theorem kit_self {K : PySem.W.Frag} (C : Addr) : PySem.W.kitOne K (.ref C) (.ref C) = some true := by
  unfold PySem.W.kitOne
  rw [if_pos (beq_self_eq_true _)]
theorem ok_eqN {f C : Addr} {fd : FuncData} (F : Fun K "__eq__" "Net.__eq__" sEq f fd) (T : NT K mg C) (Y : NTy K C) (B : Bt mg) : FnOk P w K mg base CX0 1 f fd ["self", "other"] (spEqN K C) := by
  refine F.ok scEq (fun vs H Q E h => ?_) (fun cdv A outer s H vs Q E hr h => ?_)
  · obtain ⟨p, lg, lw, gs, ws, y, rfl, _⟩ := h
    rfl
  · obtain ⟨p, lg, lw, gs, ws, y, rfl, N, h⟩ := h
    refine ⟨_, pss_one <| ps_ret <| pe_and (pe_callB call_isi (by rfl) B.isi (by decide +kernel) (pa_cons (pv 1) (pa_cons (pe_glob (v := .ref C) (by rfl) T.mg rfl) pa_nil))) <|
      pe_and (pe_cmpR (op_eqD hr.units) (pe_fld (pv 0) rfl) (pe_fld (pv 1) rfl) (nomark _)) <| pe_one <| pe_cmpR (op_eqD hr.units) (pe_fld (pv 0) rfl) (pe_fld (pv 1) rfl) (nomark _), ?_⟩
    obtain ⟨dx, hp⟩ := N.ob
    rcases h with ⟨q, lg', lw', gs', ws', rfl, N', gok, gok', k⟩ | ⟨t, ty, kt, k⟩
    · obtain ⟨dx', hq⟩ := N'.ob
      refine ⟨_, rfl, _, _, _, _, true, rfl, .own C, .base (ty_net T Y hq), kit_self C, true, rfl, iteT ?_⟩
      refine ⟨_, rfl, p, C, dx, _, _, rfl, hp, T.cl, T.nG, nf_gates _ _, _, rfl, q, C, dx', _, _, rfl, hq, T.cl, T.nG, nf_gates _ _, _, _, N.g.rg.dp, N'.g.rg.dp, (sh_gates gok).ok (by decide), (sh_gates gok').ok (by decide), _, rfl, ?_⟩
      rw [gatesD_eq]
      cases e : decide (gs = gs') with
      | false =>
        rw [e] at k
        exact iteF k
      | true =>
        rw [e] at k
        refine iteT ⟨_, rfl, p, C, dx, _, _, rfl, hp, T.cl, T.nW, nf_wires _ _, _, rfl, q, C, dx', _, _, rfl, hq, T.cl, T.nW, nf_wires _ _, _, _, N.w.rw.dp, N'.w.rw.dp, (sh_wires _).ok (by decide), (sh_wires _).ok (by decide), ?_⟩
        rw [wiresD_eq]
        exact k
    · exact ⟨_, rfl, _, _, _, _, false, rfl, .own C, ty, kt, false, rfl, iteF k⟩
end
end Lag

set_option maxRecDepth 100000
set_option maxHeartbeats 4000000
namespace Lag
open PySem PySem.Spec PyProof.Rows L2
/-! ### what keeps a net a net -/
theorem kindAt_set {gs : List Gt} {i j : Nat} {g : Gt} (h : i < gs.length) : kindAt (gs.set i g) j = if j = i then g.1 else kindAt gs j := by
  unfold kindAt
  rw [List.getD_eq_getElem?_getD, List.getD_eq_getElem?_getD, List.getElem?_set]
  by_cases e : i = j
  · subst e
    rw [if_pos rfl, if_pos h, if_pos rfl]
    rfl
  · rw [if_neg e, if_neg (fun z => e z.symm)]
/-- another gate at a place whose gate is no port: no port, and no first where it was none -/
theorem NetOk.setG {gs : List Gt} {ws : List Wr} (N : NetOk gs ws) {i : Nat} {g : Gt} (hi : i < gs.length) (hg : GOk g) (h1 : g.1 ≠ "out") (h2 : g.1 ≠ "in") (h3 : g.1 = "first" → kindAt gs i = "first") : NetOk (gs.set i g) ws := by
  have kk := @kindAt_set gs i
  refine ⟨?_, by rw [List.length_set]; exact N.gl, N.wl, ?_, fun x hx => ?_, fun e he hk => ?_, fun e he hk => ?_, N.rank⟩
  · intro z
    have := congrArg List.length z
    rw [List.length_set] at this
    exact N.ne (List.length_eq_zero_iff.mp this)
  · intro y hy
    rcases List.mem_or_eq_of_mem_set hy with hy | hy
    · exact N.gok y hy
    · rw [hy]
      exact hg
  · have W := N.wok x hx
    refine ⟨by rw [List.length_set]; exact W.s, by rw [List.length_set]; exact W.e, ?_, ?_, W.r, W.rl⟩
    · rw [kk hi]
      split
      · exact h1
      · exact W.ks
    · rw [kk hi]
      split
      · exact h2
      · exact W.ke
  · rw [List.length_set] at he
    rw [kk hi] at hk
    split at hk
    · exact absurd hk h1
    · exact N.one e he hk
  · rw [List.length_set] at he
    rw [kk hi] at hk
    split at hk
    · rename_i hei
      subst hei
      exact N.some _ he (h3 hk)
    · exact N.some e he hk
theorem kindAt_app {gs : List Gt} {g : Gt} {j : Nat} (h : j < gs.length) : kindAt (gs ++ [g]) j = kindAt gs j := by
  unfold kindAt
  rw [List.getD_eq_getElem?_getD, List.getD_eq_getElem?_getD, List.getElem?_append_left h]
theorem NetOk.addIn {gs : List Gt} {ws : List Wr} (N : NetOk gs ws) (hl : gs.length < 100) : NetOk (gs ++ [(("in" : Str), (0 : Int))]) ws := by
  have kl : kindAt (gs ++ [(("in" : Str), (0 : Int))]) gs.length = "in" := by
    unfold kindAt
    rw [List.getD_eq_getElem?_getD, List.getElem?_append_right (Nat.le_refl _), Nat.sub_self]
    rfl
  refine ⟨by simp, by simp; omega, N.wl, ?_, fun x hx => ?_, fun e he hk => ?_, fun e he hk => ?_, N.rank⟩
  · intro y hy
    rcases List.mem_append.mp hy with hy | hy
    · exact N.gok y hy
    · simp at hy
      subst hy
      exact ⟨by show ("in" : Str) ∈ kinds; decide +kernel, Int.le_refl 0, (by show (0 : Int) ≤ 100; decide), fun _ => rfl⟩
  · have W := N.wok x hx
    exact ⟨by have := W.s; simp; omega, by have := W.e; simp; omega, by rw [kindAt_app W.s]; exact W.ks, by rw [kindAt_app W.e]; exact W.ke, W.r, W.rl⟩
  · by_cases h : e < gs.length
    · rw [kindAt_app h] at hk
      exact N.one e h hk
    · have : e = gs.length := by simp at he; omega
      subst this
      rw [kl] at hk
      exact absurd hk (by decide +kernel)
  · by_cases h : e < gs.length
    · rw [kindAt_app h] at hk
      exact N.some e h hk
    · have : e = gs.length := by simp at he; omega
      subst this
      rw [kl] at hk
      exact absurd hk (by decide +kernel)
theorem cnt_set {ws : List Wr} {i : Nat} {x y : Wr} (h : ws[i]? = some x) (he : y.2.1 = x.2.1) (e : Nat) : cnt (ws.set i y) e = cnt ws e := by
  obtain ⟨hi, rfl⟩ := List.getElem?_eq_some_iff.mp h
  have h1 : ws.set i y = ws.take i ++ y :: ws.drop (i + 1) := List.set_eq_take_append_cons_drop .. |>.trans (by rw [if_pos hi])
  have h2 : ws = ws.take i ++ ws[i] :: ws.drop (i + 1) := by rw [List.getElem_cons_drop, List.take_append_drop]
  unfold cnt
  conv => rhs; rw [h2]
  rw [h1, List.countP_append, List.countP_append, List.countP_cons, List.countP_cons, he]
/-- a wire with other registers, one at least -/
theorem NetOk.setW {gs : List Gt} {ws : List Wr} (N : NetOk gs ws) {i : Nat} {x : Wr} {r : List Int} (h : ws[i]? = Option.some x) (hr : ROk r) (hl : r.length ≤ 900) (hne : r ≠ []) : NetOk gs (ws.set i (x.1, x.2.1, r)) := by
  have W := N.wok x (List.mem_of_getElem? h)
  obtain ⟨ρ, hρ⟩ := N.rank
  refine ⟨N.ne, N.gl, by rw [List.length_set]; exact N.wl, N.gok, fun y hy => ?_, fun e he hk => ?_, fun e he hk => ?_, ρ, fun y hy hyr => ?_⟩
  · rcases List.mem_or_eq_of_mem_set hy with hy | hy
    · exact N.wok y hy
    · rw [hy]
      exact ⟨W.s, W.e, W.ks, W.ke, hr, hl⟩
  · rw [cnt_set (y := (x.1, x.2.1, r)) h rfl]
    exact N.one e he hk
  · rw [cnt_set (y := (x.1, x.2.1, r)) h rfl]
    exact N.some e he hk
  · rcases List.mem_or_eq_of_mem_set hy with hy | hy
    · exact hρ y hy hyr
    · rw [hy] at hyr
      exact absurd hyr hne
theorem NetOk.perm {gs : List Gt} {ws ws' : List Wr} (N : NetOk gs ws) (p : ws'.Perm ws) : NetOk gs ws' := by
  obtain ⟨ρ, hρ⟩ := N.rank
  have c : ∀ e, cnt ws' e = cnt ws e := fun e => p.countP_eq _
  exact ⟨N.ne, N.gl, by rw [p.length_eq]; exact N.wl, N.gok, fun x hx => N.wok x (p.mem_iff.mp hx), fun e he hk => by rw [c]; exact N.one e he hk, fun e he hk => by rw [c]; exact N.some e he hk, ρ, fun x hx h => hρ x (p.mem_iff.mp hx) h⟩
/-! ### slices -/
theorem take_min {α : Type} (l : List α) (k : Nat) : l.take (min k l.length) = l.take k := by
  by_cases h : k ≤ l.length
  · rw [Nat.min_eq_left h]
  · rw [Nat.min_eq_right (by omega), List.take_length, List.take_of_length_le (by omega)]
theorem drop_min {α : Type} (l : List α) (k : Nat) : l.drop (min k l.length) = l.drop k := by
  by_cases h : k ≤ l.length
  · rw [Nat.min_eq_left h]
  · rw [Nat.min_eq_right (by omega), List.drop_length, List.drop_of_length_le (by omega)]
theorem cut_to {xs : List V} (k : Nat) : cutV xs none (some (k : Int)) = xs.take k := by
  unfold cutV
  rw [HT.sIx_none, HT.sIx_nat, List.drop_zero, Nat.sub_zero, take_min]
theorem cut_from {xs : List V} (k : Nat) : cutV xs (some (k : Int)) none = xs.drop k := by
  unfold cutV
  rw [HT.sIx_none, HT.sIx_nat, drop_min]
  exact List.take_of_length_le (by rw [List.length_drop]; omega)
theorem cut_mid {xs : List V} (j k : Nat) : cutV xs (some (j : Int)) (some (k : Int)) = (xs.take k).drop j := by
  unfold cutV
  rw [HT.sIx_nat, HT.sIx_nat, List.drop_take, drop_min]
  by_cases h : j ≤ xs.length
  · by_cases h2 : k ≤ xs.length
    · rw [Nat.min_eq_left h, Nat.min_eq_left h2]
    · rw [List.take_of_length_le (by rw [List.length_drop]; omega), List.take_of_length_le (by rw [List.length_drop]; omega)]
  · rw [List.drop_of_length_le (by omega)]
    simp
section
variable {α β : Type} {R : α → β → Prop} {xs xs' : List α} {ys ys' : List β}
theorem All2.take (h : All2 R xs ys) (k : Nat) : All2 R (xs.take k) (ys.take k) := by
  refine ⟨by rw [List.length_take, List.length_take, h.1], fun i x y hx hy => ?_⟩
  have hi : i < k := by
    have := (List.getElem?_eq_some_iff.mp hx).1
    rw [List.length_take] at this
    omega
  rw [List.getElem?_take_of_lt hi] at hx hy
  exact h.2 i x y hx hy
theorem All2.drop (h : All2 R xs ys) (k : Nat) : All2 R (xs.drop k) (ys.drop k) := by
  refine ⟨by rw [List.length_drop, List.length_drop, h.1], fun i x y hx hy => ?_⟩
  rw [List.getElem?_drop] at hx hy
  exact h.2 _ x y hx hy
theorem All2.append (h : All2 R xs ys) (h' : All2 R xs' ys') : All2 R (xs ++ xs') (ys ++ ys') := by
  induction xs generalizing ys with
  | nil =>
    cases ys with
    | nil => exact h'
    | cons _ _ => have := h.1; simp at this
  | cons x xs ih =>
    cases ys with
    | nil => have := h.1; simp at this
    | cons y ys => exact All2.cons h.head (ih h.tail)
theorem All2.reverse (h : All2 R xs ys) : All2 R xs.reverse ys.reverse := by
  induction xs generalizing ys with
  | nil =>
    cases ys with
    | nil => exact h
    | cons _ _ => have := h.1; simp at this
  | cons x xs ih =>
    cases ys with
    | nil => have := h.1; simp at this
    | cons y ys =>
      rw [List.reverse_cons, List.reverse_cons]
      exact (ih h.tail).snoc h.head
theorem All2.one {x : α} {y : β} (r : R x y) : All2 R [x] [y] := All2.cons r All2.nil
end
theorem set_cut {α : Type} {l : List α} {i : Nat} {y : α} (h : i < l.length) : l.take i ++ [y] ++ l.drop (i + 1) = l.set i y := by
  rw [List.set_eq_take_append_cons_drop, if_pos h, List.append_assoc]
  rfl
theorem swap_perm {α : Type} (l : List α) (i : Nat) : (l.take i ++ ((l.take (i + 2)).drop i).reverse ++ l.drop (i + 2)).Perm l := by
  have e : l = l.take i ++ (l.take (i + 2)).drop i ++ l.drop (i + 2) := by
    have h1 : l.take i = (l.take (i + 2)).take i := by rw [List.take_take, Nat.min_eq_left (by omega)]
    rw [h1, List.take_append_drop, List.take_append_drop]
  conv => rhs; rw [e]
  exact ((List.Perm.refl _).append (List.reverse_perm _)).append (List.Perm.refl _)
end Lag

set_option maxRecDepth 100000
set_option maxHeartbeats 4000000
namespace Lag
open PySem PySem.Spec PyProof.Rows L2
theorem ints_get : ∀ {its : List Value} {ns : List Int}, IntsAre its ns → ∀ {i : Nat} {v : Value}, its[i]? = some v → ∃ (z : Int) (t : Tok), v = .int z t ∧ ns[i]? = some z := by
  intro its ns h
  induction h with
  | nil => intro i v e; simp at e
  | cons n t _ ih =>
    intro i v e
    cases i with
    | zero =>
      simp at e
      exact ⟨n, t, e.symm, rfl⟩
    | succ i => exact ih (by simpa using e)
/-! ### max(xs, default=d) of whole numbers -/
section
variable {prog : Program} {w : World} {A : Around} {E : Value → Shared → Prop}
theorem dargs_max (a d : Value) : argsOk "max" ⟨[a], [(Str.ofString "default", d)]⟩ := by
  unfold argsOk
  kernel_rfl
/-- what is held while it goes on: nothing as yet, or the best of those that came -/
def Held_max (ns : List Int) (j : Nat) (its : Array Value) : Prop := (j = 0 ∧ its = #[]) ∨ (0 < j ∧ ∃ (m : Int) (t : Tok), its = #[.int m t, .int m t] ∧ m ∈ ns.take j ∧ ∀ y ∈ ns.take j, y ≤ m)
theorem dloop_max {R : Result → Shared → Prop} {I S : Addr} {fp wr : List Addr} {n : Nat} {Pv : Nat → Value → Prop} {St : Nat → Heap → Prop} {ns : List Int} {d : Value} (W : Walks prog w A.in1 I fp wr n Pv St) (hSf : S ∉ fp) (hn : ns.length = n)
    (hP : ∀ i v, Pv i v → ∃ (z : Int) (t : Tok), v = .int z t ∧ ns[i]? = some z) :
    ∀ (k j : Nat) (s : Shared) (its : Array Value) (c : Nat), n - j = k → j ≤ n → St j s.heap → s.heap.get? S = some { cls := .type "list", data := .seq its c } → Held_max ns j its →
    (∀ h' tk, (∀ b o, b ∉ wr → b ≠ S → s.heap.get? b = some o → h'.get? b = some o) → (ns = [] → R (.ok (.ret d)) { s with heap := h', toks := tk }) ∧ ∀ m t, m ∈ ns → (∀ y ∈ ns, y ≤ m) → R (.ok (.ret (.int m t))) { s with heap := h', toks := tk }) →
    codeAny (model prog w) A (.builtin "max.loop" ⟨[.ref I, .none, .ref S], [(Str.ofString "default", d)]⟩) R s := by
  have nSw : S ∉ wr := fun z => hSf (W.sub S z)
  have hnm : (toString "max" ++ toString ".loop" : String) = "max.loop" := by decide
  intro k
  induction k with
  | zero =>
    intro j s its c hk hj st hS hh hR
    have ej : j = n := by omega
    subst ej
    refine codeAny_builtin PySem.F.entry_max_loop ?_
    rw [Around.under_plainId PySem.F.plain_max_loop _]
    show wpAny _ A.in1 (seqItems? (.ref S) >>= _) _ _ s
    refine wpAny_bind (wpAny_seqItems hS rfl ?_)
    show wpAny _ A.in1 (tryCatch (pyNext (.ref I)) _ >>= _) _ _ s
    refine wpAny_bind (wpAny_tryCatch (W.done s _ _ st fun h' tk kp => ?_))
    have hS' := kp S _ nSw hS
    rcases hh with ⟨h0, rfl⟩ | ⟨h0, m, t, rfl, hm, hb⟩
    · refine wpAny_bind (wpAny_rule (wpAny_pure ?_))
      exact (hR h' tk fun b o nb _ e => kp b o nb e).1 (List.length_eq_zero_iff.mp (by omega))
    · show wpAny _ A.in1 (updateSeq S (fun _ => #[]) >>= _) _ _ _
      refine wpAny_bind ?_
      refine wpAny_updateSeq hS' rfl (wpAny_bind (wpAny_letGo (wpAny_pure ?_)))
      rw [List.take_of_length_le (by omega)] at hm hb
      exact (hR _ tk fun b o nb nS e => (Heap.get?_update_other _ _ (Ne.symm nS)).trans (kp b o nb e)).2 m t hm hb
  | succ k ih =>
    intro j s its c hk hj st hS hh hR
    have lt : j < n := by omega
    refine codeAny_builtin PySem.F.entry_max_loop ?_
    rw [Around.under_plainId PySem.F.plain_max_loop _]
    show wpAny _ A.in1 (seqItems? (.ref S) >>= _) _ _ s
    refine wpAny_bind (wpAny_seqItems hS rfl ?_)
    show wpAny _ A.in1 (tryCatch (pyNext (.ref I)) _ >>= _) _ _ s
    refine wpAny_bind (wpAny_tryCatch (W.item j s _ _ lt st fun v h' tk pv st' kp => ?_))
    have hS' := kp S _ nSw hS
    obtain ⟨z, tz, rfl, hz⟩ := hP j v pv
    have et : ns.take (j + 1) = ns.take j ++ [z] := by rw [List.take_add_one, hz]; rfl
    rcases hh with ⟨h0, rfl⟩ | ⟨h0, m, t, rfl, hm, hb⟩
    · show wpAny _ A.in1 (updateSeq S (fun _ => #[.int z tz, .int z tz]) >>= _) _ _ _
      refine wpAny_bind ?_
      refine wpAny_updateSeq hS' rfl ?_
      rw [hnm]
      refine wpAny_pure ⟨plainId_quiet PySem.F.plain_max_loop _, ih (j + 1) _ _ _ (by omega) lt (W.frame _ _ _ st' fun b hbf o e => (Heap.get?_update_other _ _ (fun q : S = b => hSf (by rw [q]; exact hbf))).trans e) (Heap.get?_update_self _ hS' rfl) (.inr ⟨by omega, z, tz, rfl, ?_, ?_⟩) fun h'' tk'' kp'' => ?_⟩
      · rw [et]; simp
      · subst h0
        rw [et]
        intro y hy
        simp at hy
        subst hy
        exact Int.le_refl _
      · exact hR h'' tk'' fun b o nb nS e => kp'' b o nb nS ((Heap.get?_update_other _ _ (Ne.symm nS)).trans (kp b o nb e))
    · show wpAny _ A.in1 (tryCatch (holding [.int z tz, .int z tz] (richCompare .Gt (.int z tz) (.int m t) >>= _)) _ >>= _) _ _ _
      refine wpAny_bind (wpAny_tryCatch (wpAny_holding (wpAny_bind (CmpOf.ints_gt (P := fun i v => ∃ t, v = Value.int (if i = 0 then z else m) t) (fun i => if i = 0 then z else m) (fun _ _ h => h) 0 1 _ _ _ _ _ ⟨tz, rfl⟩ ⟨t, rfl⟩ ?_))))
      refine wpAny_bind (wpAny_holding (wpAny_truthy_bool ?_))
      refine wpAny_bind (wpAny_letGo (wpAny_pure ?_))
      show wpAny _ A.in1 (if decide (z > m) = true then _ else _) _ _ _
      by_cases hzm : z > m
      · rw [if_pos (decide_eq_true hzm)]
        refine wpAny_bind ?_
        refine wpAny_updateSeq hS' rfl (wpAny_bind (wpAny_letGo ?_))
        rw [hnm]
        refine wpAny_pure ⟨plainId_quiet PySem.F.plain_max_loop _, ih (j + 1) _ _ _ (by omega) lt (W.frame _ _ _ st' fun b hbf o e => (Heap.get?_update_other _ _ (fun q : S = b => hSf (by rw [q]; exact hbf))).trans e) (Heap.get?_update_self _ hS' rfl) (.inr ⟨by omega, z, tz, rfl, ?_, ?_⟩) fun h'' tk'' kp'' => ?_⟩
        · rw [et]; simp
        · rw [et]
          intro y hy
          rcases List.mem_append.mp hy with hy | hy
          · have := hb y hy
            omega
          · simp at hy
            omega
        · exact hR h'' tk'' fun b o nb nS e => kp'' b o nb nS ((Heap.get?_update_other _ _ (Ne.symm nS)).trans (kp b o nb e))
      · rw [if_neg (by rw [decide_eq_false hzm]; decide)]
        refine wpAny_bind (wpAny_letGo ?_)
        rw [hnm]
        refine wpAny_pure ⟨plainId_quiet PySem.F.plain_max_loop _, ih (j + 1) _ _ c (by omega) lt st' hS' (.inr ⟨by omega, m, t, rfl, ?_, ?_⟩) fun h'' tk'' kp'' => ?_⟩
        · rw [et]; exact List.mem_append_left _ hm
        · rw [et]
          intro y hy
          rcases List.mem_append.mp hy with hy | hy
          · exact hb y hy
          · simp at hy
            omega
        · exact hR h'' tk'' fun b o nb nS e => kp'' b o nb nS (kp b o nb e)
theorem dcall_max {s : Shared} {l : Addr} {items : Array Value} {ns : List Int} {d : Value} {Q : Value → Shared → Prop} (hh : A.handled = none) (hl : s.heap.IsList l items) (hi : IntsAre items.toList ns)
    (h : ∀ h' tk, (∀ b o, s.heap.get? b = some o → h'.get? b = some o) → (ns = [] → Q d { s with heap := h', toks := tk }) ∧ ∀ m t, m ∈ ns → (∀ y ∈ ns, y ≤ m) → Q (.int m t) { s with heap := h', toks := tk }) :
    wpAny (model prog w) A (call (.builtin "max") [.ref l] [(Str.ofString "default", d)]) Q E s := by
  have hnm : (toString "max" ++ toString ".loop" : String) = "max.loop" := by decide
  have hlt : l < s.heap.objs.size := by obtain ⟨_, e, _⟩ := hl; exact Heap.lt_size e
  refine PyProof.Rows.kmk_tree PySem.F.kind_max PySem.F.plain_max PySem.F.entry_max (dargs_max _ _) ?_
  show wpAny _ A.in1 (Builtin.Builtins.bindParams "max" ["key", "default"] 0 ⟨[], [(Str.ofString "default", d)]⟩ >>= _) _ _ s
  refine wpAny_bind (wpAny_of_eq (show Builtin.Builtins.bindParams "max" ["key", "default"] 0 ⟨[], [(Str.ofString "default", d)]⟩ = pure [none, some d] from rfl) ?_)
  refine wpAny_bind (wpAny_pure ?_)
  refine wpAny_bind (wpAny_pyIter_list hl ?_)
  refine wpAny_bind (wpAny_newList ?_ (Nat.zero_le _))
  rw [hnm]
  have W := Walks.list (prog := prog) (w := w) (A := A.in1) hh s.heap.objs.size l (Nat.ne_of_lt hlt) items
  have e1 : (s.heap.push { cls := .type "list_iterator", data := .fields #[.ref l, .int 0 0] }).objs.size = s.heap.objs.size + 1 := Heap.size_push ..
  refine wpAny_pure ⟨plainId_quiet PySem.F.plain_max_loop _, dloop_max (ns := ns) W (fun q => ?_) ?_ (fun i v hv => ?_) items.size 0 _ #[] _ (by omega) (Nat.zero_le _) ?_ (Heap.get?_push_size _ rfl) (.inl ⟨rfl, rfl⟩) fun h' tk kp => ?_⟩
  · rw [e1] at q
    rcases List.mem_cons.mp q with q | q
    · exact Nat.succ_ne_self _ q
    · have q := List.mem_singleton.mp q
      rw [← q] at hlt
      exact Nat.not_lt.mpr (Nat.le_succ _) hlt
  · rw [← hi.length]
    simp
  · obtain ⟨z, t, e2, e3⟩ := ints_get hi (show items.toList[i]? = some v by simpa using hv)
    exact ⟨z, t, e2, e3⟩
  · exact ⟨⟨_, Heap.get?_push_of_some _ (Heap.get?_push_size _ rfl), rfl, rfl⟩, (hl.push _).push _⟩
  · refine h h' tk fun b o e => ?_
    have hb := Heap.lt_size e
    refine kp b o (fun q => ?_) (fun q => ?_) (Heap.get?_push_of_some _ (Heap.get?_push_of_some _ e))
    · rw [List.mem_singleton.mp q] at hb
      exact Nat.lt_irrefl _ hb
    · rw [q, e1] at hb
      exact Nat.not_lt.mpr (Nat.le_succ _) hb
end
/-! ### min(xs, default=d) of whole numbers -/
section
variable {prog : Program} {w : World} {A : Around} {E : Value → Shared → Prop}
theorem dargs_min (a d : Value) : argsOk "min" ⟨[a], [(Str.ofString "default", d)]⟩ := by
  unfold argsOk
  kernel_rfl
/-- what is held while it goes on: nothing as yet, or the best of those that came -/
def Held_min (ns : List Int) (j : Nat) (its : Array Value) : Prop := (j = 0 ∧ its = #[]) ∨ (0 < j ∧ ∃ (m : Int) (t : Tok), its = #[.int m t, .int m t] ∧ m ∈ ns.take j ∧ ∀ y ∈ ns.take j, m ≤ y)
theorem dloop_min {R : Result → Shared → Prop} {I S : Addr} {fp wr : List Addr} {n : Nat} {Pv : Nat → Value → Prop} {St : Nat → Heap → Prop} {ns : List Int} {d : Value} (W : Walks prog w A.in1 I fp wr n Pv St) (hSf : S ∉ fp) (hn : ns.length = n)
    (hP : ∀ i v, Pv i v → ∃ (z : Int) (t : Tok), v = .int z t ∧ ns[i]? = some z) :
    ∀ (k j : Nat) (s : Shared) (its : Array Value) (c : Nat), n - j = k → j ≤ n → St j s.heap → s.heap.get? S = some { cls := .type "list", data := .seq its c } → Held_min ns j its →
    (∀ h' tk, (∀ b o, b ∉ wr → b ≠ S → s.heap.get? b = some o → h'.get? b = some o) → (ns = [] → R (.ok (.ret d)) { s with heap := h', toks := tk }) ∧ ∀ m t, m ∈ ns → (∀ y ∈ ns, m ≤ y) → R (.ok (.ret (.int m t))) { s with heap := h', toks := tk }) →
    codeAny (model prog w) A (.builtin "min.loop" ⟨[.ref I, .none, .ref S], [(Str.ofString "default", d)]⟩) R s := by
  have nSw : S ∉ wr := fun z => hSf (W.sub S z)
  have hnm : (toString "min" ++ toString ".loop" : String) = "min.loop" := by decide
  intro k
  induction k with
  | zero =>
    intro j s its c hk hj st hS hh hR
    have ej : j = n := by omega
    subst ej
    refine codeAny_builtin PySem.F.entry_min_loop ?_
    rw [Around.under_plainId PySem.F.plain_min_loop _]
    show wpAny _ A.in1 (seqItems? (.ref S) >>= _) _ _ s
    refine wpAny_bind (wpAny_seqItems hS rfl ?_)
    show wpAny _ A.in1 (tryCatch (pyNext (.ref I)) _ >>= _) _ _ s
    refine wpAny_bind (wpAny_tryCatch (W.done s _ _ st fun h' tk kp => ?_))
    have hS' := kp S _ nSw hS
    rcases hh with ⟨h0, rfl⟩ | ⟨h0, m, t, rfl, hm, hb⟩
    · refine wpAny_bind (wpAny_rule (wpAny_pure ?_))
      exact (hR h' tk fun b o nb _ e => kp b o nb e).1 (List.length_eq_zero_iff.mp (by omega))
    · show wpAny _ A.in1 (updateSeq S (fun _ => #[]) >>= _) _ _ _
      refine wpAny_bind ?_
      refine wpAny_updateSeq hS' rfl (wpAny_bind (wpAny_letGo (wpAny_pure ?_)))
      rw [List.take_of_length_le (by omega)] at hm hb
      exact (hR _ tk fun b o nb nS e => (Heap.get?_update_other _ _ (Ne.symm nS)).trans (kp b o nb e)).2 m t hm hb
  | succ k ih =>
    intro j s its c hk hj st hS hh hR
    have lt : j < n := by omega
    refine codeAny_builtin PySem.F.entry_min_loop ?_
    rw [Around.under_plainId PySem.F.plain_min_loop _]
    show wpAny _ A.in1 (seqItems? (.ref S) >>= _) _ _ s
    refine wpAny_bind (wpAny_seqItems hS rfl ?_)
    show wpAny _ A.in1 (tryCatch (pyNext (.ref I)) _ >>= _) _ _ s
    refine wpAny_bind (wpAny_tryCatch (W.item j s _ _ lt st fun v h' tk pv st' kp => ?_))
    have hS' := kp S _ nSw hS
    obtain ⟨z, tz, rfl, hz⟩ := hP j v pv
    have et : ns.take (j + 1) = ns.take j ++ [z] := by rw [List.take_add_one, hz]; rfl
    rcases hh with ⟨h0, rfl⟩ | ⟨h0, m, t, rfl, hm, hb⟩
    · show wpAny _ A.in1 (updateSeq S (fun _ => #[.int z tz, .int z tz]) >>= _) _ _ _
      refine wpAny_bind ?_
      refine wpAny_updateSeq hS' rfl ?_
      rw [hnm]
      refine wpAny_pure ⟨plainId_quiet PySem.F.plain_min_loop _, ih (j + 1) _ _ _ (by omega) lt (W.frame _ _ _ st' fun b hbf o e => (Heap.get?_update_other _ _ (fun q : S = b => hSf (by rw [q]; exact hbf))).trans e) (Heap.get?_update_self _ hS' rfl) (.inr ⟨by omega, z, tz, rfl, ?_, ?_⟩) fun h'' tk'' kp'' => ?_⟩
      · rw [et]; simp
      · subst h0
        rw [et]
        intro y hy
        simp at hy
        subst hy
        exact Int.le_refl _
      · exact hR h'' tk'' fun b o nb nS e => kp'' b o nb nS ((Heap.get?_update_other _ _ (Ne.symm nS)).trans (kp b o nb e))
    · show wpAny _ A.in1 (tryCatch (holding [.int z tz, .int z tz] (richCompare .Lt (.int z tz) (.int m t) >>= _)) _ >>= _) _ _ _
      refine wpAny_bind (wpAny_tryCatch (wpAny_holding (wpAny_bind (CmpOf.ints_lt (P := fun i v => ∃ t, v = Value.int (if i = 0 then z else m) t) (fun i => if i = 0 then z else m) (fun _ _ h => h) 0 1 _ _ _ _ _ ⟨tz, rfl⟩ ⟨t, rfl⟩ ?_))))
      refine wpAny_bind (wpAny_holding (wpAny_truthy_bool ?_))
      refine wpAny_bind (wpAny_letGo (wpAny_pure ?_))
      show wpAny _ A.in1 (if decide (z < m) = true then _ else _) _ _ _
      by_cases hzm : z < m
      · rw [if_pos (decide_eq_true hzm)]
        refine wpAny_bind ?_
        refine wpAny_updateSeq hS' rfl (wpAny_bind (wpAny_letGo ?_))
        rw [hnm]
        refine wpAny_pure ⟨plainId_quiet PySem.F.plain_min_loop _, ih (j + 1) _ _ _ (by omega) lt (W.frame _ _ _ st' fun b hbf o e => (Heap.get?_update_other _ _ (fun q : S = b => hSf (by rw [q]; exact hbf))).trans e) (Heap.get?_update_self _ hS' rfl) (.inr ⟨by omega, z, tz, rfl, ?_, ?_⟩) fun h'' tk'' kp'' => ?_⟩
        · rw [et]; simp
        · rw [et]
          intro y hy
          rcases List.mem_append.mp hy with hy | hy
          · have := hb y hy
            omega
          · simp at hy
            omega
        · exact hR h'' tk'' fun b o nb nS e => kp'' b o nb nS ((Heap.get?_update_other _ _ (Ne.symm nS)).trans (kp b o nb e))
      · rw [if_neg (by rw [decide_eq_false hzm]; decide)]
        refine wpAny_bind (wpAny_letGo ?_)
        rw [hnm]
        refine wpAny_pure ⟨plainId_quiet PySem.F.plain_min_loop _, ih (j + 1) _ _ c (by omega) lt st' hS' (.inr ⟨by omega, m, t, rfl, ?_, ?_⟩) fun h'' tk'' kp'' => ?_⟩
        · rw [et]; exact List.mem_append_left _ hm
        · rw [et]
          intro y hy
          rcases List.mem_append.mp hy with hy | hy
          · exact hb y hy
          · simp at hy
            omega
        · exact hR h'' tk'' fun b o nb nS e => kp'' b o nb nS (kp b o nb e)
theorem dcall_min {s : Shared} {l : Addr} {items : Array Value} {ns : List Int} {d : Value} {Q : Value → Shared → Prop} (hh : A.handled = none) (hl : s.heap.IsList l items) (hi : IntsAre items.toList ns)
    (h : ∀ h' tk, (∀ b o, s.heap.get? b = some o → h'.get? b = some o) → (ns = [] → Q d { s with heap := h', toks := tk }) ∧ ∀ m t, m ∈ ns → (∀ y ∈ ns, m ≤ y) → Q (.int m t) { s with heap := h', toks := tk }) :
    wpAny (model prog w) A (call (.builtin "min") [.ref l] [(Str.ofString "default", d)]) Q E s := by
  have hnm : (toString "min" ++ toString ".loop" : String) = "min.loop" := by decide
  have hlt : l < s.heap.objs.size := by obtain ⟨_, e, _⟩ := hl; exact Heap.lt_size e
  refine PyProof.Rows.kmk_tree PySem.F.kind_min PySem.F.plain_min PySem.F.entry_min (dargs_min _ _) ?_
  show wpAny _ A.in1 (Builtin.Builtins.bindParams "min" ["key", "default"] 0 ⟨[], [(Str.ofString "default", d)]⟩ >>= _) _ _ s
  refine wpAny_bind (wpAny_of_eq (show Builtin.Builtins.bindParams "min" ["key", "default"] 0 ⟨[], [(Str.ofString "default", d)]⟩ = pure [none, some d] from rfl) ?_)
  refine wpAny_bind (wpAny_pure ?_)
  refine wpAny_bind (wpAny_pyIter_list hl ?_)
  refine wpAny_bind (wpAny_newList ?_ (Nat.zero_le _))
  rw [hnm]
  have W := Walks.list (prog := prog) (w := w) (A := A.in1) hh s.heap.objs.size l (Nat.ne_of_lt hlt) items
  have e1 : (s.heap.push { cls := .type "list_iterator", data := .fields #[.ref l, .int 0 0] }).objs.size = s.heap.objs.size + 1 := Heap.size_push ..
  refine wpAny_pure ⟨plainId_quiet PySem.F.plain_min_loop _, dloop_min (ns := ns) W (fun q => ?_) ?_ (fun i v hv => ?_) items.size 0 _ #[] _ (by omega) (Nat.zero_le _) ?_ (Heap.get?_push_size _ rfl) (.inl ⟨rfl, rfl⟩) fun h' tk kp => ?_⟩
  · rw [e1] at q
    rcases List.mem_cons.mp q with q | q
    · exact Nat.succ_ne_self _ q
    · have q := List.mem_singleton.mp q
      rw [← q] at hlt
      exact Nat.not_lt.mpr (Nat.le_succ _) hlt
  · rw [← hi.length]
    simp
  · obtain ⟨z, t, e2, e3⟩ := ints_get hi (show items.toList[i]? = some v by simpa using hv)
    exact ⟨z, t, e2, e3⟩
  · exact ⟨⟨_, Heap.get?_push_of_some _ (Heap.get?_push_size _ rfl), rfl, rfl⟩, (hl.push _).push _⟩
  · refine h h' tk fun b o e => ?_
    have hb := Heap.lt_size e
    refine kp b o (fun q => ?_) (fun q => ?_) (Heap.get?_push_of_some _ (Heap.get?_push_of_some _ e))
    · rw [List.mem_singleton.mp q] at hb
      exact Nat.lt_irrefl _ hb
    · rw [q, e1] at hb
      exact Nat.not_lt.mpr (Nat.le_succ _) hb
end
/-! ### as rules -/
theorem fold_max : ∀ (ns : List Int) (d : Int), ns ≠ [] → (∀ y ∈ ns, d ≤ y) → ns.foldl max d ∈ ns ∧ ∀ y ∈ ns, y ≤ ns.foldl max d
  | [], _, h, _ => absurd rfl h
  | x :: r, d, _, hd => by
    rw [List.foldl_cons, Int.max_eq_right (hd x (List.mem_cons_self ..))]
    exact go r x
where
  go : ∀ (r : List Int) (x : Int), r.foldl max x ∈ x :: r ∧ ∀ y ∈ x :: r, y ≤ r.foldl max x
    | [], x => ⟨by simp, by simp⟩
    | z :: r, x => by
      obtain ⟨h1, h2⟩ := go r (max x z)
      rw [List.foldl_cons]
      constructor
      · rcases List.mem_cons.mp h1 with e | e
        · rw [e]
          by_cases hx : x ≤ z
          · rw [Int.max_eq_right hx]; simp
          · rw [Int.max_eq_left (by omega)]; simp
        · exact List.mem_cons_of_mem _ (List.mem_cons_of_mem _ e)
      · intro y hy
        have hm := h2 (max x z) (List.mem_cons_self ..)
        rcases List.mem_cons.mp hy with rfl | hy
        · omega
        · rcases List.mem_cons.mp hy with rfl | hy
          · omega
          · exact h2 y (List.mem_cons_of_mem _ hy)
theorem fold_min : ∀ (ns : List Int) (d : Int), ns ≠ [] → (∀ y ∈ ns, y ≤ d) → ns.foldl min d ∈ ns ∧ ∀ y ∈ ns, ns.foldl min d ≤ y
  | [], _, h, _ => absurd rfl h
  | x :: r, d, _, hd => by
    rw [List.foldl_cons, Int.min_eq_right (hd x (List.mem_cons_self ..))]
    exact go r x
where
  go : ∀ (r : List Int) (x : Int), r.foldl min x ∈ x :: r ∧ ∀ y ∈ x :: r, r.foldl min x ≤ y
    | [], x => ⟨by simp, by simp⟩
    | z :: r, x => by
      obtain ⟨h1, h2⟩ := go r (min x z)
      rw [List.foldl_cons]
      constructor
      · rcases List.mem_cons.mp h1 with e | e
        · rw [e]
          by_cases hx : x ≤ z
          · rw [Int.min_eq_left hx]; simp
          · rw [Int.min_eq_right (by omega)]; simp
        · exact List.mem_cons_of_mem _ (List.mem_cons_of_mem _ e)
      · intro y hy
        have hm := h2 (min x z) (List.mem_cons_self ..)
        rcases List.mem_cons.mp hy with rfl | hy
        · omega
        · rcases List.mem_cons.mp hy with rfl | hy
          · omega
          · exact h2 y (List.mem_cons_of_mem _ hy)
/-- max(xs, default=d), d no greater than any of xs -/
def rMaxW (K : PySem.W.Frag) : List V → List V → Hp → VK → Prop := fun vs zs H Q => ∃ (a : Addr) (ns : List Int) (d : Int), vs = [.ref a] ∧ zs = [.int d] ∧ SqL K H a (ns.map V.int) ∧ (∀ y ∈ ns, d ≤ y) ∧ Q (.int (ns.foldl max d)) H
def rMinW (K : PySem.W.Frag) : List V → List V → Hp → VK → Prop := fun vs zs H Q => ∃ (a : Addr) (ns : List Int) (d : Int), vs = [.ref a] ∧ zs = [.int d] ∧ SqL K H a (ns.map V.int) ∧ (∀ y ∈ ns, y ≤ d) ∧ Q (.int (ns.foldl min d)) H
theorem cr_maxW {X : Cx} (hc : X.calm = true) : CallRK X (.builtin "max") ["default"] (rMaxW X.K) := by
  intro pins s σ H vs zs us ws Q I r rz h
  obtain ⟨a, ns, d, rfl, rfl, hs, hd, q⟩ := h
  obtain ⟨its, rv, hl, _⟩ := I.list hs
  obtain ⟨u, rfl, ru⟩ := Vals.one rz
  obtain ⟨td, rfl⟩ := ru
  rw [Vals.ref1 r]
  refine dcall_max (I.ok.hd hc) hl.isList (by simpa using rv.ints) fun h' tk hk => ⟨fun e => ?_, fun m t hm hb => ?_⟩
  · subst e
    exact ⟨.int d, H, I.kept hk, ⟨_, rfl⟩, q⟩
  · have hne : ns ≠ [] := fun e => by rw [e] at hm; simp at hm
    obtain ⟨h1, h2⟩ := fold_max ns d hne hd
    have e : m = ns.foldl max d := Int.le_antisymm (h2 m hm) (hb _ h1)
    exact ⟨.int m, H, I.kept hk, ⟨_, rfl⟩, by rw [e]; exact q⟩
theorem cr_minW {X : Cx} (hc : X.calm = true) : CallRK X (.builtin "min") ["default"] (rMinW X.K) := by
  intro pins s σ H vs zs us ws Q I r rz h
  obtain ⟨a, ns, d, rfl, rfl, hs, hd, q⟩ := h
  obtain ⟨its, rv, hl, _⟩ := I.list hs
  obtain ⟨u, rfl, ru⟩ := Vals.one rz
  obtain ⟨td, rfl⟩ := ru
  rw [Vals.ref1 r]
  refine dcall_min (I.ok.hd hc) hl.isList (by simpa using rv.ints) fun h' tk hk => ⟨fun e => ?_, fun m t hm hb => ?_⟩
  · subst e
    exact ⟨.int d, H, I.kept hk, ⟨_, rfl⟩, q⟩
  · have hne : ns ≠ [] := fun e => by rw [e] at hm; simp at hm
    obtain ⟨h1, h2⟩ := fold_min ns d hne hd
    have e : m = ns.foldl min d := Int.le_antisymm (hb _ h1) (h2 m hm)
    exact ⟨.int m, H, I.kept hk, ⟨_, rfl⟩, by rw [e]; exact q⟩
end Lag

set_option maxRecDepth 100000
set_option maxHeartbeats 4000000
namespace Lag
open PySem PySem.Spec PyProof.Rows L2
abbrev sSumOf : Stmt := topS 36
abbrev sProdOf : Stmt := topS 37
abbrev sMostOf : Stmt := topS 38
abbrev sLeastOf : Stmt := topS 39
abbrev sFirstOf : Stmt := topS 40
abbrev sOneOf : Stmt := topS 41
/-! ### a gate's worth, of the worths that come -/
def kindVal (k : Str) (l : List Int) : Int :=
  if k = "sum" then l.sum % 97 else if k = "times" then l.foldl (fun a b => a * b % 97) 1 else if k = "most" then l.foldl max 0 else if k = "least" then l.foldl min 96
  else if k = "one" then (if l.foldl max 0 > 0 then 1 else 0) else l.headD 0
def WOk1 (l : List Int) : Prop := ∀ y ∈ l, 0 ≤ y ∧ y ≤ 96
theorem kv_sum (l : List Int) : kindVal "sum" l = l.sum % 97 := by unfold kindVal; rw [if_pos rfl]
theorem kv_times (l : List Int) : kindVal "times" l = l.foldl (fun a b => a * b % 97) 1 := by
  unfold kindVal
  rw [if_neg (by decide +kernel), if_pos rfl]
theorem kv_most (l : List Int) : kindVal "most" l = l.foldl max 0 := by
  unfold kindVal
  rw [if_neg (by decide +kernel), if_neg (by decide +kernel), if_pos rfl]
theorem kv_least (l : List Int) : kindVal "least" l = l.foldl min 96 := by
  unfold kindVal
  rw [if_neg (by decide +kernel), if_neg (by decide +kernel), if_neg (by decide +kernel), if_pos rfl]
theorem kv_one (l : List Int) : kindVal "one" l = if l.foldl max 0 > 0 then 1 else 0 := by
  unfold kindVal
  rw [if_neg (by decide +kernel), if_neg (by decide +kernel), if_neg (by decide +kernel), if_neg (by decide +kernel), if_pos rfl]
theorem kv_first (l : List Int) : kindVal "first" l = l.headD 0 := by
  unfold kindVal
  rw [if_neg (by decide +kernel), if_neg (by decide +kernel), if_neg (by decide +kernel), if_neg (by decide +kernel), if_neg (by decide +kernel)]
theorem kv_out (l : List Int) : kindVal "out" l = l.headD 0 := by
  unfold kindVal
  rw [if_neg (by decide +kernel), if_neg (by decide +kernel), if_neg (by decide +kernel), if_neg (by decide +kernel), if_neg (by decide +kernel)]
theorem prod_bound : ∀ (l : List Int) (a : Int), 0 ≤ a ∧ a ≤ 96 → 0 ≤ l.foldl (fun a b => a * b % 97) a ∧ l.foldl (fun a b => a * b % 97) a ≤ 96
  | [], a, h => h
  | x :: l, a, h => by
    rw [List.foldl_cons]
    refine prod_bound l _ ⟨Int.emod_nonneg _ (by decide), ?_⟩
    have := Int.emod_lt_of_pos (a * x) (show (0 : Int) < 97 by decide)
    omega
theorem max_bound : ∀ (l : List Int) (a : Int), WOk1 l → 0 ≤ a ∧ a ≤ 96 → 0 ≤ l.foldl max a ∧ l.foldl max a ≤ 96
  | [], a, _, h => h
  | x :: l, a, hl, h => by
    rw [List.foldl_cons]
    have hx := hl x (List.mem_cons_self ..)
    exact max_bound l _ (fun y hy => hl y (List.mem_cons_of_mem _ hy)) ⟨by omega, by omega⟩
theorem min_bound : ∀ (l : List Int) (a : Int), WOk1 l → 0 ≤ a ∧ a ≤ 96 → 0 ≤ l.foldl min a ∧ l.foldl min a ≤ 96
  | [], a, _, h => h
  | x :: l, a, hl, h => by
    rw [List.foldl_cons]
    have hx := hl x (List.mem_cons_self ..)
    exact min_bound l _ (fun y hy => hl y (List.mem_cons_of_mem _ hy)) ⟨by omega, by omega⟩
theorem kv_bound (k : Str) {l : List Int} (h : WOk1 l) : 0 ≤ kindVal k l ∧ kindVal k l ≤ 96 := by
  unfold kindVal
  split
  · have h1 := Int.emod_nonneg l.sum (show (97 : Int) ≠ 0 by decide)
    have h2 := Int.emod_lt_of_pos l.sum (show (0 : Int) < 97 by decide)
    omega
  split
  · exact prod_bound l 1 (by decide)
  split
  · exact max_bound l 0 h (by decide)
  split
  · exact min_bound l 96 h (by decide)
  split
  · split <;> decide
  · cases l with
    | nil => decide
    | cons x l => exact h x (List.mem_cons_self ..)
def spR (K : PySem.W.Frag) (k : Str) : Sp := fun vs H Q _ => ∃ (a : Addr) (ns : List Int), vs = [.ref a] ∧ SqL K H a (ns.map V.int) ∧ WOk1 ns ∧ (k = "out" ∨ k = "first" → ns ≠ []) ∧ Q (.int (kindVal k ns)) H
section
variable {P : Program} {w : World} {K : PySem.W.Frag} {mg : Str → Option Value} {base : Heap}
theorem int_at {l : List Int} {i : Nat} {x : V} (h : (l.map V.int)[i]? = some x) : ∃ z, l[i]? = some z ∧ x = V.int z := by
  rw [List.getElem?_map] at h
  cases e : l[i]? with
  | none =>
    rw [e] at h
    cases h
  | some z =>
    rw [e] at h
    exact ⟨z, rfl, (Option.some.inj h).symm⟩
theorem scSumOf : FnScope ["coming"] ["coming"] (defScope sSumOf) := ⟨rfl, rfl, rfl, by decide +kernel, rfl, by decide +kernel, by decide +kernel⟩
theorem ok_sumOf {f : Addr} {fd : FuncData} (F : Fun K "sum_of" "sum_of" sSumOf f fd) (ms : mg "sum" = none) (md : ∃ t, mg "DIVISOR" = some (.int 97 t)) : FnOk P w K mg base CX0 1 f fd ["coming"] (spR K "sum") := by
  obtain ⟨td, hd⟩ := md
  refine F.ok scSumOf (fun vs H Q E h => ?_) (fun cdv A outer s H vs Q E hr h => ?_)
  · obtain ⟨a, ns, rfl, _⟩ := h
    rfl
  · obtain ⟨a, ns, rfl, sq, _, _, q⟩ := h
    refine ⟨_, pss_one <| ps_ret <| pe_op op_mod (pe_callB (cr_sum rfl) (by rfl) ms (by decide +kernel) (pa_cons (pv 0) pa_nil)) (pe_glob (v := .int 97) (by rfl) hd ⟨_, rfl⟩), ?_⟩
    refine ⟨_, rfl, a, ns, rfl, sq, _, _, rfl, rfl, (by show (0 : Int) < 97; decide), ?_⟩
    rw [kv_sum] at q
    exact q
theorem scProdOf : FnScope ["coming", "told", "worth"] ["coming"] (defScope sProdOf) := ⟨rfl, rfl, rfl, by decide +kernel, rfl, by decide +kernel, by decide +kernel⟩
theorem ok_prodOf {f : Addr} {fd : FuncData} (F : Fun K "product_of" "product_of" sProdOf f fd) (md : ∃ t, mg "DIVISOR" = some (.int 97 t)) : FnOk P w K mg base CX0 1 f fd ["coming"] (spR K "times") := by
  obtain ⟨td, hd⟩ := md
  refine F.ok scProdOf (fun vs H Q E h => ?_) (fun cdv A outer s H vs Q E hr h => ?_)
  · obtain ⟨a, ns, rfl, _⟩ := h
    rfl
  · obtain ⟨a, ns, rfl, sq, hw, _, q⟩ := h
    have nd := scProdOf.nd
    refine ⟨_, pss_cons (ps_set (i := 1) nd rfl (.inl rfl) pe_int) <| pss_cons (ps_for PassesOwn.never rfl (pi_list (pv 0)) (pg_name (i := 2) nd rfl (.inl rfl)) <|
      pss_one <| ps_set (i := 1) nd rfl (.inl rfl) <| pe_op op_mod (pe_op op_mul (pv 1) (pv 2)) (pe_glob (v := .int 97) (by rfl) hd ⟨_, rfl⟩)) <| pss_one <| ps_ret (pv 1), ?_⟩
    refine ⟨_, rfl, a, rfl, ⟨_, sq⟩, for_list (K := K) (a := a) (xs := ns.map V.int) (fun i σ H' => ∃ y, σ = [some (.ref a), some (.int ((ns.take i).foldl (fun a b => a * b % 97) 1)), y] ∧ H' = H) ⟨_, rfl, rfl⟩ (fun i σ H' _ ⟨_, _, e⟩ => by rw [e]; exact sq) ?_ ?_⟩
    · rintro i x σ H' hx ⟨y, rfl, rfl⟩
      obtain ⟨z, hz, rfl⟩ := int_at hx
      have hb := prod_bound (ns.take i) 1 (by decide)
      refine ⟨_, rfl, _, rfl, _, _, rfl, rfl, .inl ⟨by omega, by omega⟩, _, _, rfl, rfl, (by show (0 : Int) < 97; decide), some (.int z), ?_, rfl⟩
      rw [List.take_add_one, hz, List.foldl_append]
      rfl
    · rintro σ H' ⟨y, rfl, rfl⟩
      rw [List.length_map, List.take_length]
      rw [kv_times] at q
      exact ⟨_, rfl, q⟩
theorem scMostOf : FnScope ["coming"] ["coming"] (defScope sMostOf) := ⟨rfl, rfl, rfl, by decide +kernel, rfl, by decide +kernel, by decide +kernel⟩
theorem ok_mostOf {f : Addr} {fd : FuncData} (F : Fun K "most_of" "most_of" sMostOf f fd) (mm : mg "max" = none) : FnOk P w K mg base CX0 1 f fd ["coming"] (spR K "most") := by
  refine F.ok scMostOf (fun vs H Q E h => ?_) (fun cdv A outer s H vs Q E hr h => ?_)
  · obtain ⟨a, ns, rfl, _⟩ := h
    rfl
  · obtain ⟨a, ns, rfl, sq, hw, _, q⟩ := h
    refine ⟨_, pss_one <| ps_ret <| pe_callBK (cr_maxW rfl) (by rfl) mm (by decide +kernel) (pa_cons (pv 0) pa_nil) (pk_cons pe_int pk_nil), ?_⟩
    rw [kv_most] at q
    exact ⟨_, rfl, a, ns, 0, rfl, rfl, sq, fun y hy => (hw y hy).1, q⟩
theorem scLeastOf : FnScope ["coming"] ["coming"] (defScope sLeastOf) := ⟨rfl, rfl, rfl, by decide +kernel, rfl, by decide +kernel, by decide +kernel⟩
theorem ok_leastOf {f : Addr} {fd : FuncData} (F : Fun K "least_of" "least_of" sLeastOf f fd) (mm : mg "min" = none) (mw : ∃ t, mg "GREATEST_WORTH" = some (.int 96 t)) : FnOk P w K mg base CX0 1 f fd ["coming"] (spR K "least") := by
  obtain ⟨td, hd⟩ := mw
  refine F.ok scLeastOf (fun vs H Q E h => ?_) (fun cdv A outer s H vs Q E hr h => ?_)
  · obtain ⟨a, ns, rfl, _⟩ := h
    rfl
  · obtain ⟨a, ns, rfl, sq, hw, _, q⟩ := h
    refine ⟨_, pss_one <| ps_ret <| pe_callBK (cr_minW rfl) (by rfl) mm (by decide +kernel) (pa_cons (pv 0) pa_nil) (pk_cons (pe_glob (v := .int 96) (by rfl) hd ⟨_, rfl⟩) pk_nil), ?_⟩
    rw [kv_least] at q
    exact ⟨_, rfl, a, ns, 96, rfl, rfl, sq, fun y hy => (hw y hy).2, q⟩
theorem scFirstOf : FnScope ["coming"] ["coming"] (defScope sFirstOf) := ⟨rfl, rfl, rfl, by decide +kernel, rfl, by decide +kernel, by decide +kernel⟩
theorem ok_firstOf {f : Addr} {fd : FuncData} {k : Str} (hk : k = "out" ∨ k = "first") (F : Fun K "first_of" "first_of" sFirstOf f fd) : FnOk P w K mg base CX0 1 f fd ["coming"] (spR K k) := by
  refine F.ok scFirstOf (fun vs H Q E h => ?_) (fun cdv A outer s H vs Q E hr h => ?_)
  · obtain ⟨a, ns, rfl, _⟩ := h
    rfl
  · obtain ⟨a, ns, rfl, sq, hw, hne, q⟩ := h
    refine ⟨_, pss_one <| ps_ret <| pe_ix ix_list (pv 0) pe_int (fun _ _ => rfl), ?_⟩
    have e : kindVal k ns = ns.headD 0 := by
      rcases hk with rfl | rfl
      · exact kv_out ns
      · exact kv_first ns
    cases ns with
    | nil => exact absurd rfl (hne hk)
    | cons x r =>
      rw [e] at q
      exact ⟨_, rfl, a, _, 0, .int x, rfl, rfl, sq, atI_nat (j := 0) rfl, q⟩
theorem scOneOf : FnScope ["coming"] ["coming"] (defScope sOneOf) := ⟨rfl, rfl, rfl, by decide +kernel, rfl, by decide +kernel, by decide +kernel⟩
theorem ok_oneOf {f : Addr} {fd : FuncData} (F : Fun K "one_of" "one_of" sOneOf f fd) (mm : mg "max" = none) : FnOk P w K mg base CX0 1 f fd ["coming"] (spR K "one") := by
  refine F.ok scOneOf (fun vs H Q E h => ?_) (fun cdv A outer s H vs Q E hr h => ?_)
  · obtain ⟨a, ns, rfl, _⟩ := h
    rfl
  · obtain ⟨a, ns, rfl, sq, hw, _, q⟩ := h
    refine ⟨_, pss_one <| ps_ret <| pe_ifExp (pt_cmpR op_gt (pe_callBK (cr_maxW rfl) (by rfl) mm (by decide +kernel) (pa_cons (pv 0) pa_nil) (pk_cons pe_int pk_nil)) pe_int (nomark _)) pe_int pe_int, ?_⟩
    rw [kv_one] at q
    refine ⟨_, rfl, a, ns, 0, rfl, rfl, sq, fun y hy => (hw y hy).1, _, _, rfl, rfl, _, rfl, ite2 (fun e => ?_) (fun e => ?_)⟩
    · rw [if_pos (of_decide_eq_true e)] at q
      exact q
    · rw [if_neg (fun z => e (decide_eq_true z))] at q
      exact q
end
end Lag

set_option maxRecDepth 100000
set_option maxHeartbeats 8000000
namespace Lag
open PySem PySem.Spec PyProof.Rows L2
abbrev sWorths : Stmt := topS 43
abbrev sComing : Stmt := topS 44
abbrev sWireWorth : Stmt := topS 45
abbrev sChkRow : Stmt := topS 46
/-! ### worths in a beat: the mathematics -/
/-- a wire's worth, of the gates' worths ts -/
def wv (ts : List Int) (x : Wr) : Int := match x.2.2 with
  | r :: _ => r
  | [] => ts.getD x.1 0
def cmg (ws : List Wr) (ts : List Int) (g : Nat) : List Int := (ws.filter fun x => x.2.1 == g).map (wv ts)
/-- ts are the gates' worths where rs is put in -/
structure IsW (gs : List Gt) (ws : List Wr) (rs ts : List Int) : Prop where
  len : ts.length = gs.length
  put : ∀ (i g : Nat) (r : Int), (plc gs "in" gs.length)[i]? = some g → rs[i]? = some r → ts.getD g 0 = r
  eq : ∀ g, g < gs.length → kindAt gs g ≠ "in" → ts.getD g 0 = kindVal (kindAt gs g) (cmg ws ts g)
theorem mem_plc {gs : List Gt} {k : Str} {n g : Nat} : g ∈ plc gs k n ↔ g < n ∧ kindAt gs g = k := by
  unfold plc
  rw [List.mem_filter, List.mem_range]
  simp
theorem wv_congr {ts ts' : List Int} {x : Wr} (h : x.2.2 = [] → ts.getD x.1 0 = ts'.getD x.1 0) : wv ts x = wv ts' x := by
  unfold wv
  cases e : x.2.2 with
  | nil => exact h e
  | cons r l => rfl
theorem IsW.unique {gs : List Gt} {ws : List Wr} {rs ts ts' : List Int} (N : NetOk gs ws) (hr : rs.length = (plc gs "in" gs.length).length) (h : IsW gs ws rs ts) (h' : IsW gs ws rs ts') : ts = ts' := by
  obtain ⟨ρ, hρ⟩ := N.rank
  have all : ∀ r g, g < gs.length → ρ g = r → ts.getD g 0 = ts'.getD g 0 := by
    intro r
    induction r using Nat.strongRecOn with
    | ind r ih =>
      intro g hg hrg
      by_cases hk : kindAt gs g = "in"
      · have hm : g ∈ plc gs "in" gs.length := mem_plc.mpr ⟨hg, hk⟩
        obtain ⟨i, hi⟩ := List.getElem?_of_mem hm
        have hil : i < rs.length := by
          rw [hr]
          exact (List.getElem?_eq_some_iff.mp hi).1
        rw [h.put i g _ hi (List.getElem?_eq_getElem hil), h'.put i g _ hi (List.getElem?_eq_getElem hil)]
      · rw [h.eq g hg hk, h'.eq g hg hk]
        have e : cmg ws ts g = cmg ws ts' g := by
          unfold cmg
          refine List.map_congr_left fun x hx => ?_
          rw [List.mem_filter] at hx
          have hxg : x.2.1 = g := by simpa using hx.2
          refine wv_congr fun hb => ?_
          have := hρ x hx.1 hb
          exact ih (ρ x.1) (by rw [← hrg, ← hxg]; exact this) x.1 (N.wok x hx.1).s rfl
        rw [e]
  refine List.ext_getElem? fun i => ?_
  by_cases hi : i < gs.length
  · have h1 : i < ts.length := by rw [h.len]; exact hi
    have h2 : i < ts'.length := by rw [h'.len]; exact hi
    have e := all _ i hi rfl
    rw [List.getD_eq_getElem?_getD, List.getD_eq_getElem?_getD, List.getElem?_eq_getElem h1, List.getElem?_eq_getElem h2] at e
    rw [List.getElem?_eq_getElem h1, List.getElem?_eq_getElem h2]
    exact congrArg some e
  · rw [List.getElem?_eq_none (by rw [h.len]; omega), List.getElem?_eq_none (by rw [h'.len]; omega)]
theorem getD_set {ts : List Int} {g i : Nat} {z : Int} (hg : g < ts.length) : (ts.set g z).getD i 0 = if i = g then z else ts.getD i 0 := by
  rw [List.getD_eq_getElem?_getD, List.getD_eq_getElem?_getD, List.getElem?_set]
  by_cases e : g = i
  · subst e
    rw [if_pos rfl, if_pos rfl, if_pos hg]
    rfl
  · rw [if_neg e, if_neg (fun z => e z.symm)]
theorem wok_getD {ts : List Int} (h : WOk1 ts) (i : Nat) : 0 ≤ ts.getD i 0 ∧ ts.getD i 0 ≤ 96 := by
  rw [List.getD_eq_getElem?_getD]
  cases e : ts[i]? with
  | none => decide
  | some z => exact h z (List.mem_of_getElem? e)
theorem wv_bound {gs : List Gt} {ws : List Wr} {ts : List Int} (N : NetOk gs ws) (h : WOk1 ts) {x : Wr} (hx : x ∈ ws) : 0 ≤ wv ts x ∧ wv ts x ≤ 96 := by
  have W := N.wok x hx
  unfold wv
  cases e : x.2.2 with
  | nil => exact wok_getD h x.1
  | cons r l => exact W.r r (by rw [e]; exact List.mem_cons_self ..)
theorem cmg_bound {gs : List Gt} {ws : List Wr} {ts : List Int} (N : NetOk gs ws) (h : WOk1 ts) (g : Nat) : WOk1 (cmg ws ts g) := by
  intro y hy
  obtain ⟨x, hx, rfl⟩ := List.mem_map.mp hy
  exact wv_bound N h (List.mem_filter.mp hx).1
theorem cmg_ne {gs : List Gt} {ws : List Wr} {ts : List Int} (N : NetOk gs ws) {g : Nat} (hg : g < gs.length) (hk : kindAt gs g = "out" ∨ kindAt gs g = "first") : cmg ws ts g ≠ [] := by
  have hp : 1 ≤ cnt ws g := by
    rcases hk with hk | hk
    · have := N.one g hg hk
      omega
    · exact N.some g hg hk
  intro z
  have hl := congrArg List.length z
  unfold cmg at hl
  rw [List.length_map, List.length_nil] at hl
  unfold cnt at hp
  rw [List.countP_eq_length_filter, hl] at hp
  omega
/-! ### promises -/
def spWireWorth (K : PySem.W.Frag) : Sp := fun vs H Q _ => ∃ (v : V) (x : Wr) (lt : Addr) (ts : List Int), vs = [v, .ref lt] ∧ WireV K H v x ∧ SqL K H lt (ts.map V.int) ∧ x.1 < ts.length ∧ Q (.int (wv ts x)) H
def spComing (K : PySem.W.Frag) : Sp := fun vs H Q _ => ∃ (g : Nat) (lw lt : Addr) (ws : List Wr) (ts : List Int), vs = [.int (g : Nat), .ref lw, .ref lt] ∧ RW K H lw ws ∧ SqL K H lt (ts.map V.int) ∧ (∀ x ∈ ws, x.1 < ts.length) ∧ ws.length ≤ 1000 ∧
  ∀ p H', H p = none → Same H H' → H' p = some (.lst ((cmg ws ts g).map V.int)) → Q (.ref p) H'
def spChkRow (K : PySem.W.Frag) (C : Addr) : Sp := fun vs H Q _ => ∃ (p ng nw lr : Addr) (gs : List Gt) (ws : List Wr) (rs : List Int), vs = [.ref p, .ref lr] ∧ NetAt K C H p ng nw gs ws ∧ gs.length ≤ 1000 ∧ SqL K H lr (rs.map V.int) ∧ rs.length = (plc gs "in" gs.length).length ∧ WOk1 rs ∧ ∀ H', Same H H' → Q .non H'
def spWorths (K : PySem.W.Frag) (C : Addr) : Sp := fun vs H Q _ => ∃ (p ng nw lr : Addr) (gs : List Gt) (ws : List Wr) (rs : List Int), vs = [.ref p, .ref lr] ∧ NetAt K C H p ng nw gs ws ∧ NetOk gs ws ∧ SqL K H lr (rs.map V.int) ∧ rs.length = (plc gs "in" gs.length).length ∧ WOk1 rs ∧
  ∀ l H' ts, H l = none → Same H H' → IsW gs ws rs ts → WOk1 ts → H' l = some (.lst (ts.map V.int)) → Q (.ref l) H'
section
variable {P : Program} {w : World} {K : PySem.W.Frag} {mg : Str → Option Value} {base : Heap}
theorem scWireWorth : FnScope ["wire", "told", "start", "end", "held"] ["wire", "told"] (defScope sWireWorth) := ⟨rfl, rfl, rfl, by decide +kernel, rfl, by decide +kernel, by decide +kernel⟩
abbrev DWireWorth (P : Program) (w : World) (K : PySem.W.Frag) (mg : Str → Option Value) (base : Heap) := Df P w K mg base 1 "wire_worth" ["wire", "told"] (spWireWorth K)
theorem ok_wireWorth {f : Addr} {fd : FuncData} (F : Fun K "wire_worth" "wire_worth" sWireWorth f fd) (hm : mg "wire_worth" = some (.ref f)) (B : Bt mg) : DWireWorth P w K mg base f fd := by
  refine ⟨?_, hm, F.kp, F.binds fun _ _ _ _ _ _ us hl => match us, hl with | [_, _], _ => rfl⟩
  refine F.ok scWireWorth (fun vs H Q E h => ?_) (fun cdv A outer s H vs Q E hr h => ?_)
  · obtain ⟨v, x, lt, ts, rfl, _⟩ := h
    rfl
  · obtain ⟨v, x, lt, ts, rfl, ⟨a, b, rfl, sq1, sq2⟩, st, hx, q⟩ := h
    have nd := scWireWorth.nd
    refine ⟨_, pss_cons (ps_asg (pv 0) (pg_tup (by rfl) (pgs_cons (pg_name (i := 2) nd rfl (.inl rfl)) (pgs_cons (pg_name (i := 3) nd rfl (.inl rfl)) (pgs_cons (pg_name (i := 4) nd rfl (.inl rfl)) pgs_nil))))) <|
      pss_one <| ps_ret <| pe_ifExp (pt_cmpR op_gt (pe_callB call_len_seq (by rfl) B.len PySem.boot_len (pa_cons (pv 4) pa_nil)) pe_int (nomark _)) (pe_ix ix_tup (pv 4) pe_int (fun _ _ => rfl)) (pe_ix ix_list (pv 1) (pv 2) (fun _ _ => rfl)), ?_⟩
    refine ⟨_, rfl, a, _, rfl, sq1, rfl, _, _, rfl, _, _, rfl, _, _, rfl, rfl, ?_⟩
    refine ⟨_, rfl, b, _, rfl, .inr sq2, _, _, rfl, rfl, _, rfl, ite2 (fun e => ?_) (fun e => ?_)⟩
    · cases er : x.2.2 with
      | nil =>
        rw [er] at e
        exact absurd (of_decide_eq_true e) (by decide)
      | cons r l =>
        rw [er] at sq2
        have ew : wv ts x = r := by unfold wv; rw [er]
        rw [ew] at q
        exact ⟨_, rfl, b, _, 0, .int r, rfl, rfl, sq2, atI_nat (j := 0) rfl, q⟩
    · have er : x.2.2 = [] := by
        cases er : x.2.2 with
        | nil => rfl
        | cons r l =>
          rw [er] at e
          exfalso
          apply e
          refine decide_eq_true ?_
          rw [List.length_map, List.length_cons]
          omega
      have ew : wv ts x = ts.getD x.1 0 := by unfold wv; rw [er]
      rw [ew, List.getD_eq_getElem?_getD, List.getElem?_eq_getElem hx] at q
      exact ⟨_, rfl, _, rfl, lt, _, _, .int (ts[x.1]'hx), rfl, rfl, st, atI_nat (by rw [List.getElem?_map, List.getElem?_eq_getElem hx]; rfl), q⟩
abbrev nComing : List Str := ["gate", "wires", "told", "wire"]
theorem scComing : FnScope nComing ["gate", "wires", "told"] (defScope sComing) := ⟨rfl, rfl, rfl, by decide +kernel, rfl, by decide +kernel, by decide +kernel⟩
abbrev DComing (P : Program) (w : World) (K : PySem.W.Frag) (mg : Str → Option Value) (base : Heap) := Df P w K mg base 2 "coming_to" ["gate", "wires", "told"] (spComing K)
theorem cmg_take {ws : List Wr} {ts : List Int} {g i : Nat} {x : Wr} (h : ws[i]? = some x) : cmg (ws.take (i + 1)) ts g = if x.2.1 = g then cmg (ws.take i) ts g ++ [wv ts x] else cmg (ws.take i) ts g := by
  unfold cmg
  rw [List.take_add_one, h]
  show ((ws.take i ++ [x]).filter _).map _ = _
  rw [List.filter_append, List.filter_cons]
  by_cases e : x.2.1 = g
  · rw [if_pos e, if_pos (by simpa using e), List.map_append]
    rfl
  · rw [if_neg e, if_neg (by simpa using e), List.filter_nil, List.append_nil]
theorem cmg_len (ws : List Wr) (ts : List Int) (g : Nat) : (cmg ws ts g).length ≤ ws.length := by
  unfold cmg
  rw [List.length_map]
  exact List.length_filter_le _ _
theorem ok_coming {f fW : Addr} {fd fdW : FuncData} (F : Fun K "coming_to" "coming_to" sComing f fd) (hm : mg "coming_to" = some (.ref f)) (DW : DWireWorth P w K mg base fW fdW) : DComing P w K mg base f fd := by
  refine ⟨?_, hm, F.kp, F.binds fun _ _ _ _ _ _ us hl => match us, hl with | [_, _, _], _ => rfl⟩
  refine F.ok scComing (fun vs H Q E h => ?_) (fun cdv A outer s H vs Q E hr h => ?_)
  · obtain ⟨g, lw, lt, ws, ts, rfl, _⟩ := h
    rfl
  · obtain ⟨g, lw, lt, ws, ts, rfl, ⟨vw, sw, wa⟩, st, hx, hl, q⟩ := h
    have nd := scComing.nd
    refine ⟨_, pss_one <| ps_ret <| pe_lc (own := [("wire", 3)]) (g := gName 3) (tt := tTest (tOp rEq (tOp (rIxT K) (tVar 3) (tC (.int 1))) (tVar 0))) (te := tCall (spWireWorth K) [] E0 (tCons (tVar 3) (tCons (tVar 2) tNil))) rfl nd
      (pi_list (pv 1)) (blkOk_by (N := nComing) (sc := defScope sComing) (own := [("wire", 3)]) (by decide +kernel)) (fun _ _ _ _ _ => pg_name (i := 3) nd rfl (.inl rfl))
      (fun _ _ _ _ _ => pts_one (pt_cmpR op_eq (pe_ix ix_tup (pv 3) pe_int (fun _ _ => rfl)) (pv 0) (nomark _))) (fun _ _ _ _ _ => pe_call DW.ok hr (by rfl) DW.mg DW.kp DW.bd .nil pass0 (pa_cons (pv 3) (pa_cons (pv 2) pa_nil))), ?_⟩
    have hlw : vw.length = ws.length := wa.1
    refine ⟨_, rfl, lw, rfl, ⟨_, sw⟩, fun D hD => ?_⟩
    refine lc_list (K := K) (a := lw) (xs := vw) (fun i Hc => Hc D = some (.lst ((cmg (ws.take i) ts g).map V.int)) ∧ Same H Hc) ⟨upd_same, same_new hD⟩ (fun i Hc _ ⟨_, sm⟩ => sm.seq sw) ?_ ?_
    · rintro i v Hc hv ⟨hc, sm⟩
      obtain ⟨x, hxi, wx⟩ := wa.get hv
      have hwx := wx
      obtain ⟨a, b, rfl, sq1, sq2⟩ := wx
      have hlen : ((cmg (ws.take i) ts g).map V.int).length ≤ 1000 := by
        rw [List.length_map]
        have := cmg_len (ws.take i) ts g
        rw [List.length_take] at this
        omega
      refine ⟨rfl, ?_⟩
      refine ⟨_, rfl, a, _, 1, _, rfl, rfl, (TK.same sm).seq sq1, atI_nat (j := 1) rfl, _, rfl, rfl, _, rfl, ite2 (fun e => ?_) (fun e => ?_)⟩
      · have hg : x.2.1 = g := by
          have := V.int.inj (of_decide_eq_true e)
          omega
        refine ⟨_, rfl, _, rfl, _, x, lt, ts, rfl, hwx.tk (TK.same sm), sm.seq st, hx x (List.mem_of_getElem? hxi), _, hc, Nat.lt_of_le_of_lt hlen (small1000 (Nat.le_refl _)), ?_, same_mut sm hD⟩
        rw [upd_same, cmg_take hxi, if_pos hg, List.map_append]
        rfl
      · have hg : ¬ x.2.1 = g := fun z => e (decide_eq_true (by rw [z]))
        refine ⟨?_, sm⟩
        rw [cmg_take hxi, if_neg hg]
        exact hc
    · rintro Hc ⟨hc, sm⟩
      rw [hlw, List.take_length] at hc
      exact q D Hc hD sm hc
end
end Lag

set_option maxRecDepth 100000
set_option maxHeartbeats 8000000
namespace Lag
open PySem PySem.Spec PyProof.Rows L2
/-- a call of the def that a slot holds, told with it -/
theorem pe_callD {X : Cx} {k i : Nat} {x : Str} {p pos : Pos} {e : Expr} {es : List Expr} {t : TA} (hr : Room k X.A) (hN : X.N[i]? = some x) (hv : Vis X.env.scope x) (ha : PA X (e :: es) t)
    (hdb : (x == ("__debug__" : Str)) = false := by decide) (hcd : (x == ("__classdict__" : Str)) = false := by decide)
    (he : starEach (e :: es) X.env = (false, eval e X.env) :: starEach es X.env := by rfl) (hpl : (backTo pos (starEach es X.env)).any (·.1) = false := by rfl) :
    PE X (.Call (.Name x p) (e :: es) [] pos) (fun σ H Q => ∃ f fd ps sp, FnOk X.prog X.w X.K X.mg X.base CX0 k f fd ps sp ∧ PySem.W.keepIn X.K (.ref f) = true ∧ Binds X.K fd ps [] ∧ tCallL i f sp [] E0 t σ H Q) := by
  refine ⟨fun pins s σ H Q I h => ?_⟩
  obtain ⟨f, fd, ps, sp, F, hk, hb, h⟩ := h
  exact (pe_callL F hr hN hv hk hb .nil pass0 ha hdb hcd he hpl).run pins s σ H Q I h
/-- the rules by their kinds -/
structure Rl (P : Program) (w : World) (K : PySem.W.Frag) (mg : Str → Option Value) (base : Heap) (aR : Addr) : Prop where
  mR : mg "RULES" = some (.ref aR)
  kd : ∀ k ∈ kinds, k ≠ "in" → ∃ f fd, KDct K w aR k (.ref f) ∧ FnOk P w K mg base CX0 1 f fd ["coming"] (spR K k) ∧ PySem.W.keepIn K (.ref f) = true ∧ Binds K fd ["coming"] []
theorem rs_all {K : PySem.W.Frag} {H : Hp} (b : Bool) : True := trivial
section
variable {P : Program} {w : World} {K : PySem.W.Frag} {mg : Str → Option Value} {base : Heap}
/-! ### check_row -/
abbrev nChkRow : List Str := ["net", "row", "worth"]
theorem scChkRow : FnScope nChkRow ["net", "row"] (defScope sChkRow) := ⟨rfl, rfl, rfl, by decide +kernel, rfl, by decide +kernel, by decide +kernel⟩
abbrev DChkRow (P : Program) (w : World) (K : PySem.W.Frag) (mg : Str → Option Value) (base : Heap) (C : Addr) := Df P w K mg base 4 "check_row" ["net", "row"] (spChkRow K C)
theorem ok_chkRow {f fW fN C : Addr} {fd fdW fdN : FuncData} (F : Fun K "check_row" "check_row" sChkRow f fd) (hm : mg "check_row" = some (.ref f)) (B : Bt mg) (T : NT K mg C) (DW : DWorth P w K mg base fW fdW) (ins : FnOk P w K mg base CX0 2 fN fdN ["self"] (spPorts K C "in")) (mN : Meth K C "ins" fN) (bN : Binds K fdN ["self"] []) : DChkRow P w K mg base C f fd := by
  refine ⟨?_, hm, F.kp, F.binds fun _ _ _ _ _ _ us hl => match us, hl with | [_, _], _ => rfl⟩
  refine F.ok scChkRow (fun vs H Q E h => ?_) (fun cdv A outer s H vs Q E hr h => ?_)
  · obtain ⟨p, ng, nw, lr, gs, ws, rs, rfl, _⟩ := h
    rfl
  · obtain ⟨p, ng, nw, lr, gs, ws, rs, rfl, N, hgl, sr, hl, hw, q⟩ := h
    have nd := scChkRow.nd
    have hr2 : Room 2 _ := hr.mono (by decide)
    refine ⟨_, pss_cons (ps_if (PW.pt (pw_or (pt_not (pt_val (pe_callB call_isi (by rfl) B.isi (by decide +kernel) (pa_cons (pv 1) (pa_cons (pe_bltn (v := .ty "list") (by rfl) B.list (by decide +kernel) rfl) pa_nil)))))
          (pw_or1 (pt_cmpR op_ne (pe_callB call_len_seq (by rfl) B.len PySem.boot_len (pa_cons (pv 1) pa_nil)) (pe_callB call_len_seq (by rfl) B.len PySem.boot_len (pa_cons (pe_meth0 (pv 0) T.cl mN ins hr2 bN .nil pass0) pa_nil)) (nomark _))))) (pss_one ps_never) pss_nil) <|
      pss_one <| ps_if (pt_not (pt_val (pe_callB (cr_all rfl) (by rfl) B.all (by decide +kernel) <| (pa_cons · pa_nil) <| pe_lc (own := [("worth", 2)]) (g := gName 2) (tt := tYes) (te := tCall spWorth [] E0 (tCons (tVar 2) tNil)) rfl nd (pi_list (pv 1)) (blkOk_by (N := nChkRow) (sc := defScope sChkRow) (own := [("worth", 2)]) (by decide +kernel))
          (fun _ _ _ _ _ => pg_name (i := 2) nd rfl (.inl rfl)) (fun _ _ _ _ _ => pts_nil) (fun _ _ _ _ _ => pe_call DW.ok hr (by rfl) DW.mg DW.kp DW.bd .nil pass0 (pa_cons (pv 2) pa_nil))))) (pss_one ps_never) pss_nil, ?_⟩
    obtain ⟨dx, ob⟩ := N.ob
    have hpl := plc_len gs "in" gs.length
    refine ⟨_, rfl, _, _, _, _, true, rfl, .ty "list", ty_lst sr, kit_ty (by decide +kernel), true, rfl, iteF ?_⟩
    refine ⟨_, rfl, lr, _, rfl, .inl sr, _, rfl, p, dx, _, rfl, ob, nf_no _ _ (by decide +kernel) (by decide +kernel), p, ng, nw, gs, ws, rfl, N, hgl, fun l1 H1 hl1 sm1 el1 => ?_⟩
    refine ⟨l1, _, rfl, .inl (SqL.of el1), rfl, false, ?_, iteF ?_⟩
    · show V.bl (!decide (V.int (((rs.map V.int).length : Nat) : Int) = V.int ((((plc gs "in" gs.length).map fun i => V.int (i : Nat)).length : Nat) : Int))) = V.bl false
      rw [List.length_map, List.length_map, hl, decide_eq_true rfl]
      rfl
    refine ⟨_, rfl, lr, rfl, ⟨_, sm1.seq sr⟩, fun D hD => ?_⟩
    refine lc_list (K := K) (a := lr) (xs := rs.map V.int) (fun i Hc => Hc D = some (.lst ((List.replicate i true).map V.bl)) ∧ Same H1 Hc) ⟨upd_same, same_new hD⟩ (fun i Hc _ ⟨_, sm⟩ => (sm1.trans sm).seq sr) ?_ ?_
    · rintro i y Hc hy ⟨hc, sm⟩
      obtain ⟨z, ez, rfl⟩ := int_at hy
      have hz := hw z (List.mem_of_getElem? ez)
      have hi : i < rs.length := (List.getElem?_eq_some_iff.mp ez).1
      refine ⟨rfl, tyes ?_⟩
      refine ⟨_, rfl, z, rfl, _, hc, by rw [List.length_map, List.length_replicate]; exact small1000 (by omega), ?_, same_mut sm hD⟩
      rw [upd_same, decide_eq_true hz.1, decide_eq_true hz.2, List.replicate_succ', List.map_append]
      rfl
    · rintro Hc ⟨hc, sm⟩
      refine ⟨D, _, rfl, SqL.of hc, true, ?_, iteF (q Hc (sm1.trans sm))⟩
      have e : (List.replicate (rs.map V.int).length true).all id = true := by
        rw [List.all_eq_true]
        intro y hy
        rw [List.mem_replicate] at hy
        rw [hy.2]
        rfl
      rw [e]
/-! ### worths -/
theorem scWorths : FnScope ["net", "row", "told", "gate", "put", "kind", "rule"] ["net", "row"] (defScope sWorths) := ⟨rfl, rfl, rfl, by decide +kernel, rfl, by decide +kernel, by decide +kernel⟩
abbrev DWorths (P : Program) (w : World) (K : PySem.W.Frag) (mg : Str → Option Value) (base : Heap) (C : Addr) := Df P w K mg base 5 "worths" ["net", "row"] (spWorths K C)
theorem set_int {ts : List Int} {g : Nat} {z : Int} : (ts.map V.int).set g (V.int z) = (ts.set g z).map V.int := by simp [List.map_set]
theorem wok_set {ts : List Int} {g : Nat} {z : Int} (h : WOk1 ts) (hz : 0 ≤ z ∧ z ≤ 96) : WOk1 (ts.set g z) := by
  intro y hy
  rcases List.mem_or_eq_of_mem_set hy with hy | hy
  · exact h y hy
  · rw [hy]
    exact hz
theorem zeros (n : Nat) : (List.replicate n [V.int 0]).flatten = (List.replicate n (0 : Int)).map V.int := by
  induction n with
  | zero => rfl
  | succ n ih =>
    rw [List.replicate_succ, List.flatten_cons, ih, List.replicate_succ]
    rfl
theorem plc_nodup (gs : List Gt) (k : Str) (n : Nat) : (plc gs k n).Nodup := List.nodup_range.sublist List.filter_sublist

/-- the list at l may be changed -/
theorem But.put {l : Addr} {H H' : Hp} {o : HO} (b : But l H H') : But l H (L2.upd H' l o) := fun c u n e => by
  rw [upd_ne n]
  exact b c u n e
theorem But.net {K : PySem.W.Frag} {C l p ng nw : Addr} {H H' : Hp} {gs : List Gt} {ws : List Wr} {xs : List V} (b : But l H H') (hl : H l = some (.lst xs)) (n : NetAt K C H p ng nw gs ws) (h1 : ng ≠ l) (h2 : nw ≠ l) : NetAt K C H' p ng nw gs ws := by
  obtain ⟨dx, ob⟩ := n.ob
  obtain ⟨gv, hg, ga⟩ := n.g
  obtain ⟨wv, hw, wa⟩ := n.w
  have t : TK H H' := fun c u t e => b c u (fun z => by
    rw [z, hl] at e
    cases e
    exact t) e
  exact ⟨⟨dx, b _ _ (ne_of ob hl (by intro z; cases z)) ob⟩, ⟨gv, b _ _ h1 hg, ga.imp fun _ _ r => r.tk t⟩, ⟨wv, b _ _ h2 hw, wa.imp fun _ _ r => r.tk t⟩, n.ne⟩
theorem ok_worths {f fR fO fC fN C aR : Addr} {fd fdR fdO fdC fdN : FuncData} (F : Fun K "worths" "worths" sWorths f fd) (hm : mg "worths" = some (.ref f)) (B : Bt mg) (T : NT K mg C) (RL : Rl P w K mg base aR) (DR : DChkRow P w K mg base C fR fdR) (DO : DOrder P w K mg base fO fdO) (DC : DComing P w K mg base fC fdC)
    (ins : FnOk P w K mg base CX0 2 fN fdN ["self"] (spPorts K C "in")) (mN : Meth K C "ins" fN) (bN : Binds K fdN ["self"] []) : DWorths P w K mg base C f fd := by
  refine ⟨?_, hm, F.kp, F.binds fun _ _ _ _ _ _ us hl => match us, hl with | [_, _], _ => rfl⟩
  refine F.ok scWorths (fun vs H Q E h => ?_) (fun cdv A outer s H vs Q E hr h => ?_)
  · obtain ⟨p, ng, nw, lr, gs, ws, rs, rfl, _⟩ := h
    rfl
  · obtain ⟨p, ng, nw, lr, gs, ws, rs, rfl, NA, N, sr, hl, hw, q⟩ := h
    have nd := scWorths.nd
    have hr1 : Room 1 _ := hr.mono (by decide)
    have hr2 : Room 2 _ := hr.mono (by decide)
    refine ⟨_, pss_cons (ps_expr (pe_call DR.ok hr (by rfl) DR.mg DR.kp DR.bd .nil pass0 (pa_cons (pv 0) (pa_cons (pv 1) pa_nil)))) <|
      pss_cons (ps_set (i := 2) nd rfl (.inl rfl) (pe_op op_rep (pe_lst (pa_cons pe_int pa_nil)) (pe_callB call_len_seq (by rfl) B.len PySem.boot_len (pa_cons (pe_fld (pv 0) rfl) pa_nil)))) <|
      pss_cons (ps_for PassesOwn.never rfl (pi_zip (by rfl) B.zip (pa_cons (pe_meth0 (pv 0) T.cl mN ins hr2 bN .nil pass0) (pa_cons (pv 1) pa_nil))) (pg_tup rfl (pgs_cons (pg_name (i := 3) nd rfl (.inl rfl)) (pgs_cons (pg_name (i := 4) nd rfl (.inl rfl)) pgs_nil))) <|
        pss_one <| ps_asg (pv 4) (pg_sub (pv 2) (pv 3) set_list)) <|
      pss_cons (ps_for PassesOwn.never rfl (pi_list (pe_call DO.ok hr2 (by rfl) DO.mg DO.kp DO.bd .nil pass0 (pa_cons (pe_callB call_len_seq (by rfl) B.len PySem.boot_len (pa_cons (pe_fld (pv 0) rfl) pa_nil)) (pa_cons (pe_fld (pv 0) rfl) pa_nil)))) (pg_name (i := 3) nd rfl (.inl rfl)) <|
        pss_cons (ps_set (i := 5) nd rfl (.inl rfl) (pe_ix ix_tup (pe_ix ix_list (pe_fld (pv 0) rfl) (pv 3) (fun _ _ => rfl)) pe_int (fun _ _ => rfl))) <|
        pss_one <| ps_if (pt_cmpR op_ne (pv 5) pe_str (nomark _))
          (pss_cons (ps_set (i := 6) nd rfl (.inl rfl) (pe_ix ix_kdict (pe_glob (v := .ref aR) (by rfl) RL.mR rfl) (pv 5) (fun _ _ => rfl))) <|
            pss_one <| ps_asg (pe_callD (i := 6) hr1 rfl (.inl rfl) (pa_cons (pe_call DC.ok hr2 (by rfl) DC.mg DC.kp DC.bd .nil pass0 (pa_cons (pv 3) (pa_cons (pe_fld (pv 0) rfl) (pa_cons (pv 2) pa_nil)))) pa_nil)) (pg_sub (pv 2) (pv 3) set_list)) pss_nil) <|
      pss_one <| ps_ret (pv 2), ?_⟩
    obtain ⟨dx, ob⟩ := NA.ob
    have hgl := N.gl
    obtain ⟨gv, hgv, ga⟩ := id NA.g
    have hlg : gv.length = gs.length := ga.1
    have hgl' : gs.length ≤ 1000 := by omega
    refine ⟨_, rfl, _, rfl, p, ng, nw, lr, gs, ws, rs, rfl, NA, hgl', sr, hl, hw, fun H1 sm1 => ?_⟩
    -- told = [0] * len(net.gates)
    refine ⟨(by show 1 ≤ sizeLine; decide), fun l0 hl0 => ?_⟩
    have sm2 := sm1.trans (same_new (o := .lst [.int 0]) hl0)
    refine ⟨_, rfl, p, C, dx, _, _, rfl, sm2 _ _ ob, T.cl, T.nG, nf_gates _ _, ng, gv, rfl, .inl (SqL.of (sm2 _ _ hgv)), l0, _, _, rfl, rfl, upd_same, by omega, by omega, ?_, fun lt hlt => ?_⟩
    · show 1 * _ ≤ sizeLine
      have : 1 * ((gv.length : Int)).toNat ≤ 1000 := by omega
      exact Nat.le_of_lt (small1000 this)
    rw [Int.toNat_natCast, zeros, hlg]
    have hltH : H lt = none := sm2.free hlt
    have sm3 := sm2.trans (same_new (o := .lst ((List.replicate gs.length (0 : Int)).map V.int)) hlt)
    have elt : (upd (upd H1 l0 (.lst [.int 0])) lt (.lst ((List.replicate gs.length (0 : Int)).map V.int))) lt = some (.lst ((List.replicate gs.length (0 : Int)).map V.int)) := upd_same
    generalize upd (upd H1 l0 (.lst [.int 0])) lt (.lst ((List.replicate gs.length (0 : Int)).map V.int)) = H3 at sm3 elt
    have nglt : ng ≠ lt := ne_of_none hgv hltH
    have nwlt : nw ≠ lt := by
      obtain ⟨wv0, hwv0, _⟩ := NA.w
      exact ne_of_none hwv0 hltH
    have nlr : ∀ {H' : Hp}, But lt H H' → SqL K H' lr (rs.map V.int) := fun {H'} b => by
      refine Same.seq (fun c o e => b c o (ne_of_none e hltH) e) sr
    -- for gate, put in zip(net.ins(), row)
    refine ⟨_, rfl, p, dx, _, rfl, sm3 _ _ ob, nf_no _ _ (by decide +kernel) (by decide +kernel), p, ng, nw, gs, ws, rfl, NA.same sm3, hgl', fun li H4 hli sm4 eli => ?_⟩
    have sm14 := sm3.trans sm4
    have elt4 := sm4 _ _ elt
    have nlilt : li ≠ lt := fun z => by
      rw [z, elt] at hli
      cases hli
    have hpl := plc_len gs "in" gs.length
    refine ⟨_, rfl, li, lr, _, _, rfl, SqL.of eli, sm14.seq sr, RZ.for_zipL (K := K) (a := li) (b := lr) (xs := (plc gs "in" gs.length).map fun i => V.int (i : Nat)) (ys := rs.map V.int) (by rw [List.length_map, List.length_map, hl])
      (fun i σ H' => ∃ (s3 s4 : Option V) (ts : List Int), σ = [some (.ref p), some (.ref lr), some (.ref lt), s3, s4, none, none] ∧ H' lt = some (.lst (ts.map V.int)) ∧ But lt H4 H' ∧ ts.length = gs.length ∧ WOk1 ts ∧ ∀ (j g : Nat) (r : Int), j < i → (plc gs "in" gs.length)[j]? = some g → rs[j]? = some r → ts.getD g 0 = r)
      ⟨_, _, List.replicate gs.length 0, rfl, elt4, But.refl _ _, List.length_replicate, ?_, fun j g r h => by omega⟩ (fun i σ H' ⟨_, _, _, _, _, b, _⟩ => ⟨SqL.of (b _ _ nlilt eli), nlr ((But.same sm14).trans b)⟩) ?_ ?_⟩
    · intro y hy
      rw [List.mem_replicate] at hy
      rw [hy.2]
      decide
    · rintro i x y T' σ H' hx hy ⟨s3', s4', ts, rfl, et, bt, htl, hwt, hput⟩ hT
      rw [List.getElem?_map] at hx
      cases eg : (plc gs "in" gs.length)[i]? with
      | none =>
        rw [eg] at hx
        cases hx
      | some g =>
      rw [eg] at hx
      cases hx
      obtain ⟨r, er, rfl⟩ := int_at hy
      have hg := mem_plc.mp (List.mem_of_getElem? eg)
      have hr0 := hw r (List.mem_of_getElem? er)
      have sT : Same H' (upd H' T' (.tup [.int (g : Nat), .int r])) := same_new hT
      refine ⟨T', _, rfl, .inl (.inl upd_same), rfl, _, _, rfl, _, _, rfl, rfl, ?_⟩
      refine ⟨_, rfl, _, rfl, _, rfl, lt, _, _, g, rfl, rfl, sT _ _ et, Evl.ixN_nat (by rw [List.length_map, htl]; exact hg.1), ?_⟩
      rw [set_int]
      refine ⟨_, _, ts.set g r, rfl, upd_same, (bt.trans (But.same sT)).put, by rw [List.length_set]; exact htl, wok_set hwt hr0, fun j g' r' hj e1 e2 => ?_⟩
      rw [getD_set (by rw [htl]; exact hg.1)]
      by_cases hji : j = i
      · subst hji
        rw [eg] at e1
        cases e1
        rw [er] at e2
        cases e2
        rw [if_pos rfl]
      · rw [if_neg (fun z => hji (nd_ix (plc_nodup gs "in" gs.length) e1 (by rw [z]; exact eg)))]
        exact hput j g' r' (by omega) e1 e2
    · rintro σ H' ⟨s3', s4', ts0, rfl, et0, bt0, htl0, hwt0, hput0⟩
      have hpl2 : ((plc gs "in" gs.length).map fun i => V.int (i : Nat)).length = (plc gs "in" gs.length).length := List.length_map ..
      rw [hpl2] at hput0
      have b5 : But lt H H' := (But.same sm14).trans bt0
      have NA5 : NetAt K C H' p ng nw gs ws := bt0.net elt4 (NA.same sm14) nglt nwlt
      obtain ⟨dx5, ob5⟩ := NA5.ob
      obtain ⟨gv5, hgv5, ga5⟩ := NA5.g
      have hlg5 : gv5.length = gs.length := ga5.1
      -- for gate in bare_order(..)
      refine ⟨_, rfl, p, C, dx5, _, _, rfl, ob5, T.cl, T.nG, nf_gates _ _, ng, gv5, rfl, .inl (SqL.of hgv5), _, rfl, p, C, dx5, _, _, rfl, ob5, T.cl, T.nW, nf_wires _ _, gv5.length, nw, ws, rfl, NA5.w.rw, fun x hx => ?_, by omega, N.wl, fun ord lo H6 ho sm6 hlo elo => ?_⟩
      · rw [hlg5]
        exact ⟨(N.wok x hx).s, (N.wok x hx).e⟩
      rw [hlg5] at ho
      have et6 := sm6 _ _ et0
      have nlolt : lo ≠ lt := fun z => by
        rw [z, et0] at hlo
        cases hlo
      have NA6 := NA5.same sm6
      have hperm := ho.full (fun x hx => ⟨(N.wok x hx).s, (N.wok x hx).e⟩) N.rank
      refine ⟨lo, rfl, ⟨_, SqL.of elo⟩, for_list (K := K) (a := lo) (xs := ord.map fun i => V.int (i : Nat)) (fun i σ H' => ∃ (s3 s4 s5 s6 : Option V) (ts : List Int), σ = [some (.ref p), some (.ref lr), some (.ref lt), s3, s4, s5, s6] ∧ H' lt = some (.lst (ts.map V.int)) ∧ But lt H6 H' ∧ ts.length = gs.length ∧ WOk1 ts ∧
          (∀ (j g : Nat) (r : Int), (plc gs "in" gs.length)[j]? = some g → rs[j]? = some r → ts.getD g 0 = r) ∧ ∀ g, g ∈ ord.take i → kindAt gs g ≠ "in" → ts.getD g 0 = kindVal (kindAt gs g) (cmg ws ts g))
        ⟨_, _, _, _, ts0, rfl, et6, But.refl _ _, htl0, hwt0, fun j g r e1 e2 => hput0 j g r (List.getElem?_eq_some_iff.mp e1).1 e1 e2, by simp⟩ (fun i σ H' _ ⟨_, _, _, _, _, _, _, b, _⟩ => SqL.of (b _ _ nlolt elo)) ?_ ?_⟩
      · rintro i x σ H7 hx ⟨t3, t4, t5, t6, ts, rfl, et, bt, htl, hwt, hput, heq⟩
        rw [List.getElem?_map] at hx
        cases eg : ord[i]? with
        | none =>
          rw [eg] at hx
          cases hx
        | some g =>
        rw [eg] at hx
        cases hx
        have hg : g < gs.length := ho.lt g (List.mem_of_getElem? eg)
        have NA7 : NetAt K C H7 p ng nw gs ws := bt.net et6 NA6 nglt nwlt
        obtain ⟨dx7, ob7⟩ := NA7.ob
        obtain ⟨gv7, hgv7, ga7⟩ := NA7.g
        have hggs : gs[g]? = some gs[g] := List.getElem?_eq_getElem hg
        obtain ⟨y, hy, a, rfl, sq⟩ := ga7.getR hggs
        have hk : kindAt gs g = gs[g].1 := kindAt_get hggs
        have etk : ord.take (i + 1) = ord.take i ++ [g] := take_add eg
        have ngt : g ∉ ord.take i := nodup_take ho.nd eg
        refine ⟨_, rfl, p, C, dx7, _, _, rfl, ob7, T.cl, T.nG, nf_gates _ _, _, rfl, ng, gv7, _, _, rfl, rfl, SqL.of hgv7, atI_nat hy, a, _, 0, _, rfl, rfl, sq, atI_nat (j := 0) rfl, ?_⟩
        refine ⟨_, rfl, rfl, _, rfl, ite2 (fun e => ?_) (fun e => ?_)⟩
        · have hkn : kindAt gs g ≠ "in" := fun z => by
            rw [hk] at z
            rw [z] at e
            simp at e
          obtain ⟨fk, fdk, kd, Fk, kpk, bk⟩ := RL.kd gs[g].1 (N.gok _ (List.getElem_mem hg)).1 (by rw [← hk]; exact hkn)
          refine ⟨_, rfl, aR, gs[g].1, .ref fk, rfl, rfl, kd, ?_⟩
          refine ⟨fk, fdk, ["coming"], spR K gs[g].1, Fk, kpk, bk, rfl, _, rfl, _, rfl, p, C, dx7, _, _, rfl, ob7, T.cl, T.nW, nf_wires _ _, _, rfl, g, nw, lt, ws, ts, rfl, NA7.w.rw, SqL.of et, fun x hx => by rw [htl]; exact (N.wok x hx).s, N.wl, fun lc H8 hlc sm8 elc => ?_⟩
          refine ⟨lc, _, rfl, SqL.of elc, cmg_bound N hwt g, fun z => cmg_ne N hg (by rw [hk]; exact z), ?_⟩
          refine ⟨_, rfl, _, rfl, lt, _, _, g, rfl, rfl, sm8 _ _ et, Evl.ixN_nat (by rw [List.length_map, htl]; exact hg), ?_⟩
          rw [set_int]
          have hcg : ∀ e', (∀ x ∈ ws, x.2.1 = e' → x.2.2 = [] → x.1 ≠ g) → cmg ws (ts.set g (kindVal gs[g].1 (cmg ws ts g))) e' = cmg ws ts e' := fun e' he' => by
            unfold cmg
            refine List.map_congr_left fun x hx => ?_
            rw [List.mem_filter] at hx
            refine wv_congr fun hb => ?_
            rw [getD_set (by rw [htl]; exact hg), if_neg (he' x hx.1 (by simpa using hx.2) hb)]
          have hbare : ∀ j e', ord[j]? = some e' → j ≤ i → ∀ x ∈ ws, x.2.1 = e' → x.2.2 = [] → x.1 ≠ g := fun j e' hj hji x hx hxe hxr z => by
            have hb : (x.1, x.2.1) ∈ bare ws := List.mem_map.mpr ⟨x, List.mem_filter.mpr ⟨hx, by rw [hxr]; rfl⟩, rfl⟩
            have := ho.top j e' hj _ hb hxe
            rw [show ((x.1, x.2.1) : Nat × Nat).1 = x.1 from rfl, z] at this
            exact ngt (List.take_subset_take_left ord hji this)
          refine ⟨_, _, _, _, _, rfl, upd_same, (bt.trans (But.same sm8)).put, by rw [List.length_set]; exact htl, wok_set hwt (kv_bound _ (cmg_bound N hwt g)), fun j g' r' e1 e2 => ?_, fun g' hg' hk' => ?_⟩
          · rw [getD_set (by rw [htl]; exact hg), if_neg (fun z => hkn (by rw [← z]; exact (mem_plc.mp (List.mem_of_getElem? e1)).2))]
            exact hput j g' r' e1 e2
          · rw [etk] at hg'
            rcases List.mem_append.mp hg' with hg' | hg'
            · obtain ⟨j, hj⟩ := List.getElem?_of_mem hg'
              have hji : j < i := by
                have := (List.getElem?_eq_some_iff.mp hj).1
                rw [List.length_take] at this
                omega
              rw [List.getElem?_take_of_lt hji] at hj
              rw [getD_set (by rw [htl]; exact hg), if_neg (fun z => ngt (by rw [← z]; exact hg')), hcg g' (hbare j g' hj (by omega))]
              exact heq g' hg' hk'
            · simp at hg'
              subst hg'
              rw [getD_set (by rw [htl]; exact hg), if_pos rfl, hcg _ (hbare i _ eg (Nat.le_refl _)), hk]
        · have hki : kindAt gs g = "in" := by
            rw [hk]
            refine Classical.byContradiction fun z => e ?_
            show (!decide (V.str gs[g].1 = V.str "in")) = true
            rw [decide_eq_false (fun y => z (V.str.inj y))]
            rfl
          refine ⟨_, _, _, _, ts, rfl, et, bt, htl, hwt, hput, fun g' hg' hk' => ?_⟩
          rw [etk] at hg'
          rcases List.mem_append.mp hg' with hg' | hg'
          · exact heq g' hg' hk'
          · simp at hg'
            subst hg'
            exact absurd hki hk'
      · rintro σ H7 ⟨t3, t4, t5, t6, ts, rfl, et, bt, htl, hwt, hput, heq⟩
        rw [List.length_map, List.take_length] at heq
        refine ⟨_, rfl, q lt H7 ts hltH (fun b o e => (b5.trans ((But.same sm6).trans bt)) b o (ne_of_none e hltH) e) ⟨htl, hput, fun g hg hk => heq g (hperm.mem_iff.mpr (List.mem_range.mpr hg)) hk⟩ hwt et⟩
end
end Lag

set_option maxRecDepth 100000
set_option maxHeartbeats 8000000
namespace Lag
open PySem PySem.Spec PyProof.Rows L2
abbrev sNetBehind : Stmt := topS 48 -- @net_behind
abbrev sBeat : Stmt := topS 47
abbrev sBehind : Stmt := topS 49
section
variable {K : PySem.W.Frag} {C : Addr} {H : Hp}
/-- Net(gates, wires), behind its arguments -/
theorem net_in {Q : Addr → Hp → Prop} {lg lw : Addr} {gs : List Gt} {ws : List Wr} (R : RG K H lg gs) (R2 : RW K H lw ws) (N : NetOk gs ws)
    (q : ∀ p ng nw H', NetAt K C H' p ng nw gs ws → Same H H' → H p = none → H ng = none → H nw = none → Q p H') :
    ∀ x dx, H x = none → H dx = none → dx ≠ x → spInit K C (.ref x :: ([.ref lg, .ref lw] ++ [])) (upd (upd H dx (.own x)) x (.ins C dx [])) (fun v H' => v = .non ∧ Q x H') E0 := by
  intro x dx hx hdx ne
  have s0 : Same H (upd (upd H dx (.own x)) x (.ins C dx [])) := fun b o e => by
    rw [upd_ne (ne_of_none e hx), upd_ne (ne_of_none e hdx)]
    exact e
  refine ⟨x, dx, lg, lw, gs, ws, rfl, upd_same, R.same s0, R2.same s0, N, fun H' ng nw A h1 h2 k => ⟨rfl, ?_⟩⟩
  exact q x ng nw H' A (Same.made hx hdx k) hx (s0.free h1) (s0.free h2)
end
/-! ### a wire behind a beat -/
def bh (ts : List Int) (x : Wr) : Wr := match x.2.2 with
  | [] => x
  | _ :: l => (x.1, x.2.1, l ++ [ts.getD x.1 0])
theorem bh_ends (ts : List Int) (x : Wr) : (bh ts x).1 = x.1 ∧ (bh ts x).2.1 = x.2.1 ∧ (bh ts x).2.2.length = x.2.2.length := by
  unfold bh
  cases e : x.2.2 with
  | nil => simp [e]
  | cons r l => simp
theorem bh_bare {ts : List Int} {x : Wr} (h : (bh ts x).2.2 = []) : x.2.2 = [] := by
  have := (bh_ends ts x).2.2
  rw [h] at this
  exact List.length_eq_zero_iff.mp this.symm
theorem NetOk.behind {gs : List Gt} {ws : List Wr} {ts : List Int} (N : NetOk gs ws) (ht : WOk1 ts) : NetOk gs (ws.map (bh ts)) := by
  obtain ⟨ρ, hρ⟩ := N.rank
  have c : ∀ e, cnt (ws.map (bh ts)) e = cnt ws e := fun e => by
    unfold cnt
    rw [List.countP_map]
    refine List.countP_congr fun x _ => ?_
    simp only [Function.comp, (bh_ends ts x).2.1]
  refine ⟨N.ne, N.gl, by rw [List.length_map]; exact N.wl, N.gok, fun y hy => ?_, fun e he hk => by rw [c]; exact N.one e he hk, fun e he hk => by rw [c]; exact N.some e he hk, ρ, fun y hy h => ?_⟩
  · obtain ⟨x, hx, rfl⟩ := List.mem_map.mp hy
    have W := N.wok x hx
    obtain ⟨e1, e2, e3⟩ := bh_ends ts x
    refine ⟨by rw [e1]; exact W.s, by rw [e2]; exact W.e, by rw [e1]; exact W.ks, by rw [e2]; exact W.ke, ?_, by rw [e3]; exact W.rl⟩
    unfold bh
    cases e : x.2.2 with
    | nil =>
      show ROk x.2.2
      exact W.r
    | cons r l =>
      intro y hy
      rcases List.mem_append.mp hy with hy | hy
      · exact W.r y (by rw [e]; exact List.mem_cons_of_mem _ hy)
      · simp only [List.mem_singleton] at hy
        rw [hy]
        exact wok_getD ht x.1
  · obtain ⟨x, hx, rfl⟩ := List.mem_map.mp hy
    obtain ⟨e1, e2, _⟩ := bh_ends ts x
    rw [e1, e2]
    exact hρ x hx (bh_bare h)
def spBehind (K : PySem.W.Frag) : Sp := fun vs H Q _ => ∃ (v : V) (x : Wr) (lt : Addr) (ts : List Int), vs = [v, .ref lt] ∧ WireV K H v x ∧ SqL K H lt (ts.map V.int) ∧ x.1 < ts.length ∧ x.2.2.length ≤ 900 ∧ ∀ v' H', Same H H' → WireV K H' v' (bh ts x) → Q v' H'
def spBeat (K : PySem.W.Frag) (C : Addr) : Sp := fun vs H Q _ => ∃ (p ng nw lr : Addr) (gs : List Gt) (ws : List Wr) (rs : List Int), vs = [.ref p, .ref lr] ∧ NetAt K C H p ng nw gs ws ∧ NetOk gs ws ∧ SqL K H lr (rs.map V.int) ∧ rs.length = (plc gs "in" gs.length).length ∧ WOk1 rs ∧
  ∀ t p' ng' nw' lo H' ts, Same H H' → IsW gs ws rs ts → WOk1 ts → NetAt K C H' p' ng' nw' gs (ws.map (bh ts)) → H' lo = some (.lst ((plc gs "out" gs.length).map fun g => V.int (ts.getD g 0))) → H' t = some (.tup [.ref p', .ref lo]) → H p' = none → H ng' = none → H nw' = none → H lo = none → Q (.ref t) H'
section
variable {P : Program} {w : World} {K : PySem.W.Frag} {mg : Str → Option Value} {base : Heap}
theorem scBehind : FnScope ["wire", "told", "start", "end", "held"] ["wire", "told"] (defScope sBehind) := ⟨rfl, rfl, rfl, by decide +kernel, rfl, by decide +kernel, by decide +kernel⟩
abbrev DBehind (P : Program) (w : World) (K : PySem.W.Frag) (mg : Str → Option Value) (base : Heap) := Df P w K mg base 1 "wire_behind" ["wire", "told"] (spBehind K)
theorem ok_behind {f : Addr} {fd : FuncData} (F : Fun K "wire_behind" "wire_behind" sBehind f fd) (hm : mg "wire_behind" = some (.ref f)) (B : Bt mg) : DBehind P w K mg base f fd := by
  refine ⟨?_, hm, F.kp, F.binds fun _ _ _ _ _ _ us hl => match us, hl with | [_, _], _ => rfl⟩
  refine F.ok scBehind (fun vs H Q E h => ?_) (fun cdv A outer s H vs Q E hr h => ?_)
  · obtain ⟨v, x, lt, ts, rfl, _⟩ := h
    rfl
  · obtain ⟨v, x, lt, ts, rfl, hwv, st, hx, hxl, q⟩ := h
    have hwv0 := hwv
    obtain ⟨a, b, rfl, sq1, sq2⟩ := hwv
    have nd := scBehind.nd
    refine ⟨_, pss_cons (ps_asg (pv 0) (pg_tup (by rfl) (pgs_cons (pg_name (i := 2) nd rfl (.inl rfl)) (pgs_cons (pg_name (i := 3) nd rfl (.inl rfl)) (pgs_cons (pg_name (i := 4) nd rfl (.inl rfl)) pgs_nil))))) <|
      pss_one <| ps_ret <| pe_ifExp (pt_cmpR op_gt (pe_callB call_len_seq (by rfl) B.len PySem.boot_len (pa_cons (pv 4) pa_nil)) pe_int (nomark _))
        (pe_tup (pa_cons (pv 2) (pa_cons (pv 3) (pa_cons (pe_op op_catA (pe_slice sl_tupA (pv 4) (po_some pe_int) po_none) (pe_tup (pa_cons (pe_ix ix_list (pv 1) (pv 2) (fun _ _ => rfl)) pa_nil))) pa_nil)))) (pv 0), ?_⟩
    refine ⟨_, rfl, a, _, rfl, sq1, rfl, _, _, rfl, _, _, rfl, _, _, rfl, rfl, ?_⟩
    refine ⟨_, rfl, b, _, rfl, .inr sq2, _, _, rfl, rfl, _, rfl, ite2 (fun e => ?_) (fun e => ?_)⟩
    · obtain ⟨x1, x2, xr⟩ := x
      cases xr with
      | nil => exact absurd (of_decide_eq_true e) (by simp)
      | cons r l =>
      have eb : bh ts (x1, x2, r :: l) = (x1, x2, l ++ [ts.getD x1 0]) := rfl
      have hll : l.length ≤ 900 := by
        have h2 : l.length + 1 ≤ 900 := hxl
        omega
      have ef : cutV ((r :: l).map V.int) (some 1) none = l.map V.int := (cut_from (xs := (r :: l).map V.int) 1).trans rfl
      refine ⟨_, rfl, _, rfl, _, rfl, 1, rfl, b, _, rfl, sq2, fun z => ?_, fun _ s1 hs1 => ?_⟩
      · exfalso
        have z1 : min 1 ((r :: l).map V.int).length = 0 := (HT.sIx_nat _ 0 1).symm.trans z.1
        rw [List.map_cons, List.length_cons] at z1
        omega
      rw [ef]
      have sm1 : Same H (upd H s1 (.tup (l.map V.int))) := same_new hs1
      have egd : ts.getD x1 0 = ts[x1]'hx := by
        rw [List.getD_eq_getElem?_getD, List.getElem?_eq_getElem hx]
        rfl
      refine ⟨_, rfl, _, rfl, lt, _, _, .int (ts.getD x1 0), rfl, rfl, sm1.seq st, atI_nat (by rw [List.getElem?_map, List.getElem?_eq_getElem hx, egd]; rfl), (by show 1 ≤ sizeLine; decide), fun t1 ht1 => ?_⟩
      have sm2 := sm1.trans (same_new (o := .tup [.int (ts.getD x1 0)]) ht1)
      have es1 : SqT K (upd (upd H s1 (.tup (l.map V.int))) t1 (.tup [.int (ts.getD x1 0)])) s1 (l.map V.int) := (TK.new ht1).seq (.inl (.inl upd_same))
      refine ⟨s1, t1, l.map V.int, [.int (ts.getD x1 0)], rfl, rfl, es1, .inl (.inl upd_same), ?_, fun z => ?_, (fun _ z => by cases z), fun _ _ c hc => ?_⟩
      · rw [List.length_map]
        show _ + 1 ≤ sizeLine
        exact Nat.le_of_lt (small1000 (by omega))
      · refine ⟨(by show 3 ≤ sizeLine; decide), fun t2 ht2 => ?_⟩
        have ez : l = [] := List.map_eq_nil_iff.mp z
        refine q _ _ (sm2.trans (same_new ht2)) ?_
        rw [eb]
        have e5 : (l ++ [ts.getD x1 0]).map V.int = [.int (ts.getD x1 0)] := by
          rw [ez]
          rfl
        refine ⟨t2, t1, rfl, .inl (.inl upd_same), (TK.new ht2).seq ?_⟩
        show SqT K _ t1 ((l ++ [ts.getD x1 0]).map V.int)
        rw [e5]
        exact .inl (.inl upd_same)
      · refine ⟨(by show 3 ≤ sizeLine; decide), fun t2 ht2 => ?_⟩
        have sm3 := sm2.trans (same_new (o := .tup (l.map V.int ++ [.int (ts.getD x1 0)])) hc)
        refine q _ _ (sm3.trans (same_new ht2)) ?_
        rw [eb]
        refine ⟨t2, c, rfl, .inl (.inl upd_same), (TK.new ht2).seq ?_⟩
        rw [List.map_append]
        exact .inl (.inl upd_same)
    · have er : x.2.2 = [] := by
        cases er : x.2.2 with
        | nil => rfl
        | cons r l =>
          rw [er] at e
          exfalso
          apply e
          refine decide_eq_true ?_
          rw [List.length_map, List.length_cons]
          omega
      have eb : bh ts x = x := by unfold bh; rw [er]
      rw [eb] at q
      exact ⟨_, rfl, q _ H (Same.refl H) hwv0⟩
def spNetBehind (K : PySem.W.Frag) (C : Addr) : Sp := fun vs H Q _ => ∃ (p ng nw lt : Addr) (gs : List Gt) (ws : List Wr) (ts : List Int), vs = [.ref p, .ref lt] ∧ NetAt K C H p ng nw gs ws ∧ NetOk gs ws ∧ H lt = some (.lst (ts.map V.int)) ∧ ts.length = gs.length ∧ WOk1 ts ∧
  ∀ p' ng' nw' H', Same H H' → NetAt K C H' p' ng' nw' gs (ws.map (bh ts)) → H p' = none → H ng' = none → H nw' = none → Q (.ref p') H'
abbrev nNetB : List Str := ["net", "told", "wire"]
theorem scNetB : FnScope nNetB ["net", "told"] (defScope sNetBehind) := ⟨rfl, rfl, rfl, by decide +kernel, rfl, by decide +kernel, by decide +kernel⟩
abbrev DNetB (P : Program) (w : World) (K : PySem.W.Frag) (mg : Str → Option Value) (base : Heap) (C : Addr) := Df P w K mg base 8 "net_behind" ["net", "told"] (spNetBehind K C)
theorem ok_netBehind {f fB fI C : Addr} {fd fdB fdI : FuncData} (F : Fun K "net_behind" "net_behind" sNetBehind f fd) (hm : mg "net_behind" = some (.ref f)) (T : NT K mg C) (DB : DBehind P w K mg base fB fdB)
    (MK : Mk K C fI) (init : FnOk P w K mg base CX0 6 fI fdI ["self", "gates", "wires"] (spInit K C)) (bI : Binds K fdI ["self", "gates", "wires"] []) : DNetB P w K mg base C f fd := by
  refine ⟨?_, hm, F.kp, F.binds fun _ _ _ _ _ _ us hl => match us, hl with | [_, _], _ => rfl⟩
  refine F.ok scNetB (fun vs H Q E h => ?_) (fun cdv A outer s H vs Q E hr h => ?_)
  · obtain ⟨p, ng, nw, lt, gs, ws, ts, rfl, _⟩ := h
    rfl
  · obtain ⟨p, ng, nw, lt, gs, ws, ts, rfl, NA1, N, elt, hlt, wt, q⟩ := h
    have nd := scNetB.nd
    have hr1 : Room 1 _ := hr.mono (by decide)
    refine ⟨_, pss_one <| ps_ret (pe_make MK init hr (by rfl) T.mg bI .nil pass0 (pa_cons (pe_fld (pv 0) rfl) (pa_cons
        (pe_lc (own := [("wire", 2)]) (g := gName 2) (tt := tYes) (te := tCall (spBehind K) [] E0 (tCons (tVar 2) (tCons (tVar 1) tNil))) rfl nd (pi_list (pe_fld (pv 0) rfl)) (blkOk_by (N := nNetB) (sc := defScope sNetBehind) (own := [("wire", 2)]) (by decide +kernel)) (fun _ _ _ _ _ => pg_name (i := 2) nd rfl (.inl rfl)) (fun _ _ _ _ _ => pts_nil)
          (fun _ _ _ _ _ => pe_call DB.ok hr1 (by rfl) DB.mg DB.kp DB.bd .nil pass0 (pa_cons (pv 2) (pa_cons (pv 1) pa_nil)))) pa_nil))), ?_⟩
    have hgl := N.gl
    have hwl := N.wl
    obtain ⟨dx, ob⟩ := NA1.ob
    obtain ⟨vw, hvw, wa⟩ := NA1.w
    have hlw : vw.length = ws.length := wa.1
    refine ⟨_, rfl, p, C, dx, _, _, rfl, ob, T.cl, T.nG, nf_gates _ _, _, rfl, p, C, dx, _, _, rfl, ob, T.cl, T.nW, nf_wires _ _, nw, rfl, ⟨_, SqL.of hvw⟩, fun D hD => ?_⟩
    refine lc_list (K := K) (a := nw) (xs := vw) (fun i Hc => ∃ acc, Hc D = some (.lst acc) ∧ acc.length = i ∧ All2 (WireV K Hc) acc ((ws.take i).map (bh ts)) ∧ Same H Hc) ⟨[], upd_same, rfl, by simpa using All2.nil, same_new hD⟩ (fun i Hc _ ⟨_, _, _, _, sm⟩ => SqL.of (sm _ _ hvw)) ?_ ?_
    · rintro i v Hc hv ⟨acc, hacc, hal, haa, sm⟩
      obtain ⟨x, hx, wx⟩ := wa.get hv
      have hi : i < ws.length := (List.getElem?_eq_some_iff.mp hx).1
      have W := N.wok x (List.mem_of_getElem? hx)
      refine ⟨rfl, tyes ?_⟩
      refine ⟨_, rfl, _, rfl, v, x, lt, ts, rfl, wx.tk (TK.same sm), SqL.of (sm _ _ elt), by rw [hlt]; exact W.s, W.rl, fun v' H2 sm2 wx' => ?_⟩
      have hacc2 := sm2 _ _ hacc
      refine ⟨acc, hacc2, small1000 (by omega), acc ++ [v'], upd_same, by simp [hal], ?_, same_mut (sm.trans sm2) hD⟩
      have t2 : TK Hc (upd H2 D (.lst (acc ++ [v']))) := (TK.same sm2).trans (TK.lst hacc2)
      rw [List.take_add_one, hx, List.map_append]
      exact (haa.imp fun _ _ r => r.tk t2).snoc (wx'.tk (TK.lst hacc2))
    · rintro H2 ⟨acc, hacc, hal, haa, sm2⟩
      rw [hlw, List.take_length] at haa
      exact net_in (NA1.g.same sm2).rg ⟨acc, SqL.of hacc, haa⟩ (N.behind wt) fun p' ng' nw' H3 NA3 s3 hp' hng' hnw' => q p' ng' nw' H3 (sm2.trans s3) NA3 (sm2.free hp') (sm2.free hng') (sm2.free hnw')
abbrev nBeat : List Str := ["net", "row", "told", "gate"]
theorem scBeat : FnScope nBeat ["net", "row"] (defScope sBeat) := ⟨rfl, rfl, rfl, by decide +kernel, rfl, by decide +kernel, by decide +kernel⟩
abbrev DBeat (P : Program) (w : World) (K : PySem.W.Frag) (mg : Str → Option Value) (base : Heap) (C : Addr) := Df P w K mg base 9 "beat" ["net", "row"] (spBeat K C)
theorem ok_beat {f fW fB fO C : Addr} {fd fdW fdB fdO : FuncData} (F : Fun K "beat" "beat" sBeat f fd) (hm : mg "beat" = some (.ref f)) (T : NT K mg C) (DW : DWorths P w K mg base C fW fdW) (DB : DNetB P w K mg base C fB fdB) (outs : FnOk P w K mg base CX0 2 fO fdO ["self"] (spPorts K C "out")) (mO : Meth K C "outs" fO) (bO : Binds K fdO ["self"] []) : DBeat P w K mg base C f fd := by
  refine ⟨?_, hm, F.kp, F.binds fun _ _ _ _ _ _ us hl => match us, hl with | [_, _], _ => rfl⟩
  refine F.ok scBeat (fun vs H Q E h => ?_) (fun cdv A outer s H vs Q E hr h => ?_)
  · obtain ⟨p, ng, nw, lr, gs, ws, rs, rfl, _⟩ := h
    rfl
  · obtain ⟨p, ng, nw, lr, gs, ws, rs, rfl, NA, N, sr, hl, hw, q⟩ := h
    have nd := scBeat.nd
    have hr5 : Room 5 _ := hr.mono (by decide)
    have hr2 : Room 2 _ := hr.mono (by decide)
    refine ⟨_, pss_cons (ps_set (i := 2) nd rfl (Or.inr rfl) (pe_call DW.ok hr5 (by rfl) DW.mg DW.kp DW.bd .nil pass0 (pa_cons (pv 0) (pa_cons (pv 1) pa_nil)))) <|
      pss_one <| ps_ret <| pe_tup <| pa_cons (pe_call DB.ok hr (by rfl) DB.mg DB.kp DB.bd .nil pass0 (pa_cons (pv 0) (pa_cons (pv 2) pa_nil))) <| (pa_cons · pa_nil) <| pe_lc (own := [("gate", 3)]) (g := gName 3) (tt := tYes) (te := tOp (rIxL K) (tVar 2) (tVar 3)) rfl nd (pi_list (pe_meth0 (pv 0) T.cl mO outs hr2 bO .nil pass0)) (blkOk_by (N := nBeat) (sc := defScope sBeat) (own := [("gate", 3)]) (by decide +kernel)) (fun _ _ _ _ _ => pg_name (i := 3) nd rfl (.inl rfl)) (fun _ _ _ _ _ => pts_nil)
          (fun _ _ _ _ _ => pe_ix ix_list (pv 2) (pv 3) (fun _ _ => rfl)), ?_⟩
    have hgl := N.gl
    have hwl := N.wl
    refine ⟨_, rfl, _, rfl, p, ng, nw, lr, gs, ws, rs, rfl, NA, N, sr, hl, hw, fun lt H1 ts hlt sm1 iw wt elt => ?_⟩
    have NA1 := NA.same sm1
    refine ⟨_, rfl, _, rfl, p, ng, nw, lt, gs, ws, ts, rfl, NA1, N, elt, iw.len, wt, fun p' ng' nw' H3 s3 NA3 hp' hng' hnw' => ?_⟩
    · have s13 := sm1.trans s3
      have NAo := NA.same s13
      obtain ⟨dx3, ob3⟩ := NAo.ob
      have elt3 := s3 _ _ elt
      refine ⟨_, rfl, p, dx3, _, rfl, ob3, nf_no _ _ (by decide +kernel) (by decide +kernel), p, ng, nw, gs, ws, rfl, NAo, by omega, fun lo0 H4 hlo0 s4 elo0 => ?_⟩
      refine ⟨lo0, rfl, ⟨_, SqL.of elo0⟩, fun D2 hD2 => ?_⟩
      have hpl := plc_len gs "out" gs.length
      refine lc_list (K := K) (a := lo0) (xs := (plc gs "out" gs.length).map fun i => V.int (i : Nat)) (fun i Hc => Hc D2 = some (.lst (((plc gs "out" gs.length).take i).map fun g => V.int (ts.getD g 0))) ∧ Same H4 Hc) ⟨upd_same, same_new hD2⟩ (fun i Hc _ ⟨_, sm⟩ => SqL.of (sm _ _ elo0)) ?_ ?_
      · rintro i v Hc hv ⟨hc, sm⟩
        rw [List.getElem?_map] at hv
        cases eg : (plc gs "out" gs.length)[i]? with
        | none =>
          rw [eg] at hv
          cases hv
        | some g =>
        rw [eg] at hv
        cases hv
        have hg := (mem_plc.mp (List.mem_of_getElem? eg)).1
        have hgt : g < ts.length := by rw [iw.len]; exact hg
        have egd : ts.getD g 0 = ts[g]'hgt := by
          rw [List.getD_eq_getElem?_getD, List.getElem?_eq_getElem hgt]
          rfl
        have hi : i < (plc gs "out" gs.length).length := (List.getElem?_eq_some_iff.mp eg).1
        refine ⟨rfl, tyes ?_⟩
        refine ⟨_, rfl, _, rfl, lt, _, _, .int (ts.getD g 0), rfl, rfl, SqL.of (sm _ _ (s4 _ _ elt3)), atI_nat (by rw [List.getElem?_map, List.getElem?_eq_getElem hgt, egd]; rfl), _, hc, ?_, ?_, same_mut sm hD2⟩
        · rw [List.length_map, List.length_take]
          exact small1000 (by omega)
        · rw [upd_same, List.take_add_one, eg, List.map_append]
          rfl
      · rintro H5 ⟨hc, sm5⟩
        rw [List.length_map, List.take_length] at hc
        refine ⟨(by show 2 ≤ sizeLine; decide), fun t ht => ?_⟩
        have s6 : Same H5 (upd H5 t (.tup [.ref p', .ref D2])) := same_new ht
        have s36 := (s4.trans sm5).trans s6
        exact q t p' ng' nw' D2 _ ts (s13.trans s36) iw wt (NA3.same s36) (s6 _ _ hc) upd_same (sm1.free hp') (sm1.free hng') (sm1.free hnw') (s13.free (s4.free hD2))
end
end Lag

set_option maxRecDepth 100000
set_option maxHeartbeats 8000000
namespace Lag
open PySem PySem.Spec PyProof.Rows L2
abbrev sRun : Stmt := topS 50
/-! ### several beats: the mathematics -/
def outsOf (gs : List Gt) (ts : List Int) : List Int := (plc gs "out" gs.length).map fun g => ts.getD g 0
/-- the gates' worths tss, beat by beat, and the wires behind all of them -/
def Run (gs : List Gt) : List Wr → List (List Int) → List (List Int) → List Wr → Prop
  | ws, [], tss, we => tss = [] ∧ we = ws
  | ws, rs :: rss, tss, we => ∃ ts tl, tss = ts :: tl ∧ IsW gs ws rs ts ∧ WOk1 ts ∧ Run gs (ws.map (bh ts)) rss tl we
/-- a row of this net -/
def RowOk (gs : List Gt) (rs : List Int) : Prop := rs.length = (plc gs "in" gs.length).length ∧ WOk1 rs
theorem Run.snoc {gs : List Gt} : ∀ {rss : List (List Int)} {ws wm : List Wr} {tss : List (List Int)} {rs ts : List Int}, Run gs ws rss tss wm → IsW gs wm rs ts → WOk1 ts → Run gs ws (rss ++ [rs]) (tss ++ [ts]) (wm.map (bh ts))
  | [], ws, wm, tss, rs, ts, h, i, w => by
    obtain ⟨h1, h2⟩ := h
    subst h1 h2
    exact ⟨ts, [], rfl, i, w, rfl, rfl⟩
  | r :: rss, ws, wm, tss, rs, ts, h, i, w => by
    obtain ⟨t, tl, h1, h2, h3, h4⟩ := h
    subst h1
    exact ⟨t, tl ++ [ts], rfl, h2, h3, Run.snoc h4 i w⟩
theorem Run.len {gs : List Gt} : ∀ {rss : List (List Int)} {ws we : List Wr} {tss : List (List Int)}, Run gs ws rss tss we → tss.length = rss.length
  | [], _, _, _, h => by rw [h.1]
  | r :: rss, _, _, _, h => by
    obtain ⟨t, tl, h1, _, _, h4⟩ := h
    rw [h1, List.length_cons, List.length_cons, Run.len h4]
theorem Run.ok {gs : List Gt} : ∀ {rss : List (List Int)} {ws we : List Wr} {tss : List (List Int)}, NetOk gs ws → Run gs ws rss tss we → NetOk gs we
  | [], _, _, _, N, h => by rw [h.2]; exact N
  | r :: rss, _, _, _, N, h => by
    obtain ⟨t, tl, _, _, h3, h4⟩ := h
    exact Run.ok (N.behind h3) h4
theorem Run.unique {gs : List Gt} : ∀ {rss : List (List Int)} {ws we we' : List Wr} {tss tss' : List (List Int)}, NetOk gs ws → (∀ rs ∈ rss, RowOk gs rs) → Run gs ws rss tss we → Run gs ws rss tss' we' → tss = tss' ∧ we = we'
  | [], _, _, _, _, _, N, _, h, h' => by rw [h.1, h.2, h'.1, h'.2]; exact ⟨rfl, rfl⟩
  | r :: rss, ws, we, we', tss, tss', N, hr, h, h' => by
    obtain ⟨t, tl, h1, h2, h3, h4⟩ := h
    obtain ⟨t', tl', h1', h2', h3', h4'⟩ := h'
    have e := h2.unique N (hr r (List.mem_cons_self ..)).1 h2'
    subst e
    obtain ⟨e1, e2⟩ := Run.unique (N.behind h3) (fun rs h => hr rs (List.mem_cons_of_mem _ h)) h4 h4'
    rw [h1, h1', e1, e2]
    exact ⟨rfl, rfl⟩
/-- cut in two -/
theorem Run.cut {gs : List Gt} : ∀ {r1 r2 : List (List Int)} {ws we : List Wr} {tss : List (List Int)}, Run gs ws (r1 ++ r2) tss we → ∃ t1 t2 wm, tss = t1 ++ t2 ∧ Run gs ws r1 t1 wm ∧ Run gs wm r2 t2 we
  | [], r2, ws, we, tss, h => ⟨[], tss, ws, rfl, ⟨rfl, rfl⟩, h⟩
  | r :: r1, r2, ws, we, tss, h => by
    obtain ⟨t, tl, h1, h2, h3, h4⟩ := h
    obtain ⟨t1, t2, wm, e, a, b⟩ := Run.cut h4
    exact ⟨t :: t1, t2, wm, by rw [h1, e]; rfl, ⟨t, t1, rfl, h2, h3, a⟩, b⟩
theorem LG.dr {K : PySem.W.Frag} {wl l : Addr} {H H' : Hp} {gs : List Gt} (h : LG K H l gs) (n : l ≠ wl) (W : WellAt wl H) (d : Dr wl H H') : LG K H' l gs := by
  obtain ⟨vs, q, a⟩ := h
  exact ⟨vs, d.but _ _ n q, a.imp fun _ _ r => r.tk (TK.dr W d.but)⟩
theorem LW.dr {K : PySem.W.Frag} {wl l : Addr} {H H' : Hp} {ws : List Wr} (h : LW K H l ws) (n : l ≠ wl) (W : WellAt wl H) (d : Dr wl H H') : LW K H' l ws := by
  obtain ⟨vs, q, a⟩ := h
  exact ⟨vs, d.but _ _ n q, a.imp fun _ _ r => r.tk (TK.dr W d.but)⟩
/-- what stands while a net is asked -/
structure RS (K : PySem.W.Frag) (C wl : Addr) (H : Hp) (lg lw p ng nw : Addr) (gs : List Gt) (ws : List Wr) : Prop where
  W : WellAt wl H
  g : LG K H lg gs
  w : LW K H lw ws
  n : NetAt K C H p ng nw gs ws
  n1 : lg ≠ wl
  n2 : lw ≠ wl
  n3 : p ≠ wl
  n4 : ng ≠ wl
  n5 : nw ≠ wl
theorem NetAt.dr {K : PySem.W.Frag} {C wl p ng nw : Addr} {H H' : Hp} {gs : List Gt} {ws : List Wr} (n : NetAt K C H p ng nw gs ws) (W : WellAt wl H) (n3 : p ≠ wl) (n4 : ng ≠ wl) (n5 : nw ≠ wl) (d : Dr wl H H') : NetAt K C H' p ng nw gs ws := by
  obtain ⟨dx, h⟩ := n.ob
  exact ⟨⟨dx, d.but _ _ n3 h⟩, n.g.dr n4 W d, n.w.dr n5 W d, n.ne⟩
theorem RS.dr {K : PySem.W.Frag} {C wl lg lw p ng nw : Addr} {H H' : Hp} {gs : List Gt} {ws : List Wr} (r : RS K C wl H lg lw p ng nw gs ws) (d : Dr wl H H') : RS K C wl H' lg lw p ng nw gs ws :=
  ⟨d.well, r.g.dr r.n1 r.W d, r.w.dr r.n2 r.W d, r.n.dr r.W r.n3 r.n4 r.n5 d, r.n1, r.n2, r.n3, r.n4, r.n5⟩
theorem RS.same {K : PySem.W.Frag} {C wl lg lw p ng nw : Addr} {H H' : Hp} {gs : List Gt} {ws : List Wr} (r : RS K C wl H lg lw p ng nw gs ws) (s : Same H H') : RS K C wl H' lg lw p ng nw gs ws := r.dr ⟨But.same s, r.W.same s⟩
theorem LG.mut {K : PySem.W.Frag} {l a : Addr} {H : Hp} {gs : List Gt} {xs : List V} {o : HO} (h : LG K H l gs) (e : H a = some (.lst xs)) (n : l ≠ a) : LG K (upd H a o) l gs := by
  obtain ⟨vs, q, al⟩ := h
  exact ⟨vs, by rw [upd_ne n]; exact q, al.imp fun _ _ r => r.tk (TK.lst e)⟩
theorem LW.mut {K : PySem.W.Frag} {l a : Addr} {H : Hp} {ws : List Wr} {xs : List V} {o : HO} (h : LW K H l ws) (e : H a = some (.lst xs)) (n : l ≠ a) : LW K (upd H a o) l ws := by
  obtain ⟨vs, q, al⟩ := h
  exact ⟨vs, by rw [upd_ne n]; exact q, al.imp fun _ _ r => r.tk (TK.lst e)⟩
theorem NetAt.mut {K : PySem.W.Frag} {C p ng nw a : Addr} {H : Hp} {gs : List Gt} {ws : List Wr} {xs : List V} {o : HO} (n : NetAt K C H p ng nw gs ws) (e : H a = some (.lst xs)) (h1 : ng ≠ a) (h2 : nw ≠ a) : NetAt K C (upd H a o) p ng nw gs ws := by
  obtain ⟨dx, h⟩ := n.ob
  exact ⟨⟨dx, by rw [upd_ne (ne_of h e (by intro z; cases z))]; exact h⟩, n.g.mut e h1, n.w.mut e h2, n.ne⟩
theorem RS.mut {K : PySem.W.Frag} {C wl lg lw p ng nw a : Addr} {H : Hp} {gs : List Gt} {ws : List Wr} {xs : List V} {o : HO} (r : RS K C wl H lg lw p ng nw gs ws) (e : H a = some (.lst xs)) (h0 : a ≠ wl) (h1 : lg ≠ a) (h2 : lw ≠ a) (h3 : ng ≠ a) (h4 : nw ≠ a) : RS K C wl (upd H a o) lg lw p ng nw gs ws := by
  obtain ⟨xs, hw, hs⟩ := r.W
  exact ⟨⟨xs, by rw [upd_ne h0.symm]; exact hw, hs⟩, r.g.mut e h1, r.w.mut e h2, r.n.mut e h3 h4, r.n1, r.n2, r.n3, r.n4, r.n5⟩
theorem All2.imp' {α β : Type} {R S : α → β → Prop} {xs : List α} {ys : List β} (h : All2 R xs ys) (f : ∀ x y, x ∈ xs → R x y → S x y) : All2 S xs ys := ⟨h.1, fun i x y a b => f x y (List.mem_of_getElem? a) (h.2 i x y a b)⟩
/-! ### lists of lists of whole numbers -/
def RowV (K : PySem.W.Frag) (H : Hp) (v : V) (rs : List Int) : Prop := ∃ a, v = .ref a ∧ SqL K H a (rs.map V.int)
def RR (K : PySem.W.Frag) (H : Hp) (l : Addr) (rss : List (List Int)) : Prop := ∃ vs, SqL K H l vs ∧ All2 (RowV K H) vs rss
theorem RowV.same {K : PySem.W.Frag} {H H' : Hp} {v : V} {rs : List Int} (h : RowV K H v rs) (s : Same H H') : RowV K H' v rs := by
  obtain ⟨a, e, q⟩ := h
  exact ⟨a, e, s.seq q⟩
theorem RR.same {K : PySem.W.Frag} {H H' : Hp} {l : Addr} {rss : List (List Int)} (h : RR K H l rss) (s : Same H H') : RR K H' l rss := by
  obtain ⟨vs, q, a⟩ := h
  exact ⟨vs, s.seq q, a.imp fun _ _ r => r.same s⟩
/-- lists that were laid since H0, in a list that was -/
structure LL (H0 H : Hp) (l : Addr) (xss : List (List Int)) (as : List Addr) : Prop where
  at_ : H l = some (.lst (as.map V.ref))
  al : All2 (fun a xs => H a = some (.lst (xs.map V.int))) as xss
  new : ∀ a ∈ as, H0 a = none
  nd : as.Nodup
  nl : l ∉ as
  ln : H0 l = none
theorem LL.same {H0 H H' : Hp} {l : Addr} {xss : List (List Int)} {as : List Addr} (h : LL H0 H l xss as) (s : Same H H') : LL H0 H' l xss as :=
  ⟨s _ _ h.at_, h.al.imp fun _ _ r => s _ _ r, h.new, h.nd, h.nl, h.ln⟩
theorem LL.rr {K : PySem.W.Frag} {H0 H : Hp} {l : Addr} {xss : List (List Int)} {as : List Addr} (h : LL H0 H l xss as) : RR K H l xss := by
  refine ⟨_, SqL.of h.at_, by rw [List.length_map]; exact h.al.1, fun i v xs hv hx => ?_⟩
  rw [List.getElem?_map] at hv
  cases e : as[i]? with
  | none =>
    rw [e] at hv
    cases hv
  | some a =>
    rw [e] at hv
    cases hv
    exact ⟨a, rfl, SqL.of (h.al.2 i a xs e hx)⟩
def spRun (K : PySem.W.Frag) (C : Addr) : Sp := fun vs H Q _ => ∃ (p ng nw lr : Addr) (gs : List Gt) (ws : List Wr) (rss : List (List Int)), vs = [.ref p, .ref lr] ∧ NetAt K C H p ng nw gs ws ∧ NetOk gs ws ∧ RR K H lr rss ∧ (∀ rs ∈ rss, RowOk gs rs) ∧ rss.length ≤ 1000 ∧
  ∀ t p' ng' nw' lo H' tss we as, Same H H' → Run gs ws rss tss we → NetAt K C H' p' ng' nw' gs we → LL H H' lo (tss.map (outsOf gs)) as → H' t = some (.tup [.ref p', .ref lo]) → H p' = none → H ng' = none → H nw' = none → Q (.ref t) H'
section
variable {P : Program} {w : World} {K : PySem.W.Frag} {mg : Str → Option Value} {base : Heap}
abbrev nRun : List Str := ["net", "rows", "now", "told", "row", "outs"]
theorem scRun : FnScope nRun ["net", "rows"] (defScope sRun) := ⟨rfl, rfl, rfl, by decide +kernel, rfl, by decide +kernel, by decide +kernel⟩
abbrev DRun (P : Program) (w : World) (K : PySem.W.Frag) (mg : Str → Option Value) (base : Heap) (C : Addr) := Df P w K mg base 10 "run" ["net", "rows"] (spRun K C)
theorem ok_run {f fB fI C : Addr} {fd fdB fdI : FuncData} (F : Fun K "run" "run" sRun f fd) (hm : mg "run" = some (.ref f)) (B : Bt mg) (T : NT K mg C) (DB : DBeat P w K mg base C fB fdB) (MK : Mk K C fI) (init : FnOk P w K mg base CX0 6 fI fdI ["self", "gates", "wires"] (spInit K C)) (bI : Binds K fdI ["self", "gates", "wires"] []) : DRun P w K mg base C f fd := by
  refine ⟨?_, hm, F.kp, F.binds fun _ _ _ _ _ _ us hl => match us, hl with | [_, _], _ => rfl⟩
  refine F.ok scRun (fun vs H Q E h => ?_) (fun cdv A outer s H vs Q E hr h => ?_)
  · obtain ⟨p, ng, nw, lr, gs, ws, rss, rfl, _⟩ := h
    rfl
  · obtain ⟨p, ng, nw, lr, gs, ws, rss, rfl, NA, N, ⟨rv, sr, ra⟩, hro, hrl, q⟩ := h
    have nd := scRun.nd
    have hr7 : Room 7 _ := hr.mono (by decide)
    refine ⟨_, pss_cons (ps_if (pt_not (pt_val (pe_callB call_isi (by rfl) B.isi (by decide +kernel) (pa_cons (pv 1) (pa_cons (pe_bltn (v := .ty "list") (by rfl) B.list (by decide +kernel) rfl) pa_nil))))) (pss_one ps_never) pss_nil) <|
      pss_cons (ps_set (i := 2) nd rfl (.inl rfl) (pe_make MK init hr7 (by rfl) T.mg bI .nil pass0 (pa_cons (pe_fld (pv 0) rfl) (pa_cons (pe_fld (pv 0) rfl) pa_nil)))) <|
      pss_cons (ps_set (i := 3) nd rfl (.inl rfl) (pe_lst pa_nil)) <|
      pss_cons (ps_for PassesOwn.never rfl (pi_list (pv 1)) (pg_name (i := 4) nd rfl (.inl rfl)) <|
        pss_cons (ps_asg (pe_call DB.ok hr (by rfl) DB.mg DB.kp DB.bd .nil pass0 (pa_cons (pv 2) (pa_cons (pv 4) pa_nil))) (pg_tup (by rfl) (pgs_cons (pg_name (i := 2) nd rfl (.inl rfl)) (pgs_cons (pg_name (i := 5) nd rfl (.inl rfl)) pgs_nil)))) <|
        pss_one <| ps_expr (pe_bm PySem.F.plainAttrs_list PySem.F.slot_list_append PySem.F.type_list_append mt_append (pv 3) (pa_cons (pv 5) pa_nil))) <|
      pss_one <| ps_ret <| pe_tup <| pa_cons (pv 2) <| pa_cons (pv 3) pa_nil, ?_⟩
    obtain ⟨dx, ob⟩ := NA.ob
    have hlr : rv.length = rss.length := ra.1
    refine ⟨_, rfl, _, _, _, _, true, rfl, .ty "list", ty_lst sr, kit_ty (by decide +kernel), true, rfl, iteF ?_⟩
    refine ⟨_, rfl, p, C, dx, _, _, rfl, ob, T.cl, T.nG, nf_gates _ _, _, rfl, p, C, dx, _, _, rfl, ob, T.cl, T.nW, nf_wires _ _, ?_⟩
    refine net_in NA.g.rg NA.w.rw N fun p1 ng1 nw1 H1 NA1 s1 hp1 hng1 hnw1 => ?_
    refine ⟨Nat.zero_le _, fun D hD => ?_⟩
    have hD0 : H D = none := s1.free hD
    have s2 := s1.trans (same_new (o := .lst []) hD)
    have NA2 := NA1.same (same_new (o := .lst []) hD)
    obtain ⟨g1, hg1, _⟩ := id NA1.g
    obtain ⟨w1, hw1, _⟩ := id NA1.w
    refine ⟨_, rfl, lr, rfl, ⟨_, s2.seq sr⟩, for_list (K := K) (a := lr) (xs := rv) (fun i σ H' => ∃ (s4 s5 : Option V) (pn gn wn : Addr) (wm : List Wr) (tss : List (List Int)) (as : List Addr), σ = [some (.ref p), some (.ref lr), some (.ref pn), some (.ref D), s4, s5] ∧
        NetAt K C H' pn gn wn gs wm ∧ Run gs ws (rss.take i) tss wm ∧ Same H H' ∧ LL H H' D (tss.map (outsOf gs)) as ∧ as.length = i ∧ H pn = none ∧ H gn = none ∧ H wn = none ∧ gn ≠ D ∧ wn ≠ D)
      ⟨_, _, p1, ng1, nw1, ws, [], [], rfl, NA2, ⟨rfl, rfl⟩, s2, ⟨upd_same, All2.nil, by simp, List.nodup_nil, by simp, hD0⟩, rfl, hp1, hng1, hnw1, ne_of_none hg1 hD, ne_of_none hw1 hD⟩ (fun i σ H' _ ⟨_, _, _, _, _, _, _, _, _, _, _, sm, _⟩ => sm.seq sr) ?_ ?_⟩
    · rintro i v σ H' hv ⟨s4, s5, pn, gn, wn, wm, tss, as, rfl, NAn, hrun, sm, ll, hal, hpn, hgn, hwn, ngD, nwD⟩
      obtain ⟨rs, hrs, a, rfl, sq⟩ := ra.get hv
      have hi : i < rss.length := (List.getElem?_eq_some_iff.mp hrs).1
      have hro' := hro rs (List.mem_of_getElem? hrs)
      have Nm := hrun.ok N
      refine ⟨_, rfl, _, rfl, pn, gn, wn, a, gs, wm, rs, rfl, NAn, Nm, sm.seq sq, hro'.1, hro'.2, fun t p' ng' nw' lo H2 ts s3 iw wt NA' elo et hp' hng' hnw' hlo => ?_⟩
      refine ⟨t, _, rfl, .inl (.inl et), rfl, _, _, rfl, _, _, rfl, rfl, ?_⟩
      have llD := s3 _ _ ll.at_
      have nloD : lo ≠ D := fun z => by
        rw [z, ll.at_] at hlo
        cases hlo
      have ng'D : ng' ≠ D := fun z => by
        rw [z, ll.at_] at hng'
        cases hng'
      have nw'D : nw' ≠ D := fun z => by
        rw [z, ll.at_] at hnw'
        cases hnw'
      refine ⟨_, rfl, .inl ⟨rfl, _, SqL.of llD⟩, _, rfl, D, _, _, rfl, rfl, llD, by rw [List.length_map]; exact small1000 (by omega), ?_⟩
      refine ⟨_, _, p', ng', nw', wm.map (bh ts), tss ++ [ts], as ++ [lo], rfl, NA'.mut llD ng'D nw'D, ?_, same_mut (sm.trans s3) hD0, ⟨?_, ?_, ?_, ?_, ?_, hD0⟩, by simp [hal], sm.free hp', sm.free hng', sm.free hnw', ng'D, nw'D⟩
      · rw [List.take_add_one, hrs]
        exact hrun.snoc iw wt
      · rw [upd_same, List.map_append]
        rfl
      · rw [List.map_append]
        refine All2.snoc (ll.al.imp' fun a xs ha r => ?_) ?_
        · rw [upd_ne (show a ≠ D from fun z => ll.nl (by rw [← z]; exact ha))]
          exact s3 _ _ r
        · rw [upd_ne nloD, elo]
          unfold outsOf
          rw [List.map_map]
          rfl
      · intro b hb
        rcases List.mem_append.mp hb with hb | hb
        · exact ll.new b hb
        · simp at hb
          rw [hb]
          exact sm.free hlo
      · rw [List.nodup_append]
        refine ⟨ll.nd, by simp, fun x hx y hy => ?_⟩
        simp at hy
        subst hy
        intro z
        subst z
        obtain ⟨k, hk⟩ := List.getElem?_of_mem hx
        obtain ⟨xs, _, r⟩ := ll.al.get hk
        rw [r] at hlo
        cases hlo
      · intro z
        rcases List.mem_append.mp z with z | z
        · exact ll.nl z
        · simp at z
          exact nloD z.symm
    · rintro σ H' ⟨s4, s5, pn, gn, wn, wm, tss, as, rfl, NAn, hrun, sm, ll, hal, hpn, hgn, hwn, ngD, nwD⟩
      rw [hlr, List.take_length] at hrun
      refine ⟨_, rfl, _, rfl, (by show 2 ≤ sizeLine; decide), fun t ht => ?_⟩
      have st : Same H' (upd H' t (.tup [.ref pn, .ref D])) := same_new ht
      exact q t pn gn wn D _ tss wm as (sm.trans st) hrun (NAn.same st) (ll.same st) upd_same hpn hgn hwn
end
end Lag

set_option maxRecDepth 100000
set_option maxHeartbeats 8000000
namespace Lag
open PySem PySem.Spec PyProof.Rows L2
/-! ### a wire's row of worths -/
def colOf (tss : List (List Int)) (g : Nat) : List Int := tss.map fun ts => ts.getD g 0
def rowOf (x : Wr) (tss : List (List Int)) : List Int := x.2.2 ++ colOf tss x.1
theorem rowOf_cons (x : Wr) (t : List Int) (tl : List (List Int)) : rowOf x (t :: tl) = wv t x :: rowOf (bh t x) tl := by
  obtain ⟨a, b, r⟩ := x
  cases r with
  | nil => rfl
  | cons r l =>
    show (r :: l) ++ (t.getD a 0 :: colOf tl a) = r :: ((l ++ [t.getD a 0]) ++ colOf tl a)
    rw [List.append_assoc]
    rfl
theorem Run.wire {gs : List Gt} : ∀ {rss : List (List Int)} {ws we : List Wr} {tss : List (List Int)}, Run gs ws rss tss we → we = ws.map fun x => (x.1, x.2.1, (rowOf x tss).drop tss.length)
  | [], ws, we, tss, h => by
    obtain ⟨h1, h2⟩ := h
    subst h1 h2
    refine (List.map_id'' (fun x => ?_) we).symm
    obtain ⟨a, b, r⟩ := x
    show (a, b, (r ++ []).drop 0) = (a, b, r)
    rw [List.append_nil, List.drop_zero]
  | r :: rss, ws, we, tss, h => by
    obtain ⟨t, tl, h1, _, _, h4⟩ := h
    subst h1
    rw [Run.wire h4, List.map_map]
    refine List.map_congr_left fun x _ => ?_
    obtain ⟨e1, e2, _⟩ := bh_ends t x
    show ((bh t x).1, (bh t x).2.1, (rowOf (bh t x) tl).drop tl.length) = (x.1, x.2.1, (rowOf x (t :: tl)).drop (tl.length + 1))
    rw [e1, e2, rowOf_cons, List.drop_succ_cons]
theorem one_in {gs : List Gt} {ws : List Wr} (N : NetOk gs ws) {x : Wr} (hx : x ∈ ws) (hk : kindAt gs x.2.1 = "out") (ts : List Int) : cmg ws ts x.2.1 = [wv ts x] := by
  have h1 := N.one x.2.1 (N.wok x hx).e hk
  unfold cnt at h1
  rw [List.countP_eq_length_filter] at h1
  have hm : x ∈ ws.filter fun y => y.2.1 == x.2.1 := List.mem_filter.mpr ⟨hx, by simp⟩
  unfold cmg
  obtain ⟨y, hy⟩ := List.length_eq_one_iff.mp h1
  rw [hy] at hm ⊢
  simp at hm
  rw [hm]
  rfl
theorem Run.out {gs : List Gt} : ∀ {rss : List (List Int)} {ws we : List Wr} {tss : List (List Int)} {x : Wr}, NetOk gs ws → Run gs ws rss tss we → x ∈ ws → kindAt gs x.2.1 = "out" → colOf tss x.2.1 = (rowOf x tss).take tss.length
  | [], ws, we, tss, x, N, h, _, _ => by
    rw [h.1]
    rfl
  | r :: rss, ws, we, tss, x, N, h, hx, hk => by
    obtain ⟨t, tl, h1, h2, h3, h4⟩ := h
    subst h1
    obtain ⟨e1, e2, _⟩ := bh_ends t x
    have ih := Run.out (x := bh t x) (N.behind h3) h4 (List.mem_map_of_mem hx) (by rw [e2]; exact hk)
    rw [e2] at ih
    rw [rowOf_cons]
    show t.getD x.2.1 0 :: colOf tl x.2.1 = (wv t x :: rowOf (bh t x) tl).take (tl.length + 1)
    rw [List.take_succ_cons, ← ih, h2.eq x.2.1 (N.wok x hx).e (by rw [hk]; decide +kernel), hk, one_in N hx hk, kv_out]
    rfl
theorem Run.row_len {x : Wr} {tss : List (List Int)} : (rowOf x tss).length = x.2.2.length + tss.length := by
  unfold rowOf colOf
  rw [List.length_append, List.length_map]
/-- alike as far as the rows are -/
theorem Run.same {gs : List Gt} {r1 r2 r2' : List (List Int)} {ws we we' : List Wr} {tss tss' : List (List Int)} (N : NetOk gs ws) (hr : ∀ rs ∈ r1, RowOk gs rs) (h : Run gs ws (r1 ++ r2) tss we) (h' : Run gs ws (r1 ++ r2') tss' we') : tss.take r1.length = tss'.take r1.length := by
  obtain ⟨t1, t2, wm, e, a, _⟩ := h.cut
  obtain ⟨t1', t2', wm', e', a', _⟩ := h'.cut
  obtain ⟨z, _⟩ := a.unique N hr a'
  rw [e, e', ← z, ← a.len, List.take_left, List.take_left]
end Lag

set_option maxRecDepth 100000
set_option maxHeartbeats 8000000
namespace Lag
open PySem PySem.Spec PyProof.Rows L2
abbrev sDigit : Stmt := topS 62 -- @_law_digit
theorem st_norm {f : L2.St → Hp → Prop} {σ σ' : L2.St} {H : Hp} (e : σ = σ') (h : f σ' H) : f σ H := e ▸ h
theorem gn_norm {i : Nat} {x : V} {σ σ' : L2.St} {H : Hp} {N : L2.St → Hp → Prop} (e : σ.set i (some x) = σ') (h : N σ' H) : gName i x σ H N := by
  subst e
  exact h
theorem All2.pushT {α : Type} {R : Hp → V → α → Prop} {H H2 : Hp} {D : Addr} {acc : List V} {l : List α} {v : V} {x : α} {o : HO} (mono : ∀ {H H' : Hp} {v : V} {x : α}, TK H H' → R H v x → R H' v x) (h : All2 (R H) acc l) (hD : H2 D = some (.lst acc)) (t : TK H H2) (r : R H2 v x) : All2 (R (upd H2 D o)) (acc ++ [v]) (l ++ [x]) :=
  (h.imp fun _ _ r => mono (t.trans (TK.lst hD)) r).snoc (mono (TK.lst hD) r)
def rTupOf (K : PySem.W.Frag) : List V → Hp → VK → Prop := fun xs H Q => ∃ p ys, xs = [.ref p] ∧ ((SqL K H p ys ∧ ∀ l, H l = none → Q (.ref l) (upd H l (.tup ys))) ∨ (SqT K H p ys ∧ Q (.ref p) H))
theorem mod_b {x n : Int} (h : 0 < n) (hn : n ≤ 4294967296) : -(2 ^ 64) < x % n ∧ x % n < 2 ^ 64 := by
  have h1 := Int.emod_nonneg x (show n ≠ 0 by omega)
  have h2 := Int.emod_lt_of_pos x h
  constructor
  · have e : (-(2 ^ 64) : Int) = -18446744073709551616 := by decide
    omega
  · have e : (2 ^ 64 : Int) = 18446744073709551616 := by decide
    omega
/-! ### _law_digit -/
def spDraw : Sp := fun vs H Q _ => ∃ (w : Addr) (n : Int), vs = [.ref w, .int n] ∧ 0 < n ∧ n < 1000000 ∧ WellAt w H ∧ ∀ d H', 0 ≤ d → d < n → Dr w H H' → Q (.int d) H'
section
variable {P : Program} {w : World} {K : PySem.W.Frag} {mg : Str → Option Value} {base : Heap}
abbrev nDigit : List Str := ["_law_state", "_law_base", "_law_cell", "_law_found", "_law_mixed"]
theorem scDigit : FnScope nDigit ["_law_state", "_law_base"] (defScope sDigit) := ⟨rfl, rfl, rfl, by decide +kernel, rfl, by decide +kernel, by decide +kernel⟩
abbrev DDraw (P : Program) (w : World) (K : PySem.W.Frag) (mg : Str → Option Value) (base : Heap) := Df P w K mg base 1 "_law_digit" ["_law_state", "_law_base"] spDraw
theorem ok_digit {f : Addr} {fd : FuncData} (F : Fun K "_law_digit" "_law_digit" sDigit f fd) (hm : mg "_law_digit" = some (.ref f)) (B : Bt mg) : DDraw P w K mg base f fd := by
  refine ⟨?_, hm, F.kp, F.binds fun _ _ _ _ _ _ us hl => match us, hl with | [_, _], _ => rfl⟩
  refine F.ok scDigit (fun vs H Q E h => ?_) (fun cdv A outer s H vs Q E hr h => ?_)
  · obtain ⟨wl, n, rfl, _⟩ := h
    rfl
  · obtain ⟨wl, n, rfl, hn, hn2, ⟨xs, hw, hst⟩, q⟩ := h
    have nd := scDigit.nd
    refine ⟨_, Evl.pss_cut (ps_if (pt_cmpR op_eq (pe_callB call_len_seq (by rfl) B.len PySem.boot_len (pa_cons (pv 0) pa_nil)) pe_int (nomark _))
        (pss_cons (ps_set (i := 2) nd rfl (.inl rfl) (pe_ix ix_list (pv 0) pe_int (fun _ _ => rfl))) <|
          pss_cons (ps_asg (pe_ix ix_list (pe_lst (pa_cons pe_int (pa_cons (pv 2) pa_nil))) (pe_callTy call_int1 (by rfl) B.int (by decide +kernel) (pa_cons (pe_cmpR op_ge (pv 2) (pe_op op_pow pe_int pe_int) (nomark _)) pa_nil)) (fun _ _ => rfl)) (pg_sub (pv 0) pe_int set_list)) <|
          pss_one <| ps_expr <| pe_bm PySem.F.plainAttrs_list PySem.F.slot_list_extend PySem.F.type_list_extend mt_extend (pv 0) <| (pa_cons · pa_nil) <| pe_lst (pa_cons (pe_op op_mod (pv 2) pe_int) (pa_cons pe_int pa_nil))) pss_nil) <|
      pss_cons (ps_if (pt_cmpR op_gt (pe_ix ix_list (pv 0) pe_int (fun _ _ => rfl)) pe_int (nomark _))
        (pss_cons (ps_set (i := 3) nd rfl (Or.inl rfl) (pe_op op_mod (pe_ix ix_list (pv 0) pe_int (fun _ _ => rfl)) (pv 1)))
        (pss_cons (ps_asg (pe_op op_fdiv (pe_ix ix_list (pv 0) pe_int (fun _ _ => rfl)) (pv 1)) (pg_sub (pv 0) pe_int set_list))
        (pss_one (ps_ret (pv 3))))) pss_nil)
      (pss_cons (ps_asg (pe_op op_add (pe_ix ix_list (pv 0) pe_int (fun _ _ => rfl)) pe_int) (pg_sub (pv 0) pe_int set_list))
      (pss_cons (ps_set (i := 4) nd rfl (Or.inl rfl) (pe_op op_mod (pe_op op_mul (pe_op op_add (pe_op op_add (pe_ix ix_list (pv 0) pe_int (fun _ _ => rfl)) (pe_op op_mul pe_int (pe_ix ix_list (pv 0) pe_int (fun _ _ => rfl)))) pe_int) pe_int) pe_int))
      (pss_cons (ps_set (i := 4) nd rfl (Or.inl rfl) (pe_op op_mod (pe_op op_mul (pv 4) (pe_op op_add (pe_op op_fdiv (pv 4) pe_int) pe_int)) pe_int))
      (pss_one (ps_ret (pe_op op_mod (pe_op op_mod (pe_op op_mul (pv 4) (pe_op op_add (pe_op op_fdiv (pv 4) pe_int) pe_int)) pe_int) (pv 1))))))), ?_⟩
    refine ⟨fun σ H' => ∃ (a b c : Int) (s2 : Option V), σ = [some (.ref wl), some (.int n), s2, none, none] ∧ H' wl = some (.lst [.int a, .int b, .int c]) ∧ But wl H H', ?_, ?_⟩
    · refine ⟨_, rfl, wl, xs, rfl, .inl (SqL.of hw), rfl, _, rfl, ite2 (fun e => ?_) (fun e => ?_)⟩
      · have e' : ((xs.length : Nat) : Int) = 1 := V.int.inj (of_decide_eq_true e)
        rcases hst with ⟨a, rfl⟩ | ⟨a, b, c, rfl⟩
        · refine ⟨_, rfl, wl, _, 0, .int a, rfl, rfl, SqL.of hw, atI_nat (j := 0) rfl, ?_⟩
          refine ⟨_, rfl, (by show 2 ≤ sizeLine; decide), fun l hl => ?_⟩
          have nl : wl ≠ l := ne_of_none hw hl
          refine ⟨_, rfl, _, _, rfl, rfl, ⟨by decide, by decide, by decide⟩, _, _, rfl, rfl, .inr ⟨_, rfl, ?_⟩⟩
          refine ⟨l, _, _, .int (if decide (10 ^ (18 : Int).toNat ≤ a) = true then a else 0), rfl, rfl, SqL.of upd_same, ?_, ?_⟩
          · cases decide (10 ^ (18 : Int).toNat ≤ a) with
            | true => rfl
            | false => rfl
          generalize (if decide (10 ^ (18 : Int).toNat ≤ a) = true then a else 0) = a2
          have hw1 : (upd H l (.lst [.int 0, .int a])) wl = some (.lst [.int a]) := by
            rw [upd_ne nl]
            exact hw
          have b1 : But wl H (upd H l (.lst [.int 0, .int a])) := But.new hl
          generalize upd H l (.lst [.int 0, .int a]) = H1 at hw1 b1
          refine ⟨_, rfl, wl, _, 0, 0, rfl, rfl, hw1, rfl, ?_⟩
          have hw2 : (upd H1 wl (.lst [.int a2])) wl = some (.lst [.int a2]) := upd_same
          have b2 : But wl H (upd H1 wl (.lst [.int a2])) := b1.trans But.upd
          show _
          refine ⟨_, rfl, .inl ⟨rfl, _, SqL.of hw2⟩, _, rfl, _, _, rfl, rfl, (by show (0 : Int) < 2147483647; decide), (by show 2 ≤ sizeLine; decide), fun l2 hl2 => ?_⟩
          have nl2 : wl ≠ l2 := ne_of_none hw2 hl2
          refine ⟨wl, l2, [.int a2], _, rfl, rfl, by rw [upd_ne nl2]; exact hw2, upd_same, (by show 1 + 2 ≤ sizeLine; decide), ?_⟩
          exact ⟨_, _, _, _, rfl, upd_same, (b2.trans (But.new hl2)).trans But.upd⟩
        · exact absurd e' (by show ¬ ((3 : Nat) : Int) = 1; decide)
      · rcases hst with ⟨a, rfl⟩ | ⟨a, b, c, rfl⟩
        · exact absurd rfl e
        · exact ⟨a, b, c, _, rfl, hw, But.refl _ _⟩
    rintro σ H0 ⟨a, b, c, s2, rfl, hw0, b0⟩
    have dr : ∀ {a b c : Int} {H' : Hp}, But wl H H' → H' wl = some (.lst [.int a, .int b, .int c]) → Dr wl H H' := fun hb h => ⟨hb, _, h, .inr ⟨_, _, _, rfl⟩⟩
    refine ⟨_, rfl, wl, _, 0, .int a, rfl, rfl, SqL.of hw0, atI_nat (j := 0) rfl, _, _, rfl, rfl, _, rfl, ite2 (fun e => ?_) (fun e => ?_)⟩
    · refine ⟨_, rfl, wl, _, 0, .int a, rfl, rfl, SqL.of hw0, atI_nat (j := 0) rfl, _, rfl, _, _, rfl, rfl, hn, ?_⟩
      refine ⟨_, rfl, wl, _, 0, .int a, rfl, rfl, SqL.of hw0, atI_nat (j := 0) rfl, _, rfl, _, _, rfl, rfl, ⟨hn, by omega⟩, ?_⟩
      refine ⟨_, rfl, wl, _, 0, 0, rfl, rfl, hw0, rfl, ?_⟩
      refine ⟨_, rfl, ?_⟩
      exact q _ _ (Int.emod_nonneg _ (by omega)) (Int.emod_lt_of_pos _ hn) (dr (b0.trans But.upd) upd_same)
    · have h1 : (upd H0 wl (HO.lst [.int a, .int b, .int (c + 1)])) wl = some (.lst [.int a, .int b, .int (c + 1)]) := upd_same
      refine ⟨_, rfl, wl, _, 2, .int c, rfl, rfl, SqL.of hw0, atI_nat (j := 2) rfl, _, _, rfl, rfl, ?_⟩
      refine ⟨_, rfl, wl, _, 2, 2, rfl, rfl, hw0, rfl, ?_⟩
      refine ⟨_, rfl, wl, _, 1, .int b, rfl, rfl, SqL.of h1, atI_nat (j := 1) rfl, _, rfl, wl, _, 2, .int (c + 1), rfl, rfl, SqL.of h1, atI_nat (j := 2) rfl, _, _, rfl, rfl, .inl ⟨by decide, by decide⟩, _, _, rfl, rfl, _, _, rfl, rfl, _, _, rfl, rfl, .inr ⟨by decide, by decide⟩, _, _, rfl, rfl, (by show (0 : Int) < 2147483647; decide), ?_⟩
      refine ⟨_, rfl, _, rfl, _, _, rfl, rfl, ⟨by decide, by decide⟩, _, _, rfl, rfl, _, _, rfl, rfl, .inl (mod_b (by decide) (by decide)), _, _, rfl, rfl, (by show (0 : Int) < 2147483647; decide), ?_⟩
      refine ⟨_, rfl, _, rfl, _, _, rfl, rfl, ⟨by decide, by decide⟩, _, _, rfl, rfl, _, _, rfl, rfl, .inl (mod_b (by decide) (by decide)), _, _, rfl, rfl, (by show (0 : Int) < 2147483399; decide), _, rfl, _, _, rfl, rfl, hn, ?_⟩
      exact q _ _ (Int.emod_nonneg _ (by omega)) (Int.emod_lt_of_pos _ hn) (dr (b0.trans But.upd) h1)
end
end Lag

set_option maxRecDepth 100000
set_option maxHeartbeats 4000000
namespace Lag
open PySem PySem.Spec PyProof.Rows L2
/-! ### every net has worths -/
theorem idx_nd : ∀ {l : List Nat} {i g : Nat}, l.Nodup → l[i]? = some g → l.idxOf g = i
  | [], i, g, _, h => by simp at h
  | a :: l, 0, g, _, h => by
    cases h
    rw [List.idxOf_cons_self]
  | a :: l, i + 1, g, nd, h => by
    have h' : l[i]? = some g := h
    have hne : a ≠ g := fun z => (List.nodup_cons.mp nd).1 (z ▸ List.mem_of_getElem? h')
    rw [List.idxOf_cons, beq_false_of_ne hne, idx_nd (List.nodup_cons.mp nd).2 h']
    rfl
def itW (gs : List Gt) (ws : List Wr) (rs : List Int) : Nat → List Int
  | 0 => List.replicate gs.length 0
  | k + 1 => (List.range gs.length).map fun g => if kindAt gs g = "in" then rs.getD ((plc gs "in" gs.length).idxOf g) 0 else kindVal (kindAt gs g) (cmg ws (itW gs ws rs k) g)
theorem itW_len (gs : List Gt) (ws : List Wr) (rs : List Int) (k : Nat) : (itW gs ws rs k).length = gs.length := by
  cases k with
  | zero => exact List.length_replicate ..
  | succ k => unfold itW; rw [List.length_map, List.length_range]
theorem itW_get {gs : List Gt} {ws : List Wr} {rs : List Int} {k g : Nat} (h : g < gs.length) : (itW gs ws rs (k + 1)).getD g 0 = if kindAt gs g = "in" then rs.getD ((plc gs "in" gs.length).idxOf g) 0 else kindVal (kindAt gs g) (cmg ws (itW gs ws rs k) g) := by
  rw [itW, List.getD_eq_getElem?_getD, List.getElem?_map, List.getElem?_range h]
  rfl
theorem cmg_congr {ws : List Wr} {ts ts' : List Int} {g : Nat} (h : ∀ x ∈ ws, x.2.1 = g → x.2.2 = [] → ts.getD x.1 0 = ts'.getD x.1 0) : cmg ws ts g = cmg ws ts' g := by
  unfold cmg
  refine List.map_congr_left fun x hx => ?_
  have := List.mem_filter.mp hx
  exact wv_congr fun e => h x this.1 (by simpa using this.2) e
theorem NetOk.worth {gs : List Gt} {ws : List Wr} {rs : List Int} (N : NetOk gs ws) (hr : RowOk gs rs) : ∃ ts, IsW gs ws rs ts ∧ WOk1 ts := by
  obtain ⟨ρ, hρ⟩ := N.rank
  have st : ∀ r g, ρ g = r → g < gs.length → ∀ k k', r ≤ k → r ≤ k' → (itW gs ws rs (k + 1)).getD g 0 = (itW gs ws rs (k' + 1)).getD g 0 := by
    intro r
    induction r using Nat.strongRecOn with
    | ind r ih =>
      intro g hg hgl k k' hk hk'
      rw [itW_get hgl, itW_get hgl]
      by_cases e : kindAt gs g = "in"
      · rw [if_pos e, if_pos e]
      · rw [if_neg e, if_neg e]
        congr 1
        refine cmg_congr fun x hx hxg hx0 => ?_
        have h1 := hρ x hx hx0
        rw [hxg, hg] at h1
        obtain ⟨j, rfl⟩ : ∃ j, k = j + 1 := ⟨k - 1, by omega⟩
        obtain ⟨j', rfl⟩ : ∃ j', k' = j' + 1 := ⟨k' - 1, by omega⟩
        exact ih (ρ x.1) h1 x.1 rfl (N.wok x hx).s j j' (by omega) (by omega)
  have bd : ∀ k, WOk1 (itW gs ws rs k) := by
    intro k
    induction k with
    | zero =>
      intro y hy
      rw [List.eq_of_mem_replicate hy]
      omega
    | succ k ih =>
      intro y hy
      obtain ⟨g, hg, rfl⟩ := List.mem_map.mp hy
      by_cases e : kindAt gs g = "in"
      · show 0 ≤ (if kindAt gs g = "in" then _ else _) ∧ (if kindAt gs g = "in" then _ else _) ≤ 96
        rw [if_pos e, List.getD_eq_getElem?_getD]
        cases h : rs[(plc gs "in" gs.length).idxOf g]? with
        | none => simp
        | some z => exact hr.2 z (List.mem_of_getElem? h)
      · show 0 ≤ (if kindAt gs g = "in" then _ else _) ∧ (if kindAt gs g = "in" then _ else _) ≤ 96
        rw [if_neg e]
        refine kv_bound _ fun y hy => ?_
        unfold cmg at hy
        obtain ⟨x, hx, rfl⟩ := List.mem_map.mp hy
        have W := N.wok x (List.mem_filter.mp hx).1
        unfold wv
        cases e2 : x.2.2 with
        | nil =>
          show 0 ≤ (itW gs ws rs k).getD x.1 0 ∧ _ ≤ 96
          rw [List.getD_eq_getElem?_getD]
          cases h : (itW gs ws rs k)[x.1]? with
          | none => simp
          | some z => exact ih z (List.mem_of_getElem? h)
        | cons r l => exact W.r r (by rw [e2]; exact List.mem_cons_self ..)
  have M : ∃ M, ∀ g, g < gs.length → ρ g ≤ M := by
    refine ⟨((List.range gs.length).map ρ).sum, fun g hg => ?_⟩
    have : ∀ (l : List Nat) (a : Nat), a ∈ l → a ≤ l.sum := by
      intro l
      induction l with
      | nil => intro a h; simp at h
      | cons b l ih =>
        intro a h
        rw [List.sum_cons]
        rcases List.mem_cons.mp h with e | e
        · omega
        · have := ih a e
          omega
    exact this _ _ (List.mem_map.mpr ⟨g, List.mem_range.mpr hg, rfl⟩)
  obtain ⟨M, hM⟩ := M
  refine ⟨itW gs ws rs (M + 2), ⟨itW_len .., fun i g r hi hri => ?_, fun g hg hk => ?_⟩, bd _⟩
  · have hm := mem_plc.mp (List.mem_of_getElem? hi)
    rw [itW_get hm.1, if_pos hm.2, idx_nd (plc_nodup _ _ _) hi, List.getD_eq_getElem?_getD, hri]
    rfl
  · rw [itW_get hg, if_neg hk]
    congr 1
    refine cmg_congr fun x hx _ _ => ?_
    have hs := (N.wok x hx).s
    exact st _ x.1 rfl hs M (M + 1) (hM _ hs) (by have := hM _ hs; omega)
theorem NetOk.run {gs : List Gt} : ∀ (rss : List (List Int)) {ws : List Wr}, NetOk gs ws → (∀ rs ∈ rss, RowOk gs rs) → ∃ tss we, Run gs ws rss tss we
  | [], ws, _, _ => ⟨[], ws, rfl, rfl⟩
  | r :: rss, ws, N, h => by
    obtain ⟨ts, h1, h2⟩ := N.worth (h r (List.mem_cons_self ..))
    obtain ⟨tl, we, h3⟩ := NetOk.run rss (N.behind h2) fun rs hr => h rs (List.mem_cons_of_mem _ hr)
    exact ⟨ts :: tl, we, ts, tl, rfl, h1, h2, h3⟩
/-! ### the worths of a run, by beat and gate -/
def wAt (tss : List (List Int)) (t g : Nat) : Int := (tss.getD t []).getD g 0
def rAt (x : Wr) (tss : List (List Int)) (p : Nat) : Int := (rowOf x tss).getD p 0
theorem rAt_old {x : Wr} {tss : List (List Int)} {p : Nat} (h : p < x.2.2.length) : rAt x tss p = x.2.2.getD p 0 := by
  unfold rAt rowOf
  rw [List.getD_eq_getElem?_getD, List.getElem?_append_left h, ← List.getD_eq_getElem?_getD]
theorem rAt_new {x : Wr} {tss : List (List Int)} {p : Nat} (h : x.2.2.length ≤ p) : rAt x tss p = wAt tss (p - x.2.2.length) x.1 := by
  unfold rAt rowOf colOf wAt
  rw [List.getD_eq_getElem?_getD, List.getElem?_append_right h, List.getElem?_map, List.getD_eq_getElem?_getD]
  cases e : tss[p - x.2.2.length]? with
  | none => simp [e]
  | some ts => simp [e]
theorem Run.at_ {gs : List Gt} : ∀ {rss : List (List Int)} {ws we : List Wr} {tss : List (List Int)} (t : Nat) {r : List Int}, Run gs ws rss tss we → rss[t]? = some r →
    (∀ (i g : Nat) (z : Int), (plc gs "in" gs.length)[i]? = some g → r[i]? = some z → wAt tss t g = z) ∧
      ∀ g, g < gs.length → kindAt gs g ≠ "in" → wAt tss t g = kindVal (kindAt gs g) ((ws.filter fun x => x.2.1 == g).map fun x => rAt x tss t)
  | [], ws, we, tss, t, r, _, h => by simp at h
  | r0 :: rss, ws, we, tss, 0, r, h, hr => by
    obtain ⟨ts, tl, h1, h2, h3, h4⟩ := h
    subst h1
    cases hr
    refine ⟨h2.put, fun g hg hk => ?_⟩
    show ts.getD g 0 = _
    rw [h2.eq g hg hk]
    congr 1
    unfold cmg
    refine List.map_congr_left fun x _ => ?_
    unfold rAt
    rw [rowOf_cons]
    rfl
  | r0 :: rss, ws, we, tss, t + 1, r, h, hr => by
    obtain ⟨t0, tl, h1, h2, h3, h4⟩ := h
    subst h1
    obtain ⟨e2, e3⟩ := Run.at_ t h4 hr
    refine ⟨e2, fun g hg hk => ?_⟩
    show wAt tl t g = _
    rw [e3 g hg hk]
    congr 1
    rw [List.filter_map, List.map_map]
    have ef : ((fun x : Wr => x.2.1 == g) ∘ bh t0) = fun x : Wr => x.2.1 == g := funext fun x => by
      show ((bh t0 x).2.1 == g) = _
      rw [(bh_ends t0 x).2.1]
    rw [ef]
    refine List.map_congr_left fun x _ => ?_
    show rAt (bh t0 x) tl t = _
    unfold rAt
    rw [rowOf_cons]
    rfl
/-! ### lags that are let -/
structure LetL (gs : List Gt) (ws : List Wr) (L : Nat → Int) : Prop where
  c : ∀ x ∈ ws, L x.1 ≤ ((x.2.2.length : Nat) : Int) + L x.2.1
  p : ∀ g, g < gs.length → portK (kindAt gs g) → L g = 0
/-- what is put in behind the beat T does not come to a gate ahead of T less its lag -/
theorem Run.early {gs : List Gt} {ws we we' : List Wr} {rss rss' tss tss' : List (List Int)} {L : Nat → Int} {T : Nat} (N : NetOk gs ws) (hl : LetL gs ws L) (hro : ∀ r ∈ rss, RowOk gs r) (h : Run gs ws rss tss we) (h' : Run gs ws rss' tss' we') (he : ∀ t, t < T → rss[t]? = rss'[t]?) :
    ∀ t g, g < gs.length → ((t : Nat) : Int) < T - L g → t < rss.length → t < rss'.length → wAt tss t g = wAt tss' t g := by
  obtain ⟨ρ, hρ⟩ := N.rank
  intro t
  induction t using Nat.strongRecOn with
  | ind t iht =>
    intro g
    generalize hr : ρ g = r
    induction r using Nat.strongRecOn generalizing g with
    | ind r ihr =>
      intro hg ht h1 h2
      obtain ⟨p1, q1⟩ := h.at_ t (List.getElem?_eq_getElem h1)
      obtain ⟨p2, q2⟩ := h'.at_ t (List.getElem?_eq_getElem h2)
      by_cases hk : kindAt gs g = "in"
      · rw [hl.p g hg (.inl hk)] at ht
        have heq := he t (by omega)
        rw [List.getElem?_eq_getElem h1, List.getElem?_eq_getElem h2] at heq
        have heq' : rss[t] = rss'[t] := Option.some.inj heq
        obtain ⟨i, hi⟩ := List.getElem?_of_mem (mem_plc.mpr ⟨hg, hk⟩)
        have hil : i < rss[t].length := by
          rw [(hro _ (List.getElem_mem h1)).1]
          exact (List.getElem?_eq_some_iff.mp hi).1
        rw [p1 i g _ hi (List.getElem?_eq_getElem hil), p2 i g rss[t][i] hi (by rw [← heq']; exact List.getElem?_eq_getElem hil)]
      · rw [q1 g hg hk, q2 g hg hk]
        congr 1
        refine List.map_congr_left fun x hx => ?_
        obtain ⟨hxm, hxg⟩ := List.mem_filter.mp hx
        have hxg : x.2.1 = g := by simpa using hxg
        have hc := hl.c x hxm
        rw [hxg] at hc
        by_cases hp : t < x.2.2.length
        · rw [rAt_old hp, rAt_old hp]
        · rw [rAt_new (by omega), rAt_new (by omega)]
          by_cases hz : x.2.2.length = 0
          · have hb := hρ x hxm (List.length_eq_zero_iff.mp hz)
            rw [hz, Nat.sub_zero]
            exact ihr (ρ x.1) (by rw [← hr, ← hxg]; exact hb) x.1 rfl (N.wok x hxm).s (by omega) h1 h2
          · exact iht (t - x.2.2.length) (by omega) x.1 (N.wok x hxm).s (by omega) (by omega) (by omega)
/-! ### the moved net -/
def cnW (L : Nat → Int) (x : Wr) : Nat := (((x.2.2.length : Nat) : Int) + L x.2.1 - L x.1).toNat
def ofW (T : Nat) (L : Nat → Int) (x : Wr) : Nat := ((T : Nat) - L x.2.1).toNat
def mvW (tss : List (List Int)) (T : Nat) (L : Nat → Int) (x : Wr) : Wr := (x.1, x.2.1, ((rowOf x tss).drop (ofW T L x)).take (cnW L x))
/-- so many rows that all is known that the moved net holds -/
structure Enough (gs : List Gt) (T n : Nat) (L : Nat → Int) : Prop where
  t : ∀ g, g < gs.length → L g ≤ T
  n : ∀ g, g < gs.length → (T : Int) - L g ≤ n
theorem mvW_len {gs : List Gt} {ws we : List Wr} {rss tss : List (List Int)} {L : Nat → Int} {T : Nat} (N : NetOk gs ws) (hl : LetL gs ws L) (h : Run gs ws rss tss we) (en : Enough gs T rss.length L) {x : Wr} (hx : x ∈ ws) : (mvW tss T L x).2.2.length = cnW L x := by
  have W := N.wok x hx
  have h1 := en.t x.2.1 W.e
  have h2 := en.n x.1 W.s
  have h3 := hl.c x hx
  show (((rowOf x tss).drop _).take _).length = _
  rw [List.length_take, List.length_drop, Run.row_len, h.len]
  unfold ofW cnW
  omega
theorem mvW_get {tss : List (List Int)} {T : Nat} {L : Nat → Int} {x : Wr} {j : Nat} (h : j < cnW L x) : (mvW tss T L x).2.2.getD j 0 = rAt x tss (ofW T L x + j) := by
  show (((rowOf x tss).drop _).take _).getD j 0 = _
  unfold rAt
  rw [List.getD_eq_getElem?_getD, List.getElem?_take_of_lt h, List.getElem?_drop, ← List.getD_eq_getElem?_getD]
theorem ext_getD {l l' : List Int} (h : l.length = l'.length) (e : ∀ i, i < l.length → l.getD i 0 = l'.getD i 0) : l = l' := by
  refine List.ext_getElem? fun i => ?_
  by_cases hi : i < l.length
  · have := e i hi
    rw [List.getD_eq_getElem?_getD, List.getD_eq_getElem?_getD, List.getElem?_eq_getElem hi, List.getElem?_eq_getElem (by omega)] at this
    rw [List.getElem?_eq_getElem hi, List.getElem?_eq_getElem (by omega)]
    exact congrArg some this
  · rw [List.getElem?_eq_none (by omega), List.getElem?_eq_none (by omega)]
/-- what the moved net holds hangs on no row behind -/
theorem mvW_early {gs : List Gt} {ws we we' : List Wr} {rss rss' tss tss' : List (List Int)} {L : Nat → Int} {T : Nat} (N : NetOk gs ws) (hl : LetL gs ws L) (hro : ∀ r ∈ rss, RowOk gs r) (h : Run gs ws rss tss we) (h' : Run gs ws rss' tss' we') (he : ∀ t, t < T → rss[t]? = rss'[t]?) (en : Enough gs T rss.length L) (en' : Enough gs T rss'.length L) :
    ws.map (mvW tss T L) = ws.map (mvW tss' T L) := by
  refine List.map_congr_left fun x hx => ?_
  have W := N.wok x hx
  have e1 := mvW_len N hl h en hx
  have e2 := mvW_len N hl h' en' hx
  refine Prod.ext rfl (Prod.ext rfl (ext_getD (by rw [e1, e2]) fun j hj => ?_))
  rw [e1] at hj
  rw [mvW_get hj, mvW_get hj]
  by_cases hp : ofW T L x + j < x.2.2.length
  · rw [rAt_old hp, rAt_old hp]
  · rw [rAt_new (by omega), rAt_new (by omega)]
    have h1 := en.t x.2.1 W.e
    have h2 := en.n x.1 W.s
    have h3 := en'.n x.1 W.s
    have h4 := hl.c x hx
    unfold cnW at hj
    unfold ofW at hp ⊢
    refine h.early N hl hro h' he _ x.1 W.s ?_ ?_ ?_ <;> omega
theorem NetOk.moved {gs : List Gt} {ws we : List Wr} {rss tss : List (List Int)} {L : Nat → Int} {T : Nat} (N : NetOk gs ws) (hl : LetL gs ws L) (h : Run gs ws rss tss we) (en : Enough gs T rss.length L) (hb : ∀ x ∈ ws, cnW L x ≤ 900) (hw : ∀ ts ∈ tss, WOk1 ts) : NetOk gs (ws.map (mvW tss T L)) := by
  obtain ⟨ρ, hρ⟩ := N.rank
  have c : ∀ e, cnt (ws.map (mvW tss T L)) e = cnt ws e := fun e => by
    unfold cnt
    rw [List.countP_map]
    rfl
  obtain ⟨M, hM⟩ : ∃ M, ∀ x ∈ ws, ρ x.1 < M := by
    refine ⟨1 + (ws.map fun x => ρ x.1).sum, fun x hx => ?_⟩
    have : ∀ (l : List Nat) (a : Nat), a ∈ l → a ≤ l.sum := by
      intro l
      induction l with
      | nil => intro a h; simp at h
      | cons b l ih =>
        intro a h
        rw [List.sum_cons]
        rcases List.mem_cons.mp h with e | e
        · omega
        · have := ih a e
          omega
    have := this (ws.map fun x => ρ x.1) (ρ x.1) (List.mem_map.mpr ⟨x, hx, rfl⟩)
    omega
  refine ⟨N.ne, N.gl, by rw [List.length_map]; exact N.wl, N.gok, fun y hy => ?_, fun e he hk => by rw [c]; exact N.one e he hk, fun e he hk => by rw [c]; exact N.some e he hk, fun g => ((T : Int) - L g).toNat * M + ρ g, fun y hy h0 => ?_⟩
  · obtain ⟨x, hx, rfl⟩ := List.mem_map.mp hy
    have W := N.wok x hx
    refine ⟨W.s, W.e, W.ks, W.ke, fun z hz => ?_, by rw [mvW_len N hl h en hx]; exact hb x hx⟩
    have hz' := List.mem_of_mem_drop (List.mem_of_mem_take hz)
    unfold rowOf colOf at hz'
    rcases List.mem_append.mp hz' with e | e
    · exact W.r z e
    · obtain ⟨ts, ht, rfl⟩ := List.mem_map.mp e
      rw [List.getD_eq_getElem?_getD]
      cases e2 : ts[x.1]? with
      | none => simp
      | some z => exact hw ts ht z (List.mem_of_getElem? e2)
  · obtain ⟨x, hx, rfl⟩ := List.mem_map.mp hy
    have W := N.wok x hx
    have hlen := mvW_len N hl h en hx
    rw [h0] at hlen
    have h3 := hl.c x hx
    have h1 := en.t x.2.1 W.e
    have h2 := en.t x.1 W.s
    have hm := hM x hx
    unfold cnW at hlen
    show ((T : Int) - L x.1).toNat * M + ρ x.1 < ((T : Int) - L x.2.1).toNat * M + ρ x.2.1
    by_cases hz : x.2.2.length = 0
    · have hb := hρ x hx (List.length_eq_zero_iff.mp hz)
      have e : L x.1 = L x.2.1 := by
        simp at hlen
        omega
      rw [e]
      omega
    · have e : ((T : Int) - L x.1).toNat + 1 ≤ ((T : Int) - L x.2.1).toNat := by
        simp at hlen
        omega
      have := Nat.mul_le_mul_right M e
      rw [Nat.add_mul, Nat.one_mul] at this
      omega
/-- the moved net's gates have the worths of the first net's, each by its lag -/
theorem Run.retimed {gs : List Gt} {ws we ve : List Wr} {rss xss zss tss uss : List (List Int)} {L : Nat → Int} (N : NetOk gs ws) (hl : LetL gs ws L) (hro : ∀ r ∈ xss, RowOk gs r) (h : Run gs ws (rss ++ xss ++ zss) tss we) (ht : ∀ g, g < gs.length → L g ≤ rss.length) (hz : ∀ g, g < gs.length → -L g ≤ zss.length)
    (N' : NetOk gs (ws.map (mvW tss rss.length L))) (h' : Run gs (ws.map (mvW tss rss.length L)) xss uss ve) :
    ∀ s g, g < gs.length → s < xss.length → wAt uss s g = wAt tss (((rss.length + s : Nat) : Int) - L g).toNat g := by
  obtain ⟨ρ, hρ⟩ := N'.rank
  have hlen : (rss ++ xss ++ zss).length = rss.length + xss.length + zss.length := by rw [List.length_append, List.length_append]
  have en2 : Enough gs rss.length (rss ++ xss ++ zss).length L := ⟨ht, fun g hg => by have := hz g hg; omega⟩
  intro s
  induction s using Nat.strongRecOn with
  | ind s ihs =>
    intro g
    generalize hr : ρ g = r
    induction r using Nat.strongRecOn generalizing g with
    | ind r ihr =>
      intro hg hs
      have hT := ht g hg
      have hZ := hz g hg
      have hp : (((rss.length + s : Nat) : Int) - L g).toNat < (rss ++ xss ++ zss).length := by omega
      obtain ⟨p1, q1⟩ := h'.at_ s (List.getElem?_eq_getElem hs)
      obtain ⟨p2, q2⟩ := h.at_ _ (List.getElem?_eq_getElem hp)
      by_cases hk : kindAt gs g = "in"
      · have h0 := hl.p g hg (.inl hk)
        obtain ⟨i, hi⟩ := List.getElem?_of_mem (mem_plc.mpr ⟨hg, hk⟩)
        have hil : i < xss[s].length := by
          rw [(hro _ (List.getElem_mem hs)).1]
          exact (List.getElem?_eq_some_iff.mp hi).1
        have e : (rss ++ xss ++ zss)[(((rss.length + s : Nat) : Int) - L g).toNat] = xss[s] := by
          have e1 : (((rss.length + s : Nat) : Int) - L g).toNat = rss.length + s := by omega
          have : (rss ++ xss ++ zss)[(((rss.length + s : Nat) : Int) - L g).toNat]? = xss[s]? := by
            rw [e1, List.append_assoc, List.getElem?_append_right (by omega), Nat.add_sub_cancel_left, List.getElem?_append_left hs]
          rw [List.getElem?_eq_getElem hp, List.getElem?_eq_getElem hs] at this
          exact Option.some.inj this
        rw [p1 i g _ hi (List.getElem?_eq_getElem hil), p2 i g xss[s][i] hi (by rw [e]; exact List.getElem?_eq_getElem hil)]
      · rw [q1 g hg hk, q2 g hg hk]
        congr 1
        rw [List.filter_map, List.map_map]
        refine List.map_congr_left fun x hx => ?_
        obtain ⟨hxm, hxg⟩ := List.mem_filter.mp hx
        have hxg : x.2.1 = g := by
          have z : ((mvW tss rss.length L x).2.1 == g) = true := hxg
          exact eq_of_beq z
        have W := N.wok x hxm
        have hc := hl.c x hxm
        have hTs := ht x.1 W.s
        have hml := mvW_len N hl h en2 hxm
        rw [hxg] at hc
        show rAt (mvW tss rss.length L x) uss s = _
        by_cases hq : s < cnW L x
        · rw [rAt_old (by rw [hml]; exact hq), mvW_get hq]
          congr 1
          unfold ofW
          rw [hxg]
          omega
        · rw [rAt_new (by rw [hml]; omega), hml]
          have hq' : cnW L x ≤ s := by omega
          unfold cnW at hq'
          rw [hxg] at hq'
          rw [rAt_new (by omega)]
          have key : wAt uss (s - cnW L x) x.1 = wAt tss (((rss.length + (s - cnW L x) : Nat) : Int) - L x.1).toNat x.1 := by
            by_cases hz0 : cnW L x = 0
            · have hb := hρ (mvW tss rss.length L x) (List.mem_map.mpr ⟨x, hxm, rfl⟩) (List.length_eq_zero_iff.mp (by rw [hml]; exact hz0))
              rw [hz0, Nat.sub_zero]
              exact ihr (ρ x.1) (by rw [← hr, ← hxg]; exact hb) x.1 rfl W.s hs
            · exact ihs _ (by omega) x.1 W.s (by omega)
          show wAt uss (s - cnW L x) x.1 = _
          rw [key]
          congr 1
          unfold cnW
          rw [hxg]
          omega
/-- .. and its wires' rows of worths are those of the first net from a place on -/
theorem Run.retimedR {gs : List Gt} {ws we ve : List Wr} {rss xss zss tss uss : List (List Int)} {L : Nat → Int} (N : NetOk gs ws) (hl : LetL gs ws L) (hro : ∀ r ∈ xss, RowOk gs r) (h : Run gs ws (rss ++ xss ++ zss) tss we) (ht : ∀ g, g < gs.length → L g ≤ rss.length) (hz : ∀ g, g < gs.length → -L g ≤ zss.length)
    (N' : NetOk gs (ws.map (mvW tss rss.length L))) (h' : Run gs (ws.map (mvW tss rss.length L)) xss uss ve) {x : Wr} (hx : x ∈ ws) {p : Nat} (hp : p < cnW L x + xss.length) : rAt (mvW tss rss.length L x) uss p = rAt x tss (ofW rss.length L x + p) := by
  have hlen : (rss ++ xss ++ zss).length = rss.length + xss.length + zss.length := by rw [List.length_append, List.length_append]
  have en2 : Enough gs rss.length (rss ++ xss ++ zss).length L := ⟨ht, fun g hg => by have := hz g hg; omega⟩
  have W := N.wok x hx
  have hml := mvW_len N hl h en2 hx
  have hc := hl.c x hx
  have hTs := ht x.1 W.s
  have hTe := ht x.2.1 W.e
  by_cases hq : p < cnW L x
  · rw [rAt_old (by rw [hml]; exact hq), mvW_get hq]
  · rw [rAt_new (by rw [hml]; omega), hml]
    show wAt uss (p - cnW L x) x.1 = _
    rw [Run.retimed N hl hro h ht hz N' h' _ x.1 W.s (by omega)]
    have hq' : cnW L x ≤ p := by omega
    unfold cnW at hq'
    rw [rAt_new (by unfold ofW; omega)]
    congr 1
    unfold cnW ofW
    omega
end Lag

set_option maxRecDepth 100000
set_option maxHeartbeats 8000000
namespace Lag
open PySem PySem.Spec PyProof.Rows L2
abbrev sOuter : Stmt := topS 25 -- @is_outer
abbrev sCounts : Stmt := topS 53 -- @counts
abbrev sChkLags : Stmt := topS 55 -- @check_lags
abbrev sCountsBy : Stmt := topS 54 -- @counts_by
abbrev sLetCounts : Stmt := topS 56 -- @let_counts
abbrev sMore : Stmt := topS 59 -- @worths_with_more
theorem getD_at {ts : List Int} {g : Nat} (h : g < ts.length) : (ts.map V.int)[g]? = some (.int (ts.getD g 0)) := by
  rw [List.getElem?_map, List.getElem?_eq_getElem h, List.getD_eq_getElem?_getD, List.getElem?_eq_getElem h]
  rfl
/-! ### lags -/
structure LagOk (gs : List Gt) (ls : List Int) : Prop where
  len : ls.length = gs.length
  ok : ∀ (i : Nat) (g : Gt) (l : Int), gs[i]? = some g → ls[i]? = some l → -500 ≤ l ∧ l ≤ 500 ∧ (portK g.1 → l = 0)
def cntsL (ws : List Wr) (ls : List Int) : List Int := ws.map fun x => ((x.2.2.length : Nat) : Int) + ls.getD x.2.1 0 - ls.getD x.1 0
def spOuter (K : PySem.W.Frag) : Sp := fun vs H Q _ => ∃ (v : V) (g : Gt), vs = [v] ∧ GateV K H v g ∧ ∀ b : Bool, (b = true ↔ portK g.1) → Q (.bl b) H
def spChkLags (K : PySem.W.Frag) (C : Addr) : Sp := fun vs H Q _ => ∃ (p ng nw ll : Addr) (gs : List Gt) (ws : List Wr) (ls : List Int), vs = [.ref p, .ref ll] ∧ NetAt K C H p ng nw gs ws ∧ gs.length ≤ 1000 ∧ SqL K H ll (ls.map V.int) ∧ LagOk gs ls ∧ ∀ H', Same H H' → Q .non H'
def spCounts (K : PySem.W.Frag) (C : Addr) : Sp := fun vs H Q _ => ∃ (p ng nw ll : Addr) (gs : List Gt) (ws : List Wr) (ls : List Int), vs = [.ref p, .ref ll] ∧ NetAt K C H p ng nw gs ws ∧ NetOk gs ws ∧ SqL K H ll (ls.map V.int) ∧ LagOk gs ls ∧ ∀ l H', Same H H' → H l = none → H' l = some (.lst ((cntsL ws ls).map V.int)) → Q (.ref l) H'
def spCountsBy (K : PySem.W.Frag) (C : Addr) : Sp := fun vs H Q _ => ∃ (p ng nw ll : Addr) (gs : List Gt) (ws : List Wr) (ls : List Int), vs = [.ref p, .ref ll] ∧ NetAt K C H p ng nw gs ws ∧ NetOk gs ws ∧ SqL K H ll (ls.map V.int) ∧ ls.length = gs.length ∧ ∀ l H', Same H H' → H l = none → H' l = some (.lst ((cntsL ws ls).map V.int)) → Q (.ref l) H'
theorem port_in {k : Str} : inV (.str k) [.str "in", .str "out"] = true ↔ portK k := by
  unfold inV
  rw [List.any_eq_true]
  constructor
  · rintro ⟨v, hv, he⟩
    simp only [List.mem_cons, List.not_mem_nil, or_false] at hv
    rcases hv with rfl | rfl
    · exact .inl (eq_of_beq he).symm
    · exact .inr (eq_of_beq he).symm
  · rintro (rfl | rfl)
    · exact ⟨_, List.mem_cons_self .., beq_self_eq_true _⟩
    · exact ⟨_, List.mem_cons_of_mem _ (List.mem_cons_self ..), beq_self_eq_true _⟩
section
variable {P : Program} {w : World} {K : PySem.W.Frag} {mg : Str → Option Value} {base : Heap}
theorem scOuter : FnScope ["gate"] ["gate"] (defScope sOuter) := ⟨rfl, rfl, rfl, by decide +kernel, rfl, by decide +kernel, by decide +kernel⟩
abbrev DOuter (P : Program) (w : World) (K : PySem.W.Frag) (mg : Str → Option Value) (base : Heap) := Df P w K mg base 1 "is_outer" ["gate"] (spOuter K)
theorem ok_outer {f aK aW aF : Addr} {fd : FuncData} (F : Fun K "is_outer" "is_outer" sOuter f fd) (hm : mg "is_outer" = some (.ref f)) (C : Cns K mg aK aW aF) : DOuter P w K mg base f fd := by
  refine ⟨?_, hm, F.kp, F.binds fun _ _ _ _ _ _ us hl => match us, hl with | [_], _ => rfl⟩
  refine F.ok scOuter (fun vs H Q E h => ?_) (fun cdv A outer s H vs Q E hr h => ?_)
  · obtain ⟨v, g, rfl, _⟩ := h
    rfl
  · obtain ⟨v, g, rfl, ⟨a, rfl, sq⟩, q⟩ := h
    refine ⟨_, pss_one <| ps_ret <| pe_cmpR op_in_seq (pe_ix ix_tup (pv 0) pe_int (fun _ _ => rfl)) (pe_glob (v := .ref aW) (by rfl) C.mW rfl) (by rfl), ?_⟩
    exact ⟨_, rfl, a, _, 0, _, rfl, rfl, sq, atI_nat (j := 0) rfl, aW, _, rfl, .inr (C.sW H), rfl, rfl, q _ port_in⟩
theorem scChkLags : FnScope ["net", "lags", "gate", "lag", "greatest"] ["net", "lags"] (defScope sChkLags) := ⟨rfl, rfl, rfl, by decide +kernel, rfl, by decide +kernel, by decide +kernel⟩
abbrev DChkLags (P : Program) (w : World) (K : PySem.W.Frag) (mg : Str → Option Value) (base : Heap) (C : Addr) := Df P w K mg base 3 "check_lags" ["net", "lags"] (spChkLags K C)
theorem ok_chkLags {f fO fF C : Addr} {fd fdO fdF : FuncData} (F : Fun K "check_lags" "check_lags" sChkLags f fd) (hm : mg "check_lags" = some (.ref f)) (B : Bt mg) (T : NT K mg C) (gl : ∃ t, mg "GREATEST_LAG" = some (.int 500 t)) (DO : DOuter P w K mg base fO fdO) (DF : DFromTo P w K mg base fF fdF) : DChkLags P w K mg base C f fd := by
  obtain ⟨tg, hgl⟩ := gl
  refine ⟨?_, hm, F.kp, F.binds fun _ _ _ _ _ _ us hl => match us, hl with | [_, _], _ => rfl⟩
  refine F.ok scChkLags (fun vs H Q E h => ?_) (fun cdv A outer s H vs Q E hr h => ?_)
  · obtain ⟨p, ng, nw, ll, gs, ws, ls, rfl, _⟩ := h
    rfl
  · obtain ⟨p, ng, nw, ll, gs, ws, ls, rfl, NA, hgl1, sl, lok, q⟩ := h
    have nd := scChkLags.nd
    have hr1 : Room 1 _ := hr.mono (by decide)
    refine ⟨_, pss_cons (ps_if (PW.pt (pw_or (pt_not (pt_val (pe_callB call_isi (by rfl) B.isi (by decide +kernel) (pa_cons (pv 1) (pa_cons (pe_bltn (v := .ty "list") (by rfl) B.list (by decide +kernel) rfl) pa_nil)))))
          (pw_or1 (pt_cmpR op_ne (pe_callB call_len_seq (by rfl) B.len PySem.boot_len (pa_cons (pv 1) pa_nil)) (pe_callB call_len_seq (by rfl) B.len PySem.boot_len (pa_cons (pe_fld (pv 0) rfl) pa_nil)) (nomark _))))) (pss_one ps_never) pss_nil) <|
      pss_one <| ps_for PassesOwn.never rfl (pi_zip (by rfl) B.zip (pa_cons (pe_fld (pv 0) rfl) (pa_cons (pv 1) pa_nil))) (pg_tup rfl (pgs_cons (pg_name (i := 2) nd rfl (.inl rfl)) (pgs_cons (pg_name (i := 3) nd rfl (.inl rfl)) pgs_nil))) <|
        pss_cons (ps_set (i := 4) nd rfl (.inl rfl) (pe_ifExp (pt_val (pe_call DO.ok hr1 (by rfl) DO.mg DO.kp DO.bd .nil pass0 (pa_cons (pv 2) pa_nil))) pe_int (pe_glob (v := .int 500) (by rfl) hgl ⟨_, rfl⟩))) <|
        pss_one <| ps_if (pt_not (pt_val (pe_call DF.ok hr (by rfl) DF.mg DF.kp DF.bd .nil pass0 (pa_cons (pv 3) (pa_cons (pe_un un_neg (pv 4)) (pa_cons (pv 4) pa_nil)))))) (pss_one ps_never) pss_nil, ?_⟩
    obtain ⟨dx, ob⟩ := id NA.ob
    obtain ⟨gv, hgv, ga⟩ := id NA.g
    have hlg : gv.length = gs.length := ga.1
    have hll := lok.len
    refine ⟨_, rfl, _, _, _, _, true, rfl, .ty "list", ty_lst sl, kit_ty (by decide +kernel), true, rfl, iteF ?_⟩
    refine ⟨_, rfl, ll, _, rfl, .inl sl, _, rfl, p, C, dx, _, _, rfl, ob, T.cl, T.nG, nf_gates _ _, ng, gv, rfl, .inl (SqL.of hgv), rfl, false, ?_, iteF ?_⟩
    · rw [List.length_map, hlg, hll, decide_eq_true rfl]
      rfl
    refine ⟨_, rfl, p, C, dx, _, _, rfl, ob, T.cl, T.nG, nf_gates _ _, _, rfl, ng, ll, gv, _, rfl, SqL.of hgv, sl, RZ.for_zipL (K := K) (a := ng) (b := ll) (xs := gv) (ys := ls.map V.int) (by rw [List.length_map, hlg, hll]) (fun i σ H' => ∃ s2 s3 s4 : Option V, σ = [some (.ref p), some (.ref ll), s2, s3, s4] ∧ Same H H') ⟨_, _, _, rfl, Same.refl _⟩ (fun i σ H' ⟨_, _, _, _, sm⟩ => ⟨SqL.of (sm _ _ hgv), sm.seq sl⟩) ?_ ?_⟩
    · rintro i x y T' σ H1 hx hy ⟨s2, s3, s4, rfl, sm⟩ hT
      obtain ⟨g, hg, gv'⟩ := ga.get hx
      obtain ⟨l, hl, rfl⟩ := int_at hy
      obtain ⟨l0, l1, lp⟩ := lok.ok i g l hg hl
      have sT := sm.trans (same_new (o := .tup [x, .int l]) hT)
      refine ⟨T', _, rfl, .inl (.inl upd_same), rfl, _, _, rfl, _, _, rfl, rfl, ?_⟩
      refine ⟨_, rfl, x, g, rfl, gv'.tk (TK.same sT), fun b hb => ⟨b, rfl, ite2 (fun e => ?_) (fun e => ?_)⟩⟩
      · have h0 := lp (hb.mp e)
        refine ⟨_, rfl, _, rfl, _, rfl, _, rfl, l, 0, 0, rfl, true, ?_, iteF ⟨_, _, _, rfl, sT⟩⟩
        rw [h0]
        rfl
      · refine ⟨_, rfl, _, rfl, _, rfl, _, rfl, l, -500, 500, rfl, true, ?_, iteF ⟨_, _, _, rfl, sT⟩⟩
        rw [decide_eq_true l0, decide_eq_true l1]
        rfl
    · rintro σ H1 ⟨s2, s3, s4, rfl, sm⟩
      exact q H1 sm
abbrev nCountsBy : List Str := ["net", "numbers", "start", "end", "held"]
theorem scCountsBy : FnScope nCountsBy ["net", "numbers"] (defScope sCountsBy) := ⟨rfl, rfl, rfl, by decide +kernel, rfl, by decide +kernel, by decide +kernel⟩
abbrev DCountsBy (P : Program) (w : World) (K : PySem.W.Frag) (mg : Str → Option Value) (base : Heap) (C : Addr) := Df P w K mg base 1 "counts_by" ["net", "numbers"] (spCountsBy K C)
theorem ok_countsBy {f C : Addr} {fd : FuncData} (F : Fun K "counts_by" "counts_by" sCountsBy f fd) (hm : mg "counts_by" = some (.ref f)) (B : Bt mg) (T : NT K mg C) : DCountsBy P w K mg base C f fd := by
  refine ⟨?_, hm, F.kp, F.binds fun _ _ _ _ _ _ us hl => match us, hl with | [_, _], _ => rfl⟩
  refine F.ok scCountsBy (fun vs H Q E h => ?_) (fun cdv A outer s H vs Q E hr h => ?_)
  · obtain ⟨p, ng, nw, ll, gs, ws, ls, rfl, _⟩ := h
    rfl
  · obtain ⟨p, ng, nw, ll, gs, ws, ls, rfl, NA, N, sl, lok, q⟩ := h
    have nd := scCountsBy.nd
    refine ⟨_, pss_one <| ps_ret <| pe_lc (own := [("start", 2), ("end", 3), ("held", 4)]) (g := gTup K 3 (gCons (gName 2) (gCons (gName 3) (gCons (gName 4) gNil)))) (tt := tYes) (te := tOp (rI0 fun i j => .int (i - j)) (tOp (rI0 fun i j => .int (i + j)) (tCB (Evl.rLenS K) (tCons (tVar 4) tNil)) (tOp (rIxL K) (tVar 1) (tVar 3))) (tOp (rIxL K) (tVar 1) (tVar 2))) rfl nd
        (pi_list (pe_fld (pv 0) rfl)) (blkOk_by (N := nCountsBy) (sc := defScope sCountsBy) (own := [("start", 2), ("end", 3), ("held", 4)]) (by decide +kernel))
        (fun _ _ _ _ _ => pg_tup rfl (pgs_cons (pg_name (i := 2) nd rfl (.inl rfl)) (pgs_cons (pg_name (i := 3) nd rfl (.inl rfl)) (pgs_cons (pg_name (i := 4) nd rfl (.inl rfl)) pgs_nil)))) (fun _ _ _ _ _ => pts_nil)
        (fun _ _ _ _ _ => pe_op op_sub (pe_op op_add (pe_callB call_len_seq (by rfl) B.len PySem.boot_len (pa_cons (pv 4) pa_nil)) (pe_ix ix_list (pv 1) (pv 3) (fun _ _ => rfl))) (pe_ix ix_list (pv 1) (pv 2) (fun _ _ => rfl))), ?_⟩
    have hgl := N.gl
    have hwl := N.wl
    obtain ⟨dx, ob⟩ := id NA.ob
    obtain ⟨wv, hwv, wa⟩ := id NA.w
    have hlw : wv.length = ws.length := wa.1
    have hll := lok
    refine ⟨_, rfl, p, C, dx, _, _, rfl, ob, T.cl, T.nW, nf_wires _ _, nw, rfl, ⟨_, SqL.of hwv⟩, fun D hD => ?_⟩
    refine lc_list (K := K) (a := nw) (xs := wv) (fun i Hc => Hc D = some (.lst ((cntsL (ws.take i) ls).map V.int)) ∧ Same H Hc) ⟨by rw [upd_same]; rfl, same_new hD⟩ (fun i Hc _ ⟨_, sm⟩ => SqL.of (sm _ _ hwv)) ?_ ?_
    · rintro i v Hc hv ⟨hc, sm⟩
      obtain ⟨x, hx, a, b, rfl, sq1, sq2⟩ := wa.get hv
      have hi : i < ws.length := (List.getElem?_eq_some_iff.mp hx).1
      have WX := N.wok x (List.mem_of_getElem? hx)
      have tk := TK.same sm
      refine ⟨a, _, rfl, tk.seq sq1, rfl, _, _, rfl, _, _, rfl, _, _, rfl, rfl, rfl, tyes ?_⟩
      refine ⟨_, rfl, b, _, rfl, .inr (tk.seq sq2), _, rfl, _, rfl, ll, _, _, _, rfl, rfl, sm.seq sl, atI_nat (getD_at (by rw [hll]; exact WX.e)), _, _, rfl, rfl, ?_⟩
      refine ⟨_, rfl, _, rfl, ll, _, _, _, rfl, rfl, sm.seq sl, atI_nat (getD_at (by rw [hll]; exact WX.s)), _, _, rfl, rfl, _, hc, ?_, ?_, same_mut sm hD⟩
      · unfold cntsL
        rw [List.length_map, List.length_map, List.length_take]
        exact small1000 (by omega)
      · rw [upd_same, List.take_add_one, hx]
        unfold cntsL
        rw [List.map_append, List.map_append, List.length_map]
        rfl
    · rintro H2 ⟨hc, sm⟩
      rw [hlw, List.take_length] at hc
      exact q D H2 sm hD hc
theorem scCounts : FnScope ["net", "lags"] ["net", "lags"] (defScope sCounts) := ⟨rfl, rfl, rfl, by decide +kernel, rfl, by decide +kernel, by decide +kernel⟩
abbrev DCounts (P : Program) (w : World) (K : PySem.W.Frag) (mg : Str → Option Value) (base : Heap) (C : Addr) := Df P w K mg base 4 "counts" ["net", "lags"] (spCounts K C)
theorem ok_counts {f fC fB C : Addr} {fd fdC fdB : FuncData} (F : Fun K "counts" "counts" sCounts f fd) (hm : mg "counts" = some (.ref f)) (DC : DChkLags P w K mg base C fC fdC) (DB : DCountsBy P w K mg base C fB fdB) : DCounts P w K mg base C f fd := by
  refine ⟨?_, hm, F.kp, F.binds fun _ _ _ _ _ _ us hl => match us, hl with | [_, _], _ => rfl⟩
  refine F.ok scCounts (fun vs H Q E h => ?_) (fun cdv A outer s H vs Q E hr h => ?_)
  · obtain ⟨p, ng, nw, ll, gs, ws, ls, rfl, _⟩ := h
    rfl
  · obtain ⟨p, ng, nw, ll, gs, ws, ls, rfl, NA, N, sl, lok, q⟩ := h
    have hr1 : Room 1 _ := hr.mono (by decide)
    refine ⟨_, pss_cons (ps_expr (pe_call DC.ok hr (by rfl) DC.mg DC.kp DC.bd .nil pass0 (pa_cons (pv 0) (pa_cons (pv 1) pa_nil)))) <|
      pss_one <| ps_ret (pe_call DB.ok hr1 (by rfl) DB.mg DB.kp DB.bd .nil pass0 (pa_cons (pv 0) (pa_cons (pv 1) pa_nil))), ?_⟩
    have hgl := N.gl
    refine ⟨_, rfl, _, rfl, p, ng, nw, ll, gs, ws, ls, rfl, NA, by omega, sl, lok, fun H1 s1 => ?_⟩
    exact ⟨_, rfl, _, rfl, p, ng, nw, ll, gs, ws, ls, rfl, NA.same s1, N, s1.seq sl, lok.len, fun l H2 s2 hl el => q l H2 (s1.trans s2) (s1.free hl) el⟩
def lagF (ls : List Int) (g : Nat) : Int := ls.getD g 0
/-- lags that are let -/
def LetOk (ws : List Wr) (ls : List Int) : Prop := ∀ y ∈ cntsL ws ls, 0 ≤ y
theorem LagOk.letL {gs : List Gt} {ws : List Wr} {ls : List Int} (h : LagOk gs ls) (l : LetOk ws ls) : LetL gs ws (lagF ls) := by
  refine ⟨fun x hx => ?_, fun g hg hp => ?_⟩
  · have := l _ (List.mem_map.mpr ⟨x, hx, rfl⟩)
    show ls.getD x.1 0 ≤ _ + ls.getD x.2.1 0
    omega
  · have hl : g < ls.length := by rw [h.len]; exact hg
    have hk : kindAt gs g = gs[g].1 := kindAt_get (List.getElem?_eq_getElem hg)
    have := (h.ok g gs[g] ls[g] (List.getElem?_eq_getElem hg) (List.getElem?_eq_getElem hl)).2.2 (hk ▸ hp)
    show ls.getD g 0 = 0
    rw [List.getD_eq_getElem?_getD, List.getElem?_eq_getElem hl]
    exact this
def spLetCounts (K : PySem.W.Frag) (C : Addr) : Sp := fun vs H Q _ => ∃ (p ng nw ll : Addr) (gs : List Gt) (ws : List Wr) (ls : List Int), vs = [.ref p, .ref ll] ∧ NetAt K C H p ng nw gs ws ∧ NetOk gs ws ∧ SqL K H ll (ls.map V.int) ∧ LagOk gs ls ∧ LetOk ws ls ∧ ∀ l H', Same H H' → H l = none → H' l = some (.lst ((cntsL ws ls).map V.int)) → Q (.ref l) H'
theorem scLetCounts : FnScope ["net", "lags", "told", "place", "many"] ["net", "lags"] (defScope sLetCounts) := ⟨rfl, rfl, rfl, by decide +kernel, rfl, by decide +kernel, by decide +kernel⟩
abbrev DLetCounts (P : Program) (w : World) (K : PySem.W.Frag) (mg : Str → Option Value) (base : Heap) (C : Addr) := Df P w K mg base 5 "let_counts" ["net", "lags"] (spLetCounts K C)
theorem ok_letCounts {f fC C : Addr} {fd fdC : FuncData} (F : Fun K "let_counts" "let_counts" sLetCounts f fd) (hm : mg "let_counts" = some (.ref f)) (B : Bt mg) (DC : DCounts P w K mg base C fC fdC) : DLetCounts P w K mg base C f fd := by
  refine ⟨?_, hm, F.kp, F.binds fun _ _ _ _ _ _ us hl => match us, hl with | [_, _], _ => rfl⟩
  refine F.ok scLetCounts (fun vs H Q E h => ?_) (fun cdv A outer s H vs Q E hr h => ?_)
  · obtain ⟨p, ng, nw, ll, gs, ws, ls, rfl, _⟩ := h
    rfl
  · obtain ⟨p, ng, nw, ll, gs, ws, ls, rfl, NA, N, sl, lok, lt, q⟩ := h
    have nd := scLetCounts.nd
    refine ⟨_, pss_cons (ps_set (i := 2) nd rfl (.inl rfl) (pe_call DC.ok hr (by rfl) DC.mg DC.kp DC.bd .nil pass0 (pa_cons (pv 0) (pa_cons (pv 1) pa_nil)))) <|
      pss_cons (ps_for PassesOwn.never rfl (pi_enum (by rfl) B.enum (pa_cons (pv 2) pa_nil)) (pg_tup rfl (pgs_cons (pg_name (i := 3) nd rfl (.inl rfl)) (pgs_cons (pg_name (i := 4) nd rfl (.inl rfl)) pgs_nil))) <|
        pss_one <| ps_if (pt_cmpR op_lt (pv 4) pe_int (nomark _)) (pss_one ps_never) pss_nil) <|
      pss_one <| ps_ret (pv 2), ?_⟩
    refine ⟨_, rfl, _, rfl, p, ng, nw, ll, gs, ws, ls, rfl, NA, N, sl, lok, fun l H1 s1 hl el => ?_⟩
    refine ⟨_, rfl, l, _, rfl, SqL.of el, for_it (walk_enum (K := K) (a := l) (xs := (cntsL ws ls).map V.int)) (fun i σ H2 => ∃ s3 s4 : Option V, σ = [some (.ref p), some (.ref ll), some (.ref l), s3, s4] ∧ Same H1 H2) ⟨_, _, rfl, Same.refl _⟩ (fun i σ H2 _ ⟨_, _, _, sm⟩ => SqL.of (sm _ _ el)) ?_ ?_⟩
    · rintro i x σ H2 H2' hi ⟨s3, s4, rfl, sm⟩ ⟨T', x1, y, rfl, hT, rfl, ex, ey⟩
      cases ex
      obtain ⟨z, hz, rfl⟩ := int_at ey
      have h0 := lt z (List.mem_of_getElem? hz)
      refine ⟨T', _, rfl, .inl (.inl upd_same), rfl, _, _, rfl, _, _, rfl, rfl, ?_⟩
      refine ⟨_, rfl, _, _, rfl, rfl, _, rfl, ite2 (fun e => ?_) (fun _ => ⟨_, _, rfl, sm.trans (same_new hT)⟩)⟩
      exfalso
      have : z < 0 := of_decide_eq_true e
      omega
    · rintro σ H2 ⟨s3, s4, rfl, sm⟩
      exact ⟨_, rfl, q l H2 (s1.trans sm) hl (sm _ _ el)⟩
/-! ### the worths of all gates, beat by beat -/
def HRow (H : Hp) (lt : Addr) (v : V) (ts : List Int) : Prop := ∃ a, v = .ref a ∧ a ≠ lt ∧ H a = some (.lst (ts.map V.int))
structure HL (H : Hp) (lt : Addr) (vs : List V) (tss : List (List Int)) : Prop where
  at_ : H lt = some (.lst vs)
  al : All2 (HRow H lt) vs tss
theorem HL.same {H H' : Hp} {lt : Addr} {vs : List V} {tss : List (List Int)} (h : HL H lt vs tss) (s : Same H H') : HL H' lt vs tss :=
  ⟨s _ _ h.at_, h.al.imp fun v ts r => by
    obtain ⟨a, e, n, ha⟩ := r
    exact ⟨a, e, n, s _ _ ha⟩⟩
theorem HL.push {H : Hp} {lt a : Addr} {vs : List V} {tss : List (List Int)} {ts : List Int} (h : HL H lt vs tss) (n : a ≠ lt) (ha : H a = some (.lst (ts.map V.int))) : HL (upd H lt (.lst (vs ++ [.ref a]))) lt (vs ++ [.ref a]) (tss ++ [ts]) :=
  ⟨upd_same, (h.al.imp fun v ts r => by
    obtain ⟨b, e, nb, hb⟩ := r
    exact ⟨b, e, nb, by rw [upd_ne nb]; exact hb⟩).snoc ⟨a, rfl, n, by rw [upd_ne n]; exact ha⟩⟩
def zeroRow (gs : List Gt) : List Int := List.replicate (plc gs "in" gs.length).length 0
theorem zeroRow_ok (gs : List Gt) : RowOk gs (zeroRow gs) := ⟨List.length_replicate .., fun y hy => by
  rw [List.eq_of_mem_replicate hy]
  omega⟩
def spMore (K : PySem.W.Frag) (C : Addr) : Sp := fun vs H Q _ => ∃ (p ng nw lr : Addr) (gs : List Gt) (ws : List Wr) (rv : List V) (rss : List (List Int)) (m : Nat), vs = [.ref p, .ref lr, .int (m : Nat)] ∧ NetAt K C H p ng nw gs ws ∧ NetOk gs ws ∧ H lr = some (.lst rv) ∧ All2 (RowV K H) rv rss ∧ (∀ rs ∈ rss, RowOk gs rs) ∧ rss.length + m ≤ 1000 ∧
  ∀ lt tv tss we H', Same H H' → Run gs ws (rss ++ List.replicate m (zeroRow gs)) tss we → HL H' lt tv tss → H lt = none → Q (.ref lt) H'
theorem rep_flat' {α : Type} (n : Nat) (x : α) : (List.replicate n [x]).flatten = List.replicate n x := by
  induction n with
  | zero => rfl
  | succ n ih => rw [List.replicate_succ, List.flatten_cons, ih, List.replicate_succ]; rfl
theorem all2_rep' {α β : Type} {R : α → β → Prop} {x : α} {y : β} (h : R x y) : ∀ n, All2 R (List.replicate n x) (List.replicate n y)
  | 0 => All2.nil
  | n + 1 => All2.cons h (all2_rep' h n)
theorem all2_app {α β : Type} {R : α → β → Prop} {xs xs' : List α} {ys ys' : List β} (h : All2 R xs ys) (h' : All2 R xs' ys') : All2 R (xs ++ xs') (ys ++ ys') := by
  refine ⟨by rw [List.length_append, List.length_append, h.1, h'.1], fun i x y hx hy => ?_⟩
  by_cases hi : i < xs.length
  · rw [List.getElem?_append_left hi] at hx
    rw [List.getElem?_append_left (by rw [← h.1]; exact hi)] at hy
    exact h.2 i x y hx hy
  · rw [List.getElem?_append_right (by omega)] at hx
    rw [List.getElem?_append_right (by rw [← h.1]; omega), ← h.1] at hy
    exact h'.2 _ x y hx hy
abbrev nMore : List Str := ["net", "rows", "more", "nothing", "now", "told", "row"]
theorem scMore : FnScope nMore ["net", "rows", "more"] (defScope sMore) := ⟨rfl, rfl, rfl, by decide +kernel, rfl, by decide +kernel, by decide +kernel⟩
abbrev DMore (P : Program) (w : World) (K : PySem.W.Frag) (mg : Str → Option Value) (base : Heap) (C : Addr) := Df P w K mg base 9 "worths_with_more" ["net", "rows", "more"] (spMore K C)
theorem ok_more {f fN fW fB C : Addr} {fd fdN fdW fdB : FuncData} (F : Fun K "worths_with_more" "worths_with_more" sMore f fd) (hm : mg "worths_with_more" = some (.ref f)) (B : Bt mg) (T : NT K mg C) (ins : FnOk P w K mg base CX0 2 fN fdN ["self"] (spPorts K C "in")) (mN : Meth K C "ins" fN) (bN : Binds K fdN ["self"] []) (DW : DWorths P w K mg base C fW fdW) (DB : DNetB P w K mg base C fB fdB) : DMore P w K mg base C f fd := by
  refine ⟨?_, hm, F.kp, F.binds fun _ _ _ _ _ _ us hl => match us, hl with | [_, _, _], _ => rfl⟩
  refine F.ok scMore (fun vs H Q E h => ?_) (fun cdv A outer s H vs Q E hr h => ?_)
  · obtain ⟨p, ng, nw, lr, gs, ws, rv, rss, m, rfl, _⟩ := h
    rfl
  · obtain ⟨p, ng, nw, lr, gs, ws, rv, rss, m, rfl, NA, N, hlr, ra, hro, hlen, q⟩ := h
    have nd := scMore.nd
    have hr5 : Room 5 _ := hr.mono (by decide)
    have hr2 : Room 2 _ := hr.mono (by decide)
    refine ⟨_, pss_cons (ps_set (i := 3) nd rfl (.inl rfl) (pe_op op_rep (pe_lst (pa_cons pe_int pa_nil)) (pe_callB call_len_seq (by rfl) B.len PySem.boot_len (pa_cons (pe_meth0 (pv 0) T.cl mN ins hr2 bN .nil pass0) pa_nil)))) <|
      pss_cons (ps_set (i := 4) nd rfl (.inl rfl) (pv 0)) <|
      pss_cons (ps_set (i := 5) nd rfl (.inl rfl) (pe_lst pa_nil)) <|
      pss_cons (ps_for PassesOwn.never rfl (pi_list (pe_op op_cat (pv 1) (pe_op op_rep (pe_lst (pa_cons (pv 3) pa_nil)) (pv 2)))) (pg_name (i := 6) nd rfl (.inl rfl)) <|
        pss_cons (ps_expr (pe_bm PySem.F.plainAttrs_list PySem.F.slot_list_append PySem.F.type_list_append mt_append (pv 5) (pa_cons (pe_call DW.ok hr5 (by rfl) DW.mg DW.kp DW.bd .nil pass0 (pa_cons (pv 4) (pa_cons (pv 6) pa_nil))) pa_nil))) <|
        pss_one <| ps_set (i := 4) nd rfl (.inl rfl) (pe_call DB.ok hr (by rfl) DB.mg DB.kp DB.bd .nil pass0 (pa_cons (pv 4) (pa_cons (pe_ix ix_list (pv 5) (pe_un un_neg pe_int) (fun _ _ => rfl)) pa_nil)))) <|
      pss_one <| ps_ret (pv 5), ?_⟩
    have hgl := N.gl
    have hpl := plc_len gs "in" gs.length
    -- nothing
    refine ⟨(by show 1 ≤ sizeLine; decide), fun l1 hl1 => ?_⟩
    have s1 : Same H (upd H l1 (.lst [.int 0])) := same_new hl1
    have e1 : (upd H l1 (.lst [.int 0])) l1 = some (.lst [.int 0]) := upd_same
    generalize upd H l1 (.lst [.int 0]) = H1 at s1 e1
    have NA1 := NA.same s1
    obtain ⟨dx1, ob1⟩ := id NA1.ob
    refine ⟨_, rfl, p, dx1, _, rfl, ob1, nf_no _ _ (by decide +kernel) (by decide +kernel), p, ng, nw, gs, ws, rfl, NA1, by omega, fun l2 H2 hl2 s2 e2 => ?_⟩
    refine ⟨l2, _, rfl, .inl (SqL.of e2), l1, _, _, rfl, rfl, s2 _ _ e1, by rw [List.length_map]; omega, by rw [List.length_map]; omega, ?_, fun l3 hl3 => ?_⟩
    · rw [List.length_map, Int.toNat_natCast]
      show 1 * _ ≤ sizeLine
      exact Nat.le_of_lt (small1000 (by omega))
    rw [List.length_map, Int.toNat_natCast, rep_flat']
    have ez : List.replicate (plc gs "in" gs.length).length (V.int 0) = (zeroRow gs).map V.int := by
      unfold zeroRow
      rw [List.map_replicate]
    rw [ez]
    have s3 : Same H2 (upd H2 l3 (.lst ((zeroRow gs).map V.int))) := same_new hl3
    have e3 : (upd H2 l3 (.lst ((zeroRow gs).map V.int))) l3 = some (.lst ((zeroRow gs).map V.int)) := upd_same
    generalize upd H2 l3 (.lst ((zeroRow gs).map V.int)) = H3 at s3 e3
    refine gn_norm (σ' := [some (.ref p), some (.ref lr), some (.int (m : Nat)), some (.ref l3), none, none, none]) rfl ?_
    refine ⟨_, rfl, ?_⟩
    refine gn_norm (σ' := [some (.ref p), some (.ref lr), some (.int (m : Nat)), some (.ref l3), some (.ref p), none, none]) rfl ?_
    refine ⟨(by show 0 ≤ sizeLine; decide), fun lt hlt => ?_⟩
    have s03 := s1.trans (s2.trans s3)
    have hlt0 : H lt = none := s03.free hlt
    have s4 : Same H3 (upd H3 lt (.lst [])) := same_new hlt
    have e4 : (upd H3 lt (.lst [])) lt = some (.lst []) := upd_same
    generalize upd H3 lt (.lst []) = H4 at s4 e4
    refine gn_norm (σ' := [some (.ref p), some (.ref lr), some (.int (m : Nat)), some (.ref l3), some (.ref p), some (.ref lt), none]) rfl ?_
    refine ⟨_, rfl, _, rfl, (by show 1 ≤ sizeLine; decide), fun l5 hl5 => ?_⟩
    have s5 : Same H4 (upd H4 l5 (.lst [.ref l3])) := same_new hl5
    have e5 : (upd H4 l5 (.lst [.ref l3])) l5 = some (.lst [.ref l3]) := upd_same
    generalize upd H4 l5 (.lst [.ref l3]) = H5 at s5 e5
    refine ⟨_, rfl, l5, _, _, rfl, rfl, e5, by omega, by omega, ?_, fun l6 hl6 => ?_⟩
    · show 1 * _ ≤ sizeLine
      exact Nat.le_of_lt (small1000 (by omega))
    rw [Int.toNat_natCast, rep_flat']
    have s6 : Same H5 (upd H5 l6 (.lst (List.replicate m (V.ref l3)))) := same_new hl6
    have e6 : (upd H5 l6 (.lst (List.replicate m (V.ref l3)))) l6 = some (.lst (List.replicate m (V.ref l3))) := upd_same
    generalize upd H5 l6 (.lst (List.replicate m (V.ref l3))) = H6 at s6 e6
    have s06 := s03.trans (s4.trans (s5.trans s6))
    refine ⟨lr, l6, _, _, rfl, rfl, s06 _ _ hlr, e6, ?_, fun l7 hl7 => ?_⟩
    · rw [ra.1, List.length_replicate]
      exact Nat.le_of_lt (small1000 (by omega))
    have s7 : Same H6 (upd H6 l7 (.lst (rv ++ List.replicate m (V.ref l3)))) := same_new hl7
    have e7 : (upd H6 l7 (.lst (rv ++ List.replicate m (V.ref l3)))) l7 = some (.lst (rv ++ List.replicate m (V.ref l3))) := upd_same
    generalize upd H6 l7 (.lst (rv ++ List.replicate m (V.ref l3))) = H7 at s7 e7
    have s07 := s06.trans s7
    have s47 := s5.trans (s6.trans s7)
    have al7 : All2 (RowV K H3) (rv ++ List.replicate m (V.ref l3)) (rss ++ List.replicate m (zeroRow gs)) := all2_app (ra.imp fun _ _ r => r.same s03) (all2_rep' ⟨l3, rfl, SqL.of e3⟩ m)
    have n7 : l7 ≠ lt := (ne_of_none ((s5.trans s6) _ _ e4) hl7).symm
    have hro7 : ∀ rs ∈ rss ++ List.replicate m (zeroRow gs), RowOk gs rs := fun rs hr => by
      rcases List.mem_append.mp hr with z | z
      · exact hro rs z
      · rw [List.eq_of_mem_replicate z]
        exact zeroRow_ok gs
    have hal : (rss ++ List.replicate m (zeroRow gs)).length ≤ 1000 := by rw [List.length_append, List.length_replicate]; exact hlen
    generalize hA : rss ++ List.replicate m (zeroRow gs) = rall at al7 hro7 hal q
    generalize hV : rv ++ List.replicate m (V.ref l3) = vall at al7 e7
    obtain ⟨g0, hg0, _⟩ := id NA.g
    obtain ⟨w0, hw0, _⟩ := id NA.w
    refine ⟨l7, rfl, ⟨_, SqL.of e7⟩, for_list (K := K) (a := l7) (xs := vall) (fun i σ H8 => ∃ (s6 : Option V) (pn gn wn : Addr) (wm : List Wr) (tv : List V) (tss : List (List Int)), σ = [some (.ref p), some (.ref lr), some (.int (m : Nat)), some (.ref l3), some (.ref pn), some (.ref lt), s6] ∧
        NetAt K C H8 pn gn wn gs wm ∧ Run gs ws (rall.take i) tss wm ∧ Same H3 H8 ∧ HL H8 lt tv tss ∧ tv.length = i ∧ gn ≠ lt ∧ wn ≠ lt ∧ But lt H7 H8)
      ⟨_, p, ng, nw, ws, [], [], rfl, NA.same s07, ⟨rfl, rfl⟩, s4.trans s47, ⟨s47 _ _ e4, All2.nil⟩, rfl, ne_of_none (s03 _ _ hg0) hlt, ne_of_none (s03 _ _ hw0) hlt, But.refl _ _⟩ (fun i σ H8 _ ⟨_, _, _, _, _, _, _, _, _, _, _, _, _, _, _, bt⟩ => SqL.of (bt _ _ n7 e7)) ?_ ?_⟩
    · rintro i v σ H8 hv ⟨t6, pn, gn, wn, wm, tv, tss, rfl, NAn, hrun, sm, hl, htl, ngl, nwl, bt⟩
      obtain ⟨rs, hrs, a, rfl, sq⟩ := al7.get hv
      have hi : i < rall.length := (List.getElem?_eq_some_iff.mp hrs).1
      have hro' := hro7 rs (List.mem_of_getElem? hrs)
      have Nm := hrun.ok N
      refine ⟨_, rfl, .inl ⟨rfl, _, SqL.of hl.at_⟩, _, rfl, _, rfl, pn, gn, wn, a, gs, wm, rs, rfl, NAn, Nm, sm.seq sq, hro'.1, hro'.2, fun lw H9 ts hlw s9 iw wt elw => ?_⟩
      have hl9 := hl.same s9
      have nlw : lw ≠ lt := fun z => by
        rw [z, hl.at_] at hlw
        cases hlw
      refine ⟨lt, _, _, rfl, rfl, hl9.at_, small1000 (by omega), ?_⟩
      have hl10 := hl9.push nlw elw
      have NA10 := (NAn.same s9).mut (o := .lst (tv ++ [.ref lw])) hl9.at_ ngl nwl
      have sm10 : Same H3 (upd H9 lt (.lst (tv ++ [.ref lw]))) := same_mut (sm.trans s9) hlt
      have b10 : But lt H7 (upd H9 lt (.lst (tv ++ [.ref lw]))) := (bt.trans (But.same s9)).trans But.upd
      have e10 : (upd H9 lt (.lst (tv ++ [.ref lw]))) lw = some (.lst (ts.map V.int)) := by rw [upd_ne nlw]; exact elw
      generalize upd H9 lt (.lst (tv ++ [.ref lw])) = H10 at hl10 NA10 sm10 b10 e10
      refine ⟨_, rfl, _, rfl, _, rfl, lt, _, _, .ref lw, rfl, rfl, SqL.of hl10.at_, atI_last _ _, pn, gn, wn, lw, gs, wm, ts, rfl, NA10, Nm, e10, iw.len, wt, fun p' ng' nw' H11 s11 NA' hp' hng' hnw' => ?_⟩
      refine ⟨_, p', ng', nw', _, tv ++ [.ref lw], tss ++ [ts], rfl, NA', ?_, sm10.trans s11, hl10.same s11, by rw [List.length_append, htl]; rfl, fun z => ?_, fun z => ?_, b10.trans (But.same s11)⟩
      · rw [List.take_add_one, hrs]
        exact hrun.snoc iw wt
      · rw [z, hl10.at_] at hng'
        cases hng'
      · rw [z, hl10.at_] at hnw'
        cases hnw'
    · rintro σ H8 ⟨t6, pn, gn, wn, wm, tv, tss, rfl, NAn, hrun, sm, hl, htl, ngl, nwl, bt⟩
      rw [al7.1, List.take_length] at hrun
      exact ⟨_, rfl, q lt tv tss wm H8 (s03.trans sm) hrun hl hlt0⟩
end
end Lag

set_option maxRecDepth 100000
set_option maxHeartbeats 8000000
namespace Lag
open PySem PySem.Spec PyProof.Rows L2
abbrev sMoved : Stmt := topS 58 -- @moved
theorem cut_mid2 {xs : List V} (a c : Nat) : cutV xs (some (a : Int)) (some ((a + c : Nat) : Int)) = (xs.drop a).take c := by
  unfold cutV
  rw [HT.sIx_nat, HT.sIx_nat]
  refine List.ext_getElem? fun i => ?_
  rw [List.getElem?_take, List.getElem?_take, List.getElem?_drop, List.getElem?_drop]
  by_cases h1 : a ≤ xs.length
  · rw [Nat.min_eq_left h1]
    by_cases h2 : i < c
    · rw [if_pos h2]
      by_cases h3 : i < min (a + c) xs.length - a
      · rw [if_pos h3]
      · rw [if_neg h3, List.getElem?_eq_none (by omega)]
    · rw [if_neg h2, if_neg (by omega)]
  · rw [if_neg (by omega)]
    by_cases h2 : i < c
    · rw [if_pos h2, List.getElem?_eq_none (by omega)]
    · rw [if_neg h2]
theorem Run.wok {gs : List Gt} : ∀ {rss : List (List Int)} {ws we : List Wr} {tss : List (List Int)}, Run gs ws rss tss we → ∀ ts ∈ tss, WOk1 ts
  | [], _, _, _, h, ts, ht => by rw [h.1] at ht; simp at ht
  | r :: rss, _, _, _, h, ts, ht => by
    obtain ⟨t, tl, h1, _, h3, h4⟩ := h
    rw [h1] at ht
    rcases List.mem_cons.mp ht with e | e
    · rw [e]
      exact h3
    · exact Run.wok h4 ts e
theorem lag_get {gs : List Gt} {ls : List Int} (h : LagOk gs ls) {g : Nat} (hg : g < gs.length) : (ls.map V.int)[g]? = some (.int (lagF ls g)) ∧ lagF ls g ∈ ls := by
  have hl : g < ls.length := by rw [h.len]; exact hg
  refine ⟨getD_at hl, ?_⟩
  unfold lagF
  rw [List.getD_eq_getElem?_getD, List.getElem?_eq_getElem hl]
  exact List.getElem_mem hl
def spMoved (K : PySem.W.Frag) (C : Addr) : Sp := fun vs H Q _ => ∃ (p ng nw ll lr : Addr) (gs : List Gt) (ws : List Wr) (ls : List Int) (rv : List V) (rss : List (List Int)), vs = [.ref p, .ref ll, .ref lr] ∧ NetAt K C H p ng nw gs ws ∧ NetOk gs ws ∧ SqL K H ll (ls.map V.int) ∧ LagOk gs ls ∧ LetOk ws ls ∧ H lr = some (.lst rv) ∧ All2 (RowV K H) rv rss ∧ (∀ rs ∈ rss, RowOk gs rs) ∧ rss.length ≤ 400 ∧ (∀ g, g < gs.length → lagF ls g ≤ rss.length) ∧ (∀ x ∈ ws, cnW (lagF ls) x ≤ 900) ∧
  ∀ t p' ng' nw' lo H' tss we m tss0 we0 as, Same H H' → Run gs ws rss tss we → Run gs ws (rss ++ List.replicate m (zeroRow gs)) tss0 we0 → (∀ g, g < gs.length → -lagF ls g ≤ (m : Int)) → NetOk gs (ws.map (mvW tss0 rss.length (lagF ls))) → NetAt K C H' p' ng' nw' gs (ws.map (mvW tss0 rss.length (lagF ls))) → LL H H' lo (tss.map (outsOf gs)) as → H' t = some (.tup [.ref p', .ref lo]) → H p' = none → H ng' = none → H nw' = none → Q (.ref t) H'
section
variable {P : Program} {w : World} {K : PySem.W.Frag} {mg : Str → Option Value} {base : Heap}
abbrev nMoved : List Str := ["net", "lags", "rows", "many", "outs", "needed", "history", "wires", "start", "end", "held", "count", "told", "row", "first"]
theorem scMoved : FnScope nMoved ["net", "lags", "rows"] (defScope sMoved) := ⟨rfl, rfl, rfl, by decide +kernel, rfl, by decide +kernel, by decide +kernel⟩
abbrev DMoved (P : Program) (w : World) (K : PySem.W.Frag) (mg : Str → Option Value) (base : Heap) (C : Addr) := Df P w K mg base 11 "moved" ["net", "lags", "rows"] (spMoved K C)
theorem ok_moved {f fL fR fM fI C : Addr} {fd fdL fdR fdM fdI : FuncData} (F : Fun K "moved" "moved" sMoved f fd) (hm : mg "moved" = some (.ref f)) (B : Bt mg) (mn : mg "min" = none) (T : NT K mg C) (DL : DLetCounts P w K mg base C fL fdL) (DR : DRun P w K mg base C fR fdR) (DM : DMore P w K mg base C fM fdM)
    (MK : Mk K C fI) (init : FnOk P w K mg base CX0 6 fI fdI ["self", "gates", "wires"] (spInit K C)) (bI : Binds K fdI ["self", "gates", "wires"] []) : DMoved P w K mg base C f fd := by
  refine ⟨?_, hm, F.kp, F.binds fun _ _ _ _ _ _ us hl => match us, hl with | [_, _, _], _ => rfl⟩
  refine F.ok scMoved (fun vs H Q E h => ?_) (fun cdv A outer s H vs Q E hr h => ?_)
  · obtain ⟨p, ng, nw, ll, lr, gs, ws, ls, rv, rss, rfl, _⟩ := h
    rfl
  · obtain ⟨p, ng, nw, ll, lr, gs, ws, ls, rv, rss, rfl, NA, N, sl, lok, lt, hlr, ra, hro, hrl, hT, hcn, q⟩ := h
    have nd := scMoved.nd
    have hr9 : Room 9 _ := hr.mono (by decide)
    have hr7 : Room 7 _ := hr.mono (by decide)
    have hr5 : Room 5 _ := hr.mono (by decide)
    refine ⟨_, pss_cons (ps_set (i := 3) nd rfl (.inl rfl) (pe_call DL.ok hr5 (by rfl) DL.mg DL.kp DL.bd .nil pass0 (pa_cons (pv 0) (pa_cons (pv 1) pa_nil)))) <|
      pss_cons (ps_set (i := 4) nd rfl (.inl rfl) (pe_ix ix_tup (pe_call DR.ok hr (by rfl) DR.mg DR.kp DR.bd .nil pass0 (pa_cons (pv 0) (pa_cons (pv 2) pa_nil))) pe_int (fun _ _ => rfl))) <|
      pss_cons (ps_set (i := 5) nd rfl (.inl rfl) (pe_callB (call_max2 rfl) (by rfl) B.max (by decide +kernel) (pa_cons pe_int (pa_cons (pe_callB (cr_max rfl) (by rfl) B.max (by decide +kernel) (pa_cons (pv 1) pa_nil)) pa_nil)))) <|
      pss_cons (ps_if (pt_cmpR op_lt (pe_callB call_len_seq (by rfl) B.len PySem.boot_len (pa_cons (pv 2) pa_nil)) (pv 5) (nomark _)) (pss_one ps_never) pss_nil) <|
      pss_cons (ps_set (i := 6) nd rfl (.inl rfl) (pe_call DM.ok hr9 (by rfl) DM.mg DM.kp DM.bd .nil pass0 (pa_cons (pv 0) (pa_cons (pv 2) (pa_cons (pe_callB (call_max2 rfl) (by rfl) B.max (by decide +kernel) (pa_cons pe_int (pa_cons (pe_un un_neg (pe_callB (cr_min rfl) (by rfl) mn (by decide +kernel) (pa_cons (pv 1) pa_nil))) pa_nil))) pa_nil))))) <|
      pss_cons (ps_set (i := 7) nd rfl (.inl rfl) (pe_lst pa_nil)) <|
      pss_cons (ps_for PassesOwn.never rfl (pi_zip (by rfl) B.zip (pa_cons (pe_fld (pv 0) rfl) (pa_cons (pv 3) pa_nil))) (pg_tup rfl (pgs_cons (pg_tup rfl (pgs_cons (pg_name (i := 8) nd rfl (.inr rfl)) (pgs_cons (pg_name (i := 9) nd rfl (.inl rfl)) (pgs_cons (pg_name (i := 10) nd rfl (.inl rfl)) pgs_nil)))) (pgs_cons (pg_name (i := 11) nd rfl (.inl rfl)) pgs_nil))) <|
        pss_cons (ps_set (i := 13) nd rfl (.inl rfl) (pe_op op_cat (pe_callTy call_list_of (by rfl) B.list (by decide +kernel) (pa_cons (pv 10) pa_nil)) (pe_lc (own := [("told", 12)]) (g := gName 12) (tt := tYes) (te := tOp (rIxL K) (tVar 12) (tVar 8)) rfl nd (pi_list (pv 6)) (blkOk_by (N := nMoved) (sc := defScope sMoved) (own := [("told", 12)]) (by decide +kernel)) (fun _ _ _ _ _ => pg_name (i := 12) nd rfl (.inl rfl)) (fun _ _ _ _ _ => pts_nil) (fun _ _ _ _ _ => pe_ix ix_list (pv 12) (pv 8) (fun _ _ => rfl))))) <|
        pss_cons (ps_set (i := 14) nd rfl (.inl rfl) (pe_op op_sub (pe_callB call_len_seq (by rfl) B.len PySem.boot_len (pa_cons (pv 2) pa_nil)) (pe_ix ix_list (pv 1) (pv 9) (fun _ _ => rfl)))) <|
        pss_one <| ps_expr (pe_bm PySem.F.plainAttrs_list PySem.F.slot_list_append PySem.F.type_list_append mt_append (pv 7) (pa_cons (pe_tup (pa_cons (pv 8) (pa_cons (pv 9) (pa_cons (pe_callTy call_tuple_of (by rfl) B.tuple (by decide +kernel) (pa_cons (pe_slice sl_list (pv 13) (po_some (pv 14)) (po_some (pe_op op_add (pv 14) (pv 11)))) pa_nil)) pa_nil)))) pa_nil))) <|
      pss_one <| ps_ret (pe_tup (pa_cons (pe_make MK init hr7 (by rfl) T.mg bI .nil pass0 (pa_cons (pe_fld (pv 0) rfl) (pa_cons (pv 7) pa_nil))) (pa_cons (pv 4) pa_nil))), ?_⟩
    have hgl := N.gl
    have hwl := N.wl
    have hll := lok.len
    have hln : 0 < ls.length := by
      rw [hll]
      exact List.length_pos_iff.mpr N.ne
    have hlb : ∀ y ∈ ls, -500 ≤ y ∧ y ≤ 500 := fun y hy => by
      obtain ⟨i, hi⟩ := List.getElem?_of_mem hy
      have hil : i < gs.length := by rw [← hll]; exact (List.getElem?_eq_some_iff.mp hi).1
      have := lok.ok i _ y (List.getElem?_eq_getElem hil) hi
      exact ⟨this.1, this.2.1⟩
    have hmem : ∀ y ∈ ls, ∃ g, g < gs.length ∧ lagF ls g = y := fun y hy => by
      obtain ⟨i, hi⟩ := List.getElem?_of_mem hy
      refine ⟨i, by rw [← hll]; exact (List.getElem?_eq_some_iff.mp hi).1, ?_⟩
      unfold lagF
      rw [List.getD_eq_getElem?_getD, hi]
      rfl
    -- many
    refine ⟨_, rfl, _, rfl, p, ng, nw, ll, gs, ws, ls, rfl, NA, N, sl, lok, lt, fun lm H1 s1 hlm em => ?_⟩
    refine gn_norm (σ' := [some (.ref p), some (.ref ll), some (.ref lr), some (.ref lm), none, none, none, none, none, none, none, none, none, none, none]) rfl ?_
    -- outs
    refine ⟨_, rfl, _, rfl, p, ng, nw, lr, gs, ws, rss, rfl, NA.same s1, N, ⟨rv, SqL.of (s1 _ _ hlr), ra.imp fun _ _ r => r.same s1⟩, hro, by omega, fun t2 p2 ng2 nw2 lo H2 tss we as s2 hrun NA2 hLL et2 hp2 hng2 hnw2 => ?_⟩
    refine ⟨t2, _, _, .ref lo, rfl, rfl, .inl (.inl et2), atI_nat (j := 1) rfl, ?_⟩
    refine gn_norm (σ' := [some (.ref p), some (.ref ll), some (.ref lr), some (.ref lm), some (.ref lo), none, none, none, none, none, none, none, none, none, none]) rfl ?_
    have s02 := s1.trans s2
    have sl2 := s02.seq sl
    -- needed
    refine ⟨_, rfl, ll, ls, rfl, sl2, hln, fun mx hmx hmx2 => ⟨0, mx, rfl, ?_⟩⟩
    obtain ⟨gx, hgx, egx⟩ := hmem mx hmx
    have hTx := hT gx hgx
    rw [egx] at hTx
    refine gn_norm (σ' := [some (.ref p), some (.ref ll), some (.ref lr), some (.ref lm), some (.ref lo), some (.int (if mx > 0 then mx else 0)), none, none, none, none, none, none, none, none, none]) rfl ?_
    refine ⟨_, rfl, lr, rv, rfl, .inl (SqL.of (s02 _ _ hlr)), _, rfl, _, _, rfl, rfl, _, rfl, ite2 (fun e => ?_) (fun _ => ?_)⟩
    · exfalso
      have : ((rv.length : Nat) : Int) < (if mx > 0 then mx else 0) := of_decide_eq_true e
      have hra := ra.1
      split at this <;> omega
    -- history
    refine ⟨_, rfl, _, rfl, _, rfl, ll, ls, rfl, sl2, hln, fun mi hmi hmi2 => ⟨_, rfl, 0, -mi, rfl, ?_⟩⟩
    have hmb := hlb mi hmi
    obtain ⟨m, em2⟩ : ∃ m : Nat, (if -mi > 0 then -mi else 0) = ((m : Nat) : Int) := ⟨(if -mi > 0 then -mi else 0).toNat, by split <;> omega⟩
    rw [em2]
    have hm500 : m ≤ 500 := by
      split at em2 <;> omega
    have hmm : ∀ g, g < gs.length → -lagF ls g ≤ (m : Int) := fun g hg => by
      have := hmi2 _ (lag_get lok hg).2
      split at em2 <;> omega
    refine ⟨p, ng, nw, lr, gs, ws, rv, rss, m, rfl, NA.same s02, N, s02 _ _ hlr, ra.imp fun _ _ r => r.same s02, hro, by omega, fun lh tv tss0 we0 H3 s3 hrun0 hHL hlh => ?_⟩
    have s03 := s02.trans s3
    have en : Enough gs rss.length (rss ++ List.replicate m (zeroRow gs)).length (lagF ls) := ⟨hT, fun g hg => by
      rw [List.length_append, List.length_replicate]
      have := hmm g hg
      omega⟩
    have NM := N.moved (lok.letL lt) hrun0 en hcn hrun0.wok
    have htl0 : tss0.length = rss.length + m := by rw [hrun0.len, List.length_append, List.length_replicate]
    refine gn_norm (σ' := [some (.ref p), some (.ref ll), some (.ref lr), some (.ref lm), some (.ref lo), some (.int (if mx > 0 then mx else 0)), some (.ref lh), none, none, none, none, none, none, none, none]) rfl ?_
    refine ⟨(by show 0 ≤ sizeLine; decide), fun lw2 hlw2 => ?_⟩
    have s4 : Same H3 (upd H3 lw2 (.lst [])) := same_new hlw2
    have e4 : (upd H3 lw2 (.lst [])) lw2 = some (.lst []) := upd_same
    generalize upd H3 lw2 (.lst []) = H4 at s4 e4
    refine gn_norm (σ' := [some (.ref p), some (.ref ll), some (.ref lr), some (.ref lm), some (.ref lo), some (.int (if mx > 0 then mx else 0)), some (.ref lh), some (.ref lw2), none, none, none, none, none, none, none]) rfl ?_
    have s04 := s03.trans s4
    have NA4 := NA.same s04
    obtain ⟨dx4, ob4⟩ := id NA4.ob
    obtain ⟨wv, hwv, wa⟩ := id (NA.same s03).w
    have hlw : wv.length = ws.length := wa.1
    have em4 := s4 _ _ (s3 _ _ (s2 _ _ em))
    have hcl : (cntsL ws ls).length = ws.length := List.length_map ..
    refine ⟨_, rfl, p, C, dx4, _, _, rfl, ob4, T.cl, T.nW, nf_wires _ _, _, rfl, nw, lm, wv, _, rfl, SqL.of (s4 _ _ hwv), SqL.of em4, RZ.for_zipL (K := K) (a := nw) (b := lm) (xs := wv) (ys := (cntsL ws ls).map V.int) (by rw [List.length_map, hcl, hlw]) (fun i σ H5 => ∃ (u8 u9 u10 u11 u13 u14 : Option V) (acc : List V), σ = [some (.ref p), some (.ref ll), some (.ref lr), some (.ref lm), some (.ref lo), some (.int (if mx > 0 then mx else 0)), some (.ref lh), some (.ref lw2), u8, u9, u10, u11, none, u13, u14] ∧ H5 lw2 = some (.lst acc) ∧ acc.length = i ∧ All2 (WireV K H5) acc ((ws.take i).map (mvW tss0 rss.length (lagF ls))) ∧ Same H3 H5)
      ⟨_, _, _, _, _, _, [], rfl, e4, rfl, by simpa using All2.nil, s4⟩ (fun i σ H5 ⟨_, _, _, _, _, _, _, _, _, _, _, sm⟩ => ⟨SqL.of (sm _ _ hwv), SqL.of (sm _ _ (s3 _ _ (s2 _ _ em)))⟩) ?_ ?_⟩
    · rintro i v y T' σ H5 hv hy ⟨u8, u9, u10, u11, u13, u14, acc, rfl, hacc, hal, haa, sm⟩ hT'
      obtain ⟨x, hx, xa, xb, rfl, sq1, sq2⟩ := wa.get hv
      obtain ⟨c, hc, rfl⟩ := int_at hy
      have W := N.wok x (List.mem_of_getElem? hx)
      have hi : i < ws.length := (List.getElem?_eq_some_iff.mp hx).1
      have hcx : c = ((cnW (lagF ls) x : Nat) : Int) := by
        unfold cntsL at hc
        rw [List.getElem?_map, hx] at hc
        have hc' : ((x.2.2.length : Nat) : Int) + ls.getD x.2.1 0 - ls.getD x.1 0 = c := Option.some.inj hc
        have h0 := lt c (List.mem_of_getElem? (by unfold cntsL; rw [List.getElem?_map, hx]; exact hc))
        show c = ((((x.2.2.length : Nat) : Int) + ls.getD x.2.1 0 - ls.getD x.1 0).toNat : Int)
        rw [hc']
        omega
      have sT : Same H5 (upd H5 T' (.tup [.ref xa, .int c])) := same_new hT'
      have eT : (upd H5 T' (.tup [.ref xa, .int c])) T' = some (.tup [.ref xa, .int c]) := upd_same
      generalize upd H5 T' (.tup [.ref xa, .int c]) = H6 at sT eT
      have s36 := sm.trans sT
      refine ⟨T', _, rfl, .inl (.inl eT), rfl, _, _, rfl, xa, _, rfl, (TK.same s36).seq sq1, rfl, _, _, rfl, _, _, rfl, _, _, rfl, rfl, _, _, rfl, rfl, ?_⟩
      -- row
      refine ⟨_, rfl, xb, _, rfl, .inr ((TK.same s36).seq sq2), fun l7 hl7 => ?_⟩
      have s7 : Same H6 (upd H6 l7 (.lst (x.2.2.map V.int))) := same_new hl7
      have e7 : (upd H6 l7 (.lst (x.2.2.map V.int))) l7 = some (.lst (x.2.2.map V.int)) := upd_same
      generalize upd H6 l7 (.lst (x.2.2.map V.int)) = H7 at s7 e7
      have s37 := s36.trans s7
      have hHL7 := hHL.same s37
      refine ⟨_, rfl, lh, rfl, ⟨_, SqL.of hHL7.at_⟩, fun D hD => ?_⟩
      refine lc_list (K := K) (a := lh) (xs := tv) (fun j Hc => Hc D = some (.lst ((colOf (tss0.take j) x.1).map V.int)) ∧ Same H7 Hc) ⟨upd_same, same_new hD⟩ (fun j Hc _ ⟨_, sm⟩ => SqL.of (sm _ _ hHL7.at_)) ?_ ?_
      · rintro j v Hc hv ⟨hc8, sm8⟩
        obtain ⟨ts, hts, a, rfl, _, ha⟩ := hHL7.al.get hv
        have hj : j < tss0.length := (List.getElem?_eq_some_iff.mp hts).1
        have htl : x.1 < ts.length := by
          have : ∀ {rss : List (List Int)} {ws we : List Wr} {tss : List (List Int)}, Run gs ws rss tss we → ∀ ts ∈ tss, ts.length = gs.length := by
            intro rss
            induction rss with
            | nil => intro ws we tss h ts ht; rw [h.1] at ht; simp at ht
            | cons r rss ih =>
              intro ws we tss h ts ht
              obtain ⟨t, tl, h1, h2, h3, h4⟩ := h
              rw [h1] at ht
              rcases List.mem_cons.mp ht with e | e
              · rw [e]; exact h2.len
              · exact ih h4 ts e
          rw [this hrun0 ts (List.mem_of_getElem? hts)]
          exact W.s
        refine ⟨rfl, tyes ?_⟩
        refine ⟨_, rfl, _, rfl, a, _, _, _, rfl, rfl, SqL.of (sm8 _ _ ha), atI_nat (getD_at htl), _, hc8, ?_, ?_, same_mut sm8 hD⟩
        · unfold colOf
          rw [List.length_map, List.length_map, List.length_take]
          exact small1000 (by omega)
        · rw [upd_same, List.take_add_one, hts]
          unfold colOf
          rw [List.map_append, List.map_append]
          rfl
      rintro H8 ⟨hD8, s8⟩
      rw [hHL.al.1, List.take_length] at hD8
      refine ⟨l7, D, _, _, rfl, rfl, s8 _ _ e7, hD8, ?_, fun l9 hl9 => ?_⟩
      · have hxl := W.rl
        unfold colOf
        rw [List.length_map, List.length_map, List.length_map]
        show _ ≤ 2 ^ 24
        omega
      have er : x.2.2.map V.int ++ (colOf tss0 x.1).map V.int = (rowOf x tss0).map V.int := by
        unfold rowOf
        rw [List.map_append]
      rw [er]
      have s9 : Same H8 (upd H8 l9 (.lst ((rowOf x tss0).map V.int))) := same_new hl9
      have e9 : (upd H8 l9 (.lst ((rowOf x tss0).map V.int))) l9 = some (.lst ((rowOf x tss0).map V.int)) := upd_same
      generalize upd H8 l9 (.lst ((rowOf x tss0).map V.int)) = H9 at s9 e9
      have s39 := s37.trans (s8.trans s9)
      refine gn_norm (σ' := [some (.ref p), some (.ref ll), some (.ref lr), some (.ref lm), some (.ref lo), some (.int (if mx > 0 then mx else 0)), some (.ref lh), some (.ref lw2), some (.int (x.1 : Nat)), some (.int (x.2.1 : Nat)), some (.ref xb), some (.int c), none, some (.ref l9), u14]) rfl ?_
      -- first
      have hTe := hT x.2.1 W.e
      refine ⟨_, rfl, lr, rv, rfl, .inl (SqL.of ((s03.trans s39) _ _ hlr)), _, rfl, _, rfl, ll, _, _, _, rfl, rfl, (s03.trans s39).seq sl, atI_nat (lag_get lok W.e).1, _, _, rfl, rfl, ?_⟩
      have eo : ((rv.length : Nat) : Int) - lagF ls x.2.1 = ((ofW rss.length (lagF ls) x : Nat) : Int) := by
        unfold ofW
        rw [ra.1]
        omega
      refine gn_norm (σ' := [some (.ref p), some (.ref ll), some (.ref lr), some (.ref lm), some (.ref lo), some (.int (if mx > 0 then mx else 0)), some (.ref lh), some (.ref lw2), some (.int (x.1 : Nat)), some (.int (x.2.1 : Nat)), some (.ref xb), some (.int c), none, some (.ref l9), some (.int (((rv.length : Nat) : Int) - lagF ls x.2.1))]) rfl ?_
      rw [eo]
      have hacc9 : H9 lw2 = some (.lst acc) := s9 _ _ (s8 _ _ (s7 _ _ (sT _ _ hacc)))
      refine ⟨_, rfl, .inl ⟨rfl, _, SqL.of hacc9⟩, _, rfl, _, rfl, _, rfl, _, rfl, _, rfl, _, rfl, _, rfl, _, _, rfl, rfl, _, rfl, l9, _, rfl, SqL.of e9, fun l10 hl10 => ?_⟩
      rw [hcx, ← Int.natCast_add, cut_mid2, ← List.map_drop, ← List.map_take]
      have s10 : Same H9 (upd H9 l10 (.lst ((mvW tss0 rss.length (lagF ls) x).2.2.map V.int))) := same_new hl10
      have e10 : (upd H9 l10 (.lst ((mvW tss0 rss.length (lagF ls) x).2.2.map V.int))) l10 = some (.lst ((mvW tss0 rss.length (lagF ls) x).2.2.map V.int)) := upd_same
      show _
      refine ⟨l10, _, rfl, .inl ⟨SqL.of upd_same, fun l11 hl11 => ?_⟩⟩
      refine ⟨(by show 3 ≤ sizeLine; decide), fun l12 hl12 => ?_⟩
      have s11 := s10.trans (same_new (o := .tup ((mvW tss0 rss.length (lagF ls) x).2.2.map V.int)) hl11)
      have s12 := s11.trans (same_new (o := .tup [.int (x.1 : Nat), .int (x.2.1 : Nat), .ref l11]) hl12)
      have t12 : SqT K (upd (upd (upd H9 l10 (.lst ((mvW tss0 rss.length (lagF ls) x).2.2.map V.int))) l11 (.tup ((mvW tss0 rss.length (lagF ls) x).2.2.map V.int))) l12 (.tup [.int (x.1 : Nat), .int (x.2.1 : Nat), .ref l11])) l11 ((mvW tss0 rss.length (lagF ls) x).2.2.map V.int) := (TK.new hl12).seq (.inl (.inl upd_same))
      refine ⟨lw2, acc, _, rfl, rfl, s12 _ _ hacc9, small1000 (by omega), ?_⟩
      have hw12 : WireV K (upd (upd (upd H9 l10 (.lst ((mvW tss0 rss.length (lagF ls) x).2.2.map V.int))) l11 (.tup ((mvW tss0 rss.length (lagF ls) x).2.2.map V.int))) l12 (.tup [.int (x.1 : Nat), .int (x.2.1 : Nat), .ref l11])) (.ref l12) (mvW tss0 rss.length (lagF ls) x) := ⟨l12, l11, rfl, .inl (.inl upd_same), t12⟩
      have hacc12 := s12 _ _ hacc9
      have sE := s39.trans s12
      refine ⟨_, _, _, _, _, _, acc ++ [.ref l12], rfl, upd_same, by rw [List.length_append, hal]; rfl, ?_, same_mut sE hlw2⟩
      rw [List.take_add_one, hx, List.map_append]
      have t0 : TK H5 (upd (upd (upd (upd H9 l10 (.lst ((mvW tss0 rss.length (lagF ls) x).2.2.map V.int))) l11 (.tup ((mvW tss0 rss.length (lagF ls) x).2.2.map V.int))) l12 (.tup [.int (x.1 : Nat), .int (x.2.1 : Nat), .ref l11])) lw2 (.lst (acc ++ [.ref l12]))) := (TK.same (sT.trans (s7.trans (s8.trans (s9.trans s12))))).trans (TK.lst hacc12)
      exact (haa.imp fun _ _ r => r.tk t0).snoc (hw12.tk (TK.lst hacc12))
    · rintro σ H5 ⟨u8, u9, u10, u11, u13, u14, acc, rfl, hacc, hal, haa, sm⟩
      rw [hlw, List.take_length] at haa
      have s05 := s03.trans sm
      have NA5 := NA.same s05
      obtain ⟨dx5, ob5⟩ := id NA5.ob
      refine ⟨_, rfl, p, C, dx5, _, _, rfl, ob5, T.cl, T.nG, nf_gates _ _, _, rfl, ?_⟩
      refine net_in NA5.g.rg ⟨acc, SqL.of hacc, haa⟩ NM fun p' ng' nw' H6 NA6 s6 hp' hng' hnw' => ?_
      refine ⟨_, rfl, (by show 2 ≤ sizeLine; decide), fun t ht => ?_⟩
      have st : Same H6 (upd H6 t (.tup [.ref p', .ref lo])) := same_new ht
      have s26 := (s3.trans sm).trans (s6.trans st)
      have hLL' := hLL.same s26
      refine q t p' ng' nw' lo _ tss we m tss0 we0 as (s02.trans s26) hrun hrun0 hmm NM (NA6.same st) ⟨hLL'.at_, hLL'.al, fun a ha => s1.free (hLL.new a ha), hLL'.nd, hLL'.nl, s1.free hLL.ln⟩ upd_same (s05.free hp') (s05.free hng') (s05.free hnw')
end
end Lag

set_option maxRecDepth 100000
set_option maxHeartbeats 8000000
namespace Lag
open PySem PySem.Spec PyProof.Rows L2
abbrev sOf : Stmt := topS 63 -- @_law_of
abbrev sGGates : Stmt := topS 64 -- @_law_gates
abbrev sTuple : Stmt := topS 66 -- @_law_tuple
def spOf (K : PySem.W.Frag) : Sp := fun vs H Q _ => ∃ (w l : Addr) (xs : List V), vs = [.ref w, .ref l] ∧ l ≠ w ∧ WellAt w H ∧ SqL K H l xs ∧ xs ≠ [] ∧ xs.length < 1000000 ∧ ∀ v H', v ∈ xs → Dr w H H' → Q v H'
def spTuple (K : PySem.W.Frag) : Sp := fun vs H Q _ => ∃ (wl : Addr) (m : Nat), vs = [.ref wl, .int (m : Nat)] ∧ m ≤ 200 ∧ WellAt wl H ∧ ∀ p rs H', Dr wl H H' → H' p = some (.tup (rs.map V.int)) → rs.length = m → ROk rs → Q (.ref p) H'
theorem atI_of {xs : List V} {i : Int} {j : Nat} {v : V} (h : i = (j : Int)) (hv : xs[j]? = some v) : atI xs i = some v := by
  rw [h]
  exact atI_nat hv
section
variable {P : Program} {w : World} {K : PySem.W.Frag} {mg : Str → Option Value} {base : Heap}
theorem scOf : FnScope ["_law_state", "_law_some"] ["_law_state", "_law_some"] (defScope sOf) := ⟨rfl, rfl, rfl, by decide +kernel, rfl, by decide +kernel, by decide +kernel⟩
abbrev DOf (P : Program) (w : World) (K : PySem.W.Frag) (mg : Str → Option Value) (base : Heap) := Df P w K mg base 2 "_law_of" ["_law_state", "_law_some"] (spOf K)
theorem ok_of {f fD : Addr} {fd fdD : FuncData} (F : Fun K "_law_of" "_law_of" sOf f fd) (hm : mg "_law_of" = some (.ref f)) (D0 : DDraw P w K mg base fD fdD) (ml : mg "len" = none) : DOf P w K mg base f fd := by
  refine ⟨?_, hm, F.kp, F.binds fun _ _ _ _ _ _ us hl => match us, hl with | [_, _], _ => rfl⟩
  refine F.ok scOf (fun vs H Q E h => ?_) (fun cdv A outer s H vs Q E hr h => ?_)
  · obtain ⟨wl, l, xs, rfl, _⟩ := h
    rfl
  · obtain ⟨wl, l, xs, rfl, hl, hw, hS, h0, hz, q⟩ := h
    refine ⟨_, pss_one (ps_ret (pe_ix ix_list (pv 1) (pe_call D0.ok hr (by rfl) D0.mg D0.kp D0.bd .nil pass0 (pa_cons (pv 0) (pa_cons (pe_callB call_len_seq (by rfl) ml PySem.boot_len (pa_cons (pv 1) pa_nil)) pa_nil))) (fun _ _ => rfl))), ?_⟩
    have hp : 0 < xs.length := List.length_pos_iff.mpr h0
    refine ⟨_, rfl, _, rfl, _, rfl, l, xs, rfl, .inl hS, wl, _, rfl, by omega, by omega, hw, fun d H' d0 d1 D => ?_⟩
    have hj : d.toNat < xs.length := by omega
    refine ⟨l, xs, d, xs[d.toNat], rfl, rfl, D.but.seq hl hS, atI_of (j := d.toNat) (by omega) (List.getElem?_eq_getElem hj), ?_⟩
    exact q _ _ (List.getElem_mem hj) D
abbrev nTuple : List Str := ["_law_state", "_law_many", "_law_k"]
theorem scTuple : FnScope nTuple ["_law_state", "_law_many"] (defScope sTuple) := ⟨rfl, rfl, rfl, by decide +kernel, rfl, by decide +kernel, by decide +kernel⟩
abbrev DTuple (P : Program) (w : World) (K : PySem.W.Frag) (mg : Str → Option Value) (base : Heap) := Df P w K mg base 2 "_law_tuple" ["_law_state", "_law_many"] (spTuple K)
theorem ok_tuple {f fD : Addr} {fd fdD : FuncData} (F : Fun K "_law_tuple" "_law_tuple" sTuple f fd) (hm : mg "_law_tuple" = some (.ref f)) (B : Bt mg) (DD : DDraw P w K mg base fD fdD) : DTuple P w K mg base f fd := by
  refine ⟨?_, hm, F.kp, F.binds fun _ _ _ _ _ _ us hl => match us, hl with | [_, _], _ => rfl⟩
  refine F.ok scTuple (fun vs H Q E h => ?_) (fun cdv A outer s H vs Q E hr h => ?_)
  · obtain ⟨wl, m, rfl, _⟩ := h
    rfl
  · obtain ⟨wl, m, rfl, hm1, hw, q⟩ := h
    have nd := scTuple.nd
    refine ⟨_, pss_one <| ps_ret <| pe_callTy call_tuple_of (by rfl) B.tuple (by decide +kernel) <| (pa_cons · pa_nil) <| pe_lc (own := [("_law_k", 2)]) (g := gName 2) (tt := tYes) (te := tCall spDraw [] E0 (tCons (tVar 0) (tCons (tC (.int 97)) tNil))) rfl nd (pi_range1 (by rfl) B.range (pa_cons (pv 1) pa_nil)) (blkOk_by (N := nTuple) (sc := defScope sTuple) (own := [("_law_k", 2)]) (by decide +kernel))
      (fun _ _ _ _ _ => pg_name (i := 2) nd rfl (.inl rfl)) (fun _ _ _ _ _ => pts_nil) (fun _ _ _ _ _ => pe_call DD.ok hr (by rfl) DD.mg DD.kp DD.bd .nil pass0 (pa_cons (pv 0) (pa_cons pe_int pa_nil))), ?_⟩
    refine ⟨_, rfl, _, rfl, by omega, by omega, fun R hR => ?_⟩
    have nRw : R ≠ wl := (hw.ne hR).symm
    refine lc_range (lo := 0) (n := ((m : Int)).toNat) (fun i Hc => ∃ rs : List Int, rs.length = i ∧ ROk rs ∧ Hc R = some (.lst (rs.map V.int)) ∧ Dr wl H Hc) ⟨[], rfl, by simp [ROk], upd_same, Dr.new hw hR⟩ ?_ ?_
    · rintro i Hc hi ⟨rs, hl, hr', hc, d⟩
      refine ⟨rfl, tyes ?_⟩
      refine ⟨_, rfl, wl, 97, rfl, by decide, by decide, d.well, fun z H2 z0 z1 E => ?_⟩
      refine ⟨_, E.but _ _ nRw hc, by rw [List.length_map]; exact small1000 (by omega), rs ++ [z], by simp [hl], ?_, ?_, set_well (d.trans E) hR nRw⟩
      · intro y hy
        rcases List.mem_append.mp hy with hy | hy
        · exact hr' y hy
        · simp at hy
          subst hy
          exact ⟨z0, by omega⟩
      · rw [upd_same, List.map_append]
        rfl
    · rintro Hc ⟨rs, hl, hr', hc, d⟩
      refine ⟨R, _, rfl, .inl ⟨SqL.of hc, fun p hp => ?_⟩⟩
      exact q p rs _ (d.trans (Dr.new d.well hp)) upd_same (by omega) hr'
end
theorem perm_erase {α : Type} : ∀ (l : List α) (k : Nat) (h : k < l.length), (l[k] :: l.eraseIdx k).Perm l
  | [], k, h => by simp at h
  | a :: l, 0, _ => .refl _
  | a :: l, k + 1, h => by
    have h' : k < l.length := by simpa using h
    show (l[k] :: a :: l.eraseIdx k).Perm (a :: l)
    exact (List.Perm.swap _ _ _).trans ((perm_erase l k h').cons a)
theorem erase_map {α β : Type} {f : α → β} (l : List α) (i : Nat) : (l.map f).eraseIdx i = (l.eraseIdx i).map f := by
  induction l generalizing i with
  | nil => rfl
  | cons a l ih =>
    cases i with
    | zero => rfl
    | succ i =>
      show f a :: (l.map f).eraseIdx i = f a :: (l.eraseIdx i).map f
      rw [ih]
/-! ### words, and gates made of them -/
def wordsD (l : List Str) : PyData := .list (l.map PyData.str)
theorem sh_words {l : List Str} (h : ∀ k ∈ l, k ∈ kinds) : Sh 1 (wordsD l) := by
  refine sh_list fun d hd => ?_
  obtain ⟨k, hk, rfl⟩ := List.mem_map.mp hd
  exact sh_kind (h k hk)
theorem dp_words {K : PySem.W.Frag} {H : Hp} {a : Addr} {l : List Str} (h : SqL K H a (l.map V.str)) : Dp K H (.ref a) (wordsD l) := by
  refine .lst h ?_
  clear h
  induction l with
  | nil => exact .nil
  | cons k l ih => exact .cons (.str k) ih
theorem wordsD_nil (l : List Str) : PyData.eqv (wordsD l) (wordsD []) = decide (l = []) := by
  cases l with
  | nil => rfl
  | cons k l => rfl
def innP (k : Str) : Bool := k != "in" && k != "out"
/-- how many gates are no ports -/
def nInn (gs : List Gt) : Nat := gs.countP fun g => innP g.1
/-- a gate that is no port -/
def Inner (gs : List Gt) (i : Nat) : Prop := i < gs.length ∧ kindAt gs i ≠ "in" ∧ kindAt gs i ≠ "out"
def spGGates (K : PySem.W.Frag) : Sp := fun vs H Q _ => ∃ wl : Addr, vs = [.ref wl] ∧ WellAt wl H ∧ ∀ lg gs H', Dr wl H H' → H lg = none → LG K H' lg gs → gs.length ≤ 8 → (∀ g ∈ gs, GOk g) → (∃ g ∈ gs, innP g.1 = true) → nInn gs ≤ 4 → Q (.ref lg) H'
def inner7 : List Str := ["sum", "sum", "times", "most", "least", "first", "one"]
theorem inner7_ok : ∀ k ∈ inner7, k ∈ kinds ∧ innP k = true := by decide +kernel
theorem port_notin {k : Str} : (!inV (.str k) [.str "in", .str "out"]) = innP k := by
  rw [Bool.eq_iff_iff]
  unfold inV innP
  simp only [List.any_cons, List.any_nil, Bool.or_false, Bool.not_or, Bool.and_eq_true, bne_iff_ne, ne_eq, Bool.not_eq_true']
  show ((("in" : Str) == k) = false ∧ (("out" : Str) == k) = false) ↔ _
  rw [beq_eq_false_iff_ne, beq_eq_false_iff_ne]
  exact ⟨fun h => ⟨fun z => h.1 z.symm, fun z => h.2 z.symm⟩, fun h => ⟨fun z => h.1 z.symm, fun z => h.2 z.symm⟩⟩
theorem inn_port {k : Str} : innP k = true ↔ ¬ portK k := by
  unfold innP portK
  simp only [Bool.and_eq_true, bne_iff_ne, ne_eq, not_or]
theorem rep_flat2 {α : Type} (n : Nat) (x : α) : (List.replicate n [x]).flatten = List.replicate n x := rep_flat' n x
section
variable {P : Program} {w : World} {K : PySem.W.Frag} {mg : Str → Option Value} {base : Heap}
abbrev nGGates : List Str := ["_law_state", "_law_left", "_law_k", "_law_found", "_law_word_here"]
theorem scGGates : FnScope nGGates ["_law_state"] (defScope sGGates) := ⟨rfl, rfl, rfl, by decide +kernel, rfl, by decide +kernel, by decide +kernel⟩
abbrev DGGates (P : Program) (w : World) (K : PySem.W.Frag) (mg : Str → Option Value) (base : Heap) := Df P w K mg base 3 "_law_gates" ["_law_state"] (spGGates K)
theorem ok_ggates {f fD fO : Addr} {fd fdD fdO : FuncData} (F : Fun K "_law_gates" "_law_gates" sGGates f fd) (hm : mg "_law_gates" = some (.ref f)) (B : Bt mg) (DD : DDraw P w K mg base fD fdD) (DO : DOf P w K mg base fO fdO) : DGGates P w K mg base f fd := by
  refine ⟨?_, hm, F.kp, F.binds fun _ _ _ _ _ _ us hl => match us, hl with | [_], _ => rfl⟩
  refine F.ok scGGates (fun vs H Q E h => ?_) (fun cdv A outer s H vs Q E hr h => ?_)
  · obtain ⟨wl, rfl, _⟩ := h
    rfl
  · obtain ⟨wl, rfl, hw, q⟩ := h
    have nd := scGGates.nd
    have hr1 : Room 1 _ := hr.mono (by decide)
    refine ⟨_, pss_cons (ps_set (i := 1) nd rfl (.inl rfl) (pe_op op_cat (pe_op op_rep (pe_lst (pa_cons pe_str pa_nil)) (pe_call DD.ok hr1 (by rfl) DD.mg DD.kp DD.bd .nil pass0 (pa_cons (pv 0) (pa_cons pe_int pa_nil)))) (pe_op op_rep (pe_lst (pa_cons pe_str pa_nil)) (pe_call DD.ok hr1 (by rfl) DD.mg DD.kp DD.bd .nil pass0 (pa_cons (pv 0) (pa_cons pe_int pa_nil)))))) <|
      pss_cons (ps_for PassesOwn.never rfl (pi_range1 (by rfl) B.range (pa_cons (pe_op op_add pe_int (pe_call DD.ok hr1 (by rfl) DD.mg DD.kp DD.bd .nil pass0 (pa_cons (pv 0) (pa_cons pe_int pa_nil)))) pa_nil)) (pg_name (i := 2) nd rfl (.inl rfl)) <|
        pss_one <| ps_expr (pe_bm PySem.F.plainAttrs_list PySem.F.slot_list_append PySem.F.type_list_append mt_append (pv 1) (pa_cons (pe_call DO.ok hr (by rfl) DO.mg DO.kp DO.bd .nil pass0 (pa_cons (pv 0) (pa_cons (pe_lst (pa_cons pe_str (pa_cons pe_str (pa_cons pe_str (pa_cons pe_str (pa_cons pe_str (pa_cons pe_str (pa_cons pe_str pa_nil)))))))) pa_nil))) pa_nil))) <|
      pss_cons (ps_set (i := 3) nd rfl (.inl rfl) (pe_lst pa_nil)) <|
      pss_cons (ps_while PassesOwn.never (pt_cmpR (op_neD hr.units) (pv 1) (pe_lst pa_nil) (nomark _)) <|
        pss_cons (ps_set (i := 4) nd rfl (.inl rfl) (pe_bm PySem.F.plainAttrs_list PySem.F.slot_list_pop PySem.F.type_list_pop mt_popAt (pv 1) (pa_cons (pe_call DD.ok hr1 (by rfl) DD.mg DD.kp DD.bd .nil pass0 (pa_cons (pv 0) (pa_cons (pe_callB call_len_seq (by rfl) B.len PySem.boot_len (pa_cons (pv 1) pa_nil)) pa_nil))) pa_nil))) <|
        pss_one <| ps_expr (pe_bm PySem.F.plainAttrs_list PySem.F.slot_list_append PySem.F.type_list_append mt_append (pv 3) (pa_cons (pe_tup (pa_cons (pv 4) (pa_cons (pe_op op_mul (pe_call DO.ok hr (by rfl) DO.mg DO.kp DO.bd .nil pass0 (pa_cons (pv 0) (pa_cons (pe_lst (pa_cons pe_int (pa_cons pe_int (pa_cons pe_int (pa_cons pe_int (pa_cons pe_int (pa_cons pe_int pa_nil))))))) pa_nil))) (pe_callTy call_int1 (by rfl) B.int (by decide +kernel) (pa_cons (pe_cmpR op_notIn_seq (pv 4) (pe_lst (pa_cons pe_str (pa_cons pe_str pa_nil))) (by rfl)) pa_nil))) pa_nil))) pa_nil))) <|
      pss_one <| ps_ret (pv 3), ?_⟩
    -- left
    refine ⟨(by show 1 ≤ sizeLine; decide), fun l1 hl1 => ?_⟩
    have n1 : l1 ≠ wl := (hw.ne hl1).symm
    have D1 := Dr.new (o := .lst [.str "in"]) hw hl1
    have e1 : (upd H l1 (.lst [.str "in"])) l1 = some (.lst [.str "in"]) := upd_same
    generalize upd H l1 (.lst [.str "in"]) = H1 at D1 e1
    refine ⟨_, rfl, wl, 3, rfl, by decide, by decide, D1.well, fun a H2 a0 a1 E2 => ?_⟩
    obtain ⟨a, rfl⟩ : ∃ z : Nat, a = (z : Int) := ⟨a.toNat, by omega⟩
    have D2 := D1.trans E2
    refine ⟨l1, _, _, rfl, rfl, E2.but _ _ n1 e1, by omega, by omega, ?_, fun l2 hl2 => ?_⟩
    · show 1 * _ ≤ sizeLine
      exact Nat.le_of_lt (small1000 (by omega))
    rw [Int.toNat_natCast, rep_flat']
    have n2 : l2 ≠ wl := (D2.well.ne hl2).symm
    have D3 := D2.trans (Dr.new (o := .lst (List.replicate a (V.str "in"))) D2.well hl2)
    have e3 : (upd H2 l2 (.lst (List.replicate a (V.str "in")))) l2 = some (.lst (List.replicate a (V.str "in"))) := upd_same
    generalize upd H2 l2 (.lst (List.replicate a (V.str "in"))) = H3 at D3 e3
    refine ⟨(by show 1 ≤ sizeLine; decide), fun l4 hl4 => ?_⟩
    have n4 : l4 ≠ wl := (D3.well.ne hl4).symm
    have E4 := Dr.new (o := .lst [.str "out"]) D3.well hl4
    have e4 : (upd H3 l4 (.lst [.str "out"])) l4 = some (.lst [.str "out"]) := upd_same
    generalize upd H3 l4 (.lst [.str "out"]) = H4 at E4 e4
    refine ⟨_, rfl, wl, 3, rfl, by decide, by decide, E4.well, fun b H5 b0 b1 E5 => ?_⟩
    obtain ⟨b, rfl⟩ : ∃ z : Nat, b = (z : Int) := ⟨b.toNat, by omega⟩
    refine ⟨l4, _, _, rfl, rfl, E5.but _ _ n4 e4, by omega, by omega, ?_, fun l6 hl6 => ?_⟩
    · show 1 * _ ≤ sizeLine
      exact Nat.le_of_lt (small1000 (by omega))
    rw [Int.toNat_natCast, rep_flat']
    have E6 := (E4.trans E5).trans (Dr.new (o := .lst (List.replicate b (V.str "out"))) E5.well hl6)
    have e6 : (upd H5 l6 (.lst (List.replicate b (V.str "out")))) l6 = some (.lst (List.replicate b (V.str "out"))) := upd_same
    generalize upd H5 l6 (.lst (List.replicate b (V.str "out"))) = H6 at E6 e6
    have D6 := D3.trans E6
    refine ⟨l2, l6, _, _, rfl, rfl, E6.but _ _ n2 e3, e6, ?_, fun ll hll => ?_⟩
    · rw [List.length_replicate, List.length_replicate]
      exact Nat.le_of_lt (small1000 (by omega))
    have nll : ll ≠ wl := (D6.well.ne hll).symm
    have hll0 : H ll = none := D6.free hw hll
    have ew : List.replicate a (V.str "in") ++ List.replicate b (V.str "out") = (List.replicate a ("in" : Str) ++ List.replicate b ("out" : Str)).map V.str := by
      rw [List.map_append, List.map_replicate, List.map_replicate]
    rw [ew]
    have D7 := D6.trans (Dr.new (o := .lst ((List.replicate a ("in" : Str) ++ List.replicate b ("out" : Str)).map V.str)) D6.well hll)
    have e7 : (upd H6 ll (.lst ((List.replicate a ("in" : Str) ++ List.replicate b ("out" : Str)).map V.str))) ll = some (.lst ((List.replicate a ("in" : Str) ++ List.replicate b ("out" : Str)).map V.str)) := upd_same
    generalize upd H6 ll (.lst ((List.replicate a ("in" : Str) ++ List.replicate b ("out" : Str)).map V.str)) = H7 at D7 e7
    have w7 : ∀ k ∈ List.replicate a ("in" : Str) ++ List.replicate b ("out" : Str), k ∈ kinds := fun k hk => by
      rcases List.mem_append.mp hk with z | z
      · rw [List.eq_of_mem_replicate z]
        decide +kernel
      · rw [List.eq_of_mem_replicate z]
        decide +kernel
    have wl7 : (List.replicate a ("in" : Str) ++ List.replicate b ("out" : Str)).length ≤ 4 := by
      rw [List.length_append, List.length_replicate, List.length_replicate]
      omega
    have c7 : (List.replicate a ("in" : Str) ++ List.replicate b ("out" : Str)).countP innP = 0 := by
      rw [List.countP_append, List.countP_replicate, List.countP_replicate, if_neg (by decide +kernel), if_neg (by decide +kernel)]
    generalize List.replicate a ("in" : Str) ++ List.replicate b ("out" : Str) = ws0 at e7 w7 wl7 c7
    refine gn_norm (σ' := [some (.ref wl), some (.ref ll), none, none, none]) rfl ?_
    refine ⟨_, rfl, wl, 4, rfl, by decide, by decide, D7.well, fun c H8 c0 c1 E8 => ⟨_, _, rfl, rfl, _, rfl, by omega, by omega, ?_⟩⟩
    refine for_range (lo := 0) (n := (1 + c).toNat) (fun i σ H9 => ∃ (s2 : Option V) (ws : List Str), σ = [some (.ref wl), some (.ref ll), s2, none, none] ∧ Dr wl H H9 ∧ H9 ll = some (.lst (ws.map V.str)) ∧ (∀ k ∈ ws, k ∈ kinds) ∧ ws.length ≤ 4 + i ∧ ws.countP innP ≤ i ∧ (0 < i → ∃ k ∈ ws, innP k = true))
      ⟨_, ws0, rfl, D7.trans E8, E8.but _ _ nll e7, w7, by omega, by omega, fun h => absurd h (by omega)⟩ ?_ ?_
    · rintro i σ H9 hi ⟨s2, ws, rfl, D9, e9, wk, wlen, wcn, _⟩
      refine ⟨_, rfl, .inl ⟨rfl, _, SqL.of e9⟩, _, rfl, (by show 7 ≤ sizeLine; decide), fun l10 hl10 => ?_⟩
      have n10 : l10 ≠ wl := (D9.well.ne hl10).symm
      have E10 := Dr.new (o := .lst [.str "sum", .str "sum", .str "times", .str "most", .str "least", .str "first", .str "one"]) D9.well hl10
      have e10 : (upd H9 l10 (.lst [.str "sum", .str "sum", .str "times", .str "most", .str "least", .str "first", .str "one"])) l10 = some (.lst (inner7.map V.str)) := upd_same
      generalize upd H9 l10 (.lst [.str "sum", .str "sum", .str "times", .str "most", .str "least", .str "first", .str "one"]) = H10 at E10 e10
      refine ⟨wl, l10, _, rfl, n10, E10.well, SqL.of e10, by decide +kernel, by decide +kernel, fun v H11 hv E11 => ?_⟩
      obtain ⟨k, hk, rfl⟩ := List.mem_map.mp hv
      obtain ⟨k1, k2⟩ := inner7_ok k hk
      have E := E10.trans E11
      have e11 := E.but _ _ nll e9
      refine ⟨ll, _, _, rfl, rfl, e11, by rw [List.length_map]; exact small1000 (by omega), ?_⟩
      refine ⟨_, ws ++ [k], rfl, set_well (D9.trans E) hll0 nll, ?_, fun k' hk' => ?_, by rw [List.length_append]; show _ + 1 ≤ _; omega, by rw [List.countP_append, List.countP_singleton, if_pos k2]; omega, fun _ => ⟨k, by simp, k2⟩⟩
      · rw [upd_same, List.map_append]
        rfl
      · rcases List.mem_append.mp hk' with z | z
        · exact wk k' z
        · rw [List.mem_singleton] at z
          rw [z]
          exact k1
    rintro σ H9 ⟨s2, ws, rfl, D9, e9, wk, wlen, wcn, hin⟩
    have hin := hin (by omega)
    have hws : ws.length ≤ 8 := by omega
    have hwc : ws.countP innP ≤ 4 := by omega
    clear e7 w7 wl7 c7 D7 E8 ew
    -- found
    refine ⟨(by show 0 ≤ sizeLine; decide), fun lf hlf => ?_⟩
    have nlf : lf ≠ wl := (D9.well.ne hlf).symm
    have hlf0 : H lf = none := D9.free hw hlf
    have nfl : lf ≠ ll := fun z => by
      rw [z, e9] at hlf
      cases hlf
    have E10 := Dr.new (o := .lst []) D9.well hlf
    have e10 : (upd H9 lf (.lst [])) lf = some (.lst []) := upd_same
    generalize upd H9 lf (.lst []) = H10 at E10 e10
    refine gn_norm (σ' := [some (.ref wl), some (.ref ll), s2, some (.ref lf), none]) rfl ?_
    refine ⟨fun m σ H11 => ∃ (s4 : Option V) (ws : List Str) (acc : List V) (gs : List Gt), σ = [some (.ref wl), some (.ref ll), s2, some (.ref lf), s4] ∧ Dr wl H H11 ∧ H11 ll = some (.lst (ws.map V.str)) ∧ (∀ k ∈ ws, k ∈ kinds) ∧ H11 lf = some (.lst acc) ∧ All2 (GateV K H11) acc gs ∧ (∀ g ∈ gs, GOk g) ∧ ws.length + gs.length ≤ 8 ∧ (((∃ k ∈ ws, innP k = true) ∨ ∃ g ∈ gs, innP g.1 = true) ∧ ws.countP innP + nInn gs ≤ 4) ∧ m = ws.length, ⟨ws.length, _, ws, [], [], rfl, D9.trans E10, E10.but _ _ nll e9, wk, e10, All2.nil, (fun g hg => by simp at hg), by simpa using hws, ⟨.inl hin, hwc⟩, rfl⟩, ?_⟩
    rintro m σ H11 ⟨s4, ws, acc, gs, rfl, D11, e11, wk, ea, aa, gok, hlen, ⟨hin, hcn⟩, rfl⟩
    have hal : acc.length = gs.length := aa.1
    refine ⟨_, rfl, (by show 0 ≤ sizeLine; decide), fun l12 hl12 => ?_⟩
    have E12 := Dr.new (o := .lst []) D11.well hl12
    have e12 : (upd H11 l12 (.lst [])) l12 = some (.lst []) := upd_same
    generalize upd H11 l12 (.lst []) = H12 at E12 e12
    have e11' := E12.but _ _ nll e11
    refine ⟨_, _, dp_words (SqL.of e11'), dp_words (l := []) (SqL.of e12), Sh.ok (sh_words wk) (by decide), rfl, _, rfl, ?_⟩
    rw [wordsD_nil]
    refine ite2 (fun e => ?_) (fun e => ?_)
    · have hne : ws ≠ [] := of_decide_eq_false (by simpa using e)
      have hp : 0 < ws.length := List.length_pos_iff.mpr hne
      refine ⟨fun σ H13 => ∃ (s4 : Option V) (ws' : List Str) (acc : List V) (gs : List Gt), σ = [some (.ref wl), some (.ref ll), s2, some (.ref lf), s4] ∧ Dr wl H H13 ∧ H13 ll = some (.lst (ws'.map V.str)) ∧ (∀ k ∈ ws', k ∈ kinds) ∧ H13 lf = some (.lst acc) ∧ All2 (GateV K H13) acc gs ∧ (∀ g ∈ gs, GOk g) ∧ ws'.length + gs.length ≤ 8 ∧ (((∃ k ∈ ws', innP k = true) ∨ ∃ g ∈ gs, innP g.1 = true) ∧ ws'.countP innP + nInn gs ≤ 4) ∧ ws'.length < ws.length, ?_, ?_⟩
      · rintro σ' H' ⟨t4, ws', acc', gs', rfl, a1, a2, a3, a4, a5, a6, a7, a8, a9⟩
        exact ⟨ws'.length, a9, t4, ws', acc', gs', rfl, a1, a2, a3, a4, a5, a6, a7, a8, rfl⟩
      refine ⟨_, rfl, .inl ⟨rfl, _, SqL.of e11'⟩, _, rfl, _, rfl, ll, _, rfl, .inl (SqL.of e11'), wl, _, rfl, by rw [List.length_map]; omega, by rw [List.length_map]; omega, E12.well, fun d H13 d0 d1 E13 => ?_⟩
      rw [List.length_map] at d1
      obtain ⟨d, rfl⟩ : ∃ z : Nat, d = (z : Int) := ⟨d.toNat, by omega⟩
      have hd : d < ws.length := by omega
      have e13 := E13.but _ _ nll e11'
      obtain ⟨k, hk⟩ : ∃ k, ws[d]? = some k := ⟨_, List.getElem?_eq_getElem hd⟩
      have hkm := List.mem_of_getElem? hk
      refine ⟨ll, _, _, d, .str k, rfl, rfl, e13, by omega, by omega, ?_, by rw [List.getElem?_map, hk]; rfl, ?_⟩
      · rw [List.length_map]
        exact (PySem.seqIndex_of (by omega) (by omega)).trans (congrArg some (Int.toNat_natCast d))
      have D13 := D11.trans (E12.trans E13)
      have D14 : Dr wl H (upd H13 ll (.lst ((ws.map V.str).eraseIdx d))) := set_well D13 hll0 nll
      have e14 : (upd H13 ll (.lst ((ws.map V.str).eraseIdx d))) ll = some (.lst ((ws.eraseIdx d).map V.str)) := by
        rw [upd_same]
        congr 2
        exact erase_map ws d
      have ea14 : (upd H13 ll (.lst ((ws.map V.str).eraseIdx d))) lf = some (.lst acc) := by
        rw [upd_ne nfl]
        exact (E12.trans E13).but _ _ nlf ea
      have t14 : TK H11 (upd H13 ll (.lst ((ws.map V.str).eraseIdx d))) := (TK.dr D11.well (E12.trans E13).but).trans (TK.lst e13)
      generalize upd H13 ll (.lst ((ws.map V.str).eraseIdx d)) = H14 at D14 e14 ea14 t14
      refine gn_norm (σ' := [some (.ref wl), some (.ref ll), s2, some (.ref lf), some (.str k)]) rfl ?_
      refine ⟨_, rfl, .inl ⟨rfl, _, SqL.of ea14⟩, _, rfl, _, rfl, (by show 6 ≤ sizeLine; decide), fun l15 hl15 => ?_⟩
      have n15 : l15 ≠ wl := (D14.well.ne hl15).symm
      have E15 := Dr.new (o := .lst [.int 0, .int 1, .int 2, .int 3, .int 7, .int 100]) D14.well hl15
      have e15 : (upd H14 l15 (.lst [.int 0, .int 1, .int 2, .int 3, .int 7, .int 100])) l15 = some (.lst [.int 0, .int 1, .int 2, .int 3, .int 7, .int 100]) := upd_same
      generalize upd H14 l15 (.lst [.int 0, .int 1, .int 2, .int 3, .int 7, .int 100]) = H15 at E15 e15
      refine ⟨wl, l15, _, rfl, n15, E15.well, SqL.of e15, (by intro z; cases z), by decide +kernel, fun v H16 hv E16 => ?_⟩
      obtain ⟨wt, rfl, w0, w1⟩ : ∃ wt : Int, v = .int wt ∧ 0 ≤ wt ∧ wt ≤ 100 := by
        simp only [List.mem_cons, List.not_mem_nil, or_false] at hv
        rcases hv with rfl | rfl | rfl | rfl | rfl | rfl
        · exact ⟨0, rfl, by decide, by decide⟩
        · exact ⟨1, rfl, by decide, by decide⟩
        · exact ⟨2, rfl, by decide, by decide⟩
        · exact ⟨3, rfl, by decide, by decide⟩
        · exact ⟨7, rfl, by decide, by decide⟩
        · exact ⟨100, rfl, by decide, by decide⟩
      have E1416 := E15.trans E16
      refine ⟨_, rfl, (by show 2 ≤ sizeLine; decide), fun l17 hl17 => ?_⟩
      have E17 := E1416.trans (Dr.new (o := .lst [.str "in", .str "out"]) E1416.well hl17)
      have e17 : (upd H16 l17 (.lst [.str "in", .str "out"])) l17 = some (.lst [.str "in", .str "out"]) := upd_same
      generalize upd H16 l17 (.lst [.str "in", .str "out"]) = H17 at E17 e17
      refine ⟨l17, _, rfl, .inl (SqL.of e17), rfl, rfl, ?_⟩
      show _
      rw [show (if true = true then !inV (V.str k) [V.str "in", V.str "out"] else inV (V.str k) [V.str "in", V.str "out"]) = innP k from port_notin]
      have hpm := perm_erase ws d hd
      have hkd : ws[d] = k := by
        rw [List.getElem?_eq_getElem hd] at hk
        exact Option.some.inj hk
      rw [hkd] at hpm
      have hsub : ∀ k' ∈ ws.eraseIdx d, k' ∈ ws := fun k' h => hpm.mem_iff.mp (List.mem_cons_of_mem _ h)
      have hwl' : (ws.eraseIdx d).length + 1 = ws.length := by
        have := hpm.length_eq
        rw [List.length_cons] at this
        exact this
      have fin : ∀ z : Int, 0 ≤ z → z ≤ 100 → (portK k → z = 0) → ∀ l18, H17 l18 = none → ∃ l xs y, V.ref lf = .ref l ∧ [V.ref l18] = [y] ∧ (upd H17 l18 (.tup [.str k, .int z])) l = some (.lst xs) ∧ xs.length < sizeLine ∧ ∃ (s4 : Option V) (ws' : List Str) (acc : List V) (gs : List Gt), [some (V.ref wl), some (.ref ll), s2, some (.ref lf), some (.str k)] = [some (.ref wl), some (.ref ll), s2, some (.ref lf), s4] ∧ Dr wl H (upd (upd H17 l18 (.tup [.str k, .int z])) l (.lst (xs ++ [y]))) ∧ (upd (upd H17 l18 (.tup [.str k, .int z])) l (.lst (xs ++ [y]))) ll = some (.lst (ws'.map V.str)) ∧ (∀ k ∈ ws', k ∈ kinds) ∧ (upd (upd H17 l18 (.tup [.str k, .int z])) l (.lst (xs ++ [y]))) lf = some (.lst acc) ∧ All2 (GateV K (upd (upd H17 l18 (.tup [.str k, .int z])) l (.lst (xs ++ [y])))) acc gs ∧ (∀ g ∈ gs, GOk g) ∧ ws'.length + gs.length ≤ 8 ∧ (((∃ k ∈ ws', innP k = true) ∨ ∃ g ∈ gs, innP g.1 = true) ∧ ws'.countP innP + nInn gs ≤ 4) ∧ ws'.length < ws.length := by
        intro z z0 z1 zp l18 hl18
        have E18 := E17.trans (Dr.new (o := .tup [.str k, .int z]) E17.well hl18)
        have ea18 := E18.but _ _ nlf ea14
        have e18 := E18.but _ _ nll e14
        have t18 : TK H14 (upd H17 l18 (.tup [.str k, .int z])) := TK.dr D14.well E18.but
        have g18 : GateV K (upd H17 l18 (.tup [.str k, .int z])) (.ref l18) (k, z) := ⟨l18, rfl, .inl (.inl upd_same)⟩
        refine ⟨lf, acc, .ref l18, rfl, rfl, ea18, small1000 (by omega), _, ws.eraseIdx d, acc ++ [.ref l18], gs ++ [(k, z)], rfl, set_well (D14.trans E18) hlf0 nlf, by rw [upd_ne nfl.symm]; exact e18, fun k' h => wk k' (hsub k' h), upd_same, ?_, ?_, by rw [List.length_append]; show _ + (_ + 1) ≤ 8; omega, ?_, by omega⟩
        · exact (aa.imp fun _ _ r => r.tk ((t14.trans t18).trans (TK.lst ea18))).snoc (g18.tk (TK.lst ea18))
        · intro g hg
          rcases List.mem_append.mp hg with h | h
          · exact gok g h
          · rw [List.mem_singleton] at h
            rw [h]
            exact ⟨wk k hkm, z0, z1, zp⟩
        · refine ⟨?_, ?_⟩
          case refine_2 =>
            have h1 := hpm.countP_eq innP
            rw [List.countP_cons] at h1
            show _ + (gs ++ [(k, z)]).countP _ ≤ 4
            rw [List.countP_append, List.countP_singleton]
            have h2 : (if (fun g : Gt => innP g.1) (k, z) = true then 1 else 0) = (if innP k = true then 1 else 0) := rfl
            rw [h2]
            show _ + (nInn gs + _) ≤ 4
            omega
          rcases hin with ⟨k', hk', hi'⟩ | ⟨g, hg, hi'⟩
          · rcases List.mem_cons.mp (hpm.mem_iff.mpr hk') with h | h
            · exact .inr ⟨(k, z), by simp, by rw [← h]; exact hi'⟩
            · exact .inl ⟨k', h, hi'⟩
          · exact .inr ⟨g, by simp [hg], hi'⟩
      refine .inr ⟨innP k, rfl, ?_⟩
      cases hb : innP k with
      | true =>
        refine ⟨_, _, rfl, rfl, .inl ⟨by omega, by omega⟩, (by show 2 ≤ sizeLine; decide), fun l18 hl18 => fin _ ?_ ?_ ?_ l18 hl18⟩
        · show 0 ≤ wt * 1
          omega
        · show wt * 1 ≤ 100
          omega
        · intro hp
          exact absurd hp (inn_port.mp hb)
      | false =>
        refine ⟨_, _, rfl, rfl, .inl ⟨by omega, by omega⟩, (by show 2 ≤ sizeLine; decide), fun l18 hl18 => fin _ ?_ ?_ ?_ l18 hl18⟩
        · show 0 ≤ wt * 0
          omega
        · show wt * 0 ≤ 100
          omega
        · intro _
          show wt * 0 = 0
          omega
    · have hne : ws = [] := by
        by_cases z : ws = []
        · exact z
        · exfalso
          apply e
          simp [z]
      subst hne
      have hin' : ∃ g ∈ gs, innP g.1 = true := by
        rcases hin with ⟨k, hk, _⟩ | h
        · simp at hk
        · exact h
      exact ⟨_, rfl, q lf gs H12 (D11.trans E12) hlf0 ⟨acc, E12.but _ _ nlf ea, aa.imp fun _ _ r => r.tk (TK.dr D11.well E12.but)⟩ (by simpa using hlen) gok hin' (by simpa using hcn)⟩
end
end Lag

set_option maxRecDepth 100000
set_option maxHeartbeats 8000000
namespace Lag
open PySem PySem.Spec PyProof.Rows L2
abbrev sEnds : Stmt := topS 65 -- @_law_ends
abbrev sGNet : Stmt := topS 67 -- @_law_net
def EndV (K : PySem.W.Frag) (H : Hp) (v : V) (e : Nat × Nat) : Prop := ∃ a, v = .ref a ∧ SqT K H a [.int (e.1 : Nat), .int (e.2 : Nat)]
theorem EndV.tk {K : PySem.W.Frag} {H H' : Hp} {v : V} {e : Nat × Nat} (t : TK H H') (h : EndV K H v e) : EndV K H' v e := by
  obtain ⟨a, e, s⟩ := h
  exact ⟨a, e, t.seq s⟩
def cntE (es : List (Nat × Nat)) (e : Nat) : Nat := es.countP fun p => p.2 == e
structure EInv (gs : List Gt) (es : List (Nat × Nat)) : Prop where
  ok : ∀ p ∈ es, p.1 < gs.length ∧ p.2 < gs.length ∧ kindAt gs p.1 ≠ "out" ∧ kindAt gs p.2 ≠ "in"
  one : ∀ e, e < gs.length → kindAt gs e = "out" → cntE es e = 1
  some : ∀ e, e < gs.length → kindAt gs e = "first" → 1 ≤ cntE es e
structure EInv0 (gs : List Gt) (es : List (Nat × Nat)) (i : Nat) : Prop where
  ok : ∀ p ∈ es, p.1 < gs.length ∧ p.2 < gs.length ∧ kindAt gs p.1 ≠ "out" ∧ kindAt gs p.2 ≠ "in"
  one : ∀ e, e < i → kindAt gs e = "out" → cntE es e = 1
  some : ∀ e, e < i → kindAt gs e = "first" → 1 ≤ cntE es e
  low : ∀ p ∈ es, p.2 < i
  len : es.length ≤ i
theorem cntE_app (a b : List (Nat × Nat)) (e : Nat) : cntE (a ++ b) e = cntE a e + cntE b e := List.countP_append ..
theorem cntE_one (p : Nat × Nat) (e : Nat) : cntE [p] e = if p.2 = e then 1 else 0 := by
  unfold cntE
  rw [List.countP_cons, List.countP_nil]
  by_cases h : p.2 = e <;> simp [h]
theorem cntE_low {gs : List Gt} {es : List (Nat × Nat)} {i : Nat} (h : EInv0 gs es i) : cntE es i = 0 := by
  unfold cntE
  rw [List.countP_eq_zero]
  intro p hp z
  have := h.low p hp
  have : p.2 = i := by simpa using z
  omega
theorem EInv0.skip {gs : List Gt} {es : List (Nat × Nat)} {i : Nat} (h : EInv0 gs es i) (h1 : kindAt gs i ≠ "out") (h2 : kindAt gs i ≠ "first") : EInv0 gs es (i + 1) := by
  refine ⟨h.ok, fun e he hk => ?_, fun e he hk => ?_, fun p hp => by have := h.low p hp; omega, by have := h.len; omega⟩
  · rcases Nat.lt_or_eq_of_le (Nat.le_of_lt_succ he) with z | z
    · exact h.one e z hk
    · exact absurd (z ▸ hk) h1
  · rcases Nat.lt_or_eq_of_le (Nat.le_of_lt_succ he) with z | z
    · exact h.some e z hk
    · exact absurd (z ▸ hk) h2
theorem EInv0.put {gs : List Gt} {es : List (Nat × Nat)} {i s : Nat} (h : EInv0 gs es i) (hi : i < gs.length) (hs : s < gs.length) (hk : kindAt gs s ≠ "out") (hk2 : kindAt gs i ≠ "in") : EInv0 gs (es ++ [(s, i)]) (i + 1) := by
  have h0 := cntE_low h
  refine ⟨fun p hp => ?_, fun e he hke => ?_, fun e he hke => ?_, fun p hp => ?_, by rw [List.length_append]; have := h.len; show _ + 1 ≤ _; omega⟩
  · rcases List.mem_append.mp hp with z | z
    · exact h.ok p z
    · rw [List.mem_singleton] at z
      rw [z]
      exact ⟨hs, hi, hk, hk2⟩
  · rw [cntE_app, cntE_one]
    rcases Nat.lt_or_eq_of_le (Nat.le_of_lt_succ he) with z | z
    · rw [h.one e z hke, if_neg (by show ¬ i = e; omega)]
    · subst z
      rw [h0, if_pos rfl]
  · rw [cntE_app, cntE_one]
    rcases Nat.lt_or_eq_of_le (Nat.le_of_lt_succ he) with z | z
    · have := h.some e z hke
      omega
    · subst z
      rw [h0, if_pos rfl]
      omega
  · rcases List.mem_append.mp hp with z | z
    · have := h.low p z
      omega
    · rw [List.mem_singleton] at z
      rw [z]
      show i < i + 1
      omega
theorem EInv.ins {gs : List Gt} {es : List (Nat × Nat)} {s e : Nat} (h : EInv gs es) (j : Nat) (hs : s < gs.length) (hk : kindAt gs s ≠ "out") (he : Inner gs e) : EInv gs (es.take j ++ [(s, e)] ++ es.drop j) := by
  have c : ∀ x, cntE (es.take j ++ [(s, e)] ++ es.drop j) x = cntE es x + if e = x then 1 else 0 := fun x => by
    rw [cntE_app, cntE_app, cntE_one]
    show cntE (es.take j) x + (if e = x then 1 else 0) + cntE (es.drop j) x = _
    have : cntE es x = cntE (es.take j) x + cntE (es.drop j) x := by rw [← cntE_app, List.take_append_drop]
    omega
  refine ⟨fun p hp => ?_, fun x hx hkx => ?_, fun x hx hkx => ?_⟩
  · rcases List.mem_append.mp hp with z | z
    · rcases List.mem_append.mp z with z | z
      · exact h.ok p (List.mem_of_mem_take z)
      · rw [List.mem_singleton] at z
        rw [z]
        exact ⟨hs, he.1, hk, he.2.1⟩
    · exact h.ok p (List.mem_of_mem_drop z)
  · rw [c, h.one x hx hkx, if_neg (fun z : e = x => he.2.2 (by rw [z]; exact hkx))]
  · rw [c]
    have := h.some x hx hkx
    omega
def spEnds (K : PySem.W.Frag) : Sp := fun vs H Q _ => ∃ (wl lg : Addr) (gv : List V) (gs : List Gt), vs = [.ref wl, .ref lg] ∧ WellAt wl H ∧ lg ≠ wl ∧ H lg = some (.lst gv) ∧ All2 (GateV K H) gv gs ∧ gs.length ≤ 8 ∧ (∃ i, Inner gs i) ∧ ∀ le ev es H', Dr wl H H' → H le = none → H' le = some (.lst ev) → All2 (EndV K H') ev es → EInv gs es → es.length ≤ 14 → Q (.ref le) H'
abbrev natV (r : List Nat) : List V := r.map fun i => V.int (i : Nat)
theorem in_two {k : Str} {a b : Str} : inV (.str k) [.str a, .str b] = decide (k = a ∨ k = b) := by
  rw [Bool.eq_iff_iff, decide_eq_true_iff]
  unfold inV
  simp only [List.any_cons, List.any_nil, Bool.or_false, Bool.or_eq_true]
  show ((a == k) = true ∨ (b == k) = true) ↔ _
  rw [beq_iff_eq, beq_iff_eq]
  exact ⟨fun h => h.imp Eq.symm Eq.symm, fun h => h.imp Eq.symm Eq.symm⟩
section
variable {P : Program} {w : World} {K : PySem.W.Frag} {mg : Str → Option Value} {base : Heap}
abbrev nEnds : List Str := ["_law_state", "_law_gates_here", "_law_k", "_law_starts", "_law_ends_here", "_law_found"]
abbrev tKd (K : PySem.W.Frag) : TE := tOp (rIxT K) (tOp (rIxL K) (tVar 1) (tVar 2)) (tC (.int 0))
theorem scEnds : FnScope nEnds ["_law_state", "_law_gates_here"] (defScope sEnds) := ⟨rfl, rfl, rfl, by decide +kernel, rfl, by decide +kernel, by decide +kernel⟩
abbrev DEnds (P : Program) (w : World) (K : PySem.W.Frag) (mg : Str → Option Value) (base : Heap) := Df P w K mg base 3 "_law_ends" ["_law_state", "_law_gates_here"] (spEnds K)
theorem ok_ends {f fD fO : Addr} {fd fdD fdO : FuncData} (F : Fun K "_law_ends" "_law_ends" sEnds f fd) (hm : mg "_law_ends" = some (.ref f)) (B : Bt mg) (DD : DDraw P w K mg base fD fdD) (DO : DOf P w K mg base fO fdO) : DEnds P w K mg base f fd := by
  refine ⟨?_, hm, F.kp, F.binds fun _ _ _ _ _ _ us hl => match us, hl with | [_, _], _ => rfl⟩
  refine F.ok scEnds (fun vs H Q E h => ?_) (fun cdv A outer s H vs Q E hr h => ?_)
  · obtain ⟨wl, lg, gv, gs, rfl, _⟩ := h
    rfl
  · obtain ⟨wl, lg, gv, gs, rfl, hw, nlg, hlg, ga, hgl, ⟨i0, hi0⟩, q⟩ := h
    have nd := scEnds.nd
    have hr1 : Room 1 _ := hr.mono (by decide)
    refine ⟨_, pss_cons (ps_setLc (i := 3) (own := [("_law_k", 2)]) (g := gName 2) (tt := tTest (tOp rNe (tKd K) (tC (.str "out")))) (te := tVar 2) rfl nd rfl rfl (sw_true rfl rfl rfl (by decide +kernel)) (pi_range1 (by rfl) B.range (pa_cons (pe_callB call_len_seq (by rfl) B.len PySem.boot_len (pa_cons (pv 1) pa_nil)) pa_nil)) (blkOk_by (N := nEnds) (sc := defScope sEnds) (own := [("_law_k", 2)]) (by decide +kernel)) (fun _ _ _ _ _ => pg_name (i := 2) nd rfl (.inl rfl))
        (fun _ _ _ _ _ => pts_one (pt_cmpR op_ne (pe_ix ix_tup (pe_ix ix_list (pv 1) (pv 2) (fun _ _ => rfl)) pe_int (fun _ _ => rfl)) pe_str (nomark _))) (fun _ _ _ _ _ => pv 2)) <|
      pss_cons (ps_setLc (i := 4) (own := [("_law_k", 2)]) (g := gName 2) (tt := tTest (tOp (rIn K true) (tKd K) (tLst (tCons (tC (.str "in")) (tCons (tC (.str "out")) tNil))))) (te := tVar 2) rfl nd rfl rfl (sw_true rfl rfl rfl (by decide +kernel)) (pi_range1 (by rfl) B.range (pa_cons (pe_callB call_len_seq (by rfl) B.len PySem.boot_len (pa_cons (pv 1) pa_nil)) pa_nil)) (blkOk_by (N := nEnds) (sc := defScope sEnds) (own := [("_law_k", 2)]) (by decide +kernel)) (fun _ _ _ _ _ => pg_name (i := 2) nd rfl (.inl rfl))
        (fun _ _ _ _ _ => pts_one (pt_cmpR op_notIn_seq (pe_ix ix_tup (pe_ix ix_list (pv 1) (pv 2) (fun _ _ => rfl)) pe_int (fun _ _ => rfl)) (pe_lst (pa_cons pe_str (pa_cons pe_str pa_nil))) (by rfl))) (fun _ _ _ _ _ => pv 2)) <|
      pss_cons (ps_set (i := 5) nd rfl (.inl rfl) (pe_lst pa_nil)) <|
      pss_cons (ps_for PassesOwn.never rfl (pi_range1 (by rfl) B.range (pa_cons (pe_callB call_len_seq (by rfl) B.len PySem.boot_len (pa_cons (pv 1) pa_nil)) pa_nil)) (pg_name (i := 2) nd rfl (.inl rfl)) <|
        pss_one <| ps_if (pt_cmpR op_in_seq (pe_ix ix_tup (pe_ix ix_list (pv 1) (pv 2) (fun _ _ => rfl)) pe_int (fun _ _ => rfl)) (pe_lst (pa_cons pe_str (pa_cons pe_str pa_nil))) (by rfl))
          (pss_one (ps_expr (pe_bm PySem.F.plainAttrs_list PySem.F.slot_list_append PySem.F.type_list_append mt_append (pv 5) (pa_cons (pe_tup (pa_cons (pe_call DO.ok hr (by rfl) DO.mg DO.kp DO.bd .nil pass0 (pa_cons (pv 0) (pa_cons (pv 3) pa_nil))) (pa_cons (pv 2) pa_nil))) pa_nil)))) pss_nil) <|
      pss_cons (ps_for PassesOwn.never rfl (pi_range1 (by rfl) B.range (pa_cons (pe_call DD.ok hr1 (by rfl) DD.mg DD.kp DD.bd .nil pass0 (pa_cons (pv 0) (pa_cons pe_int pa_nil))) pa_nil)) (pg_name (i := 2) nd rfl (.inl rfl)) <|
        pss_one <| ps_expr (pe_bm PySem.F.plainAttrs_list PySem.F.slot_list_insert PySem.F.type_list_insert mt_insert (pv 5) (pa_cons (pe_call DD.ok hr1 (by rfl) DD.mg DD.kp DD.bd .nil pass0 (pa_cons (pv 0) (pa_cons (pe_op op_add (pe_callB call_len_seq (by rfl) B.len PySem.boot_len (pa_cons (pv 5) pa_nil)) pe_int) pa_nil)))
          (pa_cons (pe_tup (pa_cons (pe_call DO.ok hr (by rfl) DO.mg DO.kp DO.bd .nil pass0 (pa_cons (pv 0) (pa_cons (pv 3) pa_nil))) (pa_cons (pe_call DO.ok hr (by rfl) DO.mg DO.kp DO.bd .nil pass0 (pa_cons (pv 0) (pa_cons (pv 4) pa_nil))) pa_nil))) pa_nil)))) <|
      pss_one <| ps_ret (pv 5), ?_⟩
    have hgv : gv.length = gs.length := ga.1
    -- starts
    refine ⟨_, rfl, lg, gv, rfl, .inl (SqL.of hlg), _, rfl, by rw [hgv]; omega, by rw [hgv]; omega, fun l1 hl1 => ?_⟩
    rw [hgv, Int.toNat_natCast]
    have n1 : l1 ≠ wl := (hw.ne hl1).symm
    refine lc_range (lo := 0) (n := gs.length) (fun i Hc => ∃ st : List Nat, Hc l1 = some (.lst (natV st)) ∧ (∀ k ∈ st, k < gs.length ∧ kindAt gs k ≠ "out") ∧ (i0 < i → i0 ∈ st) ∧ st.length ≤ i ∧ Same H Hc) ⟨[], upd_same, fun k hk => by simp at hk, fun h => absurd h (by omega), by simp, same_new hl1⟩ ?_ ?_
    · rintro i Hc hi ⟨st, hc, hok, hin, hln, sm⟩
      have ei : (0 : Int) + (i : Nat) = ((i : Nat) : Int) := Int.zero_add _
      rw [ei]
      obtain ⟨g, hg⟩ : ∃ g, gs[i]? = some g := ⟨_, List.getElem?_eq_getElem hi⟩
      obtain ⟨v, hv, a, rfl, sq⟩ := ga.getR hg
      have hk := kindAt_get hg
      refine ⟨rfl, ?_⟩
      refine ⟨_, rfl, _, rfl, lg, gv, _, _, rfl, rfl, SqL.of (sm _ _ hlg), atI_nat hv, a, _, _, .str g.1, rfl, rfl, (TK.same sm).seq sq, atI_nat (j := 0) rfl, rfl, _, rfl, ite2 (fun e => ?_) (fun e => ?_)⟩
      · have hko : g.1 ≠ "out" := fun z => by
          rw [z] at e
          simp at e
        refine ⟨_, rfl, _, hc, by rw [List.length_map]; exact small1000 (by omega), st ++ [i], ?_, fun k hk' => ?_, fun h => ?_, by rw [List.length_append]; show _ + 1 ≤ _; omega, same_mut sm hl1⟩
        · rw [upd_same]
          show _ = some (HO.lst (List.map _ (_ ++ _)))
          rw [List.map_append]
          rfl
        · rcases List.mem_append.mp hk' with z | z
          · exact hok k z
          · rw [List.mem_singleton] at z
            rw [z, hk]
            exact ⟨hi, hko⟩
        · rcases Nat.lt_or_eq_of_le (Nat.le_of_lt_succ h) with z | z
          · exact List.mem_append.mpr (.inl (hin z))
          · exact List.mem_append.mpr (.inr (by rw [z]; simp))
      · have hko : g.1 = "out" := by
          by_cases z : g.1 = "out"
          · exact z
          · exfalso
            apply e
            simp [z]
        refine ⟨st, hc, hok, fun h => ?_, by omega, sm⟩
        rcases Nat.lt_or_eq_of_le (Nat.le_of_lt_succ h) with z | z
        · exact hin z
        · exfalso
          apply hi0.2.2
          rw [z, hk, hko]
    rintro H1 ⟨st, e1, sok, sin, sln, sm1⟩
    have hst : i0 ∈ st := sin hi0.1
    refine gn_norm (σ' := [some (.ref wl), some (.ref lg), none, some (.ref l1), none, none]) rfl ?_
    -- ends
    refine ⟨_, rfl, lg, gv, rfl, .inl (SqL.of (sm1 _ _ hlg)), _, rfl, by rw [hgv]; omega, by rw [hgv]; omega, fun l2 hl2 => ?_⟩
    rw [hgv, Int.toNat_natCast]
    have W1 : WellAt wl H1 := hw.same sm1
    have n2 : l2 ≠ wl := (W1.ne hl2).symm
    refine lc_range (lo := 0) (n := gs.length) (fun i Hc => ∃ en : List Nat, Hc l2 = some (.lst (natV en)) ∧ (∀ k ∈ en, Inner gs k) ∧ (i0 < i → i0 ∈ en) ∧ en.length ≤ i ∧ Same H1 Hc) ⟨[], upd_same, fun k hk => by simp at hk, fun h => absurd h (by omega), by simp, same_new hl2⟩ ?_ ?_
    · rintro i Hc hi ⟨st, hc, hok, hin, hln, sm⟩
      have ei : (0 : Int) + (i : Nat) = ((i : Nat) : Int) := Int.zero_add _
      rw [ei]
      obtain ⟨g, hg⟩ : ∃ g, gs[i]? = some g := ⟨_, List.getElem?_eq_getElem hi⟩
      obtain ⟨v, hv, a, rfl, sq⟩ := ga.getR hg
      have hk := kindAt_get hg
      have s1c := sm1.trans sm
      refine ⟨rfl, ?_⟩
      refine ⟨_, rfl, _, rfl, lg, gv, _, _, rfl, rfl, SqL.of (s1c _ _ hlg), atI_nat hv, a, _, _, .str g.1, rfl, rfl, (TK.same s1c).seq sq, atI_nat (j := 0) rfl, (by show 2 ≤ sizeLine; decide), fun l3 hl3 => ?_⟩
      have s3 : Same Hc (upd Hc l3 (.lst [.str "in", .str "out"])) := same_new hl3
      have e3 : (upd Hc l3 (.lst [.str "in", .str "out"])) l3 = some (.lst [.str "in", .str "out"]) := upd_same
      generalize upd Hc l3 (.lst [.str "in", .str "out"]) = H3 at s3 e3
      refine ⟨l3, _, rfl, .inl (SqL.of e3), rfl, rfl, _, rfl, ?_⟩
      rw [show (if true = true then !inV (V.str g.1) [V.str "in", V.str "out"] else inV (V.str g.1) [V.str "in", V.str "out"]) = innP g.1 from port_notin]
      have hc3 := s3 _ _ hc
      refine ite2 (fun e => ?_) (fun e => ?_)
      · have hko := inn_port.mp e
        refine ⟨_, rfl, _, hc3, by rw [List.length_map]; exact small1000 (by omega), st ++ [i], ?_, fun k hk' => ?_, fun h => ?_, by rw [List.length_append]; show _ + 1 ≤ _; omega, same_mut (sm.trans s3) hl2⟩
        · rw [upd_same]
          show _ = some (HO.lst (List.map _ (_ ++ _)))
          rw [List.map_append]
          rfl
        · rcases List.mem_append.mp hk' with z | z
          · exact hok k z
          · rw [List.mem_singleton] at z
            rw [z]
            exact ⟨hi, by rw [hk]; exact fun z => hko (.inl z), by rw [hk]; exact fun z => hko (.inr z)⟩
        · rcases Nat.lt_or_eq_of_le (Nat.le_of_lt_succ h) with z | z
          · exact List.mem_append.mpr (.inl (hin z))
          · exact List.mem_append.mpr (.inr (by rw [z]; simp))
      · refine ⟨st, hc3, hok, fun h => ?_, by omega, sm.trans s3⟩
        rcases Nat.lt_or_eq_of_le (Nat.le_of_lt_succ h) with z | z
        · exact hin z
        · exfalso
          apply e
          rw [inn_port]
          rintro (y | y)
          · exact hi0.2.1 (by rw [z, hk, y])
          · exact hi0.2.2 (by rw [z, hk, y])
    rintro H2 ⟨en, e2, eok, ein, eln, sm2⟩
    have hen : i0 ∈ en := ein hi0.1
    refine gn_norm (σ' := [some (.ref wl), some (.ref lg), none, some (.ref l1), some (.ref l2), none]) rfl ?_
    -- found
    refine ⟨(by show 0 ≤ sizeLine; decide), fun le hle => ?_⟩
    have s02 := sm1.trans sm2
    have W2 : WellAt wl H2 := hw.same s02
    have nle : le ≠ wl := (W2.ne hle).symm
    have hle0 : H le = none := s02.free hle
    have nl1 : l1 ≠ le := ne_of_none (sm2 _ _ e1) hle
    have nl2 : l2 ≠ le := ne_of_none e2 hle
    have nlgl : lg ≠ le := ne_of_none (s02 _ _ hlg) hle
    have D3 : Dr wl H (upd H2 le (.lst [])) := ⟨But.same (s02.trans (same_new hle)), W2.new hle⟩
    have e3 : (upd H2 le (.lst [])) le = some (.lst []) := upd_same
    have e13 : (upd H2 le (.lst [])) l1 = some (.lst (natV st)) := by rw [upd_ne nl1]; exact sm2 _ _ e1
    have e23 : (upd H2 le (.lst [])) l2 = some (.lst (natV en)) := by rw [upd_ne nl2]; exact e2
    generalize upd H2 le (.lst []) = H3 at D3 e3 e13 e23
    refine gn_norm (σ' := [some (.ref wl), some (.ref lg), none, some (.ref l1), some (.ref l2), some (.ref le)]) rfl ?_
    have hlg3 := D3.but _ _ nlg hlg
    refine ⟨_, rfl, lg, gv, rfl, .inl (SqL.of hlg3), _, rfl, by rw [hgv]; omega, by rw [hgv]; omega, ?_⟩
    rw [hgv, Int.toNat_natCast]
    have hstne : natV st ≠ [] := fun z => by
      have := List.map_eq_nil_iff.mp z
      rw [this] at hst
      simp at hst
    have henne : natV en ≠ [] := fun z => by
      have := List.map_eq_nil_iff.mp z
      rw [this] at hen
      simp at hen
    refine for_range (lo := 0) (n := gs.length) (fun i σ H4 => ∃ (s2 : Option V) (ev : List V) (es : List (Nat × Nat)), σ = [some (.ref wl), some (.ref lg), s2, some (.ref l1), some (.ref l2), some (.ref le)] ∧ Dr wl H H4 ∧ H4 le = some (.lst ev) ∧ All2 (EndV K H4) ev es ∧ EInv0 gs es i ∧ H4 l1 = some (.lst (natV st)) ∧ H4 l2 = some (.lst (natV en)))
      ⟨_, [], [], rfl, D3, e3, All2.nil, ⟨by simp, by simp, by simp, by simp, by simp⟩, e13, e23⟩ ?_ ?_
    · rintro i σ H4 hi ⟨s2, ev, es, rfl, D4, e4, ea, inv, e14, e24⟩
      have ei : (0 : Int) + (i : Nat) = ((i : Nat) : Int) := Int.zero_add _
      rw [ei]
      obtain ⟨g, hg⟩ : ∃ g, gs[i]? = some g := ⟨_, List.getElem?_eq_getElem hi⟩
      obtain ⟨v, hv, a, rfl, sq⟩ := ga.getR hg
      have hk := kindAt_get hg
      refine ⟨_, rfl, _, rfl, lg, gv, _, _, rfl, rfl, SqL.of (D4.but _ _ nlg hlg), atI_nat hv, a, _, _, .str g.1, rfl, rfl, (TK.dr hw D4.but).seq sq, atI_nat (j := 0) rfl, (by show 2 ≤ sizeLine; decide), fun l5 hl5 => ?_⟩
      have E5 := Dr.new (o := .lst [.str "out", .str "first"]) D4.well hl5
      have e5 : (upd H4 l5 (.lst [.str "out", .str "first"])) l5 = some (.lst [.str "out", .str "first"]) := upd_same
      generalize upd H4 l5 (.lst [.str "out", .str "first"]) = H5 at E5 e5
      refine ⟨l5, _, rfl, .inl (SqL.of e5), rfl, rfl, _, rfl, ?_⟩
      rw [show (if false = true then !inV (V.str g.1) [V.str "out", V.str "first"] else inV (V.str g.1) [V.str "out", V.str "first"]) = decide (g.1 = "out" ∨ g.1 = "first") from in_two]
      have D5 := D4.trans E5
      have e45 := E5.but _ _ nle e4
      have e15 := E5.but _ _ n1 e14
      have e25 := E5.but _ _ n2 e24
      have ea5 := ea.imp fun _ _ r => r.tk (TK.dr D4.well E5.but)
      refine ite2 (fun e => ?_) (fun e => ?_)
      · have hkk := of_decide_eq_true e
        have hkin : kindAt gs i ≠ "in" := fun z => by
          rw [hk] at z
          rw [z] at hkk
          rcases hkk with y | y
          · exact absurd y (by decide +kernel)
          · exact absurd y (by decide +kernel)
        refine ⟨_, rfl, .inl ⟨rfl, _, SqL.of e45⟩, _, rfl, _, rfl, wl, l1, _, rfl, n1, D5.well, SqL.of e15, hstne, by rw [List.length_map]; omega, fun v H6 hv6 E6 => ?_⟩
        obtain ⟨s, hs, rfl⟩ := List.mem_map.mp hv6
        obtain ⟨s1, s2'⟩ := sok s hs
        refine ⟨_, rfl, (by show 2 ≤ sizeLine; decide), fun l7 hl7 => ?_⟩
        have E7 := E6.trans (Dr.new (o := .tup [.int (s : Nat), .int (i : Nat)]) E6.well hl7)
        have v7 : EndV K (upd H6 l7 (.tup [.int (s : Nat), .int (i : Nat)])) (.ref l7) (s, i) := ⟨l7, rfl, .inl (.inl upd_same)⟩
        generalize upd H6 l7 (.tup [.int (s : Nat), .int (i : Nat)]) = H7 at E7 v7
        have e47 := E7.but _ _ nle e45
        have hel : ev.length = es.length := ea.1
        have hlen := inv.len
        refine ⟨le, _, _, rfl, rfl, e47, small1000 (by omega), _, ev ++ [.ref l7], es ++ [(s, i)], rfl, set_well (D5.trans E7) hle0 nle, upd_same, ?_, inv.put hi s1 s2' hkin, by rw [upd_ne nl1]; exact E7.but _ _ n1 e15, by rw [upd_ne nl2]; exact E7.but _ _ n2 e25⟩
        exact (ea5.imp fun _ _ r => r.tk ((TK.dr D5.well E7.but).trans (TK.lst e47))).snoc (v7.tk (TK.lst e47))
      · have hkk : ¬ (g.1 = "out" ∨ g.1 = "first") := fun z => e (decide_eq_true z)
        exact ⟨_, ev, es, rfl, D5, e45, ea5, inv.skip (by rw [hk]; exact fun z => hkk (.inl z)) (by rw [hk]; exact fun z => hkk (.inr z)), e15, e25⟩
    rintro σ H4 ⟨s2, ev, es, rfl, D4, e4, ea, inv, e14, e24⟩
    have inv1 : EInv gs es := ⟨inv.ok, inv.one, inv.some⟩
    have hl4 := inv.len
    refine ⟨_, rfl, wl, 7, rfl, by decide, by decide, D4.well, fun c H5 c0 c1 E5 => ⟨_, rfl, by omega, by omega, ?_⟩⟩
    refine for_range (lo := 0) (n := c.toNat) (fun i σ H6 => ∃ (s2 : Option V) (ev : List V) (es : List (Nat × Nat)), σ = [some (.ref wl), some (.ref lg), s2, some (.ref l1), some (.ref l2), some (.ref le)] ∧ Dr wl H H6 ∧ H6 le = some (.lst ev) ∧ All2 (EndV K H6) ev es ∧ EInv gs es ∧ es.length ≤ 8 + i ∧ H6 l1 = some (.lst (natV st)) ∧ H6 l2 = some (.lst (natV en)))
      ⟨_, ev, es, rfl, D4.trans E5, E5.but _ _ nle e4, ea.imp fun _ _ r => r.tk (TK.dr D4.well E5.but), inv1, by omega, E5.but _ _ n1 e14, E5.but _ _ n2 e24⟩ ?_ ?_
    · rintro i σ H6 hi ⟨s2, ev, es, rfl, D6, e6, ea, inv, hln, e16, e26⟩
      have hel : ev.length = es.length := ea.1
      refine ⟨_, rfl, .inl ⟨rfl, _, SqL.of e6⟩, _, rfl, _, rfl, le, _, rfl, .inl (SqL.of e6), _, _, rfl, rfl, wl, _, rfl, by omega, by omega, D6.well, fun d H7 d0 d1 E7 => ?_⟩
      have D7 := D6.trans E7
      refine ⟨_, rfl, _, rfl, wl, l1, _, rfl, n1, D7.well, SqL.of (E7.but _ _ n1 e16), hstne, by rw [List.length_map]; omega, fun v H8 hv8 E8 => ?_⟩
      obtain ⟨s, hs, rfl⟩ := List.mem_map.mp hv8
      obtain ⟨s1, s2'⟩ := sok s hs
      have D8 := D7.trans E8
      have E78 := E7.trans E8
      refine ⟨_, rfl, _, rfl, wl, l2, _, rfl, n2, D8.well, SqL.of (E78.but _ _ n2 e26), henne, by rw [List.length_map]; omega, fun v H9 hv9 E9 => ?_⟩
      obtain ⟨e, he, rfl⟩ := List.mem_map.mp hv9
      have hin := eok e he
      refine ⟨(by show 2 ≤ sizeLine; decide), fun l10 hl10 => ?_⟩
      have E10 := (E78.trans E9).trans (Dr.new (o := .tup [.int (s : Nat), .int (e : Nat)]) E9.well hl10)
      have v10 : EndV K (upd H9 l10 (.tup [.int (s : Nat), .int (e : Nat)])) (.ref l10) (s, e) := ⟨l10, rfl, .inl (.inl upd_same)⟩
      generalize upd H9 l10 (.tup [.int (s : Nat), .int (e : Nat)]) = H10 at E10 v10
      have e10 := E10.but _ _ nle e6
      refine ⟨le, ev, d, _, rfl, rfl, e10, small1000 (by omega), d0, by omega, ?_⟩
      refine ⟨_, _, es.take d.toNat ++ [(s, e)] ++ es.drop d.toNat, rfl, set_well (D6.trans E10) hle0 nle, upd_same, ?_, inv.ins _ s1 s2' hin, ?_, by rw [upd_ne nl1]; exact E10.but _ _ n1 e16, by rw [upd_ne nl2]; exact E10.but _ _ n2 e26⟩
      · have eaT := ea.imp fun _ _ r => r.tk ((TK.dr D6.well E10.but).trans (TK.lst (o := .lst (ev.take d.toNat ++ [.ref l10] ++ ev.drop d.toNat)) e10))
        exact ((eaT.take d.toNat).snoc (v10.tk (TK.lst e10))).append (eaT.drop d.toNat)
      · rw [List.length_append, List.length_append, List.length_take, List.length_drop]
        show _ + 1 + _ ≤ _
        omega
    rintro σ H6 ⟨s2, ev, es, rfl, D6, e6, ea, inv, hln, e16, e26⟩
    exact ⟨_, rfl, q le ev es H6 D6 hle0 e6 ea inv (by omega)⟩
abbrev nGNet : List Str := ["_law_state", "_law_gates_here", "_law_wires", "_law_start", "_law_end", "_law_many"]
theorem scGNet : FnScope nGNet ["_law_state"] (defScope sGNet) := ⟨rfl, rfl, rfl, by decide +kernel, rfl, by decide +kernel, by decide +kernel⟩
end
/-- wires of these ends -/
structure WSh (es : List (Nat × Nat)) (ws : List Wr) : Prop where
  e : ws.map (fun x => (x.1, x.2.1)) = es
  ok : ∀ x ∈ ws, ROk x.2.2 ∧ x.2.2.length ≤ 2 ∧ (x.2.2 = [] → x.1 < x.2.1)
theorem WSh.net {gs : List Gt} {es : List (Nat × Nat)} {ws : List Wr} (h : WSh es ws) (e : EInv gs es) (ne : gs ≠ []) (gl : gs.length ≤ 100) (gok : ∀ g ∈ gs, GOk g) (hl : es.length ≤ 1000) : NetOk gs ws := by
  have hm : ∀ x ∈ ws, (x.1, x.2.1) ∈ es := fun x hx => by
    rw [← h.e]
    exact List.mem_map.mpr ⟨x, hx, rfl⟩
  have c : ∀ i, cnt ws i = cntE es i := fun i => by
    unfold cnt cntE
    rw [← h.e, List.countP_map]
    rfl
  refine ⟨ne, gl, ?_, gok, fun x hx => ?_, fun i hi hk => by rw [c]; exact e.one i hi hk, fun i hi hk => by rw [c]; exact e.some i hi hk, id, fun x hx h0 => (h.ok x hx).2.2 h0⟩
  · have := congrArg List.length h.e
    rw [List.length_map] at this
    omega
  · obtain ⟨a, b, c', d⟩ := e.ok _ (hm x hx)
    exact ⟨a, b, c', d, (h.ok x hx).1, by have := (h.ok x hx).2.1; omega⟩
def spGNet (K : PySem.W.Frag) : Sp := fun vs H Q _ => ∃ wl : Addr, vs = [.ref wl] ∧ WellAt wl H ∧ ∀ (gs : List Gt) (ws : List Wr) (lg lw p : Addr) (H' : Hp), NetOk gs ws → gs.length ≤ 8 → (∀ x ∈ ws, x.2.2.length ≤ 2) → ws.length ≤ 14 → (∃ i, Inner gs i) → nInn gs ≤ 4 → Dr wl H H' → H lg = none → H lw = none → lg ≠ lw → LG K H' lg gs → LW K H' lw ws → H' p = some (.tup [.ref lg, .ref lw]) → Q (.ref p) H'
section
variable {P : Program} {w : World} {K : PySem.W.Frag} {mg : Str → Option Value} {base : Heap}
abbrev DGNet (P : Program) (w : World) (K : PySem.W.Frag) (mg : Str → Option Value) (base : Heap) := Df P w K mg base 4 "_law_net" ["_law_state"] (spGNet K)
theorem ok_gnet {f fD fG fE fT : Addr} {fd fdD fdG fdE fdT : FuncData} (F : Fun K "_law_net" "_law_net" sGNet f fd) (hm : mg "_law_net" = some (.ref f)) (DD : DDraw P w K mg base fD fdD) (DG : DGGates P w K mg base fG fdG) (DE : DEnds P w K mg base fE fdE) (DT : DTuple P w K mg base fT fdT) : DGNet P w K mg base f fd := by
  refine ⟨?_, hm, F.kp, F.binds fun _ _ _ _ _ _ us hl => match us, hl with | [_], _ => rfl⟩
  refine F.ok scGNet (fun vs H Q E h => ?_) (fun cdv A outer s H vs Q E hr h => ?_)
  · obtain ⟨wl, rfl, _⟩ := h
    rfl
  · obtain ⟨wl, rfl, hw, q⟩ := h
    have nd := scGNet.nd
    have hr2 : Room 2 _ := hr.mono (by decide)
    have hr1 : Room 1 _ := hr.mono (by decide)
    refine ⟨_, pss_cons (ps_set (i := 1) nd rfl (.inl rfl) (pe_call DG.ok hr (by rfl) DG.mg DG.kp DG.bd .nil pass0 (pa_cons (pv 0) pa_nil))) <|
      pss_cons (ps_set (i := 2) nd rfl (.inl rfl) (pe_lst pa_nil)) <|
      pss_cons (ps_for PassesOwn.never rfl (pi_list (pe_call DE.ok hr (by rfl) DE.mg DE.kp DE.bd .nil pass0 (pa_cons (pv 0) (pa_cons (pv 1) pa_nil)))) (pg_tup rfl (pgs_cons (pg_name (i := 3) nd rfl (.inl rfl)) (pgs_cons (pg_name (i := 4) nd rfl (.inl rfl)) pgs_nil))) <|
        pss_cons (ps_set (i := 5) nd rfl (.inl rfl) (pe_call DD.ok hr1 (by rfl) DD.mg DD.kp DD.bd .nil pass0 (pa_cons (pv 0) (pa_cons pe_int pa_nil)))) <|
        Evl.pss_cut (ps_if (pt_cmpR op_ge (pv 3) (pv 4) (nomark _)) (pss_one (ps_set (i := 5) nd rfl (.inl rfl) (pe_op op_add pe_int (pe_call DD.ok hr1 (by rfl) DD.mg DD.kp DD.bd .nil pass0 (pa_cons (pv 0) (pa_cons pe_int pa_nil)))))) pss_nil) <|
        pss_one <| ps_expr (pe_bm PySem.F.plainAttrs_list PySem.F.slot_list_append PySem.F.type_list_append mt_append (pv 2) (pa_cons (pe_tup (pa_cons (pv 3) (pa_cons (pv 4) (pa_cons (pe_call DT.ok hr2 (by rfl) DT.mg DT.kp DT.bd .nil pass0 (pa_cons (pv 0) (pa_cons (pv 5) pa_nil))) pa_nil)))) pa_nil))) <|
      pss_one <| ps_ret (pe_tup (pa_cons (pv 1) (pa_cons (pv 2) pa_nil))), ?_⟩
    refine ⟨_, rfl, wl, rfl, hw, fun lg gs H1 D1 hlg LG1 hgl gok hin hn4 => ?_⟩
    have nlg : lg ≠ wl := (hw.ne hlg).symm
    have hinn : ∃ i, Inner gs i := by
      obtain ⟨g, hg, hi⟩ := hin
      obtain ⟨i, hi'⟩ := List.getElem?_of_mem hg
      have hk := inn_port.mp hi
      exact ⟨i, (List.getElem?_eq_some_iff.mp hi').1, by rw [kindAt_get hi']; exact fun z => hk (.inl z), by rw [kindAt_get hi']; exact fun z => hk (.inr z)⟩
    have gne : gs ≠ [] := by
      obtain ⟨g, hg, _⟩ := hin
      exact List.ne_nil_of_mem hg
    refine gn_norm (σ' := [some (.ref wl), some (.ref lg), none, none, none, none]) rfl ?_
    refine ⟨(by show 0 ≤ sizeLine; decide), fun lw hlw => ?_⟩
    have nlw : lw ≠ wl := (D1.well.ne hlw).symm
    have hlw0 : H lw = none := D1.free hw hlw
    obtain ⟨gv, hgv, ga⟩ := id LG1
    have ngw : lg ≠ lw := ne_of_none hgv hlw
    have E2 := Dr.new (o := .lst []) D1.well hlw
    have e2 : (upd H1 lw (.lst [])) lw = some (.lst []) := upd_same
    generalize upd H1 lw (.lst []) = H2 at E2 e2
    have D2 := D1.trans E2
    refine gn_norm (σ' := [some (.ref wl), some (.ref lg), some (.ref lw), none, none, none]) rfl ?_
    refine ⟨_, rfl, _, rfl, wl, lg, gv, gs, rfl, D2.well, nlg, E2.but _ _ nlg hgv, ga.imp fun _ _ r => r.tk (TK.dr D1.well E2.but), hgl, hinn, fun le ev es H3 E3 hle eev ea inv hel => ?_⟩
    have D3 := D2.trans E3
    have nle : le ≠ wl := (D2.well.ne hle).symm
    have nlel : le ≠ lw := fun z => by
      rw [z, e2] at hle
      cases hle
    have E13 := E2.trans E3
    refine ⟨le, rfl, ⟨_, SqL.of eev⟩, for_list (K := K) (a := le) (xs := ev) (fun i σ H4 => ∃ (s3 s4 s5 : Option V) (wv : List V) (ws : List Wr), σ = [some (.ref wl), some (.ref lg), some (.ref lw), s3, s4, s5] ∧ (Dr wl H H4 ∧ TK H3 H4) ∧ H4 lw = some (.lst wv) ∧ All2 (WireV K H4) wv ws ∧ WSh (es.take i) ws ∧ But wl H1 H4 ∧ H4 le = some (.lst ev))
      ⟨_, _, _, [], [], rfl, ⟨D3, TK.refl _⟩, E3.but _ _ nlw e2, All2.nil, ⟨rfl, fun x hx => by simp at hx⟩, E13.but, eev⟩ (fun i σ H4 _ ⟨_, _, _, _, _, _, _, _, _, _, _, z⟩ => SqL.of z) ?_ ?_⟩
    · rintro i v σ H4 hv ⟨s3, s4, s5, wv, ws, rfl, ⟨D4, t4⟩, e4, wa, sh, b4, el4⟩
      obtain ⟨⟨st, en⟩, hp, a, rfl, sq⟩ := ea.get hv
      have hi : i < es.length := (List.getElem?_eq_some_iff.mp hp).1
      have hwl : wv.length = i := by
        rw [wa.1]
        have := congrArg List.length sh.e
        rw [List.length_map, List.length_take] at this
        omega
      refine ⟨a, _, rfl, t4.seq sq, rfl, _, _, rfl, _, _, rfl, rfl, ?_⟩
      refine ⟨_, rfl, wl, 3, rfl, by decide, by decide, D4.well, fun m0 H5 m00 m01 E5 => ?_⟩
      refine gn_norm (σ' := [some (.ref wl), some (.ref lg), some (.ref lw), some (.int (st : Nat)), some (.int (en : Nat)), some (.int m0)]) rfl ?_
      refine ⟨fun σ H6 => ∃ m : Nat, σ = [some (.ref wl), some (.ref lg), some (.ref lw), some (.int (st : Nat)), some (.int (en : Nat)), some (.int (m : Nat))] ∧ Dr wl H4 H6 ∧ m ≤ 2 ∧ (m = 0 → st < en), ?_, ?_⟩
      · refine ⟨_, rfl, _, rfl, _, _, rfl, rfl, _, rfl, ite2 (fun e => ?_) (fun e => ?_)⟩
        · refine ⟨_, rfl, wl, 2, rfl, by decide, by decide, E5.well, fun m1 H6 m10 m11 E6 => ⟨_, _, rfl, rfl, ?_⟩⟩
          obtain ⟨m1, rfl⟩ : ∃ z : Nat, m1 = (z : Int) := ⟨m1.toNat, by omega⟩
          refine ⟨1 + m1, rfl, E5.trans E6, by omega, fun h => by omega⟩
        · obtain ⟨m0, rfl⟩ : ∃ z : Nat, m0 = (z : Int) := ⟨m0.toNat, by omega⟩
          refine ⟨m0, rfl, E5, by omega, fun _ => ?_⟩
          have : ¬ ((en : Nat) : Int) ≤ ((st : Nat) : Int) := fun z => e (decide_eq_true z)
          omega
      rintro σ H6 ⟨m, rfl, E6, hm2, hm0⟩
      refine ⟨_, rfl, .inl ⟨rfl, _, SqL.of (E6.but _ _ nlw e4)⟩, _, rfl, _, rfl, _, rfl, _, rfl, wl, m, rfl, by omega, E6.well, fun tp rs H7 E7 etp hrl rok => ?_⟩
      have E67 := E6.trans E7
      refine ⟨(by show 3 ≤ sizeLine; decide), fun l8 hl8 => ?_⟩
      have E8 := E67.trans (Dr.new (o := .tup [.int (st : Nat), .int (en : Nat), .ref tp]) E67.well hl8)
      have s8 : SqT K (upd H7 l8 (.tup [.int (st : Nat), .int (en : Nat), .ref tp])) tp (rs.map V.int) := (TK.new hl8).seq (.inl (.inl etp))
      have v8 : WireV K (upd H7 l8 (.tup [.int (st : Nat), .int (en : Nat), .ref tp])) (.ref l8) (st, en, rs) := ⟨l8, tp, rfl, .inl (.inl upd_same), s8⟩
      generalize upd H7 l8 (.tup [.int (st : Nat), .int (en : Nat), .ref tp]) = H8 at E8 v8
      have e8 := E8.but _ _ nlw e4
      refine ⟨lw, _, _, rfl, rfl, e8, small1000 (by omega), _, _, _, wv ++ [.ref l8], ws ++ [(st, en, rs)], rfl, ⟨?_, ?_⟩, upd_same, ?_, ⟨?_, ?_⟩, ?_, by rw [upd_ne nlel]; exact E8.but _ _ nle el4⟩
      · exact set_well (D4.trans E8) hlw0 nlw
      · exact (t4.trans (TK.dr D4.well E8.but)).trans (TK.lst e8)
      · exact (wa.imp fun _ _ r => r.tk ((TK.dr D4.well E8.but).trans (TK.lst e8))).snoc (v8.tk (TK.lst e8))
      · rw [List.map_append, sh.e, List.take_add_one, hp]
        rfl
      · intro x hx
        rcases List.mem_append.mp hx with z | z
        · exact sh.ok x z
        · rw [List.mem_singleton] at z
          rw [z]
          exact ⟨rok, by show rs.length ≤ 2; omega, fun h => hm0 (by have h' : rs = [] := h; rw [h'] at hrl; exact hrl.symm)⟩
      · exact (b4.trans E8.but).mut hlw
    · rintro σ H4 ⟨s3, s4, s5, wv, ws, rfl, ⟨D4, t4⟩, e4, wa, sh, b4, el4⟩
      rw [ea.1, List.take_length] at sh
      have N := sh.net inv gne (by omega) gok (by omega)
      refine ⟨_, rfl, _, rfl, (by show 2 ≤ sizeLine; decide), fun p hp => ?_⟩
      have st : Same H4 (upd H4 p (.tup [.ref lg, .ref lw])) := same_new hp
      refine q gs ws lg lw p _ N hgl (fun x hx => (sh.ok x hx).2.1) ?_ hinn hn4 ⟨D4.but.trans (But.same st), D4.well.same st⟩ hlg hlw0 ngw ?_ ?_ upd_same
      · have := congrArg List.length sh.e
        rw [List.length_map] at this
        omega
      · exact ⟨gv, st _ _ (b4 _ _ nlg hgv), ga.imp fun _ _ r => r.tk ((TK.dr D1.well b4).trans (TK.same st))⟩
      · exact ⟨wv, st _ _ e4, wa.imp fun _ _ r => r.tk (TK.same st)⟩
end
end Lag

set_option maxRecDepth 100000
set_option maxHeartbeats 8000000
namespace Lag
open PySem PySem.Spec PyProof.Rows L2
abbrev sGRows : Stmt := topS 68 -- @_law_rows
abbrev sGCounts : Stmt := topS 69 -- @_law_counts
abbrev sShift : Stmt := topS 70 -- @_law_shift
/-- a row that stands tracked, and is no well -/
def RowN (wl : Addr) (H : Hp) (v : V) (rs : List Int) : Prop := ∃ a, v = .ref a ∧ a ≠ wl ∧ H a = some (.lst (rs.map V.int))
theorem RowN.dr {wl : Addr} {H H' : Hp} {v : V} {rs : List Int} (h : RowN wl H v rs) (d : Dr wl H H') : RowN wl H' v rs := by
  obtain ⟨a, e, n, ha⟩ := h
  exact ⟨a, e, n, d.but _ _ n ha⟩
theorem RowN.same {wl : Addr} {H H' : Hp} {v : V} {rs : List Int} (h : RowN wl H v rs) (s : Same H H') : RowN wl H' v rs := by
  obtain ⟨a, e, n, ha⟩ := h
  exact ⟨a, e, n, s _ _ ha⟩
theorem RowN.rv {K : PySem.W.Frag} {wl : Addr} {H : Hp} {v : V} {rs : List Int} (h : RowN wl H v rs) : RowV K H v rs := by
  obtain ⟨a, e, n, ha⟩ := h
  exact ⟨a, e, SqL.of ha⟩
def spGRows (K : PySem.W.Frag) : Sp := fun vs H Q _ => ∃ (wl lg : Addr) (m : Nat) (gv : List V) (gs : List Gt), vs = [.ref wl, .ref lg, .int (m : Nat)] ∧ WellAt wl H ∧ H lg = some (.lst gv) ∧ All2 (GateV K H) gv gs ∧ gs.length ≤ 100 ∧ m ≤ 400 ∧
  ∀ rss l rv H', Dr wl H H' → (∀ rs ∈ rss, RowOk gs rs) → rss.length = m → H l = none → H' l = some (.lst rv) → All2 (RowN wl H') rv rss → Q (.ref l) H'
def spGCounts (K : PySem.W.Frag) : Sp := fun vs H Q _ => ∃ (lw ll : Addr) (wv : List V) (ws : List Wr) (ls : List Int), vs = [.ref lw, .ref ll] ∧ H lw = some (.lst wv) ∧ All2 (WireV K H) wv ws ∧ ws.length ≤ 1000 ∧ SqL K H ll (ls.map V.int) ∧ (∀ x ∈ ws, x.1 < ls.length ∧ x.2.1 < ls.length) ∧ ∀ l H', Same H H' → H l = none → H' l = some (.lst ((cntsL ws ls).map V.int)) → Q (.ref l) H'
section
variable {P : Program} {w : World} {K : PySem.W.Frag} {mg : Str → Option Value} {base : Heap}
abbrev nGRows : List Str := ["_law_state", "_law_gates_here", "_law_many", "_law_gate", "_law_ins", "_law_k"]
theorem scGRows : FnScope nGRows ["_law_state", "_law_gates_here", "_law_many"] (defScope sGRows) := ⟨rfl, rfl, rfl, by decide +kernel, rfl, by decide +kernel, by decide +kernel⟩
abbrev DGRows (P : Program) (w : World) (K : PySem.W.Frag) (mg : Str → Option Value) (base : Heap) := Df P w K mg base 2 "_law_rows" ["_law_state", "_law_gates_here", "_law_many"] (spGRows K)
theorem ok_grows {f fD : Addr} {fd fdD : FuncData} (F : Fun K "_law_rows" "_law_rows" sGRows f fd) (hm : mg "_law_rows" = some (.ref f)) (B : Bt mg) (DD : DDraw P w K mg base fD fdD) : DGRows P w K mg base f fd := by
  refine ⟨?_, hm, F.kp, F.binds fun _ _ _ _ _ _ us hl => match us, hl with | [_, _, _], _ => rfl⟩
  refine F.ok scGRows (fun vs H Q E h => ?_) (fun cdv A outer s H vs Q E hr h => ?_)
  · obtain ⟨wl, lg, m, gv, gs, rfl, _⟩ := h
    rfl
  · obtain ⟨wl, lg, m, gv, gs, rfl, hw, hgv, ga, hgl, hm4, q⟩ := h
    have nd := scGRows.nd
    refine ⟨_, pss_cons (ps_set (i := 4) nd rfl (.inr rfl) (pe_lc (own := [("_law_gate", 3)]) (g := gName 3) (tt := tTest (tOp rEq (tOp (rIxT K) (tVar 3) (tC (.int 0))) (tC (.str "in")))) (te := tVar 3) rfl nd (pi_list (pv 1)) (blkOk_by (N := nGRows) (sc := defScope sGRows) (own := [("_law_gate", 3)]) (by decide +kernel)) (fun _ _ _ _ _ => pg_name (i := 3) nd rfl (.inl rfl))
          (fun _ _ _ _ _ => pts_one (pt_cmpR op_eq (pe_ix ix_tup (pv 3) pe_int (fun _ _ => rfl)) pe_str (nomark _))) (fun _ _ _ _ _ => pv 3))) <|
      pss_one <| ps_ret (pe_lc (own := [("_law_k", 5)]) (g := gName 5) (tt := tYes) (te := tLc (iList K (tVar 4)) (gName 3) tYes (tCall spDraw [] E0 (tCons (tVar 0) (tCons (tC (.int 97)) tNil))) [3]) rfl nd (pi_range1 (by rfl) B.range (pa_cons (pv 2) pa_nil)) (blkOk_by (N := nGRows) (sc := defScope sGRows) (own := [("_law_k", 5)]) (by decide +kernel)) (fun _ _ _ _ _ => pg_name (i := 5) nd rfl (.inl rfl)) (fun _ _ _ _ _ => pts_nil)
          (fun _ _ _ _ _ => pe_lc (own := [("_law_gate", 3)]) (g := gName 3) (tt := tYes) (te := tCall spDraw [] E0 (tCons (tVar 0) (tCons (tC (.int 97)) tNil))) rfl nd (pi_list (pv 4)) (blkOk_by (N := nGRows) (sc := { kind := .function, names := [(".0", .local), ("_law_k", .local), ("_law_ins", .cell), ("_law_state", .cell)], isGenerator := false, isCoroutine := false }) (own := [("_law_gate", 3)]) (by decide +kernel)) (fun _ _ _ _ _ => pg_name (i := 3) nd rfl (.inl rfl)) (fun _ _ _ _ _ => pts_nil)
            (fun _ _ _ _ _ => pe_call DD.ok hr (by rfl) DD.mg DD.kp DD.bd .nil pass0 (pa_cons (pv 0) (pa_cons pe_int pa_nil))))), ?_⟩
    have hlgv : gv.length = gs.length := ga.1
    refine ⟨_, rfl, lg, rfl, ⟨_, SqL.of hgv⟩, fun M hM => ?_⟩
    refine lc_list (K := K) (a := lg) (xs := gv) (fun i Hc => ∃ acc, Hc M = some (.lst acc) ∧ acc.length = (plc gs "in" i).length ∧ Same H Hc) ⟨[], upd_same, rfl, same_new hM⟩ (fun i Hc _ ⟨_, _, _, smc⟩ => SqL.of (smc _ _ hgv)) ?_ ?_
    · rintro i v Hc hv ⟨acc, hacc, hal, smc⟩
      obtain ⟨gt, hgt, gA, rfl, sq⟩ := ga.get hv
      have hi : i < gs.length := (List.getElem?_eq_some_iff.mp hgt).1
      have hkk : kindAt gs i = gt.1 := kindAt_get hgt
      have hpl := plc_len gs "in" i
      refine ⟨rfl, ?_⟩
      refine ⟨_, rfl, gA, _, 0, _, rfl, rfl, (TK.same smc).seq sq, atI_nat (j := 0) rfl, rfl, _, rfl, ite2 (fun e => ?_) (fun e => ?_)⟩
      · have hk : kindAt gs i = "in" := by
          rw [hkk]
          exact V.str.inj (of_decide_eq_true e)
        refine ⟨_, rfl, acc, hacc, small1000 (by omega), acc ++ [.ref gA], upd_same, ?_, same_mut smc hM⟩
        rw [plc_succ, if_pos hk, List.length_append, List.length_append, hal]
        rfl
      · have hk : ¬ kindAt gs i = "in" := fun z => e (decide_eq_true (by rw [← hkk, z]))
        exact ⟨acc, hacc, by rw [plc_succ, if_neg hk]; exact hal, smc⟩
    rintro H3 ⟨macc, hmacc, hml, sm3⟩
    rw [hlgv] at hml
    have D3 : Dr wl H H3 := ⟨But.same sm3, hw.same sm3⟩
    have nM : M ≠ wl := (hw.ne hM).symm
    have hpl := plc_len gs "in" gs.length
    refine gn_norm (σ' := [some (.ref wl), some (.ref lg), some (.int (m : Nat)), none, some (.ref M), none]) rfl ?_
    refine ⟨_, rfl, _, rfl, by omega, by omega, fun D hD => ?_⟩
    rw [Int.toNat_natCast]
    have nD : D ≠ wl := (D3.well.ne hD).symm
    have hD0 : H D = none := sm3.free hD
    have nMD : M ≠ D := ne_of_none hmacc hD
    refine lc_range (lo := 0) (n := m) (fun i Hc => ∃ (rv : List V) (rss : List (List Int)), Hc D = some (.lst rv) ∧ Dr wl H Hc ∧ Hc M = some (.lst macc) ∧ rss.length = i ∧ (∀ rs ∈ rss, RowOk gs rs) ∧ All2 (fun v rs => ∃ a, v = .ref a ∧ a ≠ wl ∧ a ≠ D ∧ Hc a = some (.lst (rs.map V.int))) rv rss)
      ⟨[], [], upd_same, D3.trans (Dr.new D3.well hD), by rw [upd_ne nMD]; exact hmacc, rfl, (fun rs hr => by simp at hr), All2.nil⟩ ?_ ?_
    · rintro i Hc hi ⟨rv, rss, hc, Dc, hMc, hrl, hro, al⟩
      have hrv : rv.length = i := by rw [al.1, hrl]
      refine ⟨rfl, tyes ?_⟩
      refine ⟨_, rfl, M, rfl, ⟨_, SqL.of hMc⟩, fun R hR => ?_⟩
      have nR : R ≠ wl := (Dc.well.ne hR).symm
      have nRD : R ≠ D := fun z => by
        rw [z, hc] at hR
        cases hR
      have nMR : M ≠ R := ne_of_none hMc hR
      refine lc_list (K := K) (a := M) (xs := macc) (fun j Hd => ∃ rs : List Int, rs.length = j ∧ WOk1 rs ∧ Hd R = some (.lst (rs.map V.int)) ∧ Dr wl Hc Hd) ⟨[], rfl, by simp [WOk1], upd_same, Dr.new Dc.well hR⟩ (fun j Hd _ ⟨_, _, _, _, d⟩ => SqL.of (d.but _ _ nM hMc)) ?_ ?_
      · rintro j v Hd hv ⟨rs, hl, hr', hcd, d⟩
        have hj : j < macc.length := (List.getElem?_eq_some_iff.mp hv).1
        refine ⟨rfl, tyes ?_⟩
        refine ⟨_, rfl, wl, 97, rfl, by decide, by decide, d.well, fun z H5 z0 z1 E5 => ?_⟩
        refine ⟨_, E5.but _ _ nR hcd, by rw [List.length_map]; exact small1000 (by omega), rs ++ [z], by simp [hl], ?_, ?_, set_well (d.trans E5) hR nR⟩
        · intro y hy
          rcases List.mem_append.mp hy with hy | hy
          · exact hr' y hy
          · simp at hy
            subst hy
            exact ⟨z0, by omega⟩
        · rw [upd_same, List.map_append]
          rfl
      · rintro Hd ⟨rs, hl, hr', hcd, d⟩
        have hc' := d.but _ _ nD hc
        refine ⟨rv, hc', small1000 (by omega), rv ++ [.ref R], rss ++ [rs], upd_same, set_well (Dc.trans d) hD0 nD, by rw [upd_ne nMD]; exact d.but _ _ nM hMc, by simp [hrl], fun r hr0 => ?_, ?_⟩
        · rcases List.mem_append.mp hr0 with z | z
          · exact hro r z
          · rw [List.mem_singleton] at z
            rw [z]
            exact ⟨by rw [hl, hml], hr'⟩
        · refine All2.snoc (al.imp fun v rs r => ?_) ⟨R, rfl, nR, nRD, by rw [upd_ne nRD]; exact hcd⟩
          obtain ⟨a, e, n1, n2, ha⟩ := r
          exact ⟨a, e, n1, n2, by rw [upd_ne n2]; exact d.but _ _ n1 ha⟩
    · rintro Hc ⟨rv, rss, hc, Dc, hMc, hrl, hro, al⟩
      exact q rss D rv Hc Dc hro hrl hD0 hc (al.imp fun v rs r => by
        obtain ⟨a, e, n1, n2, ha⟩ := r
        exact ⟨a, e, n1, ha⟩)
abbrev nGCounts : List Str := ["_law_wires", "_law_shift_here", "_law_start", "_law_end", "_law_stand"]
theorem scGCounts : FnScope nGCounts ["_law_wires", "_law_shift_here"] (defScope sGCounts) := ⟨rfl, rfl, rfl, by decide +kernel, rfl, by decide +kernel, by decide +kernel⟩
abbrev DGCounts (P : Program) (w : World) (K : PySem.W.Frag) (mg : Str → Option Value) (base : Heap) := Df P w K mg base 1 "_law_counts" ["_law_wires", "_law_shift_here"] (spGCounts K)
theorem ok_gcounts {f : Addr} {fd : FuncData} (F : Fun K "_law_counts" "_law_counts" sGCounts f fd) (hm : mg "_law_counts" = some (.ref f)) (B : Bt mg) : DGCounts P w K mg base f fd := by
  refine ⟨?_, hm, F.kp, F.binds fun _ _ _ _ _ _ us hl => match us, hl with | [_, _], _ => rfl⟩
  refine F.ok scGCounts (fun vs H Q E h => ?_) (fun cdv A outer s H vs Q E hr h => ?_)
  · obtain ⟨lw, ll, wv, ws, ls, rfl, _⟩ := h
    rfl
  · obtain ⟨lw, ll, wv, ws, ls, rfl, hwv, wa, hwl, sl, hok, q⟩ := h
    have nd := scGCounts.nd
    refine ⟨_, pss_one <| ps_ret <| pe_lc (own := [("_law_start", 2), ("_law_end", 3), ("_law_stand", 4)]) (g := gTup K 3 (gCons (gName 2) (gCons (gName 3) (gCons (gName 4) gNil)))) (tt := tYes) (te := tOp (rI0 fun i j => .int (i - j)) (tOp (rI0 fun i j => .int (i + j)) (tCB (Evl.rLenS K) (tCons (tVar 4) tNil)) (tOp (rIxL K) (tVar 1) (tVar 3))) (tOp (rIxL K) (tVar 1) (tVar 2))) rfl nd
        (pi_list (pv 0)) (blkOk_by (N := nGCounts) (sc := defScope sGCounts) (own := [("_law_start", 2), ("_law_end", 3), ("_law_stand", 4)]) (by decide +kernel))
        (fun _ _ _ _ _ => pg_tup rfl (pgs_cons (pg_name (i := 2) nd rfl (.inl rfl)) (pgs_cons (pg_name (i := 3) nd rfl (.inl rfl)) (pgs_cons (pg_name (i := 4) nd rfl (.inl rfl)) pgs_nil)))) (fun _ _ _ _ _ => pts_nil)
        (fun _ _ _ _ _ => pe_op op_sub (pe_op op_add (pe_callB call_len_seq (by rfl) B.len PySem.boot_len (pa_cons (pv 4) pa_nil)) (pe_ix ix_list (pv 1) (pv 3) (fun _ _ => rfl))) (pe_ix ix_list (pv 1) (pv 2) (fun _ _ => rfl))), ?_⟩
    have hlw : wv.length = ws.length := wa.1
    refine ⟨_, rfl, lw, rfl, ⟨_, SqL.of hwv⟩, fun D hD => ?_⟩
    refine lc_list (K := K) (a := lw) (xs := wv) (fun i Hc => Hc D = some (.lst ((cntsL (ws.take i) ls).map V.int)) ∧ Same H Hc) ⟨by rw [upd_same]; rfl, same_new hD⟩ (fun i Hc _ ⟨_, sm⟩ => SqL.of (sm _ _ hwv)) ?_ ?_
    · rintro i v Hc hv ⟨hc, sm⟩
      obtain ⟨x, hx, a, b, rfl, sq1, sq2⟩ := wa.get hv
      have hi : i < ws.length := (List.getElem?_eq_some_iff.mp hx).1
      have WX := hok x (List.mem_of_getElem? hx)
      have tk := TK.same sm
      refine ⟨a, _, rfl, tk.seq sq1, rfl, _, _, rfl, _, _, rfl, _, _, rfl, rfl, rfl, tyes ?_⟩
      refine ⟨_, rfl, b, _, rfl, .inr (tk.seq sq2), _, rfl, _, rfl, ll, _, _, _, rfl, rfl, sm.seq sl, atI_nat (getD_at WX.2), _, _, rfl, rfl, ?_⟩
      refine ⟨_, rfl, _, rfl, ll, _, _, _, rfl, rfl, sm.seq sl, atI_nat (getD_at WX.1), _, _, rfl, rfl, _, hc, ?_, ?_, same_mut sm hD⟩
      · unfold cntsL
        rw [List.length_map, List.length_map, List.length_take]
        exact small1000 (by omega)
      · rw [upd_same, List.take_add_one, hx]
        unfold cntsL
        rw [List.map_append, List.map_append, List.length_map]
        rfl
    · rintro H2 ⟨hc, sm⟩
      rw [hlw, List.take_length] at hc
      exact q D H2 sm hD hc
end
end Lag

set_option maxRecDepth 100000
set_option maxHeartbeats 8000000
namespace Lag
open PySem PySem.Spec PyProof.Rows L2
theorem LagOk.set {gs : List Gt} {ls : List Int} {k : Nat} {v : Int} (h : LagOk gs ls) (hk : Inner gs k) (v0 : -500 ≤ v) (v1 : v ≤ 500) : LagOk gs (ls.set k v) := by
  refine ⟨by rw [List.length_set]; exact h.len, fun i g l hg hl => ?_⟩
  by_cases e : k = i
  · subst e
    rw [List.getElem?_set_self (by rw [h.len]; exact hk.1)] at hl
    cases hl
    refine ⟨v0, v1, fun hp => ?_⟩
    rw [← kindAt_get hg] at hp
    rcases hp with z | z
    · exact absurd z hk.2.1
    · exact absurd z hk.2.2
  · rw [List.getElem?_set_ne e] at hl
    exact h.ok i g l hg hl
theorem mem_setI {ls : List Int} {k : Nat} {v y : Int} (h : y ∈ ls.set k v) : y ∈ ls ∨ y = v := List.mem_or_eq_of_mem_set h
def spShift (K : PySem.W.Frag) : Sp := fun vs H Q _ => ∃ (wl lg lw : Addr) (gv wv : List V) (gs : List Gt) (ws : List Wr), vs = [.ref wl, .ref lg, .ref lw] ∧ WellAt wl H ∧ lg ≠ wl ∧ lw ≠ wl ∧ H lg = some (.lst gv) ∧ All2 (GateV K H) gv gs ∧ gs.length ≤ 8 ∧ H lw = some (.lst wv) ∧ All2 (WireV K H) wv ws ∧ NetOk gs ws ∧ (∃ i, Inner gs i) ∧
  ∀ ll ls H', Dr wl H H' → H ll = none → H' ll = some (.lst (ls.map V.int)) → LagOk gs ls → LetOk ws ls → (∀ y ∈ ls, -36 ≤ y ∧ y ≤ 36) → Q (.ref ll) H'
def steps8 : List Int := [1, -1, 1, -1, 2, -2, 9, -9]
section
variable {P : Program} {w : World} {K : PySem.W.Frag} {mg : Str → Option Value} {base : Heap}
abbrev nShift : List Str := ["_law_state", "_law_gates_here", "_law_wires", "_law_shift_here", "_law_k", "_law_inner", "_law_turn", "_law_other"]
abbrev tKd4 (K : PySem.W.Frag) : TE := tOp (rIxT K) (tOp (rIxL K) (tVar 1) (tVar 4)) (tC (.int 0))
theorem scShift : FnScope nShift ["_law_state", "_law_gates_here", "_law_wires"] (defScope sShift) := ⟨rfl, rfl, rfl, by decide +kernel, rfl, by decide +kernel, by decide +kernel⟩
abbrev DShift (P : Program) (w : World) (K : PySem.W.Frag) (mg : Str → Option Value) (base : Heap) := Df P w K mg base 3 "_law_shift" ["_law_state", "_law_gates_here", "_law_wires"] (spShift K)
theorem ok_shift {f fD fO fC : Addr} {fd fdD fdO fdC : FuncData} (F : Fun K "_law_shift" "_law_shift" sShift f fd) (hm : mg "_law_shift" = some (.ref f)) (B : Bt mg) (mn : mg "min" = none) (DD : DDraw P w K mg base fD fdD) (DO : DOf P w K mg base fO fdO) (DC : DGCounts P w K mg base fC fdC) : DShift P w K mg base f fd := by
  refine ⟨?_, hm, F.kp, F.binds fun _ _ _ _ _ _ us hl => match us, hl with | [_, _, _], _ => rfl⟩
  refine F.ok scShift (fun vs H Q E h => ?_) (fun cdv A outer s H vs Q E hr h => ?_)
  · obtain ⟨wl, lg, lw, gv, wv, gs, ws, rfl, _⟩ := h
    rfl
  · obtain ⟨wl, lg, lw, gv, wv, gs, ws, rfl, hw, nlg, nlw, hlg, ga, hgl, hlw, wa, N, ⟨i0, hi0⟩, q⟩ := h
    have nd := scShift.nd
    have hr1 : Room 1 _ := hr.mono (by decide)
    refine ⟨_, pss_cons (ps_set (i := 3) nd rfl (.inl rfl) (pe_op op_rep (pe_lst (pa_cons pe_int pa_nil)) (pe_callB call_len_seq (by rfl) B.len PySem.boot_len (pa_cons (pv 1) pa_nil)))) <|
      pss_cons (ps_setLc (i := 5) (own := [("_law_k", 4)]) (g := gName 4) (tt := tTest (tOp (rIn K true) (tKd4 K) (tLst (tCons (tC (.str "in")) (tCons (tC (.str "out")) tNil))))) (te := tVar 4) rfl nd rfl rfl (sw_true rfl rfl rfl (by decide +kernel)) (pi_range1 (by rfl) B.range (pa_cons (pe_callB call_len_seq (by rfl) B.len PySem.boot_len (pa_cons (pv 1) pa_nil)) pa_nil)) (blkOk_by (N := nShift) (sc := defScope sShift) (own := [("_law_k", 4)]) (by decide +kernel)) (fun _ _ _ _ _ => pg_name (i := 4) nd rfl (.inl rfl))
        (fun _ _ _ _ _ => pts_one (pt_cmpR op_notIn_seq (pe_ix ix_tup (pe_ix ix_list (pv 1) (pv 4) (fun _ _ => rfl)) pe_int (fun _ _ => rfl)) (pe_lst (pa_cons pe_str (pa_cons pe_str pa_nil))) (by rfl))) (fun _ _ _ _ _ => pv 4)) <|
      pss_cons (ps_for PassesOwn.never rfl (pi_range1 (by rfl) B.range (pa_cons (pe_op op_add pe_int (pe_call DD.ok hr1 (by rfl) DD.mg DD.kp DD.bd .nil pass0 (pa_cons (pv 0) (pa_cons pe_int pa_nil)))) pa_nil)) (pg_name (i := 6) nd rfl (.inl rfl)) <|
        pss_cons (ps_set (i := 4) nd rfl (.inl rfl) (pe_call DO.ok hr (by rfl) DO.mg DO.kp DO.bd .nil pass0 (pa_cons (pv 0) (pa_cons (pv 5) pa_nil)))) <|
        pss_cons (ps_set (i := 7) nd rfl (.inl rfl) (pe_op op_cat (pe_op op_cat (pe_slice sl_list (pv 3) po_none (po_some (pv 4))) (pe_lst (pa_cons (pe_op op_add (pe_ix ix_list (pv 3) (pv 4) (fun _ _ => rfl)) (pe_call DO.ok hr (by rfl) DO.mg DO.kp DO.bd .nil pass0 (pa_cons (pv 0) (pa_cons (pe_lst (pa_cons pe_int (pa_cons (pe_un un_neg pe_int) (pa_cons pe_int (pa_cons (pe_un un_neg pe_int) (pa_cons pe_int (pa_cons (pe_un un_neg pe_int) (pa_cons pe_int (pa_cons (pe_un un_neg pe_int) pa_nil))))))))) pa_nil)))) pa_nil))) (pe_slice sl_list (pv 3) (po_some (pe_op op_add (pv 4) pe_int)) po_none))) <|
        pss_one <| ps_if (pt_cmpR op_eq (pe_callB (cr_min rfl) (by rfl) mn (by decide +kernel) (pa_cons (pe_op op_cat (pe_lst (pa_cons pe_int pa_nil)) (pe_call DC.ok hr1 (by rfl) DC.mg DC.kp DC.bd .nil pass0 (pa_cons (pv 2) (pa_cons (pv 7) pa_nil)))) pa_nil)) pe_int (nomark _)) (pss_one (ps_set (i := 3) nd rfl (.inl rfl) (pv 7))) pss_nil) <|
      pss_one <| ps_ret (pv 3), ?_⟩
    have hgv : gv.length = gs.length := ga.1
    have hwl := N.wl
    -- [0] * len(gates)
    refine ⟨(by show 1 ≤ sizeLine; decide), fun l1 hl1 => ?_⟩
    have s1 : Same H (upd H l1 (.lst [.int 0])) := same_new hl1
    have e1 : (upd H l1 (.lst [.int 0])) l1 = some (.lst [.int 0]) := upd_same
    generalize upd H l1 (.lst [.int 0]) = H1 at s1 e1
    refine ⟨_, rfl, lg, gv, rfl, .inl (SqL.of (s1 _ _ hlg)), l1, _, _, rfl, rfl, e1, by omega, by omega, ?_, fun l2 hl2 => ?_⟩
    · rw [Int.toNat_natCast]
      show 1 * _ ≤ sizeLine
      exact Nat.le_of_lt (small1000 (by omega))
    rw [Int.toNat_natCast, rep_flat']
    have ez : List.replicate gv.length (V.int 0) = (List.replicate gs.length (0 : Int)).map V.int := by
      rw [List.map_replicate, hgv]
    rw [ez]
    have s2 := s1.trans (same_new (o := .lst ((List.replicate gs.length (0 : Int)).map V.int)) hl2)
    have hl20 : H l2 = none := s1.free hl2
    have e2 : (upd H1 l2 (.lst ((List.replicate gs.length (0 : Int)).map V.int))) l2 = some (.lst ((List.replicate gs.length (0 : Int)).map V.int)) := upd_same
    generalize upd H1 l2 (.lst ((List.replicate gs.length (0 : Int)).map V.int)) = H2 at s2 e2
    refine gn_norm (σ' := [some (.ref wl), some (.ref lg), some (.ref lw), some (.ref l2), none, none, none, none]) rfl ?_
    -- inner
    refine ⟨_, rfl, lg, gv, rfl, .inl (SqL.of (s2 _ _ hlg)), _, rfl, by rw [hgv]; omega, by rw [hgv]; omega, fun l3 hl3 => ?_⟩
    rw [hgv, Int.toNat_natCast]
    have W2 : WellAt wl H2 := hw.same s2
    have n3 : l3 ≠ wl := (W2.ne hl3).symm
    refine lc_range (lo := 0) (n := gs.length) (fun i Hc => ∃ en : List Nat, Hc l3 = some (.lst (natV en)) ∧ (∀ k ∈ en, Inner gs k) ∧ (i0 < i → i0 ∈ en) ∧ en.length ≤ i ∧ Same H2 Hc) ⟨[], upd_same, fun k hk => by simp at hk, fun h => absurd h (by omega), by simp, same_new hl3⟩ ?_ ?_
    · rintro i Hc hi ⟨st, hc, hok, hin, hln, sm⟩
      have ei : (0 : Int) + (i : Nat) = ((i : Nat) : Int) := Int.zero_add _
      rw [ei]
      obtain ⟨g, hg⟩ : ∃ g, gs[i]? = some g := ⟨_, List.getElem?_eq_getElem hi⟩
      obtain ⟨v, hv, a, rfl, sq⟩ := ga.getR hg
      have hk := kindAt_get hg
      have s1c := s2.trans sm
      refine ⟨rfl, ?_⟩
      refine ⟨_, rfl, _, rfl, lg, gv, _, _, rfl, rfl, SqL.of (s1c _ _ hlg), atI_nat hv, a, _, _, .str g.1, rfl, rfl, (TK.same s1c).seq sq, atI_nat (j := 0) rfl, (by show 2 ≤ sizeLine; decide), fun l4 hl4 => ?_⟩
      have s4 : Same Hc (upd Hc l4 (.lst [.str "in", .str "out"])) := same_new hl4
      have e4 : (upd Hc l4 (.lst [.str "in", .str "out"])) l4 = some (.lst [.str "in", .str "out"]) := upd_same
      generalize upd Hc l4 (.lst [.str "in", .str "out"]) = H4 at s4 e4
      refine ⟨l4, _, rfl, .inl (SqL.of e4), rfl, rfl, _, rfl, ?_⟩
      rw [show (if true = true then !inV (V.str g.1) [V.str "in", V.str "out"] else inV (V.str g.1) [V.str "in", V.str "out"]) = innP g.1 from port_notin]
      have hc4 := s4 _ _ hc
      refine ite2 (fun e => ?_) (fun e => ?_)
      · have hko := inn_port.mp e
        refine ⟨_, rfl, _, hc4, by rw [List.length_map]; exact small1000 (by omega), st ++ [i], ?_, fun k hk' => ?_, fun h => ?_, by rw [List.length_append]; show _ + 1 ≤ _; omega, same_mut (sm.trans s4) hl3⟩
        · rw [upd_same]
          show _ = some (HO.lst (List.map _ (_ ++ _)))
          rw [List.map_append]
          rfl
        · rcases List.mem_append.mp hk' with z | z
          · exact hok k z
          · rw [List.mem_singleton] at z
            rw [z]
            exact ⟨hi, by rw [hk]; exact fun z => hko (.inl z), by rw [hk]; exact fun z => hko (.inr z)⟩
        · rcases Nat.lt_or_eq_of_le (Nat.le_of_lt_succ h) with z | z
          · exact List.mem_append.mpr (.inl (hin z))
          · exact List.mem_append.mpr (.inr (by rw [z]; simp))
      · refine ⟨st, hc4, hok, fun h => ?_, by omega, sm.trans s4⟩
        rcases Nat.lt_or_eq_of_le (Nat.le_of_lt_succ h) with z | z
        · exact hin z
        · exfalso
          apply e
          rw [inn_port]
          rintro (y | y)
          · exact hi0.2.1 (by rw [z, hk, y])
          · exact hi0.2.2 (by rw [z, hk, y])
    rintro H3 ⟨en, e3, eok, ein, eln, sm3⟩
    have hen : i0 ∈ en := ein hi0.1
    have henne : natV en ≠ [] := fun z => by
      have := List.map_eq_nil_iff.mp z
      rw [this] at hen
      simp at hen
    refine gn_norm (σ' := [some (.ref wl), some (.ref lg), some (.ref lw), some (.ref l2), none, some (.ref l3), none, none]) rfl ?_
    have s03 := s2.trans sm3
    have D3 : Dr wl H H3 := ⟨But.same s03, hw.same s03⟩
    refine ⟨_, rfl, wl, 4, rfl, by decide, by decide, D3.well, fun c H4 c0 c1 E4 => ⟨_, _, rfl, rfl, _, rfl, by omega, by omega, ?_⟩⟩
    have n2 : l2 ≠ wl := (hw.ne hl20).symm
    refine for_range (lo := 0) (n := (1 + c).toNat) (fun i σ H5 => ∃ (s4 s6 s7 : Option V) (ll : Addr) (ls : List Int), σ = [some (.ref wl), some (.ref lg), some (.ref lw), some (.ref ll), s4, some (.ref l3), s6, s7] ∧ Dr wl H H5 ∧ H5 l3 = some (.lst (natV en)) ∧ H ll = none ∧ H5 ll = some (.lst (ls.map V.int)) ∧ LagOk gs ls ∧ LetOk ws ls ∧ ∀ y ∈ ls, -(9 * (i : Int)) ≤ y ∧ y ≤ 9 * (i : Int))
      ⟨_, _, _, l2, List.replicate gs.length 0, rfl, D3.trans E4, E4.but _ _ n3 e3, hl20, E4.but _ _ n2 (sm3 _ _ e2), ⟨List.length_replicate .., fun i g l hg hl => ?_⟩, fun y hy => ?_, fun y hy => ?_⟩ ?_ ?_
    · have := List.eq_of_mem_replicate (List.mem_of_getElem? hl)
      rw [this]
      exact ⟨by decide, by decide, fun _ => rfl⟩
    · obtain ⟨x, hx, rfl⟩ := List.mem_map.mp hy
      have z : ∀ g, (List.replicate gs.length (0 : Int)).getD g 0 = 0 := fun g => by
        rw [List.getD_eq_getElem?_getD]
        cases e : (List.replicate gs.length (0 : Int))[g]? with
        | none => rfl
        | some y => exact List.eq_of_mem_replicate (List.mem_of_getElem? e)
      rw [z, z]
      omega
    · rw [List.eq_of_mem_replicate hy]
      exact ⟨by decide, by decide⟩
    · rintro i σ H5 hi ⟨s4, s6, s7, ll, ls, rfl, D5, e5, hll, els, lok, let_, bd⟩
      have hi4 : i ≤ 3 := by omega
      have nll : ll ≠ wl := (hw.ne hll).symm
      have hls := lok.len
      refine ⟨_, rfl, _, rfl, wl, l3, _, rfl, n3, D5.well, SqL.of e5, henne, by rw [List.length_map]; omega, fun v H6 hv E6 => ?_⟩
      obtain ⟨k, hk, rfl⟩ := List.mem_map.mp hv
      have hin := eok k hk
      have D6 := D5.trans E6
      have e56 := E6.but _ _ n3 e5
      have els6 := E6.but _ _ nll els
      have hkl : k < ls.length := by rw [hls]; exact hin.1
      refine gn_norm (σ' := [some (.ref wl), some (.ref lg), some (.ref lw), some (.ref ll), some (.int (k : Nat)), some (.ref l3), some (.int (0 + (i : Nat))), s7]) rfl ?_
      -- other
      refine ⟨_, rfl, _, rfl, _, rfl, ll, _, rfl, SqL.of els6, fun l7 hl7 => ?_⟩
      rw [cut_to, ← List.map_take]
      have E7 := Dr.new (o := .lst ((ls.take k).map V.int)) D6.well hl7
      have n7 : l7 ≠ wl := (D6.well.ne hl7).symm
      have e7 : (upd H6 l7 (.lst ((ls.take k).map V.int))) l7 = some (.lst ((ls.take k).map V.int)) := upd_same
      generalize upd H6 l7 (.lst ((ls.take k).map V.int)) = H7 at E7 e7
      refine ⟨_, rfl, _, rfl, ll, _, _, _, rfl, rfl, SqL.of (E7.but _ _ nll els6), atI_nat (getD_at hkl), ?_⟩
      refine ⟨_, rfl, _, rfl, _, rfl, _, rfl, _, rfl, (by show 8 ≤ sizeLine; decide), fun l8 hl8 => ?_⟩
      have n8 : l8 ≠ wl := (E7.well.ne hl8).symm
      have E8 := Dr.new (o := .lst (steps8.map V.int)) E7.well hl8
      have e8 : (upd H7 l8 (.lst (steps8.map V.int))) l8 = some (.lst (steps8.map V.int)) := upd_same
      refine ⟨wl, l8, steps8.map V.int, rfl, n8, E8.well, SqL.of e8, by decide +kernel, by decide +kernel, fun v H9 hv9 E9 => ?_⟩
      obtain ⟨d, hd, rfl⟩ := List.mem_map.mp hv9
      have hdb : -9 ≤ d ∧ d ≤ 9 := by
        have : ∀ d ∈ steps8, -9 ≤ d ∧ d ≤ 9 := by decide +kernel
        exact this d hd
      have E79 := (E7.trans E8).trans E9
      have E89 := E8.trans E9
      refine ⟨_, _, rfl, rfl, (by show 1 ≤ sizeLine; decide), fun l10 hl10 => ?_⟩
      have E10 := Dr.new (o := .lst [.int (ls.getD k 0 + d)]) E9.well hl10
      have n10 : l10 ≠ wl := (E9.well.ne hl10).symm
      have e10 : (upd H9 l10 (.lst [.int (ls.getD k 0 + d)])) l10 = some (.lst [.int (ls.getD k 0 + d)]) := upd_same
      generalize upd H9 l10 (.lst [.int (ls.getD k 0 + d)]) = H10 at E10 e10
      have e7' := (E89.trans E10).but _ _ n7 e7
      refine ⟨l7, l10, _, _, rfl, rfl, e7', e10, ?_, fun l11 hl11 => ?_⟩
      · rw [List.length_map, List.length_take]
        exact Nat.le_of_lt (small1000 (by show _ + 1 ≤ 1000; omega))
      have E11 := Dr.new (o := .lst ((ls.take k).map V.int ++ [.int (ls.getD k 0 + d)])) E10.well hl11
      have n11 : l11 ≠ wl := (E10.well.ne hl11).symm
      have e11 : (upd H10 l11 (.lst ((ls.take k).map V.int ++ [.int (ls.getD k 0 + d)]))) l11 = some (.lst ((ls.take k).map V.int ++ [.int (ls.getD k 0 + d)])) := upd_same
      generalize upd H10 l11 (.lst ((ls.take k).map V.int ++ [.int (ls.getD k 0 + d)])) = H11 at E11 e11
      have E611 := (E79.trans E10).trans E11
      refine ⟨_, rfl, _, rfl, _, _, rfl, rfl, _, rfl, ll, _, rfl, SqL.of (E611.but _ _ nll els6), fun l12 hl12 => ?_⟩
      have ec : cutV (ls.map V.int) (some ((k : Nat) + 1 : Int)) none = (ls.drop (k + 1)).map V.int := by
        have := cut_from (xs := ls.map V.int) (k + 1)
        rw [List.map_drop]
        exact this
      rw [ec]
      have E12 := Dr.new (o := .lst ((ls.drop (k + 1)).map V.int)) E11.well hl12
      have e12 : (upd H11 l12 (.lst ((ls.drop (k + 1)).map V.int))) l12 = some (.lst ((ls.drop (k + 1)).map V.int)) := upd_same
      generalize upd H11 l12 (.lst ((ls.drop (k + 1)).map V.int)) = H12 at E12 e12
      refine ⟨l11, l12, _, _, rfl, rfl, E12.but _ _ n11 e11, e12, ?_, fun lo hlo => ?_⟩
      · rw [List.length_append, List.length_map, List.length_map, List.length_take, List.length_drop]
        exact Nat.le_of_lt (small1000 (by show _ + 1 + _ ≤ 1000; omega))
      have eset : (ls.take k).map V.int ++ [.int (ls.getD k 0 + d)] ++ (ls.drop (k + 1)).map V.int = (ls.set k (ls.getD k 0 + d)).map V.int := by
        rw [List.set_eq_take_append_cons_drop, if_pos hkl, List.map_append, List.map_cons, List.append_assoc]
        rfl
      rw [eset]
      have E612 := E611.trans E12
      have E13 := E612.trans (Dr.new (o := .lst ((ls.set k (ls.getD k 0 + d)).map V.int)) E612.well hlo)
      have D13 := D6.trans E13
      have hlo0 : H lo = none := (D6.trans E612).free hw hlo
      have nlo : lo ≠ wl := (hw.ne hlo0).symm
      have e13 : (upd H12 lo (.lst ((ls.set k (ls.getD k 0 + d)).map V.int))) lo = some (.lst ((ls.set k (ls.getD k 0 + d)).map V.int)) := upd_same
      generalize upd H12 lo (.lst ((ls.set k (ls.getD k 0 + d)).map V.int)) = H13 at E13 D13 e13
      refine gn_norm (σ' := [some (.ref wl), some (.ref lg), some (.ref lw), some (.ref ll), some (.int (k : Nat)), some (.ref l3), some (.int (0 + (i : Nat))), some (.ref lo)]) rfl ?_
      have hbk : -(9 * (i : Int)) ≤ ls.getD k 0 ∧ ls.getD k 0 ≤ 9 * (i : Int) := by
        refine bd _ ?_
        rw [List.getD_eq_getElem?_getD, List.getElem?_eq_getElem hkl]
        exact List.getElem_mem hkl
      have lok' : LagOk gs (ls.set k (ls.getD k 0 + d)) := lok.set hin (by omega) (by omega)
      generalize hL' : ls.set k (ls.getD k 0 + d) = ls' at e13 lok'
      -- the test
      refine ⟨(by show 1 ≤ sizeLine; decide), fun l14 hl14 => ?_⟩
      have s14 : Same H13 (upd H13 l14 (.lst [.int 0])) := same_new hl14
      have e14 : (upd H13 l14 (.lst [.int 0])) l14 = some (.lst [.int 0]) := upd_same
      generalize upd H13 l14 (.lst [.int 0]) = H14 at s14 e14
      refine ⟨_, rfl, _, rfl, lw, lo, wv, ws, ls', rfl, s14 _ _ (D13.but _ _ nlw hlw), wa.imp fun _ _ r => r.tk ((TK.dr hw D13.but).trans (TK.same s14)), hwl, SqL.of (s14 _ _ e13), fun x hx => ?_, fun l15 H15 s15 hl15 e15 => ?_⟩
      · rw [lok'.len]
        exact ⟨(N.wok x hx).s, (N.wok x hx).e⟩
      refine ⟨l14, l15, _, _, rfl, rfl, s15 _ _ e14, e15, ?_, fun l16 hl16 => ?_⟩
      · unfold cntsL
        rw [List.length_map, List.length_map]
        show 1 + _ ≤ 2 ^ 24
        omega
      have s16 : Same H15 (upd H15 l16 (.lst ([.int 0] ++ (cntsL ws ls').map V.int))) := same_new hl16
      have e16 : (upd H15 l16 (.lst ([.int 0] ++ (cntsL ws ls').map V.int))) l16 = some (.lst ((0 :: cntsL ws ls').map V.int)) := upd_same
      generalize upd H15 l16 (.lst ([.int 0] ++ (cntsL ws ls').map V.int)) = H16 at s16 e16
      have S := s14.trans (s15.trans s16)
      have D16 : Dr wl H H16 := ⟨D13.but.trans (But.same S), D13.well.same S⟩
      have E616 : Dr wl H6 H16 := ⟨E13.but.trans (But.same S), D16.well⟩
      refine ⟨l16, _, rfl, SqL.of e16, by simp, fun mm hmm hmm2 => ?_⟩
      refine ⟨rfl, _, rfl, ite2 (fun e => ?_) (fun e => ?_)⟩
      · have h0 : mm = 0 := V.int.inj (of_decide_eq_true e)
        refine ⟨_, rfl, _, _, _, lo, ls', rfl, D16, E616.but _ _ n3 e56, hlo0, S _ _ e13, lok', fun y hy => ?_, fun y hy => ?_⟩
        · have := hmm2 y (List.mem_cons_of_mem _ hy)
          omega
        · rw [← hL'] at hy
          rcases mem_setI hy with z | z
          · have := bd y z
            omega
          · omega
      · refine ⟨_, _, _, ll, ls, rfl, D16, E616.but _ _ n3 e56, hll, E616.but _ _ nll els6, lok, let_, fun y hy => ?_⟩
        have := bd y hy
        omega
    · rintro σ H5 ⟨s4, s6, s7, ll, ls, rfl, D5, e5, hll, els, lok, let_, bd⟩
      refine ⟨_, rfl, q ll ls H5 D5 hll els lok let_ fun y hy => ?_⟩
      have := bd y hy
      omega
end
end Lag

set_option maxRecDepth 100000
set_option maxHeartbeats 8000000
namespace Lag
open PySem PySem.Spec PyProof.Rows L2
/-- whole numbers, as data -/
def numsD (l : List Int) : PyData := .list (l.map PyData.int)
theorem numsD_eq (a b : List Int) : PyData.eqv (numsD a) (numsD b) = decide (a = b) := eqvAll_map (fun x y => intD_eq x y) a b
theorem sh_nums (l : List Int) : Sh 1 (numsD l) := by
  refine sh_list fun d hd => ?_
  obtain ⟨i, _, rfl⟩ := List.mem_map.mp hd
  exact sh_int _
theorem dp_nums {K : PySem.W.Frag} {H : Hp} {l : Addr} {xs : List Int} (h : SqL K H l (xs.map V.int)) : Dp K H (.ref l) (numsD xs) := .lst h (ints_dp xs)
def tupD (l : List Int) : PyData := .tuple (l.map PyData.int)
theorem tupD_eq (a b : List Int) : PyData.eqv (tupD a) (tupD b) = decide (a = b) := eqvAll_map (fun x y => intD_eq x y) a b
theorem sh_tup (l : List Int) : Sh 1 (tupD l) := by
  refine sh_tuple fun d hd => ?_
  obtain ⟨i, _, rfl⟩ := List.mem_map.mp hd
  exact sh_int _
theorem dp_tup {K : PySem.W.Frag} {H : Hp} {l : Addr} {xs : List Int} (h : SqT K H l (xs.map V.int)) : Dp K H (.ref l) (tupD xs) := .tup h (ints_dp xs)
def rowsD (l : List (List Int)) : PyData := .list (l.map numsD)
theorem rowsD_eq (a b : List (List Int)) : PyData.eqv (rowsD a) (rowsD b) = decide (a = b) := eqvAll_map numsD_eq a b
theorem sh_rows (l : List (List Int)) : Sh 2 (rowsD l) := by
  refine sh_list fun d hd => ?_
  obtain ⟨i, _, rfl⟩ := List.mem_map.mp hd
  exact sh_nums i
theorem RowV.dp {K : PySem.W.Frag} {H : Hp} {v : V} {rs : List Int} (h : RowV K H v rs) : Dp K H v (numsD rs) := by
  obtain ⟨a, rfl, q⟩ := h
  exact dp_nums q
theorem RR.dp {K : PySem.W.Frag} {H : Hp} {l : Addr} {xss : List (List Int)} (h : RR K H l xss) : Dp K H (.ref l) (rowsD xss) := by
  obtain ⟨vs, q, a⟩ := h
  exact .lst q (dp_all (fun _ _ r => r.dp) a)
theorem LL.rv {K : PySem.W.Frag} {H0 H : Hp} {l : Addr} {xss : List (List Int)} {as : List Addr} (h : LL H0 H l xss as) : All2 (RowV K H) (as.map V.ref) xss := by
  refine ⟨by rw [List.length_map]; exact h.al.1, fun i v xs hv hx => ?_⟩
  rw [List.getElem?_map] at hv
  cases e : as[i]? with
  | none =>
    rw [e] at hv
    cases hv
  | some a =>
    rw [e] at hv
    cases hv
    exact ⟨a, rfl, SqL.of (h.al.2 i a xs e hx)⟩
theorem Run.lens {gs : List Gt} : ∀ {rss : List (List Int)} {ws we : List Wr} {tss : List (List Int)}, Run gs ws rss tss we → ∀ ts ∈ tss, ts.length = gs.length
  | [], _, _, _, h, ts, hts => by
    rw [h.1] at hts
    cases hts
  | r :: rss, _, _, _, h, ts, hts => by
    obtain ⟨t, tl, h1, h2, _, h4⟩ := h
    rw [h1] at hts
    rcases List.mem_cons.mp hts with e | hts
    · rw [e]
      exact h2.len
    · exact Run.lens h4 ts hts
theorem first_self {K : PySem.W.Frag} (C : Addr) : PySem.W.notFirst K C (.ref C) = true := by simp [PySem.W.notFirst]
structure NC (P : Program) (w : World) (K : PySem.W.Frag) (mg : Str → Option Value) (base : Heap) (C fI fE fO : Addr) (fdI fdE fdO : FuncData) : Prop where
  T : NT K mg C
  Y : NTy K C
  mk0 : Mk K C fI
  init : FnOk P w K mg base CX0 6 fI fdI ["self", "gates", "wires"] (spInit K C)
  bI : Binds K fdI ["self", "gates", "wires"] []
  eq : FnOk P w K mg base CX0 1 fE fdE ["self", "other"] (spEqN K C)
  sE : PySem.W.findIn K (.ref C) "__eq__" = some (some (.ref fE))
  fnE : PySem.W.isFn K (.ref fE) = true
  bE : Binds K fdE ["self", "other"] []
  sN : PySem.W.findIn K (.ref C) "__ne__" = some (some (.builtin "object.__ne__"))
  outs : FnOk P w K mg base CX0 2 fO fdO ["self"] (spPorts K C "out")
  mO : Meth K C "outs" fO
  bO : Binds K fdO ["self"] []
def spLaw (K : PySem.W.Frag) : Sp := fun vs H Q _ => ∃ (a : Addr) (ns : List Int), vs = [.ref a] ∧ SqL K H a (ns.map V.int) ∧ ns.length ≤ 63 ∧ ∀ H', Q (.bl true) H'
theorem mem_cut {xs : List V} {lo hi : Option Int} {v : V} (h : v ∈ cutV xs lo hi) : v ∈ xs := by
  unfold cutV at h
  exact List.mem_of_mem_drop (List.mem_of_mem_take h)
/-! ### moved twice -/
theorem RunPre {gs : List Gt} {ws we we' : List Wr} {r1 r2 tss tss' : List (List Int)} (N : NetOk gs ws) (hr : ∀ rs ∈ r1, RowOk gs rs) (h : Run gs ws (r1 ++ r2) tss we) (h' : Run gs ws r1 tss' we') : ∃ t2, tss = tss' ++ t2 := by
  obtain ⟨t1, t2, wm, e, a, b⟩ := h.cut
  obtain ⟨e1, _⟩ := Run.unique N hr a h'
  exact ⟨t2, by rw [e, e1]⟩
theorem wAt_pre {t1 t2 : List (List Int)} {t g : Nat} (h : t < t1.length) : wAt (t1 ++ t2) t g = wAt t1 t g := by
  have : (t1 ++ t2).getD t [] = t1.getD t [] := by
    rw [List.getD_eq_getElem?_getD, List.getElem?_append_left h, ← List.getD_eq_getElem?_getD]
  unfold wAt
  rw [this]
theorem wAt_post {t1 t2 : List (List Int)} {t g : Nat} : wAt (t1 ++ t2) (t1.length + t) g = wAt t2 t g := by
  have : (t1 ++ t2).getD (t1.length + t) [] = t2.getD t [] := by
    rw [List.getD_eq_getElem?_getD, List.getElem?_append_right (by omega), Nat.add_sub_cancel_left, ← List.getD_eq_getElem?_getD]
  unfold wAt
  rw [this]
theorem getDL {l : List (List Int)} {t : Nat} (h : t < l.length) : l.getD t [] = l[t] := by
  rw [List.getD_eq_getElem?_getD, List.getElem?_eq_getElem h]
  rfl
structure Mv (gs : List Gt) (ws : List Wr) (L : Nat → Int) (rss : List (List Int)) (ws1 : List Wr) : Prop where
  let_ : LetL gs ws L
  ro : ∀ rs ∈ rss, RowOk gs rs
  t : ∀ g, g < gs.length → L g ≤ rss.length
  ok : NetOk gs ws1
  ex : ∃ m tss we, Run gs ws (rss ++ List.replicate m (zeroRow gs)) tss we ∧ (∀ g, g < gs.length → -L g ≤ (m : Int)) ∧ ws1 = ws.map (mvW tss rss.length L)
theorem rep_ok (gs : List Gt) (m : Nat) : ∀ rs ∈ List.replicate m (zeroRow gs), RowOk gs rs := fun rs h => by
  rw [List.eq_of_mem_replicate h]
  exact zeroRow_ok gs
theorem app_ok {gs : List Gt} {a b : List (List Int)} (h : ∀ rs ∈ a, RowOk gs rs) (h' : ∀ rs ∈ b, RowOk gs rs) : ∀ rs ∈ a ++ b, RowOk gs rs := fun rs hr => by
  rcases List.mem_append.mp hr with z | z
  · exact h rs z
  · exact h' rs z
/-- over any rows behind -/
theorem Mv.over {gs : List Gt} {ws ws1 : List Wr} {L : Nat → Int} {rss : List (List Int)} (N : NetOk gs ws) (h : Mv gs ws L rss ws1) (xss : List (List Int)) (hx : ∀ rs ∈ xss, RowOk gs rs) (M : Nat) : ∃ m tss we, M ≤ m ∧ Run gs ws (rss ++ xss ++ List.replicate m (zeroRow gs)) tss we ∧ (∀ g, g < gs.length → -L g ≤ (m : Int)) ∧ ws1 = ws.map (mvW tss rss.length L) := by
  obtain ⟨m0, tss0, we0, hr0, hm0, e0⟩ := h.ex
  obtain ⟨tss, we, hr⟩ := N.run (rss ++ xss ++ List.replicate (m0 + M) (zeroRow gs)) (app_ok (app_ok h.ro hx) (rep_ok gs _))
  refine ⟨m0 + M, tss, we, by omega, hr, fun g hg => by have := hm0 g hg; omega, ?_⟩
  rw [e0]
  refine mvW_early N h.let_ (app_ok h.ro (rep_ok gs _)) hr0 hr (fun t ht => ?_) ⟨h.t, fun g hg => ?_⟩ ⟨h.t, fun g hg => ?_⟩
  · rw [List.getElem?_append_left ht, List.append_assoc, List.getElem?_append_left ht]
  · have := hm0 g hg
    rw [List.length_append, List.length_replicate]
    omega
  · have := hm0 g hg
    rw [List.length_append, List.length_append, List.length_replicate]
    omega
theorem Mv.twice {gs : List Gt} {ws ws1 ws2 wsb : List Wr} {L1 L2 Lb : Nat → Int} {r1 r2 : List (List Int)} (N : NetOk gs ws) (h1 : Mv gs ws L1 r1 ws1) (h2 : Mv gs ws1 L2 r2 ws2) (eL : ∀ g, Lb g = L1 g + L2 g) (hb : Mv gs ws Lb (r1 ++ r2) wsb) : ws2 = wsb := by
  obtain ⟨m2, uss, ue, hu, hm2, e2⟩ := h2.ex
  obtain ⟨mb, tb, web, hrb, hmb, eb⟩ := hb.ex
  obtain ⟨m, tss, we, hmm, hr, hm1, e1⟩ := h1.over N (r2 ++ List.replicate m2 (zeroRow gs)) (app_ok h2.ro (rep_ok gs _)) mb
  have hlx : (r2 ++ List.replicate m2 (zeroRow gs)).length = r2.length + m2 := by rw [List.length_append, List.length_replicate]
  have eb2 : wsb = ws.map (mvW tss (r1 ++ r2).length Lb) := by
    rw [eb]
    refine mvW_early N hb.let_ (app_ok hb.ro (rep_ok gs _)) hrb hr (fun t ht => ?_) ⟨hb.t, fun g hg => ?_⟩ ⟨hb.t, fun g hg => ?_⟩
    · rw [List.getElem?_append_left ht, ← List.append_assoc, List.append_assoc, List.getElem?_append_left ht]
    · have := hmb g hg
      simp only [List.length_append, List.length_replicate]
      omega
    · have := hmb g hg
      simp only [List.length_append, List.length_replicate]
      omega
  rw [e2, eb2, e1, List.map_map]
  refine List.map_congr_left fun x hx => ?_
  have W := N.wok x hx
  have hc1 := h1.let_.c x hx
  have ht1 := h1.t x.2.1 W.e
  have ht2 := h2.t x.2.1 W.e
  have hm2s := hm2 x.1 W.s
  have eLs := eL x.1
  have eLe := eL x.2.1
  have hcb := hb.let_.c x hx
  have en1 : Enough gs r1.length (r1 ++ (r2 ++ List.replicate m2 (zeroRow gs)) ++ List.replicate m (zeroRow gs)).length L1 := ⟨h1.t, fun g hg => by
    have := hm1 g hg
    rw [List.length_append, List.length_append, List.length_replicate]
    omega⟩
  have enb : Enough gs (r1 ++ r2).length (r1 ++ (r2 ++ List.replicate m2 (zeroRow gs)) ++ List.replicate m (zeroRow gs)).length Lb := ⟨hb.t, fun g hg => by
    have := hmb g hg
    simp only [List.length_append, List.length_replicate]
    omega⟩
  have en2 : Enough gs r2.length (r2 ++ List.replicate m2 (zeroRow gs)).length L2 := ⟨h2.t, fun g hg => by
    have := hm2 g hg
    rw [hlx]
    omega⟩
  have l1 := mvW_len N h1.let_ hr en1 hx
  have N1 : NetOk gs (ws.map (mvW tss r1.length L1)) := e1 ▸ h1.ok
  rw [e1] at hu
  have hl2 : LetL gs (ws.map (mvW tss r1.length L1)) L2 := e1 ▸ h2.let_
  have l2 := mvW_len N1 hl2 hu en2 (List.mem_map.mpr ⟨x, hx, rfl⟩)
  have lb := mvW_len N hb.let_ hr enb hx
  have c2 : cnW L2 (mvW tss r1.length L1 x) = cnW Lb x := by
    unfold cnW
    rw [l1]
    show (((cnW L1 x : Nat) : Int) + L2 x.2.1 - L2 x.1).toNat = _
    unfold cnW
    omega
  show mvW uss r2.length L2 (mvW tss r1.length L1 x) = mvW tss (r1 ++ r2).length Lb x
  refine Prod.ext rfl (Prod.ext rfl (ext_getD (by rw [l2, lb, c2]) fun j hj => ?_))
  rw [l2] at hj
  rw [mvW_get hj, mvW_get (by rw [← c2]; exact hj)]
  have hjj := hj
  rw [c2] at hjj
  unfold cnW at hjj
  have eo : ofW r2.length L2 (mvW tss r1.length L1 x) = ((r2.length : Int) - L2 x.2.1).toNat := rfl
  rw [Run.retimedR N h1.let_ (app_ok h2.ro (rep_ok gs _)) hr h1.t (fun g hg => by rw [List.length_replicate]; exact hm1 g hg) N1 hu hx (by rw [hlx, eo]; unfold cnW; omega)]
  congr 1
  rw [eo]
  unfold ofW
  rw [List.length_append]
  omega
theorem Mv.outs {gs : List Gt} {ws ws1 we2 wea : List Wr} {L1 : Nat → Int} {r1 r2 t1 vss ta : List (List Int)} {we1 : List Wr} (N : NetOk gs ws) (h1 : Mv gs ws L1 r1 ws1) (hx : ∀ rs ∈ r2, RowOk gs rs) (ht1 : Run gs ws r1 t1 we1) (hv : Run gs ws1 r2 vss we2) (ha : Run gs ws (r1 ++ r2) ta wea) : ta.map (outsOf gs) = t1.map (outsOf gs) ++ vss.map (outsOf gs) := by
  obtain ⟨m, tss, we, _, hr, hm1, e1⟩ := h1.over N r2 hx 0
  obtain ⟨tz, ez⟩ := RunPre N (app_ok h1.ro hx) hr ha
  obtain ⟨t2, e2⟩ := RunPre N h1.ro ha ht1
  rw [e2, List.map_append]
  congr 1
  have hl1 := ht1.len
  have hla := ha.len
  have hlv := hv.len
  rw [e2, List.length_append, List.length_append] at hla
  rw [e1] at hv
  have N1 : NetOk gs (ws.map (mvW tss r1.length L1)) := e1 ▸ h1.ok
  refine List.ext_getElem? fun s => ?_
  rw [List.getElem?_map, List.getElem?_map]
  by_cases hs : s < r2.length
  · have h2 : s < t2.length := by omega
    have h3 : s < vss.length := by omega
    rw [List.getElem?_eq_getElem h2, List.getElem?_eq_getElem h3]
    show some _ = some _
    congr 1
    unfold outsOf
    refine List.map_congr_left fun g hg => ?_
    obtain ⟨hg1, hg2⟩ := mem_plc.mp hg
    have key := Run.retimed N h1.let_ hx hr h1.t (fun g hg => by rw [List.length_replicate]; exact hm1 g hg) N1 hv s g hg1 hs
    have h0 := h1.let_.p g hg1 (.inr hg2)
    rw [h0, Int.sub_zero, Int.toNat_natCast, ez, wAt_pre (by rw [e2, List.length_append]; omega), e2, ← hl1, wAt_post] at key
    unfold wAt at key
    rw [getDL h3, getDL h2] at key
    exact key.symm
  · rw [List.getElem?_eq_none (by omega), List.getElem?_eq_none (by omega)]
theorem Mv.zero {gs : List Gt} {ws wsb we : List Wr} {Lb : Nat → Int} {rss tss : List (List Int)} (N : NetOk gs ws) (e0 : ∀ g, Lb g = 0) (hb : Mv gs ws Lb rss wsb) (h : Run gs ws rss tss we) : wsb = we := by
  obtain ⟨m, tb, wb, hrb, hm, eb⟩ := hb.ex
  have en : Enough gs rss.length rss.length Lb := ⟨hb.t, fun g hg => by rw [e0 g]; omega⟩
  have : wsb = ws.map (mvW tss rss.length Lb) := by
    rw [eb]
    refine mvW_early N hb.let_ (app_ok hb.ro (rep_ok gs _)) hrb h (fun t ht => by rw [List.getElem?_append_left ht]) ⟨hb.t, fun g hg => ?_⟩ en
    rw [List.length_append, List.length_replicate, e0 g]
    omega
  rw [this, h.wire]
  refine List.map_congr_left fun x hx => ?_
  unfold mvW cnW ofW
  rw [e0, e0, h.len, Int.sub_zero, Int.add_zero, Int.sub_zero, Int.toNat_natCast, Int.toNat_natCast]
  refine Prod.ext rfl (Prod.ext rfl ?_)
  show ((rowOf x tss).drop rss.length).take x.2.2.length = (rowOf x tss).drop rss.length
  refine List.take_of_length_le ?_
  rw [List.length_drop, Run.row_len, h.len]
  omega
end Lag

set_option maxRecDepth 100000
set_option maxHeartbeats 8000000
namespace Lag
open PySem PySem.Spec PyProof.Rows L2
structure NetN (K : PySem.W.Frag) (C wl : Addr) (H : Hp) (p ng nw : Addr) (gs : List Gt) (ws : List Wr) : Prop where
  n : NetAt K C H p ng nw gs ws
  n1 : p ≠ wl
  n2 : ng ≠ wl
  n3 : nw ≠ wl
theorem NetN.dr {K : PySem.W.Frag} {C wl p ng nw : Addr} {H H' : Hp} {gs : List Gt} {ws : List Wr} (h : NetN K C wl H p ng nw gs ws) (W : WellAt wl H) (d : Dr wl H H') : NetN K C wl H' p ng nw gs ws := ⟨h.n.dr W h.n1 h.n2 h.n3 d, h.n1, h.n2, h.n3⟩
theorem NetN.same {K : PySem.W.Frag} {C wl p ng nw : Addr} {H H' : Hp} {gs : List Gt} {ws : List Wr} (h : NetN K C wl H p ng nw gs ws) (s : Same H H') : NetN K C wl H' p ng nw gs ws := ⟨h.n.same s, h.n1, h.n2, h.n3⟩
def RL (wl : Addr) (H : Hp) (l : Addr) (rss : List (List Int)) : Prop := ∃ vs, H l = some (.lst vs) ∧ l ≠ wl ∧ All2 (RowN wl H) vs rss
theorem RL.dr {wl l : Addr} {H H' : Hp} {rss : List (List Int)} (h : RL wl H l rss) (d : Dr wl H H') : RL wl H' l rss := by
  obtain ⟨vs, e, n, a⟩ := h
  exact ⟨vs, d.but _ _ n e, n, a.imp fun _ _ r => r.dr d⟩
theorem RL.same {wl l : Addr} {H H' : Hp} {rss : List (List Int)} (h : RL wl H l rss) (s : Same H H') : RL wl H' l rss := by
  obtain ⟨vs, e, n, a⟩ := h
  exact ⟨vs, s _ _ e, n, a.imp fun _ _ r => r.same s⟩
theorem RL.dp {K : PySem.W.Frag} {wl l : Addr} {H : Hp} {rss : List (List Int)} (h : RL wl H l rss) : Dp K H (.ref l) (rowsD rss) := by
  obtain ⟨vs, e, n, a⟩ := h
  exact RR.dp ⟨vs, SqL.of e, a.imp fun _ _ r => r.rv⟩
theorem LL.rl {wl l : Addr} {H0 H : Hp} {xss : List (List Int)} {as : List Addr} (h : LL H0 H l xss as) (W : WellAt wl H0) : RL wl H l xss := by
  refine ⟨_, h.at_, (W.ne h.ln).symm, by rw [List.length_map]; exact h.al.1, fun i v xs hv hx => ?_⟩
  rw [List.getElem?_map] at hv
  cases e : as[i]? with
  | none =>
    rw [e] at hv
    cases hv
  | some a =>
    rw [e] at hv
    cases hv
    exact ⟨a, rfl, (W.ne (h.new a (List.mem_of_getElem? e))).symm, h.al.2 i a xs e hx⟩
def IL (wl : Addr) (H : Hp) (l : Addr) (ls : List Int) : Prop := H l = some (.lst (ls.map V.int)) ∧ l ≠ wl
theorem IL.dr {wl l : Addr} {H H' : Hp} {ls : List Int} (h : IL wl H l ls) (d : Dr wl H H') : IL wl H' l ls := ⟨d.but _ _ h.2 h.1, h.2⟩
theorem IL.same {wl l : Addr} {H H' : Hp} {ls : List Int} (h : IL wl H l ls) (s : Same H H') : IL wl H' l ls := ⟨s _ _ h.1, h.2⟩
/-- what stands all the time -/
structure St0 (K : PySem.W.Frag) (C wl : Addr) (H : Hp) (lg lw p ng nw : Addr) (gs : List Gt) (ws : List Wr) : Prop where
  W : WellAt wl H
  g : LG K H lg gs
  w : LW K H lw ws
  n : NetN K C wl H p ng nw gs ws
  n1 : lg ≠ wl
  n2 : lw ≠ wl
theorem St0.dr {K : PySem.W.Frag} {C wl lg lw p ng nw : Addr} {H H' : Hp} {gs : List Gt} {ws : List Wr} (r : St0 K C wl H lg lw p ng nw gs ws) (d : Dr wl H H') : St0 K C wl H' lg lw p ng nw gs ws :=
  ⟨d.well, r.g.dr r.n1 r.W d, r.w.dr r.n2 r.W d, r.n.dr r.W d, r.n1, r.n2⟩
theorem St0.same {K : PySem.W.Frag} {C wl lg lw p ng nw : Addr} {H H' : Hp} {gs : List Gt} {ws : List Wr} (r : St0 K C wl H lg lw p ng nw gs ws) (s : Same H H') : St0 K C wl H' lg lw p ng nw gs ws := r.dr ⟨But.same s, r.W.same s⟩
theorem Dr.ofSame {wl : Addr} {H H' : Hp} (W : WellAt wl H) (s : Same H H') : Dr wl H H' := ⟨But.same s, W.same s⟩
theorem lagF_mem {ls : List Int} {g : Nat} (h : g < ls.length) : lagF ls g ∈ ls := by
  unfold lagF
  rw [List.getD_eq_getElem?_getD, List.getElem?_eq_getElem h]
  exact List.getElem_mem h
theorem lagF_bd {ls : List Int} {b : Int} (hb : 0 ≤ b) (h : ∀ y ∈ ls, -b ≤ y ∧ y ≤ b) (g : Nat) : -b ≤ lagF ls g ∧ lagF ls g ≤ b := by
  by_cases hg : g < ls.length
  · exact h _ (lagF_mem hg)
  · unfold lagF
    rw [List.getD_eq_getElem?_getD, List.getElem?_eq_none (by omega)]
    exact ⟨by show -b ≤ 0; omega, hb⟩
def addL (a b : List Int) : List Int := List.zipWith (· + ·) a b
theorem addL_len {a b : List Int} (h : a.length = b.length) : (addL a b).length = a.length := by
  unfold addL
  rw [List.length_zipWith]
  omega
theorem addL_at {a b : List Int} (h : a.length = b.length) (g : Nat) : lagF (addL a b) g = lagF a g + lagF b g := by
  unfold lagF addL
  rw [List.getD_eq_getElem?_getD, List.getD_eq_getElem?_getD, List.getD_eq_getElem?_getD, List.getElem?_zipWith]
  by_cases hg : g < a.length
  · rw [List.getElem?_eq_getElem hg, List.getElem?_eq_getElem (by omega)]
    rfl
  · rw [List.getElem?_eq_none (by omega), List.getElem?_eq_none (by omega)]
    rfl
theorem LagOk.of {gs : List Gt} {ls : List Int} (hl : ls.length = gs.length) (hb : ∀ g, -500 ≤ lagF ls g ∧ lagF ls g ≤ 500) (hp : ∀ g, g < gs.length → portK (kindAt gs g) → lagF ls g = 0) : LagOk gs ls := by
  refine ⟨hl, fun i g l hg hl' => ?_⟩
  have e : lagF ls i = l := by
    unfold lagF
    rw [List.getD_eq_getElem?_getD, hl']
    rfl
  have h1 := hb i
  rw [e] at h1
  refine ⟨h1.1, h1.2, fun h => ?_⟩
  rw [← e]
  exact hp i (List.getElem?_eq_some_iff.mp hg).1 (by rw [kindAt_get hg]; exact h)
theorem LetOk.of {ws : List Wr} {ls : List Int} (h : ∀ x ∈ ws, lagF ls x.1 ≤ ((x.2.2.length : Nat) : Int) + lagF ls x.2.1) : LetOk ws ls := fun y hy => by
  obtain ⟨x, hx, rfl⟩ := List.mem_map.mp hy
  have := h x hx
  unfold lagF at this
  omega
/-- what moved tells, as mathematics -/
theorem mv_of {gs : List Gt} {ws we0 : List Wr} {ls : List Int} {rss tss0 : List (List Int)} {m : Nat} (lok : LagOk gs ls) (lt : LetOk ws ls) (hro : ∀ rs ∈ rss, RowOk gs rs) (hT : ∀ g, g < gs.length → lagF ls g ≤ rss.length) (hr : Run gs ws (rss ++ List.replicate m (zeroRow gs)) tss0 we0) (hm : ∀ g, g < gs.length → -lagF ls g ≤ (m : Int)) (NM : NetOk gs (ws.map (mvW tss0 rss.length (lagF ls)))) : Mv gs ws (lagF ls) rss (ws.map (mvW tss0 rss.length (lagF ls))) :=
  ⟨lok.letL lt, hro, hT, NM, m, tss0, we0, hr, hm, rfl⟩
/-- the registers of the moved net's wires -/
theorem Mv.lens {gs : List Gt} {ws ws1 : List Wr} {L : Nat → Int} {rss : List (List Int)} (N : NetOk gs ws) (h : Mv gs ws L rss ws1) : ∀ y ∈ ws1, ∃ x ∈ ws, y.1 = x.1 ∧ y.2.1 = x.2.1 ∧ y.2.2.length = cnW L x := fun y hy => by
  obtain ⟨m, tss, we, hr, hm, e⟩ := h.ex
  rw [e] at hy
  obtain ⟨x, hx, rfl⟩ := List.mem_map.mp hy
  refine ⟨x, hx, rfl, rfl, mvW_len N h.let_ hr ⟨h.t, fun g hg => ?_⟩ hx⟩
  have := hm g hg
  rw [List.length_append, List.length_replicate]
  omega
theorem Mv.lensR {gs : List Gt} {ws ws1 : List Wr} {L : Nat → Int} {rss : List (List Int)} (N : NetOk gs ws) (h : Mv gs ws L rss ws1) : ∀ x ∈ ws, ∃ y ∈ ws1, y.1 = x.1 ∧ y.2.1 = x.2.1 ∧ y.2.2.length = cnW L x := fun x hx => by
  obtain ⟨m, tss, we, hr, hm, e⟩ := h.ex
  refine ⟨mvW tss rss.length L x, by rw [e]; exact List.mem_map.mpr ⟨x, hx, rfl⟩, rfl, rfl, mvW_len N h.let_ hr ⟨h.t, fun g hg => ?_⟩ hx⟩
  have := hm g hg
  rw [List.length_append, List.length_replicate]
  omega
theorem RL.cat {wl l : Addr} {H : Hp} {v1 v2 : List V} {a b : List (List Int)} (h1 : All2 (RowN wl H) v1 a) (h2 : All2 (RowN wl H) v2 b) (W : WellAt wl H) (hl : H l = none) : RL wl (upd H l (.lst (v1 ++ v2))) l (a ++ b) :=
  ⟨_, upd_same, (W.ne hl).symm, all2_app (h1.imp fun _ _ r => r.same (same_new hl)) (h2.imp fun _ _ r => r.same (same_new hl))⟩
theorem take_addL {a b : List Int} (h : a.length = b.length) {i : Nat} {x y : Int} (hx : a[i]? = some x) (hy : b[i]? = some y) : ((addL a b).take i).map V.int ++ [V.int (x + y)] = ((addL a b).take (i + 1)).map V.int := by
  have : (addL a b)[i]? = some (x + y) := by
    unfold addL
    rw [List.getElem?_zipWith, hx, hy]
  rw [List.take_add_one, this, List.map_append]
  rfl
theorem neg_at (a : List Int) (g : Nat) : lagF (a.map fun y => 0 - y) g = -lagF a g := by
  unfold lagF
  rw [List.getD_eq_getElem?_getD, List.getD_eq_getElem?_getD, List.getElem?_map]
  cases a[g]? with
  | none => rfl
  | some y =>
    show 0 - y = -y
    omega
theorem zero_at (n g : Nat) : lagF (List.replicate n 0) g = 0 := by
  unfold lagF
  rw [List.getD_eq_getElem?_getD]
  cases e : (List.replicate n (0 : Int))[g]? with
  | none => rfl
  | some y => exact List.eq_of_mem_replicate (List.mem_of_getElem? e)
end Lag

set_option maxRecDepth 100000
set_option maxHeartbeats 8000000
/-! ### promises of defs that show data (repr): they are kept where no guard is up -/
namespace Lag
open PySem PySem.Spec PyProof.Rows L2
/-- FnOk, where no guard is up -/
structure FnG (P : Program) (w : World) (K : PySem.W.Frag) (mg : Str → Option Value) (base : Heap) (CX : CXT) (k : Nat) (f : Addr) (fd : FuncData) (ps : List Str) (sp : Sp) : Prop where
  len : ∀ vs H Q E, sp vs H Q E → vs.length = ps.length
  run : ∀ (A : Around) (outer : List Env) (s : Shared) (H : Hp) (args : Args) (us : List Value) (vs : List V) (Q : VK) (E : XK), A.guards = some [] → Room k A → Env0 P w K mg base A outer s H → BindsTo s fd args (ps.zip us) → Vals vs us → sp vs H Q E →
    codeAny (model P w) A (.call (.ref f) args) (CR CX outer P w H s Q E) s
theorem fn_g {P : Program} {w : World} {K : PySem.W.Frag} {mg : Str → Option Value} {base : Heap} {CX : CXT} {k : Nat} {f : Addr} {fd : FuncData} {ps : List Str} {sp : Sp} (F : FnOk P w K mg base CX k f fd ps sp) : FnG P w K mg base CX k f fd ps sp :=
  ⟨F.len, fun A outer s H args us vs Q E _ => F.run A outer s H args us vs Q E⟩
/-- a def by its body, entered where no guard is up -/
theorem fnG_of {CX : CXT} {P : Program} {w : World} {K : PySem.W.Frag} {mg : Str → Option Value} {base : Heap} {k : Nat} {f : Addr} {name qual : Str} {params : Arguments} {body : List Stmt} {scope : Scope} {dV kV doc pm cdv ct oc : Value} {an od : Option Addr}
    {osl : Array (Option Value)} {N ps : List Str} {sp : Sp} (lk : K.lookup f = some ⟨oc, od, .func (PySem.W.fnOf name qual params body scope dV kV doc pm an cdv ct), osl⟩) (hcd : PySem.W.codeIn K cdv qual = true) (S : FnScope N ps scope)
    (len : ∀ vs H Q E, sp vs H Q E → vs.length = ps.length)
    (hbody : ∀ (A : Around) (outer : List Env) (s : Shared) (H : Hp) (vs : List V) (Q : VK) (E : XK), A.guards = some [] → Room k (A.deeper (envOfC qual scope s.heap.objs.size f cdv)) → sp vs H Q E →
      ∃ t, PSs (cxOf CX P w K mg base N qual scope f cdv A outer s H E) body t ∧ t { nx := fun _ H' => Q .non H', rt := Q } (start N vs) H) :
    FnG P w K mg base CX (k + 1) f (PySem.W.fnOf name qual params body scope dV kV doc pm an cdv ct) ps sp := by
  constructor
  case len => exact len
  case run =>
    intro A outer s H args us vs Q E hg hr e0 hb r hsp
    obtain ⟨t, ht, hq⟩ := hbody A outer s H vs Q E hg (hr.deeper _) hsp
    have lst : ∀ b o, base.get? b = some o → s.heap.get? b = some o := fun b o e => (e0.bs b o e).1
    have KX : K.In s.heap := e0.mod.kin.keeps lst
    refine codeAny_call_function hr.depth (KX _ _ lk) rfl S.co S.gen rfl (PySem.W.codeRec_of KX hcd) (hb _ _ _ _ (wpAny_newFunctionEnv_cells S.kind (fun y hy => ?_) fun env he s1 x => ?_))
    · have hn : y.1 ∈ ps := (List.of_mem_zip (show (y.1, y.2) ∈ ps.zip us from hy)).1
      exact (S.par y.1 hn).imp id fun z => ⟨z, PySem.W.cellsFrom_some _ _ _ (.inl z)⟩
    · cases he
      refine ⟨(e0.mod.nolimit.keeps lst).keeps x.toInCall.keep, codeAny_func (wpAny_mono (ht.run [] s1 (start N vs) H _ (inv_start S hr.hd e0 (len _ _ _ _ hsp) r x) hq) (fun fl s' hs => ?_) fun e s' hs => hs)⟩
      match fl, hs with
      | .ret u, ⟨v, σ', H', J, rv, q⟩ => exact ⟨v, H', J.os, J.bare, J.base, J.hok, rv, q⟩
      | .next, ⟨σ', H', J, q⟩ => exact ⟨V.non, H', J.os, J.bare, J.base, J.hok, rfl, q⟩
      | .brk, ⟨_, _, _, q⟩ => exact False.elim q
      | .cont, ⟨_, _, _, q⟩ => exact False.elim q
/-- a def by its body, of such a promise -/
theorem fun_okG {P : Program} {w : World} {K : PySem.W.Frag} {mg : Str → Option Value} {base : Heap} {x qual : Str} {st : Stmt} {f : Addr} {fd : FuncData} {N ps : List Str} {k : Nat} {sp : Sp} (F : Fun K x qual st f fd) (S : FnScope N ps (defScope st)) (len : ∀ vs H Q E, sp vs H Q E → vs.length = ps.length)
    (hbody : ∀ (cdv : Value) (A : Around) (outer : List Env) (s : Shared) (H : Hp) (vs : List V) (Q : VK) (E : XK), (A.deeper (envOfC qual (defScope st) s.heap.objs.size f cdv)).guards = some [] → Room k (A.deeper (envOfC qual (defScope st) s.heap.objs.size f cdv)) → sp vs H Q E →
      ∃ t, PSs (cxOf CX0 P w K mg base N qual (defScope st) f cdv A outer s H E).nox (defBody st) t ∧ t { nx := fun _ H' => Q .non H', rt := Q } (start N vs) H) : FnG P w K mg base CX0 (k + 1) f fd ps sp := by
  obtain ⟨oc, od, kV, doc, pm, an, cdv, ct, osl, rfl, lk, hcd⟩ := F.ex
  refine fnG_of lk hcd S len fun A outer s H vs Q E hg hr hsp => ?_
  obtain ⟨t, h, q⟩ := hbody cdv A outer s H vs Q E hg hr hsp
  exact ⟨t, h.nox, q⟩
/-- a def at its name, of such a promise -/
structure DfG (P : Program) (w : World) (K : PySem.W.Frag) (mg : Str → Option Value) (base : Heap) (k : Nat) (name : Str) (ps : List Str) (sp : Sp) (f : Addr) (fd : FuncData) : Prop where
  ok : FnG P w K mg base CX0 k f fd ps sp
  mg : mg name = some (.ref f)
  kp : PySem.W.keepIn K (.ref f) = true
  bd : Binds K fd ps []
section
variable {X : Cx} {CX : CXT} {k : Nat} {f : Addr} {fd : FuncData} {ps : List Str} {sp : Sp} {dvs : List V} {ds : List Value} {E : XK} {x : Str} {p pos : Pos} {e : Expr} {es : List Expr} {t : TA}
/-- f(..) of such a def, in a body that was entered where no guard is up -/
theorem pe_callG (F : FnG X.prog X.w X.K X.mg X.base CX k f fd ps sp) (gd : X.A.guards = some []) (hr : Room k X.A) (hg : Gl X x) (hm : X.mg x = some (.ref f)) (hk : PySem.W.keepIn X.K (.ref f) = true) (hb : Binds X.K fd ps ds) (hd : Vals dvs ds) (hx : Passes CX X E)
    (ha : PA X (e :: es) t) (hdb : (x == ("__debug__" : Str)) = false := by decide) (he : starEach (e :: es) X.env = (false, eval e X.env) :: starEach es X.env := by rfl) (hpl : (backTo pos (starEach es X.env)).any (·.1) = false := by rfl) :
    PE X (.Call (.Name x p) (e :: es) [] pos) (tCall sp dvs E t) := by
  constructor
  intro pins s σ H Q I h
  refine wpAny_Call_Name_kw (ld_glob I hg hm (PySem.W.callWith_K (h₀ := X.base) I.ok.mod.kin hk (thn (ha.run pos pins s σ H _ I h) fun us s1 ⟨vs, H1, I1, r, q⟩ => ⟨I1.kIn, ?_⟩) he hpl) hdb)
  have r2 : Vals (vs ++ dvs) (us ++ ds) := r.append hd
  have hl : (us ++ ds).length = ps.length := by rw [← r2.length]; exact F.len _ _ _ _ q
  refine wpAny_call (codeAny_mono (F.run X.A X.stack s1 H1 ⟨us, []⟩ (us ++ ds) (vs ++ dvs) Q E gd hr I1.env0 (hb s1 us I1.kIn hl) r2 q) fun rr s' hq => ?_)
  match rr, hq with
  | .error e, hq => exact hx pins σ H1 s1 e s' I1 hq
  | .ok (.ret u), hq => exact I1.after hq
end
section
variable {X : Cx}
mutual
theorem dp_noDict {K : PySem.W.Frag} {H : Hp} : ∀ (d : PyData) {v : V}, Dp K H v d → d.hasDict = false
  | .none, _, _ => rfl
  | .bool _, _, _ => rfl
  | .int _, _, _ => rfl
  | .str _, _, _ => rfl
  | .list ds, _, h => by
    cases h with
    | lst _ a => exact dp_noDicts ds a
  | .tuple ds, _, h => by
    cases h with
    | tup _ a => exact dp_noDicts ds a
  | .dict _, _, h => by cases h
theorem dp_noDicts {K : PySem.W.Frag} {H : Hp} : ∀ (ds : List PyData) {vs : List V}, DpAll K H vs ds → PyData.hasDictAll ds = false
  | [], _, _ => rfl
  | d :: ds, _, h => by
    cases h with
    | cons h1 h2 =>
      show (d.hasDict || PyData.hasDictAll ds) = false
      rw [dp_noDict d h1, dp_noDicts ds h2]
      rfl
end
/-- repr of a list or a tuple of data -/
def rRepr (K : PySem.W.Frag) : List V → Hp → VK → Prop := fun xs H Q => ∃ (a : Addr) (d : PyData), xs = [.ref a] ∧ Dp K H (.ref a) d ∧ d.showable = true ∧ d.depth < 64 ∧ d.shown.length ≤ sizeLine ∧ Q (.str d.shown) H
theorem call_repr (gd : X.A.guards = some []) (hu : X.A.units + 65 < cLine) : CallR X (.builtin "repr") (rRepr X.K) := by
  intro pins s σ H xs us Q I r h
  obtain ⟨a, d, rfl, dp, sh, dd, hz, q⟩ := h
  obtain ⟨u, rfl, rx⟩ := vals1 r
  obtain ⟨as, rd⟩ := Dp.reads I d _ _ dp rx
  cases rx
  refine repr_of_reads' rd sh (fun hd => ?_) gd (by omega) (fun _ _ e => e) (fun h' u tk hk => ?_) hz
  · rw [dp_noDict d dp] at hd
    cases hd
  · exact I.after ⟨.str d.shown, H, rfl, I.bare, Un.kept hk, I.hok.kept hk, ⟨_, rfl⟩, q⟩
end
end Lag

set_option maxRecDepth 100000
set_option maxHeartbeats 8000000
/-! ### the end of a law whose promise is kept where no guard is up -/
namespace Lag
open PySem PySem.Spec PyProof.Rows L2
/-- the script as the law finds it: one of the module's own objects, or tracked as it stands -/
theorem script_at {P : Program} {w : World} {K : PySem.W.Frag} {a : Addr} {s : Shared} {vs : List Value} {ns : List Int} (KX : K.In s.heap) (ha : s.heap.get? a = some { cls := .type "list", data := .seq vs.toArray }) (hi : IntsAre vs ns) (hl : ns.length ≤ sizeLine) :
    ∃ H : Hp, Only H ∧ SqL K H a (ns.map V.int) ∧ HOk P w H s.heap ∧ ∀ b u, H b = some u → b = a ∧ K.lookup b = none := by
  have rv := vals_ints hi
  have lenV := hi.length
  by_cases hk : ∃ o, K.lookup a = some o
  · obtain ⟨o, hk⟩ := hk
    have e := KX a o hk
    rw [ha] at e
    cases e
    exact ⟨fun _ => none, fun _ => .inl rfl, .inr ⟨_, vs.toArray, _, hk, rfl, rfl, rfl, (by rw [List.size_toArray, lenV]; exact hl), (by simpa using rv)⟩, (fun b u z => by cases z), (fun b u z => by cases z)⟩
  · have hn : K.lookup a = none := Option.eq_none_iff_forall_ne_some.mpr fun o e => hk ⟨o, e⟩
    refine ⟨upd (fun _ => none) a (.frz { cls := .type "list", data := .seq vs.toArray } (.lst (ns.map V.int))), fun b => ?_, .inl (.inr ⟨_, upd_same⟩), fun b u z => ?_, fun b u z => ?_⟩
    · by_cases hb : b = a
      · rw [hb]
        exact .inr ⟨_, _, upd_same⟩
      · exact .inl (upd_ne hb)
    · by_cases hb : b = a
      · subst hb
        rw [upd_same] at z
        cases z
        exact ⟨ha, by rw [List.length_map]; exact hl, vs, _, rv, ha⟩
      · rw [upd_ne hb] at z
        cases z
    · by_cases hb : b = a
      · exact ⟨hb, by rw [hb]; exact hn⟩
      · rw [upd_ne hb] at z
        cases z
theorem lawG_call {P : Program} {w : World} {K : PySem.W.Frag} {mg mb : Str → Option Value} {CX : CXT} {k : Nat} {fa a : Addr} {fd : FuncData} {x : Str} {sp : Sp} {s : Shared} {vs : List Value} {ns : List Int}
    (KX : K.In s.heap) (hns : s.heap.Ns mainGlobals mg) (hb : s.heap.Ns builtinsNs mb) (hbb : ∀ x : Str, x ≠ "__name__" → mb x = bootBuiltins x) (hlim : s.heap.NoLimit) (hg : s.gens = #[])
    (ha : s.heap.get? a = some { cls := .type "list", data := .seq vs.toArray }) (hi : IntsAre vs ns) (hl : ns.length ≤ sizeLine) (hr : Room k callerA)
    (F : ∀ base : Heap, K.In base → base.Ns mainGlobals mg → FnG P w K mg base CX k fa fd [x] sp) (hbind : ∀ (s : Shared) (u : Value), BindsTo s fd ⟨[u], []⟩ [(x, u)])
    (hsp : ∀ H : Hp, Only H → SqL K H a (ns.map V.int) → sp [.ref a] H (fun v _ => v = .bl true) fun _ _ _ => False)
    (hCX : ∀ H e s', CX [] H s (fun _ _ _ => False) e s' → False) :
    codeAny (model P w) callerA (.call (.ref fa) ⟨[.ref a], []⟩) (fun r s' => r = .ok (.ret (.bool true)) ∧ OldK s.heap s'.heap ∧ s'.os = s.os ∧ AllBare s'.gens) s := by
  obtain ⟨H, only, sq, hok, own⟩ := script_at (P := P) (w := w) KX ha hi hl
  have free : ∀ {b : Addr} {o : Obj}, s.heap.get? b = some o → (b = a → (K.lookup b).isSome = true ∨ ∃ es ep, o.data = .dict es ep) → H b = none := fun {b o} e h => by
    cases q : H b with
    | none => rfl
    | some u =>
      obtain ⟨e1, e2⟩ := own b u q
      rcases h e1 with z | ⟨es, ep, z⟩
      · rw [e2] at z
        cases z
      · rw [e1, ha] at e
        have z2 : o.data = Data.seq vs.toArray 0 := (congrArg Obj.data (Option.some.inj e)).symm
        rw [z2] at z
        cases z
  have inB : ∀ {b : Addr} {o : Obj}, s.heap.get? b = some o → H b = none → (hidT s.heap H).get? b = some o := fun e n => hidT_get e n
  have nsB : ∀ {b : Addr} {m : Str → Option Value}, s.heap.Ns b m → (hidT s.heap H).Ns b m := fun ⟨o, es, ep, e, d, r⟩ => ⟨o, es, ep, inB e (free e fun _ => .inr ⟨es, ep, d⟩), d, r⟩
  have KB : K.In (hidT s.heap H) := fun b o e => inB (KX b o e) (free (KX b o e) fun _ => .inl (by rw [e]; rfl))
  obtain ⟨mc, l1, l2⟩ := hlim
  have e0 : Env0 P w K mg (hidT s.heap H) callerA [] s H :=
    { frames := rfl, mod := ⟨KB, nsB hns, ⟨mb, nsB hb, hbb⟩, ⟨mc, nsB l1, l2⟩⟩, bs := fun b o e => of_hidT e, bsz := Nat.le_of_eq (hidT_size _ _), funs := trivial, frf := (fun b z => by cases z), hok := hok, bare := .of_eq hg }
  refine codeAny_mono ((F _ KB (nsB hns)).run callerA [] s H ⟨[.ref a], []⟩ [.ref a] [.ref a] _ _ rfl hr e0 (hbind s (.ref a)) (.cons rfl .nil) (hsp H only sq)) fun r s' h => ?_
  match r, h with
  | .error e, h => exact (hCX H e s' h).elim
  | .ok (.ret u), ⟨v, H', os, bare, un, hok', rv, q⟩ =>
    have q' : v = .bl true := q
    subst q'
    cases rv
    refine ⟨rfl, OldK.of_keep fun b o e => ?_, os, bare⟩
    rcases only b with z | ⟨ob, xs, z⟩
    · exact un.keep b o e z (by intro z; cases z) (by simp)
    · obtain ⟨e1, _⟩ := hok b _ z
      obtain ⟨e2, _⟩ := hok' b _ (un.frzs b ob _ z)
      rw [e] at e1
      cases e1
      exact e2
theorem walkG_of {l : PySem.W.OpenLaw} {n k : Nat} {q : Program} {loose : List Str} {XP : (Str → Option Value) → Heap → Prop} {YP : World → Heap → Prop} {d : DefRec} {K : Params → PySem.W.Frag} {CX : World → CXT} {sp : World → Sp} {x : Str}
    (hn : l.most = some n) (hn2 : n ≤ sizeLine) (hdf : d.params.defaults = []) (hr : Room k callerA)
    (hY : ∀ (w : World) (h : Heap), YP w h → (K w.params).In h)
    (F : ∀ (w : World) (mg : Str → Option Value) (fa : Addr) (h : Heap), (K w.params).In h → h.Ns mainGlobals mg → mg d.name = some (.ref fa) →
      ∃ fd : FuncData, (∀ (s : Shared) (u : Value), BindsTo s fd ⟨[u], []⟩ [(x, u)]) ∧
        ∀ base : Heap, (K w.params).In base → base.Ns mainGlobals mg → FnG l.prog w (K w.params) mg base (CX w) k fa fd [x] (sp w))
    (hsp : ∀ (w : World) (H : Hp) (a : Addr) (ns : List Int), ns.length ≤ n → Only H → SqL (K w.params) H a (ns.map V.int) → sp w [.ref a] H (fun v _ => v = .bl true) fun _ _ _ => False)
    (hCX : ∀ (w : World) (H : Hp) (s : Shared) (e : Value) (s' : Shared), CX w [] H s (fun _ _ _ => False) e s' → False) :
    PySem.W.WalkO q loose XP YP l.row.toRowW d [] (fun f vs => PySem.call f vs) :=
  Att.attach_call hn hdf fun w s₀ s₁ mg mb fa o pm cd doc a vs ns G Y ho hd hcd hmg hobj hints hlen hg => by
    obtain ⟨fd, hb, hF⟩ := F w mg fa _ (hY w _ Y) G.T.g hmg
    exact lawG_call (hY w _ Y) G.T.g G.T.b G.T.builtins G.T.nolimit hg hobj hints (Nat.le_trans hlen hn2) hr hF hb (fun H hO hS => hsp w H a ns hlen hO hS) fun H e s' => hCX w H s₁ e s'
end Lag

set_option maxRecDepth 100000
set_option maxHeartbeats 8000000
/-! ### repr of data in which an empty dict may stand -/
namespace Lag
open PySem PySem.Spec PyProof.Rows L2
mutual
inductive Dx (K : PySem.W.Frag) (Av : Addr → Prop) (H : Hp) : V → PyData → Prop
  | non : Dx K Av H .non .none
  | bl (b : Bool) : Dx K Av H (.bl b) (.bool b)
  | int (i : Int) : Dx K Av H (.int i) (.int i)
  | str (x : Str) : Dx K Av H (.str x) (.str x)
  | lst {a : Addr} {xs : List V} {ds : List PyData} : H a = some (.lst xs) → Av a → DxAll K Av H xs ds → Dx K Av H (.ref a) (.list ds)
  | tup {a : Addr} {xs : List V} {ds : List PyData} : SqT K H a xs → DxAll K Av H xs ds → Dx K Av H (.ref a) (.tuple ds)
  | dic {a : Addr} : H a = some (.dK []) → Dx K Av H (.ref a) (.dict [])
inductive DxAll (K : PySem.W.Frag) (Av : Addr → Prop) (H : Hp) : List V → List PyData → Prop
  | nil : DxAll K Av H [] []
  | cons {v : V} {vs : List V} {d : PyData} {ds : List PyData} : Dx K Av H v d → DxAll K Av H vs ds → DxAll K Av H (v :: vs) (d :: ds)
end
abbrev Any : Addr → Prop := fun _ => True
/-- from heap to heap, and to fewer demands on the lists -/
structure XM (K : PySem.W.Frag) (Av Av' : Addr → Prop) (H H' : Hp) : Prop where
  l : ∀ a xs, Av a → H a = some (.lst xs) → H' a = some (.lst xs) ∧ Av' a
  t : ∀ a xs, SqT K H a xs → SqT K H' a xs
  d : ∀ a, H a = some (.dK []) → H' a = some (.dK [])
mutual
theorem Dx.move {K : PySem.W.Frag} {Av Av' : Addr → Prop} {H H' : Hp} (m : XM K Av Av' H H') : ∀ (d : PyData) {v : V}, Dx K Av H v d → Dx K Av' H' v d
  | .none, _, h => by cases h; exact .non
  | .bool _, _, h => by cases h; exact .bl _
  | .int _, _, h => by cases h; exact .int _
  | .str _, _, h => by cases h; exact .str _
  | .list ds, _, h => by
    cases h with
    | lst s n a => exact .lst (m.l _ _ n s).1 (m.l _ _ n s).2 (DxAll.move m ds a)
  | .tuple ds, _, h => by
    cases h with
    | tup s a => exact .tup (m.t _ _ s) (DxAll.move m ds a)
  | .dict _, _, h => by
    cases h with
    | dic e => exact .dic (m.d _ e)
theorem DxAll.move {K : PySem.W.Frag} {Av Av' : Addr → Prop} {H H' : Hp} (m : XM K Av Av' H H') : ∀ (ds : List PyData) {vs : List V}, DxAll K Av H vs ds → DxAll K Av' H' vs ds
  | [], _, h => by cases h; exact .nil
  | d :: ds, _, h => by
    cases h with
    | cons a b => exact .cons (Dx.move m d a) (DxAll.move m ds b)
end
theorem XM.same {K : PySem.W.Frag} {Av : Addr → Prop} {H H' : Hp} (s : Same H H') : XM K Av Av H H' := ⟨fun a xs n h => ⟨s _ _ h, n⟩, fun a xs h => (TK.same s).seq h, fun a h => s _ _ h⟩
theorem XM.any {K : PySem.W.Frag} {Av : Addr → Prop} {H : Hp} : XM K Av Any H H := ⟨fun a xs n h => ⟨h, trivial⟩, fun a xs h => h, fun a h => h⟩
theorem Dx.same {K : PySem.W.Frag} {Av : Addr → Prop} {H H' : Hp} {d : PyData} {v : V} (h : Dx K Av H v d) (s : Same H H') : Dx K Av H' v d := Dx.move (.same s) d h
theorem Dx.any {K : PySem.W.Frag} {Av : Addr → Prop} {H : Hp} {d : PyData} {v : V} (h : Dx K Av H v d) : Dx K Any H v d := Dx.move .any d h
theorem XM.dr {K : PySem.W.Frag} {w : Addr} {H H' : Hp} (W : WellAt w H) (r : Dr w H H') : XM K (· ≠ w) (· ≠ w) H H' := ⟨fun a xs n h => ⟨r.but _ _ n h, n⟩, fun a xs h => (TK.dr W r.but).seq h, fun a h => r.but _ _ (fun z => by
  obtain ⟨ys, e, _⟩ := W
  rw [z, e] at h
  cases h) h⟩
theorem Dx.dr {K : PySem.W.Frag} {w : Addr} {H H' : Hp} {d : PyData} {v : V} (h : Dx K (· ≠ w) H v d) (W : WellAt w H) (r : Dr w H H') : Dx K (· ≠ w) H' v d := Dx.move (.dr W r) d h
theorem DxAll.all2 {K : PySem.W.Frag} {Av : Addr → Prop} {H : Hp} : ∀ {vs : List V} {ds : List PyData}, DxAll K Av H vs ds → All2 (Dx K Av H) vs ds
  | _, _, .nil => All2.nil
  | v :: vs, d :: ds, .cons h r => by
    have a := DxAll.all2 r
    refine ⟨by rw [List.length_cons, List.length_cons, a.1], fun i x y hx hy => ?_⟩
    cases i with
    | zero =>
      cases hx
      cases hy
      exact h
    | succ i => exact a.2 i x y hx hy
theorem DxAll.from2 {K : PySem.W.Frag} {Av : Addr → Prop} {H : Hp} : ∀ {vs : List V} {ds : List PyData}, All2 (Dx K Av H) vs ds → DxAll K Av H vs ds
  | [], [], _ => .nil
  | [], _ :: _, a => by have := a.1; simp at this
  | _ :: _, [], a => by have := a.1; simp at this
  | _ :: _, _ :: _, a => .cons (a.head) (DxAll.from2 a.tail)
section
variable {X : Cx} {pins : List (Addr × Obj)} {σ : L2.St} {H : Hp} {s : Shared}
theorem dx_empty (I : Inv X pins σ H s) {a : Addr} (e : H a = some (.dK [])) : (a == sysModules) = false ∧ ∃ o n, s.heap.get? a = some o ∧ o.cls = .type "dict" ∧ o.data = .dict #[] n := by
  obtain ⟨_, hs, vs, kv, o, es, ep, h1, h2, h3, _, h5, _⟩ := dk_of I.hok e
  cases kv
  refine ⟨hs, o, ep, h1, h2.1, ?_⟩
  have : es = #[] := by
    obtain ⟨l⟩ := es
    cases l with
    | nil => rfl
    | cons x r => cases h5
  rw [h3, this]
mutual
theorem Dx.show {Av : Addr → Prop} (I : Inv X pins σ H s) : ∀ (d : PyData) (v : V) (u : Value), Dx X.K Av H v d → RelV v u → d.showable = true → d.shown.length ≤ sizeLine → ∃ as bs, Reads s.heap u d as ∧ ReadAtMost s.heap d.depth bs ∧ ReprK X.prog X.w bs s.heap d.depth u d.shown
  | .none, _, _, h, r, _, _ => by
    cases h
    cases r
    exact ⟨_, [], Reads.none, (fun _ h => nomatch h), by simp only [PyData.shown]; exact .of_is ReprIs.none _ _ _⟩
  | .bool b, _, _, h, r, _, _ => by
    cases h
    cases r
    exact ⟨_, [], Reads.bool b, (fun _ h => nomatch h), by simp only [PyData.shown]; exact .of_is (ReprIs.bool b) _ _ _⟩
  | .int i, _, _, h, r, hs, _ => by
    cases h
    obtain ⟨t, rfl⟩ := r
    exact ⟨_, [], Reads.int i t, (fun _ h => nomatch h), by simp only [PyData.shown]; exact .of_is (ReprIs.int t (by simpa [PyData.showable] using hs)) _ _ _⟩
  | .str x, _, _, h, r, _, hz => by
    cases h
    obtain ⟨t, rfl⟩ := r
    exact ⟨_, [], Reads.str x t, (fun _ h => nomatch h), by simp only [PyData.shown]; exact .of_is (ReprIs.str x t (by simpa only [PyData.shown] using hz)) _ _ _⟩
  | .list ds, _, _, h, r, hs, hz => by
    cases h with
    | lst hq hav ha =>
      cases r
      obtain ⟨its, rv, ⟨o, n, ho, hc, _, hd⟩, _⟩ := I.list (SqL.of hq)
      have hz' : (listText (PyData.shownAll ds)).length ≤ sizeLine := by simpa only [PyData.shown] using hz
      obtain ⟨as, bs, r1, hb, hk⟩ := DxAll.show I ds _ its ha rv (by simpa [PyData.showable] using hs) (fun t ht => Nat.le_trans (listText_mem_le ht) hz')
      have r := Reads.list ho hc hd r1
      have hna := not_mem_of_deeper r (by simp only [PyData.depth]; omega) hb
      refine ⟨_, _ :: bs, r, ReadAtMost.cons r (by simp only [PyData.depth]; omega) hb, ?_⟩
      simp only [PyData.depth, PyData.shown]
      cases its with
      | nil =>
        cases r1
        simp only [PyData.shownAll, listText_nil]
        exact ReprK.listEmpty ho hc hd
      | cons x l => exact ReprK.list ho hc hd hna (by simpa using hk.length_eq) (fun i y e => hk.item i y (by simpa using e))
  | .tuple ds, _, _, h, r, hs, hz => by
    cases h with
    | tup hq ha =>
      cases r
      obtain ⟨its, rv, ⟨o, ho, hc, n, hd⟩, _⟩ := I.tuple hq
      have hz' : (tupleText (PyData.shownAll ds)).length ≤ sizeLine := by simpa only [PyData.shown] using hz
      obtain ⟨as, bs, r1, hb, hk⟩ := DxAll.show I ds _ its ha rv (by simpa [PyData.showable] using hs) (fun t ht => Nat.le_trans (tupleText_mem_le ht) hz')
      have r := Reads.tuple ho hc hd r1
      have hna := not_mem_of_deeper r (by simp only [PyData.depth]; omega) hb
      refine ⟨_, _ :: bs, r, ReadAtMost.cons r (by simp only [PyData.depth]; omega) hb, ?_⟩
      simp only [PyData.depth, PyData.shown]
      exact ReprK.tuple ho hc hd hna hk
  | .dict kvs, _, _, h, r, hs, hz => by
    cases h with
    | dic e =>
      cases r
      obtain ⟨hsys, o, n, h1, h2, h3⟩ := dx_empty I e
      have r := Reads.dict (kvs := []) (as := []) (bs := []) h1 h2 h3 (by exact ReadsAll.nil) (by exact ReadsAll.nil)
      refine ⟨_, [_], r, ReadAtMost.cons (n := 0) r (Nat.zero_le _) (fun _ h => nomatch h), ?_⟩
      simp only [PyData.depth, PyData.shown, PyData.shownKv_eq]
      exact ReprK.dict h1 h2 h3 hsys (by simp) (ReprEntriesK.of_two [] _ _ .nil .nil)
theorem DxAll.show {Av : Addr → Prop} (I : Inv X pins σ H s) : ∀ (ds : List PyData) (vs : List V) (us : List Value), DxAll X.K Av H vs ds → Vals vs us → PyData.showableAll ds = true → (∀ t ∈ PyData.shownAll ds, t.length ≤ sizeLine) → ∃ as bs, ReadsAll s.heap us ds as ∧ ReadAtMost s.heap (PyData.depthAll ds) bs ∧ ReprAllK X.prog X.w bs s.heap (PyData.depthAll ds) us (PyData.shownAll ds)
  | [], _, _, h, r, _, _ => by
    cases h
    cases r
    exact ⟨_, [], ReadsAll.nil, (fun _ h => nomatch h), by simp only [PyData.shownAll]; exact .nil⟩
  | d :: ds, _, _, h, r, hs, hz => by
    cases h with
    | cons h1 h2 =>
      cases r with
      | cons r1 r2 =>
        have hs' : d.showable = true ∧ PyData.showableAll ds = true := by simpa [PyData.showableAll] using hs
        obtain ⟨a1, b1, q1, hb1, k1⟩ := Dx.show I d _ _ h1 r1 hs'.1 (hz _ (by simp only [PyData.shownAll]; exact List.mem_cons_self ..))
        obtain ⟨a2, b2, q2, hb2, k2⟩ := DxAll.show I ds _ _ h2 r2 hs'.2 (fun t ht => hz t (by simp only [PyData.shownAll]; exact List.mem_cons_of_mem _ ht))
        refine ⟨_, b1 ++ b2, ReadsAll.cons q1 q2, ?_, ?_⟩
        · intro b hm
          simp only [PyData.depthAll]
          rcases List.mem_append.mp hm with hm | hm
          · obtain ⟨d', as', r', hd'⟩ := hb1 b hm
            exact ⟨d', as', r', Nat.le_trans hd' (Nat.le_max_left _ _)⟩
          · obtain ⟨d', as', r', hd'⟩ := hb2 b hm
            exact ⟨d', as', r', Nat.le_trans hd' (Nat.le_max_right _ _)⟩
        · simp only [PyData.depthAll, PyData.shownAll]
          exact .cons ((k1.more fun b hb => List.mem_append_left _ hb).level_le (Nat.le_max_left _ _)) (k2.more_le (fun b hb => List.mem_append_right _ hb) (Nat.le_max_right _ _))
end
end
section
variable {X : Cx}
/-- repr of such data -/
def rReprX (K : PySem.W.Frag) : List V → Hp → VK → Prop := fun xs H Q => ∃ (v : V) (d : PyData), xs = [v] ∧ Dx K Any H v d ∧ d.showable = true ∧ d.depth < 64 ∧ d.shown.length ≤ sizeLine ∧ Q (.str d.shown) H
theorem call_reprX (gd : X.A.guards = some []) (hu : X.A.units + 65 < cLine) : CallR X (.builtin "repr") (rReprX X.K) := by
  intro pins s σ H xs us Q I r h
  obtain ⟨v, d, rfl, dx, sh, dd, hz, q⟩ := h
  obtain ⟨u, rfl, rx⟩ := vals1 r
  have fin : ∀ (h' : Heap) (u : Tok) (tk : Nat), (∀ b o, s.heap.get? b = some o → h'.get? b = some o) → ∃ (v : V) (H' : Hp), Inv X pins σ H' { s with heap := h', toks := tk } ∧ RelV v (.str d.shown u) ∧ Q v H' := fun h' u tk hk => I.after ⟨.str d.shown, H, rfl, I.bare, Un.kept hk, I.hok.kept hk, ⟨_, rfl⟩, q⟩
  cases dx with
  | non =>
    cases rx
    exact PySem.P.repr_of_none (fin s.heap _ _ fun _ _ e => e)
  | bl b =>
    cases rx
    refine PySem.P.repr_of_bool ?_
    have e : (if b then ("True" : Str) else "False") = PyData.shown (.bool b) := by cases b <;> rfl
    exact fin s.heap _ _ fun _ _ e => e
  | int i =>
    obtain ⟨t, rfl⟩ := rx
    exact PySem.P.repr_of_int (by simpa [PyData.showable] using sh) (fin s.heap _ _ fun _ _ e => e)
  | str x =>
    obtain ⟨t, rfl⟩ := rx
    exact PySem.P.repr_of_str (fin s.heap _ _ fun _ _ e => e) (by simpa only [PyData.shown] using hz)
  | lst hq hav ha =>
    rename_i a xs ds
    cases rx
    obtain ⟨its, rv, ⟨o, n, ho, hc, _, hd⟩, _⟩ := I.list (SqL.of hq)
    have hz' : (listText (PyData.shownAll ds)).length ≤ sizeLine := by simpa only [PyData.shown] using hz
    obtain ⟨as, bs, r1, hb, hk⟩ := DxAll.show I ds _ its ha rv (by simpa [PyData.showable] using sh) (fun t ht => Nat.le_trans (listText_mem_le ht) hz')
    have hna : a ∉ bs := not_mem_of_deeper (Reads.list ho hc hd r1) (by simp only [PyData.depth]; omega) hb
    refine call_repr_slot (by omega) ⟨o, ho, hc⟩ (F.slot_list_repr.toG) ?_
    simp only [PyData.depth] at dd
    simp only [PyData.shown] at fin
    cases its with
    | nil =>
      cases r1
      simp only [PyData.shownAll, listText_nil] at fin
      exact call_list_repr_empty ⟨o, ho, hc⟩ ho hd ⟨_, _, rfl, fin s.heap _ _ fun _ _ e => e⟩
    | cons x l =>
      exact call_list_reprK ho hc hd hna (by simpa using hk.length_eq) (fun i y e => hk.item i y (by simpa using e)) gd (fun b _ => Clear.nil b) (by show X.A.units + 1 + _ < cLine; omega) (fun _ _ e => e) (fun h' u tk hk => ⟨_, _, rfl, fin h' u tk hk⟩) hz'
  | tup hq ha =>
    rename_i a xs ds
    cases rx
    obtain ⟨its, rv, ⟨o, ho, hc, n, hd⟩, _⟩ := I.tuple hq
    have hz' : (tupleText (PyData.shownAll ds)).length ≤ sizeLine := by simpa only [PyData.shown] using hz
    obtain ⟨as, bs, r1, hb, hk⟩ := DxAll.show I ds _ its ha rv (by simpa [PyData.showable] using sh) (fun t ht => Nat.le_trans (tupleText_mem_le ht) hz')
    have hna : a ∉ bs := not_mem_of_deeper (Reads.tuple ho hc hd r1) (by simp only [PyData.depth]; omega) hb
    refine call_repr_slot (by omega) ⟨o, ho, hc⟩ F.slot_tuple_repr ?_
    simp only [PyData.depth] at dd
    simp only [PyData.shown] at fin
    exact call_tuple_reprK ho hc hd hna hk gd (fun b _ => Clear.nil b) (by show X.A.units + 1 + _ < cLine; omega) (fun _ _ e => e) (fun h' u tk hk => ⟨_, _, rfl, fin h' u tk hk⟩) hz'
  | dic e =>
    rename_i a
    cases rx
    obtain ⟨hsys, o, n, h1, h2, h3⟩ := dx_empty I e
    refine call_repr_slot (by omega) ⟨o, h1, h2⟩ F.slot_dict_repr ?_
    simp only [PyData.depth] at dd
    simp only [PyData.shown, PyData.shownKv_eq] at fin hz
    exact call_dict_reprK (as := []) (d := 0) h1 h2 h3 hsys (by simp) (ReprEntriesK.of_two [] _ _ .nil .nil) gd (fun b _ => Clear.nil b) (by show X.A.units + 1 + _ < cLine; omega) (fun _ _ e => e) (fun h' u tk hk => ⟨_, _, rfl, fin h' u tk hk⟩) hz
end
end Lag

set_option maxRecDepth 100000
set_option maxHeartbeats 8000000
namespace Lag
open PySem PySem.Spec PyProof.Rows L2
/-! ### data of any kind where a number or a turn is asked -/
def dI : PyData → Bool
  | .int _ => true
  | .bool _ => true
  | _ => false
def dB : PyData → Bool
  | .bool _ => true
  | _ => false
def dT : PyData → Bool
  | .tuple _ => true
  | _ => false
def dL : PyData → Bool
  | .list _ => true
  | _ => false
def wholeD : PyData → Bool
  | .int _ => true
  | _ => false
def fromD : PyData → Int → Int → Bool
  | .int n, a, b => decide (a ≤ n) && decide (n ≤ b)
  | _, _, _ => false
theorem whole_is (d : PyData) : wholeD d = (dI d && !dB d) := by cases d <;> rfl
theorem Dx.ty {K : PySem.W.Frag} {Av : Addr → Prop} {H : Hp} {v : V} {d : PyData} (h : Dx K Av H v d) : ∃ t : String, TyX K H v (.type t) ∧ kitB t "int" = some (dI d) ∧ kitB t "bool" = some (dB d) ∧ kitB t "tuple" = some (dT d) ∧ kitB t "list" = some (dL d) := by
  cases h with
  | non => exact ⟨"NoneType", .base .non, (show kitB "NoneType" "int" = some false by decide +kernel), (show kitB "NoneType" "bool" = some false by decide +kernel), (show kitB "NoneType" "tuple" = some false by decide +kernel), (show kitB "NoneType" "list" = some false by decide +kernel)⟩
  | bl b => exact ⟨"bool", .base (.bl b), (show kitB "bool" "int" = some true by decide +kernel), (show kitB "bool" "bool" = some true by decide +kernel), (show kitB "bool" "tuple" = some false by decide +kernel), (show kitB "bool" "list" = some false by decide +kernel)⟩
  | int i => exact ⟨"int", .base (.int i), (show kitB "int" "int" = some true by decide +kernel), (show kitB "int" "bool" = some false by decide +kernel), (show kitB "int" "tuple" = some false by decide +kernel), (show kitB "int" "list" = some false by decide +kernel)⟩
  | str x => exact ⟨"str", .base (.str x), (show kitB "str" "int" = some false by decide +kernel), (show kitB "str" "bool" = some false by decide +kernel), (show kitB "str" "tuple" = some false by decide +kernel), (show kitB "str" "list" = some false by decide +kernel)⟩
  | lst s n a => exact ⟨"list", ty_lst (SqL.of s), (show kitB "list" "int" = some false by decide +kernel), (show kitB "list" "bool" = some false by decide +kernel), (show kitB "list" "tuple" = some false by decide +kernel), (show kitB "list" "list" = some true by decide +kernel)⟩
  | tup s a => exact ⟨"tuple", ty_tup s, (show kitB "tuple" "int" = some false by decide +kernel), (show kitB "tuple" "bool" = some false by decide +kernel), (show kitB "tuple" "tuple" = some true by decide +kernel), (show kitB "tuple" "list" = some false by decide +kernel)⟩
  | dic e => exact ⟨"dict", .base (.dK e), (show kitB "dict" "int" = some false by decide +kernel), (show kitB "dict" "bool" = some false by decide +kernel), (show kitB "dict" "tuple" = some false by decide +kernel), (show kitB "dict" "list" = some false by decide +kernel)⟩
def spWholeD (K : PySem.W.Frag) : Sp := fun vs H Q _ => ∃ (v : V) (d : PyData), vs = [v] ∧ Dx K Any H v d ∧ Q (.bl (wholeD d)) H
def spFromToD (K : PySem.W.Frag) : Sp := fun vs H Q _ => ∃ (v : V) (d : PyData) (a b : Int), vs = [v, .int a, .int b] ∧ Dx K Any H v d ∧ Q (.bl (fromD d a b)) H
def spWorthD (K : PySem.W.Frag) : Sp := fun vs H Q _ => ∃ (v : V) (d : PyData), vs = [v] ∧ Dx K Any H v d ∧ Q (.bl (fromD d 0 96)) H
theorem vint_eq (a b : Int) : decide (V.int a = V.int b) = decide (a = b) := decide_eq_decide.mpr ⟨fun h => by injection h, fun h => by rw [h]⟩
/-- an error of the class at S is what «except S» names -/
theorem exm_self {K : PySem.W.Frag} {S : Addr} (h1 : PySem.W.subIn K (.ref S) (.type "BaseException") = some true) (h2 : PySem.W.isClsIn K S = true) (h3 : PySem.W.typeIn K (.ref S) = some (.type "type")) (h4 : PySem.W.subIn K (.ref S) (.ref S) = some true) :
    PySem.W.exmOne K (.ref S) (.ref S) = some true := by
  have e1 : (PySem.W.subIn K (.ref S) (.type "BaseException") == some true) = true := by rw [h1] <;> rfl
  have e2 : ((PySem.W.clsIn K S).isSome && PySem.W.typeIn K (.ref S) == some (.type "type")) = true := by
    have h2' : (PySem.W.clsIn K S).isSome = true := h2
    rw [h2', h3] <;> rfl
  show (if (PySem.W.subIn K (.ref S) (.type "BaseException") == some true) = true then (if ((PySem.W.clsIn K S).isSome && PySem.W.typeIn K (.ref S) == some (.type "type")) = true then PySem.W.subIn K (.ref S) (.ref S) else none) else none) = some true
  rw [if_pos e1, if_pos e2]
  exact h4
/-- what the top tells of a class under LagError that has nothing of its own -/
structure PEx (K : PySem.W.Frag) (mg : Str → Option Value) (x : Str) (C : Addr) : Prop where
  g : mg x = some (.ref C)
  q : PySem.W.excIn K C [.type "ValueError", .type "Exception", .type "BaseException", .type "object"] "ValueError.__new__" = true
  k : PySem.W.keepIn K (.ref C) = true
  e : PySem.W.subIn K (.ref C) (.type "BaseException") = some true
  t : PySem.W.typeIn K (.ref C) = some (.type "type")
  te : PySem.W.exmOne K (.ref C) (.ref C) = some true
theorem fn_cx0 {P : Program} {w : World} {K : PySem.W.Frag} {mg : Str → Option Value} {base : Heap} {CX : CXT} {k : Nat} {f : Addr} {fd : FuncData} {ps : List Str} {sp : Sp} (F : FnOk P w K mg base CX0 k f fd ps sp) : FnOk P w K mg base CX k f fd ps sp :=
  ⟨F.len, fun A outer s H args us vs Q E hr he hb hv hs => codeAny_mono (F.run A outer s H args us vs Q E hr he hb hv hs) fun r s' h => by
    cases r with
    | error e => exact False.elim h
    | ok fl =>
      cases fl with
      | ret u => exact h
      | next => exact False.elim h
      | brk => exact False.elim h
      | cont => exact False.elim h⟩
theorem fn_or {P : Program} {w : World} {K : PySem.W.Frag} {mg : Str → Option Value} {base : Heap} {CX : CXT} {k : Nat} {f : Addr} {fd : FuncData} {ps : List Str} {sp sp' : Sp} (F : FnOk P w K mg base CX k f fd ps sp) (F' : FnOk P w K mg base CX k f fd ps sp') : FnOk P w K mg base CX k f fd ps (fun vs H Q E => sp vs H Q E ∨ sp' vs H Q E) :=
  ⟨fun vs H Q E h => h.elim (F.len vs H Q E) (F'.len vs H Q E), fun A outer s H args us vs Q E hr he hb hv hs => hs.elim (F.run A outer s H args us vs Q E hr he hb hv) (F'.run A outer s H args us vs Q E hr he hb hv)⟩
/-! ### what is no row -/
/-- is this a row of n worths -/
def rowD (n : Nat) : PyData → Bool
  | .list ds => decide (ds.length = n) && ds.all fun d => fromD d 0 96
  | _ => false
/-- a row asked of a net, which is none -/
def NoRowAt (K : PySem.W.Frag) (C CR : Addr) (p : Addr) (v : V) (H : Hp) (E : XK) : Prop := ∃ (ng nw : Addr) (gs : List Gt) (ws : List Wr) (d : PyData), NetAt K C H p ng nw gs ws ∧ gs.length ≤ 1000 ∧ Dx K Any H v d ∧ rowD (plc gs "in" gs.length).length d = false ∧ ∀ H', Same H H' → E (.ref CR) none H'
def spRowX (K : PySem.W.Frag) (C CR : Addr) : Sp := fun vs H Q E => ∃ (p : Addr) (v : V), vs = [.ref p, v] ∧ NoRowAt K C CR p v H E
section
variable {P : Program} {w : World} {K : PySem.W.Frag} {mg : Str → Option Value} {base : Heap}
theorem ok_wholeD {f : Addr} {fd : FuncData} (F : Fun K "is_whole" "is_whole" sWhole f fd) (B : Bt mg) : FnOk P w K mg base CX0 1 f fd ["thing"] (spWholeD K) := by
  refine F.ok scWhole (fun vs H Q E h => ?_) (fun cdv A outer s H vs Q E hr h => ?_)
  · obtain ⟨v, d, rfl, _⟩ := h
    rfl
  · obtain ⟨v, d, rfl, hd, q⟩ := h
    refine ⟨_, pss_one <| ps_ret <| pe_and (pe_callB call_isi (by rfl) B.isi (by decide +kernel) (pa_cons (pv 0) (pa_cons (pe_bltn (v := .ty "int") (by rfl) B.int (by decide +kernel) rfl) pa_nil)))
      (pe_one (pe_not (pe_callB call_isi (by rfl) B.isi (by decide +kernel) (pa_cons (pv 0) (pa_cons (pe_bltn (v := .ty "bool") (by rfl) B.bool (by decide +kernel) rfl) pa_nil))))), ?_⟩
    obtain ⟨t, ty, k1, k2, _⟩ := hd.ty
    rw [whole_is] at q
    refine ⟨_, rfl, _, _, _, _, dI d, rfl, .ty "int", ty, kit_ty k1, dI d, rfl, ite2 (fun e1 => ?_) (fun e1 => ?_)⟩
    · rw [e1] at q
      exact ⟨_, rfl, _, _, _, _, dB d, rfl, .ty "bool", ty, kit_ty k2, dB d, rfl, q⟩
    · have e2 : dI d = false := by simpa using e1
      rw [e2] at q
      exact q
theorem ok_fromToD {f fW : Addr} {fd fdW : FuncData} (F : Fun K "is_whole_from_to" "is_whole_from_to" sFromTo f fd) (DW : DWhole P w K mg base fW fdW) (DX : FnOk P w K mg base CX0 1 fW fdW ["thing"] (spWholeD K)) : FnOk P w K mg base CX0 2 f fd ["thing", "least", "greatest"] (spFromToD K) := by
  refine F.ok scFromTo (fun vs H Q E h => ?_) (fun cdv A outer s H vs Q E hr h => ?_)
  · obtain ⟨v, d, a, b, rfl, _⟩ := h
    rfl
  · obtain ⟨v, d, a, b, rfl, hd, q⟩ := h
    have hr1 : Room 1 _ := hr.mono (by decide)
    refine ⟨_, pss_one <| ps_ret <| pe_and (pe_call DX hr1 (by rfl) DW.mg DW.kp DW.bd .nil pass0 (pa_cons (pv 0) pa_nil)) (pe_one (pe_chain op_le op_le (pv 1) (pv 0) (pv 2))), ?_⟩
    refine ⟨_, rfl, v, d, rfl, hd, wholeD d, rfl, ?_⟩
    cases hd with
    | int n =>
      refine iteT ?_
      refine ⟨_, rfl, _, rfl, _, _, rfl, rfl, _, rfl, ?_⟩
      have q : Q (.bl (decide (a ≤ n) && decide (n ≤ b))) H := q
      cases e : decide (a ≤ n) with
      | false =>
        rw [e] at q
        exact iteF q
      | true =>
        rw [e] at q
        exact iteT ⟨_, rfl, _, _, rfl, rfl, q⟩
    | bl b' => exact iteF q
    | non => exact iteF q
    | str x => exact iteF q
    | tup s a => exact iteF q
    | lst s n a => exact iteF q
    | dic e => exact iteF q
theorem ok_worthD {f fF aK aW aF : Addr} {fd fdF : FuncData} (F : Fun K "is_worth" "is_worth" sWorth f fd) (C : Cns K mg aK aW aF) (DF : DFromTo P w K mg base fF fdF) (DX : FnOk P w K mg base CX0 2 fF fdF ["thing", "least", "greatest"] (spFromToD K)) : FnOk P w K mg base CX0 3 f fd ["thing"] (spWorthD K) := by
  obtain ⟨tg, hgw⟩ := C.gw
  refine F.ok scWorth (fun vs H Q E h => ?_) (fun cdv A outer s H vs Q E hr h => ?_)
  · obtain ⟨v, d, rfl, _⟩ := h
    rfl
  · obtain ⟨v, d, rfl, hd, q⟩ := h
    refine ⟨_, pss_one <| ps_ret <| pe_call DX hr (by rfl) DF.mg DF.kp DF.bd .nil pass0 <| pa_cons (pv 0) <| pa_cons pe_int <| pa_cons (pe_glob (v := .int 96) (by rfl) hgw ⟨_, rfl⟩) pa_nil, ?_⟩
    exact ⟨_, rfl, v, d, 0, 96, rfl, hd, q⟩
theorem ok_chkRowX {f fW fN C CR : Addr} {fd fdW fdN : FuncData} (F : Fun K "check_row" "check_row" sChkRow f fd) (B : Bt mg) (T : NT K mg C) (DW : DWorth P w K mg base fW fdW) (DX : FnOk P w K mg base CX0 3 fW fdW ["thing"] (spWorthD K)) (ins : FnOk P w K mg base CX0 2 fN fdN ["self"] (spPorts K C "in")) (mN : Meth K C "ins" fN) (bN : Binds K fdN ["self"] []) (NR : PEx K mg "NoRow" CR) : FnOk P w K mg base (L2.CX P w) 4 f fd ["net", "row"] (spRowX K C CR) := by
  refine F.okX scChkRow (fun vs H Q E h => ?_) (fun cdv A outer s H vs Q E hr h => ?_)
  · obtain ⟨p, v, rfl, _⟩ := h
    rfl
  · obtain ⟨p, v, rfl, ng, nw, gs, ws, d, N, hgl, hd, bad, q⟩ := h
    have nd := scChkRow.nd
    have hr2 : Room 2 _ := hr.mono (by decide)
    refine ⟨_, pss_cons (ps_if (PW.pt (pw_or (pt_not (pt_val (pe_callB call_isi (by rfl) B.isi (by decide +kernel) (pa_cons (pv 1) (pa_cons (pe_bltn (v := .ty "list") (by rfl) B.list (by decide +kernel) rfl) pa_nil)))))
          (pw_or1 (pt_cmpR op_ne (pe_callB call_len_seq (by rfl) B.len PySem.boot_len (pa_cons (pv 1) pa_nil)) (pe_callB call_len_seq (by rfl) B.len PySem.boot_len (pa_cons (pe_meth0 (pv 0) T.cl mN ins hr2 bN .nil pass0) pa_nil)) (nomark _))))) (pss_one (ps_raise rfl (takes_of rfl rfl rfl rfl) (pmk_own PySem.F.excBase_ValueError NR.q NR.g NR.k (raises_own NR.e NR.t) (by rfl)))) pss_nil) <|
      pss_one <| ps_if (pt_not (pt_val (pe_callB (cr_all rfl) (by rfl) B.all (by decide +kernel) <| (pa_cons · pa_nil) <| pe_lc (own := [("worth", 2)]) (g := gName 2) (tt := tYes) (te := tCall (spWorthD K) [] E0 (tCons (tVar 2) tNil)) rfl nd (pi_list (pv 1)) (blkOk_by (N := nChkRow) (sc := defScope sChkRow) (own := [("worth", 2)]) (by decide +kernel))
          (fun _ _ _ _ _ => pg_name (i := 2) nd rfl (.inl rfl)) (fun _ _ _ _ _ => pts_nil) (fun _ _ _ _ _ => pe_call DX hr (by rfl) DW.mg DW.kp DW.bd .nil pass0 (pa_cons (pv 2) pa_nil))))) (pss_one (ps_raise rfl (takes_of rfl rfl rfl rfl) (pmk_own PySem.F.excBase_ValueError NR.q NR.g NR.k (raises_own NR.e NR.t) (by rfl)))) pss_nil, ?_⟩
    obtain ⟨dx, ob⟩ := N.ob
    have hpl := plc_len gs "in" gs.length
    obtain ⟨t, ty, _, _, _, k4⟩ := hd.ty
    refine ⟨_, rfl, _, _, _, _, dL d, rfl, .ty "list", ty, kit_ty k4, dL d, rfl, ?_⟩
    cases eL : dL d with
    | false => exact q H (Same.refl H)
    | true =>
    refine iteF ?_
    cases hd with
    | @lst lr xs ds el _ al =>
      have a2 := al.all2
      have hlx : xs.length = ds.length := a2.1
      have sr : SqL K H lr xs := SqL.of el
      refine ⟨_, rfl, lr, _, rfl, .inl sr, _, rfl, p, dx, _, rfl, ob, nf_no _ _ (by decide +kernel) (by decide +kernel), p, ng, nw, gs, ws, rfl, N, hgl, fun l1 H1 hl1 sm1 el1 => ?_⟩
      refine ⟨l1, _, rfl, .inl (SqL.of el1), rfl, !decide (ds.length = (plc gs "in" gs.length).length), ?_, ?_⟩
      · show V.bl (!decide (V.int ((xs.length : Nat) : Int) = V.int ((((plc gs "in" gs.length).map fun i => V.int (i : Nat)).length : Nat) : Int))) = _
        rw [vint_eq, List.length_map, hlx]
        exact congrArg (fun b => V.bl (!b)) (decide_eq_decide.mpr ⟨fun h => by omega, fun h => by omega⟩)
      by_cases en : ds.length = (plc gs "in" gs.length).length
      · rw [decide_eq_true en]
        refine iteF ?_
        refine ⟨_, rfl, lr, rfl, ⟨_, sm1.seq sr⟩, fun D hD => ?_⟩
        refine lc_list (K := K) (a := lr) (xs := xs) (fun i Hc => Hc D = some (.lst ((ds.take i).map fun d => V.bl (fromD d 0 96))) ∧ Same H1 Hc) ⟨upd_same, same_new hD⟩ (fun i Hc _ ⟨_, sm⟩ => (sm1.trans sm).seq sr) ?_ ?_
        · rintro i y Hc hy ⟨hc, sm⟩
          obtain ⟨z, ez, hz⟩ := a2.get hy
          have hi : i < ds.length := (List.getElem?_eq_some_iff.mp ez).1
          refine ⟨rfl, tyes ?_⟩
          refine ⟨_, rfl, y, z, rfl, hz.same (sm1.trans sm), _, hc, (by rw [List.length_map, List.length_take]; exact small1000 (by omega)), ?_, same_mut sm hD⟩
          rw [upd_same, List.take_add_one, ez, List.map_append]
          rfl
        · rintro Hc ⟨hc, sm⟩
          rw [hlx, List.take_length] at hc
          have hb : ds.all (fun d => fromD d 0 96) = false := by
            have b2 : (decide (ds.length = (plc gs "in" gs.length).length) && ds.all fun d => fromD d 0 96) = false := bad
            rw [decide_eq_true en, Bool.true_and] at b2
            exact b2
          refine ⟨D, ds.map fun d => fromD d 0 96, rfl, ?_, false, ?_, iteT (q Hc (sm1.trans sm))⟩
          · rw [List.map_map]
            exact SqL.of hc
          · rw [List.all_map]
            exact congrArg V.bl hb
      · rw [decide_eq_false en]
        exact iteT (q H1 sm1)
    | _ => cases eL
theorem ok_worthsX {f fR C CR : Addr} {fd fdR : FuncData} (F : Fun K "worths" "worths" sWorths f fd) (DR : DChkRow P w K mg base C fR fdR) (DX : FnOk P w K mg base (L2.CX P w) 4 fR fdR ["net", "row"] (spRowX K C CR)) : FnOk P w K mg base (L2.CX P w) 5 f fd ["net", "row"] (spRowX K C CR) := by
  refine F.okX scWorths (fun vs H Q E h => ?_) (fun cdv A outer s H vs Q E hr h => ?_)
  · obtain ⟨p, v, rfl, _⟩ := h
    rfl
  · obtain ⟨p, v, rfl, h⟩ := h
    refine ⟨_, pss_cons (ps_expr (pe_callS DX hr (by rfl) DR.mg DR.kp DR.bd (fun σ => passAt (takes_of rfl rfl rfl rfl) σ) (pa_cons (pv 0) (pa_cons (pv 1) pa_nil)))) <| pss_cons ps_never <| pss_cons ps_never <| pss_cons ps_never <| pss_one ps_never, ?_⟩
    exact ⟨_, rfl, _, rfl, p, v, rfl, h⟩
theorem ok_beatX {f fW C CR : Addr} {fd fdW : FuncData} (F : Fun K "beat" "beat" sBeat f fd) (DW : DWorths P w K mg base C fW fdW) (DX : FnOk P w K mg base (L2.CX P w) 5 fW fdW ["net", "row"] (spRowX K C CR)) : FnOk P w K mg base (L2.CX P w) 9 f fd ["net", "row"] (spRowX K C CR) := by
  refine F.okX scBeat (fun vs H Q E h => ?_) (fun cdv A outer s H vs Q E hr h => ?_)
  · obtain ⟨p, v, rfl, _⟩ := h
    rfl
  · obtain ⟨p, v, rfl, h⟩ := h
    have nd := scBeat.nd
    refine ⟨_, pss_cons (ps_set (i := 2) nd rfl (Or.inr rfl) (pe_callS DX (hr.mono (by decide)) (by rfl) DW.mg DW.kp DW.bd (fun σ => passAt (takes_of rfl rfl rfl rfl) σ) (pa_cons (pv 0) (pa_cons (pv 1) pa_nil)))) <| pss_one ps_never, ?_⟩
    exact ⟨_, rfl, _, rfl, p, v, rfl, h⟩
end
end Lag

set_option maxRecDepth 100000
set_option maxHeartbeats 8000000
namespace Lag
open PySem PySem.Spec PyProof.Rows L2
/-- rows asked of a net, which are none: no list, or one that holds what is no row behind rows -/
def spRunX (K : PySem.W.Frag) (C CR : Addr) : Sp := fun vs H Q E => ∃ (p ng nw : Addr) (v : V) (gs : List Gt) (ws : List Wr), vs = [.ref p, v] ∧ NetAt K C H p ng nw gs ws ∧ NetOk gs ws ∧
  ((∃ d, Dx K Any H v d ∧ dL d = false) ∨ ∃ (lr : Addr) (xs : List V) (rss : List (List Int)) (n : Nat) (u : V) (d : PyData), v = .ref lr ∧ H lr = some (.lst xs) ∧ xs.length ≤ 1000 ∧ All2 (RowV K H) (xs.take n) rss ∧ (∀ rs ∈ rss, RowOk gs rs) ∧ xs[n]? = some u ∧ Dx K Any H u d ∧ rowD (plc gs "in" gs.length).length d = false) ∧
  ∀ H', Same H H' → E (.ref CR) none H'
section
variable {P : Program} {w : World} {K : PySem.W.Frag} {mg : Str → Option Value} {base : Heap}
theorem ok_runX {f fB fI C CR : Addr} {fd fdB fdI : FuncData} (F : Fun K "run" "run" sRun f fd) (B : Bt mg) (T : NT K mg C) (DB : DBeat P w K mg base C fB fdB) (DX : FnOk P w K mg base (L2.CX P w) 9 fB fdB ["net", "row"] (spRowX K C CR)) (MK : Mk K C fI) (init : FnOk P w K mg base CX0 6 fI fdI ["self", "gates", "wires"] (spInit K C)) (bI : Binds K fdI ["self", "gates", "wires"] []) (NR : PEx K mg "NoRow" CR) : FnOk P w K mg base (L2.CX P w) 10 f fd ["net", "rows"] (spRunX K C CR) := by
  refine F.okX scRun (fun vs H Q E h => ?_) (fun cdv A outer s H vs Q E hr h => ?_)
  · obtain ⟨p, ng, nw, v, gs, ws, rfl, _⟩ := h
    rfl
  · obtain ⟨p, ng, nw, v, gs, ws, rfl, NA, N, h, q⟩ := h
    have nd := scRun.nd
    have hr7 : Room 7 _ := hr.mono (by decide)
    refine ⟨_, pss_cons (ps_if (pt_not (pt_val (pe_callB call_isi (by rfl) B.isi (by decide +kernel) (pa_cons (pv 1) (pa_cons (pe_bltn (v := .ty "list") (by rfl) B.list (by decide +kernel) rfl) pa_nil))))) (pss_one (ps_raise rfl (takes_of rfl rfl rfl rfl) (pmk_own PySem.F.excBase_ValueError NR.q NR.g NR.k (raises_own NR.e NR.t) (by rfl)))) pss_nil) <|
      pss_cons (ps_set (i := 2) nd rfl (.inl rfl) (pe_make MK init hr7 (by rfl) T.mg bI .nil pass0 (pa_cons (pe_fld (pv 0) rfl) (pa_cons (pe_fld (pv 0) rfl) pa_nil)))) <|
      pss_cons (ps_set (i := 3) nd rfl (.inl rfl) (pe_lst pa_nil)) <|
      pss_cons (ps_for (passes_of rfl) rfl (pi_list (pv 1)) (pg_name (i := 4) nd rfl (.inl rfl)) <|
        pss_cons (ps_asg (pe_callS (fn_or (fn_cx0 DB.ok) DX) hr (by rfl) DB.mg DB.kp DB.bd (fun σ => passAt (takes_of rfl rfl rfl rfl) σ) (pa_cons (pv 2) (pa_cons (pv 4) pa_nil))) (pg_tup (by rfl) (pgs_cons (pg_name (i := 2) nd rfl (.inl rfl)) (pgs_cons (pg_name (i := 5) nd rfl (.inl rfl)) pgs_nil)))) <|
        pss_one <| ps_expr (pe_bm PySem.F.plainAttrs_list PySem.F.slot_list_append PySem.F.type_list_append mt_append (pv 3) (pa_cons (pv 5) pa_nil))) <|
      pss_one <| ps_never, ?_⟩
    rcases h with ⟨d, hd, el⟩ | ⟨lr, xs, rss, n, u, d, rfl, hxs, hxl, ra, hro, hun, hd, bad⟩
    · obtain ⟨t, ty, _, _, _, k4⟩ := hd.ty
      rw [el] at k4
      refine ⟨_, rfl, _, _, _, _, false, rfl, .ty "list", ty, kit_ty k4, false, rfl, iteT (q H (Same.refl H))⟩
    · have sr : SqL K H lr xs := SqL.of hxs
      have hgl := N.gl
      obtain ⟨dx, ob⟩ := NA.ob
      refine ⟨_, rfl, _, _, _, _, true, rfl, .ty "list", ty_lst sr, kit_ty (by decide +kernel), true, rfl, iteF ?_⟩
      refine ⟨_, rfl, p, C, dx, _, _, rfl, ob, T.cl, T.nG, nf_gates _ _, _, rfl, p, C, dx, _, _, rfl, ob, T.cl, T.nW, nf_wires _ _, ?_⟩
      refine net_in NA.g.rg NA.w.rw N fun p1 ng1 nw1 H1 NA1 s1 hp1 hng1 hnw1 => ?_
      refine ⟨Nat.zero_le _, fun D hD => ?_⟩
      have hD0 : H D = none := s1.free hD
      have s2 := s1.trans (same_new (o := .lst []) hD)
      have NA2 := NA1.same (same_new (o := .lst []) hD)
      obtain ⟨g1, hg1, _⟩ := id NA1.g
      obtain ⟨w1, hw1, _⟩ := id NA1.w
      have hn : n < xs.length := (List.getElem?_eq_some_iff.mp hun).1
      refine ⟨_, rfl, lr, rfl, ⟨_, s2.seq sr⟩, for_list (K := K) (a := lr) (xs := xs) (fun i σ H' => i ≤ n ∧ ∃ (s4 s5 : Option V) (pn gn wn : Addr) (wm : List Wr) (tv : List V), σ = [some (.ref p), some (.ref lr), some (.ref pn), some (.ref D), s4, s5] ∧
          NetAt K C H' pn gn wn gs wm ∧ NetOk gs wm ∧ Same H H' ∧ H' D = some (.lst tv) ∧ tv.length = i ∧ gn ≠ D ∧ wn ≠ D)
        ⟨Nat.zero_le _, _, _, p1, ng1, nw1, ws, [], rfl, NA2, N, s2, upd_same, rfl, ne_of_none hg1 hD, ne_of_none hw1 hD⟩ (fun i σ H' _ ⟨_, _, _, _, _, _, _, _, _, _, _, sm, _⟩ => sm.seq sr) ?_ ?_⟩
      · rintro i v σ H' hv ⟨hin, s4, s5, pn, gn, wn, wm, tv, rfl, NAn, Nm, sm, eD, htl, ngD, nwD⟩
        by_cases ein : i = n
        · subst ein
          rw [hun] at hv
          cases hv
          exact ⟨_, rfl, _, rfl, .inr ⟨pn, _, rfl, gn, wn, gs, wm, d, NAn, by omega, hd.same sm, bad, fun H2 s3 => q H2 (sm.trans s3)⟩⟩
        · have hlt : i < n := by omega
          obtain ⟨rs, hrs, a, rfl, sq⟩ := ra.get (by rw [List.getElem?_take_of_lt hlt]; exact hv)
          have hro' := hro rs (List.mem_of_getElem? hrs)
          refine ⟨_, rfl, _, rfl, .inl ⟨pn, gn, wn, a, gs, wm, rs, rfl, NAn, Nm, sm.seq sq, hro'.1, hro'.2, fun t p' ng' nw' lo H2 ts s3 iw wt NA' elo et hp' hng' hnw' hlo => ?_⟩⟩
          refine ⟨t, _, rfl, .inl (.inl et), rfl, _, _, rfl, _, _, rfl, rfl, ?_⟩
          have llD := s3 _ _ eD
          have ng'D : ng' ≠ D := fun z => by
            rw [z, eD] at hng'
            cases hng'
          have nw'D : nw' ≠ D := fun z => by
            rw [z, eD] at hnw'
            cases hnw'
          refine ⟨_, rfl, .inl ⟨rfl, _, SqL.of llD⟩, _, rfl, D, _, _, rfl, rfl, llD, by rw [htl]; exact small1000 (by omega), ?_⟩
          exact ⟨by omega, _, _, p', ng', nw', wm.map (bh ts), tv ++ [_], rfl, NA'.mut llD ng'D nw'D, Nm.behind wt, same_mut (sm.trans s3) hD0, upd_same, by rw [List.length_append, htl]; rfl, ng'D, nw'D⟩
      · rintro σ H' ⟨hin, _⟩
        exact absurd hin (by omega)
end
end Lag

set_option maxRecDepth 100000
set_option maxHeartbeats 8000000
namespace Lag
open PySem PySem.Spec PyProof.Rows L2
abbrev sTEinit : Stmt := inClass (topS 9 /- @TooEarly -/) 0
abbrev sNLinit : Stmt := inClass (topS 7 /- @NotLet -/) 0
/-! ### an exception with its own __init__, which calls that of LagError -/
section
variable {X : Cx} {e : Expr} {es : List Expr} {ta : TA} {p1 p2 pos : Pos}
theorem pe_leinit {x : Str} {C0 : Addr} {pl : Sem Bool} (hg : Gl X x) (hm : X.mg x = some (.ref C0)) (gA : PySem.W.specialIn X.K (.ref C0) "__getattribute__" = some (some (.builtin "type.__getattribute__"))) (tC : PySem.W.typeIn X.K (.ref C0) = some (.type "type")) (rC : PySem.W.readsIn X.K C0 (.type "type") = true)
    (vV : PySem.W.findCls X.K (.ref C0) (.type "type") "__init__" = some (.val (.builtin "ValueError.__init__"))) (ha : PA X (e :: es) ta) (hdb : (x == ("__debug__" : Str)) = false := by decide)
    (hc : eval (.Call (.Attribute (.Name x p1) "__init__" p2) (e :: es) [] pos) X.env = (do
      let ov ← eval (.Name x p1) X.env
      standAt p2.atName
      let (f, first) ← holding [ov] (getMethod ov "__init__" pl)
      callWith pos f first (backTo pos (starEach (e :: es) X.env)) (backToKw pos (keywordEach [] X.env))) := by rfl)
    (he : starEach (e :: es) X.env = (false, eval e X.env) :: starEach es X.env := by rfl) (hpl : (backTo pos (starEach es X.env)).any (·.1) = false := by rfl) :
    PE X (.Call (.Attribute (.Name x p1) "__init__" p2) (e :: es) [] pos) (tVeI X.K ta) := by
  refine ⟨fun pins s σ H Q I h => ?_⟩
  refine PySem.W.methodCall_KW (ld_glob I hg hm ?_ hdb) hc
  obtain ⟨m, fr⟩ := I.fr
  refine PySem.W.method_of_cls fr I.ok.mod.kin gA (PySem.W.cls_val fr I.ok.mod.kin tC rC vV (by decide +kernel) ?_)
  show wpAny _ _ (callWith pos (Value.builtin "ValueError.__init__") [] (backTo pos (starEach (e :: es) X.env)) []) _ _ _
  refine PyProof.Rows.callWith_method1 (thn (ha.run pos pins _ σ H _ (I.tok _) h) fun us s1 ⟨vs, H1, I1, r1, a, C, ws, ev, hl, T, ea, q⟩ => ?_) he hpl
  subst ev
  cases r1 with
  | @cons _ u0 _ ur ra rw' =>
    obtain rfl : u0 = Value.ref a := ra
    have hlen : ur.length ≤ sizeLine := by
      rw [← Paired.length rw', sizeLine_eq]
      omega
    exact oinit_ok T I1 ea hlen fun s' J => ⟨.non, H1, J, rfl, q⟩
end
/-- what the top tells of LagError -/
structure LEx (K : PySem.W.Frag) (mg : Str → Option Value) (C0 : Addr) : Prop where
  g : mg "LagError" = some (.ref C0)
  gA : PySem.W.specialIn K (.ref C0) "__getattribute__" = some (some (.builtin "type.__getattribute__"))
  tC : PySem.W.typeIn K (.ref C0) = some (.type "type")
  rC : PySem.W.readsIn K C0 (.type "type") = true
  vV : PySem.W.findCls K (.ref C0) (.type "type") "__init__" = some (.val (.builtin "ValueError.__init__"))
/-- .. and of a class under it with a field of its own -/
structure TEx (K : PySem.W.Frag) (mg : Str → Option Value) (x f : Str) (C fI : Addr) : Prop where
  g : mg x = some (.ref C)
  T : OexC K C
  iC : PySem.W.findIn K (.ref C) "__init__" = some (some (.ref fI))
  tI : PySem.W.typeIn K (.ref fI) = some (.type "function")
  no : PySem.W.findIn K (.ref C) f = some none
  xf : XfC K C
  te : PySem.W.exmOne K (.ref C) (.ref C) = some true
def spXI (f : Str) (C : Addr) : Sp := fun vs H Q _ => ∃ (a : Addr) (v : V), vs = [.ref a, v] ∧ H a = some (exo a C none) ∧ ∀ dx, H dx = none → dx ≠ a → Q .non (upd (upd H dx (exd dx [(f, v)])) a (exo a C (some dx)))
theorem mk_heap {H : Hp} {a d : Addr} {o1 o2 o3 o : HO} (ha : H a = none) (hd : d ≠ a) : upd (del (upd (upd (upd H a o1) d o2) a o3) a) d o = upd H d o := by
  funext b
  by_cases hb : b = d
  · rw [hb, upd_same, upd_same]
  · rw [upd_ne hb, upd_ne hb]
    by_cases hba : b = a
    · rw [hba, del_same, ha]
    · rw [del_ne hba, upd_ne hba, upd_ne hb, upd_ne hba]
theorem ints_inj {a b : List Int} (h : a.map V.int = b.map V.int) : a = b := by
  have := congrArg (List.map fun v : V => match v with | .int i => i | _ => 0) h
  rw [List.map_map, List.map_map] at this
  have e : ∀ l : List Int, List.map ((fun v : V => match v with | .int i => i | _ => 0) ∘ V.int) l = l := fun l => by
    induction l with
    | nil => rfl
    | cons x l ih => rw [List.map_cons, ih] <;> rfl
  rwa [e, e] at this

/-- the first of these that is below 0 -/
def FirstNeg (cs : List Int) (pl : Nat) : Prop := ∃ c, cs[pl]? = some c ∧ c < 0 ∧ ∀ (j : Nat) (c' : Int), j < pl → cs[j]? = some c' → 0 ≤ c'
def spMovedX (K : PySem.W.Frag) (C CT : Addr) : Sp := fun vs H Q E => ∃ (p ng nw ll lr : Addr) (gs : List Gt) (ws : List Wr) (ls : List Int) (rv : List V) (rss : List (List Int)) (mm : Int), vs = [.ref p, .ref ll, .ref lr] ∧ NetAt K C H p ng nw gs ws ∧ NetOk gs ws ∧ SqL K H ll (ls.map V.int) ∧ LagOk gs ls ∧ LetOk ws ls ∧ H lr = some (.lst rv) ∧ All2 (RowV K H) rv rss ∧ (∀ rs ∈ rss, RowOk gs rs) ∧ rss.length ≤ 400 ∧ mm ∈ ls ∧ (∀ y ∈ ls, y ≤ mm) ∧ ((rss.length : Nat) : Int) < mm ∧
  ∀ d H', Same H H' → H' d = none → E (.ref CT) (some d) (upd H' d (.xd [(("rows" : Str), .int mm)]))
section
variable {P : Program} {w : World} {K : PySem.W.Frag} {mg : Str → Option Value} {base : Heap}
theorem scNLinit : FnScope ["self", "wire"] ["self", "wire"] (defScope sNLinit) := ⟨rfl, rfl, rfl, by decide +kernel, rfl, by decide +kernel, by decide +kernel⟩
theorem ok_nlInit {f C0 C fI : Addr} {fd : FuncData} (F : Fun K "__init__" "NotLet.__init__" sNLinit f fd) (L : LEx K mg C0) (TE : TEx K mg "NotLet" "wire" C fI) : FnOk P w K mg base CX0 1 f fd ["self", "wire"] (spXI "wire" C) := by
  refine F.ok scNLinit (fun vs H Q E h => ?_) (fun cdv A outer s H vs Q E hr h => ?_)
  · obtain ⟨a, v, rfl, _⟩ := h
    rfl
  · obtain ⟨a, v, rfl, ha, q⟩ := h
    refine ⟨_, pss_cons (ps_expr (pe_leinit (by rfl) L.g L.gA L.tC L.rC L.vV (pa_cons (pv 0) (pa_cons pe_str pa_nil)))) <| pss_one (ps_ost (pv 0) (pv 1)), ?_⟩
    exact ⟨_, rfl, a, C, _, rfl, (by show 1 ≤ 1000; decide), TE.T, ha, _, rfl, _, rfl, a, C, rfl, TE.T, TE.no, .inl ⟨ha, fun dx hdx ne => q dx hdx ne⟩⟩
theorem scTEinit : FnScope ["self", "rows"] ["self", "rows"] (defScope sTEinit) := ⟨rfl, rfl, rfl, by decide +kernel, rfl, by decide +kernel, by decide +kernel⟩
theorem ok_teInit {f C0 C fI : Addr} {fd : FuncData} (F : Fun K "__init__" "TooEarly.__init__" sTEinit f fd) (L : LEx K mg C0) (TE : TEx K mg "TooEarly" "rows" C fI) : FnOk P w K mg base CX0 1 f fd ["self", "rows"] (spXI "rows" C) := by
  refine F.ok scTEinit (fun vs H Q E h => ?_) (fun cdv A outer s H vs Q E hr h => ?_)
  · obtain ⟨a, v, rfl, _⟩ := h
    rfl
  · obtain ⟨a, v, rfl, ha, q⟩ := h
    refine ⟨_, pss_cons (ps_expr (pe_leinit (by rfl) L.g L.gA L.tC L.rC L.vV (pa_cons (pv 0) (pa_cons pe_str pa_nil)))) <| pss_one (ps_ost (pv 0) (pv 1)), ?_⟩
    exact ⟨_, rfl, a, C, _, rfl, (by show 1 ≤ 1000; decide), TE.T, ha, _, rfl, _, rfl, a, C, rfl, TE.T, TE.no, .inl ⟨ha, fun dx hdx ne => q dx hdx ne⟩⟩
theorem ok_movedX {f fL fR fM fI C CT fT : Addr} {fd fdL fdR fdM fdI fdT : FuncData} (F : Fun K "moved" "moved" sMoved f fd) (B : Bt mg) (mn : mg "min" = none) (T : NT K mg C) (DL : DLetCounts P w K mg base C fL fdL) (DR : DRun P w K mg base C fR fdR) (DM : DMore P w K mg base C fM fdM)
    (MK : Mk K C fI) (init : FnOk P w K mg base CX0 6 fI fdI ["self", "gates", "wires"] (spInit K C)) (bI : Binds K fdI ["self", "gates", "wires"] []) (TE : TEx K mg "TooEarly" "rows" CT fT) (teI : FnOk P w K mg base CX0 1 fT fdT ["self", "rows"] (spXI "rows" CT)) (bT : Binds K fdT ["self", "rows"] []) : FnOk P w K mg base (L2.CX P w) 11 f fd ["net", "lags", "rows"] (spMovedX K C CT) := by
  refine F.okX scMoved (fun vs H Q E h => ?_) (fun cdv A outer s H vs Q E hr h => ?_)
  · obtain ⟨p, ng, nw, ll, lr, gs, ws, ls, rv, rss, mm, rfl, _⟩ := h
    rfl
  · obtain ⟨p, ng, nw, ll, lr, gs, ws, ls, rv, rss, mm, rfl, NA, N, sl, lok, lt, hlr, ra, hro, hrl, hm1, hm2, hlt, q⟩ := h
    have nd := scMoved.nd
    have hr9 : Room 9 _ := hr.mono (by decide)
    have hr7 : Room 7 _ := hr.mono (by decide)
    have hr5 : Room 5 _ := hr.mono (by decide)
    have hr2 : Room 2 _ := hr.mono (by decide)
    refine ⟨_, pss_cons (ps_set (i := 3) nd rfl (.inl rfl) (pe_call DL.ok hr5 (by rfl) DL.mg DL.kp DL.bd .nil pass0 (pa_cons (pv 0) (pa_cons (pv 1) pa_nil)))) <|
      pss_cons (ps_set (i := 4) nd rfl (.inl rfl) (pe_ix ix_tup (pe_call DR.ok hr (by rfl) DR.mg DR.kp DR.bd .nil pass0 (pa_cons (pv 0) (pa_cons (pv 2) pa_nil))) pe_int (fun _ _ => rfl))) <|
      pss_cons (ps_set (i := 5) nd rfl (.inl rfl) (pe_callB (call_max2 rfl) (by rfl) B.max (by decide +kernel) (pa_cons pe_int (pa_cons (pe_callB (cr_max rfl) (by rfl) B.max (by decide +kernel) (pa_cons (pv 1) pa_nil)) pa_nil)))) <|
      pss_cons (ps_if (pt_cmpR op_lt (pe_callB call_len_seq (by rfl) B.len PySem.boot_len (pa_cons (pv 2) pa_nil)) (pv 5) (nomark _)) (pss_one (ps_raise rfl (takes_of rfl rfl rfl rfl) (pmk_oex TE.T TE.iC TE.tI teI hr2 bT .nil pass0 (by rfl) TE.g (pa_cons (pv 5) pa_nil)))) pss_nil) <|
      pss_cons (ps_set (i := 6) nd rfl (.inl rfl) (pe_call DM.ok hr9 (by rfl) DM.mg DM.kp DM.bd .nil pass0 (pa_cons (pv 0) (pa_cons (pv 2) (pa_cons (pe_callB (call_max2 rfl) (by rfl) B.max (by decide +kernel) (pa_cons pe_int (pa_cons (pe_un un_neg (pe_callB (cr_min rfl) (by rfl) mn (by decide +kernel) (pa_cons (pv 1) pa_nil))) pa_nil))) pa_nil))))) <|
      pss_cons (ps_set (i := 7) nd rfl (.inl rfl) (pe_lst pa_nil)) <|
      pss_cons (ps_for (passes_of rfl) rfl (pi_zip (by rfl) B.zip (pa_cons (pe_fld (pv 0) rfl) (pa_cons (pv 3) pa_nil))) (pg_tup rfl (pgs_cons (pg_tup rfl (pgs_cons (pg_name (i := 8) nd rfl (.inr rfl)) (pgs_cons (pg_name (i := 9) nd rfl (.inl rfl)) (pgs_cons (pg_name (i := 10) nd rfl (.inl rfl)) pgs_nil)))) (pgs_cons (pg_name (i := 11) nd rfl (.inl rfl)) pgs_nil))) <|
        pss_cons (ps_set (i := 13) nd rfl (.inl rfl) (pe_op op_cat (pe_callTy call_list_of (by rfl) B.list (by decide +kernel) (pa_cons (pv 10) pa_nil)) (pe_lc (own := [("told", 12)]) (g := gName 12) (tt := tYes) (te := tOp (rIxL K) (tVar 12) (tVar 8)) rfl nd (pi_list (pv 6)) (blkOk_by (N := nMoved) (sc := defScope sMoved) (own := [("told", 12)]) (by decide +kernel)) (fun _ _ _ _ _ => pg_name (i := 12) nd rfl (.inl rfl)) (fun _ _ _ _ _ => pts_nil) (fun _ _ _ _ _ => pe_ix ix_list (pv 12) (pv 8) (fun _ _ => rfl))))) <|
        pss_cons (ps_set (i := 14) nd rfl (.inl rfl) (pe_op op_sub (pe_callB call_len_seq (by rfl) B.len PySem.boot_len (pa_cons (pv 2) pa_nil)) (pe_ix ix_list (pv 1) (pv 9) (fun _ _ => rfl)))) <|
        pss_one <| ps_expr (pe_bm PySem.F.plainAttrs_list PySem.F.slot_list_append PySem.F.type_list_append mt_append (pv 7) (pa_cons (pe_tup (pa_cons (pv 8) (pa_cons (pv 9) (pa_cons (pe_callTy call_tuple_of (by rfl) B.tuple (by decide +kernel) (pa_cons (pe_slice sl_list (pv 13) (po_some (pv 14)) (po_some (pe_op op_add (pv 14) (pv 11)))) pa_nil)) pa_nil)))) pa_nil))) <|
      pss_one <| ps_ret (pe_tup (pa_cons (pe_make MK init hr7 (by rfl) T.mg bI .nil pass0 (pa_cons (pe_fld (pv 0) rfl) (pa_cons (pv 7) pa_nil))) (pa_cons (pv 4) pa_nil))), ?_⟩
    have hgl := N.gl
    have hwl := N.wl
    have hll := lok.len
    have hln : 0 < ls.length := by
      rw [hll]
      exact List.length_pos_iff.mpr N.ne
    have hlb : ∀ y ∈ ls, -500 ≤ y ∧ y ≤ 500 := fun y hy => by
      obtain ⟨i, hi⟩ := List.getElem?_of_mem hy
      have hil : i < gs.length := by rw [← hll]; exact (List.getElem?_eq_some_iff.mp hi).1
      have := lok.ok i _ y (List.getElem?_eq_getElem hil) hi
      exact ⟨this.1, this.2.1⟩
    have hmem : ∀ y ∈ ls, ∃ g, g < gs.length ∧ lagF ls g = y := fun y hy => by
      obtain ⟨i, hi⟩ := List.getElem?_of_mem hy
      refine ⟨i, by rw [← hll]; exact (List.getElem?_eq_some_iff.mp hi).1, ?_⟩
      unfold lagF
      rw [List.getD_eq_getElem?_getD, hi]
      rfl
    -- many
    refine ⟨_, rfl, _, rfl, p, ng, nw, ll, gs, ws, ls, rfl, NA, N, sl, lok, lt, fun lm H1 s1 hlm em => ?_⟩
    refine gn_norm (σ' := [some (.ref p), some (.ref ll), some (.ref lr), some (.ref lm), none, none, none, none, none, none, none, none, none, none, none]) rfl ?_
    -- outs
    refine ⟨_, rfl, _, rfl, p, ng, nw, lr, gs, ws, rss, rfl, NA.same s1, N, ⟨rv, SqL.of (s1 _ _ hlr), ra.imp fun _ _ r => r.same s1⟩, hro, by omega, fun t2 p2 ng2 nw2 lo H2 tss we as s2 hrun NA2 hLL et2 hp2 hng2 hnw2 => ?_⟩
    refine ⟨t2, _, _, .ref lo, rfl, rfl, .inl (.inl et2), atI_nat (j := 1) rfl, ?_⟩
    refine gn_norm (σ' := [some (.ref p), some (.ref ll), some (.ref lr), some (.ref lm), some (.ref lo), none, none, none, none, none, none, none, none, none, none]) rfl ?_
    have s02 := s1.trans s2
    have sl2 := s02.seq sl
    -- needed
    refine ⟨_, rfl, ll, ls, rfl, sl2, hln, fun mx hmx hmx2 => ⟨0, mx, rfl, ?_⟩⟩
    have emx : mx = mm := by
      have h1 := hmx2 mm hm1
      have h2 := hm2 mx hmx
      omega
    subst emx
    have eif : (if mx > 0 then mx else 0) = mx := by
      rw [if_pos (by omega)]
    refine gn_norm (σ' := [some (.ref p), some (.ref ll), some (.ref lr), some (.ref lm), some (.ref lo), some (.int mx), none, none, none, none, none, none, none, none, none]) (by show [_, _, _, _, _, some (V.int (if mx > 0 then mx else 0)), _, _, _, _, _, _, _, _, _] = _; rw [eif]) ?_
    refine ⟨_, rfl, lr, rv, rfl, .inl (SqL.of (s02 _ _ hlr)), _, rfl, _, _, rfl, rfl, _, rfl, ite2 (fun e => ?_) (fun e => ?_)⟩
    · refine ⟨_, rfl, (by show 1 ≤ 1000; decide), fun a ha => ⟨a, _, rfl, upd_same, fun dx hdx ne => ⟨rfl, dx, _, upd_same, by rw [upd_ne ne, upd_same], ?_, ?_⟩⟩⟩
      · rw [upd_ne ne] at hdx
        exact hdx
      · rw [mk_heap ha ne]
        refine q dx H2 s02 ?_
        rw [upd_ne ne] at hdx
        exact hdx
    · exfalso
      apply e
      refine decide_eq_true ?_
      rw [ra.1]
      exact hlt
end
end Lag

set_option maxRecDepth 100000
set_option maxHeartbeats 8000000
namespace Lag
open PySem PySem.Spec PyProof.Rows L2
/-- data that are no lags of these gates -/
def BadL (gs : List Gt) (d : PyData) : Prop := dL d = false ∨ ∃ ds, d = .list ds ∧ (ds.length ≠ gs.length ∨ ∃ (n : Nat) (g : Gt) (e : PyData), gs[n]? = some g ∧ ds[n]? = some e ∧ (portK g.1 → fromD e 0 0 = false) ∧ (¬ portK g.1 → fromD e (-500) 500 = false))
/-- lags asked of a net: none, or not let -/
def LagsX (K : PySem.W.Frag) (C CL CN : Addr) (p : Addr) (v : V) (H : Hp) (E : XK) : Prop := ∃ (ng nw : Addr) (gs : List Gt) (ws : List Wr), NetAt K C H p ng nw gs ws ∧ NetOk gs ws ∧
  ((∃ d, Dx K Any H v d ∧ BadL gs d ∧ ∀ H', Same H H' → E (.ref CL) none H') ∨ ∃ (ll : Addr) (ls : List Int), v = .ref ll ∧ SqL K H ll (ls.map V.int) ∧ LagOk gs ls ∧ ¬ LetOk ws ls ∧ ∀ (pl : Nat) (d : Addr) (H' : Hp), FirstNeg (cntsL ws ls) pl → Same H H' → H' d = none → E (.ref CN) (some d) (upd H' d (.xd [(("wire" : Str), .int (pl : Nat))])))
def spLagsX2 (K : PySem.W.Frag) (C CL CN : Addr) : Sp := fun vs H Q E => ∃ (p : Addr) (v : V), vs = [.ref p, v] ∧ LagsX K C CL CN p v H E
def spLagsX3 (K : PySem.W.Frag) (C CL CN : Addr) : Sp := fun vs H Q E => ∃ (p : Addr) (v u : V), vs = [.ref p, v, u] ∧ LagsX K C CL CN p v H E
def spLagsD (K : PySem.W.Frag) (C CL : Addr) : Sp := fun vs H Q E => ∃ (p ng nw : Addr) (v : V) (gs : List Gt) (ws : List Wr) (d : PyData), vs = [.ref p, v] ∧ NetAt K C H p ng nw gs ws ∧ gs.length ≤ 1000 ∧ Dx K Any H v d ∧ BadL gs d ∧ ∀ H', Same H H' → E (.ref CL) none H'
/-- rows refused, the lags let -/
def spMovedN (K : PySem.W.Frag) (C CR : Addr) : Sp := fun vs H Q E => ∃ (p ng nw ll : Addr) (v : V) (gs : List Gt) (ws : List Wr) (ls : List Int), vs = [.ref p, .ref ll, v] ∧ NetAt K C H p ng nw gs ws ∧ NetOk gs ws ∧ SqL K H ll (ls.map V.int) ∧ LagOk gs ls ∧ LetOk ws ls ∧ ∀ H1, Same H H1 → spRunX K C CR [.ref p, v] H1 Q E
section
variable {P : Program} {w : World} {K : PySem.W.Frag} {mg : Str → Option Value} {base : Heap}
theorem ok_chkLagsD {f fO fF C CL : Addr} {fd fdO fdF : FuncData} (F : Fun K "check_lags" "check_lags" sChkLags f fd) (B : Bt mg) (T : NT K mg C) (gl : ∃ t, mg "GREATEST_LAG" = some (.int 500 t)) (DO : DOuter P w K mg base fO fdO) (DF : DFromTo P w K mg base fF fdF) (DFX : FnOk P w K mg base CX0 2 fF fdF ["thing", "least", "greatest"] (spFromToD K)) (NL : PEx K mg "NoLags" CL) : FnOk P w K mg base (L2.CX P w) 3 f fd ["net", "lags"] (spLagsD K C CL) := by
  obtain ⟨tg, hgl⟩ := gl
  refine F.okX scChkLags (fun vs H Q E h => ?_) (fun cdv A outer s H vs Q E hr h => ?_)
  · obtain ⟨p, ng, nw, v, gs, ws, d, rfl, _⟩ := h
    rfl
  · obtain ⟨p, ng, nw, v, gs, ws, d, rfl, NA, hgl1, hd, bad, q⟩ := h
    have nd := scChkLags.nd
    have hr1 : Room 1 _ := hr.mono (by decide)
    refine ⟨_, pss_cons (ps_if (PW.pt (pw_or (pt_not (pt_val (pe_callB call_isi (by rfl) B.isi (by decide +kernel) (pa_cons (pv 1) (pa_cons (pe_bltn (v := .ty "list") (by rfl) B.list (by decide +kernel) rfl) pa_nil)))))
          (pw_or1 (pt_cmpR op_ne (pe_callB call_len_seq (by rfl) B.len PySem.boot_len (pa_cons (pv 1) pa_nil)) (pe_callB call_len_seq (by rfl) B.len PySem.boot_len (pa_cons (pe_fld (pv 0) rfl) pa_nil)) (nomark _))))) (pss_one (ps_raise rfl (takes_of rfl rfl rfl rfl) (pmk_own PySem.F.excBase_ValueError NL.q NL.g NL.k (raises_own NL.e NL.t) (by rfl)))) pss_nil) <|
      pss_one <| ps_for (passes_of rfl) rfl (pi_zip (by rfl) B.zip (pa_cons (pe_fld (pv 0) rfl) (pa_cons (pv 1) pa_nil))) (pg_tup rfl (pgs_cons (pg_name (i := 2) nd rfl (.inl rfl)) (pgs_cons (pg_name (i := 3) nd rfl (.inl rfl)) pgs_nil))) <|
        pss_cons (ps_set (i := 4) nd rfl (.inl rfl) (pe_ifExp (pt_val (pe_call DO.ok hr1 (by rfl) DO.mg DO.kp DO.bd .nil pass0 (pa_cons (pv 2) pa_nil))) pe_int (pe_glob (v := .int 500) (by rfl) hgl ⟨_, rfl⟩))) <|
        pss_one <| ps_if (pt_not (pt_val (pe_call DFX hr (by rfl) DF.mg DF.kp DF.bd .nil pass0 (pa_cons (pv 3) (pa_cons (pe_un un_neg (pv 4)) (pa_cons (pv 4) pa_nil)))))) (pss_one (ps_raise rfl (takes_of rfl rfl rfl rfl) (pmk_own PySem.F.excBase_ValueError NL.q NL.g NL.k (raises_own NL.e NL.t) (by rfl)))) pss_nil, ?_⟩
    obtain ⟨dx, ob⟩ := id NA.ob
    obtain ⟨gv, hgv, ga⟩ := id NA.g
    have hlg : gv.length = gs.length := ga.1
    obtain ⟨t, ty, _, _, _, k4⟩ := hd.ty
    refine ⟨_, rfl, _, _, _, _, dL d, rfl, .ty "list", ty, kit_ty k4, dL d, rfl, ?_⟩
    rcases bad with bad | ⟨ds, rfl, bad⟩
    · rw [bad]
      exact q H (Same.refl H)
    cases hd with
    | @lst ll xs _ el _ al =>
      have a2 := al.all2
      have hlx : xs.length = ds.length := a2.1
      have sl : SqL K H ll xs := SqL.of el
      refine iteF ?_
      by_cases hne : ds.length = gs.length
      · obtain ⟨n, g0, e0, hg0, he0, bp, bi⟩ := bad.resolve_left (fun z => z hne)
        have hn : n < ds.length := (List.getElem?_eq_some_iff.mp he0).1
        refine ⟨_, rfl, ll, _, rfl, .inl sl, _, rfl, p, C, dx, _, _, rfl, ob, T.cl, T.nG, nf_gates _ _, ng, gv, rfl, .inl (SqL.of hgv), rfl, false, ?_, iteF ?_⟩
        · rw [hlx, hlg, hne, decide_eq_true rfl]
          rfl
        refine ⟨_, rfl, p, C, dx, _, _, rfl, ob, T.cl, T.nG, nf_gates _ _, _, rfl, ng, ll, gv, _, rfl, SqL.of hgv, sl, RZ.for_zipL (K := K) (a := ng) (b := ll) (xs := gv) (ys := xs) (by rw [hlg, hlx, hne]) (fun i σ H' => i ≤ n ∧ ∃ s2 s3 s4 : Option V, σ = [some (.ref p), some (.ref ll), s2, s3, s4] ∧ Same H H') ⟨Nat.zero_le _, _, _, _, rfl, Same.refl _⟩ (fun i σ H' ⟨_, _, _, _, _, sm⟩ => ⟨SqL.of (sm _ _ hgv), sm.seq sl⟩) ?_ ?_⟩
        · rintro i x y T' σ H1 hx hy ⟨hin, s2, s3, s4, rfl, sm⟩ hT
          obtain ⟨g, hg, gv'⟩ := ga.get hx
          obtain ⟨e, he, ev⟩ := a2.get hy
          have sT := sm.trans (same_new (o := .tup [x, y]) hT)
          have ev' := ev.same sT
          refine ⟨T', _, rfl, .inl (.inl upd_same), rfl, _, _, rfl, _, _, rfl, rfl, ?_⟩
          have good : ∀ lo hi : Int, fromD e lo hi = true → (i = n → fromD e lo hi = false) → i + 1 ≤ n := fun lo hi h1 h2 => by
            by_cases z : i = n
            · rw [h2 z] at h1
              cases h1
            · omega
          have same : i = n → g = g0 ∧ e = e0 := fun z => by
            rw [z] at hg he
            rw [hg0] at hg
            rw [he0] at he
            exact ⟨(Option.some.inj hg).symm, (Option.some.inj he).symm⟩
          refine ⟨_, rfl, x, g, rfl, gv'.tk (TK.same sT), fun b hb => ⟨b, rfl, ite2 (fun e1 => ?_) (fun e1 => ?_)⟩⟩
          · refine ⟨_, rfl, _, rfl, _, rfl, _, rfl, y, e, 0, 0, rfl, ev', fromD e 0 0, rfl, ?_⟩
            cases ef : fromD e 0 0 with
            | false => exact iteT (q _ sT)
            | true => exact iteF ⟨good 0 0 ef (fun z => by
                obtain ⟨z1, z2⟩ := same z
                rw [z2]
                exact bp (z1 ▸ hb.mp e1)), _, _, _, rfl, sT⟩
          · refine ⟨_, rfl, _, rfl, _, rfl, _, rfl, y, e, -500, 500, rfl, ev', fromD e (-500) 500, rfl, ?_⟩
            cases ef : fromD e (-500) 500 with
            | false => exact iteT (q _ sT)
            | true => exact iteF ⟨good _ _ ef (fun z => by
                obtain ⟨z1, z2⟩ := same z
                rw [z2]
                exact bi fun k => e1 (hb.mpr (z1.symm ▸ k))), _, _, _, rfl, sT⟩
        · rintro σ H1 ⟨hin, _⟩
          exfalso
          omega
      · refine ⟨_, rfl, ll, _, rfl, .inl sl, _, rfl, p, C, dx, _, _, rfl, ob, T.cl, T.nG, nf_gates _ _, ng, gv, rfl, .inl (SqL.of hgv), rfl, true, ?_, iteT (q H (Same.refl H))⟩
        rw [vint_eq, decide_eq_false (by omega)]
        rfl
theorem ok_countsD {f fC C CL : Addr} {fd fdC : FuncData} (F : Fun K "counts" "counts" sCounts f fd) (DC : DChkLags P w K mg base C fC fdC) (DX : FnOk P w K mg base (L2.CX P w) 3 fC fdC ["net", "lags"] (spLagsD K C CL)) : FnOk P w K mg base (L2.CX P w) 4 f fd ["net", "lags"] (spLagsD K C CL) := by
  refine F.okX scCounts (fun vs H Q E h => ?_) (fun cdv A outer s H vs Q E hr h => ?_)
  · obtain ⟨p, ng, nw, v, gs, ws, d, rfl, _⟩ := h
    rfl
  · obtain ⟨p, ng, nw, v, gs, ws, d, rfl, h⟩ := h
    refine ⟨_, pss_cons (ps_expr (pe_callS DX hr (by rfl) DC.mg DC.kp DC.bd (fun σ => passAt (takes_of rfl rfl rfl rfl) σ) (pa_cons (pv 0) (pa_cons (pv 1) pa_nil)))) <| pss_one ps_never, ?_⟩
    exact ⟨_, rfl, _, rfl, p, ng, nw, v, gs, ws, d, rfl, h⟩
theorem ok_letX {f fC C CL CN fN : Addr} {fd fdC fdN : FuncData} (F : Fun K "let_counts" "let_counts" sLetCounts f fd) (B : Bt mg) (DC : DCounts P w K mg base C fC fdC) (DCX : FnOk P w K mg base (L2.CX P w) 4 fC fdC ["net", "lags"] (spLagsD K C CL)) (TE : TEx K mg "NotLet" "wire" CN fN) (nlI : FnOk P w K mg base CX0 1 fN fdN ["self", "wire"] (spXI "wire" CN)) (bT : Binds K fdN ["self", "wire"] []) : FnOk P w K mg base (L2.CX P w) 5 f fd ["net", "lags"] (spLagsX2 K C CL CN) := by
  refine F.okX scLetCounts (fun vs H Q E h => ?_) (fun cdv A outer s H vs Q E hr h => ?_)
  · obtain ⟨p, v, rfl, _⟩ := h
    rfl
  · obtain ⟨p, v, rfl, ng, nw, gs, ws, NA, N, h⟩ := h
    have nd := scLetCounts.nd
    have hgl := N.gl
    refine ⟨_, pss_cons (ps_set (i := 2) nd rfl (.inl rfl) (pe_callS (fn_or (fn_cx0 DC.ok) DCX) (hr.mono (by decide)) (by rfl) DC.mg DC.kp DC.bd (fun σ => passAt (takes_of rfl rfl rfl rfl) σ) (pa_cons (pv 0) (pa_cons (pv 1) pa_nil)))) <|
        pss_cons (ps_for (passes_of rfl) rfl (pi_enum (by rfl) B.enum (pa_cons (pv 2) pa_nil)) (pg_tup rfl (pgs_cons (pg_name (i := 3) nd rfl (.inl rfl)) (pgs_cons (pg_name (i := 4) nd rfl (.inl rfl)) pgs_nil))) (pss_one (ps_if (pt_cmpR op_lt (pv 4) pe_int (nomark _)) (pss_one ((ps_raise rfl (takes_of rfl rfl rfl rfl) (pmk_oex TE.T TE.iC TE.tI nlI (hr.mono (by decide)) bT .nil pass0 (by rfl) TE.g (pa_cons (pv 3) pa_nil))))) pss_nil))) <|
        pss_one (ps_ret (pv 2)), ?_⟩
    rcases h with ⟨d, hd, bad, q⟩ | ⟨a, ls, rfl, sl, lok, nlet, q⟩
    · exact ⟨_, rfl, _, rfl, .inr ⟨p, ng, nw, v, gs, ws, d, rfl, NA, by omega, hd, bad, q⟩⟩
    · refine ⟨_, rfl, _, rfl, .inl ⟨p, ng, nw, a, gs, ws, ls, rfl, NA, N, sl, lok, fun l H1 s1 hl el => ?_⟩⟩
      refine ⟨_, rfl, l, _, rfl, SqL.of el, for_it (walk_enum (K := K) (a := l) (xs := (cntsL ws ls).map V.int)) (fun i σ H2 => ∃ s3 s4 : Option V, σ = [some (.ref p), some (.ref a), some (.ref l), s3, s4] ∧ Same H1 H2 ∧ ∀ (j : Nat) (c' : Int), j < i → (cntsL ws ls)[j]? = some c' → 0 ≤ c') ⟨_, _, rfl, Same.refl _, fun j c' h => absurd h (by omega)⟩ (fun i σ H2 _ ⟨_, _, _, sm, _⟩ => SqL.of (sm _ _ el)) ?_ ?_⟩
      · rintro i x σ H2 H2' hi ⟨s3, s4, rfl, sm, all⟩ ⟨T', x1, y, rfl, hT, rfl, ex, ey⟩
        cases ex
        obtain ⟨z, hz, rfl⟩ := int_at ey
        refine ⟨T', _, rfl, .inl (.inl upd_same), rfl, _, _, rfl, _, _, rfl, rfl, ?_⟩
        refine ⟨_, rfl, _, _, rfl, rfl, _, rfl, ite2 (fun e => ?_) (fun e => ⟨_, _, rfl, sm.trans (same_new hT), fun j c' hj hc => ?_⟩)⟩
        · have hz0 : z < 0 := of_decide_eq_true e
          have sT := s1.trans (sm.trans (same_new (o := .tup [.int (i : Nat), .int z]) hT))
          refine ⟨_, rfl, (by show 1 ≤ 1000; decide), fun a ha => ⟨a, _, rfl, upd_same, fun dx hdx ne => ⟨rfl, dx, _, upd_same, by rw [upd_ne ne, upd_same], ?_, ?_⟩⟩⟩
          · rw [upd_ne ne] at hdx
            exact hdx
          · rw [mk_heap ha ne]
            refine q i dx _ ⟨z, hz, hz0, all⟩ sT ?_
            rw [upd_ne ne] at hdx
            exact hdx
        · by_cases hji : j = i
          · subst hji
            rw [hz] at hc
            cases hc
            have : ¬ (z < 0) := fun h => e (decide_eq_true h)
            omega
          · exact all j c' (by omega) hc
      · rintro σ H2 ⟨s3, s4, rfl, sm, all⟩
        exfalso
        refine nlet fun y hy => ?_
        obtain ⟨j, hj⟩ := List.getElem?_of_mem hy
        refine all j y ?_ hj
        rw [List.length_map]
        exact (List.getElem?_eq_some_iff.mp hj).1
theorem ok_movedL {f fL C CL CN : Addr} {fd fdL : FuncData} (F : Fun K "moved" "moved" sMoved f fd) (DL : DLetCounts P w K mg base C fL fdL) (DLX : FnOk P w K mg base (L2.CX P w) 5 fL fdL ["net", "lags"] (spLagsX2 K C CL CN)) : FnOk P w K mg base (L2.CX P w) 11 f fd ["net", "lags", "rows"] (spLagsX3 K C CL CN) := by
  refine F.okX scMoved (fun vs H Q E h => ?_) (fun cdv A outer s H vs Q E hr h => ?_)
  · obtain ⟨p, v, u, rfl, _⟩ := h
    rfl
  · obtain ⟨p, v, u, rfl, h⟩ := h
    have nd := scMoved.nd
    refine ⟨_, pss_cons (ps_set (i := 3) nd rfl (.inl rfl) (pe_callS DLX (hr.mono (by decide)) (by rfl) DL.mg DL.kp DL.bd (fun σ => passAt (takes_of rfl rfl rfl rfl) σ) (pa_cons (pv 0) (pa_cons (pv 1) pa_nil)))) <|
      pss_cons ps_never <| pss_cons ps_never <| pss_cons ps_never <| pss_cons ps_never <| pss_cons ps_never <| pss_cons ps_never <| pss_one ps_never, ?_⟩
    exact ⟨_, rfl, _, rfl, p, v, rfl, h⟩
theorem ok_movedN {f fL fR C CR : Addr} {fd fdL fdR : FuncData} (F : Fun K "moved" "moved" sMoved f fd) (DL : DLetCounts P w K mg base C fL fdL) (DR : DRun P w K mg base C fR fdR) (DRX : FnOk P w K mg base (L2.CX P w) 10 fR fdR ["net", "rows"] (spRunX K C CR)) : FnOk P w K mg base (L2.CX P w) 11 f fd ["net", "lags", "rows"] (spMovedN K C CR) := by
  refine F.okX scMoved (fun vs H Q E h => ?_) (fun cdv A outer s H vs Q E hr h => ?_)
  · obtain ⟨p, ng, nw, ll, v, gs, ws, ls, rfl, _⟩ := h
    rfl
  · obtain ⟨p, ng, nw, ll, v, gs, ws, ls, rfl, NA, N, sl, lok, lt, h⟩ := h
    have nd := scMoved.nd
    refine ⟨_, pss_cons (ps_set (i := 3) nd rfl (.inl rfl) (pe_call DL.ok (hr.mono (by decide)) (by rfl) DL.mg DL.kp DL.bd .nil pass0 (pa_cons (pv 0) (pa_cons (pv 1) pa_nil)))) <|
      pss_cons (ps_set (i := 4) nd rfl (.inl rfl) (pe_ix ix_tup (pe_callS DRX hr (by rfl) DR.mg DR.kp DR.bd (fun σ => passAt (takes_of rfl rfl rfl rfl) σ) (pa_cons (pv 0) (pa_cons (pv 2) pa_nil))) pe_int (fun _ _ => rfl))) <|
      pss_cons ps_never <| pss_cons ps_never <| pss_cons ps_never <| pss_cons ps_never <| pss_cons ps_never <| pss_one ps_never, ?_⟩
    refine ⟨_, rfl, _, rfl, p, ng, nw, ll, gs, ws, ls, rfl, NA, N, sl, lok, lt, fun lm H1 s1 hlm em => ?_⟩
    refine ⟨_, rfl, _, rfl, ?_⟩
    obtain ⟨p', ng', nw', v', gs', ws', e1, h2⟩ := h H1 s1
    refine ⟨p', ng', nw', v', gs', ws', e1, h2.1, h2.2.1, h2.2.2.1, h2.2.2.2⟩
end
end Lag

set_option maxRecDepth 100000
set_option maxHeartbeats 4000000
/-! ### try with several except clauses, each with a name or without -/
namespace L2
open PySem PySem.Spec PyProof.Rows
/-- a clause: the class that it names, the slot of its own name, what its suite does -/
structure Cl where
  c : Value
  i : Option Nat
  ts : Addr → Value → Option Addr → TS
/-- behind the suite the clause's own name is gone -/
def Cl.ends (k : Cl) (D : Ends) : Ends := match k.i with
  | none => D
  | some i => ⟨fun s h => D.nx (s.set i none) h, D.rt, fun s h => D.bk (s.set i none) h, fun s h => D.ct (s.set i none) h⟩
def Cl.in_ (k : Cl) (a : Addr) (σ : St) : St := match k.i with
  | none => σ
  | some i => σ.set i (some (.ref a))
def wCls (K : PySem.W.Frag) (Wo : WX) (D : Ends) : List Cl → WX
  | [] => Wo
  | k :: l => fun cls d σ H => ∃ b : Bool, PySem.W.exmOne K cls k.c = some b ∧ (b = true → ∀ a, H a = none → k.ts a cls d (k.ends D) (k.in_ a σ) H) ∧ (b = false → wCls K Wo D l cls d σ H)
inductive ClsOk (X : Cx) : List ExceptHandler → List Cl → Prop
  | nil : ClsOk X [] []
  | bare {x : Str} {c : Value} {ts : Addr → Value → Option Addr → TS} {b1 : Stmt} {ss : List Stmt} {p1 p2 : Pos} {hs : List ExceptHandler} {l : List Cl} (hc : Names X x c)
      (su : ∀ (a : Addr) (oe : Obj) (cls : Value) (d : Option Addr) (pn : List (Addr × Obj)), Zc cls d oe → (∃ vs, oe.data = .fields vs) → PSs (X.suite a ((a, oe) :: pn)) (b1 :: ss) (ts a cls d)) (r : ClsOk X hs l) :
      ClsOk X (.ExceptHandler (some (.Name x p1)) none (b1 :: ss) p2 :: hs) (⟨c, none, ts⟩ :: l)
  | named {x n : Str} {c : Value} {i : Nat} {ts : Addr → Value → Option Addr → TS} {b1 : Stmt} {ss : List Stmt} {p1 p2 : Pos} {hs : List ExceptHandler} {l : List Cl} (hi : X.N[i]? = some n) (hl : X.env.kindOf n = some .local) (hc : Names X x c)
      (su : ∀ (a : Addr) (oe : Obj) (cls : Value) (d : Option Addr) (pn : List (Addr × Obj)), Zc cls d oe → (∃ vs, oe.data = .fields vs) → PSs (X.suite a ((a, oe) :: pn)) (b1 :: ss) (ts a cls d)) (r : ClsOk X hs l) :
      ClsOk X (.ExceptHandler (some (.Name x p1)) (some n) (b1 :: ss) p2 :: hs) (⟨c, some i, ts⟩ :: l)
section
variable {X : Cx} {body : List Stmt} {h0 : ExceptHandler} {hs : List ExceptHandler} {l : List Cl} {pos : Pos} {tb : WX → TS} {Wo : WX}
theorem ps_try_cls (hst : X.stack = X.env :: X.outer) (hfr : X.env.frame = some X.env.locals) (hN : X.N.Nodup) (tk : Takes X Wo)
    (hb : ∀ (W : WX) (pn : List (Addr × Obj)) (xe : Value → Shared → Prop), Takes (X.tr pn xe) W → PassesOwn (model X.prog X.w) X.A X.env xe → PSs (X.tr pn xe) body (tb W))
    (hh : ClsOk X (h0 :: hs) l) : PS X (.Try body (h0 :: hs) [] [] pos) (fun D σ H => tb (wCls X.K Wo D l) D σ H) := by
  constructor
  intro pins s σ H D I h
  have ok := I.ok
  have frs0 : X.A.frames = some (X.env :: X.outer) := hst ▸ ok.frames
  refine wpAny_Try_except (wpAny_mono ((hb (wCls X.K Wo D l) (X.pn ++ pins)
    (fun e t1 => wpAny (model X.prog X.w) X.A (noteFrame e X.env)
      (fun _ t2 => wpAny (model X.prog X.w) X.A (setFlight e none)
        (fun _ t3 => wpAny (model X.prog X.w) X.A (handleBy e X.env (h0 :: hs)) (SP X pins D) X.xe t3) X.xe t2) X.xe t1)
    ?_ PassesOwn.looking).run [] s σ H D (I.toTry _) h) ?_ fun e t1 he => he)
  · intro u t xx
    have goal : wpAny (model X.prog X.w) X.A (noteFrame u X.env) (fun _ t2 => wpAny (model X.prog X.w) X.A (setFlight u none) (fun _ t3 => wpAny (model X.prog X.w) X.A (handleBy u X.env (h0 :: hs)) (SP X pins D) X.xe t3) X.xe t2) X.xe t := by
      obtain ⟨a, B, sI, pins', σ', H', cls, d, rfl, J0, nb, up, sky0, na, os, ag, w⟩ := xx
      have J : Inv X pins σ' H' sI := J0.ofTry ok
      have sky : Sky B (X.env :: X.outer) a (Zc cls d) X.env.locals t.heap := hst ▸ sky0
      refine Sky.land Zc.steady frs0 hfr sky fun h3 fl3 up3 => ?_
      have J3 : Inv X pins σ' H' { t with heap := h3 } := J.landed nb fl3.1 (up.trans up3) os ag
      obtain ⟨oe, vs, he, hz, hd⟩ := fl3.there
      have off : a ∉ frs (X.env :: X.outer) := fun hm => by
        obtain ⟨_, o', e', no⟩ := fl3.2.2.1.mem hm
        rw [he] at e'
        cases e'
        exact no _ hd
      have offL : a ≠ X.env.locals := fun z => off (List.mem_filterMap.mpr ⟨X.env, by simp, by rw [hfr, z]⟩)
      have offF : a ∉ X.fs := fun hm => by
        obtain ⟨e, hm2, q⟩ := List.mem_filterMap.mp hm
        exact off (List.mem_filterMap.mpr ⟨e, List.mem_cons_of_mem _ hm2, q⟩)
      have S3 := J3.suite he hd na offL offF
      -- is it of the class that is named
      suffices go : ∀ {hs' : List ExceptHandler} {l' : List Cl}, ClsOk X hs' l' → wCls X.K Wo D l' cls d σ' H' → wpAny (model X.prog X.w) X.A (handleBy (.ref a) X.env hs') (SP X pins D) X.xe { t with heap := h3 } from go hh w
      have typ : PySem.W.Looks (model X.prog X.w) h3 (typeOf (.ref a)) cls := by
        intro A Q E s k q
        exact wpAny_typeOf_ref (k _ _ he) (by rw [hz.1]; exact q)
      have nm : ∀ {x : Str} {c : Value} {p1 : Pos} {Q E : Value → Shared → Prop}, Names X x c → Q c { t with heap := h3 } → wpAny (model X.prog X.w) (X.A.mark (some (.ref a))) (eval (.Name x p1) X.env) Q E { t with heap := h3 } := by
        intro x c p1 Q E hc q
        rcases hc with ⟨g1, g2, g3 | ⟨g3, g4, g5⟩⟩
        · exact ld_glob (X := X.suite a ((a, oe) :: (X.pn ++ pins))) S3 g1 g3 q g2
        · exact ld_blt (X := X.suite a ((a, oe) :: (X.pn ++ pins))) S3 g1 g3 g4 q g5 g2
      intro hs' l' ck
      induction ck with
      | nil =>
        intro w
        apply wpAny_handleBy_nil
        obtain ⟨_, _, _, ob, us, T, oT, ts', g1, _, g3, g4, _⟩ := id fl3
        unfold PySem.passOn
        refine wpAny_bind (wpAny_field g1 g3 g4 ?_)
        have nn : ¬ ((Value.ref T == Value.none) = true) := by simp
        rw [if_neg nn]
        have out : wpAny (model X.prog X.w) X.A (setFlight (.ref a) X.env.frame) (fun _ t4 => wpAny (model X.prog X.w) X.A (throw (.ref a) : Sem Flow) (SP X pins D) X.xe t4) X.xe { t with heap := h3 } := by
          rw [hfr]
          refine HandSPX.setFlight_upZ fl3 fun h4 hh4 up4 => wpAny_throw (tk _ _ ?_)
          exact ⟨a, B, sI, pins, σ', H', cls, d, rfl, J, nb, (up.trans up3).trans up4, .inr (.inr (hst ▸ hh4)), na, os, ag, w⟩
        first
          | exact wpAny_bind (wpAny_pure (wpAny_bind out))
          | exact wpAny_bind out
      | bare hc su r ih =>
        rintro ⟨b, eb, yes, no⟩
        refine wpAny_handleBy_cons (codeAny_handlers_test (nm hc ((PySem.W.exm_one (M := model X.prog X.w) J3.kIn typ eb).here ?_))) (fun q => by cases q)
        cases b
        · exact ih (no rfl)
        · refine codeAny_handlers_suite (HandSPX.lands_againZ fl3 fun h4 fl4 up4 => ?_)
          have J4 : Inv X pins σ' H' { t with heap := h4 } := J.landed nb fl4.1 ((up.trans up3).trans up4) os ag
          obtain ⟨o4, v4, he4, hz4, hd4⟩ := fl4.there
          have S4 := J4.suite he4 hd4 na offL offF
          refine wpAny_mono ((su a o4 cls d (X.pn ++ pins) hz4 ⟨_, hd4⟩).run [] _ _ H' _ S4 (yes rfl a na)) (fun f t6 hp => ?_) (fun _ _ z => False.elim z)
          cases f
          case next => exact ⟨_, _, hp.choose_spec.choose_spec.1.unsuite ok, hp.choose_spec.choose_spec.2⟩
          case brk => exact ⟨_, _, hp.choose_spec.choose_spec.1.unsuite ok, hp.choose_spec.choose_spec.2⟩
          case cont => exact ⟨_, _, hp.choose_spec.choose_spec.1.unsuite ok, hp.choose_spec.choose_spec.2⟩
          case ret u =>
            obtain ⟨v6, σ6, H6, S6, r6, q6⟩ := hp
            exact ⟨v6, σ6, H6, S6.unsuite ok, r6, q6⟩
      | @named x n c i ts b1 ss p1 p2 hs2 l2 hi hl hc su r ih =>
        rintro ⟨b, eb, yes, no⟩
        refine wpAny_handleBy_cons (codeAny_handlers_test (nm hc ((PySem.W.exm_one (M := model X.prog X.w) J3.kIn typ eb).here ?_))) (fun q => by cases q)
        cases b
        · exact ih (no rfl)
        · refine codeAny_handlers_suite_as (HandSPX.lands_againZ fl3 fun h4 fl4 up4 => ?_)
          have J4 : Inv X pins σ' H' { t with heap := h4 } := J.landed nb fl4.1 ((up.trans up3).trans up4) os ag
          obtain ⟨o4, v4, he4, hz4, hd4⟩ := fl4.there
          have S4 := J4.suite he4 hd4 na offL offF
          refine store_ok (X := X.suite a ((a, o4) :: (X.pn ++ pins))) (v := .ref a) S4 hN hi (.inl hl) rfl (fun t5 S5 => ?_) (.inr hl)
          refine wpAny_mono ((su a o4 cls d (X.pn ++ pins) hz4 ⟨_, hd4⟩).run [] t5 _ H' _ S5 (yes rfl a na)) (fun f t6 hp => ?_) (fun _ _ z => False.elim z)
          have gone : ∀ {σ6 : St} {H6 : Hp} {Q : Shared → Prop}, Inv (X.suite a ((a, o4) :: (X.pn ++ pins))) [] σ6 H6 t6 → (∀ t7, Inv X pins (σ6.set i none) H6 t7 → Q t7) →
              wpAny (model X.prog X.w) X.A (do bindName X.env n .none; unbindBehindTheSuite X.env n p2) (fun _ t7 => Q t7) X.xe t6 := by
            intro σ6 H6 Q S6 hq
            exact gone_ok (S6.unsuite ok) hN hi hl hq
          cases f
          case next =>
            obtain ⟨σ6, H6, S6, q6⟩ := hp
            exact gone S6 fun t7 J7 => ⟨_, _, J7, q6⟩
          case brk =>
            obtain ⟨σ6, H6, S6, q6⟩ := hp
            exact gone S6 fun t7 J7 => ⟨_, _, J7, q6⟩
          case cont =>
            obtain ⟨σ6, H6, S6, q6⟩ := hp
            exact gone S6 fun t7 J7 => ⟨_, _, J7, q6⟩
          case ret u =>
            obtain ⟨v6, σ6, H6, S6, r6, q6⟩ := hp
            exact gone S6 fun t7 J7 => ⟨_, _, _, J7, r6, q6⟩
    exact goal
  · intro f t1 hp
    cases f
    case next =>
      obtain ⟨σ', H', J', q⟩ := hp
      exact wpAny_execs_nil ⟨σ', H', J'.ofTry ok, q⟩
    case brk =>
      obtain ⟨σ', H', J', q⟩ := hp
      exact ⟨σ', H', J'.ofTry ok, q⟩
    case cont =>
      obtain ⟨σ', H', J', q⟩ := hp
      exact ⟨σ', H', J'.ofTry ok, q⟩
    case ret u =>
      obtain ⟨v, σ', H', J', r, q⟩ := hp
      exact ⟨v, σ', H', J'.ofTry ok, r, q⟩
end
end L2

set_option maxRecDepth 100000
set_option maxHeartbeats 4000000
/-! ### isinstance of a caught error that has fields of its own, and of several classes at once -/
namespace PySem.W
open PySem PySem.Spec PySem.Calls PyProof.Rows
section
variable {prog : Program} {w : World} {A : Around} {E : Value → Shared → Prop} {s : Shared} {K : Frag} {x D : Addr} {ox : Obj} {od : Option Obj}
theorem cls_found {D : Addr} {a g : Value} {n : Str} (hd : hasDictIn K D = true) (h1 : findIn K (.ref D) n = some (some a)) (h2 : specialIn K a "__get__" = some (some g)) (h3 : takesIn K a = some true) : findObj K D od n = some (.bind g a) := by
  obtain ⟨cd, hc, _⟩ := any_some hd
  unfold findObj
  rw [hc, Option.bind_some, h1, Option.bind_some]
  simp [h2, h3]
theorem cls_of_exc {Q : Option Value → Shared → Prop} (C1 : findIn K (.ref D) "__getattribute__" = some (some (.builtin "BaseException.__getattribute__"))) (C2 : findIn K (.ref D) "__getattr__" = some none) (C3 : subIn K (.ref D) (.type "BaseException") = some true)
    (C4 : hasDictIn K D = true) (C5 : findIn K (.ref D) "__class__" = some (some (.builtin "object.__class__"))) (C6 : specialIn K (.builtin "object.__class__") "__get__" = some (some (.builtin "getset_descriptor.__get__"))) (C7 : takesIn K (.builtin "object.__class__") = some true) (C8 : mroIn K D (.type "object") = some true)
    (X : K.In s.heap) (I : InstAt s.heap x ox D od) (h : Q (some (.ref D)) { s with toks := s.toks + 1 }) : wpAny (model prog w) A (getAttr? (.ref x) "__class__") Q E s := by
  have fnd := cls_found (od := od) C4 C5 C6 C7
  obtain ⟨hp, g, d, t, os⟩ := s
  have t0 := I.type (M := model prog w)
  have t1 := looks_findIn (M := model prog w) X C1
  have t2 := looks_findIn (M := model prog w) X C2
  have t3 := looks_find (M := model prog w) X I fnd
  have isE : Looks (model prog w) hp (isInstance (.ref x) (.type "BaseException")) true := t0.andThen (looks_subIn X C3)
  have own : (Value.builtin "BaseException.__getattribute__" == Value.builtin "object.__getattribute__") = false := by decide +kernel
  have q1 : (onTheHeap (Value.ref D) && Value.builtin "BaseException.__getattribute__" == Value.builtin "object.__getattribute__") = false := by rw [own]; rfl
  unfold getAttr? getAttrBy? getAttrBy
  refine wpAny_bind (wpAny_mkText (wpAny_bind (wpAny_attempt (wpAny_holding (wpAny_bind (t0.at (wpAny_bind (t1.at ?_))))))))
  show wpAny _ _ (if (onTheHeap (Value.ref D) && Value.builtin "BaseException.__getattribute__" == Value.builtin "object.__getattribute__") = true then _ else _) _ _ _
  rw [q1, if_neg Bool.false_ne_true]
  unfold getAttrByItsOwn hookBefore
  refine wpAny_bind ?_
  rw [if_pos (show onTheHeap (Value.ref D) = true from rfl)]
  refine t2.at (wpAny_bind (wpAny_attempt (wpAny_holding ?_)))
  unfold callGetattribute
  rw [show (false && onTheHeap (Value.builtin "BaseException.__getattribute__")) = false from rfl, if_neg Bool.false_ne_true]
  unfold boundAndCalled
  rw [PySem.F.excAttr_ValueError.ga.bind (.ref x)]
  refine wpAny_bind (wpAny_pure ?_)
  show wpAny _ _ (call (.builtin "BaseException.__getattribute__") [.ref x, .str "__class__" t]) _ _ _
  refine wpAny_call (codeAny_call_builtin PySem.F.excAttr_ValueError.ga.plain PySem.F.entry_bexc_ga ?_)
  refine @check_slot (model prog w) _ _ ⟨hp, g, d, t + 1, os⟩ "BaseException.__getattribute__" "BaseException" "__getattribute__" (.ref x) [.str "__class__" t] [] _ (by decide +kernel) (by decide +kernel) isE (PySem.F.args_bexc_ga (.ref x) (.str "__class__" t)) ?_
  unfold Builtin.«object.__getattribute__»
  refine wpAny_bind (wpAny_of_eq (a := ((Value.ref x : Value), [Value.str "__class__" t])) (by first | rfl | (simp only [slotArgs]; rfl)) ?_)
  refine wpAny_bind (wpAny_pure (wpAny_bind (t0.at (wpAny_bind (t3.at ?_)))))
  show wpAny _ _ (holding [Value.builtin "object.__class__"] (call (.builtin "getset_descriptor.__get__") [.builtin "object.__class__", .ref x, .ref D]) >>= ret) _ _ _
  refine wpAny_bind (wpAny_holding (wpAny_call (class_get (s := ⟨hp, g, d, t + 1, os⟩) (ox := ox) (od := od) X I C8 ?_)))
  refine wpAny_pure ?_
  show wpAny _ _ (handedOut (.ref D)) _ _ _
  rw [handedOut_of (v := .ref D) rfl]
  first
    | exact wpAny_pure (wpAny_pure h)
    | exact wpAny_pure h
    | exact wpAny_pure (wpAny_bind (wpAny_pure (wpAny_pure h)))
theorem kitD (C1 : findIn K (.ref D) "__getattribute__" = some (some (.builtin "BaseException.__getattribute__"))) (C2 : findIn K (.ref D) "__getattr__" = some none) (C3 : subIn K (.ref D) (.type "BaseException") = some true)
    (C4 : hasDictIn K D = true) (C5 : findIn K (.ref D) "__class__" = some (some (.builtin "object.__class__"))) (C6 : specialIn K (.builtin "object.__class__") "__get__" = some (some (.builtin "getset_descriptor.__get__"))) (C7 : takesIn K (.builtin "object.__class__") = some true) (C8 : mroIn K D (.type "object") = some true) :
    KitX K (.ref x) (.ref D) (fun h => InstAt h x ox D od) := by
  have isC : ∃ c d cd sl, K.lookup D = some ⟨c, d, .cls cd, sl⟩ := by
    obtain ⟨cd, hc, _⟩ := any_some C4
    unfold clsIn at hc
    split at hc
    · exact ⟨_, _, _, _, by assumption⟩
    · cases hc
  obtain ⟨c, d, cd, sl, ho⟩ := isC
  refine ⟨fun _ _ _ I => I.type, fun M h X _ => ?_, fun h tp dd its n sl' X htp => ?_, fun X I k => cls_of_exc C1 C2 C3 C4 C5 C6 C7 C8 X I k⟩
  · intro A' Q' E' s' k q
    unfold isType loadHead
    exact wpAny_bind (wpAny_loadPart (k _ _ (X _ _ ho)) (wpAny_pure q))
  · refine Bool.eq_false_iff.mpr fun q => ?_
    have e : D = tp := Value.ref.inj (beq_iff_eq.mp q)
    rw [← e, X _ _ ho] at htp
    cases htp
end
end PySem.W
namespace L2
open PySem PySem.Spec PyProof.Rows
/-- the fields of the error, where it has some -/
def XdAt (d : Option Addr) (H : Hp) : Prop := d = none ∨ ∃ (dd : Addr) (fs : List (Str × V)), d = some dd ∧ H dd = some (.xd fs)
def rIs1 (K : PySem.W.Frag) (D a : Addr) (d : Option Addr) : List V → Hp → VK → Prop := fun xs H Q => ∃ (c : V) (cv : Value) (b : Bool), xs = [.ref a, c] ∧ XdAt d H ∧ (∀ u, RelV c u → u = cv) ∧ PySem.W.kitOne K (.ref D) cv = some b ∧ Q (.bl b) H
def rIsN (K : PySem.W.Frag) (D a : Addr) (d : Option Addr) : List V → Hp → VK → Prop := fun xs H Q => ∃ (t : Addr) (cs : List V) (cvs : List Value) (b : Bool), xs = [.ref a, .ref t] ∧ XdAt d H ∧ SqT K H t cs ∧ (∀ us, Vals cs us → us = cvs) ∧ PySem.W.kitAny K (.ref D) cvs = some b ∧ Q (.bl b) H
section
variable {X : Cx} {a D : Addr} {oe : Obj} {d : Option Addr} {pn pins : List (Addr × Obj)} {σ : St} {H : Hp} {s : Shared}
theorem inst_suite (I : Inv (X.suite a ((a, oe) :: pn)) pins σ H s) (hz : Zc (.ref D) d oe) (hf : ∃ vs, oe.data = .fields vs) (hx : XdAt d H) : ∃ od, PySem.W.InstAt s.heap a oe D od := by
  obtain ⟨hget, _⟩ := I.pin (a, oe) (List.mem_append.mpr (.inl List.mem_cons_self))
  obtain ⟨vs, hv⟩ := hf
  rcases hx with rfl | ⟨dd, fs, rfl, ea⟩
  · exact ⟨none, hget, hz.1, by unfold PySem.W.notCls; rw [hv] <;> rfl, by rw [hz.2]; trivial⟩
  · have hx : ObjOk X.prog X.w H s.heap dd (.xd fs) := I.hok dd _ ea
    obtain ⟨mA, hns, _⟩ := hx
    obtain ⟨od, ho, _⟩ := lookIn_ns hns
    exact ⟨some od, hget, hz.1, by unfold PySem.W.notCls; rw [hv] <;> rfl, by rw [hz.2]; exact ho⟩
theorem call_is1 (C : ExcC X.K D) (hz : Zc (.ref D) d oe) (hf : ∃ vs, oe.data = .fields vs) : CallR (X.suite a ((a, oe) :: pn)) (.builtin "isinstance") (rIs1 X.K D a d) := by
  intro pins s σ H xs us Q I r h
  obtain ⟨c, cv, b, rfl, hx, hcv, e, q⟩ := h
  obtain ⟨u1, u2, rfl, rx, rt⟩ := vals2 r
  cases rx
  have ec := hcv _ rt
  subst ec
  obtain ⟨od, J⟩ := inst_suite I hz hf hx
  exact PySem.W.kia_one (PySem.W.kitD C.hg C.hk C.hs C.hd C.ha C.hn C.ht C.hm) I.kIn J e (fun z => nomatch z) fun tk => ⟨.bl b, H, I.kept (t' := tk) fun _ _ z => z, rfl, q⟩
theorem call_isN (C : ExcC X.K D) (hz : Zc (.ref D) d oe) (hf : ∃ vs, oe.data = .fields vs) : CallR (X.suite a ((a, oe) :: pn)) (.builtin "isinstance") (rIsN X.K D a d) := by
  intro pins s σ H xs us Q I r h
  obtain ⟨t, cs, cvs, b, rfl, hx, sq, hcv, e, q⟩ := h
  obtain ⟨u1, u2, rfl, rx, rt⟩ := vals2 r
  cases rx
  cases rt
  obtain ⟨od, J⟩ := inst_suite I hz hf hx
  obtain ⟨its, rv, ⟨o, ho, hc, n, hd⟩, _⟩ := I.tuple sq
  have ei := hcv _ rv
  subst ei
  obtain ⟨o1, o2, o3, o4⟩ := o
  dsimp only at hc hd
  subst hc hd
  exact PySem.W.kia_tup (PySem.W.kitD C.hg C.hk C.hs C.hd C.ha C.hn C.ht C.hm) I.kIn J ho e (fun z => nomatch z) fun tk => ⟨.bl b, H, I.kept (t' := tk) fun _ _ z => z, rfl, q⟩
end
end L2

set_option maxRecDepth 100000
set_option maxHeartbeats 8000000
namespace Lag
open PySem PySem.Spec PyProof.Rows L2
abbrev sWord : Stmt := topS 74 -- @_law_word
abbrev rInt1 : List V → Hp → VK → Prop := fun xs H Q => (∃ i, xs = [.int i] ∧ Q (.int i) H) ∨ ∃ k, xs = [.bl k] ∧ Q (.int (if k then 1 else 0)) H
theorem pss_if {X : Cx} {ss : List Stmt} {p : Prop} {t : TS} (h : p → PSs X ss t) : PSs X ss (fun D σ H => p ∧ (σ.length = X.N.length → t D σ H)) := ⟨fun pins s σ H D I hh => (h hh.1).run pins s σ H D I (hh.2 I.len)⟩
theorem pss_ex {α : Type} {X : Cx} {ss : List Stmt} {p : α → Prop} {t : α → TS} (h : ∀ x, p x → PSs X ss (t x)) : PSs X ss (fun D σ H => ∃ x, p x ∧ (σ.length = X.N.length → t x D σ H)) := ⟨fun pins s σ H D I ⟨x, h1, h2⟩ => (h x h1).run pins s σ H D I (h2 I.len)⟩
theorem vals_refs : ∀ (l : List Addr) (us : List Value), Vals (l.map V.ref) us → us = l.map Value.ref
  | [], us, r => by
    cases r
    rfl
  | a :: l, us, r => by
    cases r with
    | cons r1 r2 =>
      cases r1
      rw [vals_refs l _ r2]
      rfl
structure WrdC (K : PySem.W.Frag) (mg : Str → Option Value) (C0 CL CN CE CR CB CG CW fN fE : Addr) : Prop where
  g0 : mg "LagError" = some (.ref C0)
  gL : mg "NoLags" = some (.ref CL)
  gR : mg "NoRow" = some (.ref CR)
  gB : mg "NoBeat" = some (.ref CB)
  gG : mg "NoGates" = some (.ref CG)
  gW : mg "NoWires" = some (.ref CW)
  TN : TEx K mg "NotLet" "wire" CN fN
  TE : TEx K mg "TooEarly" "rows" CE fE
  gV : mg "ValueError" = none
  mI : mg "isinstance" = none
  mi : mg "int" = none
  eEN : PySem.W.exmOne K (.ref CE) (.ref CN) = some false
  eLN : PySem.W.exmOne K (.ref CL) (.ref CN) = some false
  eLE : PySem.W.exmOne K (.ref CL) (.ref CE) = some false
  eL0 : PySem.W.exmOne K (.ref CL) (.ref C0) = some true
  eRN : PySem.W.exmOne K (.ref CR) (.ref CN) = some false
  eRE : PySem.W.exmOne K (.ref CR) (.ref CE) = some false
  eR0 : PySem.W.exmOne K (.ref CR) (.ref C0) = some true
  aN : PySem.W.kitAny K (.ref CN) [.ref CL, .ref CR, .ref CE, .ref CB, .ref CG, .ref CW] = some false
  aE : PySem.W.kitAny K (.ref CE) [.ref CL, .ref CR, .ref CB, .ref CG, .ref CW] = some false
  aL : PySem.W.kitAny K (.ref CL) [.ref CB, .ref CG, .ref CW] = some false
  aR : PySem.W.kitAny K (.ref CR) [.ref CB, .ref CG, .ref CW] = some false
  vN : PySem.W.kitOne K (.ref CN) (.type "ValueError") = some true
  vE : PySem.W.kitOne K (.ref CE) (.type "ValueError") = some true
  kLL : PySem.W.kitOne K (.ref CL) (.ref CL) = some true
  kLR : PySem.W.kitOne K (.ref CL) (.ref CR) = some false
  kRL : PySem.W.kitOne K (.ref CR) (.ref CL) = some false
  kRR : PySem.W.kitOne K (.ref CR) (.ref CR) = some true
  xN : ExcC K CN
  xE : ExcC K CE
  xL : ExcC K CL
  xR : ExcC K CR
/-- what a call of moved comes to -/
def spMv (K : PySem.W.Frag) (C CL CN CR CE : Addr) : Sp := fun vs H Q E => spMoved K C vs H Q E ∨ spLagsX3 K C CL CN vs H Q E ∨ spMovedN K C CR vs H Q E ∨ spMovedX K C CE vs H Q E
theorem spMv_mono {K : PySem.W.Frag} {C CL CN CR CE : Addr} {vs : List V} {H : Hp} {Q Q' : VK} {E E' : XK} (h : spMv K C CL CN CR CE vs H Q E) (hQ : ∀ y H', Q y H' → Q' y H') (hE : ∀ cls d H', E cls d H' → E' cls d H') : spMv K C CL CN CR CE vs H Q' E' := by
  rcases h with h | h | h | h
  · obtain ⟨p, ng, nw, ll, lr, gs, ws, ls, rv, rss, a1, a2, a3, a4, a5, a6, a7, a8, a9, a10, a11, a12, q⟩ := h
    exact .inl ⟨p, ng, nw, ll, lr, gs, ws, ls, rv, rss, a1, a2, a3, a4, a5, a6, a7, a8, a9, a10, a11, a12, fun t p' ng' nw' lo H' tss we m tss0 we0 as b1 b2 b3 b4 b5 b6 b7 b8 b9 b10 b11 => hQ _ _ (q t p' ng' nw' lo H' tss we m tss0 we0 as b1 b2 b3 b4 b5 b6 b7 b8 b9 b10 b11)⟩
  · obtain ⟨p, v, u, a1, ng, nw, gs, ws, a2, a3, a4⟩ := h
    refine .inr (.inl ⟨p, v, u, a1, ng, nw, gs, ws, a2, a3, ?_⟩)
    rcases a4 with ⟨d, b1, b2, q⟩ | ⟨ll, ls, b1, b2, b3, b4, q⟩
    · exact .inl ⟨d, b1, b2, fun H' s => hE _ _ _ (q H' s)⟩
    · exact .inr ⟨ll, ls, b1, b2, b3, b4, fun pl d H' c1 c2 c3 => hE _ _ _ (q pl d H' c1 c2 c3)⟩
  · obtain ⟨p, ng, nw, ll, v, gs, ws, ls, a1, a2, a3, a4, a5, a6, q⟩ := h
    refine .inr (.inr (.inl ⟨p, ng, nw, ll, v, gs, ws, ls, a1, a2, a3, a4, a5, a6, fun H1 s1 => ?_⟩))
    obtain ⟨p', ng', nw', v', gs', ws', b1, b2, b3, b4, q'⟩ := q H1 s1
    exact ⟨p', ng', nw', v', gs', ws', b1, b2, b3, b4, fun H' s => hE _ _ _ (q' H' s)⟩
  · obtain ⟨p, ng, nw, ll, lr, gs, ws, ls, rv, rss, mm, a1, a2, a3, a4, a5, a6, a7, a8, a9, a10, a11, a12, a13, q⟩ := h
    exact .inr (.inr (.inr ⟨p, ng, nw, ll, lr, gs, ws, ls, rv, rss, mm, a1, a2, a3, a4, a5, a6, a7, a8, a9, a10, a11, a12, a13, fun d H' c1 c2 => hE _ _ _ (q d H' c1 c2)⟩))
/-- asked of moved: the word, and what stands beside it -/
def spWord (K : PySem.W.Frag) (C CL CN CR CE : Addr) : Sp := fun vs H Q _ => ∃ u1 u2 u3 : V, vs = [u1, u2, u3] ∧ ∃ (wd : Str) (x : V),
  (∀ H1, Same H H1 → spMv K C CL CN CR CE vs H1 (fun _ H' => wd = "told" ∧ x = .non ∧ Same H1 H')
    (fun cls d H' => Same H1 H' ∧ ((cls = .ref CN ∧ wd = "let" ∧ ∃ dx, d = some dx ∧ H' dx = some (.xd [(("wire" : Str), x)])) ∨ (cls = .ref CE ∧ wd = "early" ∧ ∃ dx, d = some dx ∧ H' dx = some (.xd [(("rows" : Str), x)])) ∨ (cls = .ref CL ∧ d = none ∧ wd = "lags" ∧ x = .non) ∨ (cls = .ref CR ∧ d = none ∧ wd = "row" ∧ x = .non)))) ∧
  ∀ t H', Same H H' → H' t = some (.tup [.str wd, x]) → Q (.ref t) H'
section
variable {P : Program} {w : World} {K : PySem.W.Frag} {mg : Str → Option Value} {base : Heap}
abbrev nWord : List Str := ["_law_net_here", "_law_shift_here", "_law_rows_here", "_law_marks", "_law_told", "e"]
theorem scWord : FnScope nWord ["_law_net_here", "_law_shift_here", "_law_rows_here"] (defScope sWord) := ⟨rfl, rfl, rfl, by decide +kernel, rfl, by decide +kernel, by decide +kernel⟩
abbrev DWord (P : Program) (w : World) (K : PySem.W.Frag) (mg : Str → Option Value) (base : Heap) (C CL CN CR CE : Addr) := Df P w K mg base 12 "_law_word" ["_law_net_here", "_law_shift_here", "_law_rows_here"] (spWord K C CL CN CR CE)
theorem ok_word {f fM C C0 CL CN CE CR CB CG CW fN fE : Addr} {fd fdM : FuncData} (F : Fun K "_law_word" "_law_word" sWord f fd) (hm : mg "_law_word" = some (.ref f)) (R : WrdC K mg C0 CL CN CE CR CB CG CW fN fE) (DM : DMoved P w K mg base C fM fdM) (DX : FnOk P w K mg base (L2.CX P w) 11 fM fdM ["net", "lags", "rows"] (spMv K C CL CN CR CE)) : DWord P w K mg base C CL CN CR CE f fd := by
  refine ⟨?_, hm, F.kp, F.binds fun _ _ _ _ _ _ us hl => match us, hl with | [_, _, _], _ => rfl⟩
  refine F.ok scWord (fun vs H Q E h => ?_) (fun cdv A outer s H vs Q E hr h => ?_)
  · obtain ⟨u1, u2, u3, rfl, _⟩ := h
    rfl
  · obtain ⟨u1, u2, u3, rfl, wd, x, hmv, q⟩ := h
    have nd := scWord.nd
    refine ⟨_, pss_cons (ps_set (i := 3) nd rfl (.inl rfl) (pe_lst pa_nil)) <| pss_cons (ps_set (i := 4) nd rfl (.inl rfl) (pe_tup (pa_cons pe_str (pa_cons pe_non pa_nil)))) <|
      pss_cons (ps_try_cls (tb := fun W => tDrop (tCallS (spMv K C CL CN CR CE) (WE W) (tCons (tVar 0) (tCons (tVar 1) (tCons (tVar 2) tNil))))) (Wo := fun _ _ _ _ => False)
        (l := [⟨.ref CN, some 5, fun a cls d D σ H => (cls = .ref CN) ∧ (σ.length = 6 → tSeq (tAsg (tTup (tCons (tC (.str "let")) (tCons (tXf a (.ref CN) d CN "wire" (tVar 5)) tNil))) (gName 4)) (tAsg (tLst (tCons (tCB (rIsN K CN a d) (tCons (tVar 5) (tCons (tTup (tCons (tC (.ref CL)) (tCons (tC (.ref CR)) (tCons (tC (.ref CE)) (tCons (tC (.ref CB)) (tCons (tC (.ref CG)) (tCons (tC (.ref CW)) tNil))))))) tNil))) (tCons (tNotV (tCB (rIs1 K CN a d) (tCons (tVar 5) (tCons (tC (.ty "ValueError")) tNil)))) tNil))) (gName 3)) D σ H)⟩, ⟨.ref CE, some 5, fun a cls d D σ H => (cls = .ref CE) ∧ (σ.length = 6 → tSeq (tAsg (tTup (tCons (tC (.str "early")) (tCons (tXf a (.ref CE) d CE "rows" (tVar 5)) tNil))) (gName 4)) (tAsg (tLst (tCons (tCB (rIsN K CE a d) (tCons (tVar 5) (tCons (tTup (tCons (tC (.ref CL)) (tCons (tC (.ref CR)) (tCons (tC (.ref CB)) (tCons (tC (.ref CG)) (tCons (tC (.ref CW)) tNil)))))) tNil))) (tCons (tNotV (tCB (rIs1 K CE a d) (tCons (tVar 5) (tCons (tC (.ty "ValueError")) tNil)))) tNil))) (gName 3)) D σ H)⟩, ⟨.ref C0, some 5, fun a cls d D σ H => ∃ S : Addr, (cls = .ref S ∧ d = none ∧ ExcC K S) ∧ (σ.length = 6 → tSeq (tAsg (tTup (tCons (tOp (rIxL K) (tLst (tCons (tC (.str "lags")) (tCons (tC (.str "row")) (tCons (tC (.str "other")) tNil)))) (tOp (rI0 fun i j => .int (i - j)) (tOp (rI0 fun i j => .int (i - j)) (tC (.int 2)) (tOp (rI CMul fun i j => .int (i * j)) (tC (.int 2)) (tCB rInt1 (tCons (tCB (rIs1 K S a none) (tCons (tVar 5) (tCons (tC (.ref CL)) tNil))) tNil)))) (tCB rInt1 (tCons (tCB (rIs1 K S a none) (tCons (tVar 5) (tCons (tC (.ref CR)) tNil))) tNil)))) (tCons (tC .non) tNil))) (gName 4)) (tAsg (tLst (tCons (tCB (rIsN K S a none) (tCons (tVar 5) (tCons (tTup (tCons (tC (.ref CB)) (tCons (tC (.ref CG)) (tCons (tC (.ref CW)) tNil)))) tNil))) tNil)) (gName 3)) D σ H)⟩])
        rfl rfl nd takes0 (fun W pn xe tk _ => pss_one (ps_expr (pe_callS DX hr (by rfl) DM.mg DM.kp DM.bd (fun σ => passAt tk σ) (pa_cons (pv 0) (pa_cons (pv 1) (pa_cons (pv 2) pa_nil))))))
        (ClsOk.named rfl rfl ⟨rfl, by decide, .inl R.TN.g⟩ (fun a oe cls d pn hz hf => pss_if fun e1 => by
          subst e1
          exact pss_cons (ps_set (i := 4) nd rfl (.inl rfl) (pe_tup (pa_cons pe_str (pa_cons (pe_xf R.TN.xf R.TN.no hz hf (pv 5)) pa_nil)))) <| pss_one (ps_set (i := 3) nd rfl (.inl rfl) (pe_lst (pa_cons (pe_callB (call_isN R.xN hz hf) (by rfl) R.mI (by decide +kernel) (pa_cons (pv 5) (pa_cons (pe_tup (pa_cons (pe_glob (v := .ref CL) (by rfl) R.gL rfl) (pa_cons (pe_glob (v := .ref CR) (by rfl) R.gR rfl) (pa_cons (pe_glob (v := .ref CE) (by rfl) R.TE.g rfl) (pa_cons (pe_glob (v := .ref CB) (by rfl) R.gB rfl) (pa_cons (pe_glob (v := .ref CG) (by rfl) R.gG rfl) (pa_cons (pe_glob (v := .ref CW) (by rfl) R.gW rfl) pa_nil))))))) pa_nil))) (pa_cons (pe_not (pe_callB (call_is1 R.xN hz hf) (by rfl) R.mI (by decide +kernel) (pa_cons (pv 5) (pa_cons (pe_bltn (v := .ty "ValueError") (by rfl) R.gV (by decide +kernel) rfl) pa_nil)))) pa_nil))))) <|
         ClsOk.named rfl rfl ⟨rfl, by decide, .inl R.TE.g⟩ (fun a oe cls d pn hz hf => pss_if fun e1 => by
          subst e1
          exact pss_cons (ps_set (i := 4) nd rfl (.inl rfl) (pe_tup (pa_cons pe_str (pa_cons (pe_xf R.TE.xf R.TE.no hz hf (pv 5)) pa_nil)))) <| pss_one (ps_set (i := 3) nd rfl (.inl rfl) (pe_lst (pa_cons (pe_callB (call_isN R.xE hz hf) (by rfl) R.mI (by decide +kernel) (pa_cons (pv 5) (pa_cons (pe_tup (pa_cons (pe_glob (v := .ref CL) (by rfl) R.gL rfl) (pa_cons (pe_glob (v := .ref CR) (by rfl) R.gR rfl) (pa_cons (pe_glob (v := .ref CB) (by rfl) R.gB rfl) (pa_cons (pe_glob (v := .ref CG) (by rfl) R.gG rfl) (pa_cons (pe_glob (v := .ref CW) (by rfl) R.gW rfl) pa_nil)))))) pa_nil))) (pa_cons (pe_not (pe_callB (call_is1 R.xE hz hf) (by rfl) R.mI (by decide +kernel) (pa_cons (pv 5) (pa_cons (pe_bltn (v := .ty "ValueError") (by rfl) R.gV (by decide +kernel) rfl) pa_nil)))) pa_nil))))) <|
         ClsOk.named rfl rfl ⟨rfl, by decide, .inl R.g0⟩ (fun a oe cls d pn hz hf => pss_ex fun S ⟨e1, e2, xS⟩ => by
          subst e1 e2
          exact pss_cons (ps_set (i := 4) nd rfl (.inl rfl) (pe_tup (pa_cons (pe_ix ix_list (pe_lst (pa_cons pe_str (pa_cons pe_str (pa_cons pe_str pa_nil)))) (pe_op op_sub (pe_op op_sub pe_int (pe_op op_mul pe_int (pe_callTy call_int1 (by rfl) R.mi (by decide +kernel) (pa_cons (pe_callB (call_is1 xS hz hf) (by rfl) R.mI (by decide +kernel) (pa_cons (pv 5) (pa_cons (pe_glob (v := .ref CL) (by rfl) R.gL rfl) pa_nil))) pa_nil)))) (pe_callTy call_int1 (by rfl) R.mi (by decide +kernel) (pa_cons (pe_callB (call_is1 xS hz hf) (by rfl) R.mI (by decide +kernel) (pa_cons (pv 5) (pa_cons (pe_glob (v := .ref CR) (by rfl) R.gR rfl) pa_nil))) pa_nil))) (fun _ _ => rfl)) (pa_cons pe_non pa_nil)))) <| pss_one (ps_set (i := 3) nd rfl (.inl rfl) (pe_lst (pa_cons (pe_callB (call_isN xS hz hf) (by rfl) R.mI (by decide +kernel) (pa_cons (pv 5) (pa_cons (pe_tup (pa_cons (pe_glob (v := .ref CB) (by rfl) R.gB rfl) (pa_cons (pe_glob (v := .ref CG) (by rfl) R.gG rfl) (pa_cons (pe_glob (v := .ref CW) (by rfl) R.gW rfl) pa_nil)))) pa_nil))) pa_nil)))) .nil)) <|
      pss_cons (ps_if (pt_cmpR op_in_seq pe_bl (pv 3) (by rfl)) (pss_one (ps_ret (pe_tup (pa_cons pe_str (pa_cons pe_non pa_nil))))) pss_nil) <|
      pss_one (ps_ret (pv 4)), ?_⟩
    refine ⟨(by show 0 ≤ sizeLine; decide), fun m0 hm0 => ?_⟩
    have s0 : Same H (upd H m0 (.lst [])) := same_new hm0
    have e0 : (upd H m0 (.lst [])) m0 = some (.lst []) := upd_same
    generalize upd H m0 (.lst []) = H0 at s0 e0
    refine gn_norm (σ' := [some u1, some u2, some u3, some (.ref m0), none, none]) rfl ?_
    refine ⟨(by show 2 ≤ sizeLine; decide), fun t0 ht0 => ?_⟩
    have s1 : Same H0 (upd H0 t0 (.tup [.str "told", .non])) := same_new ht0
    have e1 : (upd H0 t0 (.tup [.str "told", .non])) t0 = some (.tup [.str "told", .non]) := upd_same
    generalize upd H0 t0 (.tup [.str "told", .non]) = H1 at s1 e1
    have s01 := s0.trans s1
    refine gn_norm (σ' := [some u1, some u2, some u3, some (.ref m0), some (.ref t0), none]) rfl ?_
    refine ⟨_, rfl, _, rfl, _, rfl, spMv_mono (hmv H1 s01) (fun y H' hy => ?_) (fun cls d H' he => ?_)⟩
    · obtain ⟨rfl, rfl, s2⟩ := hy
      have e0' := (s1.trans s2) _ _ e0
      refine ⟨_, rfl, m0, [], rfl, .inl (SqL.of e0'), rfl, rfl, false, ?_, iteF ?_⟩
      · rfl
      exact ⟨_, rfl, q t0 H' (s01.trans s2) (s2 _ _ e1)⟩
    · obtain ⟨s2, he⟩ := he
      have sH := s01.trans s2
      have xd : ∀ {Hz : Hp} {dx : Addr} {fs : List (Str × V)}, Same H' Hz → H' dx = some (.xd fs) → XdAt (some dx) Hz := fun sz e => .inr ⟨_, _, rfl, sz _ _ e⟩
      rcases he with ⟨rfl, rfl, dx, rfl, ex⟩ | ⟨rfl, rfl, dx, rfl, ex⟩ | ⟨rfl, rfl, rfl, rfl⟩ | ⟨rfl, rfl, rfl, rfl⟩
      · refine ⟨true, R.TN.te, fun _ a ha => ⟨rfl, fun _ => ?_⟩, fun z => by cases z⟩
        refine ⟨_, rfl, rfl, rfl, dx, _, x, rfl, ex, rfl, (by show 2 ≤ sizeLine; decide), fun t1 ht1 => ?_⟩
        have s3 : Same H' (upd H' t1 (.tup [.str "let", x])) := same_new ht1
        have e3 : (upd H' t1 (.tup [.str "let", x])) t1 = some (.tup [.str "let", x]) := upd_same
        generalize upd H' t1 (.tup [.str "let", x]) = H3 at s3 e3
        refine gn_norm (σ' := [some u1, some u2, some u3, some (.ref m0), some (.ref t1), some (.ref a)]) rfl ?_
        refine ⟨_, rfl, (by show 6 ≤ sizeLine; decide), fun t2 ht2 => ?_⟩
        have s4 := s3.trans (same_new (o := .tup [.ref CL, .ref CR, .ref CE, .ref CB, .ref CG, .ref CW]) ht2)
        have e4 := (same_new (o := .tup [.ref CL, .ref CR, .ref CE, .ref CB, .ref CG, .ref CW]) ht2) _ _ e3
        refine ⟨t2, _, _, false, rfl, xd s4 ex, SqT.of upd_same, vals_refs [CL, CR, CE, CB, CG, CW], R.aN, ?_⟩
        refine ⟨_, rfl, .ty "ValueError", .type "ValueError", true, rfl, xd s4 ex, (fun u hu => hu), R.vN, true, rfl, ?_⟩
        generalize upd H3 t2 (.tup [.ref CL, .ref CR, .ref CE, .ref CB, .ref CG, .ref CW]) = H4 at s4 e4
        refine ⟨(by show 2 ≤ sizeLine; decide), fun l5 hl5 => ?_⟩
        have s5 := same_new (o := .lst [.bl false, .bl false]) hl5
        refine gn_norm (σ' := [some u1, some u2, some u3, some (.ref l5), some (.ref t1), some (.ref a)]) rfl ?_
        refine ⟨_, rfl, l5, _, rfl, .inl (SqL.of upd_same), rfl, rfl, false, ?_, iteF ?_⟩
        · rfl
        exact ⟨_, rfl, q t1 _ (sH.trans (s4.trans s5)) (s5 _ _ e4)⟩
      · refine ⟨false, R.eEN, (fun z => by cases z), fun _ => ⟨true, R.TE.te, fun _ a ha => ⟨rfl, fun _ => ?_⟩, fun z => by cases z⟩⟩
        refine ⟨_, rfl, rfl, rfl, dx, _, x, rfl, ex, rfl, (by show 2 ≤ sizeLine; decide), fun t1 ht1 => ?_⟩
        have s3 : Same H' (upd H' t1 (.tup [.str "early", x])) := same_new ht1
        have e3 : (upd H' t1 (.tup [.str "early", x])) t1 = some (.tup [.str "early", x]) := upd_same
        generalize upd H' t1 (.tup [.str "early", x]) = H3 at s3 e3
        refine gn_norm (σ' := [some u1, some u2, some u3, some (.ref m0), some (.ref t1), some (.ref a)]) rfl ?_
        refine ⟨_, rfl, (by show 5 ≤ sizeLine; decide), fun t2 ht2 => ?_⟩
        have s4 := s3.trans (same_new (o := .tup [.ref CL, .ref CR, .ref CB, .ref CG, .ref CW]) ht2)
        have e4 := (same_new (o := .tup [.ref CL, .ref CR, .ref CB, .ref CG, .ref CW]) ht2) _ _ e3
        refine ⟨t2, _, _, false, rfl, xd s4 ex, SqT.of upd_same, vals_refs [CL, CR, CB, CG, CW], R.aE, ?_⟩
        refine ⟨_, rfl, .ty "ValueError", .type "ValueError", true, rfl, xd s4 ex, (fun u hu => hu), R.vE, true, rfl, ?_⟩
        generalize upd H3 t2 (.tup [.ref CL, .ref CR, .ref CB, .ref CG, .ref CW]) = H4 at s4 e4
        refine ⟨(by show 2 ≤ sizeLine; decide), fun l5 hl5 => ?_⟩
        have s5 := same_new (o := .lst [.bl false, .bl false]) hl5
        refine gn_norm (σ' := [some u1, some u2, some u3, some (.ref l5), some (.ref t1), some (.ref a)]) rfl ?_
        refine ⟨_, rfl, l5, _, rfl, .inl (SqL.of upd_same), rfl, rfl, false, ?_, iteF ?_⟩
        · rfl
        exact ⟨_, rfl, q t1 _ (sH.trans (s4.trans s5)) (s5 _ _ e4)⟩
      · refine ⟨false, R.eLN, (fun z => by cases z), fun _ => ⟨false, R.eLE, (fun z => by cases z), fun _ => ⟨true, R.eL0, fun _ a ha => ⟨CL, ⟨rfl, rfl, R.xL⟩, fun _ => ?_⟩, fun z => by cases z⟩⟩⟩
        refine ⟨(by show 3 ≤ sizeLine; decide), fun l1 hl1 => ?_⟩
        have s3 : Same H' (upd H' l1 (.lst [.str "lags", .str "row", .str "other"])) := same_new hl1
        have e3 : (upd H' l1 (.lst [.str "lags", .str "row", .str "other"])) l1 = some (.lst [.str "lags", .str "row", .str "other"]) := upd_same
        generalize upd H' l1 (.lst [.str "lags", .str "row", .str "other"]) = H3 at s3 e3
        refine ⟨_, rfl, .ref CL, .ref CL, true, rfl, .inl rfl, (fun u hu => hu), R.kLL, .inr ⟨true, rfl, _, _, rfl, rfl, .inl ⟨by decide, by decide⟩, _, _, rfl, rfl, ?_⟩⟩
        refine ⟨_, rfl, .ref CR, .ref CR, false, rfl, .inl rfl, (fun u hu => hu), R.kLR, .inr ⟨false, rfl, _, _, rfl, rfl, l1, _, 0, .str "lags", rfl, rfl, SqL.of e3, atI_nat (j := 0) rfl, ?_⟩⟩
        refine ⟨(by show 2 ≤ sizeLine; decide), fun t1 ht1 => ?_⟩
        have s4 := s3.trans (same_new (o := .tup [.str "lags", .non]) ht1)
        have e4 : (upd H3 t1 (.tup [.str "lags", .non])) t1 = some (.tup [.str "lags", .non]) := upd_same
        generalize upd H3 t1 (.tup [.str "lags", .non]) = H4 at s4 e4
        refine gn_norm (σ' := [some u1, some u2, some u3, some (.ref m0), some (.ref t1), some (.ref a)]) rfl ?_
        refine ⟨_, rfl, (by show 3 ≤ sizeLine; decide), fun t2 ht2 => ?_⟩
        have s5 := s4.trans (same_new (o := .tup [.ref CB, .ref CG, .ref CW]) ht2)
        have e5 := (same_new (o := .tup [.ref CB, .ref CG, .ref CW]) ht2) _ _ e4
        refine ⟨t2, _, _, false, rfl, .inl rfl, SqT.of upd_same, vals_refs [CB, CG, CW], R.aL, ?_⟩
        generalize upd H4 t2 (.tup [.ref CB, .ref CG, .ref CW]) = H5 at s5 e5
        refine ⟨(by show 1 ≤ sizeLine; decide), fun l6 hl6 => ?_⟩
        have s6 := same_new (o := .lst [.bl false]) hl6
        refine gn_norm (σ' := [some u1, some u2, some u3, some (.ref l6), some (.ref t1), some (.ref a)]) rfl ?_
        refine ⟨_, rfl, l6, _, rfl, .inl (SqL.of upd_same), rfl, rfl, false, ?_, iteF ?_⟩
        · rfl
        exact ⟨_, rfl, q t1 _ (sH.trans (s5.trans s6)) (s6 _ _ e5)⟩
      · refine ⟨false, R.eRN, (fun z => by cases z), fun _ => ⟨false, R.eRE, (fun z => by cases z), fun _ => ⟨true, R.eR0, fun _ a ha => ⟨CR, ⟨rfl, rfl, R.xR⟩, fun _ => ?_⟩, fun z => by cases z⟩⟩⟩
        refine ⟨(by show 3 ≤ sizeLine; decide), fun l1 hl1 => ?_⟩
        have s3 : Same H' (upd H' l1 (.lst [.str "lags", .str "row", .str "other"])) := same_new hl1
        have e3 : (upd H' l1 (.lst [.str "lags", .str "row", .str "other"])) l1 = some (.lst [.str "lags", .str "row", .str "other"]) := upd_same
        generalize upd H' l1 (.lst [.str "lags", .str "row", .str "other"]) = H3 at s3 e3
        refine ⟨_, rfl, .ref CL, .ref CL, false, rfl, .inl rfl, (fun u hu => hu), R.kRL, .inr ⟨false, rfl, _, _, rfl, rfl, .inl ⟨by decide, by decide⟩, _, _, rfl, rfl, ?_⟩⟩
        refine ⟨_, rfl, .ref CR, .ref CR, true, rfl, .inl rfl, (fun u hu => hu), R.kRR, .inr ⟨true, rfl, _, _, rfl, rfl, l1, _, 1, .str "row", rfl, rfl, SqL.of e3, atI_nat (j := 1) rfl, ?_⟩⟩
        refine ⟨(by show 2 ≤ sizeLine; decide), fun t1 ht1 => ?_⟩
        have s4 := s3.trans (same_new (o := .tup [.str "row", .non]) ht1)
        have e4 : (upd H3 t1 (.tup [.str "row", .non])) t1 = some (.tup [.str "row", .non]) := upd_same
        generalize upd H3 t1 (.tup [.str "row", .non]) = H4 at s4 e4
        refine gn_norm (σ' := [some u1, some u2, some u3, some (.ref m0), some (.ref t1), some (.ref a)]) rfl ?_
        refine ⟨_, rfl, (by show 3 ≤ sizeLine; decide), fun t2 ht2 => ?_⟩
        have s5 := s4.trans (same_new (o := .tup [.ref CB, .ref CG, .ref CW]) ht2)
        have e5 := (same_new (o := .tup [.ref CB, .ref CG, .ref CW]) ht2) _ _ e4
        refine ⟨t2, _, _, false, rfl, .inl rfl, SqT.of upd_same, vals_refs [CB, CG, CW], R.aR, ?_⟩
        generalize upd H4 t2 (.tup [.ref CB, .ref CG, .ref CW]) = H5 at s5 e5
        refine ⟨(by show 1 ≤ sizeLine; decide), fun l6 hl6 => ?_⟩
        have s6 := same_new (o := .lst [.bl false]) hl6
        refine gn_norm (σ' := [some u1, some u2, some u3, some (.ref l6), some (.ref t1), some (.ref a)]) rfl ?_
        refine ⟨_, rfl, l6, _, rfl, .inl (SqL.of upd_same), rfl, rfl, false, ?_, iteF ?_⟩
        · rfl
        exact ⟨_, rfl, q t1 _ (sH.trans (s5.trans s6)) (s6 _ _ e5)⟩
end
end Lag

set_option maxRecDepth 100000
set_option maxHeartbeats 8000000
namespace Lag
open PySem PySem.Spec PyProof.Rows L2
abbrev sTight : Stmt := topS 72 -- @_law_tight_shift
def spTight (K : PySem.W.Frag) : Sp := fun vs H Q _ => ∃ (wl lg lw ll : Addr) (gs : List Gt) (ws : List Wr) (ls : List Int), vs = [.ref wl, .ref lg, .ref lw, .ref ll] ∧ WellAt wl H ∧ lg ≠ wl ∧ lw ≠ wl ∧ ll ≠ wl ∧ LG K H lg gs ∧ LW K H lw ws ∧ NetOk gs ws ∧ gs.length ≤ 12 ∧ H ll = some (.lst (ls.map V.int)) ∧ LagOk gs ls ∧ (∀ y ∈ ls, -36 ≤ y ∧ y ≤ 36) ∧
  ∀ l2 ls2 H', Dr wl H H' → l2 ≠ wl → H' l2 = some (.lst (ls2.map V.int)) → LagOk gs ls2 → (∀ y ∈ ls2, -56 ≤ y ∧ y ≤ 56) → Q (.ref l2) H'
theorem LG.drT {K : PySem.W.Frag} {wl l : Addr} {H H' : Hp} {gs : List Gt} (h : LG K H l gs) (n : l ≠ wl) (W : WellAt wl H) (d : Dr wl H H') : LG K H' l gs := by
  obtain ⟨vs, q, a⟩ := h
  exact ⟨vs, d.but _ _ n q, a.imp fun _ _ r => r.tk (TK.dr W d.but)⟩
theorem LW.drT {K : PySem.W.Frag} {wl l : Addr} {H H' : Hp} {ws : List Wr} (h : LW K H l ws) (n : l ≠ wl) (W : WellAt wl H) (d : Dr wl H H') : LW K H' l ws := by
  obtain ⟨vs, q, a⟩ := h
  exact ⟨vs, d.but _ _ n q, a.imp fun _ _ r => r.tk (TK.dr W d.but)⟩
section
variable {P : Program} {w : World} {K : PySem.W.Frag} {mg : Str → Option Value} {base : Heap}
abbrev nTight : List Str := ["_law_state", "_law_gates_here", "_law_wires", "_law_shift_here", "_law_k", "_law_other"]
theorem scTight : FnScope nTight ["_law_state", "_law_gates_here", "_law_wires", "_law_shift_here"] (defScope sTight) := ⟨rfl, rfl, rfl, by decide +kernel, rfl, by decide +kernel, by decide +kernel⟩
abbrev DTight (P : Program) (w : World) (K : PySem.W.Frag) (mg : Str → Option Value) (base : Heap) := Df P w K mg base 3 "_law_tight_shift" ["_law_state", "_law_gates_here", "_law_wires", "_law_shift_here"] (spTight K)
theorem ok_tight {f fD fO fC : Addr} {fd fdD fdO fdC : FuncData} (F : Fun K "_law_tight_shift" "_law_tight_shift" sTight f fd) (hm : mg "_law_tight_shift" = some (.ref f)) (B : Bt mg) (mn : mg "min" = none) (DD : DDraw P w K mg base fD fdD) (DOf : DOf P w K mg base fO fdO) (DGC : DGCounts P w K mg base fC fdC) : DTight P w K mg base f fd := by
  refine ⟨?_, hm, F.kp, F.binds fun _ _ _ _ _ _ us hl => match us, hl with | [_, _, _, _], _ => rfl⟩
  refine F.ok scTight (fun vs H Q E h => ?_) (fun cdv A outer s H vs Q E hr h => ?_)
  · obtain ⟨wl, lg, lw, ll, gs, ws, ls, rfl, _⟩ := h
    rfl
  · obtain ⟨wl, lg, lw, ll, gs, ws, ls, rfl, hw, nlg, nlw, nll, GG, WW, N, hgl, hll, lok, lb, q⟩ := h
    have nd := scTight.nd
    refine ⟨_, pss_cons (ps_set (i := 4) nd rfl (.inl rfl) (pe_call DD.ok (hr.mono (by decide)) (by rfl) DD.mg DD.kp DD.bd .nil pass0 (pa_cons (pv 0) (pa_cons (pe_callB call_len_seq (by rfl) B.len PySem.boot_len (pa_cons (pv 1) pa_nil)) pa_nil)))) <|
        pss_cons (ps_set (i := 5) nd rfl (.inl rfl) (pe_callTy call_list_of (by rfl) B.list (by decide +kernel) (pa_cons (pv 3) pa_nil))) <|
        pss_cons (ps_asg (pe_op op_add (pe_ix ix_list (pv 3) (pv 4) (fun _ _ => rfl)) (pe_call DOf.ok (hr.mono (by decide)) (by rfl) DOf.mg DOf.kp DOf.bd .nil pass0 (pa_cons (pv 0) (pa_cons (pe_lst (pa_cons pe_int (pa_cons (pe_un un_neg pe_int) pa_nil))) pa_nil)))) (pg_sub (pv 5) (pv 4) set_list)) <|
        pss_cons (ps_if (PW.pt (pw_or (pt_cmpR op_in_seq (pe_ix ix_tup (pe_ix ix_list (pv 1) (pv 4) (fun _ _ => rfl)) pe_int (fun _ _ => rfl)) (pe_lst (pa_cons pe_str (pa_cons pe_str pa_nil))) (by rfl)) (pw_or1 (pt_cmpR op_eq (pe_callB (cr_min rfl) (by rfl) mn (by decide +kernel) (pa_cons (pe_op op_cat (pe_lst (pa_cons pe_int pa_nil)) (pe_call DGC.ok (hr.mono (by decide)) (by rfl) DGC.mg DGC.kp DGC.bd .nil pass0 (pa_cons (pv 2) (pa_cons (pv 5) pa_nil)))) pa_nil)) pe_int (nomark _))))) (pss_one (ps_ret (pv 3))) pss_nil) <|
        pss_one (ps_ret (pv 5)), ?_⟩
    have hlen := lok.len
    obtain ⟨gv, hgv, ga⟩ := id GG
    have hgvl : gv.length = gs.length := ga.1
    have hpos : 0 < gs.length := List.length_pos_iff.mpr N.ne
    refine ⟨_, rfl, _, rfl, lg, _, rfl, .inl (SqL.of hgv), wl, _, rfl, by omega, by omega, hw, fun d H1 d0 d1 D1 => ?_⟩
    obtain ⟨kN, rfl⟩ : ∃ n : Nat, d = (n : Int) := ⟨d.toNat, by omega⟩
    have hk : kN < gs.length := by omega
    have hll1 := D1.but _ _ nll hll
    refine gn_norm (σ' := [some (.ref wl), some (.ref lg), some (.ref lw), some (.ref ll), some (.int (kN : Nat)), none]) rfl ?_
    refine ⟨_, rfl, ll, _, rfl, .inl (SqL.of hll1), fun c2 hc2 => ?_⟩
    have s2 : Same H1 (upd H1 c2 (.lst (ls.map V.int))) := same_new hc2
    have e2 : (upd H1 c2 (.lst (ls.map V.int))) c2 = some (.lst (ls.map V.int)) := upd_same
    have D2 : Dr wl H (upd H1 c2 (.lst (ls.map V.int))) := D1.trans (Dr.new D1.well hc2)
    have n2 : c2 ≠ wl := (D1.well.ne hc2).symm
    have h2n : H c2 = none := D1.free hw hc2
    generalize upd H1 c2 (.lst (ls.map V.int)) = H2 at s2 e2 D2
    refine gn_norm (σ' := [some (.ref wl), some (.ref lg), some (.ref lw), some (.ref ll), some (.int (kN : Nat)), some (.ref c2)]) rfl ?_
    have hkl : kN < ls.length := by omega
    refine ⟨_, rfl, _, rfl, ll, _, _, .int ls[kN], rfl, rfl, SqL.of (s2 _ _ hll1), atI_nat (by rw [List.getElem?_map, List.getElem?_eq_getElem hkl]; rfl), ?_⟩
    refine ⟨_, rfl, _, rfl, (by show 2 ≤ sizeLine; decide), fun c3 hc3 => ?_⟩
    have n3 : c3 ≠ wl := (D2.well.ne hc3).symm
    have D3 : Dr wl H (upd H2 c3 (.lst [.int 20, .int (-20)])) := D2.trans (Dr.new D2.well hc3)
    have s3 : Same H2 (upd H2 c3 (.lst [.int 20, .int (-20)])) := same_new hc3
    have e3 : (upd H2 c3 (.lst [.int 20, .int (-20)])) c3 = some (.lst [.int 20, .int (-20)]) := upd_same
    refine ⟨wl, c3, [.int 20, .int (-20)], rfl, n3, D3.well, SqL.of e3, by simp, by show 2 < 1000000; decide, fun v H4 hv E4 => ?_⟩
    have D4 := D3.trans E4
    obtain ⟨z, rfl, z0, z1⟩ : ∃ z : Int, v = .int z ∧ -20 ≤ z ∧ z ≤ 20 := by
      simp only [List.mem_cons, List.not_mem_nil, or_false] at hv
      rcases hv with rfl | rfl
      · exact ⟨20, rfl, by decide, by decide⟩
      · exact ⟨-20, rfl, by decide, by decide⟩
    have e24 : H4 c2 = some (.lst (ls.map V.int)) := E4.but _ _ n2 (s3 _ _ e2)
    refine ⟨_, _, rfl, rfl, ?_⟩
    refine ⟨_, rfl, _, rfl, c2, _, _, kN, rfl, rfl, e24, Evl.ixN_nat (by rw [List.length_map]; exact hkl), ?_⟩
    have est : (ls.map V.int).set kN (V.int (ls[kN] + z)) = (ls.set kN (ls[kN] + z)).map V.int := by rw [List.map_set]
    rw [est]
    have D5 : Dr wl H (upd H4 c2 (.lst ((ls.set kN (ls[kN] + z)).map V.int))) := ⟨fun b o hb e => by
      rw [upd_ne (fun y => by rw [y, h2n] at e; cases e)]
      exact D4.but b o hb e, by
      obtain ⟨xs, ex, kx⟩ := D4.well
      exact ⟨xs, by rw [upd_ne n2.symm]; exact ex, kx⟩⟩
    have e5 : (upd H4 c2 (.lst ((ls.set kN (ls[kN] + z)).map V.int))) c2 = some (.lst ((ls.set kN (ls[kN] + z)).map V.int)) := upd_same
    generalize upd H4 c2 (.lst ((ls.set kN (ls[kN] + z)).map V.int)) = H5 at D5 e5
    have G5 := GG.drT nlg hw D5
    have W5 := WW.drT nlw hw D5
    have hll5 := D5.but _ _ nll hll
    obtain ⟨gv5, hgv5, ga5⟩ := id G5
    obtain ⟨wv5, hwv5, wa5⟩ := id W5
    obtain ⟨g0, hg0⟩ : ∃ g, gs[kN]? = some g := ⟨_, List.getElem?_eq_getElem hk⟩
    obtain ⟨gx, hgx, ga0, rfl, sq0⟩ := ga5.getR hg0
    have back : ∀ {Hz : Hp}, Dr wl H Hz → Hz ll = some (.lst (ls.map V.int)) → Q (.ref ll) Hz := fun dz e => q ll ls _ dz nll e lok fun y hy => by
      have := lb y hy
      omega
    refine ⟨_, rfl, _, rfl, lg, _, _, .ref ga0, rfl, rfl, SqL.of hgv5, atI_nat hgx, ga0, _, 0, _, rfl, rfl, sq0, atI_nat (j := 0) rfl, (by show 2 ≤ sizeLine; decide), fun c6 hc6 => ?_⟩
    have s6 : Same H5 (upd H5 c6 (.lst [.str "in", .str "out"])) := same_new hc6
    have e6 : (upd H5 c6 (.lst [.str "in", .str "out"])) c6 = some (.lst [.str "in", .str "out"]) := upd_same
    have D6 : Dr wl H (upd H5 c6 (.lst [.str "in", .str "out"])) := D5.trans (Dr.new D5.well hc6)
    generalize upd H5 c6 (.lst [.str "in", .str "out"]) = H6 at s6 e6 D6
    refine ⟨c6, _, rfl, .inl (SqL.of e6), rfl, rfl, ?_⟩
    refine ⟨_, rfl, ite2 (fun e => ?_) (fun e => ?_)⟩
    · exact ⟨_, rfl, back D6 (s6 _ _ hll5)⟩
    · have hnp : ¬ portK g0.1 := fun k => e (port_in.mpr k)
      have hkk : kindAt gs kN = g0.1 := kindAt_get hg0
      have hin : Inner gs kN := ⟨hk, fun y => hnp (.inl (hkk ▸ y)), fun y => hnp (.inr (hkk ▸ y))⟩
      have hb := lb ls[kN] (List.getElem_mem hkl)
      have lok' : LagOk gs (ls.set kN (ls[kN] + z)) := lok.set hin (by omega) (by omega)
      have bd' : ∀ y ∈ ls.set kN (ls[kN] + z), -56 ≤ y ∧ y ≤ 56 := fun y hy => by
        rcases mem_setI hy with u | u
        · have := lb y u
          omega
        · omega
      generalize ls.set kN (ls[kN] + z) = ls' at e5 lok' bd'
      have hwl := N.wl
      refine ⟨(by show 1 ≤ sizeLine; decide), fun c7 hc7 => ?_⟩
      have s7 : Same H6 (upd H6 c7 (.lst [.int 0])) := same_new hc7
      have e7 : (upd H6 c7 (.lst [.int 0])) c7 = some (.lst [.int 0]) := upd_same
      generalize upd H6 c7 (.lst [.int 0]) = H7 at s7 e7
      have s57 := s6.trans s7
      refine ⟨_, rfl, _, rfl, lw, c2, wv5, ws, ls', rfl, s57 _ _ hwv5, wa5.imp fun _ _ r => r.tk (TK.same s57), by omega, SqL.of (s57 _ _ e5), fun x hx => ?_, fun c8 H8 s8 hc8 e8 => ?_⟩
      · rw [lok'.len]
        exact ⟨(N.wok x hx).s, (N.wok x hx).e⟩
      refine ⟨c7, c8, _, _, rfl, rfl, s8 _ _ e7, e8, ?_, fun c9 hc9 => ?_⟩
      · unfold cntsL
        rw [List.length_map, List.length_map]
        show 1 + _ ≤ 2 ^ 24
        omega
      have s9 : Same H8 (upd H8 c9 (.lst ([.int 0] ++ (cntsL ws ls').map V.int))) := same_new hc9
      have e9 : (upd H8 c9 (.lst ([.int 0] ++ (cntsL ws ls').map V.int))) c9 = some (.lst ((0 :: cntsL ws ls').map V.int)) := upd_same
      generalize upd H8 c9 (.lst ([.int 0] ++ (cntsL ws ls').map V.int)) = H9 at s9 e9
      have S := s7.trans (s8.trans s9)
      have D9 : Dr wl H H9 := ⟨D6.but.trans (But.same S), D6.well.same S⟩
      refine ⟨c9, _, rfl, SqL.of e9, by simp, fun mm hmm hmm2 => ?_⟩
      refine ⟨rfl, _, rfl, ite2 (fun e => ?_) (fun e => ?_)⟩
      · exact ⟨_, rfl, back D9 (S _ _ (s6 _ _ hll5))⟩
      · exact ⟨_, rfl, q c2 ls' _ D9 n2 (S _ _ (s6 _ _ e5)) lok' bd'⟩
end
end Lag

set_option maxRecDepth 100000
set_option maxHeartbeats 8000000
namespace Lag
open PySem PySem.Spec PyProof.Rows L2
abbrev sDue : Stmt := topS 75 -- @_law_due
/-- the word that is due, and what stands beside it -/
def DueAt (K : PySem.W.Frag) (H : Hp) (lw : Addr) (u2 u3 : V) (odd bad : Bool) (wd : Str) (x : V) : Prop :=
  (odd = true ∧ wd = "lags" ∧ x = .non) ∨ (odd = false ∧ ∃ (ll : Addr) (ls : List Int) (wv : List V) (ws : List Wr), u2 = .ref ll ∧ H ll = some (.lst (ls.map V.int)) ∧ H lw = some (.lst wv) ∧ All2 (WireV K H) wv ws ∧ ws.length ≤ 1000 ∧ (∀ x ∈ ws, x.1 < ls.length ∧ x.2.1 < ls.length) ∧ ls.length ≤ 500 ∧
    ((∃ pl : Nat, FirstNeg (cntsL ws ls) pl ∧ wd = "let" ∧ x = .int (pl : Nat)) ∨ (LetOk ws ls ∧ ((bad = true ∧ wd = "row" ∧ x = .non) ∨ (bad = false ∧ ∃ (lr : Addr) (xs : List V) (mm : Int), u3 = .ref lr ∧ H lr = some (.lst xs) ∧ mm ∈ 0 :: ls ∧ (∀ y ∈ 0 :: ls, y ≤ mm) ∧ ((((xs.length : Nat) : Int) < mm ∧ wd = "early" ∧ x = .int mm) ∨ (¬ ((xs.length : Nat) : Int) < mm ∧ wd = "told" ∧ x = .non)))))))
def spDue (K : PySem.W.Frag) : Sp := fun vs H Q _ => ∃ (lw : Addr) (u2 u3 : V) (odd bad : Bool) (wd : Str) (x : V), vs = [.ref lw, u2, u3, .bl odd, .bl bad] ∧ DueAt K H lw u2 u3 odd bad wd x ∧ ∀ t H', Same H H' → H' t = some (.tup [.str wd, x]) → Q (.ref t) H'
section
variable {P : Program} {w : World} {K : PySem.W.Frag} {mg : Str → Option Value} {base : Heap}
abbrev nDue : List Str := ["_law_wires", "_law_shift_here", "_law_rows_here", "_law_is_odd", "_law_is_bad", "_law_counted", "_law_k"]
theorem scDue : FnScope nDue ["_law_wires", "_law_shift_here", "_law_rows_here", "_law_is_odd", "_law_is_bad"] (defScope sDue) := ⟨rfl, rfl, rfl, by decide +kernel, rfl, by decide +kernel, by decide +kernel⟩
abbrev DDue (P : Program) (w : World) (K : PySem.W.Frag) (mg : Str → Option Value) (base : Heap) := Df P w K mg base 2 "_law_due" ["_law_wires", "_law_shift_here", "_law_rows_here", "_law_is_odd", "_law_is_bad"] (spDue K)
theorem ok_due {f fC : Addr} {fd fdC : FuncData} (F : Fun K "_law_due" "_law_due" sDue f fd) (hm : mg "_law_due" = some (.ref f)) (B : Bt mg) (DGC : DGCounts P w K mg base fC fdC) : DDue P w K mg base f fd := by
  refine ⟨?_, hm, F.kp, F.binds fun _ _ _ _ _ _ us hl => match us, hl with | [_, _, _, _, _], _ => rfl⟩
  refine F.ok scDue (fun vs H Q E h => ?_) (fun cdv A outer s H vs Q E hr h => ?_)
  · obtain ⟨lw, u2, u3, odd, bad, wd, x, rfl, _⟩ := h
    rfl
  · obtain ⟨lw, u2, u3, odd, bad, wd, x, rfl, h, q⟩ := h
    have nd := scDue.nd
    refine ⟨_, pss_cons (ps_if (pt_val (pv 3)) (pss_one (ps_ret (pe_tup (pa_cons pe_str (pa_cons pe_non pa_nil))))) pss_nil) <|
        pss_cons (ps_set (i := 5) nd rfl (.inl rfl) (pe_call DGC.ok (hr.mono (by decide)) (by rfl) DGC.mg DGC.kp DGC.bd .nil pass0 (pa_cons (pv 0) (pa_cons (pv 1) pa_nil)))) <|
        pss_cons (ps_for PassesOwn.never rfl (pi_range1 (by rfl) B.range (pa_cons (pe_callB call_len_seq (by rfl) B.len PySem.boot_len (pa_cons (pv 0) pa_nil)) pa_nil)) (pg_name (i := 6) nd rfl (.inl rfl)) (pss_one (ps_if (pt_cmpR op_lt (pe_ix ix_list (pv 5) (pv 6) (fun _ _ => rfl)) pe_int (nomark _)) (pss_one (ps_ret (pe_tup (pa_cons pe_str (pa_cons (pv 6) pa_nil))))) pss_nil))) <|
        pss_cons (ps_if (pt_val (pv 4)) (pss_one (ps_ret (pe_tup (pa_cons pe_str (pa_cons pe_non pa_nil))))) pss_nil) <|
        pss_cons (ps_if (pt_cmpR op_lt (pe_callB call_len_seq (by rfl) B.len PySem.boot_len (pa_cons (pv 2) pa_nil)) (pe_callB (cr_max rfl) (by rfl) B.max (by decide +kernel) (pa_cons (pe_op op_cat (pe_lst (pa_cons pe_int pa_nil)) (pv 1)) pa_nil)) (nomark _)) (pss_one (ps_ret (pe_tup (pa_cons pe_str (pa_cons (pe_callB (cr_max rfl) (by rfl) B.max (by decide +kernel) (pa_cons (pe_op op_cat (pe_lst (pa_cons pe_int pa_nil)) (pv 1)) pa_nil)) pa_nil))))) pss_nil) <|
        pss_one (ps_ret (pe_tup (pa_cons pe_str (pa_cons pe_non pa_nil)))), ?_⟩
    have two : ∀ {Hz : Hp}, Same H Hz → 2 ≤ sizeLine ∧ ∀ t, Hz t = none → Q (.ref t) (upd Hz t (.tup [.str wd, x])) := fun sz => ⟨by decide, fun t ht => q t _ (sz.trans (same_new ht)) upd_same⟩
    refine ⟨_, rfl, odd, rfl, ?_⟩
    rcases h with ⟨rfl, rfl, rfl⟩ | ⟨rfl, ll, ls, wv, ws, rfl, hll, hlw, wa, hwl, hends, hlsl, h⟩
    · exact iteT (two (Same.refl H))
    refine iteF ?_
    refine ⟨_, rfl, _, rfl, lw, ll, wv, ws, ls, rfl, hlw, wa, hwl, SqL.of hll, hends, fun lc H1 s1 hlc ec => ?_⟩
    refine gn_norm (σ' := [some (.ref lw), some (.ref ll), some u3, some (.bl false), some (.bl bad), some (.ref lc), none]) rfl ?_
    have hwvl : wv.length = ws.length := wa.1
    have hcl : (cntsL ws ls).length = ws.length := by
      unfold cntsL
      rw [List.length_map]
    refine ⟨_, rfl, lw, wv, rfl, .inl (SqL.of (s1 _ _ hlw)), _, rfl, by omega, by omega, for_range (lo := 0) (n := ((wv.length : Nat) : Int).toNat) (fun i σ H' => ∃ s6 : Option V, σ = [some (.ref lw), some (.ref ll), some u3, some (.bl false), some (.bl bad), some (.ref lc), s6] ∧ H' = H1 ∧ ∀ (j : Nat) (c' : Int), j < i → (cntsL ws ls)[j]? = some c' → 0 ≤ c') ⟨_, rfl, rfl, fun j c' hj => absurd hj (by omega)⟩ ?_ ?_⟩
    · rintro i σ H' hi ⟨s6, rfl, rfl, all⟩
      have hiw : i < (cntsL ws ls).length := by omega
      refine gn_norm (σ' := [some (.ref lw), some (.ref ll), some u3, some (.bl false), some (.bl bad), some (.ref lc), some (.int (0 + (i : Nat)))]) rfl ?_
      refine ⟨_, rfl, _, rfl, lc, _, _, .int (cntsL ws ls)[i], rfl, rfl, SqL.of ec, atI_of (j := i) (Int.zero_add _) (by rw [List.getElem?_map, List.getElem?_eq_getElem hiw]; rfl), ?_⟩
      refine ⟨_, _, rfl, rfl, _, rfl, ite2 (fun e => ?_) (fun e => ?_)⟩
      · have hneg : (cntsL ws ls)[i] < 0 := of_decide_eq_true e
        rcases h with ⟨pl, ⟨c, hc, neg, low⟩, rfl, rfl⟩ | ⟨lt, _⟩
        · have epl : pl = i := by
            rcases Nat.lt_trichotomy pl i with z | z | z
            · have := all pl c z hc
              omega
            · exact z
            · have := low i _ z (List.getElem?_eq_getElem hiw)
              omega
          subst epl
          have ex : (0 : Int) + (pl : Nat) = ((pl : Nat) : Int) := Int.zero_add _
          rw [← ex] at two
          exact ⟨_, rfl, two s1⟩
        · have := lt _ (List.getElem_mem hiw)
          omega
      · refine ⟨_, rfl, rfl, fun j c' hj hc => ?_⟩
        by_cases hji : j = i
        · subst hji
          rw [List.getElem?_eq_getElem hiw] at hc
          have e2 : (cntsL ws ls)[j] = c' := Option.some.inj hc
          have : ¬ ((cntsL ws ls)[j] < 0) := fun z => e (decide_eq_true z)
          omega
        · exact all j c' (by omega) hc
    · rintro σ H' ⟨s6, rfl, rfl, all⟩
      rcases h with ⟨pl, ⟨c, hc, neg, low⟩, rfl, rfl⟩ | ⟨lt, h⟩
      · have hpl : pl < (cntsL ws ls).length := (List.getElem?_eq_some_iff.mp hc).1
        have := all pl c (by omega) hc
        omega
      · refine ⟨_, rfl, bad, rfl, ?_⟩
        rcases h with ⟨rfl, rfl, rfl⟩ | ⟨rfl, lr, xs, mm, rfl, hlr, hm1, hm2, h⟩
        · exact iteT (two s1)
        refine iteF ?_
        have maxi : ∀ {Hz : Hp} {σz : L2.St} {Rz : V → Hp → Prop}, Same H Hz → σz[1]? = some (some (.ref ll)) → (∀ H2, Same H H2 → Rz (.int mm) H2) → tCB (rMax K) (tCons (tOp rCat (tLst (tCons (tC (.int 0)) tNil)) (tVar 1)) tNil) σz Hz Rz := fun {Hz σz Rz} sz hσ k => by
          refine ⟨by decide, fun c hc => ?_⟩
          have s2 : Same Hz (upd Hz c (.lst [.int 0])) := same_new hc
          have e2 : (upd Hz c (.lst [.int 0])) c = some (.lst [.int 0]) := upd_same
          generalize upd Hz c (.lst [.int 0]) = H2 at s2 e2
          refine ⟨_, hσ, c, ll, _, _, rfl, rfl, e2, (sz.trans s2) _ _ hll, Nat.le_of_lt (small1000 (by rw [List.length_map]; show 1 + _ ≤ _; omega)), fun c2 hc2 => ?_⟩
          have e3 : (upd H2 c2 (.lst ([.int 0] ++ ls.map V.int))) c2 = some (.lst ((0 :: ls).map V.int)) := upd_same
          refine ⟨c2, 0 :: ls, rfl, SqL.of e3, by simp, fun m h1 h2 => ?_⟩
          have em : m = mm := by
            have z1 := h2 mm hm1
            have z2 := hm2 m h1
            omega
          rw [em]
          exact k _ ((sz.trans s2).trans (same_new hc2))
        refine ⟨_, rfl, lr, xs, rfl, .inl (SqL.of (s1 _ _ hlr)), ?_⟩
        refine maxi s1 rfl fun H2 s2 => ?_
        refine ⟨_, _, rfl, rfl, _, rfl, ite2 (fun e => ?_) (fun e => ?_)⟩
        · have e1 : ((xs.length : Nat) : Int) < mm := of_decide_eq_true e
          rcases h with ⟨_, rfl, rfl⟩ | ⟨n, _⟩
          · exact maxi s2 rfl fun H3 s3 => two s3
          · exact absurd e1 n
        · have e1 : ¬ ((xs.length : Nat) : Int) < mm := fun z => e (decide_eq_true z)
          rcases h with ⟨n, _⟩ | ⟨_, rfl, rfl⟩
          · exact absurd n e1
          · exact two s2
end
end Lag

set_option maxRecDepth 100000
set_option maxHeartbeats 8000000
namespace Lag
open PySem PySem.Spec PyProof.Rows L2
abbrev sOddShift : Stmt := topS 71 -- @_law_odd_shift
/-! ### data that can be shown -/
structure Tx (k b : Nat) (d : PyData) : Prop where
  sw : d.showable = true
  si : d.leavesShort 45 = true
  bl : d.bulk ≤ b
  dp : d.depth ≤ k
theorem Tx.int {k b : Nat} {i : Int} (h : i.natAbs < 10 ^ 42) : Tx k b (.int i) := by
  refine ⟨?_, ?_, Nat.zero_le _, Nat.zero_le _⟩
  · show decide (i.natAbs.log2 < 1920) = true
    refine decide_eq_true ?_
    by_cases h0 : i.natAbs = 0
    · rw [h0]
      decide
    · exact Nat.lt_of_lt_of_le ((Nat.log2_lt h0).mpr (show i.natAbs < 2 ^ 140 from Nat.lt_of_lt_of_le h (by decide))) (by decide)
  · show decide ((PyData.shown (.int i)).length ≤ 45) = true
    have e := int_text_length_le10 (k := 42) (by decide) h
    refine decide_eq_true ?_
    show (Str.ofString (toString i)).length ≤ 45
    rw [PySem.ofString_length]
    omega
theorem tx_all {k b : Nat} : ∀ {ds : List PyData}, (∀ d ∈ ds, Tx k b d) → PyData.showableAll ds = true ∧ PyData.leavesShortAll 45 ds = true ∧ PyData.bulkAll ds ≤ ds.length * (b + 1) ∧ PyData.depthAll ds ≤ k
  | [], _ => ⟨rfl, rfl, Nat.zero_le _, Nat.zero_le _⟩
  | d :: ds, h => by
    obtain ⟨h1, h2, h3, h4⟩ := h d (List.mem_cons_self ..)
    obtain ⟨k1, k2, k3, k4⟩ := tx_all fun e he => h e (List.mem_cons_of_mem _ he)
    refine ⟨?_, ?_, ?_, ?_⟩
    · show (d.showable && PyData.showableAll ds) = true
      rw [h1, k1]
      rfl
    · show (d.leavesShort 45 && PyData.leavesShortAll 45 ds) = true
      rw [h2, k2]
      rfl
    · show d.bulk + 1 + PyData.bulkAll ds ≤ (ds.length + 1) * (b + 1)
      rw [Nat.succ_mul]
      omega
    · simp only [PyData.depthAll]
      exact Nat.max_le.mpr ⟨h4, k4⟩
theorem Tx.list {k b n : Nat} {ds : List PyData} (hn : ds.length ≤ n) (h : ∀ d ∈ ds, Tx k b d) : Tx (k + 1) (n * (b + 1)) (.list ds) := by
  obtain ⟨k1, k2, k3, k4⟩ := tx_all h
  exact ⟨k1, k2, Nat.le_trans k3 (Nat.mul_le_mul_right _ hn), by simp only [PyData.depth]; omega⟩
theorem Tx.tuple {k b n : Nat} {ds : List PyData} (hn : ds.length ≤ n) (h : ∀ d ∈ ds, Tx k b d) : Tx (k + 1) (n * (b + 1)) (.tuple ds) := by
  obtain ⟨k1, k2, k3, k4⟩ := tx_all h
  exact ⟨k1, k2, Nat.le_trans k3 (Nat.mul_le_mul_right _ hn), by simp only [PyData.depth]; omega⟩
theorem Tx.mono {k b k' b' : Nat} {d : PyData} (h : Tx k b d) (hk : k ≤ k') (hb : b ≤ b') : Tx k' b' d := ⟨h.sw, h.si, Nat.le_trans h.bl hb, Nat.le_trans h.dp hk⟩
theorem Tx.fits {k b : Nat} {d : PyData} (h : Tx k b d) (hb : b ≤ 100000) : d.shown.length ≤ sizeLine := by
  have e := PyData.shown_le_bulk 45 (by decide) d h.si
  have h2 : (45 + 2) * d.bulk ≤ 47 * 100000 := Nat.mul_le_mul (by omega) (Nat.le_trans h.bl hb)
  rw [sizeLine_eq]
  omega
theorem Tx.non {k b : Nat} : Tx k b .none := ⟨rfl, (by decide +kernel), Nat.zero_le _, Nat.zero_le _⟩
theorem Tx.boo {k b : Nat} (x : Bool) : Tx k b (.bool x) := ⟨rfl, (by cases x <;> decide +kernel), Nat.zero_le _, Nat.zero_le _⟩
/-! ### rows as data -/
theorem dxs_ints {K : PySem.W.Frag} {Av : Addr → Prop} {H : Hp} : ∀ l : List Int, DxAll K Av H (l.map V.int) (l.map PyData.int)
  | [] => .nil
  | z :: l => .cons (.int z) (dxs_ints l)
theorem DxAll.app {K : PySem.W.Frag} {Av : Addr → Prop} {H : Hp} : ∀ {xs ys : List V} {ds es : List PyData}, DxAll K Av H xs ds → DxAll K Av H ys es → DxAll K Av H (xs ++ ys) (ds ++ es)
  | _, _, _, _, .nil, b => b
  | _, _, _, _, .cons h a, b => .cons h (DxAll.app a b)
theorem DxAll.one {K : PySem.W.Frag} {Av : Addr → Prop} {H : Hp} {v : V} {d : PyData} (h : Dx K Av H v d) : DxAll K Av H [v] [d] := .cons h .nil
/-- neither the well nor this list -/
abbrev Nor (wl l : Addr) : Addr → Prop := fun a => a ≠ wl ∧ a ≠ l
theorem XM.fresh {K : PySem.W.Frag} {wl l : Addr} {H : Hp} {o : HO} (h : H l = none) : XM K (· ≠ wl) (Nor wl l) H (upd H l o) := ⟨fun a xs n e => ⟨(same_new h) _ _ e, n, fun z => by
  rw [z, h] at e
  cases e⟩, fun a xs s => (TK.new h).seq s, fun a e => (same_new h) _ _ e⟩
theorem XM.mut {K : PySem.W.Frag} {wl l : Addr} {H : Hp} {o : HO} {vs : List V} (h : H l = some (.lst vs)) : XM K (Nor wl l) (Nor wl l) H (upd H l o) := ⟨fun a xs n e => ⟨by rw [upd_ne n.2]; exact e, n⟩, fun a xs s => (TK.lst h).seq s, fun a e => by
  rw [upd_ne]
  · exact e
  · intro z
    rw [z, h] at e
    cases e⟩
theorem XM.nor {K : PySem.W.Frag} {wl l : Addr} {H : Hp} : XM K (Nor wl l) (· ≠ wl) H H := ⟨fun a xs n e => ⟨e, n.1⟩, fun a xs s => s, fun a e => e⟩
theorem XM.drN {K : PySem.W.Frag} {w l : Addr} {H H' : Hp} (W : WellAt w H) (r : Dr w H H') : XM K (Nor w l) (Nor w l) H H' := ⟨fun a xs n h => ⟨r.but _ _ n.1 h, n⟩, fun a xs h => (TK.dr W r.but).seq h, fun a h => r.but _ _ (fun z => by
  obtain ⟨_, e, _⟩ := W
  rw [z, e] at h
  cases h) h⟩
/-- what is no list of lags of these gates, where it stands -/
def BadS (K : PySem.W.Frag) (Av : Addr → Prop) (gs : List Gt) (H : Hp) (v : V) : Prop := ∃ d, Dx K Av H v d ∧ BadL gs d ∧ Tx 3 200 d
theorem BadS.move {K : PySem.W.Frag} {Av Av' : Addr → Prop} {gs : List Gt} {H H' : Hp} {v : V} (h : BadS K Av gs H v) (m : XM K Av Av' H H') : BadS K Av' gs H' v := by
  obtain ⟨d, a, b, c⟩ := h
  exact ⟨d, Dx.move m d a, b, c⟩
def LagB (ls : List Int) : Prop := ∀ y ∈ ls, -56 ≤ y ∧ y ≤ 56
theorem lags_tx {ls : List Int} (hb : LagB ls) : ∀ d ∈ ls.map PyData.int, Tx 1 2 d := fun d hd => by
  obtain ⟨z, hz, rfl⟩ := List.mem_map.mp hd
  have := hb z hz
  exact .int (Nat.lt_of_le_of_lt (show z.natAbs ≤ 56 by omega) (by decide))
/-- lags with one that is none for its gate -/
theorem mid_lag {K : PySem.W.Frag} {Av : Addr → Prop} {H : Hp} {a : Addr} {gs : List Gt} {ls : List Int} {m : Nat} {g : Gt} {v : V} {d : PyData} (hb : LagB ls) (hl : ls.length = gs.length) (hg : gs.length ≤ 20) (hm : gs[m]? = some g) (e : H a = some (.lst ((ls.map V.int).take m ++ [v] ++ (ls.map V.int).drop (m + 1)))) (ha : Av a) (hd : Dx K Av H v d) (ht : Tx 1 2 d)
    (h1 : portK g.1 → fromD d 0 0 = false) (h2 : ¬ portK g.1 → fromD d (-500) 500 = false) : BadS K Av gs H (.ref a) := by
  rw [← List.map_take, ← List.map_drop] at e
  have hml : m < gs.length := (List.getElem?_eq_some_iff.mp hm).1
  have htl : ((ls.take m).map PyData.int).length = m := by
    rw [List.length_map, List.length_take]
    omega
  refine ⟨.list ((ls.take m).map PyData.int ++ [d] ++ (ls.drop (m + 1)).map PyData.int), .lst e ha (((dxs_ints _).app (.one hd)).app (dxs_ints _)), .inr ⟨_, rfl, .inr ⟨m, g, d, hm, ?_, h1, h2⟩⟩, ?_⟩
  · rw [List.append_assoc, List.getElem?_append_right (by omega), htl, Nat.sub_self]
    rfl
  · refine (Tx.list (n := 41) (b := 2) (k := 1) ?_ fun e he => ?_).mono (by decide) (by decide)
    · rw [List.length_append, List.length_append, htl, List.length_map, List.length_drop]
      show _ + 1 + _ ≤ _
      omega
    · rcases List.mem_append.mp he with he | he
      · rcases List.mem_append.mp he with he | he
        · exact lags_tx (fun y hy => hb y (List.mem_of_mem_take hy)) e he
        · rw [List.mem_singleton.mp he]
          exact ht
      · exact lags_tx (fun y hy => hb y (List.mem_of_mem_drop hy)) e he
def spOddShift (K : PySem.W.Frag) : Sp := fun vs H Q _ => ∃ (wl lg ll : Addr) (gs : List Gt) (ls : List Int), vs = [.ref wl, .ref lg, .ref ll] ∧ WellAt wl H ∧ lg ≠ wl ∧ ll ≠ wl ∧ LG K H lg gs ∧ gs ≠ [] ∧ gs.length ≤ 12 ∧ H ll = some (.lst (ls.map V.int)) ∧ ls.length = gs.length ∧ LagB ls ∧ ∀ v H', Dr wl H H' → BadS K (· ≠ wl) gs H' v → Q v H'
section
variable {P : Program} {w : World} {K : PySem.W.Frag} {mg : Str → Option Value} {base : Heap}
abbrev nOddShift : List Str := ["_law_state", "_law_gates_here", "_law_shift_here", "_law_k", "_law_odd", "_law_some", "_law_j", "_law_ports"]
theorem scOddShift : FnScope nOddShift ["_law_state", "_law_gates_here", "_law_shift_here"] (defScope sOddShift) := ⟨rfl, rfl, rfl, by decide +kernel, rfl, by decide +kernel, by decide +kernel⟩
abbrev DOddShift (P : Program) (w : World) (K : PySem.W.Frag) (mg : Str → Option Value) (base : Heap) := Df P w K mg base 3 "_law_odd_shift" ["_law_state", "_law_gates_here", "_law_shift_here"] (spOddShift K)
theorem ok_oddShift {f fD fO : Addr} {fd fdD fdO : FuncData} (F : Fun K "_law_odd_shift" "_law_odd_shift" sOddShift f fd) (hm : mg "_law_odd_shift" = some (.ref f)) (B : Bt mg) (DD : DDraw P w K mg base fD fdD) (DOf : DOf P w K mg base fO fdO) : DOddShift P w K mg base f fd := by
  refine ⟨?_, hm, F.kp, F.binds fun _ _ _ _ _ _ us hl => match us, hl with | [_, _, _], _ => rfl⟩
  refine F.ok scOddShift (fun vs H Q E h => ?_) (fun cdv A outer s H vs Q E hr h => ?_)
  · obtain ⟨wl, lg, ll, gs, ls, rfl, _⟩ := h
    rfl
  · obtain ⟨wl, lg, ll, gs, ls, rfl, hw, nlg, nll, GG, hne, hgl, hll, hlen, hb, q⟩ := h
    have nd := scOddShift.nd
    refine ⟨_, pss_cons (ps_set (i := 3) nd rfl (.inl rfl) (pe_call DD.ok (hr.mono (by decide)) (by rfl) DD.mg DD.kp DD.bd .nil pass0 (pa_cons (pv 0) (pa_cons (pe_callB call_len_seq (by rfl) B.len PySem.boot_len (pa_cons (pv 2) pa_nil)) pa_nil)))) <|
        pss_cons (ps_set (i := 4) nd rfl (.inl rfl) (pe_call DOf.ok (hr.mono (by decide)) (by rfl) DOf.mg DOf.kp DOf.bd .nil pass0 (pa_cons (pv 0) (pa_cons (pe_lst (pa_cons pe_bl (pa_cons pe_non (pa_cons pe_str (pa_cons (pe_tup (pa_cons pe_int pa_nil)) (pa_cons pe_int (pa_cons (pe_un un_neg pe_int) (pa_cons (pe_op op_pow pe_int pe_int) pa_nil)))))))) pa_nil)))) <|
        pss_cons (ps_set (i := 5) nd rfl (.inl rfl) (pe_lst (pa_cons (pe_slice sl_list (pv 2) (po_some pe_int) po_none) (pa_cons (pe_op op_cat (pv 2) (pe_lst (pa_cons pe_int pa_nil))) (pa_cons (pe_callTy call_tuple_of (by rfl) B.tuple (by decide +kernel) (pa_cons (pv 2) pa_nil)) (pa_cons pe_non (pa_cons pe_dnewK (pa_cons (pe_op op_cat (pe_op op_cat (pe_slice sl_list (pv 2) po_none (po_some (pv 3))) (pe_lst (pa_cons (pv 4) pa_nil))) (pe_slice sl_list (pv 2) (po_some (pe_op op_add (pv 3) pe_int)) po_none)) pa_nil)))))))) <|
        pss_cons (ps_setLc (i := 7) (own := [("_law_j", 6)]) (g := (gName 6)) (tt := (tTest (tOp (rIn K false) (tOp (rIxT K) (tOp (rIxL K) (tVar 1) (tVar 6)) (tC (.int 0))) (tLst (tCons (tC (.str "in")) (tCons (tC (.str "out")) tNil)))))) (te := (tVar 6)) rfl nd rfl rfl (sw_true rfl rfl rfl (by decide +kernel)) (pi_range1 (by rfl) B.range (pa_cons (pe_callB call_len_seq (by rfl) B.len PySem.boot_len (pa_cons (pv 1) pa_nil)) pa_nil)) (blkOk_by (N := nOddShift) (sc := defScope sOddShift) (own := [("_law_j", 6)]) (by decide +kernel)) (fun _ _ _ _ _ => (pg_name (i := 6) nd rfl (.inl rfl))) (fun _ _ _ _ _ => pts_one (pt_cmpR op_in_seq (pe_ix ix_tup (pe_ix ix_list (pv 1) (pv 6) (fun _ _ => rfl)) pe_int (fun _ _ => rfl)) (pe_lst (pa_cons pe_str (pa_cons pe_str pa_nil))) (by rfl))) (fun _ _ _ _ _ => (pv 6))) <|
        pss_cons (ps_for PassesOwn.never rfl (pi_list (pe_slice sl_list (pv 7) po_none (po_some pe_int))) (pg_name (i := 6) nd rfl (.inl rfl)) (pss_one (ps_expr (pe_bm PySem.F.plainAttrs_list PySem.F.slot_list_append PySem.F.type_list_append mt_append (pv 5) (pa_cons (pe_op op_cat (pe_op op_cat (pe_slice sl_list (pv 2) po_none (po_some (pv 6))) (pe_lst (pa_cons (pe_call DOf.ok (hr.mono (by decide)) (by rfl) DOf.mg DOf.kp DOf.bd .nil pass0 (pa_cons (pv 0) (pa_cons (pe_lst (pa_cons pe_int (pa_cons (pe_un un_neg pe_int) pa_nil))) pa_nil))) pa_nil))) (pe_slice sl_list (pv 2) (po_some (pe_op op_add (pv 6) pe_int)) po_none)) pa_nil))))) <|
        pss_one (ps_ret (pe_call DOf.ok (hr.mono (by decide)) (by rfl) DOf.mg DOf.kp DOf.bd .nil pass0 (pa_cons (pv 0) (pa_cons (pv 5) pa_nil)))), ?_⟩
    obtain ⟨gv, hgv, ga⟩ := id GG
    have hpos : 0 < gs.length := List.length_pos_iff.mpr hne
    have hvl : (ls.map V.int).length = ls.length := List.length_map ..
    refine ⟨_, rfl, _, rfl, ll, _, rfl, .inl (SqL.of hll), wl, _, rfl, by rw [hvl]; omega, by rw [hvl]; omega, hw, fun d1 H1 d10 d11 D1 => ?_⟩
    obtain ⟨kN, rfl⟩ : ∃ n : Nat, d1 = (n : Int) := ⟨d1.toNat, by omega⟩
    have hk : kN < gs.length := by rw [hvl] at d11; omega
    refine gn_norm (σ' := [some (.ref wl), some (.ref lg), some (.ref ll), some (.int (kN : Nat)), none, none, none, none]) rfl ?_
    refine ⟨_, rfl, (by show 1 ≤ sizeLine; decide), fun c1 hc1 => ?_⟩
    have S1 : Same H1 (upd H1 c1 (.tup [.int 0])) := same_new hc1
    have e1 : (upd H1 c1 (.tup [.int 0])) c1 = some (.tup [.int 0]) := upd_same
    have x1 : Dr wl H (upd H1 c1 (.tup [.int 0])) := D1.trans (Dr.new D1.well hc1)
    have n1 : c1 ≠ wl := (D1.well.ne hc1).symm
    generalize upd H1 c1 (.tup [.int 0]) = G1 at S1 e1 x1
    refine ⟨_, rfl, _, _, rfl, rfl, ⟨by decide, by decide, by decide⟩, (by show 7 ≤ sizeLine; decide), fun c2 hc2 => ?_⟩
    have S2 : Same G1 (upd G1 c2 (.lst [.bl true, .non, .str "0", .ref c1, .int 501, .int (-501), .int (10 ^ (40 : Int).toNat)])) := same_new hc2
    have e2 : (upd G1 c2 (.lst [.bl true, .non, .str "0", .ref c1, .int 501, .int (-501), .int (10 ^ (40 : Int).toNat)])) c2 = some (.lst [.bl true, .non, .str "0", .ref c1, .int 501, .int (-501), .int (10 ^ (40 : Int).toNat)]) := upd_same
    have x2 : Dr wl H (upd G1 c2 (.lst [.bl true, .non, .str "0", .ref c1, .int 501, .int (-501), .int (10 ^ (40 : Int).toNat)])) := x1.trans (Dr.new x1.well hc2)
    have n2 : c2 ≠ wl := (x1.well.ne hc2).symm
    generalize upd G1 c2 (.lst [.bl true, .non, .str "0", .ref c1, .int 501, .int (-501), .int (10 ^ (40 : Int).toNat)]) = G2 at S2 e2 x2
    have hod : ∀ v ∈ [V.bl true, .non, .str "0", .ref c1, .int 501, .int (-501), .int (10 ^ (40 : Int).toNat)], ∃ d, Dx K (· ≠ wl) G2 v d ∧ Tx 1 2 d ∧ fromD d 0 0 = false ∧ fromD d (-500) 500 = false := by
      intro v hv
      simp only [List.mem_cons, List.not_mem_nil, or_false] at hv
      rcases hv with rfl | rfl | rfl | rfl | rfl | rfl | rfl
      · exact ⟨.bool true, .bl _, .boo _, rfl, rfl⟩
      · exact ⟨.none, .non, .non, rfl, rfl⟩
      · exact ⟨.str "0", .str _, ⟨rfl, (by decide +kernel), (by decide +kernel), Nat.zero_le _⟩, rfl, rfl⟩
      · exact ⟨.tuple [.int 0], .tup (SqT.of (S2 _ _ e1)) (.one (.int 0)), (Tx.tuple (n := 1) (b := 0) (k := 0) (Nat.le_refl _) fun e he => by rw [List.mem_singleton.mp he]; exact .int (by decide)).mono (by decide) (by decide), rfl, rfl⟩
      · exact ⟨.int 501, .int _, .int (by decide), by decide +kernel, by decide +kernel⟩
      · exact ⟨.int (-501), .int _, .int (by decide), by decide +kernel, by decide +kernel⟩
      · exact ⟨.int (10 ^ (40 : Int).toNat), .int _, .int (by decide +kernel), by decide +kernel, by decide +kernel⟩
    refine ⟨wl, c2, _, rfl, n2, x2.well, SqL.of e2, by simp, by show 7 < 1000000; decide, fun vo H3 hvo D3 => ?_⟩
    obtain ⟨dO, hdO, htO, f0, f5⟩ := hod vo hvo
    have hdO3 := hdO.dr x2.well D3
    have x3 := x2.trans D3
    clear hod hdO e1 e2 S1 S2
    refine gn_norm (σ' := [some (.ref wl), some (.ref lg), some (.ref ll), some (.int (kN : Nat)), some vo, none, none, none]) rfl ?_
    have hll3 := x3.but _ _ nll hll
    refine ⟨_, rfl, _, rfl, ll, _, rfl, SqL.of hll3, fun c4 hc4 => ?_⟩
    rw [show cutV (ls.map V.int) (some (1 : Int)) none = (ls.drop 1).map V.int from by
      have := cut_from (xs := ls.map V.int) 1
      rw [List.map_drop]
      exact this]
    have S4 : Same H3 (upd H3 c4 (.lst ((ls.drop 1).map V.int))) := same_new hc4
    have e4 : (upd H3 c4 (.lst ((ls.drop 1).map V.int))) c4 = some (.lst ((ls.drop 1).map V.int)) := upd_same
    have x4 : Dr wl H (upd H3 c4 (.lst ((ls.drop 1).map V.int))) := x3.trans (Dr.new x3.well hc4)
    have n4 : c4 ≠ wl := (x3.well.ne hc4).symm
    generalize upd H3 c4 (.lst ((ls.drop 1).map V.int)) = G4 at S4 e4 x4
    refine ⟨_, rfl, (by show 1 ≤ sizeLine; decide), fun c5 hc5 => ?_⟩
    have S5 : Same G4 (upd G4 c5 (.lst [.int 0])) := same_new hc5
    have e5 : (upd G4 c5 (.lst [.int 0])) c5 = some (.lst [.int 0]) := upd_same
    have x5 : Dr wl H (upd G4 c5 (.lst [.int 0])) := x4.trans (Dr.new x4.well hc5)
    have n5 : c5 ≠ wl := (x4.well.ne hc5).symm
    generalize upd G4 c5 (.lst [.int 0]) = G5 at S5 e5 x5
    refine ⟨ll, c5, _, _, rfl, rfl, (S4.trans S5) _ _ hll3, e5, Nat.le_of_lt (small1000 (by rw [hvl]; show _ + 1 ≤ _; omega)), fun c6 hc6 => ?_⟩
    have S6 : Same G5 (upd G5 c6 (.lst (ls.map V.int ++ [.int 0]))) := same_new hc6
    have e6 : (upd G5 c6 (.lst (ls.map V.int ++ [.int 0]))) c6 = some (.lst (ls.map V.int ++ [.int 0])) := upd_same
    have x6 : Dr wl H (upd G5 c6 (.lst (ls.map V.int ++ [.int 0]))) := x5.trans (Dr.new x5.well hc6)
    have n6 : c6 ≠ wl := (x5.well.ne hc6).symm
    generalize upd G5 c6 (.lst (ls.map V.int ++ [.int 0])) = G6 at S6 e6 x6
    have S36 := (S4.trans S5).trans S6
    refine ⟨_, rfl, ll, _, rfl, .inl ⟨SqL.of (S36 _ _ hll3), fun c7 hc7 => ?_⟩⟩
    have S7 : Same G6 (upd G6 c7 (.tup (ls.map V.int))) := same_new hc7
    have e7 : (upd G6 c7 (.tup (ls.map V.int))) c7 = some (.tup (ls.map V.int)) := upd_same
    have x7 : Dr wl H (upd G6 c7 (.tup (ls.map V.int))) := x6.trans (Dr.new x6.well hc7)
    have n7 : c7 ≠ wl := (x6.well.ne hc7).symm
    generalize upd G6 c7 (.tup (ls.map V.int)) = G7 at S7 e7 x7
    intro c8 hc8
    have S8 : Same G7 (upd G7 c8 (.dK [])) := same_new hc8
    have e8 : (upd G7 c8 (.dK [])) c8 = some (.dK []) := upd_same
    have x8 : Dr wl H (upd G7 c8 (.dK [])) := x7.trans (Dr.new x7.well hc8)
    have n8 : c8 ≠ wl := (x7.well.ne hc8).symm
    generalize upd G7 c8 (.dK []) = G8 at S8 e8 x8
    have S38 := (S36.trans S7).trans S8
    refine ⟨_, rfl, _, rfl, _, rfl, ll, _, rfl, SqL.of (S38 _ _ hll3), fun c9 hc9 => ?_⟩
    rw [cut_to]
    have S9 : Same G8 (upd G8 c9 (.lst ((ls.map V.int).take kN))) := same_new hc9
    have e9 : (upd G8 c9 (.lst ((ls.map V.int).take kN))) c9 = some (.lst ((ls.map V.int).take kN)) := upd_same
    have x9 : Dr wl H (upd G8 c9 (.lst ((ls.map V.int).take kN))) := x8.trans (Dr.new x8.well hc9)
    have n9 : c9 ≠ wl := (x8.well.ne hc9).symm
    generalize upd G8 c9 (.lst ((ls.map V.int).take kN)) = G9 at S9 e9 x9
    refine ⟨_, rfl, (by show 1 ≤ sizeLine; decide), fun c10 hc10 => ?_⟩
    have S10 : Same G9 (upd G9 c10 (.lst [vo])) := same_new hc10
    have e10 : (upd G9 c10 (.lst [vo])) c10 = some (.lst [vo]) := upd_same
    have x10 : Dr wl H (upd G9 c10 (.lst [vo])) := x9.trans (Dr.new x9.well hc10)
    have n10 : c10 ≠ wl := (x9.well.ne hc10).symm
    generalize upd G9 c10 (.lst [vo]) = G10 at S10 e10 x10
    refine ⟨c9, c10, _, _, rfl, rfl, S10 _ _ e9, e10, Nat.le_of_lt (small1000 (by rw [List.length_take]; show _ + 1 ≤ _; omega)), fun c11 hc11 => ?_⟩
    have S11 : Same G10 (upd G10 c11 (.lst ((ls.map V.int).take kN ++ [vo]))) := same_new hc11
    have e11 : (upd G10 c11 (.lst ((ls.map V.int).take kN ++ [vo]))) c11 = some (.lst ((ls.map V.int).take kN ++ [vo])) := upd_same
    have x11 : Dr wl H (upd G10 c11 (.lst ((ls.map V.int).take kN ++ [vo]))) := x10.trans (Dr.new x10.well hc11)
    have n11 : c11 ≠ wl := (x10.well.ne hc11).symm
    generalize upd G10 c11 (.lst ((ls.map V.int).take kN ++ [vo])) = G11 at S11 e11 x11
    have S311 := ((S38.trans S9).trans S10).trans S11
    refine ⟨_, rfl, _, rfl, _, _, rfl, rfl, _, rfl, ll, _, rfl, SqL.of (S311 _ _ hll3), fun c12 hc12 => ?_⟩
    rw [show ((kN : Nat) : Int) + 1 = ((kN + 1 : Nat) : Int) from rfl, cut_from]
    have S12 : Same G11 (upd G11 c12 (.lst ((ls.map V.int).drop (kN + 1)))) := same_new hc12
    have e12 : (upd G11 c12 (.lst ((ls.map V.int).drop (kN + 1)))) c12 = some (.lst ((ls.map V.int).drop (kN + 1))) := upd_same
    have x12 : Dr wl H (upd G11 c12 (.lst ((ls.map V.int).drop (kN + 1)))) := x11.trans (Dr.new x11.well hc12)
    have n12 : c12 ≠ wl := (x11.well.ne hc12).symm
    generalize upd G11 c12 (.lst ((ls.map V.int).drop (kN + 1))) = G12 at S12 e12 x12
    refine ⟨c11, c12, _, _, rfl, rfl, S12 _ _ e11, e12, Nat.le_of_lt (small1000 (by rw [List.length_append, List.length_take, List.length_drop]; show _ + 1 + _ ≤ _; omega)), fun c13 hc13 => ?_⟩
    have S13 : Same G12 (upd G12 c13 (.lst ((ls.map V.int).take kN ++ [vo] ++ (ls.map V.int).drop (kN + 1)))) := same_new hc13
    have e13 : (upd G12 c13 (.lst ((ls.map V.int).take kN ++ [vo] ++ (ls.map V.int).drop (kN + 1)))) c13 = some (.lst ((ls.map V.int).take kN ++ [vo] ++ (ls.map V.int).drop (kN + 1))) := upd_same
    have x13 : Dr wl H (upd G12 c13 (.lst ((ls.map V.int).take kN ++ [vo] ++ (ls.map V.int).drop (kN + 1)))) := x12.trans (Dr.new x12.well hc13)
    have n13 : c13 ≠ wl := (x12.well.ne hc13).symm
    generalize upd G12 c13 (.lst ((ls.map V.int).take kN ++ [vo] ++ (ls.map V.int).drop (kN + 1))) = G13 at S13 e13 x13
    have S813 := (((S9.trans S10).trans S11).trans S12).trans S13
    have S313 := S38.trans S813
    obtain ⟨g0, hg0⟩ : ∃ g, gs[kN]? = some g := ⟨_, List.getElem?_eq_getElem hk⟩
    have hbad : ∀ v ∈ [V.ref c4, .ref c6, .ref c7, .non, .ref c8, .ref c13], BadS K (· ≠ wl) gs G13 v := by
      intro v hv
      simp only [List.mem_cons, List.not_mem_nil, or_false] at hv
      rcases hv with rfl | rfl | rfl | rfl | rfl | rfl
      · refine ⟨.list ((ls.drop 1).map PyData.int), .lst ((((S5.trans S6).trans S7).trans S8 |>.trans S813) _ _ e4) n4 (dxs_ints _), .inr ⟨_, rfl, .inl ?_⟩, (Tx.list (n := 24) (b := 2) (k := 1) ?_ (lags_tx fun y hy => hb y (List.mem_of_mem_drop hy))).mono (by decide) (by decide)⟩
        · rw [List.length_map, List.length_drop]
          omega
        · rw [List.length_map, List.length_drop]
          omega
      · refine ⟨.list (ls.map PyData.int ++ [.int 0]), .lst (((S7.trans S8).trans S813) _ _ e6) n6 ((dxs_ints ls).app (.one (.int 0))), .inr ⟨_, rfl, .inl ?_⟩, (Tx.list (n := 24) (b := 2) (k := 1) ?_ fun e he => ?_).mono (by decide) (by decide)⟩
        · rw [List.length_append, List.length_map]
          show _ + 1 ≠ _
          omega
        · rw [List.length_append, List.length_map]
          show _ + 1 ≤ _
          omega
        · rcases List.mem_append.mp he with he | he
          · exact lags_tx hb e he
          · rw [List.mem_singleton.mp he]
            exact .int (by decide)
      · exact ⟨.tuple (ls.map PyData.int), .tup (SqT.of ((S8.trans S813) _ _ e7)) (dxs_ints ls), .inl rfl, (Tx.tuple (n := 24) (b := 2) (k := 1) (by rw [List.length_map]; omega) (lags_tx hb)).mono (by decide) (by decide)⟩
      · exact ⟨.none, .non, .inl rfl, .non⟩
      · exact ⟨.dict [], .dic (S813 _ _ e8), .inl rfl, ⟨rfl, (by decide +kernel), (by decide +kernel), (by decide +kernel)⟩⟩
      · exact mid_lag hb hlen (by omega) hg0 e13 n13 (hdO3.same S313) htO (fun _ => f0) (fun _ => f5)
    refine ⟨(by show 6 ≤ sizeLine; decide), fun c14 hc14 => ?_⟩
    have fr := XM.fresh (K := K) (wl := wl) (o := .lst [V.ref c4, .ref c6, .ref c7, .non, .ref c8, .ref c13]) hc14
    have S14 : Same G13 (upd G13 c14 (.lst [.ref c4, .ref c6, .ref c7, .non, .ref c8, .ref c13])) := same_new hc14
    have e14 : (upd G13 c14 (.lst [.ref c4, .ref c6, .ref c7, .non, .ref c8, .ref c13])) c14 = some (.lst [.ref c4, .ref c6, .ref c7, .non, .ref c8, .ref c13]) := upd_same
    have x14 : Dr wl H (upd G13 c14 (.lst [.ref c4, .ref c6, .ref c7, .non, .ref c8, .ref c13])) := x13.trans (Dr.new x13.well hc14)
    have n14 : c14 ≠ wl := (x13.well.ne hc14).symm
    generalize upd G13 c14 (.lst [.ref c4, .ref c6, .ref c7, .non, .ref c8, .ref c13]) = G14 at S14 e14 x14 fr
    have hbad2 : ∀ v ∈ [V.ref c4, .ref c6, .ref c7, .non, .ref c8, .ref c13], BadS K (Nor wl c14) gs G14 v := fun v hv => (hbad v hv).move fr
    have o6 : [V.ref c4, .ref c6, .ref c7, .non, .ref c8, .ref c13].length = 6 := rfl
    generalize [V.ref c4, .ref c6, .ref c7, .non, .ref c8, .ref c13] = b6 at hbad2 e14 o6
    refine gn_norm (σ' := [some (.ref wl), some (.ref lg), some (.ref ll), some (.int (kN : Nat)), some vo, some (.ref c14), none, none]) rfl ?_
    have hlg14 : G14 lg = some (.lst gv) := x14.but _ _ nlg hgv
    have ga14 : All2 (GateV K G14) gv gs := ga.imp fun _ _ r => r.tk (TK.dr hw x14.but)
    have hll14 := x14.but _ _ nll hll
    have hgvl : gv.length = gs.length := ga.1
    refine ⟨_, rfl, lg, gv, rfl, .inl (SqL.of hlg14), _, rfl, by rw [hgvl]; omega, by rw [hgvl]; omega, fun c15 hc15 => ?_⟩
    rw [hgvl, Int.toNat_natCast]
    have n15 : c15 ≠ wl := (x14.well.ne hc15).symm
    refine lc_range (lo := 0) (n := gs.length) (fun i Hc => ∃ en : List Nat, Hc c15 = some (.lst (natV en)) ∧ (∀ k ∈ en, ∃ g, gs[k]? = some g ∧ portK g.1) ∧ en.length ≤ i ∧ Same G14 Hc) ⟨[], upd_same, fun k hk => by simp at hk, by simp, same_new hc15⟩ ?_ ?_
    · rintro i Hc hi ⟨st, hc, hok, hln, sm⟩
      have ei : (0 : Int) + (i : Nat) = ((i : Nat) : Int) := Int.zero_add _
      rw [ei]
      obtain ⟨g, hg⟩ : ∃ g, gs[i]? = some g := ⟨_, List.getElem?_eq_getElem hi⟩
      obtain ⟨v, hv, a, rfl, sq⟩ := ga14.getR hg
      refine ⟨rfl, ?_⟩
      refine ⟨_, rfl, _, rfl, lg, gv, _, _, rfl, rfl, SqL.of (sm _ _ hlg14), atI_nat hv, a, _, _, .str g.1, rfl, rfl, (TK.same sm).seq sq, atI_nat (j := 0) rfl, (by show 2 ≤ sizeLine; decide), fun l4 hl4 => ?_⟩
      have s4 : Same Hc (upd Hc l4 (.lst [.str "in", .str "out"])) := same_new hl4
      have e4 : (upd Hc l4 (.lst [.str "in", .str "out"])) l4 = some (.lst [.str "in", .str "out"]) := upd_same
      generalize upd Hc l4 (.lst [.str "in", .str "out"]) = H4 at s4 e4
      have hc4 := s4 _ _ hc
      refine ⟨l4, _, rfl, .inl (SqL.of e4), rfl, rfl, _, rfl, ite2 (fun e => ?_) (fun e => ?_)⟩
      · refine ⟨_, rfl, _, hc4, by rw [List.length_map]; exact small1000 (by omega), st ++ [i], ?_, fun k hk' => ?_, by rw [List.length_append]; show _ + 1 ≤ _; omega, same_mut (sm.trans s4) hc15⟩
        · rw [upd_same]
          show _ = some (HO.lst (List.map _ (_ ++ _)))
          rw [List.map_append]
          rfl
        · rcases List.mem_append.mp hk' with z | z
          · exact hok k z
          · rw [List.mem_singleton] at z
            rw [z]
            exact ⟨g, hg, port_in.mp e⟩
      · exact ⟨st, hc4, hok, by omega, sm.trans s4⟩
    rintro H15 ⟨en, e15, eok, eln, s15⟩
    refine gn_norm (σ' := [some (.ref wl), some (.ref lg), some (.ref ll), some (.int (kN : Nat)), some vo, some (.ref c14), none, some (.ref c15)]) rfl ?_
    have x15 : Dr wl H H15 := ⟨x14.but.trans (But.same s15), x14.well.same s15⟩
    have hbad15 : ∀ v ∈ b6, BadS K (Nor wl c14) gs H15 v := fun v hv => (hbad2 v hv).move (.same s15)
    have e14b := s15 _ _ e14
    have hc14H : H c14 = none := x13.free hw hc14
    refine ⟨_, rfl, _, rfl, c15, _, rfl, SqL.of e15, fun c16 hc16 => ?_⟩
    rw [show cutV (natV en) none (some (1 : Int)) = (natV en).take 1 from cut_to 1]
    have S16 : Same H15 (upd H15 c16 (.lst ((natV en).take 1))) := same_new hc16
    have e16 : (upd H15 c16 (.lst ((natV en).take 1))) c16 = some (.lst ((natV en).take 1)) := upd_same
    have x16 : Dr wl H (upd H15 c16 (.lst ((natV en).take 1))) := x15.trans (Dr.new x15.well hc16)
    have n16 : c16 ≠ wl := (x15.well.ne hc16).symm
    generalize upd H15 c16 (.lst ((natV en).take 1)) = H16 at S16 e16 x16
    refine ⟨c16, rfl, ⟨_, SqL.of e16⟩, for_list (K := K) (a := c16) (xs := (natV en).take 1) (fun i σ H' => ∃ (s6 : Option V) (us : List V), σ = [some (.ref wl), some (.ref lg), some (.ref ll), some (.int (kN : Nat)), some vo, some (.ref c14), s6, some (.ref c15)] ∧ Dr wl H H' ∧ H' c16 = some (.lst ((natV en).take 1)) ∧ H' c14 = some (.lst us) ∧ us ≠ [] ∧ us.length = 6 + i ∧ ∀ v ∈ us, BadS K (Nor wl c14) gs H' v)
      ⟨_, b6, rfl, x16, e16, S16 _ _ e14b, (fun z => by rw [z] at o6; cases o6), o6, fun v hv => (hbad15 v hv).move (.same S16)⟩ (fun i σ H' _ ⟨_, _, _, _, e, _⟩ => SqL.of e) ?_ ?_⟩
    · rintro i v σ H' hv ⟨s6, us, rfl, XD, eI, eU, hue, hul, hbu⟩
      have hi : i < 1 := by
        have := (List.getElem?_eq_some_iff.mp hv).1
        rw [List.length_take] at this
        omega
      obtain ⟨j, hj, rfl⟩ : ∃ j ∈ en, v = V.int (j : Nat) := by
        obtain ⟨j, h1, h2⟩ := List.mem_map.mp (List.mem_of_mem_take (List.mem_of_getElem? hv))
        exact ⟨j, h1, h2.symm⟩
      obtain ⟨g1, hg1, hpg⟩ := eok j hj
      have hllI := XD.but _ _ nll hll
      refine ⟨_, rfl, .inl ⟨rfl, _, SqL.of eU⟩, _, rfl, _, rfl, _, rfl, ll, _, rfl, SqL.of hllI, fun c20 hc20 => ?_⟩
      rw [cut_to]
      have S20 : Same H' (upd H' c20 (.lst ((ls.map V.int).take j))) := same_new hc20
      have e20 : (upd H' c20 (.lst ((ls.map V.int).take j))) c20 = some (.lst ((ls.map V.int).take j)) := upd_same
      have x20 : Dr wl H (upd H' c20 (.lst ((ls.map V.int).take j))) := XD.trans (Dr.new XD.well hc20)
      have n20 : c20 ≠ wl := (XD.well.ne hc20).symm
      generalize upd H' c20 (.lst ((ls.map V.int).take j)) = G20 at S20 e20 x20
      refine ⟨_, rfl, _, rfl, (by show 2 ≤ sizeLine; decide), fun c21 hc21 => ?_⟩
      have S21 : Same G20 (upd G20 c21 (.lst [.int 1, .int (-1)])) := same_new hc21
      have e21 : (upd G20 c21 (.lst [.int 1, .int (-1)])) c21 = some (.lst [.int 1, .int (-1)]) := upd_same
      have x21 : Dr wl H (upd G20 c21 (.lst [.int 1, .int (-1)])) := x20.trans (Dr.new x20.well hc21)
      have n21 : c21 ≠ wl := (x20.well.ne hc21).symm
      generalize upd G20 c21 (.lst [.int 1, .int (-1)]) = G21 at S21 e21 x21
      refine ⟨wl, c21, _, rfl, n21, x21.well, SqL.of e21, by simp, by show 2 < 1000000; decide, fun vz G22 hvz D22 => ?_⟩
      obtain ⟨z, rfl, hz⟩ : ∃ z : Int, vz = .int z ∧ (z = 1 ∨ z = -1) := by
        simp only [List.mem_cons, List.not_mem_nil, or_false] at hvz
        rcases hvz with rfl | rfl
        · exact ⟨1, rfl, .inl rfl⟩
        · exact ⟨-1, rfl, .inr rfl⟩
      have x22 := x21.trans D22
      have e20b := D22.but _ _ n20 (S21 _ _ e20)
      have eU22 := D22.but _ _ n14 ((S20.trans S21) _ _ eU)
      have eI22 := D22.but _ _ n16 ((S20.trans S21) _ _ eI)
      have hbu22 : ∀ u ∈ us, BadS K (Nor wl c14) gs G22 u := fun u hu => ((hbu u hu).move (.same (S20.trans S21))).move (.drN x21.well D22)
      refine ⟨(by show 1 ≤ sizeLine; decide), fun c23 hc23 => ?_⟩
      have S23 : Same G22 (upd G22 c23 (.lst [.int z])) := same_new hc23
      have e23 : (upd G22 c23 (.lst [.int z])) c23 = some (.lst [.int z]) := upd_same
      have x23 : Dr wl H (upd G22 c23 (.lst [.int z])) := x22.trans (Dr.new x22.well hc23)
      have n23 : c23 ≠ wl := (x22.well.ne hc23).symm
      generalize upd G22 c23 (.lst [.int z]) = G23 at S23 e23 x23
      refine ⟨c20, c23, _, _, rfl, rfl, S23 _ _ e20b, e23, Nat.le_of_lt (small1000 (by rw [List.length_take]; show _ + 1 ≤ _; omega)), fun c24 hc24 => ?_⟩
      have S24 : Same G23 (upd G23 c24 (.lst ((ls.map V.int).take j ++ [.int z]))) := same_new hc24
      have e24 : (upd G23 c24 (.lst ((ls.map V.int).take j ++ [.int z]))) c24 = some (.lst ((ls.map V.int).take j ++ [.int z])) := upd_same
      have x24 : Dr wl H (upd G23 c24 (.lst ((ls.map V.int).take j ++ [.int z]))) := x23.trans (Dr.new x23.well hc24)
      have n24 : c24 ≠ wl := (x23.well.ne hc24).symm
      generalize upd G23 c24 (.lst ((ls.map V.int).take j ++ [.int z])) = G24 at S24 e24 x24
      refine ⟨_, rfl, _, rfl, _, _, rfl, rfl, _, rfl, ll, _, rfl, SqL.of (x24.but _ _ nll hll), fun c25 hc25 => ?_⟩
      rw [show ((j : Nat) : Int) + 1 = ((j + 1 : Nat) : Int) from rfl, cut_from]
      have S25 : Same G24 (upd G24 c25 (.lst ((ls.map V.int).drop (j + 1)))) := same_new hc25
      have e25 : (upd G24 c25 (.lst ((ls.map V.int).drop (j + 1)))) c25 = some (.lst ((ls.map V.int).drop (j + 1))) := upd_same
      have x25 : Dr wl H (upd G24 c25 (.lst ((ls.map V.int).drop (j + 1)))) := x24.trans (Dr.new x24.well hc25)
      have n25 : c25 ≠ wl := (x24.well.ne hc25).symm
      generalize upd G24 c25 (.lst ((ls.map V.int).drop (j + 1))) = G25 at S25 e25 x25
      refine ⟨c24, c25, _, _, rfl, rfl, S25 _ _ e24, e25, Nat.le_of_lt (small1000 (by rw [List.length_append, List.length_take, List.length_drop]; show _ + 1 + _ ≤ _; omega)), fun c26 hc26 => ?_⟩
      have S2225 := (S23.trans S24).trans S25
      have n2614 : c26 ≠ c14 := ne_of_none (S2225 _ _ eU22) hc26 |>.symm
      have S26 : Same G25 (upd G25 c26 (.lst ((ls.map V.int).take j ++ [.int z] ++ (ls.map V.int).drop (j + 1)))) := same_new hc26
      have e26 : (upd G25 c26 (.lst ((ls.map V.int).take j ++ [.int z] ++ (ls.map V.int).drop (j + 1)))) c26 = some (.lst ((ls.map V.int).take j ++ [.int z] ++ (ls.map V.int).drop (j + 1))) := upd_same
      have x26 : Dr wl H (upd G25 c26 (.lst ((ls.map V.int).take j ++ [.int z] ++ (ls.map V.int).drop (j + 1)))) := x25.trans (Dr.new x25.well hc26)
      have n26 : c26 ≠ wl := (x25.well.ne hc26).symm
      generalize upd G25 c26 (.lst ((ls.map V.int).take j ++ [.int z] ++ (ls.map V.int).drop (j + 1))) = G26 at S26 e26 x26
      have S2226 := S2225.trans S26
      have eU6 := S2226 _ _ eU22
      refine ⟨c14, _, _, rfl, rfl, eU6, small1000 (by omega), ?_⟩
      have hv5 : BadS K (Nor wl c14) gs G26 (.ref c26) := mid_lag hb hlen (by omega) hg1 e26 ⟨n26, n2614⟩ (.int z) (.int (Nat.lt_of_le_of_lt (show z.natAbs ≤ 1 by omega) (by decide))) (fun _ => by rcases hz with rfl | rfl <;> rfl) (fun h => absurd hpg h)
      have n1614 : c16 ≠ c14 := fun y => by
        have := s15.trans S16 |>.trans (Same.refl _)
        rw [y] at hc16
        rw [e14b] at hc16
        cases hc16
      refine ⟨_, us ++ [.ref c26], rfl, ⟨fun b o hb' e => ?_, ?_⟩, ?_, upd_same, by simp, by rw [List.length_append, hul]; rfl, fun u hu => ?_⟩
      · rw [upd_ne (fun y => by rw [y, hc14H] at e; cases e)]
        exact x26.but b o hb' e
      · obtain ⟨xs, ex, kx⟩ := x26.well
        exact ⟨xs, by rw [upd_ne n14.symm]; exact ex, kx⟩
      · rw [upd_ne n1614]
        exact S2226 _ _ eI22
      · rcases List.mem_append.mp hu with hu | hu
        · exact ((hbu22 u hu).move (.same S2226)).move (.mut eU6)
        · rw [List.mem_singleton.mp hu]
          exact hv5.move (.mut eU6)
    · rintro σ H' ⟨s6, us, rfl, XD, eI, eU, hue, hul, hbu⟩
      have hi1 : ((natV en).take 1).length ≤ 1 := by rw [List.length_take]; omega
      exact ⟨_, rfl, _, rfl, wl, c14, us, rfl, n14, XD.well, SqL.of eU, hue, by omega, fun v H9 hv d9 => q v H9 (XD.trans d9) (((hbu v hv).move .nor).move (.dr XD.well d9))⟩
end
end Lag

set_option maxRecDepth 100000
set_option maxHeartbeats 8000000
namespace Lag
open PySem PySem.Spec PyProof.Rows L2
abbrev sOddRows : Stmt := topS 73 -- @_law_odd_rows
def RowT (wl : Addr) (H : Hp) (v : V) (rs : List Int) : Prop := ∃ a, v = .ref a ∧ a ≠ wl ∧ H a = some (.lst (rs.map V.int))
theorem RowT.move {wl : Addr} {H H' : Hp} {v : V} {rs : List Int} (h : RowT wl H v rs) (k : ∀ b o, b ≠ wl → H b = some o → H' b = some o) : RowT wl H' v rs := by
  obtain ⟨a, e, n, ha⟩ := h
  exact ⟨a, e, n, k _ _ n ha⟩
theorem RowT.rv {K : PySem.W.Frag} {wl : Addr} {H : Hp} {v : V} {rs : List Int} (h : RowT wl H v rs) : RowV K H v rs := by
  obtain ⟨a, e, n, ha⟩ := h
  exact ⟨a, e, SqL.of ha⟩
theorem row_len {n : Nat} {ds : List PyData} (h : ds.length ≠ n) : rowD n (.list ds) = false := by
  show (decide (ds.length = n) && _) = false
  rw [decide_eq_false h]
  rfl
theorem row_odd {n : Nat} {ds : List PyData} {d : PyData} (hd : d ∈ ds) (h : fromD d 0 96 = false) : rowD n (.list ds) = false := by
  show (_ && ds.all _) = false
  have : ds.all (fun d => fromD d 0 96) = false := by
    rw [List.all_eq_false]
    exact ⟨d, hd, by rw [h]; decide⟩
  rw [this, Bool.and_false]
/-- what is no row of these gates -/
def BadR (K : PySem.W.Frag) (wl : Addr) (gs : List Gt) (H : Hp) (v : V) : Prop := ∃ d, Dx K (· ≠ wl) H v d ∧ rowD (plc gs "in" gs.length).length d = false ∧ Tx 2 60 d
/-- what are no rows of these gates -/
def OddR (K : PySem.W.Frag) (wl : Addr) (gs : List Gt) (H : Hp) (v : V) : Prop := ∃ D, Dx K (· ≠ wl) H v D ∧ Tx 4 20000 D ∧ (dL D = false ∨ ∃ (a : Addr) (xs : List V) (rss : List (List Int)) (n : Nat) (u : V) (d : PyData), v = .ref a ∧ a ≠ wl ∧ H a = some (.lst xs) ∧ xs.length ≤ 200 ∧ All2 (RowT wl H) (xs.take n) rss ∧ (∀ rs ∈ rss, RowOk gs rs) ∧ xs[n]? = some u ∧ Dx K (· ≠ wl) H u d ∧ rowD (plc gs "in" gs.length).length d = false)
/-- no row of n worths -/
def BadRn (K : PySem.W.Frag) (wl : Addr) (n : Nat) (H : Hp) (v : V) : Prop := ∃ d, Dx K (· ≠ wl) H v d ∧ rowD n d = false ∧ Tx 2 60 d
theorem all2_take {α β : Type} {R : α → β → Prop} {xs : List α} {ys : List β} (h : All2 R xs ys) (n : Nat) : All2 R (xs.take n) (ys.take n) := ⟨by rw [List.length_take, List.length_take, h.1], fun i x y hx hy => by
  rw [List.getElem?_take] at hx hy
  split at hx
  · rw [if_pos (by assumption)] at hy
    exact h.2 i x y hx hy
  · cases hx⟩
theorem all2_drop {α β : Type} {R : α → β → Prop} {xs : List α} {ys : List β} (h : All2 R xs ys) (n : Nat) : All2 R (xs.drop n) (ys.drop n) := ⟨by rw [List.length_drop, List.length_drop, h.1], fun i x y hx hy => by
  rw [List.getElem?_drop] at hx hy
  exact h.2 _ x y hx hy⟩
theorem BadRn.dr {K : PySem.W.Frag} {wl : Addr} {n : Nat} {H H' : Hp} {v : V} (h : BadRn K wl n H v) (W : WellAt wl H) (r : Dr wl H H') : BadRn K wl n H' v := by
  obtain ⟨d, a, b, c⟩ := h
  exact ⟨d, a.dr W r, b, c⟩
theorem BadRn.same {K : PySem.W.Frag} {wl : Addr} {n : Nat} {H H' : Hp} {v : V} (h : BadRn K wl n H v) (r : Same H H') : BadRn K wl n H' v := by
  obtain ⟨d, a, b, c⟩ := h
  exact ⟨d, a.same r, b, c⟩
theorem nums_tx {rs : List Int} (hw : WOk1 rs) : ∀ d ∈ rs.map PyData.int, Tx 0 0 d := fun d hd => by
  obtain ⟨z, hz, rfl⟩ := List.mem_map.mp hd
  have := hw z hz
  exact .int (Nat.lt_of_le_of_lt (show z.natAbs ≤ 96 by omega) (by decide))
theorem end_bad {K : PySem.W.Frag} {wl : Addr} {H : Hp} {a : Addr} {rs : List Int} {n : Nat} {v : V} {d : PyData} (hw : WOk1 rs) (hl : rs.length ≤ 12) (e : H a = some (.lst (rs.map V.int ++ [v]))) (ha : a ≠ wl) (hd : Dx K (· ≠ wl) H v d) (hf : fromD d 0 96 = false ∨ rs.length + 1 ≠ n) (ht : Tx 1 2 d) : BadRn K wl n H (.ref a) := by
  refine ⟨.list (rs.map PyData.int ++ [d]), .lst e ha ((dxs_ints _).app (.one hd)), ?_, (Tx.list (n := 13) (b := 2) (k := 1) ?_ fun e he => ?_).mono (by decide) (by decide)⟩
  · rcases hf with hf | hf
    · exact row_odd (List.mem_append.mpr (.inr (List.mem_singleton.mpr rfl))) hf
    · refine row_len ?_
      rw [List.length_append, List.length_map]
      exact hf
  · rw [List.length_append, List.length_map]
    show _ + 1 ≤ _
    omega
  · rcases List.mem_append.mp he with he | he
    · exact (nums_tx hw e he).mono (by decide) (by decide)
    · rw [List.mem_singleton.mp he]
      exact ht
def rowDs (rss : List (List Int)) : List PyData := rss.map fun rs => .list (rs.map PyData.int)
theorem rows_dx {K : PySem.W.Frag} {wl : Addr} {H : Hp} {vs : List V} {rss : List (List Int)} (h : All2 (RowT wl H) vs rss) : DxAll K (· ≠ wl) H vs (rowDs rss) := by
  refine DxAll.from2 ⟨by rw [rowDs, List.length_map]; exact h.1, fun i v d hv hd => ?_⟩
  rw [rowDs, List.getElem?_map] at hd
  obtain ⟨rs, hrs, rfl⟩ := Option.map_eq_some_iff.mp hd
  obtain ⟨a, rfl, n, ha⟩ := h.2 i v rs hv hrs
  exact .lst ha n (dxs_ints rs)
theorem rows_tx {gs : List Gt} {rss : List (List Int)} (hg : gs.length ≤ 12) (h : ∀ rs ∈ rss, RowOk gs rs) : ∀ d ∈ rowDs rss, Tx 2 60 d := fun d hd => by
  obtain ⟨rs, hrs, rfl⟩ := List.mem_map.mp hd
  have hpl := plc_len gs "in" gs.length
  refine (Tx.list (n := 12) (b := 0) (k := 0) ?_ (nums_tx (h rs hrs).2)).mono (by decide) (by decide)
  rw [List.length_map, (h rs hrs).1]
  omega
def spOddRows (K : PySem.W.Frag) : Sp := fun vs H Q _ => ∃ (wl lg lr : Addr) (gs : List Gt) (rv : List V) (rows : List (List Int)), vs = [.ref wl, .ref lg, .ref lr] ∧ WellAt wl H ∧ lg ≠ wl ∧ lr ≠ wl ∧ LG K H lg gs ∧ gs.length ≤ 12 ∧ H lr = some (.lst rv) ∧ All2 (RowT wl H) rv rows ∧ (∀ rs ∈ rows, RowOk gs rs) ∧ rows.length ≤ 60 ∧ ∀ v H', Dr wl H H' → OddR K wl gs H' v → Q v H'
section
variable {P : Program} {w : World} {K : PySem.W.Frag} {mg : Str → Option Value} {base : Heap}
abbrev nOddRows : List Str := ["_law_state", "_law_gates_here", "_law_rows_here", "_law_gate", "_law_many", "_law_row", "_law_odd", "_law_place"]
theorem scOddRows : FnScope nOddRows ["_law_state", "_law_gates_here", "_law_rows_here"] (defScope sOddRows) := ⟨rfl, rfl, rfl, by decide +kernel, rfl, by decide +kernel, by decide +kernel⟩
abbrev DOddRows (P : Program) (w : World) (K : PySem.W.Frag) (mg : Str → Option Value) (base : Heap) := Df P w K mg base 3 "_law_odd_rows" ["_law_state", "_law_gates_here", "_law_rows_here"] (spOddRows K)
theorem ok_oddRows {f fD fO : Addr} {fd fdD fdO : FuncData} (F : Fun K "_law_odd_rows" "_law_odd_rows" sOddRows f fd) (hm : mg "_law_odd_rows" = some (.ref f)) (B : Bt mg) (DD : DDraw P w K mg base fD fdD) (DOf : DOf P w K mg base fO fdO) : DOddRows P w K mg base f fd := by
  refine ⟨?_, hm, F.kp, F.binds fun _ _ _ _ _ _ us hl => match us, hl with | [_, _, _], _ => rfl⟩
  refine F.ok scOddRows (fun vs H Q E h => ?_) (fun cdv A outer s H vs Q E hr h => ?_)
  · obtain ⟨wl, lg, lr, gs, rv, rows, rfl, _⟩ := h
    rfl
  · obtain ⟨wl, lg, lr, gs, rv, rows, rfl, hw, nlg, nlr, GG, hgl, hlr, ra, hok, hrl, q⟩ := h
    have nd := scOddRows.nd
    refine ⟨_, pss_cons (ps_set (i := 4) nd rfl (.inl rfl) (pe_callB call_len_seq (by rfl) B.len PySem.boot_len (pa_cons (pe_lc (own := [("_law_gate", 3)]) (g := (gName 3)) (tt := (tTest (tOp rEq (tOp (rIxT K) (tVar 3) (tC (.int 0))) (tC (.str "in"))))) (te := (tVar 3)) rfl nd (pi_list (pv 1)) (blkOk_by (N := nOddRows) (sc := defScope sOddRows) (own := [("_law_gate", 3)]) (by decide +kernel)) (fun _ _ _ _ _ => (pg_name (i := 3) nd rfl (.inl rfl))) (fun _ _ _ _ _ => pts_one (pt_cmpR op_eq (pe_ix ix_tup (pv 3) pe_int (fun _ _ => rfl)) pe_str (nomark _))) (fun _ _ _ _ _ => (pv 3))) pa_nil))) <|
        pss_cons (ps_set (i := 5) nd rfl (.inl rfl) (pe_op op_rep (pe_lst (pa_cons pe_int pa_nil)) (pv 4))) <|
        pss_cons (ps_set (i := 6) nd rfl (.inl rfl) (pe_lst (pa_cons (pe_op op_cat (pv 5) (pe_lst (pa_cons pe_int pa_nil))) (pa_cons (pe_callTy call_tuple_of (by rfl) B.tuple (by decide +kernel) (pa_cons (pv 5) pa_nil)) (pa_cons pe_non (pa_cons pe_int pa_nil)))))) <|
        Evl.pss_cut (ps_if (pt_cmpR op_gt (pv 4) pe_int (nomark _)) (pss_one (ps_set (i := 6) nd rfl (.inl rfl) (pe_op op_cat (pv 6) (pe_lst (pa_cons (pe_slice sl_list (pv 5) (po_some pe_int) po_none) (pa_cons (pe_op op_cat (pe_slice sl_list (pv 5) (po_some pe_int) po_none) (pe_lst (pa_cons pe_int pa_nil))) (pa_cons (pe_op op_cat (pe_slice sl_list (pv 5) (po_some pe_int) po_none) (pe_lst (pa_cons (pe_un un_neg pe_int) pa_nil))) (pa_cons (pe_op op_cat (pe_slice sl_list (pv 5) (po_some pe_int) po_none) (pe_lst (pa_cons pe_bl pa_nil))) (pa_cons (pe_op op_cat (pe_slice sl_list (pv 5) (po_some pe_int) po_none) (pe_lst (pa_cons pe_non pa_nil))) (pa_cons (pe_op op_cat (pe_slice sl_list (pv 5) (po_some pe_int) po_none) (pe_lst (pa_cons pe_str pa_nil))) pa_nil)))))))))) pss_nil) <|
        pss_cons (ps_set (i := 7) nd rfl (.inl rfl) (pe_call DD.ok (hr.mono (by decide)) (by rfl) DD.mg DD.kp DD.bd .nil pass0 (pa_cons (pv 0) (pa_cons (pe_op op_add (pe_callB call_len_seq (by rfl) B.len PySem.boot_len (pa_cons (pv 2) pa_nil)) pe_int) pa_nil)))) <|
        pss_one (ps_ret (pe_call DOf.ok (hr.mono (by decide)) (by rfl) DOf.mg DOf.kp DOf.bd .nil pass0 (pa_cons (pv 0) (pa_cons (pe_lst (pa_cons (pe_op op_cat (pe_op op_cat (pe_slice sl_list (pv 2) po_none (po_some (pv 7))) (pe_lst (pa_cons (pe_call DOf.ok (hr.mono (by decide)) (by rfl) DOf.mg DOf.kp DOf.bd .nil pass0 (pa_cons (pv 0) (pa_cons (pv 6) pa_nil))) pa_nil))) (pe_slice sl_list (pv 2) (po_some (pv 7)) po_none)) (pa_cons (pe_callTy call_tuple_of (by rfl) B.tuple (by decide +kernel) (pa_cons (pv 2) pa_nil)) (pa_cons pe_non pa_nil)))) pa_nil)))), ?_⟩
    obtain ⟨gv, hgv, ga⟩ := id GG
    have hlgv : gv.length = gs.length := ga.1
    have hpl := plc_len gs "in" gs.length
    refine ⟨_, rfl, lg, rfl, ⟨_, SqL.of hgv⟩, fun M hM => ?_⟩
    refine lc_list (K := K) (a := lg) (xs := gv) (fun i Hc => ∃ acc, Hc M = some (.lst acc) ∧ acc.length = (plc gs "in" i).length ∧ Same H Hc) ⟨[], upd_same, rfl, same_new hM⟩ (fun i Hc _ ⟨_, _, _, smc⟩ => SqL.of (smc _ _ hgv)) ?_ ?_
    · rintro i v Hc hv ⟨acc, hacc, hal, smc⟩
      obtain ⟨gt, hgt, gA, rfl, sq⟩ := ga.get hv
      have hi : i < gs.length := (List.getElem?_eq_some_iff.mp hgt).1
      have hkk : kindAt gs i = gt.1 := kindAt_get hgt
      have hpl := plc_len gs "in" i
      refine ⟨rfl, ?_⟩
      refine ⟨_, rfl, gA, _, 0, _, rfl, rfl, (TK.same smc).seq sq, atI_nat (j := 0) rfl, rfl, _, rfl, ite2 (fun e => ?_) (fun e => ?_)⟩
      · have hk : kindAt gs i = "in" := by
          rw [hkk]
          exact V.str.inj (of_decide_eq_true e)
        refine ⟨_, rfl, acc, hacc, small1000 (by omega), acc ++ [.ref gA], upd_same, ?_, same_mut smc hM⟩
        rw [plc_succ, if_pos hk, List.length_append, List.length_append, hal]
        rfl
      · have hk : ¬ kindAt gs i = "in" := fun z => e (decide_eq_true (by rw [← hkk, z]))
        exact ⟨acc, hacc, by rw [plc_succ, if_neg hk]; exact hal, smc⟩
    rintro H1 ⟨macc, hmacc, hml, sm1⟩
    rw [hlgv] at hml
    refine ⟨M, macc, rfl, .inl (SqL.of hmacc), ?_⟩
    refine gn_norm (σ' := [some (.ref wl), some (.ref lg), some (.ref lr), none, some (.int (macc.length : Nat)), none, none, none]) rfl ?_
    rw [hml]
    generalize hmm : (plc gs "in" gs.length).length = m at q hml hpl
    have hml12 : m ≤ 12 := by omega
    have x1 : Dr wl H H1 := ⟨But.same sm1, hw.same sm1⟩
    have hlr1 := sm1 _ _ hlr
    refine ⟨(by show 1 ≤ sizeLine; decide), fun c1 hc1 => ?_⟩
    have S1 : Same H1 (upd H1 c1 (.lst [.int 5])) := same_new hc1
    have e1 : (upd H1 c1 (.lst [.int 5])) c1 = some (.lst [.int 5]) := upd_same
    have y1 : Dr wl H (upd H1 c1 (.lst [.int 5])) := x1.trans (Dr.new x1.well hc1)
    have n1 : c1 ≠ wl := (x1.well.ne hc1).symm
    generalize upd H1 c1 (.lst [.int 5]) = G1 at S1 e1 y1
    refine ⟨_, rfl, c1, _, _, rfl, rfl, e1, by omega, by omega, (by rw [Int.toNat_natCast]; show 1 * _ ≤ sizeLine; exact Nat.le_of_lt (small1000 (by omega))), fun c2 hc2 => ?_⟩
    rw [Int.toNat_natCast, rep_flat', show List.replicate m (V.int 5) = (List.replicate m (5 : Int)).map V.int from by rw [List.map_replicate]]
    have hrl : (List.replicate m (5 : Int)).length = m := List.length_replicate ..
    have hrw : WOk1 (List.replicate m (5 : Int)) := fun y hy => by
      rw [(List.mem_replicate.mp hy).2]
      decide
    generalize List.replicate m (5 : Int) = rr at hrl hrw
    have S2 : Same G1 (upd G1 c2 (.lst (rr.map V.int))) := same_new hc2
    have e2 : (upd G1 c2 (.lst (rr.map V.int))) c2 = some (.lst (rr.map V.int)) := upd_same
    have y2 : Dr wl H (upd G1 c2 (.lst (rr.map V.int))) := y1.trans (Dr.new y1.well hc2)
    have n2 : c2 ≠ wl := (y1.well.ne hc2).symm
    generalize upd G1 c2 (.lst (rr.map V.int)) = G2 at S2 e2 y2
    refine gn_norm (σ' := [some (.ref wl), some (.ref lg), some (.ref lr), none, some (.int (m : Nat)), some (.ref c2), none, none]) rfl ?_
    have hvl : (rr.map V.int).length = m := by rw [List.length_map, hrl]
    -- odd
    refine ⟨_, rfl, (by show 1 ≤ sizeLine; decide), fun c3 hc3 => ?_⟩
    have S3 : Same G2 (upd G2 c3 (.lst [.int 5])) := same_new hc3
    have e3 : (upd G2 c3 (.lst [.int 5])) c3 = some (.lst [.int 5]) := upd_same
    have y3 : Dr wl H (upd G2 c3 (.lst [.int 5])) := y2.trans (Dr.new y2.well hc3)
    have n3 : c3 ≠ wl := (y2.well.ne hc3).symm
    generalize upd G2 c3 (.lst [.int 5]) = G3 at S3 e3 y3
    refine ⟨c2, c3, _, _, rfl, rfl, S3 _ _ e2, e3, Nat.le_of_lt (small1000 (by rw [hvl]; show _ + 1 ≤ _; omega)), fun c4 hc4 => ?_⟩
    have S4 : Same G3 (upd G3 c4 (.lst (rr.map V.int ++ [.int 5]))) := same_new hc4
    have e4 : (upd G3 c4 (.lst (rr.map V.int ++ [.int 5]))) c4 = some (.lst (rr.map V.int ++ [.int 5])) := upd_same
    have y4 : Dr wl H (upd G3 c4 (.lst (rr.map V.int ++ [.int 5]))) := y3.trans (Dr.new y3.well hc4)
    have n4 : c4 ≠ wl := (y3.well.ne hc4).symm
    generalize upd G3 c4 (.lst (rr.map V.int ++ [.int 5])) = G4 at S4 e4 y4
    refine ⟨_, rfl, c2, _, rfl, .inl ⟨SqL.of ((S3.trans S4) _ _ e2), fun c5 hc5 => ?_⟩⟩
    have S5 : Same G4 (upd G4 c5 (.tup (rr.map V.int))) := same_new hc5
    have e5 : (upd G4 c5 (.tup (rr.map V.int))) c5 = some (.tup (rr.map V.int)) := upd_same
    have y5 : Dr wl H (upd G4 c5 (.tup (rr.map V.int))) := y4.trans (Dr.new y4.well hc5)
    have n5 : c5 ≠ wl := (y4.well.ne hc5).symm
    generalize upd G4 c5 (.tup (rr.map V.int)) = G5 at S5 e5 y5
    refine ⟨(by show 4 ≤ sizeLine; decide), fun c6 hc6 => ?_⟩
    have S6 : Same G5 (upd G5 c6 (.lst [.ref c4, .ref c5, .non, .int 5])) := same_new hc6
    have e6 : (upd G5 c6 (.lst [.ref c4, .ref c5, .non, .int 5])) c6 = some (.lst [.ref c4, .ref c5, .non, .int 5]) := upd_same
    have y6 : Dr wl H (upd G5 c6 (.lst [.ref c4, .ref c5, .non, .int 5])) := y5.trans (Dr.new y5.well hc6)
    have n6 : c6 ≠ wl := (y5.well.ne hc6).symm
    generalize upd G5 c6 (.lst [.ref c4, .ref c5, .non, .int 5]) = G6 at S6 e6 y6
    refine gn_norm (σ' := [some (.ref wl), some (.ref lg), some (.ref lr), none, some (.int (m : Nat)), some (.ref c2), some (.ref c6), none]) rfl ?_
    have e26 := (((S3.trans S4).trans S5).trans S6) _ _ e2
    have hb4 : ∀ v ∈ [V.ref c4, .ref c5, .non, .int 5], BadRn K wl m G6 v := by
      intro v hv
      simp only [List.mem_cons, List.not_mem_nil, or_false] at hv
      rcases hv with rfl | rfl | rfl | rfl
      · exact end_bad hrw (by omega) ((S5.trans S6) _ _ e4) n4 (.int 5) (.inr (by omega)) (.int (by decide))
      · exact ⟨.tuple (rr.map PyData.int), .tup (SqT.of (S6 _ _ e5)) (dxs_ints rr), rfl, (Tx.tuple (n := 12) (b := 0) (k := 0) (by rw [List.length_map]; omega) (nums_tx hrw)).mono (by decide) (by decide)⟩
      · exact ⟨.none, .non, rfl, .non⟩
      · exact ⟨.int 5, .int _, rfl, .int (by decide)⟩
    refine ⟨fun σ Hm => ∃ (lo : Addr) (us : List V), σ = [some (.ref wl), some (.ref lg), some (.ref lr), none, some (.int (m : Nat)), some (.ref c2), some (.ref lo), none] ∧ Dr wl H Hm ∧ lo ≠ wl ∧ Hm lo = some (.lst us) ∧ us ≠ [] ∧ us.length ≤ 20 ∧ ∀ v ∈ us, BadRn K wl m Hm v, ?_, ?_⟩
    · refine ⟨_, rfl, _, _, rfl, rfl, _, rfl, ite2 (fun em => ?_) (fun em => ?_)⟩
      rotate_left
      · exact ⟨c6, _, rfl, y6, n6, e6, by simp, by show 4 ≤ 20; decide, hb4⟩
      have hm0 : 0 < m := by
        have := of_decide_eq_true em
        omega
      have hd1 : (rr.drop 1).length = m - 1 := by rw [List.length_drop, hrl]
      have hwd : WOk1 (rr.drop 1) := fun y hy => hrw y (List.mem_of_mem_drop hy)
      have hcut : cutV (rr.map V.int) (some (1 : Int)) none = (rr.drop 1).map V.int := by
        have := cut_from (xs := rr.map V.int) 1
        rw [List.map_drop]
        exact this
      have hdl : ((rr.drop 1).map V.int).length = m - 1 := by rw [List.length_map, hd1]
      generalize rr.drop 1 = rd at hd1 hwd hcut hdl
      refine ⟨_, rfl, _, rfl, _, rfl, c2, _, rfl, SqL.of e26, fun c7 hc7 => ?_⟩
      rw [hcut]
      have S7 : Same G6 (upd G6 c7 (.lst (rd.map V.int))) := same_new hc7
      have e7 : (upd G6 c7 (.lst (rd.map V.int))) c7 = some (.lst (rd.map V.int)) := upd_same
      have y7 : Dr wl H (upd G6 c7 (.lst (rd.map V.int))) := y6.trans (Dr.new y6.well hc7)
      have n7 : c7 ≠ wl := (y6.well.ne hc7).symm
      generalize upd G6 c7 (.lst (rd.map V.int)) = G7 at S7 e7 y7
      refine ⟨_, rfl, _, rfl, c2, _, rfl, SqL.of (S7 _ _ e26), fun c8 hc8 => ?_⟩
      rw [hcut]
      have S8 : Same G7 (upd G7 c8 (.lst (rd.map V.int))) := same_new hc8
      have e8 : (upd G7 c8 (.lst (rd.map V.int))) c8 = some (.lst (rd.map V.int)) := upd_same
      have y8 : Dr wl H (upd G7 c8 (.lst (rd.map V.int))) := y7.trans (Dr.new y7.well hc8)
      have n8 : c8 ≠ wl := (y7.well.ne hc8).symm
      generalize upd G7 c8 (.lst (rd.map V.int)) = G8 at S8 e8 y8
      refine ⟨(by show 1 ≤ sizeLine; decide), fun c9 hc9 => ?_⟩
      have S9 : Same G8 (upd G8 c9 (.lst [.int 97])) := same_new hc9
      have e9 : (upd G8 c9 (.lst [.int 97])) c9 = some (.lst [.int 97]) := upd_same
      have y9 : Dr wl H (upd G8 c9 (.lst [.int 97])) := y8.trans (Dr.new y8.well hc9)
      have n9 : c9 ≠ wl := (y8.well.ne hc9).symm
      generalize upd G8 c9 (.lst [.int 97]) = G9 at S9 e9 y9
      refine ⟨c8, c9, _, _, rfl, rfl, S9 _ _ e8, e9, Nat.le_of_lt (small1000 (by rw [hdl]; show _ + 1 ≤ _; omega)), fun c10 hc10 => ?_⟩
      have S10 : Same G9 (upd G9 c10 (.lst (rd.map V.int ++ [.int 97]))) := same_new hc10
      have e10 : (upd G9 c10 (.lst (rd.map V.int ++ [.int 97]))) c10 = some (.lst (rd.map V.int ++ [.int 97])) := upd_same
      have y10 : Dr wl H (upd G9 c10 (.lst (rd.map V.int ++ [.int 97]))) := y9.trans (Dr.new y9.well hc10)
      have n10 : c10 ≠ wl := (y9.well.ne hc10).symm
      generalize upd G9 c10 (.lst (rd.map V.int ++ [.int 97])) = G10 at S10 e10 y10
      have T10 : Same G6 G10 := (((S7).trans S8).trans S9).trans S10
      refine ⟨_, rfl, _, rfl, c2, _, rfl, SqL.of (T10 _ _ e26), fun c11 hc11 => ?_⟩
      rw [hcut]
      have S11 : Same G10 (upd G10 c11 (.lst (rd.map V.int))) := same_new hc11
      have e11 : (upd G10 c11 (.lst (rd.map V.int))) c11 = some (.lst (rd.map V.int)) := upd_same
      have y11 : Dr wl H (upd G10 c11 (.lst (rd.map V.int))) := y10.trans (Dr.new y10.well hc11)
      have n11 : c11 ≠ wl := (y10.well.ne hc11).symm
      generalize upd G10 c11 (.lst (rd.map V.int)) = G11 at S11 e11 y11
      refine ⟨_, rfl, (by show 1 ≤ sizeLine; decide), fun c12 hc12 => ?_⟩
      have S12 : Same G11 (upd G11 c12 (.lst [.int (-1)])) := same_new hc12
      have e12 : (upd G11 c12 (.lst [.int (-1)])) c12 = some (.lst [.int (-1)]) := upd_same
      have y12 : Dr wl H (upd G11 c12 (.lst [.int (-1)])) := y11.trans (Dr.new y11.well hc12)
      have n12 : c12 ≠ wl := (y11.well.ne hc12).symm
      generalize upd G11 c12 (.lst [.int (-1)]) = G12 at S12 e12 y12
      refine ⟨c11, c12, _, _, rfl, rfl, S12 _ _ e11, e12, Nat.le_of_lt (small1000 (by rw [hdl]; show _ + 1 ≤ _; omega)), fun c13 hc13 => ?_⟩
      have S13 : Same G12 (upd G12 c13 (.lst (rd.map V.int ++ [.int (-1)]))) := same_new hc13
      have e13 : (upd G12 c13 (.lst (rd.map V.int ++ [.int (-1)]))) c13 = some (.lst (rd.map V.int ++ [.int (-1)])) := upd_same
      have y13 : Dr wl H (upd G12 c13 (.lst (rd.map V.int ++ [.int (-1)]))) := y12.trans (Dr.new y12.well hc13)
      have n13 : c13 ≠ wl := (y12.well.ne hc13).symm
      generalize upd G12 c13 (.lst (rd.map V.int ++ [.int (-1)])) = G13 at S13 e13 y13
      have T13 : Same G6 G13 := (((T10).trans S11).trans S12).trans S13
      refine ⟨_, rfl, _, rfl, c2, _, rfl, SqL.of (T13 _ _ e26), fun c14 hc14 => ?_⟩
      rw [hcut]
      have S14 : Same G13 (upd G13 c14 (.lst (rd.map V.int))) := same_new hc14
      have e14 : (upd G13 c14 (.lst (rd.map V.int))) c14 = some (.lst (rd.map V.int)) := upd_same
      have y14 : Dr wl H (upd G13 c14 (.lst (rd.map V.int))) := y13.trans (Dr.new y13.well hc14)
      have n14 : c14 ≠ wl := (y13.well.ne hc14).symm
      generalize upd G13 c14 (.lst (rd.map V.int)) = G14 at S14 e14 y14
      refine ⟨(by show 1 ≤ sizeLine; decide), fun c15 hc15 => ?_⟩
      have S15 : Same G14 (upd G14 c15 (.lst [.bl true])) := same_new hc15
      have e15 : (upd G14 c15 (.lst [.bl true])) c15 = some (.lst [.bl true]) := upd_same
      have y15 : Dr wl H (upd G14 c15 (.lst [.bl true])) := y14.trans (Dr.new y14.well hc15)
      have n15 : c15 ≠ wl := (y14.well.ne hc15).symm
      generalize upd G14 c15 (.lst [.bl true]) = G15 at S15 e15 y15
      refine ⟨c14, c15, _, _, rfl, rfl, S15 _ _ e14, e15, Nat.le_of_lt (small1000 (by rw [hdl]; show _ + 1 ≤ _; omega)), fun c16 hc16 => ?_⟩
      have S16 : Same G15 (upd G15 c16 (.lst (rd.map V.int ++ [.bl true]))) := same_new hc16
      have e16 : (upd G15 c16 (.lst (rd.map V.int ++ [.bl true]))) c16 = some (.lst (rd.map V.int ++ [.bl true])) := upd_same
      have y16 : Dr wl H (upd G15 c16 (.lst (rd.map V.int ++ [.bl true]))) := y15.trans (Dr.new y15.well hc16)
      have n16 : c16 ≠ wl := (y15.well.ne hc16).symm
      generalize upd G15 c16 (.lst (rd.map V.int ++ [.bl true])) = G16 at S16 e16 y16
      have T16 : Same G6 G16 := (((T13).trans S14).trans S15).trans S16
      refine ⟨_, rfl, _, rfl, c2, _, rfl, SqL.of (T16 _ _ e26), fun c17 hc17 => ?_⟩
      rw [hcut]
      have S17 : Same G16 (upd G16 c17 (.lst (rd.map V.int))) := same_new hc17
      have e17 : (upd G16 c17 (.lst (rd.map V.int))) c17 = some (.lst (rd.map V.int)) := upd_same
      have y17 : Dr wl H (upd G16 c17 (.lst (rd.map V.int))) := y16.trans (Dr.new y16.well hc17)
      have n17 : c17 ≠ wl := (y16.well.ne hc17).symm
      generalize upd G16 c17 (.lst (rd.map V.int)) = G17 at S17 e17 y17
      refine ⟨(by show 1 ≤ sizeLine; decide), fun c18 hc18 => ?_⟩
      have S18 : Same G17 (upd G17 c18 (.lst [.non])) := same_new hc18
      have e18 : (upd G17 c18 (.lst [.non])) c18 = some (.lst [.non]) := upd_same
      have y18 : Dr wl H (upd G17 c18 (.lst [.non])) := y17.trans (Dr.new y17.well hc18)
      have n18 : c18 ≠ wl := (y17.well.ne hc18).symm
      generalize upd G17 c18 (.lst [.non]) = G18 at S18 e18 y18
      refine ⟨c17, c18, _, _, rfl, rfl, S18 _ _ e17, e18, Nat.le_of_lt (small1000 (by rw [hdl]; show _ + 1 ≤ _; omega)), fun c19 hc19 => ?_⟩
      have S19 : Same G18 (upd G18 c19 (.lst (rd.map V.int ++ [.non]))) := same_new hc19
      have e19 : (upd G18 c19 (.lst (rd.map V.int ++ [.non]))) c19 = some (.lst (rd.map V.int ++ [.non])) := upd_same
      have y19 : Dr wl H (upd G18 c19 (.lst (rd.map V.int ++ [.non]))) := y18.trans (Dr.new y18.well hc19)
      have n19 : c19 ≠ wl := (y18.well.ne hc19).symm
      generalize upd G18 c19 (.lst (rd.map V.int ++ [.non])) = G19 at S19 e19 y19
      have T19 : Same G6 G19 := (((T16).trans S17).trans S18).trans S19
      refine ⟨_, rfl, _, rfl, c2, _, rfl, SqL.of (T19 _ _ e26), fun c20 hc20 => ?_⟩
      rw [hcut]
      have S20 : Same G19 (upd G19 c20 (.lst (rd.map V.int))) := same_new hc20
      have e20 : (upd G19 c20 (.lst (rd.map V.int))) c20 = some (.lst (rd.map V.int)) := upd_same
      have y20 : Dr wl H (upd G19 c20 (.lst (rd.map V.int))) := y19.trans (Dr.new y19.well hc20)
      have n20 : c20 ≠ wl := (y19.well.ne hc20).symm
      generalize upd G19 c20 (.lst (rd.map V.int)) = G20 at S20 e20 y20
      refine ⟨(by show 1 ≤ sizeLine; decide), fun c21 hc21 => ?_⟩
      have S21 : Same G20 (upd G20 c21 (.lst [.str "5"])) := same_new hc21
      have e21 : (upd G20 c21 (.lst [.str "5"])) c21 = some (.lst [.str "5"]) := upd_same
      have y21 : Dr wl H (upd G20 c21 (.lst [.str "5"])) := y20.trans (Dr.new y20.well hc21)
      have n21 : c21 ≠ wl := (y20.well.ne hc21).symm
      generalize upd G20 c21 (.lst [.str "5"]) = G21 at S21 e21 y21
      refine ⟨c20, c21, _, _, rfl, rfl, S21 _ _ e20, e21, Nat.le_of_lt (small1000 (by rw [hdl]; show _ + 1 ≤ _; omega)), fun c22 hc22 => ?_⟩
      have S22 : Same G21 (upd G21 c22 (.lst (rd.map V.int ++ [.str "5"]))) := same_new hc22
      have e22 : (upd G21 c22 (.lst (rd.map V.int ++ [.str "5"]))) c22 = some (.lst (rd.map V.int ++ [.str "5"])) := upd_same
      have y22 : Dr wl H (upd G21 c22 (.lst (rd.map V.int ++ [.str "5"]))) := y21.trans (Dr.new y21.well hc22)
      have n22 : c22 ≠ wl := (y21.well.ne hc22).symm
      generalize upd G21 c22 (.lst (rd.map V.int ++ [.str "5"])) = G22 at S22 e22 y22
      have T22 : Same G6 G22 := (((T19).trans S20).trans S21).trans S22
      refine ⟨(by show 6 ≤ sizeLine; decide), fun c23 hc23 => ?_⟩
      have S23 : Same G22 (upd G22 c23 (.lst [.ref c7, .ref c10, .ref c13, .ref c16, .ref c19, .ref c22])) := same_new hc23
      have e23 : (upd G22 c23 (.lst [.ref c7, .ref c10, .ref c13, .ref c16, .ref c19, .ref c22])) c23 = some (.lst [.ref c7, .ref c10, .ref c13, .ref c16, .ref c19, .ref c22]) := upd_same
      have y23 : Dr wl H (upd G22 c23 (.lst [.ref c7, .ref c10, .ref c13, .ref c16, .ref c19, .ref c22])) := y22.trans (Dr.new y22.well hc23)
      have n23 : c23 ≠ wl := (y22.well.ne hc23).symm
      generalize upd G22 c23 (.lst [.ref c7, .ref c10, .ref c13, .ref c16, .ref c19, .ref c22]) = G23 at S23 e23 y23
      have T23 : Same G6 G23 := T22.trans S23
      refine ⟨c6, c23, _, _, rfl, rfl, T23 _ _ e6, e23, (by show 4 + 6 ≤ sizeLine; decide), fun c24 hc24 => ?_⟩
      have S24 : Same G23 (upd G23 c24 (.lst ([.ref c4, .ref c5, .non, .int 5] ++ [.ref c7, .ref c10, .ref c13, .ref c16, .ref c19, .ref c22]))) := same_new hc24
      have e24 : (upd G23 c24 (.lst ([.ref c4, .ref c5, .non, .int 5] ++ [.ref c7, .ref c10, .ref c13, .ref c16, .ref c19, .ref c22]))) c24 = some (.lst ([.ref c4, .ref c5, .non, .int 5] ++ [.ref c7, .ref c10, .ref c13, .ref c16, .ref c19, .ref c22])) := upd_same
      have y24 : Dr wl H (upd G23 c24 (.lst ([.ref c4, .ref c5, .non, .int 5] ++ [.ref c7, .ref c10, .ref c13, .ref c16, .ref c19, .ref c22]))) := y23.trans (Dr.new y23.well hc24)
      have n24 : c24 ≠ wl := (y23.well.ne hc24).symm
      generalize upd G23 c24 (.lst ([.ref c4, .ref c5, .non, .int 5] ++ [.ref c7, .ref c10, .ref c13, .ref c16, .ref c19, .ref c22])) = G24 at S24 e24 y24
      refine ⟨c24, _, rfl, y24, n24, e24, by simp, by show 10 ≤ 20; decide, fun v hv => ?_⟩
      have U22 : Same G22 G24 := S23.trans S24
      have U19 : Same G19 G24 := ((S20.trans S21).trans S22).trans U22
      have U16 : Same G16 G24 := ((S17.trans S18).trans S19).trans U19
      have U13 : Same G13 G24 := ((S14.trans S15).trans S16).trans U16
      have U10 : Same G10 G24 := ((S11.trans S12).trans S13).trans U13
      have U7 : Same G7 G24 := ((S8.trans S9).trans S10).trans U10
      rcases List.mem_append.mp hv with hv | hv
      · exact (hb4 v hv).same (S7.trans U7)
      simp only [List.mem_cons, List.not_mem_nil, or_false] at hv
      rcases hv with rfl | rfl | rfl | rfl | rfl | rfl
      · exact ⟨.list (rd.map PyData.int), .lst (U7 _ _ e7) n7 (dxs_ints _), row_len (by rw [List.length_map, hd1]; omega), (Tx.list (n := 12) (b := 0) (k := 0) (by rw [List.length_map]; omega) (nums_tx hwd)).mono (by decide) (by decide)⟩
      · exact end_bad hwd (by omega) (U10 _ _ e10) n10 (.int _) (.inl rfl) (.int (by decide))
      · exact end_bad hwd (by omega) (U13 _ _ e13) n13 (.int _) (.inl rfl) (.int (by decide))
      · exact end_bad hwd (by omega) (U16 _ _ e16) n16 (.bl _) (.inl rfl) (.boo _)
      · exact end_bad hwd (by omega) (U19 _ _ e19) n19 .non (.inl rfl) .non
      · exact end_bad hwd (by omega) (U22 _ _ e22) n22 (.str _) (.inl rfl) ⟨rfl, (by decide +kernel), (by decide +kernel), Nat.zero_le _⟩
    · rintro σ Hm ⟨lo, us, rfl, XD, nlo, hlo, hue, hul, hbu⟩
      have hlrm := XD.but _ _ nlr hlr
      have hrvl : rv.length = rows.length := ra.1
      refine ⟨_, rfl, _, rfl, lr, _, rfl, .inl (SqL.of hlrm), _, _, rfl, rfl, wl, _, rfl, by omega, by omega, XD.well, fun d2 H2 d20 d21 D2 => ?_⟩
      obtain ⟨pN, rfl⟩ : ∃ n : Nat, d2 = (n : Int) := ⟨d2.toNat, by omega⟩
      have hpN : pN ≤ rows.length := by omega
      refine gn_norm (σ' := [some (.ref wl), some (.ref lg), some (.ref lr), none, some (.int (m : Nat)), some (.ref c2), some (.ref lo), some (.int (pN : Nat))]) rfl ?_
      have z0 := XD.trans D2
      have hlo2 := D2.but _ _ nlo hlo
      have hbu2 : ∀ v ∈ us, BadRn K wl m H2 v := fun v hv => (hbu v hv).dr XD.well D2
      refine ⟨_, rfl, _, rfl, _, rfl, _, rfl, lr, _, rfl, SqL.of (z0.but _ _ nlr hlr), fun c30 hc30 => ?_⟩
      rw [cut_to]
      have S30 : Same H2 (upd H2 c30 (.lst (rv.take pN))) := same_new hc30
      have e30 : (upd H2 c30 (.lst (rv.take pN))) c30 = some (.lst (rv.take pN)) := upd_same
      have z30 : Dr wl H (upd H2 c30 (.lst (rv.take pN))) := z0.trans (Dr.new z0.well hc30)
      have n30 : c30 ≠ wl := (z0.well.ne hc30).symm
      generalize upd H2 c30 (.lst (rv.take pN)) = G30 at S30 e30 z30
      refine ⟨_, rfl, _, rfl, wl, lo, us, rfl, nlo, z30.well, SqL.of (S30 _ _ hlo2), hue, (by omega), fun u H3 hu D3 => ?_⟩
      have hbu3 : BadRn K wl m H3 u := ((hbu2 u hu).same S30).dr z30.well D3
      have z31 := z30.trans D3
      have e30' := D3.but _ _ n30 e30
      refine ⟨(by show 1 ≤ sizeLine; decide), fun c32 hc32 => ?_⟩
      have S32 : Same H3 (upd H3 c32 (.lst [u])) := same_new hc32
      have e32 : (upd H3 c32 (.lst [u])) c32 = some (.lst [u]) := upd_same
      have z32 : Dr wl H (upd H3 c32 (.lst [u])) := z31.trans (Dr.new z31.well hc32)
      have n32 : c32 ≠ wl := (z31.well.ne hc32).symm
      generalize upd H3 c32 (.lst [u]) = G32 at S32 e32 z32
      refine ⟨c30, c32, _, _, rfl, rfl, S32 _ _ e30', e32, Nat.le_of_lt (small1000 (by rw [List.length_take]; show _ + 1 ≤ _; omega)), fun c33 hc33 => ?_⟩
      have S33 : Same G32 (upd G32 c33 (.lst (rv.take pN ++ [u]))) := same_new hc33
      have e33 : (upd G32 c33 (.lst (rv.take pN ++ [u]))) c33 = some (.lst (rv.take pN ++ [u])) := upd_same
      have z33 : Dr wl H (upd G32 c33 (.lst (rv.take pN ++ [u]))) := z32.trans (Dr.new z32.well hc33)
      have n33 : c33 ≠ wl := (z32.well.ne hc33).symm
      generalize upd G32 c33 (.lst (rv.take pN ++ [u])) = G33 at S33 e33 z33
      refine ⟨_, rfl, _, rfl, _, rfl, lr, _, rfl, SqL.of (z33.but _ _ nlr hlr), fun c34 hc34 => ?_⟩
      rw [cut_from]
      have S34 : Same G33 (upd G33 c34 (.lst (rv.drop pN))) := same_new hc34
      have e34 : (upd G33 c34 (.lst (rv.drop pN))) c34 = some (.lst (rv.drop pN)) := upd_same
      have z34 : Dr wl H (upd G33 c34 (.lst (rv.drop pN))) := z33.trans (Dr.new z33.well hc34)
      have n34 : c34 ≠ wl := (z33.well.ne hc34).symm
      generalize upd G33 c34 (.lst (rv.drop pN)) = G34 at S34 e34 z34
      refine ⟨c33, c34, _, _, rfl, rfl, S34 _ _ e33, e34, Nat.le_of_lt (small1000 (by rw [List.length_append, List.length_take, List.length_drop]; show _ + 1 + _ ≤ _; omega)), fun c35 hc35 => ?_⟩
      have S35 : Same G34 (upd G34 c35 (.lst (rv.take pN ++ [u] ++ rv.drop pN))) := same_new hc35
      have e35 : (upd G34 c35 (.lst (rv.take pN ++ [u] ++ rv.drop pN))) c35 = some (.lst (rv.take pN ++ [u] ++ rv.drop pN)) := upd_same
      have z35 : Dr wl H (upd G34 c35 (.lst (rv.take pN ++ [u] ++ rv.drop pN))) := z34.trans (Dr.new z34.well hc35)
      have n35 : c35 ≠ wl := (z34.well.ne hc35).symm
      generalize upd G34 c35 (.lst (rv.take pN ++ [u] ++ rv.drop pN)) = G35 at S35 e35 z35
      refine ⟨_, rfl, lr, _, rfl, .inl ⟨SqL.of (z35.but _ _ nlr hlr), fun c36 hc36 => ?_⟩⟩
      have S36 : Same G35 (upd G35 c36 (.tup rv)) := same_new hc36
      have e36 : (upd G35 c36 (.tup rv)) c36 = some (.tup rv) := upd_same
      have z36 : Dr wl H (upd G35 c36 (.tup rv)) := z35.trans (Dr.new z35.well hc36)
      have n36 : c36 ≠ wl := (z35.well.ne hc36).symm
      generalize upd G35 c36 (.tup rv) = G36 at S36 e36 z36
      refine ⟨(by show 3 ≤ sizeLine; decide), fun c37 hc37 => ?_⟩
      have S37 : Same G36 (upd G36 c37 (.lst [.ref c35, .ref c36, .non])) := same_new hc37
      have e37 : (upd G36 c37 (.lst [.ref c35, .ref c36, .non])) c37 = some (.lst [.ref c35, .ref c36, .non]) := upd_same
      have z37 : Dr wl H (upd G36 c37 (.lst [.ref c35, .ref c36, .non])) := z36.trans (Dr.new z36.well hc37)
      have n37 : c37 ≠ wl := (z36.well.ne hc37).symm
      generalize upd G36 c37 (.lst [.ref c35, .ref c36, .non]) = G37 at S37 e37 z37
      refine ⟨wl, c37, _, rfl, n37, z37.well, SqL.of e37, by simp, (by show 3 < 1000000; decide), fun v H9 hv D9 => ?_⟩
      have z9 := z37.trans D9
      refine q v H9 z9 ?_
      have raz : All2 (RowT wl H9) rv rows := ra.imp fun _ _ r => r.move fun b o hb e => z9.but b o hb e
      have ubz : BadRn K wl m H9 u := (((((hbu3.same S32).same S33).same S34).same S35).same (S36.trans S37)).dr z37.well D9
      obtain ⟨du, dxu, bu, tu⟩ := ubz
      have e35z := D9.but _ _ n35 ((S36.trans S37) _ _ e35)
      have e36z := D9.but _ _ n36 (S37 _ _ e36)
      simp only [List.mem_cons, List.not_mem_nil, or_false] at hv
      rcases hv with rfl | rfl | rfl
      · have htk : All2 (RowT wl H9) (rv.take pN) (rows.take pN) := all2_take raz pN
        have hdr : All2 (RowT wl H9) (rv.drop pN) (rows.drop pN) := all2_drop raz pN
        have htl : (rv.take pN).length = pN := by rw [List.length_take]; omega
        refine ⟨.list (rowDs (rows.take pN) ++ [du] ++ rowDs (rows.drop pN)), .lst e35z n35 (((rows_dx htk).app (.one dxu)).app (rows_dx hdr)), (Tx.list (n := 62) (b := 60) (k := 2) ?_ fun e he => ?_).mono (by decide) (by decide), .inr ⟨c35, _, rows.take pN, pN, u, du, rfl, n35, e35z, ?_, ?_, fun rs hrs => hok rs (List.mem_of_mem_take hrs), ?_, dxu, by rw [hmm]; exact bu⟩⟩
        · rw [List.length_append, List.length_append, rowDs, rowDs, List.length_map, List.length_map, List.length_take, List.length_drop]
          show _ + 1 + _ ≤ _
          omega
        · rcases List.mem_append.mp he with he | he
          · rcases List.mem_append.mp he with he | he
            · exact rows_tx hgl (fun rs hrs => hok rs (List.mem_of_mem_take hrs)) e he
            · rw [List.mem_singleton.mp he]
              exact tu
          · exact rows_tx hgl (fun rs hrs => hok rs (List.mem_of_mem_drop hrs)) e he
        · rw [List.length_append, List.length_append, List.length_take, List.length_drop]
          show _ + 1 + _ ≤ _
          omega
        · rw [List.append_assoc, List.take_append_of_le_length (by omega), List.take_of_length_le (by omega)]
          exact htk
        · rw [List.append_assoc, List.getElem?_append_right (by omega), htl, Nat.sub_self]
          rfl
      · exact ⟨.tuple (rowDs rows), .tup (SqT.of e36z) (rows_dx raz), (Tx.tuple (n := 62) (b := 60) (k := 2) (by rw [rowDs, List.length_map]; omega) (rows_tx hgl hok)).mono (by decide) (by decide), .inl rfl⟩
      · exact ⟨.none, .non, .non, .inl rfl⟩
end
end Lag

set_option maxRecDepth 100000
set_option maxHeartbeats 8000000
namespace Lag
open PySem PySem.Spec PyProof.Rows L2
abbrev sLaw : Stmt := topS 76 -- @law
/-! ### data -/
theorem LG.dx {K : PySem.W.Frag} {Av : Addr → Prop} {H : Hp} {l : Addr} {gs : List Gt} (h : LG K H l gs) (n : Av l) : Dx K Av H (.ref l) (gatesD gs) := by
  obtain ⟨vs, q, a⟩ := h
  refine .lst q n (DxAll.from2 ⟨by rw [List.length_map]; exact a.1, fun i v d hv hd => ?_⟩)
  rw [List.getElem?_map] at hd
  obtain ⟨g, hg, rfl⟩ := Option.map_eq_some_iff.mp hd
  obtain ⟨b, rfl, s⟩ := a.2 i v g hv hg
  exact .tup s (.cons (.str _) (.cons (.int _) .nil))
theorem LW.dx {K : PySem.W.Frag} {Av : Addr → Prop} {H : Hp} {l : Addr} {ws : List Wr} (h : LW K H l ws) (n : Av l) : Dx K Av H (.ref l) (wiresD ws) := by
  obtain ⟨vs, q, a⟩ := h
  refine .lst q n (DxAll.from2 ⟨by rw [List.length_map]; exact a.1, fun i v d hv hd => ?_⟩)
  rw [List.getElem?_map] at hd
  obtain ⟨x, hx, rfl⟩ := Option.map_eq_some_iff.mp hd
  obtain ⟨b, c, rfl, s1, s2⟩ := a.2 i v x hv hx
  exact .tup s1 (.cons (.int _) (.cons (.int _) (.cons (.tup s2 (dxs_ints _)) .nil)))
theorem kind_tx : ∀ k ∈ kinds, PyData.showable (.str k) = true ∧ PyData.leavesShort 45 (.str k) = true ∧ PyData.bulk (.str k) ≤ 10 := by decide +kernel
theorem gates_tx {gs : List Gt} (h : ∀ g ∈ gs, GOk g) (hl : gs.length ≤ 12) : Tx 2 276 (gatesD gs) := by
  refine (Tx.list (k := 1) (b := 2 * 11) (n := 12) (by rw [List.length_map]; exact hl) fun d hd => ?_).mono (by decide) (by decide)
  obtain ⟨g, hg, rfl⟩ := List.mem_map.mp hd
  have G := h g hg
  refine Tx.tuple (k := 0) (b := 10) (n := 2) (Nat.le_refl _) fun e he => ?_
  simp only [List.mem_cons, List.not_mem_nil, or_false] at he
  rcases he with rfl | rfl
  · obtain ⟨h1, h2, h3⟩ := kind_tx g.1 G.1
    exact ⟨h1, h2, h3, Nat.zero_le _⟩
  · have := G.2.1
    have := G.2.2.1
    exact .int (Nat.lt_of_le_of_lt (show g.2.natAbs ≤ 1000000 by omega) (by decide))
theorem wires_tx {gs : List Gt} {ws : List Wr} (N : NetOk gs ws) (hl : ws.length ≤ 14) (hx : ∀ x ∈ ws, x.2.2.length ≤ 2) : Tx 3 140 (wiresD ws) := by
  have hgl := N.gl
  refine (Tx.list (k := 2) (b := 9) (n := 14) (by rw [List.length_map]; exact hl) fun d hd => ?_).mono (by decide) (by decide)
  obtain ⟨x, hx1, rfl⟩ := List.mem_map.mp hd
  have W := N.wok x hx1
  have h1 := W.s
  have h2 := W.e
  refine (Tx.tuple (k := 1) (b := 2) (n := 3) (Nat.le_refl _) fun e he => ?_).mono (by decide) (by decide)
  simp only [List.mem_cons, List.not_mem_nil, or_false] at he
  rcases he with rfl | rfl | rfl
  · exact .int (Nat.lt_of_le_of_lt (show ((x.1 : Nat) : Int).natAbs ≤ 1000000 by omega) (by decide))
  · exact .int (Nat.lt_of_le_of_lt (show ((x.2.1 : Nat) : Int).natAbs ≤ 1000000 by omega) (by decide))
  · refine (Tx.tuple (k := 0) (b := 0) (n := 2) (by rw [List.length_map]; exact hx x hx1) fun e he => ?_)
    obtain ⟨i, hi, rfl⟩ := List.mem_map.mp he
    have := W.r i hi
    exact .int (Nat.lt_of_le_of_lt (show i.natAbs ≤ 1000000 by omega) (by decide))
/-- the lags at hand: none, or lags -/
def ShV (K : PySem.W.Frag) (wl : Addr) (gs : List Gt) (H : Hp) (u : V) (odd : Bool) : Prop := (odd = true ∧ BadS K (· ≠ wl) gs H u) ∨ (odd = false ∧ ∃ (ll : Addr) (ls : List Int), u = .ref ll ∧ ll ≠ wl ∧ H ll = some (.lst (ls.map V.int)) ∧ LagOk gs ls ∧ LagB ls)
def RoV (K : PySem.W.Frag) (wl : Addr) (gs : List Gt) (H : Hp) (u : V) (bad : Bool) : Prop := (bad = true ∧ OddR K wl gs H u) ∨ (bad = false ∧ ∃ (lr : Addr) (rv : List V) (rss : List (List Int)), u = .ref lr ∧ lr ≠ wl ∧ H lr = some (.lst rv) ∧ All2 (RowT wl H) rv rss ∧ (∀ rs ∈ rss, RowOk gs rs) ∧ rss.length ≤ 60)
theorem OddR.dr {K : PySem.W.Frag} {wl : Addr} {gs : List Gt} {H H' : Hp} {u : V} (h : OddR K wl gs H u) (W : WellAt wl H) (r : Dr wl H H') : OddR K wl gs H' u := by
  obtain ⟨D, dx, tx, k⟩ := h
  refine ⟨D, dx.dr W r, tx, k.imp id ?_⟩
  rintro ⟨a, xs, rss, n, u', d, rfl, na, ha, hl, ra, ro, hn, du, rd⟩
  exact ⟨a, xs, rss, n, u', d, rfl, na, r.but _ _ na ha, hl, ra.imp fun _ _ z => z.move fun b o hb e => r.but b o hb e, ro, hn, du.dr W r, rd⟩
theorem ShV.dr {K : PySem.W.Frag} {wl : Addr} {gs : List Gt} {H H' : Hp} {u : V} {b : Bool} (h : ShV K wl gs H u b) (W : WellAt wl H) (r : Dr wl H H') : ShV K wl gs H' u b := by
  rcases h with ⟨e, h⟩ | ⟨e, ll, ls, a, n, q, b, c⟩
  · exact .inl ⟨e, h.move (.dr W r)⟩
  · exact .inr ⟨e, ll, ls, a, n, r.but _ _ n q, b, c⟩
theorem RoV.dr {K : PySem.W.Frag} {wl : Addr} {gs : List Gt} {H H' : Hp} {u : V} {b : Bool} (h : RoV K wl gs H u b) (W : WellAt wl H) (r : Dr wl H H') : RoV K wl gs H' u b := by
  rcases h with ⟨e, h⟩ | ⟨e, lr, rv, rss, a, n, q, ra, ro, l⟩
  · exact .inl ⟨e, h.dr W r⟩
  · exact .inr ⟨e, lr, rv, rss, a, n, r.but _ _ n q, ra.imp fun _ _ z => z.move fun b o hb e => r.but b o hb e, ro, l⟩
theorem ShV.dx {K : PySem.W.Frag} {wl : Addr} {gs : List Gt} {H : Hp} {u : V} {b : Bool} (hg : gs.length ≤ 12) (h : ShV K wl gs H u b) : ∃ d, Dx K (· ≠ wl) H u d ∧ Tx 4 20000 d := by
  rcases h with ⟨_, d, a, _, t⟩ | ⟨_, ll, ls, rfl, n, q, lok, lb⟩
  · exact ⟨d, a, t.mono (by decide) (by decide)⟩
  · have hll := lok.len
    exact ⟨.list (ls.map PyData.int), .lst q n (dxs_ints _), (Tx.list (n := 12) (b := 2) (k := 1) (by rw [List.length_map]; omega) (lags_tx lb)).mono (by decide) (by decide)⟩
theorem RoV.dx {K : PySem.W.Frag} {wl : Addr} {gs : List Gt} {H : Hp} {u : V} {b : Bool} (hg : gs.length ≤ 12) (h : RoV K wl gs H u b) : ∃ d, Dx K (· ≠ wl) H u d ∧ Tx 4 20000 d := by
  rcases h with ⟨_, d, a, t, _⟩ | ⟨_, lr, rv, rss, rfl, n, q, ra, ro, l⟩
  · exact ⟨d, a, t⟩
  · exact ⟨.list (rowDs rss), .lst q n (rows_dx ra), (Tx.list (n := 60) (b := 60) (k := 2) (by rw [rowDs, List.length_map]; omega) (rows_tx hg ro)).mono (by decide) (by decide)⟩
/-! ### the word that is due is the word that is told -/
theorem first_neg : ∀ {cs : List Int}, (¬ ∀ y ∈ cs, 0 ≤ y) → ∃ pl, FirstNeg cs pl
  | [], h => absurd (fun y hy => by cases hy) h
  | c :: cs, h => by
    by_cases hc : c < 0
    · exact ⟨0, c, rfl, hc, fun j c' hj => absurd hj (Nat.not_lt_zero _)⟩
    · obtain ⟨pl, e, he, ne, lo⟩ := first_neg (cs := cs) fun k => h fun y hy => by
        rcases List.mem_cons.mp hy with rfl | hy
        · omega
        · exact k y hy
      refine ⟨pl + 1, e, he, ne, fun j c' hj hc' => ?_⟩
      cases j with
      | zero =>
        cases hc'
        omega
      | succ j => exact lo j c' (by omega) hc'
theorem FirstNeg.uniq {cs : List Int} {a b : Nat} (h : FirstNeg cs a) (k : FirstNeg cs b) : a = b := by
  obtain ⟨c, h1, h2, h3⟩ := h
  obtain ⟨d, k1, k2, k3⟩ := k
  rcases Nat.lt_trichotomy a b with z | z | z
  · have := k3 a c z h1
    omega
  · exact z
  · have := h3 b d z k1
    omega
theorem max_ex : ∀ (l : List Int), ∃ m, m ∈ 0 :: l ∧ ∀ y ∈ 0 :: l, y ≤ m
  | [] => ⟨0, List.mem_cons_self .., fun y hy => by
    rw [List.mem_singleton.mp hy]
    exact Int.le_refl _⟩
  | x :: l => by
    obtain ⟨m, h1, h2⟩ := max_ex l
    by_cases h : m < x
    · exact ⟨x, by simp, fun y hy => by
        simp only [List.mem_cons] at hy
        rcases hy with rfl | rfl | hy
        · have := h2 0 (List.mem_cons_self ..)
          omega
        · exact Int.le_refl _
        · have := h2 y (List.mem_cons_of_mem _ hy)
          omega⟩
    · refine ⟨m, ?_, fun y hy => ?_⟩
      · simp only [List.mem_cons] at h1 ⊢
        rcases h1 with rfl | h1
        · exact .inl rfl
        · exact .inr (.inr h1)
      · simp only [List.mem_cons] at hy
        rcases hy with rfl | rfl | hy
        · exact h2 0 (List.mem_cons_self ..)
        · omega
        · exact h2 y (List.mem_cons_of_mem _ hy)
/-- what the word's promise asks -/
def WordAt (K : PySem.W.Frag) (C CL CN CR CE : Addr) (vs : List V) (H : Hp) (wd : Str) (x : V) : Prop := ∀ H1, Same H H1 → spMv K C CL CN CR CE vs H1 (fun _ H' => wd = "told" ∧ x = .non ∧ Same H1 H')
    (fun cls d H' => Same H1 H' ∧ ((cls = .ref CN ∧ wd = "let" ∧ ∃ dx, d = some dx ∧ H' dx = some (.xd [(("wire" : Str), x)])) ∨ (cls = .ref CE ∧ wd = "early" ∧ ∃ dx, d = some dx ∧ H' dx = some (.xd [(("rows" : Str), x)])) ∨ (cls = .ref CL ∧ d = none ∧ wd = "lags" ∧ x = .non) ∨ (cls = .ref CR ∧ d = none ∧ wd = "row" ∧ x = .non)))
def words5 : List Str := ["lags", "let", "row", "early", "told"]
theorem due_word {K : PySem.W.Frag} {C CL CN CR CE p ng nw lw wl : Addr} {gs : List Gt} {ws : List Wr} {H : Hp} {u2 u3 : V} {odd bad : Bool} (NA : NetAt K C H p ng nw gs ws) (N : NetOk gs ws) (hgl : gs.length ≤ 12) (hx2 : ∀ x ∈ ws, x.2.2.length ≤ 2) (hwl : ws.length ≤ 14) (LW0 : LW K H lw ws) (h2 : ShV K wl gs H u2 odd) (h3 : RoV K wl gs H u3 bad) :
    ∃ (wd : Str) (x : V) (xd : PyData), DueAt K H lw u2 u3 odd bad wd x ∧ WordAt K C CL CN CR CE [.ref p, u2, u3] H wd x ∧ wd ∈ words5 ∧ ((x = .non ∧ xd = .none) ∨ ∃ i, x = .int i ∧ xd = .int i) := by
  rcases h2 with ⟨rfl, d, dx, bl, tx⟩ | ⟨rfl, ll, ls, rfl, nll, hll, lok, lb⟩
  · exact ⟨"lags", .non, .none, .inl ⟨rfl, rfl, rfl⟩, fun H1 s1 => .inr (.inl ⟨p, u2, u3, rfl, ng, nw, gs, ws, NA.same s1, N, .inl ⟨d, (dx.any).same s1, bl, fun H' s => ⟨s, .inr (.inr (.inl ⟨rfl, rfl, rfl, rfl⟩))⟩⟩⟩), by decide +kernel, .inl ⟨rfl, rfl⟩⟩
  obtain ⟨wv, hlw, wa⟩ := id LW0
  have hlen := lok.len
  have ends : ∀ x ∈ ws, x.1 < ls.length ∧ x.2.1 < ls.length := fun x hx => by
    have W := N.wok x hx
    rw [hlen]
    exact ⟨W.s, W.e⟩
  have due : ∀ {wd : Str} {x : V}, ((∃ pl : Nat, FirstNeg (cntsL ws ls) pl ∧ wd = "let" ∧ x = .int (pl : Nat)) ∨ (LetOk ws ls ∧ ((bad = true ∧ wd = "row" ∧ x = .non) ∨ (bad = false ∧ ∃ (lr : Addr) (xs : List V) (mm : Int), u3 = .ref lr ∧ H lr = some (.lst xs) ∧ mm ∈ 0 :: ls ∧ (∀ y ∈ 0 :: ls, y ≤ mm) ∧ ((((xs.length : Nat) : Int) < mm ∧ wd = "early" ∧ x = .int mm) ∨ (¬ ((xs.length : Nat) : Int) < mm ∧ wd = "told" ∧ x = .non)))))) → DueAt K H lw (.ref ll) u3 false bad wd x := fun h => .inr ⟨rfl, ll, ls, wv, ws, rfl, hll, hlw, wa, by omega, ends, by omega, h⟩
  by_cases lt : LetOk ws ls
  rotate_left
  · obtain ⟨pl, fn⟩ := first_neg lt
    refine ⟨"let", .int (pl : Nat), .int (pl : Nat), due (.inl ⟨pl, fn, rfl, rfl⟩), fun H1 s1 => .inr (.inl ⟨p, .ref ll, u3, rfl, ng, nw, gs, ws, NA.same s1, N, .inr ⟨ll, ls, rfl, SqL.of (s1 _ _ hll), lok, lt, fun pl' d H' fn' s hd => ⟨s.trans (same_new hd), .inl ⟨rfl, rfl, d, rfl, ?_⟩⟩⟩⟩), by decide +kernel, .inr ⟨_, rfl, rfl⟩⟩
    rw [upd_same, FirstNeg.uniq fn' fn]
  rcases h3 with ⟨rfl, D, dx, tx, h3⟩ | ⟨rfl, lr, rv, rss, rfl, nlr, hlr, ra, ro, rl⟩
  · refine ⟨"row", .non, .none, due (.inr ⟨lt, .inl ⟨rfl, rfl, rfl⟩⟩), fun H1 s1 => .inr (.inr (.inl ⟨p, ng, nw, ll, u3, gs, ws, ls, rfl, NA.same s1, N, SqL.of (s1 _ _ hll), lok, lt, fun H2 s2 => ⟨p, ng, nw, u3, gs, ws, rfl, (NA.same s1).same s2, N, ?_, fun H' s => ⟨s2.trans s, .inr (.inr (.inr ⟨rfl, rfl, rfl, rfl⟩))⟩⟩⟩)), by decide +kernel, .inl ⟨rfl, rfl⟩⟩
    have s12 := s1.trans s2
    rcases h3 with h3 | ⟨a, xs, rss, n, u, d, rfl, _, ha, hl, ra, ro, hn, du, rd⟩
    · exact .inl ⟨D, (dx.any).same s12, h3⟩
    · exact .inr ⟨a, xs, rss, n, u, d, rfl, s12 _ _ ha, by omega, ra.imp fun _ _ r => (r.move fun b o _ e => s12 _ _ e).rv, ro, hn, (du.any).same s12, rd⟩
  · obtain ⟨mm, m1, m2⟩ := max_ex ls
    have hrl : rv.length = rss.length := ra.1
    have raw : ∀ {H1 : Hp}, Same H H1 → All2 (RowV K H1) rv rss := fun s => ra.imp fun _ _ r => (r.move fun b o _ e => s _ _ e).rv
    by_cases hm : ((rv.length : Nat) : Int) < mm
    · refine ⟨"early", .int mm, .int mm, due (.inr ⟨lt, .inr ⟨rfl, lr, rv, mm, rfl, hlr, m1, m2, .inl ⟨hm, rfl, rfl⟩⟩⟩), fun H1 s1 => .inr (.inr (.inr ⟨p, ng, nw, ll, lr, gs, ws, ls, rv, rss, mm, rfl, NA.same s1, N, SqL.of (s1 _ _ hll), lok, lt, s1 _ _ hlr, raw s1, ro, by omega, ?_, fun y hy => m2 y (List.mem_cons_of_mem _ hy), by omega, fun d H' s hd => ⟨s.trans (same_new hd), .inr (.inl ⟨rfl, rfl, d, rfl, upd_same⟩)⟩⟩)), by decide +kernel, .inr ⟨_, rfl, rfl⟩⟩
      rcases List.mem_cons.mp m1 with z | z
      · omega
      · exact z
    · refine ⟨"told", .non, .none, due (.inr ⟨lt, .inr ⟨rfl, lr, rv, mm, rfl, hlr, m1, m2, .inr ⟨hm, rfl, rfl⟩⟩⟩), fun H1 s1 => .inl ⟨p, ng, nw, ll, lr, gs, ws, ls, rv, rss, rfl, NA.same s1, N, SqL.of (s1 _ _ hll), lok, lt, s1 _ _ hlr, raw s1, ro, by omega, fun g hg => ?_, fun x hx => ?_, fun t p' ng' nw' lo' H' tss we m tss0 we0 as s _ _ _ _ _ _ _ _ _ _ => ⟨rfl, rfl, s⟩⟩, by decide +kernel, .inl ⟨rfl, rfl⟩⟩
      · have := m2 _ (List.mem_cons_of_mem _ (lagF_mem (ls := ls) (g := g) (by omega)))
        omega
      · have h1 := lagF_bd (b := 56) (by decide) lb x.1
        have h2 := lagF_bd (b := 56) (by decide) lb x.2.1
        have h3 := hx2 x hx
        unfold cnW
        omega
theorem words5_sh : ∀ k ∈ words5, PyData.canLay0 (.str k) = true := by decide +kernel
section
variable {P : Program} {w : World} {K : PySem.W.Frag} {mg : Str → Option Value} {base : Heap}
abbrev nLaw : List Str := ["_law_script", "_law_cell", "_law_state", "_law_gates_here", "_law_wires", "_law_shift_here", "_law_rows_here", "_law_is_odd", "_law_is_bad", "_law_net_here", "_law_kept", "_law_due_here", "_law_turn"]
theorem scLaw : FnScope nLaw ["_law_script"] (defScope sLaw) := ⟨rfl, rfl, rfl, by decide +kernel, rfl, by decide +kernel, by decide +kernel⟩
theorem ok_law {f fC fD fN fS fR fT fOS fOR fI fDu fW C CL CN CR CE : Addr} {fd fdC fdD fdN fdS fdR fdT fdOS fdOR fdI fdDu fdW : FuncData} (F : Fun K "law" "law" sLaw f fd) (B : Bt mg) (mR : mg "repr" = none) (T : NT K mg C) (DC : DCellAt P w K mg base fC fdC) (DD : DDraw P w K mg base fD fdD) (DN : DGNet P w K mg base fN fdN) (DS : DShift P w K mg base fS fdS) (DR : DGRows P w K mg base fR fdR) (DT : DTight P w K mg base fT fdT) (DOS : DOddShift P w K mg base fOS fdOS) (DOR : DOddRows P w K mg base fOR fdOR)
    (MK : Mk K C fI) (init : FnOk P w K mg base CX0 6 fI fdI ["self", "gates", "wires"] (spInit K C)) (bI : Binds K fdI ["self", "gates", "wires"] []) (DDu : DDue P w K mg base fDu fdDu) (DW : DWord P w K mg base C CL CN CR CE fW fdW) : FnG P w K mg base CX0 13 f fd ["_law_script"] (spLaw K) := by
  refine fun_okG F scLaw (fun vs H Q E h => ?_) (fun cdv A outer s H vs Q E gd hr h => ?_)
  · obtain ⟨a, ns, rfl, _⟩ := h
    rfl
  · obtain ⟨a, ns, rfl, hS, hlen, q⟩ := h
    have nd := scLaw.nd
    have hu : (A.deeper (envOfC "law" (defScope sLaw) s.heap.objs.size f cdv)).units + 65 < cLine := by have := hr.un; omega
    refine ⟨_, pss_cons (ps_for PassesOwn.never rfl (pi_list (pe_op op_cat (pe_lst (pa_cons (pe_call DC.ok (hr.mono (by decide)) (by rfl) DC.mg DC.kp DC.bd .nil pass0 (pa_cons (pv 0) (pa_cons pe_int pa_nil))) pa_nil)) (pe_slice sl_list (pv 0) (po_some pe_int) (po_some pe_int)))) (pg_name (i := 1) nd rfl (.inl rfl)) (pss_cons (ps_set (i := 2) nd rfl (.inl rfl) (pe_lst (pa_cons (pv 1) pa_nil))) <|
        pss_cons (ps_asg (pe_call DN.ok (hr.mono (by decide)) (by rfl) DN.mg DN.kp DN.bd .nil pass0 (pa_cons (pv 2) pa_nil)) (pg_tup rfl (pgs_cons (pg_name (i := 3) nd rfl (.inl rfl)) (pgs_cons (pg_name (i := 4) nd rfl (.inl rfl)) pgs_nil)))) <|
        pss_cons (ps_set (i := 5) nd rfl (.inl rfl) (pe_call DS.ok (hr.mono (by decide)) (by rfl) DS.mg DS.kp DS.bd .nil pass0 (pa_cons (pv 2) (pa_cons (pv 3) (pa_cons (pv 4) pa_nil))))) <|
        pss_cons (ps_set (i := 6) nd rfl (.inl rfl) (pe_slice sl_list (pe_call DR.ok (hr.mono (by decide)) (by rfl) DR.mg DR.kp DR.bd .nil pass0 (pa_cons (pv 2) (pa_cons (pv 3) (pa_cons (pe_callB (cr_max rfl) (by rfl) B.max (by decide +kernel) (pa_cons (pe_op op_cat (pe_lst (pa_cons pe_int pa_nil)) (pv 5)) pa_nil)) pa_nil)))) (po_some (pe_call DD.ok (hr.mono (by decide)) (by rfl) DD.mg DD.kp DD.bd .nil pass0 (pa_cons (pv 2) (pa_cons pe_int pa_nil)))) po_none)) <|
        pss_cons (ps_set (i := 7) nd rfl (.inl rfl) (pe_cmpR op_eq (pe_call DD.ok (hr.mono (by decide)) (by rfl) DD.mg DD.kp DD.bd .nil pass0 (pa_cons (pv 2) (pa_cons pe_int pa_nil))) pe_int (nomark _))) <|
        Evl.pss_cut (ps_if (pt_cmpR op_eq (pe_call DD.ok (hr.mono (by decide)) (by rfl) DD.mg DD.kp DD.bd .nil pass0 (pa_cons (pv 2) (pa_cons pe_int pa_nil))) pe_int (nomark _)) (pss_one (ps_set (i := 5) nd rfl (.inl rfl) (pe_call DT.ok (hr.mono (by decide)) (by rfl) DT.mg DT.kp DT.bd .nil pass0 (pa_cons (pv 2) (pa_cons (pv 3) (pa_cons (pv 4) (pa_cons (pv 5) pa_nil))))))) pss_nil) <|
        Evl.pss_cut (ps_if (pt_val (pv 7)) (pss_one (ps_set (i := 5) nd rfl (.inl rfl) (pe_call DOS.ok (hr.mono (by decide)) (by rfl) DOS.mg DOS.kp DOS.bd .nil pass0 (pa_cons (pv 2) (pa_cons (pv 3) (pa_cons (pv 5) pa_nil)))))) pss_nil) <|
        pss_cons (ps_set (i := 8) nd rfl (.inl rfl) (pe_cmpR op_eq (pe_call DD.ok (hr.mono (by decide)) (by rfl) DD.mg DD.kp DD.bd .nil pass0 (pa_cons (pv 2) (pa_cons pe_int pa_nil))) pe_int (nomark _))) <|
        Evl.pss_cut (ps_if (pt_val (pv 8)) (pss_one (ps_set (i := 6) nd rfl (.inl rfl) (pe_call DOR.ok (hr.mono (by decide)) (by rfl) DOR.mg DOR.kp DOR.bd .nil pass0 (pa_cons (pv 2) (pa_cons (pv 3) (pa_cons (pv 6) pa_nil)))))) pss_nil) <|
        pss_cons (ps_set (i := 9) nd rfl (.inl rfl) (pe_make MK init (hr.mono (by decide)) (by rfl) T.mg bI .nil pass0 (pa_cons (pv 3) (pa_cons (pv 4) pa_nil)))) <|
        pss_cons (ps_set (i := 10) nd rfl (.inl rfl) (pe_callB (call_reprX gd hu) (by rfl) mR (by decide +kernel) (pa_cons (pe_tup (pa_cons (pv 3) (pa_cons (pv 4) (pa_cons (pv 5) (pa_cons (pv 6) pa_nil))))) pa_nil))) <|
        pss_cons (ps_set (i := 11) nd rfl (.inl rfl) (pe_call DDu.ok (hr.mono (by decide)) (by rfl) DDu.mg DDu.kp DDu.bd .nil pass0 (pa_cons (pv 4) (pa_cons (pv 5) (pa_cons (pv 6) (pa_cons (pv 7) (pa_cons (pv 8) pa_nil))))))) <|
        pss_one (ps_for PassesOwn.never rfl (pi_range1 (by rfl) B.range (pa_cons pe_int pa_nil)) (pg_name (i := 12) nd rfl (.inl rfl)) (pss_one (ps_if (PW.pt (pw_or (pt_cmpR (op_neD hr.units) (pe_call DW.ok (hr.mono (by decide)) (by rfl) DW.mg DW.kp DW.bd .nil pass0 (pa_cons (pv 9) (pa_cons (pv 5) (pa_cons (pv 6) pa_nil)))) (pv 11) (nomark _)) (pw_or1 (pt_cmpR op_ne (pe_callB (call_reprX gd hu) (by rfl) mR (by decide +kernel) (pa_cons (pe_tup (pa_cons (pe_fld (pv 9) rfl) (pa_cons (pe_fld (pv 9) rfl) (pa_cons (pv 5) (pa_cons (pv 6) pa_nil))))) pa_nil)) (pv 10) (nomark _))))) (pss_one (ps_ret pe_bl)) pss_nil))))) <|
        pss_one (ps_ret pe_bl), ?_⟩
    refine ⟨_, rfl, a, ns, 0, rfl, Int.le_refl 0, hS, fun z => ?_⟩
    refine ⟨(by show 1 ≤ sizeLine; decide), fun l1 hl1 => ?_⟩
    have s1 : Same H (upd H l1 (.lst [.int z])) := same_new hl1
    refine ⟨_, rfl, _, rfl, _, rfl, a, _, rfl, s1.seq hS, fun l2 hl2 => ?_⟩
    have hcl : (cutV (ns.map V.int) (some 1) (some 5)).length ≤ 63 := by
      have := cutV_length (ns.map V.int) (some 1) (some 5)
      rw [List.length_map] at this
      omega
    refine ⟨l1, l2, _, _, rfl, rfl, same_new hl2 _ _ upd_same, upd_same, ?_, fun l3 hl3 => ?_⟩
    · show 1 + _ ≤ sizeLine
      exact Nat.le_of_lt (small1000 (by omega))
    refine ⟨l3, rfl, ⟨_, SqL.of upd_same⟩, for_list (K := K) (a := l3) (xs := [.int z] ++ cutV (ns.map V.int) (some 1) (some 5)) (fun i σ H' => ∃ s1 s2 s3 s4 s5 s6 s7 s8 s9 s10 s11 s12 : Option V, σ = [some (.ref a), s1, s2, s3, s4, s5, s6, s7, s8, s9, s10, s11, s12] ∧ H' l3 = some (.lst ([.int z] ++ cutV (ns.map V.int) (some 1) (some 5))))
      ⟨_, _, _, _, _, _, _, _, _, _, _, _, rfl, upd_same⟩ (fun i σ H' _ ⟨_, _, _, _, _, _, _, _, _, _, _, _, _, e⟩ => SqL.of e) ?_ ?_⟩
    rotate_left
    · rintro σ H' ⟨t1, t2, t3, t4, t5, t6, t7, t8, t9, t10, t11, t12, rfl, e3⟩
      exact q H'
    rintro i x σ H' hx ⟨t1, t2, t3, t4, t5, t6, t7, t8, t9, t10, t11, t12, rfl, e3⟩
    obtain ⟨c, rfl⟩ : ∃ c, x = V.int c := by
      rcases List.mem_append.mp (List.mem_of_getElem? hx) with hm | hm
      · simp at hm
        exact ⟨z, hm⟩
      · obtain ⟨c, _, rfl⟩ := List.mem_map.mp (mem_cut hm)
        exact ⟨c, rfl⟩
    refine ⟨_, rfl, (by show 1 ≤ sizeLine; decide), fun wl hwl => ?_⟩
    have W1 : WellAt wl (upd H' wl (.lst [.int c])) := ⟨_, upd_same, .inl ⟨_, rfl⟩⟩
    have e31 : (upd H' wl (.lst [.int c])) l3 = some (.lst ([.int z] ++ cutV (ns.map V.int) (some 1) (some 5))) := by rw [upd_ne (ne_of_none e3 hwl)]; exact e3
    have n3 : l3 ≠ wl := ne_of_none e3 hwl
    generalize upd H' wl (.lst [.int c]) = H1 at W1 e31
    refine gn_norm (σ' := [some (.ref a), some (.int c), some (.ref wl), t3, t4, t5, t6, t7, t8, t9, t10, t11, t12]) rfl ?_
    refine ⟨_, rfl, wl, rfl, W1, fun gs ws lg lw p H2 N hgl hx2 hwl2 hinn hn4 D2 hlg hlw nglw LG2 LW2 ep => ?_⟩
    refine ⟨p, _, rfl, .inl (.inl ep), rfl, _, _, rfl, _, _, rfl, rfl, ?_⟩
    have nlg : lg ≠ wl := (W1.ne hlg).symm
    have nlw : lw ≠ wl := (W1.ne hlw).symm
    refine gn_norm (σ' := [some (.ref a), some (.int c), some (.ref wl), some (.ref lg), some (.ref lw), t5, t6, t7, t8, t9, t10, t11, t12]) rfl ?_
    -- shift
    obtain ⟨gv2, hgv2, ga2⟩ := id LG2
    obtain ⟨wv2, hwv2, wa2⟩ := id LW2
    refine ⟨_, rfl, _, rfl, _, rfl, wl, lg, lw, gv2, wv2, gs, ws, rfl, D2.well, nlg, nlw, hgv2, ga2, hgl, hwv2, wa2, N, hinn, fun ll ls H3 E3 hll els lok let1 bd => ?_⟩
    have D3 := D2.trans E3
    have nll : ll ≠ wl := (D2.well.ne hll).symm
    have LG3 := LG2.drT nlg D2.well E3
    have LW3 := LW2.drT nlw D2.well E3
    have hlsl := lok.len
    refine gn_norm (σ' := [some (.ref a), some (.int c), some (.ref wl), some (.ref lg), some (.ref lw), some (.ref ll), t6, t7, t8, t9, t10, t11, t12]) rfl ?_
    -- rows
    obtain ⟨gv3, hgv3, ga3⟩ := id LG3
    refine ⟨_, rfl, _, rfl, (by show 1 ≤ sizeLine; decide), fun c1 hc1 => ?_⟩
    have S1 : Same H3 (upd H3 c1 (.lst [.int 0])) := same_new hc1
    have e1 : (upd H3 c1 (.lst [.int 0])) c1 = some (.lst [.int 0]) := upd_same
    generalize upd H3 c1 (.lst [.int 0]) = G1 at S1 e1
    refine ⟨_, rfl, c1, ll, _, _, rfl, rfl, e1, S1 _ _ els, Nat.le_of_lt (small1000 (by rw [List.length_map]; show 1 + _ ≤ _; omega)), fun c2 hc2 => ?_⟩
    have S2 := S1.trans (same_new (o := .lst ([.int 0] ++ ls.map V.int)) hc2)
    have e2 : (upd G1 c2 (.lst ([.int 0] ++ ls.map V.int))) c2 = some (.lst ((0 :: ls).map V.int)) := upd_same
    generalize upd G1 c2 (.lst ([.int 0] ++ ls.map V.int)) = G2 at S2 e2
    refine ⟨c2, 0 :: ls, rfl, SqL.of e2, by simp, fun mm hm1 hm2 => ?_⟩
    have hmm36 : mm ≤ 36 := by
      rcases List.mem_cons.mp hm1 with z | z
      · omega
      · exact (bd mm z).2
    obtain ⟨m, rfl⟩ : ∃ n : Nat, mm = (n : Int) := ⟨mm.toNat, by have := hm2 0 (List.mem_cons_self ..); omega⟩
    have X2 : Dr wl H3 G2 := Dr.ofSame D3.well S2
    refine ⟨wl, lg, m, gv3, gs, rfl, X2.well, S2 _ _ hgv3, ga3.imp fun _ _ r => r.tk (TK.same S2), by omega, by omega, fun rss lr rv H4 E4 ro rl hlr elr ra => ?_⟩
    have X4 := X2.trans E4
    have nlr : lr ≠ wl := (X2.well.ne hlr).symm
    refine ⟨_, rfl, wl, 2, rfl, by decide, by decide, X4.well, fun d5 H5 d50 d51 E5 => ?_⟩
    obtain ⟨dN, rfl⟩ : ∃ n : Nat, d5 = (n : Int) := ⟨d5.toNat, by omega⟩
    refine ⟨_, rfl, lr, _, rfl, SqL.of (E5.but _ _ nlr elr), fun c6 hc6 => ?_⟩
    rw [cut_from]
    have X5 := X4.trans E5
    have S6 : Same H5 (upd H5 c6 (.lst (rv.drop dN))) := same_new hc6
    have e6 : (upd H5 c6 (.lst (rv.drop dN))) c6 = some (.lst (rv.drop dN)) := upd_same
    have X6 : Dr wl H3 (upd H5 c6 (.lst (rv.drop dN))) := X5.trans (Dr.new X5.well hc6)
    have E46 : Dr wl H4 (upd H5 c6 (.lst (rv.drop dN))) := E5.trans (Dr.new E5.well hc6)
    have n6 : c6 ≠ wl := (X5.well.ne hc6).symm
    generalize upd H5 c6 (.lst (rv.drop dN)) = H6 at S6 e6 X6 E46
    have ra6 : All2 (RowT wl H6) (rv.drop dN) (rss.drop dN) := all2_drop (ra.imp fun _ _ r => RowT.move (wl := wl) (H := H4) r fun b o hb e => E46.but b o hb e) dN
    have ro6 : ∀ rs ∈ rss.drop dN, RowOk gs rs := fun rs h => ro rs (List.mem_of_mem_drop h)
    have rl6 : (rss.drop dN).length ≤ 36 := by
      rw [List.length_drop]
      omega
    generalize rv.drop dN = rv6 at e6 ra6
    generalize rss.drop dN = rs6 at ra6 ro6 rl6
    refine gn_norm (σ' := [some (.ref a), some (.int c), some (.ref wl), some (.ref lg), some (.ref lw), some (.ref ll), some (.ref c6), t7, t8, t9, t10, t11, t12]) rfl ?_
    -- is it odd
    refine ⟨_, rfl, wl, 3, rfl, by decide, by decide, X6.well, fun d7 H7 d70 d71 E7 => ⟨rfl, ?_⟩⟩
    generalize decide (V.int d7 = V.int 0) = odd
    refine gn_norm (σ' := [some (.ref a), some (.int c), some (.ref wl), some (.ref lg), some (.ref lw), some (.ref ll), some (.ref c6), some (.bl odd), t8, t9, t10, t11, t12]) rfl ?_
    have X7 := X6.trans E7
    have R7 : RoV K wl gs H7 (.ref c6) false := RoV.dr (H := H6) (.inr ⟨rfl, c6, rv6, rs6, rfl, n6, e6, ra6, ro6, by omega⟩) X6.well E7
    refine ⟨fun σ Hc => ∃ (ll : Addr) (ls : List Int), σ = [some (.ref a), some (.int c), some (.ref wl), some (.ref lg), some (.ref lw), some (.ref ll), some (.ref c6), some (.bl odd), t8, t9, t10, t11, t12] ∧ Dr wl H7 Hc ∧ ll ≠ wl ∧ Hc ll = some (.lst (ls.map V.int)) ∧ LagOk gs ls ∧ LagB ls, ?_, ?_⟩
    · refine ⟨_, rfl, wl, 3, rfl, by decide, by decide, X7.well, fun d8 H8 d80 d81 E8 => ⟨rfl, _, rfl, ite2 (fun _ => ?_) (fun _ => ?_)⟩⟩
      · have X8 := X7.trans E8
        refine ⟨_, rfl, _, rfl, _, rfl, _, rfl, wl, lg, lw, ll, gs, ws, ls, rfl, X8.well, nlg, nlw, nll, LG3.drT nlg D3.well X8, LW3.drT nlw D3.well X8, N, by omega, X8.but _ _ nll els, lok, bd, fun l9 ls9 H9 E9 n9 e9 lok9 bd9 => ?_⟩
        exact ⟨l9, ls9, rfl, E8.trans E9, n9, e9, lok9, bd9⟩
      · exact ⟨ll, ls, rfl, E8, nll, (X7.trans E8).but _ _ nll els, lok, fun y hy => by have := bd y hy; omega⟩
    clear els lok let1 bd hlsl nll hll S2 e2 hm1 hm2 e1 S1
    rintro σ H8 ⟨ll, ls, rfl, E8, nll, els, lok, lb⟩
    have X8 := X7.trans E8
    have R8 := R7.dr X7.well E8
    refine ⟨fun σ Hc => ∃ u2 : V, σ = [some (.ref a), some (.int c), some (.ref wl), some (.ref lg), some (.ref lw), some u2, some (.ref c6), some (.bl odd), t8, t9, t10, t11, t12] ∧ Dr wl H8 Hc ∧ ShV K wl gs Hc u2 odd, ?_, ?_⟩
    · refine ⟨_, rfl, odd, rfl, ite2 (fun eo => ?_) (fun eo => ?_)⟩
      · refine ⟨_, rfl, _, rfl, _, rfl, wl, lg, ll, gs, ls, rfl, X8.well, nlg, nll, LG3.drT nlg D3.well X8, N.ne, by omega, els, lok.len, lb, fun v H9 E9 bs => ?_⟩
        exact ⟨v, rfl, E9, .inl ⟨eo, bs⟩⟩
      · exact ⟨_, rfl, ⟨But.refl _ _, X8.well⟩, .inr ⟨by simpa using eo, ll, ls, rfl, nll, els, lok, lb⟩⟩
    rintro σ H9 ⟨u2, rfl, E9, sh9⟩
    have X9 := X8.trans E9
    have R9 := R8.dr X8.well E9
    refine ⟨_, rfl, wl, 3, rfl, by decide, by decide, X9.well, fun d10 H10 d100 d101 E10 => ⟨rfl, ?_⟩⟩
    generalize decide (V.int d10 = V.int 0) = bad
    refine gn_norm (σ' := [some (.ref a), some (.int c), some (.ref wl), some (.ref lg), some (.ref lw), some u2, some (.ref c6), some (.bl odd), some (.bl bad), t9, t10, t11, t12]) rfl ?_
    have X10 := X9.trans E10
    have R10 := R9.dr X9.well E10
    have sh10 := sh9.dr X9.well E10
    refine ⟨fun σ Hc => ∃ u3 : V, σ = [some (.ref a), some (.int c), some (.ref wl), some (.ref lg), some (.ref lw), some u2, some u3, some (.bl odd), some (.bl bad), t9, t10, t11, t12] ∧ Dr wl H10 Hc ∧ RoV K wl gs Hc u3 bad, ?_, ?_⟩
    · refine ⟨_, rfl, bad, rfl, ite2 (fun eo => ?_) (fun eo => ?_)⟩
      · rcases R10 with ⟨z, _⟩ | ⟨_, lr, rv, rss, er, nlr, hlr, ra, ro, rl⟩
        · cases z
        cases er
        refine ⟨_, rfl, _, rfl, _, rfl, wl, lg, c6, gs, rv, rss, rfl, X10.well, nlg, nlr, LG3.drT nlg D3.well X10, by omega, hlr, ra, ro, rl, fun v H11 E11 o => ?_⟩
        exact ⟨v, rfl, E11, .inl ⟨eo, o⟩⟩
      · have eb : bad = false := by simpa using eo
        subst eb
        exact ⟨_, rfl, ⟨But.refl _ _, X10.well⟩, R10⟩
    rintro σ H11 ⟨u3, rfl, E11, ro11⟩
    have X11 := X10.trans E11
    have sh11 := sh10.dr X10.well E11
    have LG11 := LG3.drT nlg D3.well X11
    have LW11 := LW3.drT nlw D3.well X11
    have e311 : H11 l3 = some (.lst ([.int z] ++ cutV (ns.map V.int) (some 1) (some 5))) := (D3.trans X11).but _ _ n3 e31
    have W11 := X11.well
    clear R7 R8 R9 R10 sh9 sh10 E4 E5 E46 E7 E8 E9 E10 E11 X2 X4 X5 X6 X7 X8 X9 X10 LG3 LW3 LG2 LW2 hgv2 ga2 hwv2 wa2 hgv3 ga3 ra6 e6 ro6 rl6 els lok lb e31
    -- the net
    refine ⟨_, rfl, _, rfl, ?_⟩
    refine net_in LG11.rg LW11.rw N fun p1 ng1 nw1 H12 NA12 s12 hp1 hng1 hnw1 => ?_
    refine gn_norm (σ' := [some (.ref a), some (.int c), some (.ref wl), some (.ref lg), some (.ref lw), some u2, some u3, some (.bl odd), some (.bl bad), some (.ref p1), t10, t11, t12]) rfl ?_
    have Y12 : Dr wl H11 H12 := Dr.ofSame W11 s12
    have sh12 := sh11.dr W11 Y12
    have ro12 := ro11.dr W11 Y12
    -- kept
    obtain ⟨d2, dx2, tx2⟩ := sh12.dx (by omega)
    obtain ⟨d3, dx3, tx3⟩ := ro12.dx (by omega)
    have txD : Tx 5 80004 (.tuple [gatesD gs, wiresD ws, d2, d3]) := Tx.tuple (n := 4) (b := 20000) (k := 4) (Nat.le_refl _) fun e he => by
      simp only [List.mem_cons, List.not_mem_nil, or_false] at he
      rcases he with rfl | rfl | rfl | rfl
      · exact (gates_tx N.gok (by omega)).mono (by decide) (by decide)
      · exact (wires_tx N hwl2 hx2).mono (by decide) (by decide)
      · exact tx2
      · exact tx3
    have ddp : (PyData.tuple [gatesD gs, wiresD ws, d2, d3]).depth < 64 := Nat.lt_of_le_of_lt txD.dp (by decide)
    have dfit := txD.fits (by decide)
    refine ⟨_, rfl, _, rfl, _, rfl, _, rfl, (by show 4 ≤ sizeLine; decide), fun ct hct => ?_⟩
    have s13 : Same H12 (upd H12 ct (.tup [.ref lg, .ref lw, u2, u3])) := same_new hct
    have e13 : (upd H12 ct (.tup [.ref lg, .ref lw, u2, u3])) ct = some (.tup [.ref lg, .ref lw, u2, u3]) := upd_same
    generalize upd H12 ct (.tup [.ref lg, .ref lw, u2, u3]) = H13 at s13 e13
    have LG13 := (LG11.same s12).same s13
    have LW13 := (LW11.same s12).same s13
    refine ⟨.ref ct, .tuple [gatesD gs, wiresD ws, d2, d3], rfl, .tup (SqT.of e13) (.cons (LG13.dx trivial) (.cons (LW13.dx trivial) (.cons ((dx2.any).same s13) (.cons ((dx3.any).same s13) .nil)))), txD.sw, ddp, dfit, ?_⟩
    generalize hD : (PyData.tuple [gatesD gs, wiresD ws, d2, d3]) = D at ddp dfit txD
    refine gn_norm (σ' := [some (.ref a), some (.int c), some (.ref wl), some (.ref lg), some (.ref lw), some u2, some u3, some (.bl odd), some (.bl bad), some (.ref p1), some (.str D.shown), t11, t12]) rfl ?_
    -- due
    have NA13 := NA12.same s13
    have Y13 : Dr wl H12 H13 := Dr.ofSame Y12.well s13
    obtain ⟨wd, xv, xd, due, word, hwd, hxv⟩ := due_word (CL := CL) (CN := CN) (CR := CR) (CE := CE) NA13 N (by omega) hx2 hwl2 LW13 (sh12.dr Y12.well Y13) (ro12.dr Y12.well Y13)
    refine ⟨_, rfl, _, rfl, _, rfl, _, rfl, _, rfl, lw, u2, u3, odd, bad, wd, xv, rfl, due, fun t H14 s14 et => ?_⟩
    refine gn_norm (σ' := [some (.ref a), some (.int c), some (.ref wl), some (.ref lg), some (.ref lw), some u2, some u3, some (.bl odd), some (.bl bad), some (.ref p1), some (.str D.shown), some (.ref t), t12]) rfl ?_
    have wdp : ∀ {Hz : Hp} {t' : Addr}, Hz t' = some (.tup [.str wd, xv]) → Dp K Hz (.ref t') (.tuple [.str wd, xd]) := fun e => .tup (SqT.of e) (.cons (.str _) (.cons (by
      rcases hxv with ⟨rfl, rfl⟩ | ⟨i, rfl, rfl⟩
      · exact .non
      · exact .int _) .nil))
    have wsh : Sh 1 (.tuple [.str wd, xd]) := sh_tuple fun d hd => by
      simp only [List.mem_cons, List.not_mem_nil, or_false] at hd
      rcases hd with rfl | rfl
      · exact ⟨words5_sh _ hwd, Nat.zero_le _⟩
      · rcases hxv with ⟨_, rfl⟩ | ⟨i, _, rfl⟩
        · exact ⟨rfl, Nat.zero_le _⟩
        · exact sh_int _
    have weq : PyData.eqv (.tuple [.str wd, xd]) (.tuple [.str wd, xd]) = true := by
      rcases hxv with ⟨_, rfl⟩ | ⟨i, _, rfl⟩
      · show ((wd == wd) && (true && true)) = true
        simp
      · show ((wd == wd) && ((i == i) && true)) = true
        simp
    refine ⟨2, rfl, by decide, by decide, ?_⟩
    refine for_range (lo := 0) (fun j σ Hc => ∃ s12 : Option V, σ = [some (.ref a), some (.int c), some (.ref wl), some (.ref lg), some (.ref lw), some u2, some u3, some (.bl odd), some (.bl bad), some (.ref p1), some (.str D.shown), some (.ref t), s12] ∧ Same H14 Hc) ⟨_, rfl, Same.refl _⟩ ?_ ?_
    · rintro j σ Hc hj ⟨s12', rfl, sc⟩
      refine gn_norm (σ' := [some (.ref a), some (.int c), some (.ref wl), some (.ref lg), some (.ref lw), some u2, some u3, some (.bl odd), some (.bl bad), some (.ref p1), some (.str D.shown), some (.ref t), some (.int (0 + (j : Nat)))]) rfl ?_
      have s1c := s14.trans sc
      refine ⟨_, rfl, _, rfl, _, rfl, .ref p1, u2, u3, rfl, wd, xv, fun Hd sd => word Hd (s1c.trans sd), fun t' Hd sd et' => ?_⟩
      refine ⟨_, rfl, _, _, wdp et', wdp ((sc.trans sd) _ _ et), Sh.ok wsh (by decide), Sh.ok wsh (by decide), ?_⟩
      rw [weq]
      refine ⟨_, rfl, iteF ?_⟩
      have s1d := s1c.trans sd
      have NAd := NA13.same s1d
      obtain ⟨dx, ob⟩ := id NAd.ob
      refine ⟨_, rfl, p1, C, dx, _, _, rfl, ob, T.cl, T.nG, nf_gates _ _, _, rfl, p1, C, dx, _, _, rfl, ob, T.cl, T.nW, nf_wires _ _, _, rfl, _, rfl, (by show 4 ≤ sizeLine; decide), fun c20 hc20 => ?_⟩
      have s20 : Same Hd (upd Hd c20 (.tup [.ref ng1, .ref nw1, u2, u3])) := same_new hc20
      have e20 : (upd Hd c20 (.tup [.ref ng1, .ref nw1, u2, u3])) c20 = some (.tup [.ref ng1, .ref nw1, u2, u3]) := upd_same
      generalize upd Hd c20 (.tup [.ref ng1, .ref nw1, u2, u3]) = He at s20 e20
      have s1e := s1d.trans s20
      have NAe := NA13.same s1e
      refine ⟨.ref c20, D, rfl, (by
        rw [← hD]
        exact .tup (SqT.of e20) (.cons (NAe.g.dx trivial) (.cons (NAe.w.dx trivial) (.cons ((dx2.any).same (s13.trans s1e)) (.cons ((dx3.any).same (s13.trans s1e)) .nil))))), txD.sw, ddp, dfit, _, rfl, rfl, false, ?_, iteF ⟨_, rfl, s1d.trans s20 |> fun _ => (sc.trans sd).trans s20⟩⟩
      rw [decide_eq_true rfl]
      rfl
    · rintro σ Hc ⟨s12', rfl, sc⟩
      exact ⟨_, _, _, _, _, _, _, _, _, _, _, _, rfl, (((s12.trans s13).trans s14).trans sc) _ _ e311⟩
end
end Lag

set_option maxRecDepth 100000
set_option maxHeartbeats 8000000
namespace Lag
open PySem PySem.Spec PyProof.Rows L2
theorem kind_of : ∀ k ∈ kinds, k = "in" ∨ k = "out" ∨ k = "sum" ∨ k = "times" ∨ k = "most" ∨ k = "least" ∨ k = "first" ∨ k = "one" := by decide +kernel
theorem exm_of {K : PySem.W.Frag} {S C : Addr} (h1 : PySem.W.subIn K (.ref C) (.type "BaseException") = some true) (h2 : PySem.W.isClsIn K C = true) (h3 : PySem.W.typeIn K (.ref C) = some (.type "type")) (h4 : PySem.W.subIn K (.ref S) (.ref C) = some true) :
    PySem.W.exmOne K (.ref S) (.ref C) = some true := by
  have e1 : (PySem.W.subIn K (.ref C) (.type "BaseException") == some true) = true := by rw [h1] <;> rfl
  have e2 : ((PySem.W.clsIn K C).isSome && PySem.W.typeIn K (.ref C) == some (.type "type")) = true := by
    have h2' : (PySem.W.clsIn K C).isSome = true := h2
    rw [h2', h3] <;> rfl
  show (if (PySem.W.subIn K (.ref C) (.type "BaseException") == some true) = true then (if ((PySem.W.clsIn K C).isSome && PySem.W.typeIn K (.ref C) == some (.type "type")) = true then PySem.W.subIn K (.ref S) (.ref C) else none) else none) = some true
  rw [if_pos e1, if_pos e2]
  exact h4
theorem kit_type {K : PySem.W.Frag} {S : Addr} {T : String} {b : Bool} (h1 : PySem.W.kitMeta T = true) (h2 : PySem.W.subIn K (.ref S) (.type T) = some b) : PySem.W.kitOne K (.ref S) (.type T) = some b := by
  have e0 : ((Value.ref S) == (Value.type T)) = false := rfl
  show (if ((Value.ref S) == (Value.type T)) = true then some true else (if PySem.W.kitMeta T = true then PySem.W.subIn K (.ref S) (.type T) else none)) = some b
  rw [e0, if_neg (by decide), if_pos h1]
  exact h2
theorem kit_not {K : PySem.W.Frag} {S C : Addr} (h2 : PySem.W.isClsIn K C = true) (h3 : PySem.W.typeIn K (.ref C) = some (.type "type")) (h4 : PySem.W.subIn K (.ref S) (.ref S) = some true) (h5 : PySem.W.subIn K (.ref S) (.ref C) = some false) :
    PySem.W.kitOne K (.ref S) (.ref C) = some false := by
  have ne : ¬ (((Value.ref S) == (Value.ref C)) = true) := fun z => by
    have z' : S = C := by
      have z2 := beq_iff_eq.mp z
      cases z2
      rfl
    rw [z'] at h4 h5
    rw [h4] at h5
    cases h5
  have e2 : ((PySem.W.clsIn K C).isSome && PySem.W.typeIn K (.ref C) == some (.type "type")) = true := by
    have h2' : (PySem.W.clsIn K C).isSome = true := h2
    rw [h2', h3] <;> rfl
  show (if ((Value.ref S) == (Value.ref C)) = true then some true else (if ((PySem.W.clsIn K C).isSome && PySem.W.typeIn K (.ref C) == some (.type "type")) = true then PySem.W.subIn K (.ref S) (.ref C) else none)) = some false
  rw [if_neg ne, if_pos e2]
  exact h5
theorem exm_any {K : PySem.W.Frag} {S C : Addr} {b : Bool} (h1 : PySem.W.subIn K (.ref C) (.type "BaseException") = some true) (h2 : PySem.W.isClsIn K C = true) (h3 : PySem.W.typeIn K (.ref C) = some (.type "type")) (h4 : PySem.W.subIn K (.ref S) (.ref C) = some b) :
    PySem.W.exmOne K (.ref S) (.ref C) = some b := by
  have e1 : (PySem.W.subIn K (.ref C) (.type "BaseException") == some true) = true := by rw [h1] <;> rfl
  have e2 : ((PySem.W.clsIn K C).isSome && PySem.W.typeIn K (.ref C) == some (.type "type")) = true := by
    have h2' : (PySem.W.clsIn K C).isSome = true := h2
    rw [h2', h3] <;> rfl
  show (if (PySem.W.subIn K (.ref C) (.type "BaseException") == some true) = true then (if ((PySem.W.clsIn K C).isSome && PySem.W.typeIn K (.ref C) == some (.type "type")) = true then PySem.W.subIn K (.ref S) (.ref C) else none) else none) = some b
  rw [if_pos e1, if_pos e2]
  exact h4
theorem kitAny_cons {K : PySem.W.Frag} {t c : Value} {r : List Value} {b : Bool} (h : PySem.W.kitOne K t c = some false) (h2 : PySem.W.kitAny K t r = some b) : PySem.W.kitAny K t (c :: r) = some b := by
  unfold PySem.W.kitAny
  rw [h]
  exact h2
theorem all_mk {l : PySem.W.OpenLaw} {w : World} {K : PySem.W.Frag} {h : Heap} {mg : Str → Option Value} {fa C : Addr} (X : K.In h) (G : h.Ns mainGlobals mg) (hfa : mg "law" = some (.ref fa))
    {C0 CL CR CB CG CW CN CE fN fE : Addr} {nmTN qTN : Str} {NTTN : Addr} {bsTN : List Value} {snTN : List Str} {subTN : List Value} {abTN : Bool} {colTN : Option Bool} {ddTN : Option Addr} {m0TN m1TN m2TN m3TN m5TN : Option Value} {odTN anTN : Option Addr} {slTN : Array (Option Value)} {ocTN kVTN dcTN pmTN cdvTN ctTN : Value} {nmTE qTE : Str} {NTTE : Addr} {bsTE : List Value} {snTE : List Str} {subTE : List Value} {abTE : Bool} {colTE : Option Bool} {ddTE : Option Addr} {m0TE m1TE m2TE m3TE m5TE : Option Value} {odTE anTE : Option Addr} {slTE : Array (Option Value)} {ocTE kVTE dcTE pmTE cdvTE ctTE : Value}
    {fd0 : Addr} {odd0 and0 : Option Addr} {sld0 : Array (Option Value)} {ocd0 kVd0 dcd0 pmd0 cdd0 ctd0 : Value}
    {fd1 : Addr} {odd1 and1 : Option Addr} {sld1 : Array (Option Value)} {ocd1 kVd1 dcd1 pmd1 cdd1 ctd1 : Value}
    {fd2 : Addr} {odd2 and2 : Option Addr} {sld2 : Array (Option Value)} {ocd2 kVd2 dcd2 pmd2 cdd2 ctd2 : Value}
    {fd3 : Addr} {odd3 and3 : Option Addr} {sld3 : Array (Option Value)} {ocd3 kVd3 dcd3 pmd3 cdd3 ctd3 : Value}
    {fd4 : Addr} {odd4 and4 : Option Addr} {sld4 : Array (Option Value)} {ocd4 kVd4 dcd4 pmd4 cdd4 ctd4 : Value}
    {fd5 : Addr} {odd5 and5 : Option Addr} {sld5 : Array (Option Value)} {ocd5 kVd5 dcd5 pmd5 cdd5 ctd5 : Value}
    {fd6 : Addr} {odd6 and6 : Option Addr} {sld6 : Array (Option Value)} {ocd6 kVd6 dcd6 pmd6 cdd6 ctd6 : Value}
    {fd7 : Addr} {odd7 and7 : Option Addr} {sld7 : Array (Option Value)} {ocd7 kVd7 dcd7 pmd7 cdd7 ctd7 : Value}
    {fd8 : Addr} {odd8 and8 : Option Addr} {sld8 : Array (Option Value)} {ocd8 kVd8 dcd8 pmd8 cdd8 ctd8 : Value}
    {fd9 : Addr} {odd9 and9 : Option Addr} {sld9 : Array (Option Value)} {ocd9 kVd9 dcd9 pmd9 cdd9 ctd9 : Value}
    {fd10 : Addr} {odd10 and10 : Option Addr} {sld10 : Array (Option Value)} {ocd10 kVd10 dcd10 pmd10 cdd10 ctd10 : Value}
    {fd11 : Addr} {odd11 and11 : Option Addr} {sld11 : Array (Option Value)} {ocd11 kVd11 dcd11 pmd11 cdd11 ctd11 : Value}
    {fd12 : Addr} {odd12 and12 : Option Addr} {sld12 : Array (Option Value)} {ocd12 kVd12 dcd12 pmd12 cdd12 ctd12 : Value}
    {fd13 : Addr} {odd13 and13 : Option Addr} {sld13 : Array (Option Value)} {ocd13 kVd13 dcd13 pmd13 cdd13 ctd13 : Value}
    {fd14 : Addr} {odd14 and14 : Option Addr} {sld14 : Array (Option Value)} {ocd14 kVd14 dcd14 pmd14 cdd14 ctd14 : Value}
    {fd15 : Addr} {odd15 and15 : Option Addr} {sld15 : Array (Option Value)} {ocd15 kVd15 dcd15 pmd15 cdd15 ctd15 : Value}
    {fd16 : Addr} {odd16 and16 : Option Addr} {sld16 : Array (Option Value)} {ocd16 kVd16 dcd16 pmd16 cdd16 ctd16 : Value}
    {fd17 : Addr} {odd17 and17 : Option Addr} {sld17 : Array (Option Value)} {ocd17 kVd17 dcd17 pmd17 cdd17 ctd17 : Value}
    {fd18 : Addr} {odd18 and18 : Option Addr} {sld18 : Array (Option Value)} {ocd18 kVd18 dcd18 pmd18 cdd18 ctd18 : Value}
    {fd19 : Addr} {odd19 and19 : Option Addr} {sld19 : Array (Option Value)} {ocd19 kVd19 dcd19 pmd19 cdd19 ctd19 : Value}
    {fd20 : Addr} {odd20 and20 : Option Addr} {sld20 : Array (Option Value)} {ocd20 kVd20 dcd20 pmd20 cdd20 ctd20 : Value}
    {fd21 : Addr} {odd21 and21 : Option Addr} {sld21 : Array (Option Value)} {ocd21 kVd21 dcd21 pmd21 cdd21 ctd21 : Value}
    {fd22 : Addr} {odd22 and22 : Option Addr} {sld22 : Array (Option Value)} {ocd22 kVd22 dcd22 pmd22 cdd22 ctd22 : Value}
    {fd23 : Addr} {odd23 and23 : Option Addr} {sld23 : Array (Option Value)} {ocd23 kVd23 dcd23 pmd23 cdd23 ctd23 : Value}
    {fd24 : Addr} {odd24 and24 : Option Addr} {sld24 : Array (Option Value)} {ocd24 kVd24 dcd24 pmd24 cdd24 ctd24 : Value}
    {fd25 : Addr} {odd25 and25 : Option Addr} {sld25 : Array (Option Value)} {ocd25 kVd25 dcd25 pmd25 cdd25 ctd25 : Value}
    {fd26 : Addr} {odd26 and26 : Option Addr} {sld26 : Array (Option Value)} {ocd26 kVd26 dcd26 pmd26 cdd26 ctd26 : Value}
    {fd27 : Addr} {odd27 and27 : Option Addr} {sld27 : Array (Option Value)} {ocd27 kVd27 dcd27 pmd27 cdd27 ctd27 : Value}
    {fd28 : Addr} {odd28 and28 : Option Addr} {sld28 : Array (Option Value)} {ocd28 kVd28 dcd28 pmd28 cdd28 ctd28 : Value}
    {fd29 : Addr} {odd29 and29 : Option Addr} {sld29 : Array (Option Value)} {ocd29 kVd29 dcd29 pmd29 cdd29 ctd29 : Value}
    {fd30 : Addr} {odd30 and30 : Option Addr} {sld30 : Array (Option Value)} {ocd30 kVd30 dcd30 pmd30 cdd30 ctd30 : Value}
    {fd31 : Addr} {odd31 and31 : Option Addr} {sld31 : Array (Option Value)} {ocd31 kVd31 dcd31 pmd31 cdd31 ctd31 : Value}
    {fd32 : Addr} {odd32 and32 : Option Addr} {sld32 : Array (Option Value)} {ocd32 kVd32 dcd32 pmd32 cdd32 ctd32 : Value}
    {fd33 : Addr} {odd33 and33 : Option Addr} {sld33 : Array (Option Value)} {ocd33 kVd33 dcd33 pmd33 cdd33 ctd33 : Value}
    {fd34 : Addr} {odd34 and34 : Option Addr} {sld34 : Array (Option Value)} {ocd34 kVd34 dcd34 pmd34 cdd34 ctd34 : Value}
    {fd35 : Addr} {odd35 and35 : Option Addr} {sld35 : Array (Option Value)} {ocd35 kVd35 dcd35 pmd35 cdd35 ctd35 : Value}
    {fd36 : Addr} {odd36 and36 : Option Addr} {sld36 : Array (Option Value)} {ocd36 kVd36 dcd36 pmd36 cdd36 ctd36 : Value}
    {fd37 : Addr} {odd37 and37 : Option Addr} {sld37 : Array (Option Value)} {ocd37 kVd37 dcd37 pmd37 cdd37 ctd37 : Value}
    {fd38 : Addr} {odd38 and38 : Option Addr} {sld38 : Array (Option Value)} {ocd38 kVd38 dcd38 pmd38 cdd38 ctd38 : Value}
    {fd39 : Addr} {odd39 and39 : Option Addr} {sld39 : Array (Option Value)} {ocd39 kVd39 dcd39 pmd39 cdd39 ctd39 : Value}
    {fd40 : Addr} {odd40 and40 : Option Addr} {sld40 : Array (Option Value)} {ocd40 kVd40 dcd40 pmd40 cdd40 ctd40 : Value}
    {fd41 : Addr} {odd41 and41 : Option Addr} {sld41 : Array (Option Value)} {ocd41 kVd41 dcd41 pmd41 cdd41 ctd41 : Value}
    {fd42 : Addr} {odd42 and42 : Option Addr} {sld42 : Array (Option Value)} {ocd42 kVd42 dcd42 pmd42 cdd42 ctd42 : Value}
    {fd43 : Addr} {odd43 and43 : Option Addr} {sld43 : Array (Option Value)} {ocd43 kVd43 dcd43 pmd43 cdd43 ctd43 : Value}
    {fd44 : Addr} {odd44 and44 : Option Addr} {sld44 : Array (Option Value)} {ocd44 kVd44 dcd44 pmd44 cdd44 ctd44 : Value}
    {fd45 : Addr} {odd45 and45 : Option Addr} {sld45 : Array (Option Value)} {ocd45 kVd45 dcd45 pmd45 cdd45 ctd45 : Value}
    {fd46 : Addr} {odd46 and46 : Option Addr} {sld46 : Array (Option Value)} {ocd46 kVd46 dcd46 pmd46 cdd46 ctd46 : Value}
    {fd47 : Addr} {odd47 and47 : Option Addr} {sld47 : Array (Option Value)} {ocd47 kVd47 dcd47 pmd47 cdd47 ctd47 : Value}
    {fd48 : Addr} {odd48 and48 : Option Addr} {sld48 : Array (Option Value)} {ocd48 kVd48 dcd48 pmd48 cdd48 ctd48 : Value}
    {fm0 : Addr} {odm0 anm0 : Option Addr} {slm0 : Array (Option Value)} {ocm0 kVm0 dcm0 pmm0 cdm0 ctm0 : Value}
    {fm1 : Addr} {odm1 anm1 : Option Addr} {slm1 : Array (Option Value)} {ocm1 kVm1 dcm1 pmm1 cdm1 ctm1 : Value}
    {fm2 : Addr} {odm2 anm2 : Option Addr} {slm2 : Array (Option Value)} {ocm2 kVm2 dcm2 pmm2 cdm2 ctm2 : Value}
    {fm3 : Addr} {odm3 anm3 : Option Addr} {slm3 : Array (Option Value)} {ocm3 kVm3 dcm3 pmm3 cdm3 ctm3 : Value}
    {tGW tGA tGD tGL : Tok}
    {aK nnK : Nat} {ddK : Option Addr} {ssK : Array (Option Value)} {tK0 tK1 tK2 tK3 tK4 tK5 tK6 tK7 : Tok}
    {aW nnW : Nat} {ddW : Option Addr} {ssW : Array (Option Value)} {tW0 tW1 : Tok}
    {aF nnF : Nat} {ddF : Option Addr} {ssF : Array (Option Value)} {tF0 tF1 : Tok}
    {aR nnR : Nat} {esR : Array DictEntry}
    (aC : PySem.W.nsIn K mainGlobals "Net" = some (some (.ref C)))
    (ad0 : PySem.W.nsIn K mainGlobals "is_whole" = some (some (.ref fd0)))
    (ld0 : K.lookup fd0 = some ⟨ocd0, odd0, .func (PySem.W.fnOf "is_whole" "is_whole" (defArgs sWhole) (defBody sWhole) (defScope sWhole) .none kVd0 dcd0 pmd0 and0 cdd0 ctd0), sld0⟩)
    (cd0 : PySem.W.codeIn K cdd0 "is_whole" = true)
    (kd0 : PySem.W.keepIn K (.ref fd0) = true)
    (ad1 : PySem.W.nsIn K mainGlobals "is_whole_from_to" = some (some (.ref fd1)))
    (ld1 : K.lookup fd1 = some ⟨ocd1, odd1, .func (PySem.W.fnOf "is_whole_from_to" "is_whole_from_to" (defArgs sFromTo) (defBody sFromTo) (defScope sFromTo) .none kVd1 dcd1 pmd1 and1 cdd1 ctd1), sld1⟩)
    (cd1 : PySem.W.codeIn K cdd1 "is_whole_from_to" = true)
    (kd1 : PySem.W.keepIn K (.ref fd1) = true)
    (ad2 : PySem.W.nsIn K mainGlobals "is_worth" = some (some (.ref fd2)))
    (ld2 : K.lookup fd2 = some ⟨ocd2, odd2, .func (PySem.W.fnOf "is_worth" "is_worth" (defArgs sWorth) (defBody sWorth) (defScope sWorth) .none kVd2 dcd2 pmd2 and2 cdd2 ctd2), sld2⟩)
    (cd2 : PySem.W.codeIn K cdd2 "is_worth" = true)
    (kd2 : PySem.W.keepIn K (.ref fd2) = true)
    (ad3 : PySem.W.nsIn K mainGlobals "is_gate" = some (some (.ref fd3)))
    (ld3 : K.lookup fd3 = some ⟨ocd3, odd3, .func (PySem.W.fnOf "is_gate" "is_gate" (defArgs sIsGate) (defBody sIsGate) (defScope sIsGate) .none kVd3 dcd3 pmd3 and3 cdd3 ctd3), sld3⟩)
    (cd3 : PySem.W.codeIn K cdd3 "is_gate" = true)
    (kd3 : PySem.W.keepIn K (.ref fd3) = true)
    (ad4 : PySem.W.nsIn K mainGlobals "check_gates" = some (some (.ref fd4)))
    (ld4 : K.lookup fd4 = some ⟨ocd4, odd4, .func (PySem.W.fnOf "check_gates" "check_gates" (defArgs sChkGates) (defBody sChkGates) (defScope sChkGates) .none kVd4 dcd4 pmd4 and4 cdd4 ctd4), sld4⟩)
    (cd4 : PySem.W.codeIn K cdd4 "check_gates" = true)
    (kd4 : PySem.W.keepIn K (.ref fd4) = true)
    (ad5 : PySem.W.nsIn K mainGlobals "is_wire" = some (some (.ref fd5)))
    (ld5 : K.lookup fd5 = some ⟨ocd5, odd5, .func (PySem.W.fnOf "is_wire" "is_wire" (defArgs sIsWire) (defBody sIsWire) (defScope sIsWire) .none kVd5 dcd5 pmd5 and5 cdd5 ctd5), sld5⟩)
    (cd5 : PySem.W.codeIn K cdd5 "is_wire" = true)
    (kd5 : PySem.W.keepIn K (.ref fd5) = true)
    (ad6 : PySem.W.nsIn K mainGlobals "is_taken" = some (some (.ref fd6)))
    (ld6 : K.lookup fd6 = some ⟨ocd6, odd6, .func (PySem.W.fnOf "is_taken" "is_taken" (defArgs sTaken) (defBody sTaken) (defScope sTaken) .none kVd6 dcd6 pmd6 and6 cdd6 ctd6), sld6⟩)
    (cd6 : PySem.W.codeIn K cdd6 "is_taken" = true)
    (kd6 : PySem.W.keepIn K (.ref fd6) = true)
    (ad7 : PySem.W.nsIn K mainGlobals "check_wires" = some (some (.ref fd7)))
    (ld7 : K.lookup fd7 = some ⟨ocd7, odd7, .func (PySem.W.fnOf "check_wires" "check_wires" (defArgs sChkWires) (defBody sChkWires) (defScope sChkWires) .none kVd7 dcd7 pmd7 and7 cdd7 ctd7), sld7⟩)
    (cd7 : PySem.W.codeIn K cdd7 "check_wires" = true)
    (kd7 : PySem.W.keepIn K (.ref fd7) = true)
    (ad8 : PySem.W.nsIn K mainGlobals "order_along" = some (some (.ref fd8)))
    (ld8 : K.lookup fd8 = some ⟨ocd8, odd8, .func (PySem.W.fnOf "order_along" "order_along" (defArgs sAlong) (defBody sAlong) (defScope sAlong) .none kVd8 dcd8 pmd8 and8 cdd8 ctd8), sld8⟩)
    (cd8 : PySem.W.codeIn K cdd8 "order_along" = true)
    (kd8 : PySem.W.keepIn K (.ref fd8) = true)
    (ad9 : PySem.W.nsIn K mainGlobals "bare_order" = some (some (.ref fd9)))
    (ld9 : K.lookup fd9 = some ⟨ocd9, odd9, .func (PySem.W.fnOf "bare_order" "bare_order" (defArgs sOrder) (defBody sOrder) (defScope sOrder) .none kVd9 dcd9 pmd9 and9 cdd9 ctd9), sld9⟩)
    (cd9 : PySem.W.codeIn K cdd9 "bare_order" = true)
    (kd9 : PySem.W.keepIn K (.ref fd9) = true)
    (ad10 : PySem.W.nsIn K mainGlobals "check_rings" = some (some (.ref fd10)))
    (ld10 : K.lookup fd10 = some ⟨ocd10, odd10, .func (PySem.W.fnOf "check_rings" "check_rings" (defArgs sChkRings) (defBody sChkRings) (defScope sChkRings) .none kVd10 dcd10 pmd10 and10 cdd10 ctd10), sld10⟩)
    (cd10 : PySem.W.codeIn K cdd10 "check_rings" = true)
    (kd10 : PySem.W.keepIn K (.ref fd10) = true)
    (ad11 : PySem.W.nsIn K mainGlobals "places_of" = some (some (.ref fd11)))
    (ld11 : K.lookup fd11 = some ⟨ocd11, odd11, .func (PySem.W.fnOf "places_of" "places_of" (defArgs sPlaces) (defBody sPlaces) (defScope sPlaces) .none kVd11 dcd11 pmd11 and11 cdd11 ctd11), sld11⟩)
    (cd11 : PySem.W.codeIn K cdd11 "places_of" = true)
    (kd11 : PySem.W.keepIn K (.ref fd11) = true)
    (ad12 : PySem.W.nsIn K mainGlobals "sum_of" = some (some (.ref fd12)))
    (ld12 : K.lookup fd12 = some ⟨ocd12, odd12, .func (PySem.W.fnOf "sum_of" "sum_of" (defArgs sSumOf) (defBody sSumOf) (defScope sSumOf) .none kVd12 dcd12 pmd12 and12 cdd12 ctd12), sld12⟩)
    (cd12 : PySem.W.codeIn K cdd12 "sum_of" = true)
    (kd12 : PySem.W.keepIn K (.ref fd12) = true)
    (ad13 : PySem.W.nsIn K mainGlobals "product_of" = some (some (.ref fd13)))
    (ld13 : K.lookup fd13 = some ⟨ocd13, odd13, .func (PySem.W.fnOf "product_of" "product_of" (defArgs sProdOf) (defBody sProdOf) (defScope sProdOf) .none kVd13 dcd13 pmd13 and13 cdd13 ctd13), sld13⟩)
    (cd13 : PySem.W.codeIn K cdd13 "product_of" = true)
    (kd13 : PySem.W.keepIn K (.ref fd13) = true)
    (ad14 : PySem.W.nsIn K mainGlobals "most_of" = some (some (.ref fd14)))
    (ld14 : K.lookup fd14 = some ⟨ocd14, odd14, .func (PySem.W.fnOf "most_of" "most_of" (defArgs sMostOf) (defBody sMostOf) (defScope sMostOf) .none kVd14 dcd14 pmd14 and14 cdd14 ctd14), sld14⟩)
    (cd14 : PySem.W.codeIn K cdd14 "most_of" = true)
    (kd14 : PySem.W.keepIn K (.ref fd14) = true)
    (ad15 : PySem.W.nsIn K mainGlobals "least_of" = some (some (.ref fd15)))
    (ld15 : K.lookup fd15 = some ⟨ocd15, odd15, .func (PySem.W.fnOf "least_of" "least_of" (defArgs sLeastOf) (defBody sLeastOf) (defScope sLeastOf) .none kVd15 dcd15 pmd15 and15 cdd15 ctd15), sld15⟩)
    (cd15 : PySem.W.codeIn K cdd15 "least_of" = true)
    (kd15 : PySem.W.keepIn K (.ref fd15) = true)
    (ad16 : PySem.W.nsIn K mainGlobals "first_of" = some (some (.ref fd16)))
    (ld16 : K.lookup fd16 = some ⟨ocd16, odd16, .func (PySem.W.fnOf "first_of" "first_of" (defArgs sFirstOf) (defBody sFirstOf) (defScope sFirstOf) .none kVd16 dcd16 pmd16 and16 cdd16 ctd16), sld16⟩)
    (cd16 : PySem.W.codeIn K cdd16 "first_of" = true)
    (kd16 : PySem.W.keepIn K (.ref fd16) = true)
    (ad17 : PySem.W.nsIn K mainGlobals "one_of" = some (some (.ref fd17)))
    (ld17 : K.lookup fd17 = some ⟨ocd17, odd17, .func (PySem.W.fnOf "one_of" "one_of" (defArgs sOneOf) (defBody sOneOf) (defScope sOneOf) .none kVd17 dcd17 pmd17 and17 cdd17 ctd17), sld17⟩)
    (cd17 : PySem.W.codeIn K cdd17 "one_of" = true)
    (kd17 : PySem.W.keepIn K (.ref fd17) = true)
    (ad18 : PySem.W.nsIn K mainGlobals "wire_worth" = some (some (.ref fd18)))
    (ld18 : K.lookup fd18 = some ⟨ocd18, odd18, .func (PySem.W.fnOf "wire_worth" "wire_worth" (defArgs sWireWorth) (defBody sWireWorth) (defScope sWireWorth) .none kVd18 dcd18 pmd18 and18 cdd18 ctd18), sld18⟩)
    (cd18 : PySem.W.codeIn K cdd18 "wire_worth" = true)
    (kd18 : PySem.W.keepIn K (.ref fd18) = true)
    (ad19 : PySem.W.nsIn K mainGlobals "coming_to" = some (some (.ref fd19)))
    (ld19 : K.lookup fd19 = some ⟨ocd19, odd19, .func (PySem.W.fnOf "coming_to" "coming_to" (defArgs sComing) (defBody sComing) (defScope sComing) .none kVd19 dcd19 pmd19 and19 cdd19 ctd19), sld19⟩)
    (cd19 : PySem.W.codeIn K cdd19 "coming_to" = true)
    (kd19 : PySem.W.keepIn K (.ref fd19) = true)
    (ad20 : PySem.W.nsIn K mainGlobals "check_row" = some (some (.ref fd20)))
    (ld20 : K.lookup fd20 = some ⟨ocd20, odd20, .func (PySem.W.fnOf "check_row" "check_row" (defArgs sChkRow) (defBody sChkRow) (defScope sChkRow) .none kVd20 dcd20 pmd20 and20 cdd20 ctd20), sld20⟩)
    (cd20 : PySem.W.codeIn K cdd20 "check_row" = true)
    (kd20 : PySem.W.keepIn K (.ref fd20) = true)
    (ad21 : PySem.W.nsIn K mainGlobals "worths" = some (some (.ref fd21)))
    (ld21 : K.lookup fd21 = some ⟨ocd21, odd21, .func (PySem.W.fnOf "worths" "worths" (defArgs sWorths) (defBody sWorths) (defScope sWorths) .none kVd21 dcd21 pmd21 and21 cdd21 ctd21), sld21⟩)
    (cd21 : PySem.W.codeIn K cdd21 "worths" = true)
    (kd21 : PySem.W.keepIn K (.ref fd21) = true)
    (ad22 : PySem.W.nsIn K mainGlobals "wire_behind" = some (some (.ref fd22)))
    (ld22 : K.lookup fd22 = some ⟨ocd22, odd22, .func (PySem.W.fnOf "wire_behind" "wire_behind" (defArgs sBehind) (defBody sBehind) (defScope sBehind) .none kVd22 dcd22 pmd22 and22 cdd22 ctd22), sld22⟩)
    (cd22 : PySem.W.codeIn K cdd22 "wire_behind" = true)
    (kd22 : PySem.W.keepIn K (.ref fd22) = true)
    (ad23 : PySem.W.nsIn K mainGlobals "net_behind" = some (some (.ref fd23)))
    (ld23 : K.lookup fd23 = some ⟨ocd23, odd23, .func (PySem.W.fnOf "net_behind" "net_behind" (defArgs sNetBehind) (defBody sNetBehind) (defScope sNetBehind) .none kVd23 dcd23 pmd23 and23 cdd23 ctd23), sld23⟩)
    (cd23 : PySem.W.codeIn K cdd23 "net_behind" = true)
    (kd23 : PySem.W.keepIn K (.ref fd23) = true)
    (ad24 : PySem.W.nsIn K mainGlobals "beat" = some (some (.ref fd24)))
    (ld24 : K.lookup fd24 = some ⟨ocd24, odd24, .func (PySem.W.fnOf "beat" "beat" (defArgs sBeat) (defBody sBeat) (defScope sBeat) .none kVd24 dcd24 pmd24 and24 cdd24 ctd24), sld24⟩)
    (cd24 : PySem.W.codeIn K cdd24 "beat" = true)
    (kd24 : PySem.W.keepIn K (.ref fd24) = true)
    (ad25 : PySem.W.nsIn K mainGlobals "run" = some (some (.ref fd25)))
    (ld25 : K.lookup fd25 = some ⟨ocd25, odd25, .func (PySem.W.fnOf "run" "run" (defArgs sRun) (defBody sRun) (defScope sRun) .none kVd25 dcd25 pmd25 and25 cdd25 ctd25), sld25⟩)
    (cd25 : PySem.W.codeIn K cdd25 "run" = true)
    (kd25 : PySem.W.keepIn K (.ref fd25) = true)
    (ad26 : PySem.W.nsIn K mainGlobals "is_outer" = some (some (.ref fd26)))
    (ld26 : K.lookup fd26 = some ⟨ocd26, odd26, .func (PySem.W.fnOf "is_outer" "is_outer" (defArgs sOuter) (defBody sOuter) (defScope sOuter) .none kVd26 dcd26 pmd26 and26 cdd26 ctd26), sld26⟩)
    (cd26 : PySem.W.codeIn K cdd26 "is_outer" = true)
    (kd26 : PySem.W.keepIn K (.ref fd26) = true)
    (ad27 : PySem.W.nsIn K mainGlobals "check_lags" = some (some (.ref fd27)))
    (ld27 : K.lookup fd27 = some ⟨ocd27, odd27, .func (PySem.W.fnOf "check_lags" "check_lags" (defArgs sChkLags) (defBody sChkLags) (defScope sChkLags) .none kVd27 dcd27 pmd27 and27 cdd27 ctd27), sld27⟩)
    (cd27 : PySem.W.codeIn K cdd27 "check_lags" = true)
    (kd27 : PySem.W.keepIn K (.ref fd27) = true)
    (ad28 : PySem.W.nsIn K mainGlobals "counts_by" = some (some (.ref fd28)))
    (ld28 : K.lookup fd28 = some ⟨ocd28, odd28, .func (PySem.W.fnOf "counts_by" "counts_by" (defArgs sCountsBy) (defBody sCountsBy) (defScope sCountsBy) .none kVd28 dcd28 pmd28 and28 cdd28 ctd28), sld28⟩)
    (cd28 : PySem.W.codeIn K cdd28 "counts_by" = true)
    (kd28 : PySem.W.keepIn K (.ref fd28) = true)
    (ad29 : PySem.W.nsIn K mainGlobals "counts" = some (some (.ref fd29)))
    (ld29 : K.lookup fd29 = some ⟨ocd29, odd29, .func (PySem.W.fnOf "counts" "counts" (defArgs sCounts) (defBody sCounts) (defScope sCounts) .none kVd29 dcd29 pmd29 and29 cdd29 ctd29), sld29⟩)
    (cd29 : PySem.W.codeIn K cdd29 "counts" = true)
    (kd29 : PySem.W.keepIn K (.ref fd29) = true)
    (ad30 : PySem.W.nsIn K mainGlobals "let_counts" = some (some (.ref fd30)))
    (ld30 : K.lookup fd30 = some ⟨ocd30, odd30, .func (PySem.W.fnOf "let_counts" "let_counts" (defArgs sLetCounts) (defBody sLetCounts) (defScope sLetCounts) .none kVd30 dcd30 pmd30 and30 cdd30 ctd30), sld30⟩)
    (cd30 : PySem.W.codeIn K cdd30 "let_counts" = true)
    (kd30 : PySem.W.keepIn K (.ref fd30) = true)
    (ad31 : PySem.W.nsIn K mainGlobals "worths_with_more" = some (some (.ref fd31)))
    (ld31 : K.lookup fd31 = some ⟨ocd31, odd31, .func (PySem.W.fnOf "worths_with_more" "worths_with_more" (defArgs sMore) (defBody sMore) (defScope sMore) .none kVd31 dcd31 pmd31 and31 cdd31 ctd31), sld31⟩)
    (cd31 : PySem.W.codeIn K cdd31 "worths_with_more" = true)
    (kd31 : PySem.W.keepIn K (.ref fd31) = true)
    (ad32 : PySem.W.nsIn K mainGlobals "moved" = some (some (.ref fd32)))
    (ld32 : K.lookup fd32 = some ⟨ocd32, odd32, .func (PySem.W.fnOf "moved" "moved" (defArgs sMoved) (defBody sMoved) (defScope sMoved) .none kVd32 dcd32 pmd32 and32 cdd32 ctd32), sld32⟩)
    (cd32 : PySem.W.codeIn K cdd32 "moved" = true)
    (kd32 : PySem.W.keepIn K (.ref fd32) = true)
    (ad33 : PySem.W.nsIn K mainGlobals "_law_cell_at" = some (some (.ref fd33)))
    (ld33 : K.lookup fd33 = some ⟨ocd33, odd33, .func (PySem.W.fnOf "_law_cell_at" "_law_cell_at" (defArgs sCellAt) (defBody sCellAt) (defScope sCellAt) .none kVd33 dcd33 pmd33 and33 cdd33 ctd33), sld33⟩)
    (cd33 : PySem.W.codeIn K cdd33 "_law_cell_at" = true)
    (kd33 : PySem.W.keepIn K (.ref fd33) = true)
    (ad34 : PySem.W.nsIn K mainGlobals "_law_digit" = some (some (.ref fd34)))
    (ld34 : K.lookup fd34 = some ⟨ocd34, odd34, .func (PySem.W.fnOf "_law_digit" "_law_digit" (defArgs sDigit) (defBody sDigit) (defScope sDigit) .none kVd34 dcd34 pmd34 and34 cdd34 ctd34), sld34⟩)
    (cd34 : PySem.W.codeIn K cdd34 "_law_digit" = true)
    (kd34 : PySem.W.keepIn K (.ref fd34) = true)
    (ad35 : PySem.W.nsIn K mainGlobals "_law_of" = some (some (.ref fd35)))
    (ld35 : K.lookup fd35 = some ⟨ocd35, odd35, .func (PySem.W.fnOf "_law_of" "_law_of" (defArgs sOf) (defBody sOf) (defScope sOf) .none kVd35 dcd35 pmd35 and35 cdd35 ctd35), sld35⟩)
    (cd35 : PySem.W.codeIn K cdd35 "_law_of" = true)
    (kd35 : PySem.W.keepIn K (.ref fd35) = true)
    (ad36 : PySem.W.nsIn K mainGlobals "_law_gates" = some (some (.ref fd36)))
    (ld36 : K.lookup fd36 = some ⟨ocd36, odd36, .func (PySem.W.fnOf "_law_gates" "_law_gates" (defArgs sGGates) (defBody sGGates) (defScope sGGates) .none kVd36 dcd36 pmd36 and36 cdd36 ctd36), sld36⟩)
    (cd36 : PySem.W.codeIn K cdd36 "_law_gates" = true)
    (kd36 : PySem.W.keepIn K (.ref fd36) = true)
    (ad37 : PySem.W.nsIn K mainGlobals "_law_ends" = some (some (.ref fd37)))
    (ld37 : K.lookup fd37 = some ⟨ocd37, odd37, .func (PySem.W.fnOf "_law_ends" "_law_ends" (defArgs sEnds) (defBody sEnds) (defScope sEnds) .none kVd37 dcd37 pmd37 and37 cdd37 ctd37), sld37⟩)
    (cd37 : PySem.W.codeIn K cdd37 "_law_ends" = true)
    (kd37 : PySem.W.keepIn K (.ref fd37) = true)
    (ad38 : PySem.W.nsIn K mainGlobals "_law_tuple" = some (some (.ref fd38)))
    (ld38 : K.lookup fd38 = some ⟨ocd38, odd38, .func (PySem.W.fnOf "_law_tuple" "_law_tuple" (defArgs sTuple) (defBody sTuple) (defScope sTuple) .none kVd38 dcd38 pmd38 and38 cdd38 ctd38), sld38⟩)
    (cd38 : PySem.W.codeIn K cdd38 "_law_tuple" = true)
    (kd38 : PySem.W.keepIn K (.ref fd38) = true)
    (ad39 : PySem.W.nsIn K mainGlobals "_law_net" = some (some (.ref fd39)))
    (ld39 : K.lookup fd39 = some ⟨ocd39, odd39, .func (PySem.W.fnOf "_law_net" "_law_net" (defArgs sGNet) (defBody sGNet) (defScope sGNet) .none kVd39 dcd39 pmd39 and39 cdd39 ctd39), sld39⟩)
    (cd39 : PySem.W.codeIn K cdd39 "_law_net" = true)
    (kd39 : PySem.W.keepIn K (.ref fd39) = true)
    (ad40 : PySem.W.nsIn K mainGlobals "_law_rows" = some (some (.ref fd40)))
    (ld40 : K.lookup fd40 = some ⟨ocd40, odd40, .func (PySem.W.fnOf "_law_rows" "_law_rows" (defArgs sGRows) (defBody sGRows) (defScope sGRows) .none kVd40 dcd40 pmd40 and40 cdd40 ctd40), sld40⟩)
    (cd40 : PySem.W.codeIn K cdd40 "_law_rows" = true)
    (kd40 : PySem.W.keepIn K (.ref fd40) = true)
    (ad41 : PySem.W.nsIn K mainGlobals "_law_counts" = some (some (.ref fd41)))
    (ld41 : K.lookup fd41 = some ⟨ocd41, odd41, .func (PySem.W.fnOf "_law_counts" "_law_counts" (defArgs sGCounts) (defBody sGCounts) (defScope sGCounts) .none kVd41 dcd41 pmd41 and41 cdd41 ctd41), sld41⟩)
    (cd41 : PySem.W.codeIn K cdd41 "_law_counts" = true)
    (kd41 : PySem.W.keepIn K (.ref fd41) = true)
    (ad42 : PySem.W.nsIn K mainGlobals "_law_shift" = some (some (.ref fd42)))
    (ld42 : K.lookup fd42 = some ⟨ocd42, odd42, .func (PySem.W.fnOf "_law_shift" "_law_shift" (defArgs sShift) (defBody sShift) (defScope sShift) .none kVd42 dcd42 pmd42 and42 cdd42 ctd42), sld42⟩)
    (cd42 : PySem.W.codeIn K cdd42 "_law_shift" = true)
    (kd42 : PySem.W.keepIn K (.ref fd42) = true)
    (ad43 : PySem.W.nsIn K mainGlobals "_law_odd_shift" = some (some (.ref fd43)))
    (ld43 : K.lookup fd43 = some ⟨ocd43, odd43, .func (PySem.W.fnOf "_law_odd_shift" "_law_odd_shift" (defArgs sOddShift) (defBody sOddShift) (defScope sOddShift) .none kVd43 dcd43 pmd43 and43 cdd43 ctd43), sld43⟩)
    (cd43 : PySem.W.codeIn K cdd43 "_law_odd_shift" = true)
    (kd43 : PySem.W.keepIn K (.ref fd43) = true)
    (ad44 : PySem.W.nsIn K mainGlobals "_law_tight_shift" = some (some (.ref fd44)))
    (ld44 : K.lookup fd44 = some ⟨ocd44, odd44, .func (PySem.W.fnOf "_law_tight_shift" "_law_tight_shift" (defArgs sTight) (defBody sTight) (defScope sTight) .none kVd44 dcd44 pmd44 and44 cdd44 ctd44), sld44⟩)
    (cd44 : PySem.W.codeIn K cdd44 "_law_tight_shift" = true)
    (kd44 : PySem.W.keepIn K (.ref fd44) = true)
    (ad45 : PySem.W.nsIn K mainGlobals "_law_odd_rows" = some (some (.ref fd45)))
    (ld45 : K.lookup fd45 = some ⟨ocd45, odd45, .func (PySem.W.fnOf "_law_odd_rows" "_law_odd_rows" (defArgs sOddRows) (defBody sOddRows) (defScope sOddRows) .none kVd45 dcd45 pmd45 and45 cdd45 ctd45), sld45⟩)
    (cd45 : PySem.W.codeIn K cdd45 "_law_odd_rows" = true)
    (kd45 : PySem.W.keepIn K (.ref fd45) = true)
    (ad46 : PySem.W.nsIn K mainGlobals "_law_word" = some (some (.ref fd46)))
    (ld46 : K.lookup fd46 = some ⟨ocd46, odd46, .func (PySem.W.fnOf "_law_word" "_law_word" (defArgs sWord) (defBody sWord) (defScope sWord) .none kVd46 dcd46 pmd46 and46 cdd46 ctd46), sld46⟩)
    (cd46 : PySem.W.codeIn K cdd46 "_law_word" = true)
    (kd46 : PySem.W.keepIn K (.ref fd46) = true)
    (ad47 : PySem.W.nsIn K mainGlobals "_law_due" = some (some (.ref fd47)))
    (ld47 : K.lookup fd47 = some ⟨ocd47, odd47, .func (PySem.W.fnOf "_law_due" "_law_due" (defArgs sDue) (defBody sDue) (defScope sDue) .none kVd47 dcd47 pmd47 and47 cdd47 ctd47), sld47⟩)
    (cd47 : PySem.W.codeIn K cdd47 "_law_due" = true)
    (kd47 : PySem.W.keepIn K (.ref fd47) = true)
    (ad48 : PySem.W.nsIn K mainGlobals "law" = some (some (.ref fd48)))
    (ld48 : K.lookup fd48 = some ⟨ocd48, odd48, .func (PySem.W.fnOf "law" "law" (defArgs sLaw) (defBody sLaw) (defScope sLaw) .none kVd48 dcd48 pmd48 and48 cdd48 ctd48), sld48⟩)
    (cd48 : PySem.W.codeIn K cdd48 "law" = true)
    (kd48 : PySem.W.keepIn K (.ref fd48) = true)
    (am0 : PySem.W.findIn K (.ref C) "__init__" = some (some (.ref fm0)))
    (im0 : PySem.W.isFn K (.ref fm0) = true)
    (lm0 : K.lookup fm0 = some ⟨ocm0, odm0, .func (PySem.W.fnOf "__init__" "Net.__init__" (defArgs sInit) (defBody sInit) (defScope sInit) .none kVm0 dcm0 pmm0 anm0 cdm0 ctm0), slm0⟩)
    (cm0 : PySem.W.codeIn K cdm0 "Net.__init__" = true)
    (km0 : PySem.W.keepIn K (.ref fm0) = true)
    (am1 : PySem.W.findIn K (.ref C) "ins" = some (some (.ref fm1)))
    (im1 : PySem.W.isFn K (.ref fm1) = true)
    (lm1 : K.lookup fm1 = some ⟨ocm1, odm1, .func (PySem.W.fnOf "ins" "Net.ins" (defArgs sIns) (defBody sIns) (defScope sIns) .none kVm1 dcm1 pmm1 anm1 cdm1 ctm1), slm1⟩)
    (cm1 : PySem.W.codeIn K cdm1 "Net.ins" = true)
    (km1 : PySem.W.keepIn K (.ref fm1) = true)
    (am2 : PySem.W.findIn K (.ref C) "outs" = some (some (.ref fm2)))
    (im2 : PySem.W.isFn K (.ref fm2) = true)
    (lm2 : K.lookup fm2 = some ⟨ocm2, odm2, .func (PySem.W.fnOf "outs" "Net.outs" (defArgs sOuts) (defBody sOuts) (defScope sOuts) .none kVm2 dcm2 pmm2 anm2 cdm2 ctm2), slm2⟩)
    (cm2 : PySem.W.codeIn K cdm2 "Net.outs" = true)
    (km2 : PySem.W.keepIn K (.ref fm2) = true)
    (am3 : PySem.W.findIn K (.ref C) "__eq__" = some (some (.ref fm3)))
    (im3 : PySem.W.isFn K (.ref fm3) = true)
    (lm3 : K.lookup fm3 = some ⟨ocm3, odm3, .func (PySem.W.fnOf "__eq__" "Net.__eq__" (defArgs sEq) (defBody sEq) (defScope sEq) .none kVm3 dcm3 pmm3 anm3 cdm3 ctm3), slm3⟩)
    (cm3 : PySem.W.codeIn K cdm3 "Net.__eq__" = true)
    (km3 : PySem.W.keepIn K (.ref fm3) = true)
    (pgC : PySem.W.plainGet K C Str.empty = true)
    (hdC : PySem.W.hasDictIn K C = true)
    (poC : PySem.W.plainOver K C = true)
    (saC : PySem.W.findIn K (.ref C) "__setattr__" = some (some (.builtin "object.__setattr__")))
    (mkC : PySem.W.makesIn K C = true)
    (kcC : PySem.W.keepIn K (.ref C) = true)
    (nG : PySem.W.findIn K (.ref C) "gates" = some none)
    (nW : PySem.W.findIn K (.ref C) "wires" = some none)
    (ha : PySem.W.findIn K (.ref C) "__class__" = some (some (.builtin "object.__class__")))
    (hn : PySem.W.specialIn K (.builtin "object.__class__") "__get__" = some (some (.builtin "getset_descriptor.__get__")))
    (htk : PySem.W.takesIn K (.builtin "object.__class__") = some true)
    (hmo : PySem.W.mroIn K C (.type "object") = some true)
    (sN : PySem.W.findIn K (.ref C) "__ne__" = some (some (.builtin "object.__ne__")))
    (aL0 : PySem.W.nsIn K mainGlobals "LagError" = some (some (.ref C0)))
    (gL : PySem.W.specialIn K (.ref C0) "__getattribute__" = some (some (.builtin "type.__getattribute__")))
    (rL : PySem.W.readsIn K C0 (.type "type") = true)
    (vL : PySem.W.findCls K (.ref C0) (.type "type") "__init__" = some (.val (.builtin "ValueError.__init__")))
    (eC0 : PySem.W.subIn K (.ref C0) (.type "BaseException") = some true)
    (iC0 : PySem.W.isClsIn K C0 = true)
    (tC0 : PySem.W.typeIn K (.ref C0) = some (.type "type"))
    (aNL : PySem.W.nsIn K mainGlobals "NoLags" = some (some (.ref CL)))
    (qNL : PySem.W.excIn K CL [.type "ValueError", .type "Exception", .type "BaseException", .type "object"] "ValueError.__new__" = true)
    (kkNL : PySem.W.keepIn K (.ref CL) = true)
    (eNL : PySem.W.subIn K (.ref CL) (.type "BaseException") = some true)
    (ttNL : PySem.W.typeIn K (.ref CL) = some (.type "type"))
    (ciNL : PySem.W.isClsIn K CL = true)
    (sNL : PySem.W.subIn K (.ref CL) (.ref CL) = some true)
    (aNR : PySem.W.nsIn K mainGlobals "NoRow" = some (some (.ref CR)))
    (qNR : PySem.W.excIn K CR [.type "ValueError", .type "Exception", .type "BaseException", .type "object"] "ValueError.__new__" = true)
    (kkNR : PySem.W.keepIn K (.ref CR) = true)
    (eNR : PySem.W.subIn K (.ref CR) (.type "BaseException") = some true)
    (ttNR : PySem.W.typeIn K (.ref CR) = some (.type "type"))
    (ciNR : PySem.W.isClsIn K CR = true)
    (sNR : PySem.W.subIn K (.ref CR) (.ref CR) = some true)
    (aNB : PySem.W.nsIn K mainGlobals "NoBeat" = some (some (.ref CB)))
    (aNG : PySem.W.nsIn K mainGlobals "NoGates" = some (some (.ref CG)))
    (aNW : PySem.W.nsIn K mainGlobals "NoWires" = some (some (.ref CW)))
    (ttNB : PySem.W.typeIn K (.ref CB) = some (.type "type"))
    (ciNB : PySem.W.isClsIn K CB = true)
    (ttNG : PySem.W.typeIn K (.ref CG) = some (.type "type"))
    (ciNG : PySem.W.isClsIn K CG = true)
    (ttNW : PySem.W.typeIn K (.ref CW) = some (.type "type"))
    (ciNW : PySem.W.isClsIn K CW = true)
    (aTN : PySem.W.nsIn K mainGlobals "NotLet" = some (some (.ref CN)))
    (xTN : K.lookup CN = some (excClassObj nmTN qTN CN NTTN bsTN [.ref C0, .type "ValueError", .type "Exception", .type "BaseException", .type "object"] true snTN subTN abTN colTN ddTN m0TN m1TN m2TN m3TN m5TN "ValueError.__new__"))
    (saTN : PySem.W.findIn K (.ref CN) "__setattr__" = some (some (.builtin "object.__setattr__")))
    (noTN : PySem.W.findIn K (.ref CN) "wire" = some none)
    (iTN : PySem.W.findIn K (.ref CN) "__init__" = some (some (.ref fN)))
    (ftTN : PySem.W.typeIn K (.ref fN) = some (.type "function"))
    (lTN : K.lookup fN = some ⟨ocTN, odTN, .func (PySem.W.fnOf "__init__" "NotLet.__init__" (defArgs sNLinit) (defBody sNLinit) (defScope sNLinit) .none kVTN dcTN pmTN anTN cdvTN ctTN), slTN⟩)
    (cdTN : PySem.W.codeIn K cdvTN "NotLet.__init__" = true)
    (kfTN : PySem.W.keepIn K (.ref fN) = true)
    (kkTN : PySem.W.keepIn K (.ref CN) = true)
    (eTN : PySem.W.subIn K (.ref CN) (.type "BaseException") = some true)
    (ttTN : PySem.W.typeIn K (.ref CN) = some (.type "type"))
    (ciTN : PySem.W.isClsIn K CN = true)
    (sTN : PySem.W.subIn K (.ref CN) (.ref CN) = some true)
    (aTE : PySem.W.nsIn K mainGlobals "TooEarly" = some (some (.ref CE)))
    (xTE : K.lookup CE = some (excClassObj nmTE qTE CE NTTE bsTE [.ref C0, .type "ValueError", .type "Exception", .type "BaseException", .type "object"] true snTE subTE abTE colTE ddTE m0TE m1TE m2TE m3TE m5TE "ValueError.__new__"))
    (saTE : PySem.W.findIn K (.ref CE) "__setattr__" = some (some (.builtin "object.__setattr__")))
    (noTE : PySem.W.findIn K (.ref CE) "rows" = some none)
    (iTE : PySem.W.findIn K (.ref CE) "__init__" = some (some (.ref fE)))
    (ftTE : PySem.W.typeIn K (.ref fE) = some (.type "function"))
    (lTE : K.lookup fE = some ⟨ocTE, odTE, .func (PySem.W.fnOf "__init__" "TooEarly.__init__" (defArgs sTEinit) (defBody sTEinit) (defScope sTEinit) .none kVTE dcTE pmTE anTE cdvTE ctTE), slTE⟩)
    (cdTE : PySem.W.codeIn K cdvTE "TooEarly.__init__" = true)
    (kfTE : PySem.W.keepIn K (.ref fE) = true)
    (kkTE : PySem.W.keepIn K (.ref CE) = true)
    (eTE : PySem.W.subIn K (.ref CE) (.type "BaseException") = some true)
    (ttTE : PySem.W.typeIn K (.ref CE) = some (.type "type"))
    (ciTE : PySem.W.isClsIn K CE = true)
    (sTE : PySem.W.subIn K (.ref CE) (.ref CE) = some true)
    (xgNL : PySem.W.findIn K (.ref CL) "__getattribute__" = some (some (.builtin "BaseException.__getattribute__")))
    (xkNL : PySem.W.findIn K (.ref CL) "__getattr__" = some none)
    (xdNL : PySem.W.hasDictIn K CL = true)
    (xaNL : PySem.W.findIn K (.ref CL) "__class__" = some (some (.builtin "object.__class__")))
    (xmNL : PySem.W.mroIn K CL (.type "object") = some true)
    (s0NL : PySem.W.subIn K (.ref CL) (.ref C0) = some true)
    (xgNR : PySem.W.findIn K (.ref CR) "__getattribute__" = some (some (.builtin "BaseException.__getattribute__")))
    (xkNR : PySem.W.findIn K (.ref CR) "__getattr__" = some none)
    (xdNR : PySem.W.hasDictIn K CR = true)
    (xaNR : PySem.W.findIn K (.ref CR) "__class__" = some (some (.builtin "object.__class__")))
    (xmNR : PySem.W.mroIn K CR (.type "object") = some true)
    (s0NR : PySem.W.subIn K (.ref CR) (.ref C0) = some true)
    (xgTN : PySem.W.findIn K (.ref CN) "__getattribute__" = some (some (.builtin "BaseException.__getattribute__")))
    (xkTN : PySem.W.findIn K (.ref CN) "__getattr__" = some none)
    (xdTN : PySem.W.hasDictIn K CN = true)
    (xaTN : PySem.W.findIn K (.ref CN) "__class__" = some (some (.builtin "object.__class__")))
    (xmTN : PySem.W.mroIn K CN (.type "object") = some true)
    (s0TN : PySem.W.subIn K (.ref CN) (.ref C0) = some true)
    (xgTE : PySem.W.findIn K (.ref CE) "__getattribute__" = some (some (.builtin "BaseException.__getattribute__")))
    (xkTE : PySem.W.findIn K (.ref CE) "__getattr__" = some none)
    (xdTE : PySem.W.hasDictIn K CE = true)
    (xaTE : PySem.W.findIn K (.ref CE) "__class__" = some (some (.builtin "object.__class__")))
    (xmTE : PySem.W.mroIn K CE (.type "object") = some true)
    (s0TE : PySem.W.subIn K (.ref CE) (.ref C0) = some true)
    (uTNNL : PySem.W.subIn K (.ref CN) (.ref CL) = some false)
    (uTNNR : PySem.W.subIn K (.ref CN) (.ref CR) = some false)
    (uTNTE : PySem.W.subIn K (.ref CN) (.ref CE) = some false)
    (uTNNB : PySem.W.subIn K (.ref CN) (.ref CB) = some false)
    (uTNNG : PySem.W.subIn K (.ref CN) (.ref CG) = some false)
    (uTNNW : PySem.W.subIn K (.ref CN) (.ref CW) = some false)
    (uTETN : PySem.W.subIn K (.ref CE) (.ref CN) = some false)
    (uTENL : PySem.W.subIn K (.ref CE) (.ref CL) = some false)
    (uTENR : PySem.W.subIn K (.ref CE) (.ref CR) = some false)
    (uTENB : PySem.W.subIn K (.ref CE) (.ref CB) = some false)
    (uTENG : PySem.W.subIn K (.ref CE) (.ref CG) = some false)
    (uTENW : PySem.W.subIn K (.ref CE) (.ref CW) = some false)
    (uNLTN : PySem.W.subIn K (.ref CL) (.ref CN) = some false)
    (uNLTE : PySem.W.subIn K (.ref CL) (.ref CE) = some false)
    (uNLNB : PySem.W.subIn K (.ref CL) (.ref CB) = some false)
    (uNLNG : PySem.W.subIn K (.ref CL) (.ref CG) = some false)
    (uNLNW : PySem.W.subIn K (.ref CL) (.ref CW) = some false)
    (uNLNR : PySem.W.subIn K (.ref CL) (.ref CR) = some false)
    (uNRTN : PySem.W.subIn K (.ref CR) (.ref CN) = some false)
    (uNRTE : PySem.W.subIn K (.ref CR) (.ref CE) = some false)
    (uNRNB : PySem.W.subIn K (.ref CR) (.ref CB) = some false)
    (uNRNG : PySem.W.subIn K (.ref CR) (.ref CG) = some false)
    (uNRNW : PySem.W.subIn K (.ref CR) (.ref CW) = some false)
    (uNRNL : PySem.W.subIn K (.ref CR) (.ref CL) = some false)
    (vTN : PySem.W.subIn K (.ref CN) (.type "ValueError") = some true)
    (vTE : PySem.W.subIn K (.ref CE) (.type "ValueError") = some true)
    (zVE : PySem.W.nsIn K mainGlobals "ValueError" = some none)
    (xn : PySem.W.specialIn K (.builtin "object.__class__") "__get__" = some (some (.builtin "getset_descriptor.__get__")))
    (xt : PySem.W.takesIn K (.builtin "object.__class__") = some true)
    (zisi : PySem.W.nsIn K mainGlobals "isinstance" = some none)
    (zint : PySem.W.nsIn K mainGlobals "int" = some none)
    (zbool : PySem.W.nsIn K mainGlobals "bool" = some none)
    (zlen : PySem.W.nsIn K mainGlobals "len" = some none)
    (ztuple : PySem.W.nsIn K mainGlobals "tuple" = some none)
    (zstr : PySem.W.nsIn K mainGlobals "str" = some none)
    (zlist : PySem.W.nsIn K mainGlobals "list" = some none)
    (zall : PySem.W.nsIn K mainGlobals "all" = some none)
    (zenum : PySem.W.nsIn K mainGlobals "enumerate" = some none)
    (zzip : PySem.W.nsIn K mainGlobals "zip" = some none)
    (zrange : PySem.W.nsIn K mainGlobals "range" = some none)
    (zmax : PySem.W.nsIn K mainGlobals "max" = some none)
    (zsum : PySem.W.nsIn K mainGlobals "sum" = some none)
    (zmin : PySem.W.nsIn K mainGlobals "min" = some none)
    (zrepr : PySem.W.nsIn K mainGlobals "repr" = some none)
    (gGW : PySem.W.nsIn K mainGlobals "GREATEST_WORTH" = some (some (.int 96 tGW)))
    (gGA : PySem.W.nsIn K mainGlobals "GREATEST_WAIT" = some (some (.int 100 tGA)))
    (gGD : PySem.W.nsIn K mainGlobals "DIVISOR" = some (some (.int 97 tGD)))
    (gGL : PySem.W.nsIn K mainGlobals "GREATEST_LAG" = some (some (.int 500 tGL)))
    (gK : PySem.W.nsIn K mainGlobals "KINDS" = some (some (.ref aK)))
    (oK : K.lookup aK = some ⟨.type "tuple", ddK, .seq #[.str "in" tK0, .str "out" tK1, .str "sum" tK2, .str "times" tK3, .str "most" tK4, .str "least" tK5, .str "first" tK6, .str "one" tK7] nnK, ssK⟩)
    (gW : PySem.W.nsIn K mainGlobals "OUTER_KINDS" = some (some (.ref aW)))
    (oW : K.lookup aW = some ⟨.type "tuple", ddW, .seq #[.str "in" tW0, .str "out" tW1] nnW, ssW⟩)
    (gF : PySem.W.nsIn K mainGlobals "KINDS_WITH_A_WIRE" = some (some (.ref aF)))
    (oF : K.lookup aF = some ⟨.type "tuple", ddF, .seq #[.str "out" tF0, .str "first" tF1] nnF, ssF⟩)
    (gR : PySem.W.nsIn K mainGlobals "RULES" = some (some (.ref aR)))
    (oR : K.lookup aR = some ⟨.type "dict", none, .dict esR nnR, #[]⟩)
    (lR : PySem.W.KeysLit w.params esR.toList)
    (r0 : PySem.W.nsIn K aR "out" = some (some (.ref fd16)))
    (r1 : PySem.W.nsIn K aR "sum" = some (some (.ref fd12)))
    (r2 : PySem.W.nsIn K aR "times" = some (some (.ref fd13)))
    (r3 : PySem.W.nsIn K aR "most" = some (some (.ref fd14)))
    (r4 : PySem.W.nsIn K aR "least" = some (some (.ref fd15)))
    (r5 : PySem.W.nsIn K aR "first" = some (some (.ref fd16)))
    (r6 : PySem.W.nsIn K aR "one" = some (some (.ref fd17))) :
    ∃ fd : FuncData, (∀ (s : Shared) (v : Value), BindsTo s fd ⟨[v], []⟩ [("_law_script", v)]) ∧ ∀ base : Heap, K.In base → base.Ns mainGlobals mg → FnG l.prog w K mg base CX0 13 fa fd ["_law_script"] (spLaw K) := by
  have e := hfa.symm.trans (PySem.W.mg_of X G ad48)
  cases e
  have Fd0 := fun_mk (st := sWhole) ld0 cd0 kd0
  have Fd1 := fun_mk (st := sFromTo) ld1 cd1 kd1
  have Fd2 := fun_mk (st := sWorth) ld2 cd2 kd2
  have Fd3 := fun_mk (st := sIsGate) ld3 cd3 kd3
  have Fd4 := fun_mk (st := sChkGates) ld4 cd4 kd4
  have Fd5 := fun_mk (st := sIsWire) ld5 cd5 kd5
  have Fd6 := fun_mk (st := sTaken) ld6 cd6 kd6
  have Fd7 := fun_mk (st := sChkWires) ld7 cd7 kd7
  have Fd8 := fun_mk (st := sAlong) ld8 cd8 kd8
  have Fd9 := fun_mk (st := sOrder) ld9 cd9 kd9
  have Fd10 := fun_mk (st := sChkRings) ld10 cd10 kd10
  have Fd11 := fun_mk (st := sPlaces) ld11 cd11 kd11
  have Fd12 := fun_mk (st := sSumOf) ld12 cd12 kd12
  have Fd13 := fun_mk (st := sProdOf) ld13 cd13 kd13
  have Fd14 := fun_mk (st := sMostOf) ld14 cd14 kd14
  have Fd15 := fun_mk (st := sLeastOf) ld15 cd15 kd15
  have Fd16 := fun_mk (st := sFirstOf) ld16 cd16 kd16
  have Fd17 := fun_mk (st := sOneOf) ld17 cd17 kd17
  have Fd18 := fun_mk (st := sWireWorth) ld18 cd18 kd18
  have Fd19 := fun_mk (st := sComing) ld19 cd19 kd19
  have Fd20 := fun_mk (st := sChkRow) ld20 cd20 kd20
  have Fd21 := fun_mk (st := sWorths) ld21 cd21 kd21
  have Fd22 := fun_mk (st := sBehind) ld22 cd22 kd22
  have Fd23 := fun_mk (st := sNetBehind) ld23 cd23 kd23
  have Fd24 := fun_mk (st := sBeat) ld24 cd24 kd24
  have Fd25 := fun_mk (st := sRun) ld25 cd25 kd25
  have Fd26 := fun_mk (st := sOuter) ld26 cd26 kd26
  have Fd27 := fun_mk (st := sChkLags) ld27 cd27 kd27
  have Fd28 := fun_mk (st := sCountsBy) ld28 cd28 kd28
  have Fd29 := fun_mk (st := sCounts) ld29 cd29 kd29
  have Fd30 := fun_mk (st := sLetCounts) ld30 cd30 kd30
  have Fd31 := fun_mk (st := sMore) ld31 cd31 kd31
  have Fd32 := fun_mk (st := sMoved) ld32 cd32 kd32
  have Fd33 := fun_mk (st := sCellAt) ld33 cd33 kd33
  have Fd34 := fun_mk (st := sDigit) ld34 cd34 kd34
  have Fd35 := fun_mk (st := sOf) ld35 cd35 kd35
  have Fd36 := fun_mk (st := sGGates) ld36 cd36 kd36
  have Fd37 := fun_mk (st := sEnds) ld37 cd37 kd37
  have Fd38 := fun_mk (st := sTuple) ld38 cd38 kd38
  have Fd39 := fun_mk (st := sGNet) ld39 cd39 kd39
  have Fd40 := fun_mk (st := sGRows) ld40 cd40 kd40
  have Fd41 := fun_mk (st := sGCounts) ld41 cd41 kd41
  have Fd42 := fun_mk (st := sShift) ld42 cd42 kd42
  have Fd43 := fun_mk (st := sOddShift) ld43 cd43 kd43
  have Fd44 := fun_mk (st := sTight) ld44 cd44 kd44
  have Fd45 := fun_mk (st := sOddRows) ld45 cd45 kd45
  have Fd46 := fun_mk (st := sWord) ld46 cd46 kd46
  have Fd47 := fun_mk (st := sDue) ld47 cd47 kd47
  have Fd48 := fun_mk (st := sLaw) ld48 cd48 kd48
  have Fm0 := fun_mk (st := sInit) lm0 cm0 km0
  have Fm1 := fun_mk (st := sIns) lm1 cm1 km1
  have Fm2 := fun_mk (st := sOuts) lm2 cm2 km2
  have Fm3 := fun_mk (st := sEq) lm3 cm3 km3
  have B : Bt mg := ⟨PySem.W.mg_none_of X G zisi, PySem.W.mg_none_of X G zint, PySem.W.mg_none_of X G zbool, PySem.W.mg_none_of X G zlen, PySem.W.mg_none_of X G ztuple, PySem.W.mg_none_of X G zstr, PySem.W.mg_none_of X G zlist, PySem.W.mg_none_of X G zall, PySem.W.mg_none_of X G zenum, PySem.W.mg_none_of X G zzip, PySem.W.mg_none_of X G zrange, PySem.W.mg_none_of X G zmax⟩
  have b_sum := PySem.W.mg_none_of X G zsum
  have b_min := PySem.W.mg_none_of X G zmin
  have b_repr := PySem.W.mg_none_of X G zrepr
  have Cn : Cns K mg aK aW aF := ⟨⟨_, PySem.W.mg_of X G gGW⟩, ⟨_, PySem.W.mg_of X G gGA⟩, PySem.W.mg_of X G gK, fun _ => .inr ⟨_, _, _, oK, rfl, rfl, (by show 8 ≤ sizeLine; decide), .cons ⟨_, rfl⟩ (.cons ⟨_, rfl⟩ (.cons ⟨_, rfl⟩ (.cons ⟨_, rfl⟩ (.cons ⟨_, rfl⟩ (.cons ⟨_, rfl⟩ (.cons ⟨_, rfl⟩ (.cons ⟨_, rfl⟩ (.nil))))))))⟩, PySem.W.mg_of X G gW, fun _ => .inr ⟨_, _, _, oW, rfl, rfl, (by show 2 ≤ sizeLine; decide), .cons ⟨_, rfl⟩ (.cons ⟨_, rfl⟩ (.nil))⟩, PySem.W.mg_of X G gF, fun _ => .inr ⟨_, _, _, oF, rfl, rfl, (by show 2 ≤ sizeLine; decide), .cons ⟨_, rfl⟩ (.cons ⟨_, rfl⟩ (.nil))⟩⟩
  have i_GD : ∃ t, mg "DIVISOR" = some (.int 97 t) := ⟨_, PySem.W.mg_of X G gGD⟩
  have i_GL : ∃ t, mg "GREATEST_LAG" = some (.int 500 t) := ⟨_, PySem.W.mg_of X G gGL⟩
  have T : NT K mg C := ⟨⟨pgC, hdC, poC, saC⟩, nG, nW, PySem.W.mg_of X G aC⟩
  have Y : NTy K C := ⟨ha, hn, htk, hmo⟩
  have bm0 := Fm0.binds (ps := ["self", "gates", "wires"]) fun _ _ _ _ _ _ us hl => match us, hl with | [_, _, _], _ => rfl
  have bm1 := Fm1.binds (ps := ["self"]) fun _ _ _ _ _ _ us hl => match us, hl with | [_], _ => rfl
  have bm2 := Fm2.binds (ps := ["self"]) fun _ _ _ _ _ _ us hl => match us, hl with | [_], _ => rfl
  have bm3 := Fm3.binds (ps := ["self", "other"]) fun _ _ _ _ _ _ us hl => match us, hl with | [_, _], _ => rfl
  have bd16 := Fd16.binds (ps := ["coming"]) fun _ _ _ _ _ _ us hl => match us, hl with | [_], _ => rfl
  have bd15 := Fd15.binds (ps := ["coming"]) fun _ _ _ _ _ _ us hl => match us, hl with | [_], _ => rfl
  have bd14 := Fd14.binds (ps := ["coming"]) fun _ _ _ _ _ _ us hl => match us, hl with | [_], _ => rfl
  have bd17 := Fd17.binds (ps := ["coming"]) fun _ _ _ _ _ _ us hl => match us, hl with | [_], _ => rfl
  have bd13 := Fd13.binds (ps := ["coming"]) fun _ _ _ _ _ _ us hl => match us, hl with | [_], _ => rfl
  have bd12 := Fd12.binds (ps := ["coming"]) fun _ _ _ _ _ _ us hl => match us, hl with | [_], _ => rfl
  refine ⟨PySem.W.fnOf "law" "law" (defArgs sLaw) (defBody sLaw) (defScope sLaw) .none kVd48 dcd48 pmd48 and48 cdd48 ctd48, fun s v => .of_eq rfl, fun base _ _ => ?_⟩
  have whole := ok_whole (P := l.prog) (w := w) (base := base) Fd0 (PySem.W.mg_of X G ad0) B
  have ft := ok_fromTo (P := l.prog) (w := w) (base := base) Fd1 (PySem.W.mg_of X G ad1) whole
  have wo := ok_worth (P := l.prog) (w := w) (base := base) Fd2 (PySem.W.mg_of X G ad2) Cn ft
  have ig := ok_isGate (P := l.prog) (w := w) (base := base) Fd3 (PySem.W.mg_of X G ad3) B Cn ft
  have cg := ok_chkGates (P := l.prog) (w := w) (base := base) Fd4 (PySem.W.mg_of X G ad4) B ig
  have iw := ok_isWire (P := l.prog) (w := w) (base := base) Fd5 (PySem.W.mg_of X G ad5) B ft wo
  have tk := ok_taken (P := l.prog) (w := w) (base := base) Fd6 (PySem.W.mg_of X G ad6)
  have cw := ok_chkWires (P := l.prog) (w := w) (base := base) Fd7 (PySem.W.mg_of X G ad7) B Cn iw tk
  have al := ok_along (P := l.prog) (w := w) (base := base) Fd8 (PySem.W.mg_of X G ad8) B
  have od := ok_order (P := l.prog) (w := w) (base := base) Fd9 (PySem.W.mg_of X G ad9) B al
  have cr := ok_chkRings (P := l.prog) (w := w) (base := base) Fd10 (PySem.W.mg_of X G ad10) B od
  have init := ok_init (P := l.prog) (w := w) (base := base) Fm0 T B cg cw cr
  have MK : Mk K C fm0 := ⟨mkC, am0, im0, kcC⟩
  have pl := ok_places (P := l.prog) (w := w) (base := base) Fd11 (PySem.W.mg_of X G ad11) B
  have RL : Rl l.prog w K mg base aR := by
    refine ⟨PySem.W.mg_of X G gR, fun k hk hki => ?_⟩
    rcases kind_of k hk with h | h | h | h | h | h | h | h
    · exact absurd h hki
    · subst h
      exact ⟨fd16, _, ⟨esR, nnR, _, oR, lR, r0, rfl⟩, ok_firstOf (k := "out") (.inl rfl) Fd16, kd16, bd16⟩
    · subst h
      exact ⟨fd12, _, ⟨esR, nnR, _, oR, lR, r1, rfl⟩, ok_sumOf Fd12 b_sum i_GD, kd12, bd12⟩
    · subst h
      exact ⟨fd13, _, ⟨esR, nnR, _, oR, lR, r2, rfl⟩, ok_prodOf Fd13 i_GD, kd13, bd13⟩
    · subst h
      exact ⟨fd14, _, ⟨esR, nnR, _, oR, lR, r3, rfl⟩, ok_mostOf Fd14 B.max, kd14, bd14⟩
    · subst h
      exact ⟨fd15, _, ⟨esR, nnR, _, oR, lR, r4, rfl⟩, ok_leastOf Fd15 b_min ⟨_, PySem.W.mg_of X G gGW⟩, kd15, bd15⟩
    · subst h
      exact ⟨fd16, _, ⟨esR, nnR, _, oR, lR, r5, rfl⟩, ok_firstOf (k := "first") (.inr rfl) Fd16, kd16, bd16⟩
    · subst h
      exact ⟨fd17, _, ⟨esR, nnR, _, oR, lR, r6, rfl⟩, ok_oneOf Fd17 B.max, kd17, bd17⟩
  have ins := ok_ins (P := l.prog) (w := w) (base := base) Fm1 T pl
  have outs := ok_outs (P := l.prog) (w := w) (base := base) Fm2 T pl
  have mN : Meth K C "ins" fm1 := ⟨am1, im1, km1⟩
  have mO : Meth K C "outs" fm2 := ⟨am2, im2, km2⟩
  have ww := ok_wireWorth (P := l.prog) (w := w) (base := base) Fd18 (PySem.W.mg_of X G ad18) B
  have cm := ok_coming (P := l.prog) (w := w) (base := base) Fd19 (PySem.W.mg_of X G ad19) ww
  have chr := ok_chkRow (P := l.prog) (w := w) (base := base) Fd20 (PySem.W.mg_of X G ad20) B T wo ins mN bm1
  have wsx := ok_worths (P := l.prog) (w := w) (base := base) Fd21 (PySem.W.mg_of X G ad21) B T RL chr od cm ins mN bm1
  have bhd := ok_behind (P := l.prog) (w := w) (base := base) Fd22 (PySem.W.mg_of X G ad22) B
  have nbh := ok_netBehind (P := l.prog) (w := w) (base := base) Fd23 (PySem.W.mg_of X G ad23) T bhd MK init bm0
  have bt := ok_beat (P := l.prog) (w := w) (base := base) Fd24 (PySem.W.mg_of X G ad24) T wsx nbh outs mO bm2
  have rn := ok_run (P := l.prog) (w := w) (base := base) Fd25 (PySem.W.mg_of X G ad25) B T bt MK init bm0
  have Z : NC l.prog w K mg base C fm0 fm3 fm2 _ _ _ := ⟨T, Y, MK, init, bm0, ok_eqN Fm3 T Y B, am3, im3, bm3, sN, outs, mO, bm2⟩
  have ou := ok_outer (P := l.prog) (w := w) (base := base) Fd26 (PySem.W.mg_of X G ad26) Cn
  have cl := ok_chkLags (P := l.prog) (w := w) (base := base) Fd27 (PySem.W.mg_of X G ad27) B T i_GL ou ft
  have cb := ok_countsBy (P := l.prog) (w := w) (base := base) Fd28 (PySem.W.mg_of X G ad28) B T
  have cn := ok_counts (P := l.prog) (w := w) (base := base) Fd29 (PySem.W.mg_of X G ad29) cl cb
  have lc := ok_letCounts (P := l.prog) (w := w) (base := base) Fd30 (PySem.W.mg_of X G ad30) B cn
  have mo := ok_more (P := l.prog) (w := w) (base := base) Fd31 (PySem.W.mg_of X G ad31) B T ins mN bm1 wsx nbh
  have mv := ok_moved (P := l.prog) (w := w) (base := base) Fd32 (PySem.W.mg_of X G ad32) B b_min T lc rn mo MK init bm0
  have L : LEx K mg C0 := ⟨PySem.W.mg_of X G aL0, gL, tC0, rL, vL⟩
  have TN : TEx K mg "NotLet" "wire" CN fN := ⟨PySem.W.mg_of X G aTN, ⟨⟨_, _, _, _, _, _, _, _, _, _, _, _, _, _, _, xTN, by rfl⟩, saTN, eTN, ttTN, kkTN⟩, iTN, ftTN, noTN, ⟨xgTN, xkTN, eTN, xdTN⟩, exm_self eTN ciTN ttTN sTN⟩
  have TE : TEx K mg "TooEarly" "rows" CE fE := ⟨PySem.W.mg_of X G aTE, ⟨⟨_, _, _, _, _, _, _, _, _, _, _, _, _, _, _, xTE, by rfl⟩, saTE, eTE, ttTE, kkTE⟩, iTE, ftTE, noTE, ⟨xgTE, xkTE, eTE, xdTE⟩, exm_self eTE ciTE ttTE sTE⟩
  have NL : PEx K mg "NoLags" CL := ⟨PySem.W.mg_of X G aNL, qNL, kkNL, eNL, ttNL, exm_self eNL ciNL ttNL sNL⟩
  have NR : PEx K mg "NoRow" CR := ⟨PySem.W.mg_of X G aNR, qNR, kkNR, eNR, ttNR, exm_self eNR ciNR ttNR sNR⟩
  have FN := fun_mk (st := sNLinit) lTN cdTN kfTN
  have FE_ := fun_mk (st := sTEinit) lTE cdTE kfTE
  have bN := FN.binds (ps := ["self", "wire"]) fun _ _ _ _ _ _ us hl => match us, hl with | [_, _], _ => rfl
  have bT := FE_.binds (ps := ["self", "rows"]) fun _ _ _ _ _ _ us hl => match us, hl with | [_, _], _ => rfl
  have nlI := ok_nlInit (P := l.prog) (w := w) (base := base) FN L TN
  have teI := ok_teInit (P := l.prog) (w := w) (base := base) FE_ L TE
  have whX := ok_wholeD (P := l.prog) (w := w) (base := base) Fd0 B
  have ftX := ok_fromToD (P := l.prog) (w := w) (base := base) Fd1 whole whX
  have woX := ok_worthD (P := l.prog) (w := w) (base := base) Fd2 Cn ft ftX
  have chX := ok_chkRowX (P := l.prog) (w := w) (base := base) Fd20 B T wo woX ins mN bm1 NR
  have wsX := ok_worthsX (P := l.prog) (w := w) (base := base) Fd21 chr chX
  have btX := ok_beatX (P := l.prog) (w := w) (base := base) Fd24 wsx wsX
  have rnX := ok_runX (P := l.prog) (w := w) (base := base) Fd25 B T bt btX MK init bm0 NR
  have clX := ok_chkLagsD (P := l.prog) (w := w) (base := base) Fd27 B T i_GL ou ft ftX NL
  have cnX := ok_countsD (P := l.prog) (w := w) (base := base) Fd29 cl clX
  have lcX := ok_letX (P := l.prog) (w := w) (base := base) Fd30 B cn cnX TN nlI bN
  have mvL := ok_movedL (P := l.prog) (w := w) (base := base) Fd32 lc lcX
  have mvN := ok_movedN (P := l.prog) (w := w) (base := base) Fd32 lc rn rnX
  have mvX := ok_movedX (P := l.prog) (w := w) (base := base) Fd32 B b_min T lc rn mo MK init bm0 TE teI bT
  have R : WrdC K mg C0 CL CN CE CR CB CG CW fN fE := ⟨PySem.W.mg_of X G aL0, PySem.W.mg_of X G aNL, PySem.W.mg_of X G aNR, PySem.W.mg_of X G aNB, PySem.W.mg_of X G aNG, PySem.W.mg_of X G aNW, TN, TE, PySem.W.mg_none_of X G zVE, B.isi, B.int, exm_any eTN ciTN ttTN uTETN, exm_any eTN ciTN ttTN uNLTN, exm_any eTE ciTE ttTE uNLTE, exm_of eC0 iC0 tC0 s0NL, exm_any eTN ciTN ttTN uNRTN, exm_any eTE ciTE ttTE uNRTE, exm_of eC0 iC0 tC0 s0NR, (kitAny_cons (kit_not ciNL ttNL sTN uTNNL) (kitAny_cons (kit_not ciNR ttNR sTN uTNNR) (kitAny_cons (kit_not ciTE ttTE sTN uTNTE) (kitAny_cons (kit_not ciNB ttNB sTN uTNNB) (kitAny_cons (kit_not ciNG ttNG sTN uTNNG) (kitAny_cons (kit_not ciNW ttNW sTN uTNNW) rfl)))))), (kitAny_cons (kit_not ciNL ttNL sTE uTENL) (kitAny_cons (kit_not ciNR ttNR sTE uTENR) (kitAny_cons (kit_not ciNB ttNB sTE uTENB) (kitAny_cons (kit_not ciNG ttNG sTE uTENG) (kitAny_cons (kit_not ciNW ttNW sTE uTENW) rfl))))), (kitAny_cons (kit_not ciNB ttNB sNL uNLNB) (kitAny_cons (kit_not ciNG ttNG sNL uNLNG) (kitAny_cons (kit_not ciNW ttNW sNL uNLNW) rfl))), (kitAny_cons (kit_not ciNB ttNB sNR uNRNB) (kitAny_cons (kit_not ciNG ttNG sNR uNRNG) (kitAny_cons (kit_not ciNW ttNW sNR uNRNW) rfl))), kit_type (by decide +kernel) vTN, kit_type (by decide +kernel) vTE, if_pos (beq_self_eq_true _), (kit_not ciNR ttNR sNL uNLNR), (kit_not ciNL ttNL sNR uNRNL), if_pos (beq_self_eq_true _), ⟨xgTN, xkTN, eTN, xdTN, xaTN, xn, xt, xmTN⟩, ⟨xgTE, xkTE, eTE, xdTE, xaTE, xn, xt, xmTE⟩, ⟨xgNL, xkNL, eNL, xdNL, xaNL, xn, xt, xmNL⟩, ⟨xgNR, xkNR, eNR, xdNR, xaNR, xn, xt, xmNR⟩⟩
  have ca := ok_cellAt (P := l.prog) (w := w) (base := base) Fd33 (PySem.W.mg_of X G ad33) B.len
  have dg := ok_digit (P := l.prog) (w := w) (base := base) Fd34 (PySem.W.mg_of X G ad34) B
  have of_ := ok_of (P := l.prog) (w := w) (base := base) Fd35 (PySem.W.mg_of X G ad35) dg B.len
  have ga := ok_ggates (P := l.prog) (w := w) (base := base) Fd36 (PySem.W.mg_of X G ad36) B dg of_
  have en := ok_ends (P := l.prog) (w := w) (base := base) Fd37 (PySem.W.mg_of X G ad37) B dg of_
  have tp := ok_tuple (P := l.prog) (w := w) (base := base) Fd38 (PySem.W.mg_of X G ad38) B dg
  have nt := ok_gnet (P := l.prog) (w := w) (base := base) Fd39 (PySem.W.mg_of X G ad39) dg ga en tp
  have rw_ := ok_grows (P := l.prog) (w := w) (base := base) Fd40 (PySem.W.mg_of X G ad40) B dg
  have gc := ok_gcounts (P := l.prog) (w := w) (base := base) Fd41 (PySem.W.mg_of X G ad41) B
  have sh := ok_shift (P := l.prog) (w := w) (base := base) Fd42 (PySem.W.mg_of X G ad42) B b_min dg of_ gc
  have tgt := ok_tight (P := l.prog) (w := w) (base := base) Fd44 (PySem.W.mg_of X G ad44) B b_min dg of_ gc
  have osh := ok_oddShift (P := l.prog) (w := w) (base := base) Fd43 (PySem.W.mg_of X G ad43) B dg of_
  have orw := ok_oddRows (P := l.prog) (w := w) (base := base) Fd45 (PySem.W.mg_of X G ad45) B dg of_
  have due := ok_due (P := l.prog) (w := w) (base := base) Fd47 (PySem.W.mg_of X G ad47) B gc
  have wrd := ok_word (P := l.prog) (w := w) (base := base) Fd46 (PySem.W.mg_of X G ad46) R mv (fn_or (fn_cx0 mv.ok) (fn_or mvL (fn_or mvN mvX)))
  exact ok_law Fd48 B b_repr T ca dg nt sh rw_ tgt osh orw MK init bm0 due wrd
end Lag

set_option maxRecDepth 100000
open PySem PySem.W PyProof.Rows
set_option maxRecDepth 100000 in
set_option maxHeartbeats 0 in
theorem PySem.Challenge.cw_lagshift_k62_what_is_not_taken_over_holds : PySem.Challenge.rw_lagshift_k62_what_is_not_taken_over.Holds := by
  w_on; o_law; k_head; (case hw => w_witness2)
  k_fill
  refine Lag.walkG_of (l := PySem.Challenge.rw_lagshift_k62_what_is_not_taken_over) (n := 63) (k := 13) (x := "_law_script") (CX := fun _ => L2.CX0) (sp := fun w => Lag.spLaw _) rfl (by decide) rfl ⟨rfl, by decide, by decide⟩ (fun w h Y => PySem.W.kIn_of Y) ?F (fun _ _ a ns hl _ hS => ⟨a, ns, rfl, hS, hl, fun _ => rfl⟩) (fun _ _ _ _ _ h => h)
  case F =>
    intro w mg fa h KX G hmg
    refine' Lag.all_mk KX G hmg ?aC ?ad0 ?ld0 ?cd0 ?kd0 ?ad1 ?ld1 ?cd1 ?kd1 ?ad2 ?ld2 ?cd2 ?kd2 ?ad3 ?ld3 ?cd3 ?kd3 ?ad4 ?ld4 ?cd4 ?kd4 ?ad5 ?ld5 ?cd5 ?kd5 ?ad6 ?ld6 ?cd6 ?kd6 ?ad7 ?ld7 ?cd7 ?kd7 ?ad8 ?ld8 ?cd8 ?kd8 ?ad9 ?ld9 ?cd9 ?kd9 ?ad10 ?ld10 ?cd10 ?kd10 ?ad11 ?ld11 ?cd11 ?kd11 ?ad12 ?ld12 ?cd12 ?kd12 ?ad13 ?ld13 ?cd13 ?kd13 ?ad14 ?ld14 ?cd14 ?kd14 ?ad15 ?ld15 ?cd15 ?kd15 ?ad16 ?ld16 ?cd16 ?kd16 ?ad17 ?ld17 ?cd17 ?kd17 ?ad18 ?ld18 ?cd18 ?kd18 ?ad19 ?ld19 ?cd19 ?kd19 ?ad20 ?ld20 ?cd20 ?kd20 ?ad21 ?ld21 ?cd21 ?kd21 ?ad22 ?ld22 ?cd22 ?kd22 ?ad23 ?ld23 ?cd23 ?kd23 ?ad24 ?ld24 ?cd24 ?kd24 ?ad25 ?ld25 ?cd25 ?kd25 ?ad26 ?ld26 ?cd26 ?kd26 ?ad27 ?ld27 ?cd27 ?kd27 ?ad28 ?ld28 ?cd28 ?kd28 ?ad29 ?ld29 ?cd29 ?kd29 ?ad30 ?ld30 ?cd30 ?kd30 ?ad31 ?ld31 ?cd31 ?kd31 ?ad32 ?ld32 ?cd32 ?kd32 ?ad33 ?ld33 ?cd33 ?kd33 ?ad34 ?ld34 ?cd34 ?kd34 ?ad35 ?ld35 ?cd35 ?kd35 ?ad36 ?ld36 ?cd36 ?kd36 ?ad37 ?ld37 ?cd37 ?kd37 ?ad38 ?ld38 ?cd38 ?kd38 ?ad39 ?ld39 ?cd39 ?kd39 ?ad40 ?ld40 ?cd40 ?kd40 ?ad41 ?ld41 ?cd41 ?kd41 ?ad42 ?ld42 ?cd42 ?kd42 ?ad43 ?ld43 ?cd43 ?kd43 ?ad44 ?ld44 ?cd44 ?kd44 ?ad45 ?ld45 ?cd45 ?kd45 ?ad46 ?ld46 ?cd46 ?kd46 ?ad47 ?ld47 ?cd47 ?kd47 ?ad48 ?ld48 ?cd48 ?kd48 ?am0 ?im0 ?lm0 ?cm0 ?km0 ?am1 ?im1 ?lm1 ?cm1 ?km1 ?am2 ?im2 ?lm2 ?cm2 ?km2 ?am3 ?im3 ?lm3 ?cm3 ?km3 ?pgC ?hdC ?poC ?saC ?mkC ?kcC ?nG ?nW ?ha ?hn ?htk ?hmo ?sN ?aL0 ?gL ?rL ?vL ?eC0 ?iC0 ?tC0 ?aNL ?qNL ?kkNL ?eNL ?ttNL ?ciNL ?sNL ?aNR ?qNR ?kkNR ?eNR ?ttNR ?ciNR ?sNR ?aNB ?aNG ?aNW ?ttNB ?ciNB ?ttNG ?ciNG ?ttNW ?ciNW ?aTN ?xTN ?saTN ?noTN ?iTN ?ftTN ?lTN ?cdTN ?kfTN ?kkTN ?eTN ?ttTN ?ciTN ?sTN ?aTE ?xTE ?saTE ?noTE ?iTE ?ftTE ?lTE ?cdTE ?kfTE ?kkTE ?eTE ?ttTE ?ciTE ?sTE ?xgNL ?xkNL ?xdNL ?xaNL ?xmNL ?s0NL ?xgNR ?xkNR ?xdNR ?xaNR ?xmNR ?s0NR ?xgTN ?xkTN ?xdTN ?xaTN ?xmTN ?s0TN ?xgTE ?xkTE ?xdTE ?xaTE ?xmTE ?s0TE ?uTNNL ?uTNNR ?uTNTE ?uTNNB ?uTNNG ?uTNNW ?uTETN ?uTENL ?uTENR ?uTENB ?uTENG ?uTENW ?uNLTN ?uNLTE ?uNLNB ?uNLNG ?uNLNW ?uNLNR ?uNRTN ?uNRTE ?uNRNB ?uNRNG ?uNRNW ?uNRNL ?vTN ?vTE ?zVE ?xn ?xt ?zisi ?zint ?zbool ?zlen ?ztuple ?zstr ?zlist ?zall ?zenum ?zzip ?zrange ?zmax ?zsum ?zmin ?zrepr ?gGW ?gGA ?gGD ?gGL ?gK ?oK ?gW ?oW ?gF ?oF ?gR ?oR ?lR ?r0 ?r1 ?r2 ?r3 ?r4 ?r5 ?r6
    (case aC => k_is)
    (case ad0 => k_is)
    (case ld0 => k_is)
    (case cd0 => k_is)
    (case kd0 => k_is)
    (case ad1 => k_is)
    (case ld1 => k_is)
    (case cd1 => k_is)
    (case kd1 => k_is)
    (case ad2 => k_is)
    (case ld2 => k_is)
    (case cd2 => k_is)
    (case kd2 => k_is)
    (case ad3 => k_is)
    (case ld3 => k_is)
    (case cd3 => k_is)
    (case kd3 => k_is)
    (case ad4 => k_is)
    (case ld4 => k_is)
    (case cd4 => k_is)
    (case kd4 => k_is)
    (case ad5 => k_is)
    (case ld5 => k_is)
    (case cd5 => k_is)
    (case kd5 => k_is)
    (case ad6 => k_is)
    (case ld6 => k_is)
    (case cd6 => k_is)
    (case kd6 => k_is)
    (case ad7 => k_is)
    (case ld7 => k_is)
    (case cd7 => k_is)
    (case kd7 => k_is)
    (case ad8 => k_is)
    (case ld8 => k_is)
    (case cd8 => k_is)
    (case kd8 => k_is)
    (case ad9 => k_is)
    (case ld9 => k_is)
    (case cd9 => k_is)
    (case kd9 => k_is)
    (case ad10 => k_is)
    (case ld10 => k_is)
    (case cd10 => k_is)
    (case kd10 => k_is)
    (case ad11 => k_is)
    (case ld11 => k_is)
    (case cd11 => k_is)
    (case kd11 => k_is)
    (case ad12 => k_is)
    (case ld12 => k_is)
    (case cd12 => k_is)
    (case kd12 => k_is)
    (case ad13 => k_is)
    (case ld13 => k_is)
    (case cd13 => k_is)
    (case kd13 => k_is)
    (case ad14 => k_is)
    (case ld14 => k_is)
    (case cd14 => k_is)
    (case kd14 => k_is)
    (case ad15 => k_is)
    (case ld15 => k_is)
    (case cd15 => k_is)
    (case kd15 => k_is)
    (case ad16 => k_is)
    (case ld16 => k_is)
    (case cd16 => k_is)
    (case kd16 => k_is)
    (case ad17 => k_is)
    (case ld17 => k_is)
    (case cd17 => k_is)
    (case kd17 => k_is)
    (case ad18 => k_is)
    (case ld18 => k_is)
    (case cd18 => k_is)
    (case kd18 => k_is)
    (case ad19 => k_is)
    (case ld19 => k_is)
    (case cd19 => k_is)
    (case kd19 => k_is)
    (case ad20 => k_is)
    (case ld20 => k_is)
    (case cd20 => k_is)
    (case kd20 => k_is)
    (case ad21 => k_is)
    (case ld21 => k_is)
    (case cd21 => k_is)
    (case kd21 => k_is)
    (case ad22 => k_is)
    (case ld22 => k_is)
    (case cd22 => k_is)
    (case kd22 => k_is)
    (case ad23 => k_is)
    (case ld23 => k_is)
    (case cd23 => k_is)
    (case kd23 => k_is)
    (case ad24 => k_is)
    (case ld24 => k_is)
    (case cd24 => k_is)
    (case kd24 => k_is)
    (case ad25 => k_is)
    (case ld25 => k_is)
    (case cd25 => k_is)
    (case kd25 => k_is)
    (case ad26 => k_is)
    (case ld26 => k_is)
    (case cd26 => k_is)
    (case kd26 => k_is)
    (case ad27 => k_is)
    (case ld27 => k_is)
    (case cd27 => k_is)
    (case kd27 => k_is)
    (case ad28 => k_is)
    (case ld28 => k_is)
    (case cd28 => k_is)
    (case kd28 => k_is)
    (case ad29 => k_is)
    (case ld29 => k_is)
    (case cd29 => k_is)
    (case kd29 => k_is)
    (case ad30 => k_is)
    (case ld30 => k_is)
    (case cd30 => k_is)
    (case kd30 => k_is)
    (case ad31 => k_is)
    (case ld31 => k_is)
    (case cd31 => k_is)
    (case kd31 => k_is)
    (case ad32 => k_is)
    (case ld32 => k_is)
    (case cd32 => k_is)
    (case kd32 => k_is)
    (case ad33 => k_is)
    (case ld33 => k_is)
    (case cd33 => k_is)
    (case kd33 => k_is)
    (case ad34 => k_is)
    (case ld34 => k_is)
    (case cd34 => k_is)
    (case kd34 => k_is)
    (case ad35 => k_is)
    (case ld35 => k_is)
    (case cd35 => k_is)
    (case kd35 => k_is)
    (case ad36 => k_is)
    (case ld36 => k_is)
    (case cd36 => k_is)
    (case kd36 => k_is)
    (case ad37 => k_is)
    (case ld37 => k_is)
    (case cd37 => k_is)
    (case kd37 => k_is)
    (case ad38 => k_is)
    (case ld38 => k_is)
    (case cd38 => k_is)
    (case kd38 => k_is)
    (case ad39 => k_is)
    (case ld39 => k_is)
    (case cd39 => k_is)
    (case kd39 => k_is)
    (case ad40 => k_is)
    (case ld40 => k_is)
    (case cd40 => k_is)
    (case kd40 => k_is)
    (case ad41 => k_is)
    (case ld41 => k_is)
    (case cd41 => k_is)
    (case kd41 => k_is)
    (case ad42 => k_is)
    (case ld42 => k_is)
    (case cd42 => k_is)
    (case kd42 => k_is)
    (case ad43 => k_is)
    (case ld43 => k_is)
    (case cd43 => k_is)
    (case kd43 => k_is)
    (case ad44 => k_is)
    (case ld44 => k_is)
    (case cd44 => k_is)
    (case kd44 => k_is)
    (case ad45 => k_is)
    (case ld45 => k_is)
    (case cd45 => k_is)
    (case kd45 => k_is)
    (case ad46 => k_is)
    (case ld46 => k_is)
    (case cd46 => k_is)
    (case kd46 => k_is)
    (case ad47 => k_is)
    (case ld47 => k_is)
    (case cd47 => k_is)
    (case kd47 => k_is)
    (case ad48 => k_is)
    (case ld48 => k_is)
    (case cd48 => k_is)
    (case kd48 => k_is)
    (case am0 => k_is)
    (case im0 => k_is)
    (case lm0 => k_is)
    (case cm0 => k_is)
    (case km0 => k_is)
    (case am1 => k_is)
    (case im1 => k_is)
    (case lm1 => k_is)
    (case cm1 => k_is)
    (case km1 => k_is)
    (case am2 => k_is)
    (case im2 => k_is)
    (case lm2 => k_is)
    (case cm2 => k_is)
    (case km2 => k_is)
    (case am3 => k_is)
    (case im3 => k_is)
    (case lm3 => k_is)
    (case cm3 => k_is)
    (case km3 => k_is)
    (case pgC => k_is)
    (case hdC => k_is)
    (case poC => k_is)
    (case saC => k_is)
    (case mkC => k_is)
    (case kcC => k_is)
    (case nG => k_is)
    (case nW => k_is)
    (case ha => k_is)
    (case hn => k_is)
    (case htk => k_is)
    (case hmo => k_is)
    (case sN => k_is)
    (case aL0 => k_is)
    (case gL => k_is)
    (case rL => k_is)
    (case vL => k_is)
    (case eC0 => k_is)
    (case iC0 => k_is)
    (case tC0 => k_is)
    (case aNL => k_is)
    (case qNL => k_exc)
    (case kkNL => k_is)
    (case eNL => k_is)
    (case ttNL => k_is)
    (case ciNL => k_is)
    (case sNL => first | rfl | k_is)
    (case aNR => k_is)
    (case qNR => k_exc)
    (case kkNR => k_is)
    (case eNR => k_is)
    (case ttNR => k_is)
    (case ciNR => k_is)
    (case sNR => first | rfl | k_is)
    (case aNB => k_is)
    (case aNG => k_is)
    (case aNW => k_is)
    (case ttNB => k_is)
    (case ciNB => k_is)
    (case ttNG => k_is)
    (case ciNG => k_is)
    (case ttNW => k_is)
    (case ciNW => k_is)
    (case aTN => k_is)
    (case xTN => k_is)
    (case saTN => k_is)
    (case noTN => k_is)
    (case iTN => k_is)
    (case ftTN => k_is)
    (case lTN => k_is)
    (case cdTN => k_is)
    (case kfTN => k_is)
    (case kkTN => k_is)
    (case eTN => k_is)
    (case ttTN => k_is)
    (case ciTN => k_is)
    (case sTN => first | rfl | k_is)
    (case aTE => k_is)
    (case xTE => k_is)
    (case saTE => k_is)
    (case noTE => k_is)
    (case iTE => k_is)
    (case ftTE => k_is)
    (case lTE => k_is)
    (case cdTE => k_is)
    (case kfTE => k_is)
    (case kkTE => k_is)
    (case eTE => k_is)
    (case ttTE => k_is)
    (case ciTE => k_is)
    (case sTE => first | rfl | k_is)
    (case xgNL => k_is)
    (case xkNL => k_is)
    (case xdNL => k_is)
    (case xaNL => k_is)
    (case xmNL => k_is)
    (case s0NL => k_is)
    (case xgNR => k_is)
    (case xkNR => k_is)
    (case xdNR => k_is)
    (case xaNR => k_is)
    (case xmNR => k_is)
    (case s0NR => k_is)
    (case xgTN => k_is)
    (case xkTN => k_is)
    (case xdTN => k_is)
    (case xaTN => k_is)
    (case xmTN => k_is)
    (case s0TN => k_is)
    (case xgTE => k_is)
    (case xkTE => k_is)
    (case xdTE => k_is)
    (case xaTE => k_is)
    (case xmTE => k_is)
    (case s0TE => k_is)
    (case uTNNL => k_is)
    (case uTNNR => k_is)
    (case uTNTE => k_is)
    (case uTNNB => k_is)
    (case uTNNG => k_is)
    (case uTNNW => k_is)
    (case uTETN => k_is)
    (case uTENL => k_is)
    (case uTENR => k_is)
    (case uTENB => k_is)
    (case uTENG => k_is)
    (case uTENW => k_is)
    (case uNLTN => k_is)
    (case uNLTE => k_is)
    (case uNLNB => k_is)
    (case uNLNG => k_is)
    (case uNLNW => k_is)
    (case uNLNR => k_is)
    (case uNRTN => k_is)
    (case uNRTE => k_is)
    (case uNRNB => k_is)
    (case uNRNG => k_is)
    (case uNRNW => k_is)
    (case uNRNL => k_is)
    (case vTN => k_is)
    (case vTE => k_is)
    (case zVE => k_is)
    (case xn => k_is)
    (case xt => k_is)
    (case zisi => k_is)
    (case zint => k_is)
    (case zbool => k_is)
    (case zlen => k_is)
    (case ztuple => k_is)
    (case zstr => k_is)
    (case zlist => k_is)
    (case zall => k_is)
    (case zenum => k_is)
    (case zzip => k_is)
    (case zrange => k_is)
    (case zmax => k_is)
    (case zsum => k_is)
    (case zmin => k_is)
    (case zrepr => k_is)
    (case gGW => k_is)
    (case gGA => k_is)
    (case gGD => k_is)
    (case gGL => k_is)
    (case gK => k_is)
    (case oK => k_is)
    (case gW => k_is)
    (case oW => k_is)
    (case gF => k_is)
    (case oF => k_is)
    (case gR => k_is)
    (case oR => k_is)
    (case lR => exact ⟨⟨_, _, rfl, rfl⟩, ⟨_, _, rfl, rfl⟩, ⟨_, _, rfl, rfl⟩, ⟨_, _, rfl, rfl⟩, ⟨_, _, rfl, rfl⟩, ⟨_, _, rfl, rfl⟩, ⟨_, _, rfl, rfl⟩, trivial⟩)
    (case r0 => k_is)
    (case r1 => k_is)
    (case r2 => k_is)
    (case r3 => k_is)
    (case r4 => k_is)
    (case r5 => k_is)
    (case r6 => k_is)

