import PyProof.Rows.All
import Wide.All
import OpenK.AllK
import Wide.FinOn
import HandS.ForMost
import HandS.IsInst
import HandS.Evl
import HandS.Flow
import HandS.Conv
import HandS.Wide
import HandS.Walk
import HandS.Zip
import HandS.OwnEq
import HandS.Style
import HandS.TupAny
import PyProof.Rows.NestShow
import HandS.TupMul
import HandS.Deep
import PySem.Challenge.RW_lagshift_k29_loops_judged
set_option Elab.async false
set_option linter.all false
set_option maxRecDepth 100000
set_option maxHeartbeats 4000000
namespace Lag
open PySem PySem.Spec PyProof.Rows L2
/-! ### the text by its places -/
def topS (i : Nat) : Stmt := PySem.Challenge.pw_lagshift_k29_loops_judged.main.body.getD i (.Pass ⟨0, 0, 0, 0⟩)
abbrev sCellAt : Stmt := topS 41 -- @_law_cell_at
/-! ### heaps -/
/-- all stands as it stood but at w -/
def But (w : Addr) (H H' : Hp) : Prop := ∀ b o, b ≠ w → H b = some o → H' b = some o
theorem But.refl (w : Addr) (H : Hp) : But w H H := fun _ _ _ h => h
theorem But.trans {w : Addr} {H H1 H2 : Hp} (a : But w H H1) (b : But w H1 H2) : But w H H2 := fun c o n h => b c o n (a c o n h)
theorem But.same {w : Addr} {H H1 : Hp} (a : Same H H1) : But w H H1 := fun c o _ h => a c o h
theorem But.upd {w : Addr} {H : Hp} {o : HO} : But w H (upd H w o) := fun c u n h => by rw [upd_ne n]; exact h
theorem But.new {w p : Addr} {H : Hp} {o : HO} (h : H p = none) : But w H (L2.upd H p o) := fun c u n e => by rw [upd_ne (ne_of_none e h)]; exact e
theorem same_new {H : Hp} {p : Addr} {o : HO} (h : H p = none) : Same H (upd H p o) := fun b x e => by rw [upd_ne (ne_of_none e h)]; exact e
/-- an object that H does not know may be changed -/
theorem same_mut {H H' : Hp} {p : Addr} {o : HO} (e : Same H H') (h : H p = none) : Same H (upd H' p o) := fun a u ha => by rw [upd_ne (ne_of_none ha h)]; exact e a u ha
theorem But.mut {w p : Addr} {H H' : Hp} {o : HO} (e : But w H H') (h : H p = none) : But w H (L2.upd H' p o) := fun a u n ha => by rw [upd_ne (ne_of_none ha h)]; exact e a u n ha
theorem But.seq {K : PySem.W.Frag} {w a : Addr} {H H' : Hp} {xs : List V} (e : But w H H') (n : a ≠ w) (h : SqL K H a xs) : SqL K H' a xs := by
  rcases h with (h | ⟨o, h⟩) | h
  · exact .inl (.inl (e _ _ n h))
  · exact .inl (.inr ⟨o, e _ _ n h⟩)
  · exact .inr h
/-- at w the state: one number, or three -/
def StOk (xs : List V) : Prop := (∃ a : Int, xs = [.int a]) ∨ ∃ a b c : Int, xs = [.int a, .int b, .int c]
def WellAt (w : Addr) (H : Hp) : Prop := ∃ xs : List V, H w = some (.lst xs) ∧ StOk xs
theorem WellAt.new {w p : Addr} {H : Hp} {o : HO} (W : WellAt w H) (h : H p = none) : WellAt w (upd H p o) := by
  obtain ⟨xs, e, k⟩ := W
  exact ⟨xs, by rw [upd_ne (ne_of_none e h)]; exact e, k⟩
theorem WellAt.same {w : Addr} {H H' : Hp} (W : WellAt w H) (s : Same H H') : WellAt w H' := by
  obtain ⟨xs, e, k⟩ := W
  exact ⟨xs, s _ _ e, k⟩
theorem WellAt.ne {w p : Addr} {H : Hp} (W : WellAt w H) (h : H p = none) : w ≠ p := by
  obtain ⟨xs, e, k⟩ := W
  exact ne_of_none e h
/-- a draw of the well: what stood stands, the well is one -/
structure Dr (w : Addr) (H H' : Hp) : Prop where
  but : But w H H'
  well : WellAt w H'
theorem Dr.trans {w : Addr} {H H1 H2 : Hp} (a : Dr w H H1) (b : Dr w H1 H2) : Dr w H H2 := ⟨a.but.trans b.but, b.well⟩
theorem Dr.free {w p : Addr} {H H' : Hp} (d : Dr w H H') (W : WellAt w H) (h : H' p = none) : H p = none := by
  cases q : H p with
  | none => rfl
  | some o =>
    have n : p ≠ w := (d.well.ne h).symm
    rw [d.but _ _ n q] at h
    cases h
/-! ### the promises of the draws -/
def spCellAt (K : PySem.W.Frag) : Sp := fun vs H Q _ => ∃ (a : Addr) (ns : List Int) (k : Int), vs = [.ref a, .int k] ∧ 0 ≤ k ∧ SqL K H a (ns.map V.int) ∧ ∀ z : Int, Q (.int z) H
section
variable {P : Program} {w : World} {K : PySem.W.Frag} {mg : Str → Option Value} {base : Heap}
/-- a def at its name: it keeps its promise, its name holds it, its arguments bind -/
structure Df (P : Program) (w : World) (K : PySem.W.Frag) (mg : Str → Option Value) (base : Heap) (k : Nat) (name : Str) (ps : List Str) (sp : Sp) (f : Addr) (fd : FuncData) : Prop where
  ok : FnOk P w K mg base CX0 k f fd ps sp
  mg : mg name = some (.ref f)
  kp : PySem.W.keepIn K (.ref f) = true
  bd : Binds K fd ps []
/-! ### _law_cell_at -/
theorem scCellAt : FnScope ["_law_script", "_law_k"] ["_law_script", "_law_k"] (defScope sCellAt) := ⟨rfl, rfl, rfl, by decide +kernel, rfl, by decide +kernel, by decide +kernel⟩
abbrev DCellAt (P : Program) (w : World) (K : PySem.W.Frag) (mg : Str → Option Value) (base : Heap) := Df P w K mg base 1 "_law_cell_at" ["_law_script", "_law_k"] (spCellAt K)
theorem ok_cellAt {f : Addr} {fd : FuncData} (F : Fun K "_law_cell_at" "_law_cell_at" sCellAt f fd) (hm : mg "_law_cell_at" = some (.ref f)) (ml : mg "len" = none) : DCellAt P w K mg base f fd := by
  refine ⟨?_, hm, F.kp, F.binds fun _ _ _ _ _ _ us hl => match us, hl with | [_, _], _ => rfl⟩
  refine F.ok scCellAt (fun vs H Q E h => ?_) (fun cdv A outer s H vs Q E hr h => ?_)
  · obtain ⟨a, ns, k, rfl, _⟩ := h
    rfl
  · obtain ⟨a, ns, k, rfl, hk, hS, q⟩ := h
    refine ⟨_, pss_cons (ps_if (pt_cmpR op_lt (pv 1) (pe_callB call_len_seq (by rfl) ml PySem.boot_len (pa_cons (pv 0) pa_nil)) (nomark _))
        (pss_one (ps_ret (pe_ix ix_list (pv 0) (pv 1) (fun _ _ => rfl)))) pss_nil)
      (pss_one (ps_ret pe_int)), ?_⟩
    refine ⟨_, rfl, .ref a, rfl, a, _, rfl, .inl hS, _, _, rfl, rfl, _, rfl, ite2 (fun e => ?_) (fun e => ?_)⟩
    · have e1 : k < ((ns.map V.int).length : Int) := of_decide_eq_true e
      rw [List.length_map] at e1
      have hj : k.toNat < ns.length := by omega
      refine ⟨_, rfl, _, rfl, a, _, k, .int (ns[k.toNat]), rfl, rfl, hS, at_of (j := k.toNat) (by omega) ?_, q _⟩
      rw [List.getElem?_map, List.getElem?_eq_getElem hj]
      rfl
    · exact q 0
end
/-! ### what is kept of tuples -/
def isT : HO → Prop
  | .tup _ => True
  | .frz _ _ => True
  | _ => False
/-- tuples, and what is locked, stand as they stood -/
def TK (H H' : Hp) : Prop := ∀ a o, isT o → H a = some o → H' a = some o
theorem TK.refl (H : Hp) : TK H H := fun _ _ _ h => h
theorem TK.trans {H H1 H2 : Hp} (a : TK H H1) (b : TK H1 H2) : TK H H2 := fun c o t h => b c o t (a c o t h)
theorem TK.same {H H1 : Hp} (a : Same H H1) : TK H H1 := fun c o _ h => a c o h
theorem TK.new {p : Addr} {H : Hp} {o : HO} (h : H p = none) : TK H (upd H p o) := TK.same (same_new h)
theorem TK.lst {l : Addr} {H : Hp} {xs : List V} {o : HO} (h : H l = some (.lst xs)) : TK H (upd H l o) := fun c u t e => by
  have n : c ≠ l := fun z => by
    rw [z, h] at e
    cases e
    exact t
  rw [upd_ne n]
  exact e
theorem TK.dr {w : Addr} {H H' : Hp} (W : WellAt w H) (d : But w H H') : TK H H' := fun c u t e => by
  obtain ⟨xs, h, _⟩ := W
  have n : c ≠ w := fun z => by
    rw [z, h] at e
    cases e
    exact t
  exact d _ _ n e
theorem TK.seq {K : PySem.W.Frag} {H H' : Hp} {a : Addr} {xs : List V} (t : TK H H') (h : SqT K H a xs) : SqT K H' a xs := by
  rcases h with (h | ⟨o, h⟩) | h
  · exact .inl (.inl (t _ _ trivial h))
  · exact .inl (.inr ⟨o, t _ _ trivial h⟩)
  · exact .inr h
/-! ### gates and wires as data -/
abbrev Gt := Str × Int
abbrev Wr := Nat × Nat × List Int
def kinds : List Str := ["in", "out", "sum", "times", "most", "least", "first", "one"]
def portK (k : Str) : Prop := k = "in" ∨ k = "out"
/-- a gate -/
def GOk (g : Gt) : Prop := g.1 ∈ kinds ∧ 0 ≤ g.2 ∧ g.2 ≤ 100 ∧ (portK g.1 → g.2 = 0)
def GateV (K : PySem.W.Frag) (H : Hp) (v : V) (g : Gt) : Prop := ∃ a, v = .ref a ∧ SqT K H a [.str g.1, .int g.2]
def WireV (K : PySem.W.Frag) (H : Hp) (v : V) (x : Wr) : Prop := ∃ a b, v = .ref a ∧ SqT K H a [.int x.1, .int x.2.1, .ref b] ∧ SqT K H b (x.2.2.map V.int)
theorem GateV.tk {K : PySem.W.Frag} {H H' : Hp} {v : V} {g : Gt} (t : TK H H') (h : GateV K H v g) : GateV K H' v g := by
  obtain ⟨a, e, s⟩ := h
  exact ⟨a, e, t.seq s⟩
theorem WireV.tk {K : PySem.W.Frag} {H H' : Hp} {v : V} {x : Wr} (t : TK H H') (h : WireV K H v x) : WireV K H' v x := by
  obtain ⟨a, b, e, s, s2⟩ := h
  exact ⟨a, b, e, t.seq s, t.seq s2⟩
theorem Dr.new {wl p : Addr} {H : Hp} {o : HO} (W : WellAt wl H) (h : H p = none) : Dr wl H (upd H p o) := ⟨But.new h, W.new h⟩
def ROk (r : List Int) : Prop := ∀ x ∈ r, 0 ≤ x ∧ x ≤ 96
theorem tyes {σ : L2.St} {H : Hp} {A B : Hp → Prop} (h : A H) : tYes σ H (fun b H3 => if b = true then A H3 else B H3) := by
  show if true = true then A H else B H
  rw [if_pos rfl]
  exact h
/-! ### two lists, place by place -/
def All2 {α β : Type} (R : α → β → Prop) (xs : List α) (ys : List β) : Prop := xs.length = ys.length ∧ ∀ (i : Nat) (x : α) (y : β), xs[i]? = some x → ys[i]? = some y → R x y
section
variable {α β : Type} {R S : α → β → Prop} {xs : List α} {ys : List β} {x : α} {y : β}
theorem All2.nil : All2 R [] [] := ⟨rfl, fun i x y h => by simp at h⟩
theorem All2.imp (h : All2 R xs ys) (f : ∀ x y, R x y → S x y) : All2 S xs ys := ⟨h.1, fun i x y a b => f x y (h.2 i x y a b)⟩
theorem All2.snoc (h : All2 R xs ys) (r : R x y) : All2 R (xs ++ [x]) (ys ++ [y]) := by
  refine ⟨by simp [h.1], fun i a b ha hb => ?_⟩
  by_cases hi : i < xs.length
  · rw [List.getElem?_append_left hi] at ha
    rw [List.getElem?_append_left (by rw [← h.1]; exact hi)] at hb
    exact h.2 i a b ha hb
  · rw [List.getElem?_append_right (by omega)] at ha
    rw [List.getElem?_append_right (by rw [← h.1]; omega), ← h.1] at hb
    cases e : i - xs.length with
    | zero =>
      rw [e] at ha hb
      simp at ha hb
      subst ha hb
      exact r
    | succ n =>
      rw [e] at ha
      simp at ha
theorem All2.cons (r : R x y) (h : All2 R xs ys) : All2 R (x :: xs) (y :: ys) := by
  refine ⟨by simp [h.1], fun i a b ha hb => ?_⟩
  cases i with
  | zero =>
    simp at ha hb
    subst ha hb
    exact r
  | succ n => exact h.2 n a b (by simpa using ha) (by simpa using hb)
theorem All2.head {x : α} {y : β} (h : All2 R (x :: xs) (y :: ys)) : R x y := h.2 0 x y rfl rfl
theorem All2.tail {x : α} {y : β} (h : All2 R (x :: xs) (y :: ys)) : All2 R xs ys := ⟨by have := h.1; simp at this; exact this, fun i a b ha hb => h.2 (i + 1) a b (by simpa using ha) (by simpa using hb)⟩
theorem All2.get (h : All2 R xs ys) {i : Nat} {x : α} (e : xs[i]? = some x) : ∃ y, ys[i]? = some y ∧ R x y := by
  have hi := (List.getElem?_eq_some_iff.mp e).1
  have hj : i < ys.length := by rw [← h.1]; exact hi
  exact ⟨ys[i], List.getElem?_eq_getElem hj, h.2 i x _ e (List.getElem?_eq_getElem hj)⟩
theorem All2.getR (h : All2 R xs ys) {i : Nat} {y : β} (e : ys[i]? = some y) : ∃ x, xs[i]? = some x ∧ R x y := by
  have hi := (List.getElem?_eq_some_iff.mp e).1
  have hj : i < xs.length := by rw [h.1]; exact hi
  exact ⟨xs[i], List.getElem?_eq_getElem hj, h.2 i _ y (List.getElem?_eq_getElem hj) e⟩
theorem All2.perm {xs' : List α} (p : xs'.Perm xs) : ∀ {ys : List β}, All2 R xs ys → ∃ ys', ys'.Perm ys ∧ All2 R xs' ys' := by
  induction p with
  | nil => intro ys h; exact ⟨ys, .refl _, h⟩
  | @cons a l1 l2 p ih =>
    intro ys h
    cases ys with
    | nil => have := h.1; simp at this
    | cons y ys =>
      obtain ⟨ys', p', h'⟩ := ih h.tail
      exact ⟨y :: ys', p'.cons y, h'.cons h.head⟩
  | swap a b l =>
    intro ys h
    match ys, h with
    | [], h => have := h.1; simp at this
    | [_], h => have := h.1; simp at this
    | y :: z :: ys, h => exact ⟨z :: y :: ys, .swap _ _ _, All2.cons h.tail.head (All2.cons h.head h.tail.tail)⟩
  | trans p1 p2 ih1 ih2 =>
    intro ys h
    obtain ⟨ys1, q1, h1⟩ := ih2 h
    obtain ⟨ys2, q2, h2⟩ := ih1 h1
    exact ⟨ys2, q2.trans q1, h2⟩
end
/-! ### nets as data -/
def kindAt (gs : List Gt) (i : Nat) : Str := (gs.getD i ("", 0)).1
def cnt (ws : List Wr) (e : Nat) : Nat := ws.countP (fun x => x.2.1 == e)
/-- a wire between these gates -/
structure WOk (gs : List Gt) (x : Wr) : Prop where
  s : x.1 < gs.length
  e : x.2.1 < gs.length
  ks : kindAt gs x.1 ≠ "out"
  ke : kindAt gs x.2.1 ≠ "in"
  r : ROk x.2.2
  rl : x.2.2.length ≤ 100
structure NetOk (gs : List Gt) (ws : List Wr) : Prop where
  ne : gs ≠ []
  gl : gs.length ≤ 100
  wl : ws.length ≤ 1000
  gok : ∀ g ∈ gs, GOk g
  wok : ∀ x ∈ ws, WOk gs x
  one : ∀ e, e < gs.length → kindAt gs e = "out" → cnt ws e = 1
  some : ∀ e, e < gs.length → kindAt gs e = "first" → 1 ≤ cnt ws e
  rank : ∃ ρ : Nat → Nat, ∀ x ∈ ws, x.2.2 = [] → ρ x.1 < ρ x.2.1
/-- numbered anew: the gate k is the old gate at left's place k -/
theorem NetOk.anew {gs : List Gt} {ws : List Wr} {left : List Nat} (N : NetOk gs ws) (p : left.Perm (List.range gs.length)) {ws' : List Wr} (pw : ws'.Perm ws) :
    NetOk (left.map fun k => gs.getD k ("", 0)) (ws'.map fun x => (left.idxOf x.1, left.idxOf x.2.1, x.2.2)) := by
  have hl : left.length = gs.length := by rw [p.length_eq, List.length_range]
  have nd : left.Nodup := p.nodup_iff.mpr List.nodup_range
  have mem : ∀ i, i < gs.length → i ∈ left := fun i hi => p.mem_iff.mpr (List.mem_range.mpr hi)
  have memb : ∀ i, i ∈ left → i < gs.length := fun i hi => List.mem_range.mp (p.mem_iff.mp hi)
  have il : ∀ i, i < gs.length → left.idxOf i < left.length := fun i hi => List.idxOf_lt_length_iff.mpr (mem i hi)
  have ge : ∀ i (h : i < gs.length), left[left.idxOf i]? = Option.some i := fun i h => by
    rw [List.getElem?_eq_getElem (il i h), List.getElem_idxOf]
  have kk : ∀ i, i < gs.length → kindAt (left.map fun k => gs.getD k ("", 0)) (left.idxOf i) = kindAt gs i := fun i h => by
    unfold kindAt
    rw [List.getD_eq_getElem?_getD, List.getElem?_map, ge i h]
    rfl
  have inj : ∀ i j, i < gs.length → j < gs.length → left.idxOf i = left.idxOf j → i = j := fun i j hi hj e => by
    have h1 := ge i hi
    rw [e, ge j hj] at h1
    exact (Option.some.inj h1).symm
  have cc : ∀ e, e < gs.length → cnt (ws'.map fun x => (left.idxOf x.1, left.idxOf x.2.1, x.2.2)) (left.idxOf e) = cnt ws e := fun e he => by
    unfold cnt
    rw [List.countP_map, ← pw.countP_eq]
    refine List.countP_congr fun x hx => ?_
    have := (N.wok x (pw.mem_iff.mp hx)).e
    simp only [Function.comp, beq_iff_eq]
    exact ⟨fun z => inj _ _ this he z, fun z => by rw [z]⟩
  have back : ∀ e, e < left.length → ∃ i, i < gs.length ∧ left.idxOf i = e := fun e he => by
    refine ⟨left[e], memb _ (List.getElem_mem he), ?_⟩
    exact List.Nodup.idxOf_getElem nd e he
  obtain ⟨ρ, hρ⟩ := N.rank
  refine ⟨?_, by simpa [hl] using N.gl, by simpa [pw.length_eq] using N.wl, ?_, ?_, ?_, ?_, ?_⟩
  · intro z
    have := congrArg List.length z
    simp [hl] at this
    exact N.ne this
  · intro g hg
    obtain ⟨k, hk, rfl⟩ := List.mem_map.mp hg
    refine N.gok _ ?_
    rw [List.getD_eq_getElem?_getD, List.getElem?_eq_getElem (memb k hk)]
    exact List.getElem_mem _
  · intro y hy
    obtain ⟨x, hx, rfl⟩ := List.mem_map.mp hy
    have W := N.wok x (pw.mem_iff.mp hx)
    refine ⟨by simpa using il _ W.s, by simpa using il _ W.e, ?_, ?_, W.r, W.rl⟩
    · show kindAt _ (left.idxOf x.1) ≠ _
      rw [kk _ W.s]
      exact W.ks
    · show kindAt _ (left.idxOf x.2.1) ≠ _
      rw [kk _ W.e]
      exact W.ke
  · intro e he hk
    obtain ⟨i, hi, rfl⟩ := back e (by simpa using he)
    rw [kk i hi] at hk
    rw [cc i hi]
    exact N.one i hi hk
  · intro e he hk
    obtain ⟨i, hi, rfl⟩ := back e (by simpa using he)
    rw [kk i hi] at hk
    rw [cc i hi]
    exact N.some i hi hk
  · refine ⟨fun k => ρ (left.getD k 0), fun y hy h => ?_⟩
    obtain ⟨x, hx, rfl⟩ := List.mem_map.mp hy
    have W := N.wok x (pw.mem_iff.mp hx)
    have := hρ x (pw.mem_iff.mp hx) h
    simp only [List.getD_eq_getElem?_getD, ge _ W.s, ge _ W.e, Option.getD_some]
    exact this
theorem set_well {wl D : Addr} {H0 H : Hp} {o : HO} (d : Dr wl H0 H) (h0 : H0 D = none) (n : D ≠ wl) : Dr wl H0 (upd H D o) := by
  refine ⟨fun c u nc e => ?_, ?_⟩
  · rw [upd_ne (ne_of_none e h0)]
    exact d.but c u nc e
  · obtain ⟨xs, hx, k⟩ := d.well
    exact ⟨xs, by rw [upd_ne n.symm]; exact hx, k⟩
def tLen (K : PySem.W.Frag) (i : Nat) : TE := tCB (Evl.rLenS K) (tCons (tVar i) tNil)
/-- the wires into the gates ahead of i -/
structure WInv (gs : List Gt) (ws : List Wr) (i : Nat) : Prop where
  ok : ∀ x ∈ ws, WOk gs x ∧ (x.2.2 = [] → x.1 < x.2.1) ∧ x.2.1 < i
  one : ∀ e, e < i → kindAt gs e = "out" → cnt ws e = 1
  some : ∀ e, e < i → kindAt gs e = "first" → 1 ≤ cnt ws e
  len : ws.length ≤ 3 * i
  r2 : ∀ x ∈ ws, x.2.2.length ≤ 3
/-- .. and j wires into the gate i -/
structure WInv2 (gs : List Gt) (ws : List Wr) (i j : Nat) : Prop where
  ok : ∀ x ∈ ws, WOk gs x ∧ (x.2.2 = [] → x.1 < x.2.1) ∧ x.2.1 < i + 1
  one : ∀ e, e < i → kindAt gs e = "out" → cnt ws e = 1
  some : ∀ e, e < i → kindAt gs e = "first" → 1 ≤ cnt ws e
  here : cnt ws i = j
  len : ws.length ≤ 3 * i + j
  r2 : ∀ x ∈ ws, x.2.2.length ≤ 3
theorem WInv.go {gs : List Gt} {ws : List Wr} {i : Nat} (h : WInv gs ws i) : WInv2 gs ws i 0 := by
  refine ⟨fun x hx => ⟨(h.ok x hx).1, (h.ok x hx).2.1, by have := (h.ok x hx).2.2; omega⟩, h.one, h.some, ?_, h.len, h.r2⟩
  unfold cnt
  rw [List.countP_eq_zero]
  intro x hx z
  have := (h.ok x hx).2.2
  simp at z
  omega
theorem WInv2.app {gs : List Gt} {ws : List Wr} {i j : Nat} {x : Wr} (h : WInv2 gs ws i j) (hx : WOk gs x) (hr : x.2.2 = [] → x.1 < x.2.1) (he : x.2.1 = i) (h2 : x.2.2.length ≤ 3) : WInv2 gs (ws ++ [x]) i (j + 1) := by
  have c : ∀ e, e < i → cnt (ws ++ [x]) e = cnt ws e := fun e he' => by
    unfold cnt
    rw [List.countP_append]
    have : (x.2.1 == e) = false := by simp; omega
    simp [List.countP_cons, this]
  refine ⟨fun y hy => ?_, fun e h1 h2 => by rw [c e h1]; exact h.one e h1 h2, fun e h1 h2 => by rw [c e h1]; exact h.some e h1 h2, ?_, by have := h.len; simp; omega, fun y hy => ?_⟩
  · rcases List.mem_append.mp hy with hy | hy
    · exact h.ok y hy
    · simp at hy
      subst hy
      exact ⟨hx, hr, by omega⟩
  · have := h.here
    unfold cnt at this ⊢
    rw [List.countP_append, this]
    simp [List.countP_cons, he]
  · rcases List.mem_append.mp hy with hy | hy
    · exact h.r2 y hy
    · simp at hy
      subst hy
      exact h2
theorem WInv2.done {gs : List Gt} {ws : List Wr} {i j : Nat} (h : WInv2 gs ws i j) (h1 : kindAt gs i = "out" → j = 1) (h2 : kindAt gs i = "first" → 1 ≤ j) (hj : j ≤ 3) : WInv gs ws (i + 1) := by
  refine ⟨fun x hx => h.ok x hx, fun e he hk => ?_, fun e he hk => ?_, by have := h.len; omega, h.r2⟩
  · by_cases hi : e = i
    · subst hi
      rw [h.here]
      exact h1 hk
    · exact h.one e (by omega) hk
  · by_cases hi : e = i
    · subst hi
      rw [h.here]
      exact h2 hk
    · exact h.some e (by omega) hk
theorem WInv.net {gs : List Gt} {ws : List Wr} (h : WInv gs ws gs.length) (ne : gs ≠ []) (gl : gs.length ≤ 100) (gok : ∀ g ∈ gs, GOk g) : NetOk gs ws :=
  ⟨ne, gl, by have := h.len; omega, gok, fun x hx => (h.ok x hx).1, h.one, h.some, id, fun x hx hr => (h.ok x hx).2.1 hr⟩
/-- lists of gates, of wires, that stand tracked -/
def LG (K : PySem.W.Frag) (H : Hp) (l : Addr) (gs : List Gt) : Prop := ∃ vs, H l = some (.lst vs) ∧ All2 (GateV K H) vs gs
def LW (K : PySem.W.Frag) (H : Hp) (l : Addr) (ws : List Wr) : Prop := ∃ vs, H l = some (.lst vs) ∧ All2 (WireV K H) vs ws
theorem kindAt_get {gs : List Gt} {i : Nat} {g : Gt} (h : gs[i]? = some g) : kindAt gs i = g.1 := by
  unfold kindAt
  rw [List.getD_eq_getElem?_getD, h]
  rfl
theorem all2_eq {α β : Type} {f : β → α} : ∀ {xs : List α} {ys : List β}, All2 (fun x y => x = f y) xs ys → xs = ys.map f
  | [], [], _ => rfl
  | [], _ :: _, h => by have := h.1; simp at this
  | _ :: _, [], h => by have := h.1; simp at this
  | x :: xs, y :: ys, h => by rw [List.map_cons, ← all2_eq h.tail, ← h.head]
theorem eq_all2 {α β : Type} {f : β → α} (ys : List β) : All2 (fun x y => x = f y) (ys.map f) ys := ⟨by simp, fun i x y h1 h2 => by
  rw [List.getElem?_map, h2] at h1
  exact (Option.some.inj h1).symm⟩
theorem rgV_nat (n : Nat) : rgV 0 (n : Int) = (List.range n).map fun i => V.int (i : Nat) := by
  unfold rgV
  have : ((n : Int) - 0).toNat = n := by omega
  rw [this]
  refine List.map_congr_left fun i _ => ?_
  rw [Int.zero_add]
theorem flat_ints (l : List Nat) : (l.map fun i => V.int (i : Nat)).all flatV = true := by
  rw [List.all_eq_true]
  intro x hx
  obtain ⟨i, _, rfl⟩ := List.mem_map.mp hx
  rfl
/-- where a number stands among numbers without two alike -/
theorem idx_at {left : List Nat} {a : Nat} (h : a ∈ left) : (left.map fun i => V.int (i : Nat))[left.idxOf a]? = some (V.int (a : Nat)) := by
  rw [List.getElem?_map, List.getElem?_eq_getElem (List.idxOf_lt_length_iff.mpr h), List.getElem_idxOf]
  rfl
theorem eqV_int (a b : Int) : eqV (V.int a) (V.int b) = decide (a = b) := rfl
theorem idx_no {left : List Nat} {a m : Nat} {z : V} (nd : left.Nodup) (hm : m < left.idxOf a) (h : (left.map fun i => V.int (i : Nat))[m]? = some z) : eqV z (V.int (a : Nat)) = false := by
  rw [List.getElem?_map] at h
  cases e : left[m]? with
  | none =>
    rw [e] at h
    cases h
  | some b =>
    rw [e] at h
    cases h
    rw [eqV_int]
    refine decide_eq_false fun z => ?_
    have z : b = a := by omega
    obtain ⟨hm', eb⟩ := List.getElem?_eq_some_iff.mp e
    have := List.Nodup.idxOf_getElem nd m hm'
    rw [eb, z] at this
    omega
end Lag

set_option maxRecDepth 100000
set_option maxHeartbeats 4000000
namespace Lag
open PySem PySem.Spec PyProof.Rows L2
abbrev sWhole : Stmt := topS 9
abbrev sFromTo : Stmt := topS 10
abbrev sWorth : Stmt := topS 11
abbrev sIsGate : Stmt := topS 25
abbrev sChkGates : Stmt := topS 24
/-! ### o[i] of a list, by values -/
def rGetL (K : PySem.W.Frag) : V → V → Hp → VK → Prop := fun o i H Q => ∃ (p : Addr) (xs : List V) (j : Nat) (v : V), o = .ref p ∧ i = .int (j : Nat) ∧ SqL K H p xs ∧ xs[j]? = some v ∧ Q v H
theorem get_list {X : Cx} : PGet X (rGetL X.K) := by
  intro pins s σ H o i ov iv Q I ro ri h
  obtain ⟨p, xs, j, v, rfl, rfl, hq, he, q⟩ := h
  cases ro
  obtain ⟨t, rfl⟩ := ri
  obtain ⟨its, r, pl, hz⟩ := I.list hq
  obtain ⟨w, ew, rw'⟩ := r.get he
  have hl := r.length
  have hn := line63
  have hj : j < its.length := (List.getElem?_eq_some_iff.mp ew).1
  exact wpAny_getItem_list pl.isList (by omega) (by omega) (by simpa using ew) ⟨v, H, I, rw', q⟩
/-! ### names of built-ins, constants of the text -/
structure Bt (mg : Str → Option Value) : Prop where
  isi : mg "isinstance" = none
  int : mg "int" = none
  bool : mg "bool" = none
  len : mg "len" = none
  tuple : mg "tuple" = none
  str : mg "str" = none
  list : mg "list" = none
  all : mg "all" = none
  enum : mg "enumerate" = none
  zip : mg "zip" = none
  range : mg "range" = none
  max : mg "max" = none
structure Cns (K : PySem.W.Frag) (mg : Str → Option Value) (aK aW aF : Addr) : Prop where
  gw : ∃ t, mg "GREATEST_WORTH" = some (.int 96 t)
  ga : ∃ t, mg "GREATEST_WAIT" = some (.int 100 t)
  mK : mg "KINDS" = some (.ref aK)
  sK : ∀ H, SqT K H aK (kinds.map V.str)
  mW : mg "OUTER_KINDS" = some (.ref aW)
  sW : ∀ H, SqT K H aW [.str "in", .str "out"]
  mF : mg "KINDS_WITH_A_WIRE" = some (.ref aF)
  sF : ∀ H, SqT K H aF [.str "out", .str "first"]
theorem ty_tup {K : PySem.W.Frag} {H : Hp} {a : Addr} {xs : List V} (h : SqT K H a xs) : TyX K H (.ref a) (.type "tuple") := by
  rcases h with (h | ⟨o, h⟩) | ⟨o, its, n, hk, hc, _⟩
  · exact .base (.tup h)
  · exact .fTuple h
  · exact .kTuple hk hc
theorem ty_lst {K : PySem.W.Frag} {H : Hp} {a : Addr} {xs : List V} (h : SqL K H a xs) : TyX K H (.ref a) (.type "list") := by
  rcases h with (h | ⟨o, h⟩) | ⟨o, its, n, hk, hc, _⟩
  · exact .base (.lst h)
  · exact .base (.frz h)
  · exact .kList hk hc
/-! ### promises -/
def spWhole : Sp := fun vs H Q _ => ∃ n : Int, vs = [.int n] ∧ Q (.bl true) H
def spFromTo : Sp := fun vs H Q _ => ∃ n a b : Int, vs = [.int n, .int a, .int b] ∧ Q (.bl (decide (a ≤ n) && decide (n ≤ b))) H
def spWorth : Sp := fun vs H Q _ => ∃ n : Int, vs = [.int n] ∧ Q (.bl (decide (0 ≤ n) && decide (n ≤ 96))) H
def spIsGate (K : PySem.W.Frag) : Sp := fun vs H Q _ => ∃ (v : V) (g : Gt), vs = [v] ∧ GateV K H v g ∧ GOk g ∧ ∀ H', Same H H' → Q (.bl true) H'
/-- lists that are read -/
def RG (K : PySem.W.Frag) (H : Hp) (l : Addr) (gs : List Gt) : Prop := ∃ vs, SqL K H l vs ∧ All2 (GateV K H) vs gs
def RW (K : PySem.W.Frag) (H : Hp) (l : Addr) (ws : List Wr) : Prop := ∃ vs, SqL K H l vs ∧ All2 (WireV K H) vs ws
theorem RG.same {K : PySem.W.Frag} {H H' : Hp} {l : Addr} {gs : List Gt} (h : RG K H l gs) (s : Same H H') : RG K H' l gs := by
  obtain ⟨vs, q, a⟩ := h
  exact ⟨vs, s.seq q, a.imp fun _ _ r => r.tk (TK.same s)⟩
theorem RW.same {K : PySem.W.Frag} {H H' : Hp} {l : Addr} {ws : List Wr} (h : RW K H l ws) (s : Same H H') : RW K H' l ws := by
  obtain ⟨vs, q, a⟩ := h
  exact ⟨vs, s.seq q, a.imp fun _ _ r => r.tk (TK.same s)⟩
def spChkGates (K : PySem.W.Frag) : Sp := fun vs H Q _ => ∃ (l : Addr) (gs : List Gt), vs = [.ref l] ∧ RG K H l gs ∧ gs ≠ [] ∧ (∀ g ∈ gs, GOk g) ∧ ∀ H', Same H H' → Q .non H'
section
variable {P : Program} {w : World} {K : PySem.W.Frag} {mg : Str → Option Value} {base : Heap}
/-! ### is_whole, is_whole_from_to, is_worth -/
theorem scWhole : FnScope ["thing"] ["thing"] (defScope sWhole) := ⟨rfl, rfl, rfl, by decide +kernel, rfl, by decide +kernel, by decide +kernel⟩
abbrev DWhole (P : Program) (w : World) (K : PySem.W.Frag) (mg : Str → Option Value) (base : Heap) := Df P w K mg base 1 "is_whole" ["thing"] spWhole
theorem ok_whole {f : Addr} {fd : FuncData} (F : Fun K "is_whole" "is_whole" sWhole f fd) (hm : mg "is_whole" = some (.ref f)) (B : Bt mg) : DWhole P w K mg base f fd := by
  refine ⟨?_, hm, F.kp, F.binds fun _ _ _ _ _ _ us hl => match us, hl with | [_], _ => rfl⟩
  refine F.ok scWhole (fun vs H Q E h => ?_) (fun cdv A outer s H vs Q E hr h => ?_)
  · obtain ⟨n, rfl, _⟩ := h
    rfl
  · obtain ⟨n, rfl, q⟩ := h
    refine ⟨_, pss_one <| ps_ret <| pe_and (pe_callB call_isi (by rfl) B.isi (by decide +kernel) (pa_cons (pv 0) (pa_cons (pe_bltn (v := .ty "int") (by rfl) B.int (by decide +kernel) rfl) pa_nil)))
      (pe_one (pe_not (pe_callB call_isi (by rfl) B.isi (by decide +kernel) (pa_cons (pv 0) (pa_cons (pe_bltn (v := .ty "bool") (by rfl) B.bool (by decide +kernel) rfl) pa_nil))))), ?_⟩
    refine ⟨_, rfl, _, _, _, _, true, rfl, .ty "int", .base (.int n), kit_ty (by decide +kernel), true, rfl, iteT ?_⟩
    exact ⟨_, rfl, _, _, _, _, false, rfl, .ty "bool", .base (.int n), kit_ty (by decide +kernel), false, rfl, q⟩
theorem scFromTo : FnScope ["thing", "least", "greatest"] ["thing", "least", "greatest"] (defScope sFromTo) := ⟨rfl, rfl, rfl, by decide +kernel, rfl, by decide +kernel, by decide +kernel⟩
abbrev DFromTo (P : Program) (w : World) (K : PySem.W.Frag) (mg : Str → Option Value) (base : Heap) := Df P w K mg base 2 "is_whole_from_to" ["thing", "least", "greatest"] spFromTo
theorem ok_fromTo {f fW : Addr} {fd fdW : FuncData} (F : Fun K "is_whole_from_to" "is_whole_from_to" sFromTo f fd) (hm : mg "is_whole_from_to" = some (.ref f)) (DW : DWhole P w K mg base fW fdW) : DFromTo P w K mg base f fd := by
  refine ⟨?_, hm, F.kp, F.binds fun _ _ _ _ _ _ us hl => match us, hl with | [_, _, _], _ => rfl⟩
  refine F.ok scFromTo (fun vs H Q E h => ?_) (fun cdv A outer s H vs Q E hr h => ?_)
  · obtain ⟨n, a, b, rfl, _⟩ := h
    rfl
  · obtain ⟨n, a, b, rfl, q⟩ := h
    refine ⟨_, pss_one <| ps_ret <| pe_and (pe_call DW.ok hr (by rfl) DW.mg DW.kp DW.bd .nil pass0 (pa_cons (pv 0) pa_nil)) (pe_one (pe_chain op_le op_le (pv 1) (pv 0) (pv 2))), ?_⟩
    refine ⟨_, rfl, n, rfl, true, rfl, iteT ?_⟩
    refine ⟨_, rfl, _, rfl, _, _, rfl, rfl, _, rfl, ?_⟩
    cases e : decide (a ≤ n) with
    | false =>
      rw [e] at q
      exact iteF q
    | true =>
      rw [e] at q
      exact iteT ⟨_, rfl, _, _, rfl, rfl, q⟩
theorem scWorth : FnScope ["thing"] ["thing"] (defScope sWorth) := ⟨rfl, rfl, rfl, by decide +kernel, rfl, by decide +kernel, by decide +kernel⟩
abbrev DWorth (P : Program) (w : World) (K : PySem.W.Frag) (mg : Str → Option Value) (base : Heap) := Df P w K mg base 3 "is_worth" ["thing"] spWorth
theorem ok_worth {f fF aK aW aF : Addr} {fd fdF : FuncData} (F : Fun K "is_worth" "is_worth" sWorth f fd) (hm : mg "is_worth" = some (.ref f)) (C : Cns K mg aK aW aF) (DF : DFromTo P w K mg base fF fdF) : DWorth P w K mg base f fd := by
  obtain ⟨tg, hgw⟩ := C.gw
  refine ⟨?_, hm, F.kp, F.binds fun _ _ _ _ _ _ us hl => match us, hl with | [_], _ => rfl⟩
  refine F.ok scWorth (fun vs H Q E h => ?_) (fun cdv A outer s H vs Q E hr h => ?_)
  · obtain ⟨n, rfl, _⟩ := h
    rfl
  · obtain ⟨n, rfl, q⟩ := h
    refine ⟨_, pss_one <| ps_ret <| pe_call DF.ok hr (by rfl) DF.mg DF.kp DF.bd .nil pass0 <| pa_cons (pv 0) <| pa_cons pe_int <| pa_cons (pe_glob (v := .int 96) (by rfl) hgw ⟨_, rfl⟩) pa_nil, ?_⟩
    exact ⟨_, rfl, n, 0, 96, rfl, q⟩
/-! ### is_gate -/
theorem scIsGate : FnScope ["thing", "kind", "wait"] ["thing"] (defScope sIsGate) := ⟨rfl, rfl, rfl, by decide +kernel, rfl, by decide +kernel, by decide +kernel⟩
abbrev DIsGate (P : Program) (w : World) (K : PySem.W.Frag) (mg : Str → Option Value) (base : Heap) := Df P w K mg base 3 "is_gate" ["thing"] (spIsGate K)
theorem kinds_in {k : Str} (h : k ∈ kinds) : inV (.str k) (kinds.map V.str) = true := by
  unfold inV
  rw [List.any_eq_true]
  exact ⟨.str k, List.mem_map.mpr ⟨k, h, rfl⟩, beq_self_eq_true k⟩
theorem flat_strs (l : List Str) : (l.map V.str).all flatV = true := by
  rw [List.all_eq_true]
  intro x hx
  obtain ⟨i, _, rfl⟩ := List.mem_map.mp hx
  rfl
theorem ok_isGate {f fF aK aW aF : Addr} {fd fdF : FuncData} (F : Fun K "is_gate" "is_gate" sIsGate f fd) (hm : mg "is_gate" = some (.ref f)) (B : Bt mg) (C : Cns K mg aK aW aF) (DF : DFromTo P w K mg base fF fdF) : DIsGate P w K mg base f fd := by
  obtain ⟨tg, hga⟩ := C.ga
  refine ⟨?_, hm, F.kp, F.binds fun _ _ _ _ _ _ us hl => match us, hl with | [_], _ => rfl⟩
  refine F.ok scIsGate (fun vs H Q E h => ?_) (fun cdv A outer s H vs Q E hr h => ?_)
  · obtain ⟨v, g, rfl, _⟩ := h
    rfl
  · obtain ⟨v, g, rfl, ⟨a, rfl, sq⟩, gok, q⟩ := h
    have nd := scIsGate.nd
    refine ⟨_, pss_cons (ps_if (PW.pt (pw_or (pt_not (pt_val (pe_callB call_isi (by rfl) B.isi (by decide +kernel) (pa_cons (pv 0) (pa_cons (pe_bltn (v := .ty "tuple") (by rfl) B.tuple (by decide +kernel) rfl) pa_nil)))))
          (pw_or1 (pt_cmpR op_ne (pe_callB call_len_seq (by rfl) B.len PySem.boot_len (pa_cons (pv 0) pa_nil)) pe_int (nomark _))))) (pss_one (ps_ret pe_bl)) pss_nil) <|
      pss_cons (ps_asg (pv 0) (pg_tup (by rfl) (pgs_cons (pg_name (i := 1) nd rfl (.inl rfl)) (pgs_cons (pg_name (i := 2) nd rfl (.inl rfl)) pgs_nil)))) <|
      pss_cons (ps_if (PW.pt (pw_or (pt_not (pt_val (pe_callB call_isi (by rfl) B.isi (by decide +kernel) (pa_cons (pv 1) (pa_cons (pe_bltn (v := .ty "str") (by rfl) B.str (by decide +kernel) rfl) pa_nil)))))
          (pw_or1 (pt_cmpR op_notIn_seq (pv 1) (pe_glob (v := .ref aK) (by rfl) C.mK rfl) (by rfl))))) (pss_one (ps_ret pe_bl)) pss_nil) <|
      pss_one <| ps_ret <| pe_call DF.ok hr (by rfl) DF.mg DF.kp DF.bd .nil pass0 <| pa_cons (pv 2) <| pa_cons pe_int <| (pa_cons · pa_nil) <|
        pe_ifExp (pt_cmpR op_in_seq (pv 1) (pe_glob (v := .ref aW) (by rfl) C.mW rfl) (by rfl)) pe_int (pe_glob (v := .int 100) (by rfl) hga ⟨_, rfl⟩), ?_⟩
    refine ⟨_, rfl, _, _, _, _, true, rfl, .ty "tuple", ty_tup sq, kit_ty (by decide +kernel), true, rfl, ?_⟩
    refine iteF ⟨_, rfl, a, _, rfl, .inr sq, rfl, _, rfl, iteF ?_⟩
    refine ⟨_, rfl, a, _, rfl, sq, rfl, _, _, rfl, _, _, rfl, rfl, ?_⟩
    refine ⟨_, rfl, _, _, _, _, true, rfl, .ty "str", .base (.str g.1), kit_ty (by decide +kernel), true, rfl, ?_⟩
    refine iteF ⟨_, rfl, aK, _, rfl, .inr (C.sK H), rfl, flat_strs _, false, ?_, iteF ?_⟩
    · show V.bl (!inV (V.str g.1) (kinds.map V.str)) = V.bl false
      rw [kinds_in gok.1]
      rfl
    refine ⟨_, rfl, _, rfl, aW, _, rfl, .inr (C.sW H), rfl, rfl, _, rfl, ite2 (fun e => ?_) (fun e => ?_)⟩
    · have hp : portK g.1 := by
        have e' : inV (V.str g.1) [V.str "in", V.str "out"] = true := e
        unfold inV at e'
        rw [List.any_eq_true] at e'
        obtain ⟨x, hx, hxe⟩ := e'
        simp only [List.mem_cons, List.not_mem_nil, or_false] at hx
        rcases hx with rfl | rfl
        · exact .inl (eq_of_beq hxe).symm
        · exact .inr (eq_of_beq hxe).symm
      have h0 := gok.2.2.2 hp
      refine ⟨g.2, 0, 0, rfl, ?_⟩
      rw [h0]
      exact q H (Same.refl H)
    · refine ⟨g.2, 0, 100, rfl, ?_⟩
      rw [decide_eq_true gok.2.1, decide_eq_true gok.2.2.1]
      exact q H (Same.refl H)
end
end Lag

set_option maxRecDepth 100000
set_option maxHeartbeats 4000000
namespace Lag
open PySem PySem.Spec PyProof.Rows L2
abbrev sIsWire : Stmt := topS 27
abbrev sTaken : Stmt := topS 28
def spIsWire (K : PySem.W.Frag) : Sp := fun vs H Q _ => ∃ (v : V) (x : Wr) (n : Nat), vs = [v, .int (n : Nat)] ∧ WireV K H v x ∧ x.1 < n ∧ x.2.1 < n ∧ ROk x.2.2 ∧ x.2.2.length ≤ 1000 ∧ ∀ H', Same H H' → Q (.bl true) H'
def spTaken (K : PySem.W.Frag) : Sp := fun vs H Q _ => ∃ (v : V) (x : Wr) (lg lc : Addr) (gs : List Gt) (cs : List Nat), vs = [v, .ref lg, .ref lc] ∧ WireV K H v x ∧ RG K H lg gs ∧ SqL K H lc (cs.map fun i => V.int (i : Nat)) ∧ WOk gs x ∧ cs.length = gs.length ∧
  (kindAt gs x.2.1 = "out" → cs[x.2.1]? = some 0) ∧ Q (.bl true) H
section
variable {P : Program} {w : World} {K : PySem.W.Frag} {mg : Str → Option Value} {base : Heap}
/-! ### check_gates -/
theorem scChkGates : FnScope ["gates", "thing"] ["gates"] (defScope sChkGates) := ⟨rfl, rfl, rfl, by decide +kernel, rfl, by decide +kernel, by decide +kernel⟩
abbrev DChkGates (P : Program) (w : World) (K : PySem.W.Frag) (mg : Str → Option Value) (base : Heap) := Df P w K mg base 4 "check_gates" ["gates"] (spChkGates K)
theorem ok_chkGates {f fG : Addr} {fd fdG : FuncData} (F : Fun K "check_gates" "check_gates" sChkGates f fd) (hm : mg "check_gates" = some (.ref f)) (B : Bt mg) (DG : DIsGate P w K mg base fG fdG) : DChkGates P w K mg base f fd := by
  refine ⟨?_, hm, F.kp, F.binds fun _ _ _ _ _ _ us hl => match us, hl with | [_], _ => rfl⟩
  refine F.ok scChkGates (fun vs H Q E h => ?_) (fun cdv A outer s H vs Q E hr h => ?_)
  · obtain ⟨l, gs, rfl, _⟩ := h
    rfl
  · obtain ⟨l, gs, rfl, R, hne, gok, q⟩ := h
    have nd := scChkGates.nd
    refine ⟨_, pss_cons (ps_if (PW.pt (pw_or (pt_not (pt_val (pe_callB call_isi (by rfl) B.isi (by decide +kernel) (pa_cons (pv 0) (pa_cons (pe_bltn (v := .ty "list") (by rfl) B.list (by decide +kernel) rfl) pa_nil)))))
          (pw_or1 (pt_cmpR op_eq (pe_callB call_len_seq (by rfl) B.len PySem.boot_len (pa_cons (pv 0) pa_nil)) pe_int (nomark _))))) (pss_one ps_never) pss_nil) <|
      pss_one <| ps_for PassesOwn.never rfl (pi_list (pv 0)) (pg_name (i := 1) nd rfl (.inl rfl)) <|
        pss_one <| ps_if (pt_not (pt_val (pe_call DG.ok hr (by rfl) DG.mg DG.kp DG.bd .nil pass0 (pa_cons (pv 1) pa_nil)))) (pss_one ps_never) pss_nil, ?_⟩
    obtain ⟨gv, sg, ga⟩ := R
    have hl : gv.length = gs.length := ga.1
    have hpos : 0 < gs.length := by
      cases gs with
      | nil => exact absurd rfl hne
      | cons _ _ => simp
    refine ⟨_, rfl, _, _, _, _, true, rfl, .ty "list", ty_lst sg, kit_ty (by decide +kernel), true, rfl, ?_⟩
    refine iteF ⟨_, rfl, l, gv, rfl, .inl sg, rfl, false, ?_, iteF ?_⟩
    · show V.bl (decide (V.int (gv.length : Int) = V.int 0)) = V.bl false
      rw [decide_eq_false]
      intro z
      have := V.int.inj z
      omega
    refine ⟨_, rfl, l, rfl, ⟨_, sg⟩, for_list (K := K) (a := l) (xs := gv) (fun i σ H2 => ∃ y, σ = [some (.ref l), y] ∧ Same H H2) ⟨_, rfl, Same.refl H⟩ (fun i σ H2 _ ⟨_, _, sm⟩ => sm.seq sg) ?_ ?_⟩
    · rintro i x σ H2 hx ⟨y, rfl, sm⟩
      obtain ⟨g, hg, gv⟩ := ga.get hx
      refine ⟨_, rfl, x, g, rfl, gv.tk (TK.same sm), gok g (List.mem_of_getElem? hg), fun H3 sm3 => ⟨true, rfl, iteF ⟨_, rfl, sm.trans sm3⟩⟩⟩
    · rintro σ H2 ⟨y, rfl, sm⟩
      exact q H2 sm
/-! ### is_wire -/
abbrev nIsWire : List Str := ["thing", "many_gates", "start", "end", "held", "worth"]
theorem scIsWire : FnScope nIsWire ["thing", "many_gates"] (defScope sIsWire) := ⟨rfl, rfl, rfl, by decide +kernel, rfl, by decide +kernel, by decide +kernel⟩
abbrev DIsWire (P : Program) (w : World) (K : PySem.W.Frag) (mg : Str → Option Value) (base : Heap) := Df P w K mg base 4 "is_wire" ["thing", "many_gates"] (spIsWire K)
theorem ok_isWire {f fF fW : Addr} {fd fdF fdW : FuncData} (F : Fun K "is_wire" "is_wire" sIsWire f fd) (hm : mg "is_wire" = some (.ref f)) (B : Bt mg) (DF : DFromTo P w K mg base fF fdF) (DW : DWorth P w K mg base fW fdW) : DIsWire P w K mg base f fd := by
  refine ⟨?_, hm, F.kp, F.binds fun _ _ _ _ _ _ us hl => match us, hl with | [_, _], _ => rfl⟩
  refine F.ok scIsWire (fun vs H Q E h => ?_) (fun cdv A outer s H vs Q E hr h => ?_)
  · obtain ⟨v, x, n, rfl, _⟩ := h
    rfl
  · obtain ⟨v, x, n, rfl, ⟨a, b, rfl, sq1, sq2⟩, hs, he, rok, rl, q⟩ := h
    have nd := scIsWire.nd
    have hr2 : Room 2 _ := hr.mono (by decide)
    refine ⟨_, pss_cons (ps_if (PW.pt (pw_or (pt_not (pt_val (pe_callB call_isi (by rfl) B.isi (by decide +kernel) (pa_cons (pv 0) (pa_cons (pe_bltn (v := .ty "tuple") (by rfl) B.tuple (by decide +kernel) rfl) pa_nil)))))
          (pw_or1 (pt_cmpR op_ne (pe_callB call_len_seq (by rfl) B.len PySem.boot_len (pa_cons (pv 0) pa_nil)) pe_int (nomark _))))) (pss_one (ps_ret pe_bl)) pss_nil) <|
      pss_cons (ps_asg (pv 0) (pg_tup (by rfl) (pgs_cons (pg_name (i := 2) nd rfl (.inl rfl)) (pgs_cons (pg_name (i := 3) nd rfl (.inl rfl)) (pgs_cons (pg_name (i := 4) nd rfl (.inl rfl)) pgs_nil))))) <|
      pss_cons (ps_if (PW.pt (pw_or (pt_not (pt_val (pe_call DF.ok hr2 (by rfl) DF.mg DF.kp DF.bd .nil pass0 (pa_cons (pv 2) (pa_cons pe_int (pa_cons (pe_op op_sub (pv 1) pe_int) pa_nil))))))
          (pw_or1 (pt_not (pt_val (pe_call DF.ok hr2 (by rfl) DF.mg DF.kp DF.bd .nil pass0 (pa_cons (pv 3) (pa_cons pe_int (pa_cons (pe_op op_sub (pv 1) pe_int) pa_nil))))))))) (pss_one (ps_ret pe_bl)) pss_nil) <|
      pss_one <| ps_ret <| pe_and (pe_callB call_isi (by rfl) B.isi (by decide +kernel) (pa_cons (pv 4) (pa_cons (pe_bltn (v := .ty "tuple") (by rfl) B.tuple (by decide +kernel) rfl) pa_nil))) <| pe_one <|
        pe_callB (cr_all rfl) (by rfl) B.all (by decide +kernel) <| (pa_cons · pa_nil) <| pe_lc (own := [("worth", 5)]) (g := gName 5) (tt := tYes) (te := tCall spWorth [] E0 (tCons (tVar 5) tNil)) rfl nd (pi_tup (pv 4)) (blkOk_by (N := nIsWire) (sc := defScope sIsWire) (own := [("worth", 5)]) (by decide +kernel))
          (fun _ _ _ _ _ => pg_name (i := 5) nd rfl (.inl rfl)) (fun _ _ _ _ _ => pts_nil) (fun _ _ _ _ _ => pe_call DW.ok hr (by rfl) DW.mg DW.kp DW.bd .nil pass0 (pa_cons (pv 5) pa_nil)), ?_⟩
    refine ⟨_, rfl, _, _, _, _, true, rfl, .ty "tuple", ty_tup sq1, kit_ty (by decide +kernel), true, rfl, ?_⟩
    refine iteF ⟨_, rfl, a, _, rfl, .inr sq1, rfl, _, rfl, iteF ?_⟩
    refine ⟨_, rfl, a, _, rfl, sq1, rfl, _, _, rfl, _, _, rfl, _, _, rfl, rfl, ?_⟩
    refine ⟨_, rfl, _, rfl, _, _, rfl, rfl, _, _, _, rfl, true, ?_, iteF ?_⟩
    · rw [decide_eq_true (by omega), decide_eq_true (by omega)]
      rfl
    refine ⟨_, rfl, _, rfl, _, _, rfl, rfl, _, _, _, rfl, true, ?_, iteF ?_⟩
    · rw [decide_eq_true (by omega), decide_eq_true (by omega)]
      rfl
    refine ⟨_, rfl, _, _, _, _, true, rfl, .ty "tuple", ty_tup sq2, kit_ty (by decide +kernel), true, rfl, iteT ?_⟩
    refine ⟨_, rfl, b, rfl, ⟨_, sq2⟩, fun D hD => ?_⟩
    refine lc_tup (K := K) (a := b) (xs := x.2.2.map V.int) (fun i Hc => Hc D = some (.lst ((List.replicate i true).map V.bl)) ∧ Same H Hc) ⟨upd_same, same_new hD⟩ (fun i Hc _ ⟨_, sm⟩ => (TK.same sm).seq sq2) ?_ ?_
    · rintro i y Hc hy ⟨hc, sm⟩
      rw [List.getElem?_map] at hy
      cases ey : x.2.2[i]? with
      | none =>
        rw [ey] at hy
        cases hy
      | some z =>
      rw [ey] at hy
      cases hy
      have hz := rok z (List.mem_of_getElem? ey)
      have hi : i < x.2.2.length := (List.getElem?_eq_some_iff.mp ey).1
      refine ⟨rfl, tyes ?_⟩
      refine ⟨_, rfl, z, rfl, _, hc, by rw [List.length_map, List.length_replicate]; exact small1000 (by omega), ?_, same_mut sm hD⟩
      rw [upd_same, decide_eq_true hz.1, decide_eq_true hz.2, List.replicate_succ', List.map_append]
      rfl
    · rintro Hc ⟨hc, sm⟩
      refine ⟨D, _, rfl, SqL.of hc, ?_⟩
      have e : (List.replicate (x.2.2.map V.int).length true).all id = true := by
        rw [List.all_eq_true]
        intro y hy
        rw [List.mem_replicate] at hy
        rw [hy.2]
        rfl
      rw [e]
      exact q Hc sm
/-! ### is_taken -/
theorem scTaken : FnScope ["wire", "gates", "come", "start", "end"] ["wire", "gates", "come"] (defScope sTaken) := ⟨rfl, rfl, rfl, by decide +kernel, rfl, by decide +kernel, by decide +kernel⟩
abbrev DTaken (P : Program) (w : World) (K : PySem.W.Frag) (mg : Str → Option Value) (base : Heap) := Df P w K mg base 1 "is_taken" ["wire", "gates", "come"] (spTaken K)
theorem ok_taken {f : Addr} {fd : FuncData} (F : Fun K "is_taken" "is_taken" sTaken f fd) (hm : mg "is_taken" = some (.ref f)) : DTaken P w K mg base f fd := by
  refine ⟨?_, hm, F.kp, F.binds fun _ _ _ _ _ _ us hl => match us, hl with | [_, _, _], _ => rfl⟩
  refine F.ok scTaken (fun vs H Q E h => ?_) (fun cdv A outer s H vs Q E hr h => ?_)
  · obtain ⟨v, x, lg, lc, gs, cs, rfl, _⟩ := h
    rfl
  · obtain ⟨v, x, lg, lc, gs, cs, rfl, ⟨a, b, rfl, sq1, sq2⟩, ⟨gv, sg, ga⟩, sc, W, hcl, h0, q⟩ := h
    have nd := scTaken.nd
    refine ⟨_, pss_cons (ps_par (i := 3) (j := 4) (by rfl) nd rfl rfl (by decide) rfl rfl (pa_cons (pe_ix ix_tup (pv 0) pe_int (fun _ _ => rfl)) (pa_cons (pe_ix ix_tup (pv 0) pe_int (fun _ _ => rfl)) pa_nil)) (by rfl)) <|
      pss_cons (ps_if (PW.pt (pw_or (pt_cmpR op_eq (pe_ix ix_tup (pe_ix ix_list (pv 1) (pv 3) (fun _ _ => rfl)) pe_int (fun _ _ => rfl)) pe_str (nomark _)) (pw_or1 (pt_cmpR op_eq (pe_ix ix_tup (pe_ix ix_list (pv 1) (pv 4) (fun _ _ => rfl)) pe_int (fun _ _ => rfl)) pe_str (nomark _))))) (pss_one (ps_ret pe_bl)) pss_nil) <|
      pss_one <| ps_ret <| pe_or (pe_cmpR op_ne (pe_ix ix_tup (pe_ix ix_list (pv 1) (pv 4) (fun _ _ => rfl)) pe_int (fun _ _ => rfl)) pe_str (nomark _)) (pe_one (pe_cmpR op_eq (pe_ix ix_list (pv 2) (pv 4) (fun _ _ => rfl)) pe_int (nomark _))), ?_⟩
    have hl : gv.length = gs.length := ga.1
    obtain ⟨vs1, g1, e1, f1, a1, rfl, s1⟩ : ∃ vs1 g1, gv[x.1]? = some vs1 ∧ gs[x.1]? = some g1 ∧ GateV K H vs1 g1 := by
      have e1 : gs[x.1]? = some (gs[x.1]'W.s) := List.getElem?_eq_getElem W.s
      obtain ⟨y, hy, r⟩ := ga.getR e1
      exact ⟨y, _, hy, e1, r⟩
    obtain ⟨vs2, g2, e2, f2, a2, rfl, s2⟩ : ∃ vs2 g2, gv[x.2.1]? = some vs2 ∧ gs[x.2.1]? = some g2 ∧ GateV K H vs2 g2 := by
      have e1 : gs[x.2.1]? = some (gs[x.2.1]'W.e) := List.getElem?_eq_getElem W.e
      obtain ⟨y, hy, r⟩ := ga.getR e1
      exact ⟨y, _, hy, e1, r⟩
    have k1 := kindAt_get f1
    have k2 := kindAt_get f2
    refine ⟨_, rfl, a, _, 0, _, rfl, rfl, sq1, atI_nat (j := 0) rfl, _, rfl, a, _, 1, _, rfl, rfl, sq1, atI_nat (j := 1) rfl, _, _, rfl, ?_⟩
    refine ⟨_, rfl, _, rfl, lg, gv, _, _, rfl, rfl, sg, atI_nat e1, a1, _, 0, _, rfl, rfl, s1, atI_nat (j := 0) rfl, rfl, false, ?_, iteF ?_⟩
    · show V.bl (decide (V.str g1.1 = V.str "out")) = V.bl false
      rw [decide_eq_false]
      intro z
      exact W.ks (by rw [k1]; exact V.str.inj z)
    refine ⟨_, rfl, _, rfl, lg, gv, _, _, rfl, rfl, sg, atI_nat e2, a2, _, 0, _, rfl, rfl, s2, atI_nat (j := 0) rfl, rfl, false, ?_, iteF ?_⟩
    · show V.bl (decide (V.str g2.1 = V.str "in")) = V.bl false
      rw [decide_eq_false]
      intro z
      exact W.ke (by rw [k2]; exact V.str.inj z)
    refine ⟨_, rfl, _, rfl, lg, gv, _, _, rfl, rfl, sg, atI_nat e2, a2, _, 0, _, rfl, rfl, s2, atI_nat (j := 0) rfl, rfl, _, rfl, ite2 (fun e => ?_) (fun e => ?_)⟩
    · exact q
    · have hk : kindAt gs x.2.1 = "out" := by
        rw [k2]
        refine Classical.byContradiction fun z => e ?_
        show (!decide (V.str g2.1 = V.str "out")) = true
        rw [decide_eq_false (fun y => z (V.str.inj y))]
        rfl
      have hc := h0 hk
      refine ⟨_, rfl, _, rfl, lc, _, _, .int 0, rfl, rfl, sc, atI_nat (by rw [List.getElem?_map, hc]; rfl), rfl, q⟩
end
end Lag

set_option maxRecDepth 100000
set_option maxHeartbeats 4000000
namespace Lag
open PySem PySem.Spec PyProof.Rows L2
abbrev sChkWires : Stmt := topS 26
def cntL (n : Nat) (ws : List Wr) : List Nat := (List.range n).map (cnt ws)
theorem cntL_len (n : Nat) (ws : List Wr) : (cntL n ws).length = n := by simp [cntL]
theorem cntL_get {n e : Nat} {ws : List Wr} (h : e < n) : (cntL n ws)[e]? = some (cnt ws e) := by
  unfold cntL
  rw [List.getElem?_map, List.getElem?_range h]
  rfl
theorem cntL_nil (n : Nat) : cntL n [] = List.replicate n 0 := by
  refine List.ext_getElem? fun i => ?_
  by_cases h : i < n
  · rw [cntL_get h, List.getElem?_replicate, if_pos h]
    rfl
  · rw [List.getElem?_eq_none (by rw [cntL_len]; omega), List.getElem?_eq_none (by simp; omega)]
theorem cnt_app (ws : List Wr) (x : Wr) (e : Nat) : cnt (ws ++ [x]) e = cnt ws e + if x.2.1 = e then 1 else 0 := by
  unfold cnt
  rw [List.countP_append, List.countP_cons, List.countP_nil]
  by_cases h : x.2.1 = e <;> simp [h]
theorem cntL_app {n : Nat} {ws : List Wr} {x : Wr} (h : x.2.1 < n) : (cntL n ws).set x.2.1 (cnt ws x.2.1 + 1) = cntL n (ws ++ [x]) := by
  refine List.ext_getElem? fun i => ?_
  by_cases hi : i < n
  · rw [cntL_get hi, cnt_app, List.getElem?_set]
    by_cases e : x.2.1 = i
    · rw [if_pos e, if_pos e, if_pos (by rw [cntL_len]; exact h), e]
    · rw [if_neg e, if_neg e, cntL_get hi]
      rfl
  · rw [List.getElem?_eq_none (by rw [List.length_set, cntL_len]; omega), List.getElem?_eq_none (by rw [cntL_len]; omega)]
theorem cnt_take_lt {ws : List Wr} {i : Nat} {x : Wr} (h : ws[i]? = some x) : cnt (ws.take i) x.2.1 + 1 ≤ cnt ws x.2.1 := by
  have e : ws.take (i + 1) = ws.take i ++ [x] := by rw [List.take_add_one, h]; rfl
  have h1 : cnt (ws.take (i + 1)) x.2.1 ≤ cnt ws x.2.1 := by
    unfold cnt
    exact List.Sublist.countP_le (List.take_sublist _ _)
  rw [e, cnt_app, if_pos rfl] at h1
  exact h1
def spChkWires (K : PySem.W.Frag) : Sp := fun vs H Q _ => ∃ (lg lw : Addr) (gs : List Gt) (ws : List Wr), vs = [.ref lg, .ref lw] ∧ RG K H lg gs ∧ RW K H lw ws ∧ NetOk gs ws ∧ ∀ H', Same H H' → Q .non H'
theorem map_set' {α β : Type} (f : α → β) (l : List α) (i : Nat) (a : α) : (l.map f).set i (f a) = (l.set i a).map f := by simp [List.map_set]
section
variable {P : Program} {w : World} {K : PySem.W.Frag} {mg : Str → Option Value} {base : Heap}
theorem scChkWires : FnScope ["gates", "wires", "come", "place", "thing", "gate", "many"] ["gates", "wires"] (defScope sChkWires) := ⟨rfl, rfl, rfl, by decide +kernel, rfl, by decide +kernel, by decide +kernel⟩
abbrev DChkWires (P : Program) (w : World) (K : PySem.W.Frag) (mg : Str → Option Value) (base : Heap) := Df P w K mg base 5 "check_wires" ["gates", "wires"] (spChkWires K)
theorem ok_chkWires {f fW fT aK aW aF : Addr} {fd fdW fdT : FuncData} (F : Fun K "check_wires" "check_wires" sChkWires f fd) (hm : mg "check_wires" = some (.ref f)) (B : Bt mg) (C : Cns K mg aK aW aF) (DW : DIsWire P w K mg base fW fdW) (DT : DTaken P w K mg base fT fdT) : DChkWires P w K mg base f fd := by
  refine ⟨?_, hm, F.kp, F.binds fun _ _ _ _ _ _ us hl => match us, hl with | [_, _], _ => rfl⟩
  refine F.ok scChkWires (fun vs H Q E h => ?_) (fun cdv A outer s H vs Q E hr h => ?_)
  · obtain ⟨lg, lw, gs, ws, rfl, _⟩ := h
    rfl
  · obtain ⟨lg, lw, gs, ws, rfl, RGs, ⟨wv, sw, wa⟩, N, q⟩ := h
    have nd := scChkWires.nd
    have hr1 : Room 1 _ := hr.mono (by decide)
    refine ⟨_, pss_cons (ps_if (pt_not (pt_val (pe_callB call_isi (by rfl) B.isi (by decide +kernel) (pa_cons (pv 1) (pa_cons (pe_bltn (v := .ty "list") (by rfl) B.list (by decide +kernel) rfl) pa_nil))))) (pss_one ps_never) pss_nil) <|
      pss_cons (ps_set (i := 2) nd rfl (Or.inl rfl) (pe_op op_rep (pe_lst (pa_cons pe_int pa_nil)) (pe_callB call_len_seq (by rfl) B.len PySem.boot_len (pa_cons (pv 0) pa_nil)))) <|
      pss_cons (ps_for PassesOwn.never rfl (pi_enum (by rfl) B.enum (pa_cons (pv 1) pa_nil)) (pg_tup rfl (pgs_cons (pg_name (i := 3) nd rfl (Or.inl rfl)) (pgs_cons (pg_name (i := 4) nd rfl (Or.inl rfl)) pgs_nil))) <|
        pss_cons (ps_if (PW.pt (pw_or (pt_not (pt_val (pe_call DW.ok hr (by rfl) DW.mg DW.kp DW.bd .nil pass0 (pa_cons (pv 4) (pa_cons (pe_callB call_len_seq (by rfl) B.len PySem.boot_len (pa_cons (pv 0) pa_nil)) pa_nil)))))
            (pw_or1 (pt_not (pt_val (pe_call DT.ok hr1 (by rfl) DT.mg DT.kp DT.bd .nil pass0 (pa_cons (pv 4) (pa_cons (pv 0) (pa_cons (pv 2) pa_nil))))))))) (pss_one ps_never) pss_nil) <|
        pss_one <| ps_augS (pv 2) (pe_ix ix_tup (pv 4) pe_int (fun _ _ => rfl)) get_list pe_int ip_add set_list) <|
      pss_one <| ps_for PassesOwn.never rfl (pi_zip (by rfl) B.zip (pa_cons (pv 0) (pa_cons (pv 2) pa_nil))) (pg_tup rfl (pgs_cons (pg_name (i := 5) nd rfl (Or.inl rfl)) (pgs_cons (pg_name (i := 6) nd rfl (Or.inl rfl)) pgs_nil))) <|
        pss_one <| ps_if (PW.pt (pw_and (pt_cmpR op_in_seq (pe_ix ix_tup (pv 5) pe_int (fun _ _ => rfl)) (pe_glob (v := .ref aF) (by rfl) C.mF rfl) (by rfl)) (pw_and1 (pt_cmpR op_eq (pv 6) pe_int (nomark _))))) (pss_one ps_never) pss_nil, ?_⟩
    obtain ⟨gv, sg, ga⟩ := id RGs
    have hlg : gv.length = gs.length := ga.1
    have hlw : wv.length = ws.length := wa.1
    have hgl := N.gl
    refine ⟨_, rfl, _, _, _, _, true, rfl, .ty "list", ty_lst sw, kit_ty (by decide +kernel), true, rfl, iteF ?_⟩
    refine ⟨(by show 1 ≤ sizeLine; decide), fun l0 hl0 => ?_⟩
    refine ⟨_, rfl, lg, gv, rfl, .inl ((same_new hl0).seq sg), ?_⟩
    refine ⟨l0, _, _, rfl, rfl, upd_same, by omega, by omega, ?_, fun lc hlc => ?_⟩
    · show 1 * _ ≤ sizeLine
      have : 1 * ((gv.length : Int)).toNat ≤ 1000 := by omega
      exact Nat.le_of_lt (small1000 this)
    have sm0 : Same H (upd H l0 (.lst [.int 0])) := same_new hl0
    have hlc0 : H lc = none := sm0.free hlc
    have e0 : (List.replicate ((gv.length : Int)).toNat [V.int 0]).flatten = (cntL gs.length (ws.take 0)).map fun i => V.int (i : Nat) := by
      rw [List.take_zero, cntL_nil, List.map_replicate, ← hlg, Int.toNat_natCast]
      generalize gv.length = n
      induction n with
      | zero => rfl
      | succ n ih =>
        rw [List.replicate_succ, List.flatten_cons, ih, List.replicate_succ]
        rfl
    rw [e0]
    -- for place, thing in enumerate(wires)
    refine ⟨_, rfl, lw, wv, rfl, (sm0.trans (same_new hlc)).seq sw, for_it (walk_enum (K := K) (a := lw) (xs := wv)) (fun i σ H2 => ∃ s3 s4 : Option V, σ = [some (.ref lg), some (.ref lw), some (.ref lc), s3, s4, none, none] ∧
        H2 lc = some (.lst ((cntL gs.length (ws.take i)).map fun i => V.int (i : Nat))) ∧ Same H H2)
      ⟨_, _, rfl, upd_same, sm0.trans (same_new hlc)⟩ (fun i σ H2 _ ⟨_, _, _, _, sm⟩ => sm.seq sw) ?_ ?_⟩
    · rintro i v σ H2 H2' hi ⟨s3, s4, rfl, hc, sm⟩ ⟨T, x1, y, rfl, hT, rfl, ex, ey⟩
      cases ex
      obtain ⟨x, hx, wx⟩ := wa.get ey
      have W := N.wok x (List.mem_of_getElem? hx)
      have hxi : i < ws.length := (List.getElem?_eq_some_iff.mp hx).1
      have smT : Same H2 (upd H2 T (.tup [.int (i : Nat), y])) := same_new hT
      have sm2 := sm.trans smT
      refine ⟨T, _, rfl, .inl (.inl upd_same), rfl, _, _, rfl, _, _, rfl, rfl, ?_⟩
      refine ⟨_, rfl, _, rfl, lg, gv, rfl, .inl (sm2.seq sg), y, x, gv.length, rfl, wx.tk (TK.same sm2), by rw [hlg]; exact W.s, by rw [hlg]; exact W.e, W.r, by have := W.rl; omega, fun H3 sm3 => ⟨true, rfl, iteF ?_⟩⟩
      have sm4 := sm2.trans sm3
      have hc3 := sm3 _ _ (smT _ _ hc)
      refine ⟨_, rfl, _, rfl, _, rfl, y, x, lg, lc, gs, cntL gs.length (ws.take i), rfl, wx.tk (TK.same sm4), RGs.same sm4, SqL.of hc3, W, cntL_len _ _, fun hk => ?_, true, rfl, iteF ?_⟩
      · rw [cntL_get W.e]
        have h1 := N.one _ W.e hk
        have h2 := cnt_take_lt hx
        congr 1
        omega
      obtain ⟨a, b, rfl, sq1, sq2⟩ := wx
      have hlen : x.2.1 < (cntL gs.length (ws.take i)).length := by rw [cntL_len]; exact W.e
      refine ⟨_, rfl, _, rfl, a, _, 1, _, rfl, rfl, (TK.same sm4).seq sq1, atI_nat (j := 1) rfl, lc, _, x.2.1, .int (cnt (ws.take i) x.2.1 : Nat), rfl, rfl, SqL.of hc3, by rw [List.getElem?_map, cntL_get W.e]; rfl, _, _, rfl, rfl, lc, _, _, x.2.1, rfl, rfl, hc3, Evl.ixN_nat (by rw [List.length_map]; exact hlen), ?_⟩
      refine ⟨_, _, rfl, ?_, same_mut sm4 hlc0⟩
      have et : ws.take (i + 1) = ws.take i ++ [x] := by rw [List.take_add_one, hx]; rfl
      rw [upd_same, et, ← cntL_app W.e, ← map_set']
      rfl
    · rintro σ H2 ⟨s3, s4, rfl, hc, sm⟩
      rw [hlw, List.take_length] at hc
      -- for gate, many in zip(gates, come)
      refine ⟨_, rfl, _, rfl, lg, lc, gv, _, rfl, sm.seq sg, SqL.of hc, RZ.for_zipL (K := K) (a := lg) (b := lc) (xs := gv) (by rw [List.length_map, cntL_len]; exact hlg) (fun i σ H3 => ∃ s5 s6 : Option V, σ = [some (.ref lg), some (.ref lw), some (.ref lc), s3, s4, s5, s6] ∧ Same H2 H3)
        ⟨_, _, rfl, Same.refl H2⟩ (fun i σ H3 ⟨_, _, _, sm3⟩ => ⟨(sm.trans sm3).seq sg, SqL.of (sm3 _ _ hc)⟩) ?_ ?_⟩
      · rintro i x y T σ H3 hx hy ⟨s5, s6, rfl, sm3⟩ hT
        obtain ⟨g, hg, a, rfl, sq⟩ := ga.get hx
        have hgi : i < gs.length := (List.getElem?_eq_some_iff.mp hg).1
        rw [List.getElem?_map, cntL_get hgi] at hy
        cases hy
        have sm4 : Same H (upd H3 T (.tup [.ref a, .int (cnt ws i : Nat)])) := (sm.trans sm3).trans (same_new hT)
        refine ⟨T, _, rfl, .inl (.inl upd_same), rfl, _, _, rfl, _, _, rfl, rfl, ?_⟩
        refine ⟨_, rfl, a, _, 0, _, rfl, rfl, (TK.same sm4).seq sq, atI_nat (j := 0) rfl, aF, _, rfl, .inr (C.sF _), rfl, rfl, _, rfl, ite2 (fun e => ?_) (fun e => ?_)⟩
        · have e' : inV (V.str g.1) [V.str "out", V.str "first"] = true := e
          have hpos : 1 ≤ cnt ws i := by
            unfold inV at e'
            rw [List.any_eq_true] at e'
            obtain ⟨x, hx, hxe⟩ := e'
            simp only [List.mem_cons, List.not_mem_nil, or_false] at hx
            rcases hx with rfl | rfl
            · have := N.one i hgi (by rw [kindAt_get hg]; exact (eq_of_beq hxe).symm)
              omega
            · exact N.some i hgi (by rw [kindAt_get hg]; exact (eq_of_beq hxe).symm)
          refine ⟨_, rfl, rfl, false, ?_, iteF ⟨_, _, rfl, sm3.trans (same_new hT)⟩⟩
          show V.bl (decide (V.int (cnt ws i : Int) = V.int 0)) = V.bl false
          rw [decide_eq_false]
          intro z
          have := V.int.inj z
          omega
        · exact iteF ⟨_, _, rfl, sm3.trans (same_new hT)⟩
      · rintro σ H3 ⟨s5, s6, rfl, sm3⟩
        exact q H3 (sm.trans sm3)
end
end Lag

set_option maxRecDepth 100000
set_option maxHeartbeats 4000000
namespace Lag
open PySem PySem.Spec PyProof.Rows L2
/-! ### the order of gates along wires without registers: the mathematics -/
def bare (ws : List Wr) : List (Nat × Nat) := (ws.filter fun x => x.2.2.isEmpty).map fun x => (x.1, x.2.1)
/-- how many wires of B lead into e from gates that are not in dn -/
def mis (B : List (Nat × Nat)) (dn : List Nat) (e : Nat) : Nat := B.countP fun b => b.2 == e && !dn.contains b.1
def frm (B : List (Nat × Nat)) (g e : Nat) : Nat := B.countP fun b => b.1 == g && b.2 == e
theorem mis_split {B : List (Nat × Nat)} {dn : List Nat} {g : Nat} (h : g ∉ dn) (e : Nat) : mis B dn e = mis B (dn ++ [g]) e + frm B g e := by
  unfold mis frm
  induction B with
  | nil => rfl
  | cons b B ih =>
    rw [List.countP_cons, List.countP_cons, List.countP_cons, ih]
    by_cases h1 : b.2 = e
    · by_cases h2 : b.1 = g
      · have : b.1 ∉ dn := by rw [h2]; exact h
        simp [h1, h2, h]
        omega
      · by_cases h3 : b.1 ∈ dn
        · simp [h1, h2, h3]
        · simp [h1, h2, h3]
          omega
    · simp [h1]
theorem mis_zero {B : List (Nat × Nat)} {dn : List Nat} {e : Nat} (h : mis B dn e = 0) {b : Nat × Nat} (hb : b ∈ B) (he : b.2 = e) : b.1 ∈ dn := by
  unfold mis at h
  rw [List.countP_eq_zero] at h
  have := h b hb
  simp [he] at this
  exact this
theorem frm_drop {B : List (Nat × Nat)} {j : Nat} {b : Nat × Nat} (h : B[j]? = some b) (g e : Nat) : frm (B.drop j) g e = frm (B.drop (j + 1)) g e + if b.1 = g ∧ b.2 = e then 1 else 0 := by
  obtain ⟨hj, rfl⟩ := List.getElem?_eq_some_iff.mp h
  rw [List.drop_eq_getElem_cons hj]
  unfold frm
  rw [List.countP_cons]
  by_cases h1 : B[j].1 = g <;> by_cases h2 : B[j].2 = e <;> simp [h1, h2]
structure KI (B : List (Nat × Nat)) (n : Nat) (placed : List Nat) (d : Nat) : Prop where
  nd : placed.Nodup
  lt : ∀ e ∈ placed, e < n
  le : d ≤ placed.length
  iff : ∀ e, e < n → (e ∈ placed ↔ mis B (placed.take d) e = 0)
  top : ∀ (j e : Nat), placed[j]? = some e → ∀ b ∈ B, b.2 = e → b.1 ∈ placed.take j
structure KJ (B : List (Nat × Nat)) (n : Nat) (placed : List Nat) (d g j : Nat) : Prop where
  nd : placed.Nodup
  lt : ∀ e ∈ placed, e < n
  at_ : placed[d]? = some g
  iff : ∀ e, e < n → (e ∈ placed ↔ mis B (placed.take (d + 1)) e + frm (B.drop j) g e = 0)
  top : ∀ (j e : Nat), placed[j]? = some e → ∀ b ∈ B, b.2 = e → b.1 ∈ placed.take j
theorem take_add {l : List Nat} {d g : Nat} (h : l[d]? = some g) : l.take (d + 1) = l.take d ++ [g] := by rw [List.take_add_one, h]; rfl
theorem nodup_take {l : List Nat} {d g : Nat} (nd : l.Nodup) (h : l[d]? = some g) : g ∉ l.take d := by
  intro hm
  obtain ⟨i, hi⟩ := List.getElem?_of_mem hm
  have h1 : i < d := by
    have := (List.getElem?_eq_some_iff.mp hi).1
    rw [List.length_take] at this
    omega
  rw [List.getElem?_take_of_lt h1] at hi
  have := nd_ix nd hi h
  omega
theorem KI.go {B : List (Nat × Nat)} {n : Nat} {placed : List Nat} {d g : Nat} (h : KI B n placed d) (hg : placed[d]? = some g) : KJ B n placed d g 0 :=
  ⟨h.nd, h.lt, hg, fun e he => by rw [h.iff e he, take_add hg, mis_split (nodup_take h.nd hg), List.drop_zero], h.top⟩
theorem KJ.done {B : List (Nat × Nat)} {n : Nat} {placed : List Nat} {d g : Nat} (h : KJ B n placed d g B.length) : KI B n placed (d + 1) := by
  have hd : d < placed.length := (List.getElem?_eq_some_iff.mp h.at_).1
  refine ⟨h.nd, h.lt, hd, fun e he => ?_, h.top⟩
  rw [h.iff e he, List.drop_length]
  rfl
theorem KJ.skip {B : List (Nat × Nat)} {n : Nat} {placed : List Nat} {d g j : Nat} {b : Nat × Nat} (h : KJ B n placed d g j) (hb : B[j]? = some b) (hg : b.1 ≠ g) : KJ B n placed d g (j + 1) :=
  ⟨h.nd, h.lt, h.at_, fun e he => by rw [h.iff e he, frm_drop hb, if_neg (fun z => hg z.1)]; rfl, h.top⟩
theorem KJ.not {B : List (Nat × Nat)} {n : Nat} {placed : List Nat} {d g j : Nat} {b : Nat × Nat} (h : KJ B n placed d g j) (hb : B[j]? = some b) (hg : b.1 = g) (hn : mis B (placed.take (d + 1)) b.2 + frm (B.drop (j + 1)) g b.2 ≠ 0) : KJ B n placed d g (j + 1) := by
  refine ⟨h.nd, h.lt, h.at_, fun e he => ?_, h.top⟩
  rw [h.iff e he, frm_drop hb]
  by_cases h2 : b.2 = e
  · subst h2
    rw [if_pos ⟨hg, rfl⟩]
    omega
  · rw [if_neg (fun z => h2 z.2)]
    rfl
theorem KJ.put {B : List (Nat × Nat)} {n : Nat} {placed : List Nat} {d g j : Nat} {b : Nat × Nat} (h : KJ B n placed d g j) (hb : B[j]? = some b) (hg : b.1 = g) (hlt : b.2 < n) (hn : mis B (placed.take (d + 1)) b.2 + frm (B.drop (j + 1)) g b.2 = 0) : KJ B n (placed ++ [b.2]) d g (j + 1) := by
  have hd : d < placed.length := (List.getElem?_eq_some_iff.mp h.at_).1
  have hnot : b.2 ∉ placed := fun z => by
    have := (h.iff _ hlt).mp z
    rw [frm_drop hb, if_pos ⟨hg, rfl⟩] at this
    omega
  have et : (placed ++ [b.2]).take (d + 1) = placed.take (d + 1) := List.take_append_of_le_length (by omega)
  refine ⟨?_, ?_, ?_, ?_, ?_⟩
  · rw [List.nodup_append]
    refine ⟨h.nd, by simp, fun a ha c hc => ?_⟩
    simp at hc
    subst hc
    intro z
    exact hnot (by rw [← z]; exact ha)
  · intro e he
    rcases List.mem_append.mp he with he | he
    · exact h.lt e he
    · simp at he
      subst he
      exact hlt
  · rw [List.getElem?_append_left hd]
    exact h.at_
  · intro e he
    rw [et, List.mem_append]
    by_cases h2 : b.2 = e
    · subst h2
      simp [hn]
    · have := h.iff e he
      rw [frm_drop hb, if_neg (fun z => h2 z.2)] at this
      rw [this]
      simp
      intro z
      exact absurd z.symm h2
  · intro k e hk c hc hce
    by_cases hk' : k < placed.length
    · rw [List.getElem?_append_left hk'] at hk
      rw [List.take_append_of_le_length (by omega)]
      exact h.top k e hk c hc hce
    · have hkl : k = placed.length := by
        have := (List.getElem?_eq_some_iff.mp hk).1
        simp at this
        omega
      subst hkl
      rw [List.getElem?_append_right (by omega)] at hk
      simp at hk
      subst hk
      rw [List.take_left']
      · have := mis_zero (show mis B (placed.take (d + 1)) b.2 = 0 by omega) hc hce
        exact List.mem_of_mem_take this
      · rfl
/-- what the order is: gates without two alike, each behind those it hangs on; all whose wires come from such -/
def Ord (n : Nat) (ws : List Wr) (ord : List Nat) : Prop := KI (bare ws) n ord ord.length
theorem Ord.full {n : Nat} {ws : List Wr} {ord : List Nat} (h : Ord n ws ord) (hw : ∀ x ∈ ws, x.1 < n ∧ x.2.1 < n) (rk : ∃ ρ : Nat → Nat, ∀ x ∈ ws, x.2.2 = [] → ρ x.1 < ρ x.2.1) : ord.Perm (List.range n) := by
  obtain ⟨ρ, hρ⟩ := rk
  have all : ∀ r e, e < n → ρ e = r → e ∈ ord := by
    intro r
    induction r using Nat.strongRecOn with
    | ind r ih =>
      intro e he hr
      rw [h.iff e he, List.take_length]
      unfold mis
      rw [List.countP_eq_zero]
      intro b hb
      obtain ⟨x, hx, rfl⟩ := List.mem_map.mp hb
      rw [List.mem_filter] at hx
      have hr0 : x.2.2 = [] := by simpa using hx.2
      have := hρ x hx.1 hr0
      simp
      intro z
      exact ih (ρ x.1) (by rw [← hr, ← z]; exact this) x.1 (hw x hx.1).1 rfl
  rw [List.perm_iff_count]
  intro a
  rw [h.nd.count, List.nodup_range.count]
  by_cases ha : a < n
  · rw [if_pos (all _ a ha rfl), if_pos (List.mem_range.mpr ha)]
  · rw [if_neg (fun z => ha (h.lt a z)), if_neg (fun z => ha (List.mem_range.mp z))]
end Lag

set_option maxRecDepth 100000
set_option maxHeartbeats 8000000
namespace Lag
open PySem PySem.Spec PyProof.Rows L2
abbrev sAlong : Stmt := topS 14
abbrev sOrder : Stmt := topS 30
def PairV (K : PySem.W.Frag) (H : Hp) (v : V) (b : Nat × Nat) : Prop := ∃ a, v = .ref a ∧ SqT K H a [.int (b.1 : Nat), .int (b.2 : Nat)]
theorem PairV.tk {K : PySem.W.Frag} {H H' : Hp} {v : V} {b : Nat × Nat} (t : TK H H') (h : PairV K H v b) : PairV K H' v b := by
  obtain ⟨a, e, s⟩ := h
  exact ⟨a, e, t.seq s⟩
/-- numbers by a function of the place -/
def fnL (n : Nat) (f : Nat → Nat) : List V := (List.range n).map fun e => V.int (f e : Nat)
theorem fnL_len (n : Nat) (f : Nat → Nat) : (fnL n f).length = n := by simp [fnL]
theorem fnL_get {n e : Nat} {f : Nat → Nat} (h : e < n) : (fnL n f)[e]? = some (V.int (f e : Nat)) := by
  unfold fnL
  rw [List.getElem?_map, List.getElem?_range h]
  rfl
theorem fnL_set {n e : Nat} {f f' : Nat → Nat} {z : Int} (h : e < n) (he : (f' e : Int) = z) (ho : ∀ i, i ≠ e → f' i = f i) : (fnL n f).set e (V.int z) = fnL n f' := by
  refine List.ext_getElem? fun i => ?_
  by_cases hi : i < n
  · rw [fnL_get hi, List.getElem?_set]
    by_cases ei : e = i
    · subst ei
      rw [if_pos rfl, if_pos (by rw [fnL_len]; exact h), he]
    · rw [if_neg ei, fnL_get hi, ho i (fun z => ei z.symm)]
  · rw [List.getElem?_eq_none (by rw [List.length_set, fnL_len]; omega), List.getElem?_eq_none (by rw [fnL_len]; omega)]
theorem fnL_zero (n : Nat) (f : Nat → Nat) (h : ∀ e, f e = 0) : (List.replicate n [V.int 0]).flatten = fnL n f := by
  have e : f = fun _ => 0 := funext h
  subst e
  unfold fnL
  induction n with
  | zero => rfl
  | succ n ih =>
    rw [List.replicate_succ', List.flatten_append, ih, List.range_succ, List.map_append]
    rfl
def spOrder (K : PySem.W.Frag) : Sp := fun vs H Q _ => ∃ (n : Nat) (lw : Addr) (ws : List Wr), vs = [.int (n : Nat), .ref lw] ∧ RW K H lw ws ∧ (∀ x ∈ ws, x.1 < n ∧ x.2.1 < n) ∧ n ≤ 1000 ∧ ws.length ≤ 1000 ∧
  ∀ (ord : List Nat) (p : Addr) (H' : Hp), Ord n ws ord → Same H H' → H p = none → H' p = some (.lst (ord.map fun i => V.int (i : Nat))) → Q (.ref p) H'
def spAlong (K : PySem.W.Frag) : Sp := fun vs H Q _ => ∃ (n : Nat) (lb : Addr) (bv : List V) (B : List (Nat × Nat)), vs = [.int (n : Nat), .ref lb] ∧ SqL K H lb bv ∧ All2 (PairV K H) bv B ∧ (∀ b ∈ B, b.1 < n ∧ b.2 < n) ∧ n ≤ 1000 ∧ B.length ≤ 1000 ∧
  ∀ (ord : List Nat) (p : Addr) (H' : Hp), KI B n ord ord.length → Same H H' → H p = none → H' p = some (.lst (ord.map fun i => V.int (i : Nat))) → Q (.ref p) H'
abbrev nAlong : List Str := ["many", "pairs", "missing", "start", "end", "placed", "done", "place"]
theorem scAlong : FnScope nAlong ["many", "pairs"] (defScope sAlong) := ⟨rfl, rfl, rfl, by decide +kernel, rfl, by decide +kernel, by decide +kernel⟩
abbrev nOrder : List Str := ["many_gates", "wires", "start", "end", "held"]
theorem scOrder : FnScope nOrder ["many_gates", "wires"] (defScope sOrder) := ⟨rfl, rfl, rfl, by decide +kernel, rfl, by decide +kernel, by decide +kernel⟩
theorem bare_take {ws : List Wr} {i : Nat} {x : Wr} (h : ws[i]? = some x) : bare (ws.take (i + 1)) = if x.2.2.isEmpty then bare (ws.take i) ++ [(x.1, x.2.1)] else bare (ws.take i) := by
  unfold bare
  rw [List.take_add_one, h]
  show ((ws.take i ++ [x]).filter _).map _ = _
  rw [List.filter_append]
  by_cases e : x.2.2.isEmpty
  · rw [if_pos e, List.filter_cons, if_pos e, List.map_append]
    rfl
  · rw [if_neg e, List.filter_cons, if_neg e, List.filter_nil, List.append_nil]
theorem bare_len (ws : List Wr) : (bare ws).length ≤ ws.length := by
  unfold bare
  rw [List.length_map]
  exact List.length_filter_le _ _
theorem mis_take {B : List (Nat × Nat)} {i : Nat} {b : Nat × Nat} (h : B[i]? = some b) (e : Nat) : mis (B.take (i + 1)) [] e = mis (B.take i) [] e + if b.2 = e then 1 else 0 := by
  unfold mis
  rw [List.take_add_one, h]
  show (B.take i ++ [b]).countP _ = _
  rw [List.countP_append, List.countP_cons, List.countP_nil]
  by_cases h1 : b.2 = e <;> simp [h1]
section
variable {P : Program} {w : World} {K : PySem.W.Frag} {mg : Str → Option Value} {base : Heap}
abbrev DAlong (P : Program) (w : World) (K : PySem.W.Frag) (mg : Str → Option Value) (base : Heap) := Df P w K mg base 1 "order_along" ["many", "pairs"] (spAlong K)
theorem ok_along {f : Addr} {fd : FuncData} (F : Fun K "order_along" "order_along" sAlong f fd) (hm : mg "order_along" = some (.ref f)) (Bb : Bt mg) : DAlong P w K mg base f fd := by
  refine ⟨?_, hm, F.kp, F.binds fun _ _ _ _ _ _ us hl => match us, hl with | [_, _], _ => rfl⟩
  refine F.ok scAlong (fun vs H Q E h => ?_) (fun cdv A outer s H vs Q E hr h => ?_)
  · obtain ⟨n, lb, bv, B, rfl, _⟩ := h
    rfl
  · obtain ⟨n, lb, bv, B, rfl, sb, ba1, hBlt, hn, hwl, q⟩ := h
    have nd := scAlong.nd
    refine ⟨_, pss_cons (ps_set (i := 2) nd rfl (Or.inr rfl) (pe_op op_rep (pe_lst (pa_cons pe_int pa_nil)) (pv 0))) <|
      pss_cons (ps_for PassesOwn.never rfl (pi_list (pv 1)) (pg_tup rfl (pgs_cons (pg_name (i := 3) nd rfl (Or.inl rfl)) (pgs_cons (pg_name (i := 4) nd rfl (Or.inl rfl)) pgs_nil)))
        (pss_one (ps_augS (pv 2) (pv 4) get_list pe_int ip_add set_list))) <|
      pss_cons (ps_setLc (i := 5) (own := [("place", 7)]) (g := gName 7) (tt := tTest (tOp rEq (tOp (rIxL K) (tVar 2) (tVar 7)) (tC (.int 0)))) (te := tVar 7) rfl nd rfl rfl (sw_true rfl rfl rfl (by decide +kernel))
          (pi_range1 (by rfl) Bb.range (pa_cons (pv 0) pa_nil)) (blkOk_by (N := nAlong) (sc := defScope sAlong) (own := [("place", 7)]) (by decide +kernel)) (fun _ _ _ _ _ => pg_name (i := 7) nd rfl (Or.inl rfl))
          (fun _ _ _ _ _ => pts_one (pt_cmpR op_eq (pe_ix ix_list (pv 2) (pv 7) (fun _ _ => rfl)) pe_int (nomark _))) (fun _ _ _ _ _ => pv 7)) <|
      pss_cons (ps_set (i := 6) nd rfl (Or.inl rfl) pe_int) <|
      pss_cons (ps_while PassesOwn.never (pt_cmpR op_lt (pv 6) (pe_callB call_len_seq (by rfl) Bb.len PySem.boot_len (pa_cons (pv 5) pa_nil)) (nomark _)) <|
        pss_cons (ps_for PassesOwn.never rfl (pi_list (pv 1)) (pg_tup rfl (pgs_cons (pg_name (i := 3) nd rfl (Or.inl rfl)) (pgs_cons (pg_name (i := 4) nd rfl (Or.inl rfl)) pgs_nil))) <|
          pss_one <| ps_if (pt_cmpR op_eq (pv 3) (pe_ix ix_list (pv 5) (pv 6) (fun _ _ => rfl)) (nomark _))
            (pss_cons (ps_augS (pv 2) (pv 4) get_list pe_int ip_sub set_list) <| pss_one <| ps_if (pt_cmpR op_eq (pe_ix ix_list (pv 2) (pv 4) (fun _ _ => rfl)) pe_int (nomark _))
              (pss_one (ps_expr (pe_bm PySem.F.plainAttrs_list PySem.F.slot_list_append PySem.F.type_list_append mt_append (pv 5) (pa_cons (pv 4) pa_nil)))) pss_nil) pss_nil) <|
        pss_one <| ps_aug (i := 6) nd rfl (Or.inl rfl) pe_int ip_add) <|
      pss_one <| ps_ret (pv 5), ?_⟩
    have hbl : bv.length ≤ 1000 := by
      rw [ba1.1]
      omega
    -- missing = [0] * many_gates
    refine ⟨(by show 1 ≤ sizeLine; decide), fun l0 hl0 => ?_⟩
    have sm2 : Same H (upd H l0 (.lst [.int 0])) := same_new hl0
    refine ⟨_, rfl, l0, _, _, rfl, rfl, upd_same, by omega, by omega, ?_, fun lm hlm => ?_⟩
    · show 1 * _ ≤ sizeLine
      have : 1 * ((n : Int)).toNat ≤ 1000 := by omega
      exact Nat.le_of_lt (small1000 this)
    rw [Int.toNat_natCast, fnL_zero n (mis (B.take 0) []) (fun e => by simp [mis])]
    have sm3 : Same H (upd (upd H l0 (.lst [.int 0])) lm (.lst (fnL n (mis (B.take 0) [])))) := sm2.trans (same_new hlm)
    have hm1 : H lm = none := sm2.free hlm
    -- for start, end in bare: missing[end] += 1
    refine ⟨_, rfl, lb, rfl, ⟨_, sm3.seq sb⟩, for_list (K := K) (a := lb) (xs := bv) (fun i σ H4 => ∃ s4 s5 : Option V, σ = [some (.int (n : Nat)), some (.ref lb), some (.ref lm), s4, s5, none, none, none] ∧
        H4 lm = some (.lst (fnL n (mis (B.take i) []))) ∧ Same H H4) ⟨_, _, rfl, upd_same, sm3⟩ (fun i σ H4 _ ⟨_, _, _, _, sm⟩ => sm.seq sb) ?_ ?_⟩
    · rintro i x σ H4 hx ⟨s4, s5, rfl, hml, sm4⟩
      obtain ⟨b, hbb, a, rfl, sq⟩ := ba1.get hx
      have hlt := hBlt b (List.mem_of_getElem? hbb)
      refine ⟨a, _, rfl, (TK.same sm4).seq sq, rfl, _, _, rfl, _, _, rfl, rfl, ?_⟩
      refine ⟨_, rfl, _, rfl, lm, _, b.2, _, rfl, rfl, SqL.of hml, fnL_get hlt.2, _, _, rfl, rfl, lm, _, _, b.2, rfl, rfl, hml, Evl.ixN_nat (by rw [fnL_len]; exact hlt.2), ?_⟩
      refine ⟨_, _, rfl, ?_, same_mut sm4 hm1⟩
      rw [upd_same]
      refine congrArg (fun z => some (HO.lst z)) (fnL_set hlt.2 ?_ ?_)
      · rw [mis_take hbb, if_pos rfl]
        show ((mis (B.take i) [] b.2 + 1 : Nat) : Int) = ((mis (B.take i) [] b.2 : Nat) : Int) + 1
        omega
      · intro j hj
        rw [mis_take hbb, if_neg (fun z => hj z.symm)]
        rfl
    · rintro σ H4 ⟨s4, s5, rfl, hml, sm4⟩
      rw [ba1.1, List.take_length] at hml
      -- placed = [gate for gate in range(many_gates) if missing[gate] == 0]
      refine ⟨_, rfl, _, rfl, by omega, by omega, fun lp hlp => ?_⟩
      refine lc_range (lo := 0) (n := ((n : Int)).toNat) (fun i Hc => Hc lp = some (.lst (((List.range i).filter fun e => mis B [] e == 0).map fun i => V.int (i : Nat))) ∧ Same H4 Hc) ⟨upd_same, same_new hlp⟩ ?_ ?_
      · rintro i Hc hi ⟨hc, sm⟩
        have hi' : i < n := by omega
        have hlen : (((List.range i).filter fun e => mis B [] e == 0).map fun i => V.int (i : Nat)).length ≤ 1000 := by
          rw [List.length_map]
          have := List.length_filter_le (fun e => mis B [] e == 0) (List.range i)
          rw [List.length_range] at this
          omega
        have e0 : (0 : Int) + (i : Int) = (i : Int) := Int.zero_add _
        rw [e0]
        refine ⟨rfl, ?_⟩
        refine ⟨_, rfl, _, rfl, lm, _, _, _, rfl, rfl, SqL.of (sm _ _ hml), atI_nat (fnL_get hi'), rfl, _, rfl, ite2 (fun e => ?_) (fun e => ?_)⟩
        · have hz : mis B [] i = 0 := by
            have := V.int.inj (of_decide_eq_true e)
            omega
          refine ⟨_, rfl, _, hc, Nat.lt_of_le_of_lt hlen (small1000 (Nat.le_refl _)), ?_, same_mut sm hlp⟩
          rw [upd_same, List.range_succ, List.filter_append, List.map_append, List.filter_cons, if_pos (by rw [hz]; rfl)]
          rfl
        · have hz : ¬ (mis B [] i == 0) = true := fun z => by
            apply e
            rw [beq_iff_eq] at z
            rw [z]
            rfl
          refine ⟨?_, sm⟩
          rw [List.range_succ, List.filter_append, List.filter_cons, if_neg hz, List.filter_nil, List.append_nil]
          exact hc
      · rintro H5 ⟨hp5, sm5⟩
        rw [Int.toNat_natCast] at hp5
        have k0 : KI B n ((List.range n).filter fun e => mis B [] e == 0) 0 := by
          refine ⟨List.nodup_range.sublist List.filter_sublist, fun e he => List.mem_range.mp (List.mem_filter.mp he).1, Nat.zero_le _, fun e he => ?_, fun j e hj b hb hbe => ?_⟩
          · rw [List.mem_filter, List.take_zero]
            simp [he]
          · have hm0 := (List.mem_filter.mp (List.mem_of_getElem? hj)).2
            rw [beq_iff_eq] at hm0
            have := mis_zero hm0 hb hbe
            simp at this
        -- the while
        have hp0 : H lp = none := sm4.free hlp
        refine ⟨fun m σ H6 => ∃ (placed : List Nat) (d : Nat) (s4 s5 : Option V), σ = [some (.int (n : Nat)), some (.ref lb), some (.ref lm), s4, s5, some (.ref lp), some (.int (d : Nat)), none] ∧
          KI B n placed d ∧ H6 lp = some (.lst (placed.map fun i => V.int (i : Nat))) ∧ H6 lm = some (.lst (fnL n (mis B (placed.take d)))) ∧ Same H H6 ∧ m = n - d, ?_, ?_⟩
        · have h5m := sm5 _ _ hml
          have e0 : mis B [] = mis B (((List.range n).filter fun e => mis B [] e == 0).take 0) := by rw [List.take_zero]
          rw [e0] at h5m
          exact ⟨n, _, 0, _, _, rfl, k0, hp5, h5m, sm4.trans sm5, rfl⟩
        · rintro m σ H6 ⟨placed, d, s4, s5, rfl, ki, hp6, hm6, sm6, rfl⟩
          have hp1 : H lp = none := sm4.free hlp
          have npm : lp ≠ lm := fun z => by
            rw [z, hml] at hlp
            cases hlp
          refine ⟨_, rfl, _, rfl, lp, _, rfl, .inl (SqL.of hp6), _, _, rfl, rfl, _, rfl, ite2 (fun e => ?_) (fun e => ?_)⟩
          · have hd : d < placed.length := by
              have e' : (d : Int) < ((placed.map fun i => V.int (i : Nat)).length : Int) := of_decide_eq_true e
              rw [List.length_map] at e'
              omega
            have hpl : ∀ placed : List Nat, placed.Nodup → (∀ e ∈ placed, e < n) → placed.length ≤ n := fun l hnd hlt => by
              have h1 : l.length = (l.filter fun e => decide (e < n)).length := by
                rw [List.filter_eq_self.mpr]
                intro a ha
                exact decide_eq_true (hlt a ha)
              have h2 := List.Nodup.length_le_of_subset hnd (l₂ := List.range n) (fun a ha => List.mem_range.mpr (hlt a ha))
              rw [List.length_range] at h2
              exact h2
            have hdn := hpl placed ki.nd ki.lt
            have hg : placed[d]? = some placed[d] := List.getElem?_eq_getElem hd
            refine ⟨fun σ H7 => ∃ (placed : List Nat) (s4 s5 : Option V), σ = [some (.int (n : Nat)), some (.ref lb), some (.ref lm), s4, s5, some (.ref lp), some (.int ((d : Nat) + 1)), none] ∧
              KI B n placed (d + 1) ∧ H7 lp = some (.lst (placed.map fun i => V.int (i : Nat))) ∧ H7 lm = some (.lst (fnL n (mis B (placed.take (d + 1))))) ∧ Same H H7, ?_, ?_⟩
            · rintro σ' H' ⟨placed', t4, t5, rfl, ki', hp', hm', sm'⟩
              exact ⟨n - (d + 1), by omega, placed', d + 1, t4, t5, rfl, ki', hp', hm', sm', rfl⟩
            · have e1 : mis B (placed.take d) = fun e => mis B (placed.take (d + 1)) e + frm (B.drop 0) placed[d] e := funext fun e => by
                rw [take_add hg, List.drop_zero]
                exact mis_split (nodup_take ki.nd hg) e
              rw [e1] at hm6
              generalize placed[d] = g at hg hm6
              refine ⟨_, rfl, lb, rfl, ⟨_, sm6.seq sb⟩, for_list (K := K) (a := lb) (xs := bv) (fun j σ H7 => ∃ (placed : List Nat) (s4 s5 : Option V), σ = [some (.int (n : Nat)), some (.ref lb), some (.ref lm), s4, s5, some (.ref lp), some (.int (d : Nat)), none] ∧
                  KJ B n placed d g j ∧ H7 lp = some (.lst (placed.map fun i => V.int (i : Nat))) ∧ H7 lm = some (.lst (fnL n fun e => mis B (placed.take (d + 1)) e + frm (B.drop j) g e)) ∧ Same H H7)
                ⟨placed, _, _, rfl, ki.go hg, hp6, hm6, sm6⟩ (fun i σ H4 _ ⟨_, _, _, _, _, _, _, sm⟩ => sm.seq sb) ?_ ?_⟩
              · rintro j x σ H7 hx ⟨placed, s4, s5, rfl, kj, hp7, hm7, sm7⟩
                obtain ⟨b, hbb, a, rfl, sq⟩ := ba1.get hx
                have hlt := hBlt b (List.mem_of_getElem? hbb)
                refine ⟨a, _, rfl, (TK.same sm7).seq sq, rfl, _, _, rfl, _, _, rfl, rfl, ?_⟩
                refine ⟨_, rfl, _, rfl, _, rfl, lp, _, _, _, rfl, rfl, SqL.of hp7, atI_nat (j := d) (by rw [List.getElem?_map, kj.at_]; rfl), rfl, _, rfl, ite2 (fun e => ?_) (fun e => ?_)⟩
                · have hbg : b.1 = g := by
                    have := V.int.inj (of_decide_eq_true e)
                    omega
                  have hfd : ∀ e, frm (B.drop j) g e = frm (B.drop (j + 1)) g e + if b.1 = g ∧ b.2 = e then 1 else 0 := fun e => frm_drop hbb g e
                  refine ⟨_, rfl, _, rfl, lm, _, b.2, _, rfl, rfl, SqL.of hm7, fnL_get hlt.2, _, _, rfl, rfl, lm, _, _, b.2, rfl, rfl, hm7, Evl.ixN_nat (by rw [fnL_len]; exact hlt.2), ?_⟩
                  have e2 : (fnL n fun e => mis B (placed.take (d + 1)) e + frm (B.drop j) g e).set b.2 (V.int (((mis B (placed.take (d + 1)) b.2 + frm (B.drop j) g b.2 : Nat) : Int) - 1)) = fnL n fun e => mis B (placed.take (d + 1)) e + frm (B.drop (j + 1)) g e := by
                    refine fnL_set hlt.2 ?_ ?_
                    · rw [hfd, if_pos ⟨hbg, rfl⟩]
                      omega
                    · intro i hi
                      rw [hfd, if_neg (fun z => hi z.2.symm)]
                      rfl
                  have hm8 : (upd H7 lm (.lst (fnL n fun e => mis B (placed.take (d + 1)) e + frm (B.drop (j + 1)) g e))) lm = some (.lst (fnL n fun e => mis B (placed.take (d + 1)) e + frm (B.drop (j + 1)) g e)) := upd_same
                  rw [← e2] at hm8
                  have hp8 : (upd H7 lm (.lst ((fnL n fun e => mis B (placed.take (d + 1)) e + frm (B.drop j) g e).set b.2 (V.int (((mis B (placed.take (d + 1)) b.2 + frm (B.drop j) g b.2 : Nat) : Int) - 1))))) lp = some (.lst (placed.map fun i => V.int (i : Nat))) := by
                    rw [upd_ne npm]
                    exact hp7
                  have sm8 := same_mut (p := lm) (o := .lst ((fnL n fun e => mis B (placed.take (d + 1)) e + frm (B.drop j) g e).set b.2 (V.int (((mis B (placed.take (d + 1)) b.2 + frm (B.drop j) g b.2 : Nat) : Int) - 1)))) sm7 hm1
                  have hg8 : ((fnL n fun e => mis B (placed.take (d + 1)) e + frm (B.drop j) g e).set b.2 (V.int (((mis B (placed.take (d + 1)) b.2 + frm (B.drop j) g b.2 : Nat) : Int) - 1)))[b.2]? = some (V.int ((mis B (placed.take (d + 1)) b.2 + frm (B.drop (j + 1)) g b.2 : Nat) : Int)) := by
                    rw [e2]
                    exact fnL_get hlt.2
                  have hm9 := hm8
                  rw [e2] at hm9
                  refine ⟨_, rfl, _, rfl, lm, _, _, _, rfl, rfl, SqL.of upd_same, atI_nat hg8, rfl, _, rfl, ite2 (fun e3 => ?_) (fun e3 => ?_)⟩
                  · have hz : mis B (placed.take (d + 1)) b.2 + frm (B.drop (j + 1)) g b.2 = 0 := by
                      have := V.int.inj (of_decide_eq_true e3)
                      omega
                    have hlp1 := hpl placed kj.nd kj.lt
                    have hdl : d < placed.length := (List.getElem?_eq_some_iff.mp kj.at_).1
                    refine ⟨_, rfl, .inl ⟨rfl, _, SqL.of hp8⟩, _, rfl, lp, _, _, rfl, rfl, hp8, by rw [List.length_map]; exact small1000 (by omega), ?_⟩
                    refine ⟨placed ++ [b.2], _, _, rfl, kj.put hbb hbg hlt.2 hz, ?_, ?_, same_mut sm8 hp1⟩
                    · rw [upd_same, List.map_append]
                      rfl
                    · rw [upd_ne npm.symm, List.take_append_of_le_length (by omega), ← e2]
                      exact upd_same
                  · have hz : mis B (placed.take (d + 1)) b.2 + frm (B.drop (j + 1)) g b.2 ≠ 0 := fun z => by
                      apply e3
                      rw [z]
                      rfl
                    refine ⟨placed, _, _, rfl, kj.not hbb hbg hz, hp8, ?_, sm8⟩
                    rw [← e2]
                    exact upd_same
                · have hbg : b.1 ≠ g := fun z => by
                    apply e
                    rw [z]
                    exact decide_eq_true rfl
                  refine ⟨placed, _, _, rfl, kj.skip hbb hbg, hp7, ?_, sm7⟩
                  have : (fun e => mis B (placed.take (d + 1)) e + frm (B.drop (j + 1)) g e) = fun e => mis B (placed.take (d + 1)) e + frm (B.drop j) g e := funext fun e => by
                    rw [frm_drop hbb, if_neg (fun z => hbg z.1)]
                    rfl
                  rw [this]
                  exact hm7
              · rintro σ H7 ⟨placed, s4, s5, rfl, kj, hp7, hm7, sm7⟩
                rw [ba1.1] at kj hm7
                refine ⟨_, rfl, _, _, rfl, rfl, placed, _, _, rfl, kj.done, hp7, ?_, sm7⟩
                rw [List.drop_length] at hm7
                exact hm7
          · have hd : d = placed.length := by
              have e' : ¬ (d : Int) < ((placed.map fun i => V.int (i : Nat)).length : Int) := fun z => e (decide_eq_true z)
              rw [List.length_map] at e'
              have := ki.le
              omega
            subst hd
            exact ⟨_, rfl, q placed lp H6 ki sm6 hp0 hp6⟩
abbrev DOrder (P : Program) (w : World) (K : PySem.W.Frag) (mg : Str → Option Value) (base : Heap) := Df P w K mg base 2 "bare_order" ["many_gates", "wires"] (spOrder K)
theorem ok_order {f fA : Addr} {fd fdA : FuncData} (F : Fun K "bare_order" "bare_order" sOrder f fd) (hm : mg "bare_order" = some (.ref f)) (B : Bt mg) (DA : DAlong P w K mg base fA fdA) : DOrder P w K mg base f fd := by
  refine ⟨?_, hm, F.kp, F.binds fun _ _ _ _ _ _ us hl => match us, hl with | [_, _], _ => rfl⟩
  refine F.ok scOrder (fun vs H Q E h => ?_) (fun cdv A outer s H vs Q E hr h => ?_)
  · obtain ⟨n, lw, ws, rfl, _⟩ := h
    rfl
  · obtain ⟨n, lw, ws, rfl, ⟨wv, sw, wa⟩, hws, hn, hwl, q⟩ := h
    have nd := scOrder.nd
    refine ⟨_, pss_one <| ps_ret <| pe_call DA.ok hr (by rfl) DA.mg DA.kp DA.bd .nil pass0 <| pa_cons (pv 0) <| (pa_cons · pa_nil) <|
      pe_lc (own := [("start", 2), ("end", 3), ("held", 4)]) (g := gTup K 3 (gCons (gName 2) (gCons (gName 3) (gCons (gName 4) gNil)))) (tt := tTest (tOp rEq (tCB (Evl.rLenS K) (tCons (tVar 4) tNil)) (tC (.int 0)))) (te := tTup (tCons (tVar 2) (tCons (tVar 3) tNil))) rfl nd
        (pi_list (pv 1)) (blkOk_by (N := nOrder) (sc := defScope sOrder) (own := [("start", 2), ("end", 3), ("held", 4)]) (by decide +kernel))
        (fun _ _ _ _ _ => pg_tup rfl (pgs_cons (pg_name (i := 2) nd rfl (Or.inl rfl)) (pgs_cons (pg_name (i := 3) nd rfl (Or.inl rfl)) (pgs_cons (pg_name (i := 4) nd rfl (Or.inl rfl)) pgs_nil))))
        (fun _ _ _ _ _ => pts_one (pt_cmpR op_eq (pe_callB call_len_seq (by rfl) B.len PySem.boot_len (pa_cons (pv 4) pa_nil)) pe_int (nomark _)))
        (fun _ _ _ _ _ => pe_tup (pa_cons (pv 2) (pa_cons (pv 3) pa_nil))), ?_⟩
    have hlw : wv.length = ws.length := wa.1
    -- bare = [..]
    refine ⟨_, rfl, _, rfl, lw, rfl, ⟨_, sw⟩, fun lb hlb => ?_⟩
    refine lc_list (K := K) (a := lw) (xs := wv) (fun i Hc => ∃ bv, Hc lb = some (.lst bv) ∧ All2 (PairV K Hc) bv (bare (ws.take i)) ∧ Same H Hc) ⟨[], upd_same, by simpa [bare] using All2.nil, same_new hlb⟩ (fun i Hc _ ⟨_, _, _, sm⟩ => sm.seq sw) ?_ ?_
    · rintro i x Hc hx ⟨bv, hb, ba, sm⟩
      obtain ⟨y, hy, a, b, rfl, sq1, sq2⟩ := wa.get hx
      have hyi : i < ws.length := (List.getElem?_eq_some_iff.mp hy).1
      have t := TK.same sm
      have hbl : bv.length ≤ 1000 := by
        rw [ba.1]
        have := bare_len (ws.take i)
        rw [List.length_take] at this
        omega
      refine ⟨a, _, rfl, t.seq sq1, rfl, _, _, rfl, _, _, rfl, _, _, rfl, rfl, rfl, ?_⟩
      refine ⟨_, rfl, b, _, rfl, .inr (t.seq sq2), rfl, _, rfl, ite2 (fun e => ?_) (fun e => ?_)⟩
      · have he : y.2.2.isEmpty = true := by
          have e' : (((y.2.2.map V.int).length : Nat) : Int) = 0 := V.int.inj (of_decide_eq_true e)
          rw [List.length_map] at e'
          rw [List.isEmpty_iff, ← List.length_eq_zero_iff]
          omega
        refine ⟨_, rfl, _, rfl, (by show 2 ≤ sizeLine; decide), fun p hp => ?_⟩
        have smp : Same Hc (upd Hc p (.tup [.int (y.1 : Nat), .int (y.2.1 : Nat)])) := same_new hp
        have npb : p ≠ lb := fun z => by
          rw [z, hb] at hp
          cases hp
        have t2 : TK Hc (upd (upd Hc p (.tup [.int (y.1 : Nat), .int (y.2.1 : Nat)])) lb (.lst (bv ++ [.ref p]))) := (TK.new hp).trans (TK.lst (smp _ _ hb))
        refine ⟨bv, smp _ _ hb, Nat.lt_of_le_of_lt hbl (small1000 (Nat.le_refl _)), bv ++ [.ref p], upd_same, ?_, same_mut (sm.trans smp) hlb⟩
        rw [bare_take hy, if_pos he]
        exact (ba.imp fun _ _ r => r.tk t2).snoc ⟨p, rfl, .inl (.inl (by rw [upd_ne npb]; exact upd_same))⟩
      · have he : ¬ y.2.2.isEmpty = true := fun z => by
          apply e
          rw [List.isEmpty_iff] at z
          rw [z]
          rfl
        exact ⟨bv, hb, by rw [bare_take hy, if_neg he]; exact ba, sm⟩
    · rintro H1 ⟨bv, hb1, ba1, sm1⟩
      rw [hlw, List.take_length] at ba1
      have hbl : bv.length ≤ 1000 := by
        rw [ba1.1]
        have := bare_len ws
        omega
      have hBlt : ∀ b ∈ bare ws, b.1 < n ∧ b.2 < n := by
        intro b hb
        obtain ⟨x, hx, rfl⟩ := List.mem_map.mp hb
        rw [List.mem_filter] at hx
        exact hws x hx.1
      exact ⟨n, lb, bv, bare ws, rfl, SqL.of hb1, ba1, hBlt, hn, by have := bare_len ws; omega, fun ord p H2 ki s2 hp h2 => q ord p H2 ki (sm1.trans s2) (sm1.free hp) h2⟩
end
end Lag

set_option maxRecDepth 100000
set_option maxHeartbeats 4000000
namespace Lag
open PySem PySem.Spec PyProof.Rows L2
abbrev sChkRings : Stmt := topS 29
abbrev sInit : Stmt := inClass (topS 21) 0
abbrev sEq : Stmt := inClass (topS 21) 1
def spChkRings (K : PySem.W.Frag) : Sp := fun vs H Q _ => ∃ (n : Nat) (lw : Addr) (ws : List Wr), vs = [.int (n : Nat), .ref lw] ∧ RW K H lw ws ∧ (∀ x ∈ ws, x.1 < n ∧ x.2.1 < n) ∧ n ≤ 1000 ∧ ws.length ≤ 1000 ∧
  (∃ ρ : Nat → Nat, ∀ x ∈ ws, x.2.2 = [] → ρ x.1 < ρ x.2.1) ∧ ∀ H', Same H H' → Q .non H'
/-! ### a net's object -/
def nf (lg lw : Addr) : List (Str × V) := putF "wires" (.ref lw) (putF "gates" (.ref lg) [])
theorem gw_ne : ¬ (("gates" : Str) = "wires") := by decide +kernel
theorem nf_eq (lg lw : Addr) : nf lg lw = ([("gates", V.ref lg), ("wires", V.ref lw)] : List (Str × V)) := by
  show (if ("gates" : Str) = "wires" then [(("gates" : Str), V.ref lw)] else (("gates" : Str), V.ref lg) :: putF "wires" (V.ref lw) []) = ([("gates", V.ref lg), ("wires", V.ref lw)] : List (Str × V))
  rw [if_neg gw_ne]
  all_goals rfl
theorem nf_gates (lg lw : Addr) : (nf lg lw).lookup ("gates" : Str) = some (.ref lg) := by
  unfold nf
  rw [lookup_putF, if_neg gw_ne, lookup_putF, if_pos rfl]
theorem nf_wires (lg lw : Addr) : (nf lg lw).lookup ("wires" : Str) = some (.ref lw) := by
  unfold nf
  rw [lookup_putF, if_pos rfl]
theorem nf_no (lg lw : Addr) {m : Str} (h1 : ¬ m = "wires") (h2 : ¬ m = "gates") : (nf lg lw).lookup m = none := by
  unfold nf
  rw [lookup_putF, if_neg h1, lookup_putF, if_neg h2]
  all_goals rfl
/-- the class as the top has made it -/
structure NT (K : PySem.W.Frag) (mg : Str → Option Value) (C : Addr) : Prop where
  cl : Cls K C
  nG : NoAttr K C "gates"
  nW : NoAttr K C "wires"
  mg : mg "Net" = some (.ref C)
/-- a net at p: its own lists at lg, lw -/
structure NetAt (K : PySem.W.Frag) (C : Addr) (H : Hp) (p lg lw : Addr) (gs : List Gt) (ws : List Wr) : Prop where
  ob : ∃ dx, H p = some (.ins C dx (nf lg lw))
  g : LG K H lg gs
  w : LW K H lw ws
  ne : lg ≠ lw
theorem LG.same {K : PySem.W.Frag} {H H' : Hp} {l : Addr} {gs : List Gt} (h : LG K H l gs) (s : Same H H') : LG K H' l gs := by
  obtain ⟨vs, q, a⟩ := h
  exact ⟨vs, s _ _ q, a.imp fun _ _ r => r.tk (TK.same s)⟩
theorem LW.same {K : PySem.W.Frag} {H H' : Hp} {l : Addr} {ws : List Wr} (h : LW K H l ws) (s : Same H H') : LW K H' l ws := by
  obtain ⟨vs, q, a⟩ := h
  exact ⟨vs, s _ _ q, a.imp fun _ _ r => r.tk (TK.same s)⟩
theorem LG.rg {K : PySem.W.Frag} {H : Hp} {l : Addr} {gs : List Gt} (h : LG K H l gs) : RG K H l gs := by
  obtain ⟨vs, q, a⟩ := h
  exact ⟨vs, SqL.of q, a⟩
theorem LW.rw {K : PySem.W.Frag} {H : Hp} {l : Addr} {ws : List Wr} (h : LW K H l ws) : RW K H l ws := by
  obtain ⟨vs, q, a⟩ := h
  exact ⟨vs, SqL.of q, a⟩
theorem NetAt.same {K : PySem.W.Frag} {C : Addr} {H H' : Hp} {p lg lw : Addr} {gs : List Gt} {ws : List Wr} (n : NetAt K C H p lg lw gs ws) (s : Same H H') : NetAt K C H' p lg lw gs ws := by
  obtain ⟨dx, h⟩ := n.ob
  exact ⟨⟨dx, s _ _ h⟩, n.g.same s, n.w.same s, n.ne⟩
def spInit (K : PySem.W.Frag) (C : Addr) : Sp := fun vs H Q _ => ∃ (p dx lg lw : Addr) (gs : List Gt) (ws : List Wr), vs = [.ref p, .ref lg, .ref lw] ∧ H p = some (.ins C dx []) ∧ RG K H lg gs ∧ RW K H lw ws ∧ NetOk gs ws ∧
  ∀ (H' : Hp) (lg' lw' : Addr), NetAt K C H' p lg' lw' gs ws → H lg' = none → H lw' = none → (∀ b o, H b = some o → b ≠ p → H' b = some o) → Q .non H'
section
variable {P : Program} {w : World} {K : PySem.W.Frag} {mg : Str → Option Value} {base : Heap}
theorem scChkRings : FnScope ["many_gates", "wires", "placed"] ["many_gates", "wires"] (defScope sChkRings) := ⟨rfl, rfl, rfl, by decide +kernel, rfl, by decide +kernel, by decide +kernel⟩
abbrev DChkRings (P : Program) (w : World) (K : PySem.W.Frag) (mg : Str → Option Value) (base : Heap) := Df P w K mg base 3 "check_rings" ["many_gates", "wires"] (spChkRings K)
theorem ok_chkRings {f fO : Addr} {fd fdO : FuncData} (F : Fun K "check_rings" "check_rings" sChkRings f fd) (hm : mg "check_rings" = some (.ref f)) (B : Bt mg) (DO : DOrder P w K mg base fO fdO) : DChkRings P w K mg base f fd := by
  refine ⟨?_, hm, F.kp, F.binds fun _ _ _ _ _ _ us hl => match us, hl with | [_, _], _ => rfl⟩
  refine F.ok scChkRings (fun vs H Q E h => ?_) (fun cdv A outer s H vs Q E hr h => ?_)
  · obtain ⟨n, lw, ws, rfl, _⟩ := h
    rfl
  · obtain ⟨n, lw, ws, rfl, R, hws, hn, hwl, rk, q⟩ := h
    have nd := scChkRings.nd
    refine ⟨_, pss_cons (ps_set (i := 2) nd rfl (Or.inl rfl) (pe_call DO.ok hr (by rfl) DO.mg DO.kp DO.bd .nil pass0 (pa_cons (pv 0) (pa_cons (pv 1) pa_nil)))) <|
      pss_one <| ps_if (pt_cmpR op_lt (pe_callB call_len_seq (by rfl) B.len PySem.boot_len (pa_cons (pv 2) pa_nil)) (pv 0) (nomark _)) (pss_one ps_never) pss_nil, ?_⟩
    refine ⟨_, rfl, _, rfl, n, lw, ws, rfl, R, hws, hn, hwl, fun ord p H1 ho sm hp h1 => ?_⟩
    have hpl : ord.length = n := by rw [(ho.full hws rk).length_eq, List.length_range]
    refine ⟨_, rfl, p, _, rfl, .inl (SqL.of h1), _, rfl, _, _, rfl, rfl, false, ?_, iteF (q H1 sm)⟩
    show V.bl (decide (((ord.map fun i => V.int (i : Nat)).length : Int) < (n : Int))) = V.bl false
    rw [decide_eq_false]
    rw [List.length_map, hpl]
    omega
theorem scInit : FnScope ["self", "gates", "wires"] ["self", "gates", "wires"] (defScope sInit) := ⟨rfl, rfl, rfl, by decide +kernel, rfl, by decide +kernel, by decide +kernel⟩
theorem ok_init {f fG fW fR C : Addr} {fd fdG fdW fdR : FuncData} (F : Fun K "__init__" "Net.__init__" sInit f fd) (T : NT K mg C) (B : Bt mg) (DG : DChkGates P w K mg base fG fdG) (DW : DChkWires P w K mg base fW fdW) (DR : DChkRings P w K mg base fR fdR) :
    FnOk P w K mg base CX0 6 f fd ["self", "gates", "wires"] (spInit K C) := by
  refine F.ok scInit (fun vs H Q E h => ?_) (fun cdv A outer s H vs Q E hr h => ?_)
  · obtain ⟨p, dx, lg, lw, gs, ws, rfl, _⟩ := h
    rfl
  · obtain ⟨p, dx, lg, lw, gs, ws, rfl, hp, RGs, RWs, N, q⟩ := h
    have hr4 : Room 4 _ := hr.mono (by decide)
    have hr2 : Room 3 _ := hr.mono (by decide)
    refine ⟨_, pss_cons (ps_expr (pe_call DG.ok hr4 (by rfl) DG.mg DG.kp DG.bd .nil pass0 (pa_cons (pv 1) pa_nil))) <|
      pss_cons (ps_expr (pe_call DW.ok hr (by rfl) DW.mg DW.kp DW.bd .nil pass0 (pa_cons (pv 1) (pa_cons (pv 2) pa_nil)))) <|
      pss_cons (ps_expr (pe_call DR.ok hr2 (by rfl) DR.mg DR.kp DR.bd .nil pass0 (pa_cons (pe_callB call_len_seq (by rfl) B.len PySem.boot_len (pa_cons (pv 1) pa_nil)) (pa_cons (pv 2) pa_nil)))) <|
      pss_cons (ps_fld (pv 0) (pe_callTy call_list_of (by rfl) B.list (by decide +kernel) (pa_cons (pv 1) pa_nil)) rfl) <|
      pss_one (ps_fld (pv 0) (pe_callTy call_list_of (by rfl) B.list (by decide +kernel) (pa_cons (pv 2) pa_nil)) rfl), ?_⟩
    refine ⟨_, rfl, lg, gs, rfl, RGs, N.ne, N.gok, fun H1 sm1 => ?_⟩
    refine ⟨_, rfl, _, rfl, lg, lw, gs, ws, rfl, RGs.same sm1, RWs.same sm1, N, fun H2 sm2 => ?_⟩
    have s2 := sm1.trans sm2
    obtain ⟨gv, sg, ga⟩ := RGs.same s2
    have hlg : gv.length = gs.length := ga.1
    refine ⟨_, rfl, lg, gv, rfl, .inl sg, _, rfl, gv.length, lw, ws, rfl, RWs.same s2, fun x hx => ?_, by have := N.gl; omega, N.wl, N.rank, fun H3 sm3 => ?_⟩
    · rw [hlg]
      exact ⟨(N.wok x hx).s, (N.wok x hx).e⟩
    have s3 := s2.trans sm3
    obtain ⟨gv3, sg3, ga3⟩ := RGs.same s3
    obtain ⟨wv3, sw3, wa3⟩ := RWs.same s3
    have hp3 := s3 _ _ hp
    refine ⟨_, rfl, lg, gv3, rfl, .inl sg3, fun l1 hl1 => ?_⟩
    have np1 : p ≠ l1 := ne_of_none hp3 hl1
    have sm4 : Same H3 (upd H3 l1 (.lst gv3)) := same_new hl1
    refine ⟨_, rfl, p, C, dx, [], rfl, sm4 _ _ hp3, T.cl, T.nG, (by show 0 < 1000; decide), ?_⟩
    have hw4 : SqL K (upd (upd H3 l1 (.lst gv3)) p (.ins C dx (putF "gates" (.ref l1) []))) lw wv3 := by
      rcases sm4.seq sw3 with (h | ⟨o, h⟩) | h
      · have n : lw ≠ p := fun z => by
          rw [z, sm4 _ _ hp3] at h
          cases h
        exact .inl (.inl (by rw [upd_ne n]; exact h))
      · have n : lw ≠ p := fun z => by
          rw [z, sm4 _ _ hp3] at h
          cases h
        exact .inl (.inr ⟨o, by rw [upd_ne n]; exact h⟩)
      · exact .inr h
    refine ⟨_, rfl, lw, wv3, rfl, .inl hw4, fun l2 hl2 => ?_⟩
    have np2 : p ≠ l2 := fun z => by
      rw [← z, upd_same] at hl2
      cases hl2
    have h11 : (upd (upd H3 l1 (.lst gv3)) p (.ins C dx (putF "gates" (.ref l1) []))) l1 = some (.lst gv3) := by
      rw [upd_ne np1.symm]
      exact upd_same
    have n12 : l1 ≠ l2 := ne_of_none h11 hl2
    have hl2' : H3 l2 = none := by
      rw [upd_ne np2.symm, upd_ne n12.symm] at hl2
      exact hl2
    refine ⟨_, rfl, p, C, dx, _, rfl, (by rw [upd_ne np2]; exact upd_same), T.cl, T.nW, (by show 1 < 1000; decide), ?_⟩
    have keep : ∀ b o, b ≠ p → H3 b = some o → (upd (upd (upd (upd H3 l1 (.lst gv3)) p (.ins C dx (putF "gates" (.ref l1) []))) l2 (.lst wv3)) p (.ins C dx (putF "wires" (.ref l2) (putF "gates" (.ref l1) [])))) b = some o := fun b o nb e => by
      rw [upd_ne nb, upd_ne (ne_of_none e hl2'), upd_ne nb, upd_ne (ne_of_none e hl1)]
      exact e
    have tk : TK H3 (upd (upd (upd (upd H3 l1 (.lst gv3)) p (.ins C dx (putF "gates" (.ref l1) []))) l2 (.lst wv3)) p (.ins C dx (putF "wires" (.ref l2) (putF "gates" (.ref l1) [])))) := fun b o t e => keep b o (fun z => by
      rw [z, hp3] at e
      cases e
      exact t) e
    refine q _ l1 l2 ⟨⟨dx, upd_same⟩, ⟨gv3, ?_, ga3.imp fun _ _ r => r.tk tk⟩, ⟨wv3, ?_, wa3.imp fun _ _ r => r.tk tk⟩, n12⟩ (s3.free hl1) (s3.free hl2') fun b o e nb => keep b o nb (s3 _ _ e)
    · rw [upd_ne np1.symm, upd_ne n12, upd_ne np1.symm]
      exact upd_same
    · rw [upd_ne np2.symm]
      exact upd_same
end
end Lag

set_option maxRecDepth 100000
set_option maxHeartbeats 4000000
namespace Lag
open PySem PySem.Spec PyProof.Rows L2
/-! ### == and != by an own __eq__, whatever the other thing is -/
section
variable {X : Cx} {pins : List (Addr × Obj)} {σ : L2.St} {H : Hp} {s : Shared}
/-- what typeOf says -/
def TyL (X : Cx) (s : Shared) (v tb : Value) : Prop := PySem.W.Looks (model X.prog X.w) s.heap (typeOf v) tb
theorem ty_looks {y : V} {v tb : Value} (I : Inv X pins σ H s) (r : RelV y v) (t : TyOf X.K H y tb) : TyL X s v tb := by
  cases t with
  | non => cases r; exact .of_pure rfl
  | bl b => cases r; exact .of_pure rfl
  | int i => obtain ⟨t, rfl⟩ := r; exact .of_pure rfl
  | str x => obtain ⟨t, rfl⟩ := r; exact .of_pure rfl
  | flt x => obtain ⟨t, rfl⟩ := r; exact .of_pure rfl
  | @lst a xs ea =>
    cases r
    obtain ⟨_, _, n, _, h1⟩ := (show ObjOk X.prog X.w H s.heap a (.lst xs) from I.hok a _ ea)
    exact (PySem.W.Looks.ld h1).andThen .now
  | @frz a ob xs ea =>
    cases r
    obtain ⟨_, _, _, n, _, h1⟩ := (show ObjOk X.prog X.w H s.heap a (.frz ob (.lst xs)) from I.hok a _ ea)
    exact (PySem.W.Looks.ld h1).andThen .now
  | @tup a xs ea =>
    cases r
    obtain ⟨_, _, _, o, h1, h2, _⟩ := (show ObjOk X.prog X.w H s.heap a (.tup xs) from I.hok a _ ea)
    exact h2 ▸ (PySem.W.Looks.ld h1).andThen .now
  | @dK a kvs ea =>
    cases r
    obtain ⟨_, _, vs, _, o, es, ep, h1, h2, _⟩ := (show ObjOk X.prog X.w H s.heap a (.dK kvs) from I.hok a _ ea)
    exact h2.1 ▸ (PySem.W.Looks.ld h1).andThen .now
  | @dT a kvs ea =>
    cases r
    obtain ⟨_, _, xs, _, o, es, ep, h1, h2, _⟩ := (show ObjOk X.prog X.w H s.heap a (.dT kvs) from I.hok a _ ea)
    exact h2.1 ▸ (PySem.W.Looks.ld h1).andThen .now
  | @ins a C dx fs ea cl ha hn htk hm =>
    cases r
    obtain ⟨mA, O, _⟩ := ins_get I.hok ea
    obtain ⟨od, J, _⟩ := O.look
    exact J.type
/-- a call of a def from within -/
theorem call_own {n : Nat} {f : Addr} {fd : FuncData} {ps : List Str} {sp : Sp} {xs : List V} {us : List Value} {Q : VK} {A : Around} (F : FnOk X.prog X.w X.K X.mg X.base CX0 n f fd ps sp) (hb : Binds X.K fd ps []) (sb : Sub X n A) (I : Inv X pins σ H s) (rx : Vals xs us)
    (h : sp xs H Q E0) : wpAny (model X.prog X.w) A (call (.ref f) us) (EP X pins σ Q) X.xe s := by
  have e0 : Env0 X.prog X.w X.K X.mg X.base A X.stack s H := by
    have e := I.env0
    exact ⟨by rw [sb.fr]; exact e.frames, e.mod, e.bs, e.bsz, e.funs, e.frf, e.hok, e.bare⟩
  have hl := F.len _ _ _ _ h
  have hl' : us.length = ps.length := by rw [← rx.length, hl]
  refine wpAny_call (codeAny_mono (F.run A X.stack s H ⟨us, []⟩ us xs _ E0 sb.room e0 (by
    have := hb s us I.kIn (by simpa using hl')
    simpa using this) rx h) fun r s' hq => ?_)
  cases r with
  | error e => exact False.elim hq
  | ok fl =>
    cases fl with
    | ret w => exact I.after hq
    | next => exact False.elim hq
    | brk => exact False.elim hq
    | cont => exact False.elim hq
/-- a special method that is a built-in -/
theorem ifBound_B {M : Model} {K : PySem.W.Frag} {A : Around} {E : Value → Shared → Prop} {s : Shared} {x C : Addr} {ox : Obj} {od : Option Obj} {name : Str} {id : String} {args : List Value} {Q : Option Value → Shared → Prop} (X : K.In s.heap) (I : PySem.W.InstAt s.heap x ox C od)
    (hs : PySem.W.findIn K (.ref C) name = some (some (.builtin id))) (hb : ∀ self, bindSpecial (.builtin id) self = pure (.builtin id, [self]))
    (h : wpAny M A (call (.builtin id) (.ref x :: args)) (fun v => Q (some v)) E s) : wpAny M A (callSpecialIfBound? (.ref x) name args) Q E s := by
  simp only [callSpecialIfBound?, bindSpecialIfBound?]
  refine wpAny_holding (wpAny_bind (wpAny_bind (wpAny_bind (I.type.here ((PySem.W.looks_findIn X hs).here ?_)))))
  refine wpAny_bind (wpAny_askSetting (wpAny_ite ?_))
  have fin : wpAny M A (call (.builtin id) ([.ref x] ++ args) >>= fun v => pure (some v)) Q E s := wpAny_bind (wpAny_mono h (fun v s' h' => wpAny_pure h') fun _ _ h' => h')
  split
  · exact wpAny_bind (wpAny_of_eq (hb _) (wpAny_pure (by exact fin)))
  · exact wpAny_tryCatch (wpAny_bind (wpAny_of_eq (hb _) (wpAny_pure (by exact fin))))
theorem bind_ne (self : Value) : bindSpecial (.builtin "object.__ne__") self = pure (.builtin "object.__ne__", [self]) := PySem.F.slot_tuple_iterator_ne.bind self
theorem ne_body {K : PySem.W.Frag} {prog : Program} {w : World} {A : Around} {E : Value → Shared → Prop} {s : Shared} {x C f : Addr} {ox : Obj} {od : Option Obj} {b : Value} {Q : Fin → Shared → Prop} (X : K.In s.heap) (I : PySem.W.InstAt s.heap x ox C od)
    (hs : PySem.W.findIn K (.ref C) "__eq__" = some (some (.ref f))) (hf : PySem.W.isFn K (.ref f) = true) (hu : A.units < cLine)
    (hcall : wpAny (model prog w) A (call (.ref f) [.ref x, b]) (fun v s' => ∃ c, v = .bool c ∧ Q (.done (.ret (.bool (!c)))) s') E s) :
    wpAny (model prog w) A (Builtin.«object.__ne__» ⟨[.ref x, b], []⟩) Q E s := by
  obtain ⟨h, g, d, t, os⟩ := s
  unfold Builtin.«object.__ne__»
  repeat (first
    | with_reducible refine wpAny_cRoomFor hu ?_
    | (refine wpAny_bind (m := callSpecialIfBound? (.ref x) (Str.ofString "__eq__") [b])
        (PySem.W.ifBound_K X I hs hf (wpAny_mono hcall (fun r s' hr => by
          obtain ⟨c, rfl, hq⟩ := hr
          repeat (first | exact hq | exact wpAny_pure hq | exact wpAny_truthy_bool hq | (refine wpAny_bind (m := truthy (.bool _)) (wpAny_truthy_bool ?_)) | wp_step)) fun _ _ e => e)))
    | wp_step)
theorem op_eqO {n : Nat} {C f : Addr} {fd : FuncData} {ps : List Str} {sp : Sp} (F : FnOk X.prog X.w X.K X.mg X.base CX0 n f fd ps sp) (hs : PySem.W.findIn X.K (.ref C) "__eq__" = some (some (.ref f))) (hf : PySem.W.isFn X.K (.ref f) = true) (hb : Binds X.K fd ps []) (hr : Room n X.A) :
    OpR X (compareOp .Eq) (fun x y H Q => ∃ a dx fs tb, x = .ref a ∧ H a = some (.ins C dx fs) ∧ TyOf X.K H y tb ∧ PySem.W.notFirst X.K C tb = true ∧ sp [x, y] H (fun v H' => ∃ c, v = .bl c ∧ Q v H') E0) := by
  intro pins s σ H x y u v Q I rx ry h
  obtain ⟨a, dx, fs, tb, rfl, ha, ty, nf, q⟩ := h
  cases rx
  obtain ⟨mA, J, _⟩ := ins_get I.hok ha
  obtain ⟨od, J, _⟩ := J.look
  obtain ⟨m, hF⟩ := I.fr
  show wpAny (model X.prog X.w) X.A (richCompare .Eq (.ref a) v) (EP X pins σ Q) X.xe s
  refine PySem.W.cmp_K (op := .Eq) (tb := tb) hr.units0 hF I.ok.mod.kin J (ty_looks I ry ty) nf hs hf ?_
  refine wpAny_mono (call_own F hb ⟨hr, rfl⟩ I (.cons (show RelV (V.ref a) (Value.ref a) from rfl) (.cons ry .nil)) q) (fun r s' z => ?_) fun _ _ x => x
  obtain ⟨z, H', I', rz, c, ez, q'⟩ := z
  subst ez
  cases rz
  exact ⟨.bl c, H', I', rfl, q'⟩
theorem op_neO {n : Nat} {C f : Addr} {fd : FuncData} {ps : List Str} {sp : Sp} (F : FnOk X.prog X.w X.K X.mg X.base CX0 n f fd ps sp) (hs : PySem.W.findIn X.K (.ref C) "__eq__" = some (some (.ref f))) (hn : PySem.W.findIn X.K (.ref C) "__ne__" = some (some (.builtin "object.__ne__")))
    (ho : PySem.W.mroIn X.K C (.type "object") = some true) (hf : PySem.W.isFn X.K (.ref f) = true) (hb : Binds X.K fd ps []) (hr : Room (n + 1) X.A) :
    OpR X (compareOp .NotEq) (fun x y H Q => ∃ a dx fs tb, x = .ref a ∧ H a = some (.ins C dx fs) ∧ TyOf X.K H y tb ∧ PySem.W.notFirst X.K C tb = true ∧ sp [x, y] H (fun v H' => ∃ c, v = .bl c ∧ Q (.bl (!c)) H') E0) := by
  intro pins s σ H x y u v Q I rx ry h
  obtain ⟨a, dx, fs, tb, rfl, ha, ty, nf, q⟩ := h
  cases rx
  obtain ⟨mA, J, _⟩ := ins_get I.hok ha
  obtain ⟨od, J, _⟩ := J.look
  have hb' := ty_looks I ry ty
  have sb : Sub X (n + 1) X.A := ⟨hr, rfl⟩
  show wpAny (model X.prog X.w) X.A (richCompare .NotEq (.ref a) v) (EP X pins σ Q) X.xe s
  have one : wpAny (model X.prog X.w) X.A (tryCompare (.ref a) "__ne__" v) (fun r s' => ∃ w, r = some w ∧ EP X pins σ Q w s') X.xe s := by
    unfold tryCompare
    refine wpAny_bind (ifBound_B I.kIn J hn bind_ne (wpAny_call (codeAny_call_builtin PySem.F.slot_tuple_iterator_ne.plain PySem.F.cmpEntry_ne
      (PySem.W.check_slot PySem.F.cmpKind_ne PySem.F.cmpSplit_ne (J.type.andThen (PySem.W.looks_mroIn I.kIn ho)) (PySem.F.cmpArgs_ne _ _)
        (ne_body I.kIn J hs hf sb.in1.room.units0 (wpAny_mono (call_own F hb sb.in1 I (.cons (show RelV (V.ref a) (Value.ref a) from rfl) (.cons ry .nil)) q) (fun r s' z => ?_) fun _ _ x => x))))))
    obtain ⟨z, H', I', rz, c, ez, q'⟩ := z
    subst ez
    cases rz
    have fin : EP X pins σ Q (.bool (!c)) s' := ⟨.bl (!c), H', I', rfl, q'⟩
    first | exact ⟨c, rfl, wpAny_pure ⟨_, rfl, fin⟩⟩ | exact ⟨c, rfl, wpAny_pure (wpAny_pure ⟨_, rfl, fin⟩)⟩ | exact ⟨c, rfl, ⟨_, rfl, fin⟩⟩
  unfold richCompare
  simp only [oneThing_ref]
  refine wpAny_holding (wpAny_bind (wpAny_cRoomFor hr.units0 ?_))
  refine wpAny_bind (J.type.here (wpAny_bind (hb'.here ?_)))
  split
  · rename_i q'
    have e : PySem.W.subIn X.K tb (.ref C) = some false := by
      rcases Bool.or_eq_true_iff.mp nf with e | e
      · rw [beq_iff_eq.mp e] at q'; simp at q'
      · exact beq_iff_eq.mp e
    refine wpAny_bind ((PySem.W.looks_subIn I.kIn e).here ?_)
    simp only [Bool.false_eq_true, if_false]
    refine wpAny_bind (wpAny_mono one (fun r s' z => ?_) fun _ _ e => e)
    obtain ⟨v, rfl, hq⟩ := z
    exact wpAny_pure hq
  · refine wpAny_bind (wpAny_pure ?_)
    simp only [Bool.false_eq_true, if_false]
    refine wpAny_bind (wpAny_mono one (fun r s' z => ?_) fun _ _ e => e)
    obtain ⟨v, rfl, hq⟩ := z
    exact wpAny_pure hq
end
end Lag

set_option maxRecDepth 100000
set_option maxHeartbeats 4000000
namespace Lag
open PySem PySem.Spec PyProof.Rows L2
/-! ### nets as data that is compared -/
def gateD (g : Gt) : PyData := .tuple [.str g.1, .int g.2]
def gatesD (gs : List Gt) : PyData := .list (gs.map gateD)
def wireD (x : Wr) : PyData := .tuple [.int (x.1 : Nat), .int (x.2.1 : Nat), .tuple (x.2.2.map PyData.int)]
def wiresD (ws : List Wr) : PyData := .list (ws.map wireD)
def intsD (l : List Nat) : PyData := .list (l.map fun i => .int (i : Nat))
theorem eqvAll_map {α : Type} [DecidableEq α] {f : α → PyData} (h : ∀ x y, PyData.eqv (f x) (f y) = decide (x = y)) : ∀ xs ys : List α, PyData.eqvAll (xs.map f) (ys.map f) = decide (xs = ys)
  | [], [] => rfl
  | [], _ :: _ => rfl
  | _ :: _, [] => rfl
  | x :: xs, y :: ys => by
    show (PyData.eqv (f x) (f y) && PyData.eqvAll (xs.map f) (ys.map f)) = _
    rw [h, eqvAll_map h xs ys, Bool.eq_iff_iff]
    simp
theorem gateD_eq (a b : Gt) : PyData.eqv (gateD a) (gateD b) = decide (a = b) := by
  show ((a.1 == b.1) && ((a.2 == b.2) && true)) = _
  rw [Bool.eq_iff_iff]
  simp [Prod.ext_iff]
theorem gatesD_eq (a b : List Gt) : PyData.eqv (gatesD a) (gatesD b) = decide (a = b) := eqvAll_map gateD_eq a b
theorem intD_eq (a b : Int) : PyData.eqv (.int a) (.int b) = decide (a = b) := rfl
theorem wireD_eq (a b : Wr) : PyData.eqv (wireD a) (wireD b) = decide (a = b) := by
  show ((((a.1 : Nat) : Int) == ((b.1 : Nat) : Int)) && ((((a.2.1 : Nat) : Int) == ((b.2.1 : Nat) : Int)) && (PyData.eqvAll (a.2.2.map PyData.int) (b.2.2.map PyData.int) && true))) = _
  rw [eqvAll_map intD_eq, Bool.eq_iff_iff]
  simp only [Bool.and_eq_true, beq_iff_eq, decide_eq_true_eq, and_true]
  constructor
  · rintro ⟨h1, h2, h3⟩
    exact Prod.ext (by omega) (Prod.ext (by show a.2.1 = b.2.1; omega) h3)
  · rintro rfl
    exact ⟨rfl, rfl, rfl⟩
theorem wiresD_eq (a b : List Wr) : PyData.eqv (wiresD a) (wiresD b) = decide (a = b) := eqvAll_map wireD_eq a b
theorem natD_eq (a b : Nat) : PyData.eqv (.int (a : Nat)) (.int (b : Nat)) = decide (a = b) := by
  show (((a : Nat) : Int) == ((b : Nat) : Int)) = _
  rw [Bool.eq_iff_iff]
  simp
  omega
theorem intsD_eq (a b : List Nat) : PyData.eqv (intsD a) (intsD b) = decide (a = b) := eqvAll_map natD_eq a b
theorem lay_all {ds : List PyData} : (∀ d ∈ ds, PyData.canLay0 d = true) → PyData.canLayAll0 ds = true := by
  induction ds with
  | nil => intro _; rfl
  | cons d ds ih =>
    intro h
    show (PyData.canLay0 d && PyData.canLayAll0 ds) = true
    rw [h d (List.mem_cons_self ..), ih fun x hx => h x (List.mem_cons_of_mem _ hx)]
    rfl
theorem depth_all {ds : List PyData} {k : Nat} : (∀ d ∈ ds, PyData.depth d ≤ k) → PyData.depthAll ds ≤ k := by
  induction ds with
  | nil => intro _; exact Nat.zero_le _
  | cons d ds ih =>
    intro h
    show max (PyData.depth d) (PyData.depthAll ds) ≤ k
    have h1 := h d (List.mem_cons_self ..)
    have h2 := ih fun x hx => h x (List.mem_cons_of_mem _ hx)
    omega
/-- such data may be compared, to the depth k -/
def Sh (k : Nat) (d : PyData) : Prop := PyData.canLay0 d = true ∧ PyData.depth d ≤ k
theorem Sh.ok {k : Nat} {d : PyData} (h : Sh k d) (hk : k ≤ 64) : SeqAt.shaped d = true := by
  show (PyData.canLay0 d && decide (PyData.depth d ≤ 64)) = true
  rw [h.1, decide_eq_true (Nat.le_trans h.2 hk)]
  rfl
theorem sh_list {k : Nat} {ds : List PyData} (h : ∀ d ∈ ds, Sh k d) : Sh (k + 1) (.list ds) := ⟨lay_all fun d hd => (h d hd).1, Nat.succ_le_succ (depth_all fun d hd => (h d hd).2)⟩
theorem sh_tuple {k : Nat} {ds : List PyData} (h : ∀ d ∈ ds, Sh k d) : Sh (k + 1) (.tuple ds) := ⟨lay_all fun d hd => (h d hd).1, Nat.succ_le_succ (depth_all fun d hd => (h d hd).2)⟩
theorem sh_int {k : Nat} (i : Int) : Sh k (.int i) := ⟨rfl, Nat.zero_le _⟩
theorem kinds_str : ∀ k ∈ kinds, PyData.canLay0 (.str k) = true := by decide +kernel
theorem sh_kind {k : Nat} {z : Str} (h : z ∈ kinds) : Sh k (.str z) := ⟨kinds_str z h, Nat.zero_le _⟩
theorem sh_gates {gs : List Gt} (h : ∀ g ∈ gs, GOk g) : Sh 2 (gatesD gs) := by
  refine sh_list fun d hd => ?_
  obtain ⟨g, hg, rfl⟩ := List.mem_map.mp hd
  refine sh_tuple fun d hd => ?_
  simp only [List.mem_cons, List.not_mem_nil, or_false] at hd
  rcases hd with rfl | rfl
  · exact sh_kind (h g hg).1
  · exact sh_int _
theorem sh_wires (ws : List Wr) : Sh 3 (wiresD ws) := by
  refine sh_list fun d hd => ?_
  obtain ⟨g, hg, rfl⟩ := List.mem_map.mp hd
  refine sh_tuple fun d hd => ?_
  simp only [List.mem_cons, List.not_mem_nil, or_false] at hd
  rcases hd with rfl | rfl | rfl
  · exact sh_int _
  · exact sh_int _
  · refine sh_tuple fun d hd => ?_
    obtain ⟨i, _, rfl⟩ := List.mem_map.mp hd
    exact sh_int _
theorem sh_ints (l : List Nat) : Sh 1 (intsD l) := by
  refine sh_list fun d hd => ?_
  obtain ⟨i, _, rfl⟩ := List.mem_map.mp hd
  exact sh_int _
section
variable {K : PySem.W.Frag} {H : Hp}
theorem dp_all {α : Type} {R : V → α → Prop} {f : α → PyData} (h : ∀ v x, R v x → Dp K H v (f x)) : ∀ {vs : List V} {xs : List α}, All2 R vs xs → DpAll K H vs (xs.map f)
  | [], [], _ => .nil
  | [], _ :: _, a => by have := a.1; simp at this
  | _ :: _, [], a => by have := a.1; simp at this
  | _ :: _, _ :: _, a => .cons (h _ _ a.head) (dp_all h a.tail)
theorem GateV.dp {v : V} {g : Gt} (h : GateV K H v g) : Dp K H v (gateD g) := by
  obtain ⟨a, rfl, s⟩ := h
  exact .tup s (.cons (.str _) (.cons (.int _) .nil))
theorem ints_dp : ∀ l : List Int, DpAll K H (l.map V.int) (l.map PyData.int)
  | [] => .nil
  | i :: l => .cons (.int i) (ints_dp l)
theorem nats_dp : ∀ l : List Nat, DpAll K H (l.map fun i => V.int (i : Nat)) (l.map fun i => PyData.int (i : Nat))
  | [] => .nil
  | i :: l => .cons (.int _) (nats_dp l)
theorem WireV.dp {v : V} {x : Wr} (h : WireV K H v x) : Dp K H v (wireD x) := by
  obtain ⟨a, b, rfl, s1, s2⟩ := h
  exact .tup s1 (.cons (.int _) (.cons (.int _) (.cons (.tup s2 (ints_dp _)) .nil)))
theorem RG.dp {l : Addr} {gs : List Gt} (h : RG K H l gs) : Dp K H (.ref l) (gatesD gs) := by
  obtain ⟨vs, s, a⟩ := h
  exact .lst s (dp_all (fun _ _ r => GateV.dp r) a)
theorem RW.dp {l : Addr} {ws : List Wr} (h : RW K H l ws) : Dp K H (.ref l) (wiresD ws) := by
  obtain ⟨vs, s, a⟩ := h
  exact .lst s (dp_all (fun _ _ r => WireV.dp r) a)
theorem dp_ints {l : Addr} {xs : List Nat} (h : SqL K H l (xs.map fun i => V.int (i : Nat))) : Dp K H (.ref l) (intsD xs) := .lst h (nats_dp xs)
end
/-! ### Net.__eq__ -/
structure NTy (K : PySem.W.Frag) (C : Addr) : Prop where
  ha : PySem.W.findIn K (.ref C) "__class__" = some (some (.builtin "object.__class__"))
  hn : PySem.W.specialIn K (.builtin "object.__class__") "__get__" = some (some (.builtin "getset_descriptor.__get__"))
  htk : PySem.W.takesIn K (.builtin "object.__class__") = some true
  hm : PySem.W.mroIn K C (.type "object") = some true
theorem ty_net {K : PySem.W.Frag} {mg : Str → Option Value} {C : Addr} {H : Hp} {p dx : Addr} {fs : List (Str × V)} (T : NT K mg C) (Y : NTy K C) (h : H p = some (.ins C dx fs)) : TyOf K H (.ref p) (.ref C) := .ins h T.cl Y.ha Y.hn Y.htk Y.hm
def spEqN (K : PySem.W.Frag) (C : Addr) : Sp := fun vs H Q _ => ∃ (p lg lw : Addr) (gs : List Gt) (ws : List Wr) (y : V), vs = [.ref p, y] ∧ NetAt K C H p lg lw gs ws ∧
  ((∃ (q lg' lw' : Addr) (gs' : List Gt) (ws' : List Wr), y = .ref q ∧ NetAt K C H q lg' lw' gs' ws' ∧ (∀ g ∈ gs, GOk g) ∧ (∀ g ∈ gs', GOk g) ∧ Q (.bl (decide (gs = gs') && decide (ws = ws'))) H) ∨
    (∃ t, TyX K H y t ∧ PySem.W.kitOne K t (.ref C) = some false ∧ Q (.bl false) H))
section
variable {P : Program} {w : World} {K : PySem.W.Frag} {mg : Str → Option Value} {base : Heap}
theorem scEq : FnScope ["self", "other"] ["self", "other"] (defScope sEq) := ⟨rfl, rfl, rfl, by decide +kernel, rfl, by decide +kernel, by decide +kernel⟩
theorem kit_self {K : PySem.W.Frag} (C : Addr) : PySem.W.kitOne K (.ref C) (.ref C) = some true := by
  unfold PySem.W.kitOne
  rw [if_pos (beq_self_eq_true _)]
theorem ok_eqN {f C : Addr} {fd : FuncData} (F : Fun K "__eq__" "Net.__eq__" sEq f fd) (T : NT K mg C) (Y : NTy K C) (B : Bt mg) : FnOk P w K mg base CX0 1 f fd ["self", "other"] (spEqN K C) := by
  refine F.ok scEq (fun vs H Q E h => ?_) (fun cdv A outer s H vs Q E hr h => ?_)
  · obtain ⟨p, lg, lw, gs, ws, y, rfl, _⟩ := h
    rfl
  · obtain ⟨p, lg, lw, gs, ws, y, rfl, N, h⟩ := h
    refine ⟨_, pss_one <| ps_ret <| pe_and (pe_callB call_isi (by rfl) B.isi (by decide +kernel) (pa_cons (pv 1) (pa_cons (pe_glob (v := .ref C) (by rfl) T.mg rfl) pa_nil))) <|
      pe_and (pe_cmpR (op_eqD hr.units) (pe_fld (pv 0) rfl) (pe_fld (pv 1) rfl) (nomark _)) <| pe_one <| pe_cmpR (op_eqD hr.units) (pe_fld (pv 0) rfl) (pe_fld (pv 1) rfl) (nomark _), ?_⟩
    obtain ⟨dx, hp⟩ := N.ob
    rcases h with ⟨q, lg', lw', gs', ws', rfl, N', gok, gok', k⟩ | ⟨t, ty, kt, k⟩
    · obtain ⟨dx', hq⟩ := N'.ob
      refine ⟨_, rfl, _, _, _, _, true, rfl, .own C, .base (ty_net T Y hq), kit_self C, true, rfl, iteT ?_⟩
      refine ⟨_, rfl, p, C, dx, _, _, rfl, hp, T.cl, T.nG, nf_gates _ _, _, rfl, q, C, dx', _, _, rfl, hq, T.cl, T.nG, nf_gates _ _, _, _, N.g.rg.dp, N'.g.rg.dp, (sh_gates gok).ok (by decide), (sh_gates gok').ok (by decide), _, rfl, ?_⟩
      rw [gatesD_eq]
      cases e : decide (gs = gs') with
      | false =>
        rw [e] at k
        exact iteF k
      | true =>
        rw [e] at k
        refine iteT ⟨_, rfl, p, C, dx, _, _, rfl, hp, T.cl, T.nW, nf_wires _ _, _, rfl, q, C, dx', _, _, rfl, hq, T.cl, T.nW, nf_wires _ _, _, _, N.w.rw.dp, N'.w.rw.dp, (sh_wires _).ok (by decide), (sh_wires _).ok (by decide), ?_⟩
        rw [wiresD_eq]
        exact k
    · exact ⟨_, rfl, _, _, _, _, false, rfl, .own C, ty, kt, false, rfl, iteF k⟩
end
end Lag

set_option maxRecDepth 100000
set_option maxHeartbeats 4000000
namespace Lag
open PySem PySem.Spec PyProof.Rows L2
/-! ### what keeps a net a net -/
theorem kindAt_set {gs : List Gt} {i j : Nat} {g : Gt} (h : i < gs.length) : kindAt (gs.set i g) j = if j = i then g.1 else kindAt gs j := by
  unfold kindAt
  rw [List.getD_eq_getElem?_getD, List.getD_eq_getElem?_getD, List.getElem?_set]
  by_cases e : i = j
  · subst e
    rw [if_pos rfl, if_pos h, if_pos rfl]
    rfl
  · rw [if_neg e, if_neg (fun z => e z.symm)]
/-- another gate at a place whose gate is no port: no port, and no first where it was none -/
theorem NetOk.setG {gs : List Gt} {ws : List Wr} (N : NetOk gs ws) {i : Nat} {g : Gt} (hi : i < gs.length) (hg : GOk g) (h1 : g.1 ≠ "out") (h2 : g.1 ≠ "in") (h3 : g.1 = "first" → kindAt gs i = "first") : NetOk (gs.set i g) ws := by
  have kk := @kindAt_set gs i
  refine ⟨?_, by rw [List.length_set]; exact N.gl, N.wl, ?_, fun x hx => ?_, fun e he hk => ?_, fun e he hk => ?_, N.rank⟩
  · intro z
    have := congrArg List.length z
    rw [List.length_set] at this
    exact N.ne (List.length_eq_zero_iff.mp this)
  · intro y hy
    rcases List.mem_or_eq_of_mem_set hy with hy | hy
    · exact N.gok y hy
    · rw [hy]
      exact hg
  · have W := N.wok x hx
    refine ⟨by rw [List.length_set]; exact W.s, by rw [List.length_set]; exact W.e, ?_, ?_, W.r, W.rl⟩
    · rw [kk hi]
      split
      · exact h1
      · exact W.ks
    · rw [kk hi]
      split
      · exact h2
      · exact W.ke
  · rw [List.length_set] at he
    rw [kk hi] at hk
    split at hk
    · exact absurd hk h1
    · exact N.one e he hk
  · rw [List.length_set] at he
    rw [kk hi] at hk
    split at hk
    · rename_i hei
      subst hei
      exact N.some _ he (h3 hk)
    · exact N.some e he hk
theorem kindAt_app {gs : List Gt} {g : Gt} {j : Nat} (h : j < gs.length) : kindAt (gs ++ [g]) j = kindAt gs j := by
  unfold kindAt
  rw [List.getD_eq_getElem?_getD, List.getD_eq_getElem?_getD, List.getElem?_append_left h]
theorem NetOk.addIn {gs : List Gt} {ws : List Wr} (N : NetOk gs ws) (hl : gs.length < 100) : NetOk (gs ++ [(("in" : Str), (0 : Int))]) ws := by
  have kl : kindAt (gs ++ [(("in" : Str), (0 : Int))]) gs.length = "in" := by
    unfold kindAt
    rw [List.getD_eq_getElem?_getD, List.getElem?_append_right (Nat.le_refl _), Nat.sub_self]
    rfl
  refine ⟨by simp, by simp; omega, N.wl, ?_, fun x hx => ?_, fun e he hk => ?_, fun e he hk => ?_, N.rank⟩
  · intro y hy
    rcases List.mem_append.mp hy with hy | hy
    · exact N.gok y hy
    · simp at hy
      subst hy
      exact ⟨by show ("in" : Str) ∈ kinds; decide +kernel, Int.le_refl 0, (by show (0 : Int) ≤ 100; decide), fun _ => rfl⟩
  · have W := N.wok x hx
    exact ⟨by have := W.s; simp; omega, by have := W.e; simp; omega, by rw [kindAt_app W.s]; exact W.ks, by rw [kindAt_app W.e]; exact W.ke, W.r, W.rl⟩
  · by_cases h : e < gs.length
    · rw [kindAt_app h] at hk
      exact N.one e h hk
    · have : e = gs.length := by simp at he; omega
      subst this
      rw [kl] at hk
      exact absurd hk (by decide +kernel)
  · by_cases h : e < gs.length
    · rw [kindAt_app h] at hk
      exact N.some e h hk
    · have : e = gs.length := by simp at he; omega
      subst this
      rw [kl] at hk
      exact absurd hk (by decide +kernel)
theorem cnt_set {ws : List Wr} {i : Nat} {x y : Wr} (h : ws[i]? = some x) (he : y.2.1 = x.2.1) (e : Nat) : cnt (ws.set i y) e = cnt ws e := by
  obtain ⟨hi, rfl⟩ := List.getElem?_eq_some_iff.mp h
  have h1 : ws.set i y = ws.take i ++ y :: ws.drop (i + 1) := List.set_eq_take_append_cons_drop .. |>.trans (by rw [if_pos hi])
  have h2 : ws = ws.take i ++ ws[i] :: ws.drop (i + 1) := by rw [List.getElem_cons_drop, List.take_append_drop]
  unfold cnt
  conv => rhs; rw [h2]
  rw [h1, List.countP_append, List.countP_append, List.countP_cons, List.countP_cons, he]
/-- a wire with other registers, one at least -/
theorem NetOk.setW {gs : List Gt} {ws : List Wr} (N : NetOk gs ws) {i : Nat} {x : Wr} {r : List Int} (h : ws[i]? = Option.some x) (hr : ROk r) (hl : r.length ≤ 100) (hne : r ≠ []) : NetOk gs (ws.set i (x.1, x.2.1, r)) := by
  have W := N.wok x (List.mem_of_getElem? h)
  obtain ⟨ρ, hρ⟩ := N.rank
  refine ⟨N.ne, N.gl, by rw [List.length_set]; exact N.wl, N.gok, fun y hy => ?_, fun e he hk => ?_, fun e he hk => ?_, ρ, fun y hy hyr => ?_⟩
  · rcases List.mem_or_eq_of_mem_set hy with hy | hy
    · exact N.wok y hy
    · rw [hy]
      exact ⟨W.s, W.e, W.ks, W.ke, hr, hl⟩
  · rw [cnt_set (y := (x.1, x.2.1, r)) h rfl]
    exact N.one e he hk
  · rw [cnt_set (y := (x.1, x.2.1, r)) h rfl]
    exact N.some e he hk
  · rcases List.mem_or_eq_of_mem_set hy with hy | hy
    · exact hρ y hy hyr
    · rw [hy] at hyr
      exact absurd hyr hne
theorem NetOk.perm {gs : List Gt} {ws ws' : List Wr} (N : NetOk gs ws) (p : ws'.Perm ws) : NetOk gs ws' := by
  obtain ⟨ρ, hρ⟩ := N.rank
  have c : ∀ e, cnt ws' e = cnt ws e := fun e => p.countP_eq _
  exact ⟨N.ne, N.gl, by rw [p.length_eq]; exact N.wl, N.gok, fun x hx => N.wok x (p.mem_iff.mp hx), fun e he hk => by rw [c]; exact N.one e he hk, fun e he hk => by rw [c]; exact N.some e he hk, ρ, fun x hx h => hρ x (p.mem_iff.mp hx) h⟩
/-! ### slices -/
theorem take_min {α : Type} (l : List α) (k : Nat) : l.take (min k l.length) = l.take k := by
  by_cases h : k ≤ l.length
  · rw [Nat.min_eq_left h]
  · rw [Nat.min_eq_right (by omega), List.take_length, List.take_of_length_le (by omega)]
theorem drop_min {α : Type} (l : List α) (k : Nat) : l.drop (min k l.length) = l.drop k := by
  by_cases h : k ≤ l.length
  · rw [Nat.min_eq_left h]
  · rw [Nat.min_eq_right (by omega), List.drop_length, List.drop_of_length_le (by omega)]
theorem cut_to {xs : List V} (k : Nat) : cutV xs none (some (k : Int)) = xs.take k := by
  unfold cutV
  rw [HT.sIx_none, HT.sIx_nat, List.drop_zero, Nat.sub_zero, take_min]
theorem cut_from {xs : List V} (k : Nat) : cutV xs (some (k : Int)) none = xs.drop k := by
  unfold cutV
  rw [HT.sIx_none, HT.sIx_nat, drop_min]
  exact List.take_of_length_le (by rw [List.length_drop]; omega)
theorem cut_mid {xs : List V} (j k : Nat) : cutV xs (some (j : Int)) (some (k : Int)) = (xs.take k).drop j := by
  unfold cutV
  rw [HT.sIx_nat, HT.sIx_nat, List.drop_take, drop_min]
  by_cases h : j ≤ xs.length
  · by_cases h2 : k ≤ xs.length
    · rw [Nat.min_eq_left h, Nat.min_eq_left h2]
    · rw [List.take_of_length_le (by rw [List.length_drop]; omega), List.take_of_length_le (by rw [List.length_drop]; omega)]
  · rw [List.drop_of_length_le (by omega)]
    simp
section
variable {α β : Type} {R : α → β → Prop} {xs xs' : List α} {ys ys' : List β}
theorem All2.take (h : All2 R xs ys) (k : Nat) : All2 R (xs.take k) (ys.take k) := by
  refine ⟨by rw [List.length_take, List.length_take, h.1], fun i x y hx hy => ?_⟩
  have hi : i < k := by
    have := (List.getElem?_eq_some_iff.mp hx).1
    rw [List.length_take] at this
    omega
  rw [List.getElem?_take_of_lt hi] at hx hy
  exact h.2 i x y hx hy
theorem All2.drop (h : All2 R xs ys) (k : Nat) : All2 R (xs.drop k) (ys.drop k) := by
  refine ⟨by rw [List.length_drop, List.length_drop, h.1], fun i x y hx hy => ?_⟩
  rw [List.getElem?_drop] at hx hy
  exact h.2 _ x y hx hy
theorem All2.append (h : All2 R xs ys) (h' : All2 R xs' ys') : All2 R (xs ++ xs') (ys ++ ys') := by
  induction xs generalizing ys with
  | nil =>
    cases ys with
    | nil => exact h'
    | cons _ _ => have := h.1; simp at this
  | cons x xs ih =>
    cases ys with
    | nil => have := h.1; simp at this
    | cons y ys => exact All2.cons h.head (ih h.tail)
theorem All2.reverse (h : All2 R xs ys) : All2 R xs.reverse ys.reverse := by
  induction xs generalizing ys with
  | nil =>
    cases ys with
    | nil => exact h
    | cons _ _ => have := h.1; simp at this
  | cons x xs ih =>
    cases ys with
    | nil => have := h.1; simp at this
    | cons y ys =>
      rw [List.reverse_cons, List.reverse_cons]
      exact (ih h.tail).snoc h.head
theorem All2.one {x : α} {y : β} (r : R x y) : All2 R [x] [y] := All2.cons r All2.nil
end
theorem set_cut {α : Type} {l : List α} {i : Nat} {y : α} (h : i < l.length) : l.take i ++ [y] ++ l.drop (i + 1) = l.set i y := by
  rw [List.set_eq_take_append_cons_drop, if_pos h, List.append_assoc]
  rfl
theorem swap_perm {α : Type} (l : List α) (i : Nat) : (l.take i ++ ((l.take (i + 2)).drop i).reverse ++ l.drop (i + 2)).Perm l := by
  have e : l = l.take i ++ (l.take (i + 2)).drop i ++ l.drop (i + 2) := by
    have h1 : l.take i = (l.take (i + 2)).take i := by rw [List.take_take, Nat.min_eq_left (by omega)]
    rw [h1, List.take_append_drop, List.take_append_drop]
  conv => rhs; rw [e]
  exact ((List.Perm.refl _).append (List.reverse_perm _)).append (List.Perm.refl _)
end Lag

set_option maxRecDepth 100000
set_option maxHeartbeats 8000000
namespace Lag
open PySem PySem.Spec PyProof.Rows L2
abbrev sDigit : Stmt := topS 42 -- @_law_digit
abbrev sGates : Stmt := topS 43 -- @_law_gates
abbrev sLWorths : Stmt := topS 44 -- @_law_worths
theorem st_norm {f : L2.St → Hp → Prop} {σ σ' : L2.St} {H : Hp} (e : σ = σ') (h : f σ' H) : f σ H := e ▸ h
theorem gn_norm {i : Nat} {x : V} {σ σ' : L2.St} {H : Hp} {N : L2.St → Hp → Prop} (e : σ.set i (some x) = σ') (h : N σ' H) : gName i x σ H N := by
  subst e
  exact h
theorem All2.pushT {α : Type} {R : Hp → V → α → Prop} {H H2 : Hp} {D : Addr} {acc : List V} {l : List α} {v : V} {x : α} {o : HO} (mono : ∀ {H H' : Hp} {v : V} {x : α}, TK H H' → R H v x → R H' v x) (h : All2 (R H) acc l) (hD : H2 D = some (.lst acc)) (t : TK H H2) (r : R H2 v x) : All2 (R (upd H2 D o)) (acc ++ [v]) (l ++ [x]) :=
  (h.imp fun _ _ r => mono (t.trans (TK.lst hD)) r).snoc (mono (TK.lst hD) r)
def rTupOf (K : PySem.W.Frag) : List V → Hp → VK → Prop := fun xs H Q => ∃ p ys, xs = [.ref p] ∧ ((SqL K H p ys ∧ ∀ l, H l = none → Q (.ref l) (upd H l (.tup ys))) ∨ (SqT K H p ys ∧ Q (.ref p) H))
theorem mod_b {x n : Int} (h : 0 < n) (hn : n ≤ 4294967296) : -(2 ^ 64) < x % n ∧ x % n < 2 ^ 64 := by
  have h1 := Int.emod_nonneg x (show n ≠ 0 by omega)
  have h2 := Int.emod_lt_of_pos x h
  constructor
  · have e : (-(2 ^ 64) : Int) = -18446744073709551616 := by decide
    omega
  · have e : (2 ^ 64 : Int) = 18446744073709551616 := by decide
    omega
/-! ### _law_digit -/
def spDraw : Sp := fun vs H Q _ => ∃ (w : Addr) (n : Int), vs = [.ref w, .int n] ∧ 0 < n ∧ n < 1000000 ∧ WellAt w H ∧ ∀ d H', 0 ≤ d → d < n → Dr w H H' → Q (.int d) H'
section
variable {P : Program} {w : World} {K : PySem.W.Frag} {mg : Str → Option Value} {base : Heap}
abbrev nDigit : List Str := ["_law_state", "_law_base", "_law_cell", "_law_found", "_law_number"]
theorem scDigit : FnScope nDigit ["_law_state", "_law_base"] (defScope sDigit) := ⟨rfl, rfl, rfl, by decide +kernel, rfl, by decide +kernel, by decide +kernel⟩
abbrev DDraw (P : Program) (w : World) (K : PySem.W.Frag) (mg : Str → Option Value) (base : Heap) := Df P w K mg base 1 "_law_digit" ["_law_state", "_law_base"] spDraw
theorem ok_digit {f : Addr} {fd : FuncData} (F : Fun K "_law_digit" "_law_digit" sDigit f fd) (hm : mg "_law_digit" = some (.ref f)) (B : Bt mg) : DDraw P w K mg base f fd := by
  refine ⟨?_, hm, F.kp, F.binds fun _ _ _ _ _ _ us hl => match us, hl with | [_, _], _ => rfl⟩
  refine F.ok scDigit (fun vs H Q E h => ?_) (fun cdv A outer s H vs Q E hr h => ?_)
  · obtain ⟨wl, n, rfl, _⟩ := h
    rfl
  · obtain ⟨wl, n, rfl, hn, hn2, ⟨xs, hw, hst⟩, q⟩ := h
    have nd := scDigit.nd
    refine ⟨_, Evl.pss_cut (ps_if (pt_cmpR op_eq (pe_callB call_len_seq (by rfl) B.len PySem.boot_len (pa_cons (pv 0) pa_nil)) pe_int (nomark _))
        (pss_cons (ps_set (i := 2) nd rfl (.inl rfl) (pe_ix ix_list (pv 0) pe_int (fun _ _ => rfl))) <|
          pss_cons (ps_asg (pe_ix ix_list (pe_lst (pa_cons pe_int (pa_cons (pv 2) pa_nil))) (pe_callTy call_int1 (by rfl) B.int (by decide +kernel) (pa_cons (pe_cmpR op_ge (pv 2) (pe_op op_pow pe_int pe_int) (nomark _)) pa_nil)) (fun _ _ => rfl)) (pg_sub (pv 0) pe_int set_list)) <|
          pss_one <| ps_expr <| pe_bm PySem.F.plainAttrs_list PySem.F.slot_list_extend PySem.F.type_list_extend mt_extend (pv 0) <| (pa_cons · pa_nil) <| pe_lst (pa_cons (pe_op op_mod (pv 2) pe_int) (pa_cons pe_int pa_nil))) pss_nil) <|
      pss_cons (ps_if (pt_cmpR op_gt (pe_ix ix_list (pv 0) pe_int (fun _ _ => rfl)) pe_int (nomark _))
        (pss_cons (ps_set (i := 3) nd rfl (Or.inl rfl) (pe_op op_mod (pe_ix ix_list (pv 0) pe_int (fun _ _ => rfl)) (pv 1)))
        (pss_cons (ps_asg (pe_op op_fdiv (pe_ix ix_list (pv 0) pe_int (fun _ _ => rfl)) (pv 1)) (pg_sub (pv 0) pe_int set_list))
        (pss_one (ps_ret (pv 3))))) pss_nil)
      (pss_cons (ps_asg (pe_op op_add (pe_ix ix_list (pv 0) pe_int (fun _ _ => rfl)) pe_int) (pg_sub (pv 0) pe_int set_list))
      (pss_cons (ps_set (i := 4) nd rfl (Or.inl rfl) (pe_op op_mod (pe_op op_mul (pe_op op_add (pe_op op_add (pe_ix ix_list (pv 0) pe_int (fun _ _ => rfl)) (pe_op op_mul pe_int (pe_ix ix_list (pv 0) pe_int (fun _ _ => rfl)))) pe_int) pe_int) pe_int))
      (pss_cons (ps_set (i := 4) nd rfl (Or.inl rfl) (pe_op op_mod (pe_op op_mul (pv 4) (pe_op op_add (pe_op op_fdiv (pv 4) pe_int) pe_int)) pe_int))
      (pss_one (ps_ret (pe_op op_mod (pe_op op_mod (pe_op op_mul (pv 4) (pe_op op_add (pe_op op_fdiv (pv 4) pe_int) pe_int)) pe_int) (pv 1))))))), ?_⟩
    refine ⟨fun σ H' => ∃ (a b c : Int) (s2 : Option V), σ = [some (.ref wl), some (.int n), s2, none, none] ∧ H' wl = some (.lst [.int a, .int b, .int c]) ∧ But wl H H', ?_, ?_⟩
    · refine ⟨_, rfl, wl, xs, rfl, .inl (SqL.of hw), rfl, _, rfl, ite2 (fun e => ?_) (fun e => ?_)⟩
      · have e' : ((xs.length : Nat) : Int) = 1 := V.int.inj (of_decide_eq_true e)
        rcases hst with ⟨a, rfl⟩ | ⟨a, b, c, rfl⟩
        · refine ⟨_, rfl, wl, _, 0, .int a, rfl, rfl, SqL.of hw, atI_nat (j := 0) rfl, ?_⟩
          refine ⟨_, rfl, (by show 2 ≤ sizeLine; decide), fun l hl => ?_⟩
          have nl : wl ≠ l := ne_of_none hw hl
          refine ⟨_, rfl, _, _, rfl, rfl, ⟨by decide, by decide, by decide⟩, _, _, rfl, rfl, .inr ⟨_, rfl, ?_⟩⟩
          refine ⟨l, _, _, .int (if decide (10 ^ (18 : Int).toNat ≤ a) = true then a else 0), rfl, rfl, SqL.of upd_same, ?_, ?_⟩
          · cases decide (10 ^ (18 : Int).toNat ≤ a) with
            | true => rfl
            | false => rfl
          generalize (if decide (10 ^ (18 : Int).toNat ≤ a) = true then a else 0) = a2
          have hw1 : (upd H l (.lst [.int 0, .int a])) wl = some (.lst [.int a]) := by
            rw [upd_ne nl]
            exact hw
          have b1 : But wl H (upd H l (.lst [.int 0, .int a])) := But.new hl
          generalize upd H l (.lst [.int 0, .int a]) = H1 at hw1 b1
          refine ⟨_, rfl, wl, _, 0, 0, rfl, rfl, hw1, rfl, ?_⟩
          have hw2 : (upd H1 wl (.lst [.int a2])) wl = some (.lst [.int a2]) := upd_same
          have b2 : But wl H (upd H1 wl (.lst [.int a2])) := b1.trans But.upd
          show _
          refine ⟨_, rfl, .inl ⟨rfl, _, SqL.of hw2⟩, _, rfl, _, _, rfl, rfl, (by show (0 : Int) < 2147483647; decide), (by show 2 ≤ sizeLine; decide), fun l2 hl2 => ?_⟩
          have nl2 : wl ≠ l2 := ne_of_none hw2 hl2
          refine ⟨wl, l2, [.int a2], _, rfl, rfl, by rw [upd_ne nl2]; exact hw2, upd_same, (by show 1 + 2 ≤ sizeLine; decide), ?_⟩
          exact ⟨_, _, _, _, rfl, upd_same, (b2.trans (But.new hl2)).trans But.upd⟩
        · exact absurd e' (by show ¬ ((3 : Nat) : Int) = 1; decide)
      · rcases hst with ⟨a, rfl⟩ | ⟨a, b, c, rfl⟩
        · exact absurd rfl e
        · exact ⟨a, b, c, _, rfl, hw, But.refl _ _⟩
    rintro σ H0 ⟨a, b, c, s2, rfl, hw0, b0⟩
    have dr : ∀ {a b c : Int} {H' : Hp}, But wl H H' → H' wl = some (.lst [.int a, .int b, .int c]) → Dr wl H H' := fun hb h => ⟨hb, _, h, .inr ⟨_, _, _, rfl⟩⟩
    refine ⟨_, rfl, wl, _, 0, .int a, rfl, rfl, SqL.of hw0, atI_nat (j := 0) rfl, _, _, rfl, rfl, _, rfl, ite2 (fun e => ?_) (fun e => ?_)⟩
    · refine ⟨_, rfl, wl, _, 0, .int a, rfl, rfl, SqL.of hw0, atI_nat (j := 0) rfl, _, rfl, _, _, rfl, rfl, hn, ?_⟩
      refine ⟨_, rfl, wl, _, 0, .int a, rfl, rfl, SqL.of hw0, atI_nat (j := 0) rfl, _, rfl, _, _, rfl, rfl, ⟨hn, by omega⟩, ?_⟩
      refine ⟨_, rfl, wl, _, 0, 0, rfl, rfl, hw0, rfl, ?_⟩
      refine ⟨_, rfl, ?_⟩
      exact q _ _ (Int.emod_nonneg _ (by omega)) (Int.emod_lt_of_pos _ hn) (dr (b0.trans But.upd) upd_same)
    · have h1 : (upd H0 wl (HO.lst [.int a, .int b, .int (c + 1)])) wl = some (.lst [.int a, .int b, .int (c + 1)]) := upd_same
      refine ⟨_, rfl, wl, _, 2, .int c, rfl, rfl, SqL.of hw0, atI_nat (j := 2) rfl, _, _, rfl, rfl, ?_⟩
      refine ⟨_, rfl, wl, _, 2, 2, rfl, rfl, hw0, rfl, ?_⟩
      refine ⟨_, rfl, wl, _, 1, .int b, rfl, rfl, SqL.of h1, atI_nat (j := 1) rfl, _, rfl, wl, _, 2, .int (c + 1), rfl, rfl, SqL.of h1, atI_nat (j := 2) rfl, _, _, rfl, rfl, .inl ⟨by decide, by decide⟩, _, _, rfl, rfl, _, _, rfl, rfl, _, _, rfl, rfl, .inr ⟨by decide, by decide⟩, _, _, rfl, rfl, (by show (0 : Int) < 2147483647; decide), ?_⟩
      refine ⟨_, rfl, _, rfl, _, _, rfl, rfl, ⟨by decide, by decide⟩, _, _, rfl, rfl, _, _, rfl, rfl, .inl (mod_b (by decide) (by decide)), _, _, rfl, rfl, (by show (0 : Int) < 2147483647; decide), ?_⟩
      refine ⟨_, rfl, _, rfl, _, _, rfl, rfl, ⟨by decide, by decide⟩, _, _, rfl, rfl, _, _, rfl, rfl, .inl (mod_b (by decide) (by decide)), _, _, rfl, rfl, (by show (0 : Int) < 2147483399; decide), _, rfl, _, _, rfl, rfl, hn, ?_⟩
      exact q _ _ (Int.emod_nonneg _ (by omega)) (Int.emod_lt_of_pos _ hn) (dr (b0.trans But.upd) h1)
end
/-! ### _law_gates -/
def inG : Gt := ("in", 0)
def outG : Gt := ("out", 0)
def innP (k : Str) : Bool := k != "in" && k != "out"
def nInn (gs : List Gt) : Nat := gs.countP fun g => innP g.1
structure GSh (gs : List Gt) (a b : Nat) : Prop where
  ex : ∃ mid c, gs = List.replicate a inG ++ mid ++ List.replicate c outG ∧ mid.length = b ∧ 1 ≤ c ∧ c ≤ 2 ∧ ∀ g ∈ mid, GOk g ∧ g.1 ≠ "in" ∧ g.1 ≠ "out"
  a2 : a ≤ 2
  b1 : 1 ≤ b
  b2 : b ≤ 20
def spGates (K : PySem.W.Frag) : Sp := fun vs H Q _ => ∃ (wl : Addr) (m : Int), vs = [.ref wl, .int m] ∧ 0 < m ∧ m ≤ 20 ∧ WellAt wl H ∧ ∀ t lg gs (a b : Nat) H', Dr wl H H' → H' t = some (.tup [.ref lg, .int (a : Nat), .int (b : Nat)]) → H lg = none → LG K H' lg gs → GSh gs a b → (b : Int) ≤ m → Q (.ref t) H'
def inner7 : List Str := ["sum", "times", "most", "least", "first", "one", "sum"]
theorem inner7_ok : ∀ k ∈ inner7, k ∈ kinds ∧ k ≠ "in" ∧ k ≠ "out" := by decide +kernel
theorem rep_flat {α : Type} (n : Nat) (x : α) : (List.replicate n [x]).flatten = List.replicate n x := by
  induction n with
  | zero => rfl
  | succ n ih => rw [List.replicate_succ, List.flatten_cons, ih, List.replicate_succ]; rfl
theorem all2_rep {α β : Type} {R : α → β → Prop} {x : α} {y : β} (h : R x y) : ∀ n, All2 R (List.replicate n x) (List.replicate n y)
  | 0 => All2.nil
  | n + 1 => All2.cons h (all2_rep h n)
section
variable {P : Program} {w : World} {K : PySem.W.Frag} {mg : Str → Option Value} {base : Heap}
abbrev nGates : List Str := ["_law_state", "_law_most", "_law_inner", "_law_ins", "_law_gates_here", "_law_k", "_law_kind"]
theorem scGates : FnScope nGates ["_law_state", "_law_most"] (defScope sGates) := ⟨rfl, rfl, rfl, by decide +kernel, rfl, by decide +kernel, by decide +kernel⟩
abbrev DGates (P : Program) (w : World) (K : PySem.W.Frag) (mg : Str → Option Value) (base : Heap) := Df P w K mg base 2 "_law_gates" ["_law_state", "_law_most"] (spGates K)
theorem ok_gates {f fD : Addr} {fd fdD : FuncData} (F : Fun K "_law_gates" "_law_gates" sGates f fd) (hm : mg "_law_gates" = some (.ref f)) (B : Bt mg) (DD : DDraw P w K mg base fD fdD) : DGates P w K mg base f fd := by
  refine ⟨?_, hm, F.kp, F.binds fun _ _ _ _ _ _ us hl => match us, hl with | [_, _], _ => rfl⟩
  refine F.ok scGates (fun vs H Q E h => ?_) (fun cdv A outer s H vs Q E hr h => ?_)
  · obtain ⟨wl, m, rfl, _⟩ := h
    rfl
  · obtain ⟨wl, m, rfl, hm0, hm1, hw, q⟩ := h
    have nd := scGates.nd
    refine ⟨_, pss_cons (ps_set (i := 2) nd rfl (.inl rfl) (pe_op op_add pe_int (pe_call DD.ok hr (by rfl) DD.mg DD.kp DD.bd .nil pass0 (pa_cons (pv 0) (pa_cons (pv 1) pa_nil))))) <|
      pss_cons (ps_set (i := 3) nd rfl (.inl rfl) (pe_call DD.ok hr (by rfl) DD.mg DD.kp DD.bd .nil pass0 (pa_cons (pv 0) (pa_cons pe_int pa_nil)))) <|
      pss_cons (ps_set (i := 4) nd rfl (.inl rfl) (pe_op op_rep (pe_lst (pa_cons (pe_tup (pa_cons pe_str (pa_cons pe_int pa_nil))) pa_nil)) (pv 3))) <|
      pss_cons (ps_for PassesOwn.never rfl (pi_range1 (by rfl) B.range (pa_cons (pv 2) pa_nil)) (pg_name (i := 5) nd rfl (.inl rfl)) <|
        pss_cons (ps_set (i := 6) nd rfl (.inl rfl) (pe_ix ix_list (pe_lst (pa_cons pe_str (pa_cons pe_str (pa_cons pe_str (pa_cons pe_str (pa_cons pe_str (pa_cons pe_str (pa_cons pe_str pa_nil)))))))) (pe_call DD.ok hr (by rfl) DD.mg DD.kp DD.bd .nil pass0 (pa_cons (pv 0) (pa_cons pe_int pa_nil))) (fun _ _ => rfl))) <|
        pss_one <| ps_expr <| pe_bm PySem.F.plainAttrs_list PySem.F.slot_list_append PySem.F.type_list_append mt_append (pv 4) <| (pa_cons · pa_nil) <| pe_tup <| pa_cons (pv 6) <| (pa_cons · pa_nil) <|
          pe_ix ix_list (pe_lst (pa_cons (pe_call DD.ok hr (by rfl) DD.mg DD.kp DD.bd .nil pass0 (pa_cons (pv 0) (pa_cons pe_int pa_nil))) (pa_cons (pe_call DD.ok hr (by rfl) DD.mg DD.kp DD.bd .nil pass0 (pa_cons (pv 0) (pa_cons pe_int pa_nil))) (pa_cons pe_int (pa_cons pe_int pa_nil))))) (pe_call DD.ok hr (by rfl) DD.mg DD.kp DD.bd .nil pass0 (pa_cons (pv 0) (pa_cons pe_int pa_nil))) (fun _ _ => rfl)) <|
      pss_one <| ps_ret <| pe_tup <| pa_cons (pe_op op_cat (pv 4) (pe_op op_rep (pe_lst (pa_cons (pe_tup (pa_cons pe_str (pa_cons pe_int pa_nil))) pa_nil)) (pe_op op_add pe_int (pe_call DD.ok hr (by rfl) DD.mg DD.kp DD.bd .nil pass0 (pa_cons (pv 0) (pa_cons pe_int pa_nil)))))) <| pa_cons (pv 3) <| pa_cons (pv 2) pa_nil, ?_⟩
    refine ⟨_, rfl, _, rfl, wl, m, rfl, hm0, by omega, hw, fun d1 H1 d10 d11 E1 => ⟨_, _, rfl, rfl, ?_⟩⟩
    refine ⟨_, rfl, wl, 3, rfl, by decide, by decide, E1.well, fun d2 H2 d20 d21 E2 => ?_⟩
    obtain ⟨a, rfl⟩ : ∃ a : Nat, d2 = (a : Int) := ⟨d2.toNat, by omega⟩
    obtain ⟨b0, rfl⟩ : ∃ b : Nat, d1 = (b : Int) := ⟨d1.toNat, by omega⟩
    have D2 := E1.trans E2
    refine ⟨(by show 2 ≤ sizeLine; decide), fun t3 ht3 => ?_⟩
    have D3 := D2.trans (Dr.new (o := .tup [.str "in", .int 0]) D2.well ht3)
    have et3 : SqT K (upd H2 t3 (.tup [.str "in", .int 0])) t3 [.str "in", .int 0] := .inl (.inl upd_same)
    generalize upd H2 t3 (.tup [.str "in", .int 0]) = H3 at D3 et3
    refine ⟨(by show 1 ≤ sizeLine; decide), fun l4 hl4 => ?_⟩
    have D4 := D3.trans (Dr.new (o := .lst [.ref t3]) D3.well hl4)
    have et4 := (TK.new (o := .lst [.ref t3]) hl4).seq et3
    have el4 : (upd H3 l4 (.lst [.ref t3])) l4 = some (.lst [.ref t3]) := upd_same
    generalize upd H3 l4 (.lst [.ref t3]) = H4 at D4 et4 el4
    refine ⟨_, rfl, l4, _, _, rfl, rfl, el4, by omega, by omega, ?_, fun lg hlg => ?_⟩
    · show 1 * _ ≤ sizeLine
      exact Nat.le_of_lt (small1000 (by omega))
    rw [Int.toNat_natCast, rep_flat]
    have D5 := D4.trans (Dr.new (o := .lst (List.replicate a (V.ref t3))) D4.well hlg)
    have et5 := (TK.new (o := .lst (List.replicate a (V.ref t3))) hlg).seq et4
    have el5 : (upd H4 lg (.lst (List.replicate a (V.ref t3)))) lg = some (.lst (List.replicate a (V.ref t3))) := upd_same
    have nlg : lg ≠ wl := (D4.well.ne hlg).symm
    have hlg0 : H lg = none := D4.free hw hlg
    generalize upd H4 lg (.lst (List.replicate a (V.ref t3))) = H5 at D5 et5 el5
    refine gn_norm (σ' := [some (.ref wl), some (.int m), some (.int (1 + (b0 : Nat))), some (.int (a : Nat)), some (.ref lg), none, none]) rfl ?_
    refine ⟨_, rfl, _, rfl, by omega, by omega, for_range (lo := 0) (n := (1 + ((b0 : Nat) : Int)).toNat) (fun i σ H' => ∃ (s5 s6 : Option V) (acc : List V) (mid : List Gt), σ = [some (.ref wl), some (.int m), some (.int (1 + (b0 : Nat))), some (.int (a : Nat)), some (.ref lg), s5, s6] ∧ H' lg = some (.lst acc) ∧ All2 (GateV K H') acc (List.replicate a inG ++ mid) ∧ mid.length = i ∧ (∀ g ∈ mid, GOk g ∧ g.1 ≠ "in" ∧ g.1 ≠ "out") ∧ Dr wl H H')
      ⟨_, _, _, [], rfl, el5, by rw [List.append_nil]; exact all2_rep ⟨t3, rfl, et5⟩ a, rfl, by simp, D5⟩ ?_ ?_⟩
    · rintro i σ H6 hi ⟨s5, s6, acc, mid, rfl, hacc, haa, hml, hmid, D6⟩
      have hal : acc.length = a + i := by rw [haa.1, List.length_append, List.length_replicate, hml]
      refine ⟨(by show 7 ≤ sizeLine; decide), fun l7 hl7 => ?_⟩
      have D7 := D6.trans (Dr.new (o := .lst (inner7.map V.str)) D6.well hl7)
      have E67 := Dr.new (o := .lst (inner7.map V.str)) D6.well hl7
      refine ⟨_, rfl, wl, 7, rfl, by decide, by decide, D7.well, fun k8 H8 k80 k81 E8 => ?_⟩
      have el7 := E8.but _ _ (D6.well.ne hl7).symm (upd_same (H := H6) (a := l7) (o := .lst (inner7.map V.str)))
      have hk8 : k8.toNat < (inner7.map V.str).length := by show k8.toNat < 7; omega
      refine ⟨l7, inner7.map V.str, k8, (inner7.map V.str)[k8.toNat], rfl, rfl, SqL.of el7, at_of (j := k8.toNat) (by omega) (List.getElem?_eq_getElem hk8), ?_⟩
      obtain ⟨kd, hkd, ekd⟩ := List.mem_map.mp (List.getElem_mem hk8)
      rw [← ekd]
      have hk := inner7_ok kd hkd
      have E68 := E67.trans E8
      have D8 := D6.trans E68
      have hacc8 := E68.but _ _ nlg hacc
      refine gn_norm (σ' := [some (.ref wl), some (.int m), some (.int (1 + (b0 : Nat))), some (.int (a : Nat)), some (.ref lg), some (.int (0 + (i : Nat))), some (.str kd)]) rfl ?_
      refine ⟨_, rfl, .inl ⟨rfl, _, SqL.of hacc8⟩, _, rfl, _, rfl, wl, 10, rfl, by decide, by decide, D8.well, fun z1 H9 z10 z11 E9 => ?_⟩
      refine ⟨_, rfl, wl, 4, rfl, by decide, by decide, E9.well, fun z2 H10 z20 z21 E10 => ?_⟩
      refine ⟨(by show 4 ≤ sizeLine; decide), fun l10 hl10 => ?_⟩
      have E11 := (E9.trans E10).trans (Dr.new (o := .lst [.int z1, .int z2, .int 0, .int 100]) E10.well hl10)
      refine ⟨_, rfl, wl, 4, rfl, by decide, by decide, E11.well, fun j H12 j0 j1 E12 => ?_⟩
      have el10 := E12.but _ _ (E10.well.ne hl10).symm (upd_same (H := H10) (a := l10) (o := .lst [.int z1, .int z2, .int 0, .int 100]))
      obtain ⟨wt, hwt, w0, w1⟩ : ∃ wt : Int, ([.int z1, .int z2, .int 0, .int 100] : List V)[j.toNat]? = some (.int wt) ∧ 0 ≤ wt ∧ wt ≤ 100 := by
        rcases (by omega : j.toNat = 0 ∨ j.toNat = 1 ∨ j.toNat = 2 ∨ j.toNat = 3) with h | h | h | h <;> rw [h]
        · exact ⟨z1, rfl, z10, by omega⟩
        · exact ⟨z2, rfl, z20, by omega⟩
        · exact ⟨0, rfl, by decide, by decide⟩
        · exact ⟨100, rfl, by decide, by decide⟩
      refine ⟨l10, _, j, .int wt, rfl, rfl, SqL.of el10, at_of (j := j.toNat) (by omega) hwt, (by show 2 ≤ sizeLine; decide), fun p hp => ?_⟩
      have E13 := (E68.trans (E11.trans E12)).trans (Dr.new (o := .tup [.str kd, .int wt]) E12.well hp)
      have hacc13 := E13.but _ _ nlg hacc
      refine ⟨lg, acc, _, rfl, rfl, hacc13, small1000 (by omega), ?_⟩
      refine ⟨_, _, acc ++ [.ref p], mid ++ [(kd, wt)], rfl, upd_same, ?_, by simp [hml], fun g hg => ?_, set_well (D6.trans E13) hlg0 nlg⟩
      · rw [← List.append_assoc]
        exact All2.pushT (fun t r => GateV.tk t r) haa hacc13 (TK.dr D6.well E13.but) ⟨p, rfl, .inl (.inl upd_same)⟩
      · rcases List.mem_append.mp hg with hg | hg
        · exact hmid g hg
        · simp at hg
          subst hg
          exact ⟨⟨hk.1, w0, w1, fun hp => by
            rcases hp with z | z
            · exact absurd z hk.2.1
            · exact absurd z hk.2.2⟩, hk.2.1, hk.2.2⟩
    · rintro σ H6 ⟨s5, s6, acc, mid, rfl, hacc, haa, hml, hmid, D6⟩
      have hal : acc.length = a + mid.length := by rw [haa.1, List.length_append, List.length_replicate]
      have hml' : mid.length = 1 + b0 := by omega
      refine ⟨_, rfl, (by show 2 ≤ sizeLine; decide), fun t7 ht7 => ?_⟩
      have E7 := Dr.new (o := .tup [.str "out", .int 0]) D6.well ht7
      have et7 : SqT K (upd H6 t7 (.tup [.str "out", .int 0])) t7 [.str "out", .int 0] := .inl (.inl upd_same)
      generalize upd H6 t7 (.tup [.str "out", .int 0]) = H7 at E7 et7
      refine ⟨(by show 1 ≤ sizeLine; decide), fun l8 hl8 => ?_⟩
      have E8 := E7.trans (Dr.new (o := .lst [.ref t7]) E7.well hl8)
      have et8 := (TK.new (o := .lst [.ref t7]) hl8).seq et7
      have el8 : (upd H7 l8 (.lst [.ref t7])) l8 = some (.lst [.ref t7]) := upd_same
      have nl8 : l8 ≠ wl := (E7.well.ne hl8).symm
      generalize upd H7 l8 (.lst [.ref t7]) = H8 at E8 et8 el8
      refine ⟨_, rfl, wl, 2, rfl, by decide, by decide, E8.well, fun d9 H9 d90 d91 E9 => ⟨_, _, rfl, rfl, ?_⟩⟩
      obtain ⟨c0, rfl⟩ : ∃ c : Nat, d9 = (c : Int) := ⟨d9.toNat, by omega⟩
      have et9 := (TK.dr E8.well E9.but).seq et8
      have el9 := E9.but _ _ nl8 el8
      refine ⟨l8, _, _, rfl, rfl, el9, by omega, by omega, ?_, fun l10 hl10 => ?_⟩
      · show 1 * _ ≤ sizeLine
        exact Nat.le_of_lt (small1000 (by omega))
      have ec : (1 + ((c0 : Nat) : Int)).toNat = 1 + c0 := by omega
      rw [ec, rep_flat]
      have E10 := (E8.trans E9).trans (Dr.new (o := .lst (List.replicate (1 + c0) (V.ref t7))) E9.well hl10)
      have et10 := (TK.new (o := .lst (List.replicate (1 + c0) (V.ref t7))) hl10).seq et9
      have el10 : (upd H9 l10 (.lst (List.replicate (1 + c0) (V.ref t7)))) l10 = some (.lst (List.replicate (1 + c0) (V.ref t7))) := upd_same
      generalize upd H9 l10 (.lst (List.replicate (1 + c0) (V.ref t7))) = H10 at E10 et10 el10
      refine ⟨lg, l10, _, _, rfl, rfl, E10.but _ _ nlg hacc, el10, ?_, fun l11 hl11 => ?_⟩
      · rw [List.length_replicate, hal]
        exact Nat.le_of_lt (small1000 (by omega))
      have E11 := E10.trans (Dr.new (o := .lst (acc ++ List.replicate (1 + c0) (V.ref t7))) E10.well hl11)
      have et11 := (TK.new (o := .lst (acc ++ List.replicate (1 + c0) (V.ref t7))) hl11).seq et10
      have el11 : (upd H10 l11 (.lst (acc ++ List.replicate (1 + c0) (V.ref t7)))) l11 = some (.lst (acc ++ List.replicate (1 + c0) (V.ref t7))) := upd_same
      have hl110 : H l11 = none := (D6.trans E10).free hw hl11
      generalize upd H10 l11 (.lst (acc ++ List.replicate (1 + c0) (V.ref t7))) = H11 at E11 et11 el11
      have G11 : LG K H11 l11 (List.replicate a inG ++ mid ++ List.replicate (1 + c0) outG) := ⟨_, el11, (haa.imp fun _ _ r => r.tk (TK.dr D6.well E11.but)).append (all2_rep ⟨t7, rfl, et11⟩ _)⟩
      refine ⟨_, rfl, _, rfl, (by show 3 ≤ sizeLine; decide), fun t12 ht12 => ?_⟩
      have st : Same H11 (upd H11 t12 (.tup [.ref l11, .int (a : Nat), .int (1 + (b0 : Nat))])) := same_new ht12
      refine q t12 l11 _ a (1 + b0) _ ((D6.trans E11).trans ⟨But.same st, E11.well.same st⟩) ?_ hl110 (G11.same st) ⟨⟨mid, 1 + c0, rfl, hml', by omega, by omega, hmid⟩, by omega, by omega, by omega⟩ (by omega)
      rw [upd_same]
      rfl
end
/-! ### _law_worths -/
def spLWorths (K : PySem.W.Frag) : Sp := fun vs H Q _ => ∃ (wl : Addr) (m : Nat), vs = [.ref wl, .int (m : Nat)] ∧ m ≤ 100 ∧ WellAt wl H ∧ ∀ p rs H', Dr wl H H' → H' p = some (.tup (rs.map V.int)) → rs.length = m → ROk rs → Q (.ref p) H'
section
variable {P : Program} {w : World} {K : PySem.W.Frag} {mg : Str → Option Value} {base : Heap}
abbrev nLWorths : List Str := ["_law_state", "_law_many", "_law_k"]
theorem scLWorths : FnScope nLWorths ["_law_state", "_law_many"] (defScope sLWorths) := ⟨rfl, rfl, rfl, by decide +kernel, rfl, by decide +kernel, by decide +kernel⟩
abbrev DLWorths (P : Program) (w : World) (K : PySem.W.Frag) (mg : Str → Option Value) (base : Heap) := Df P w K mg base 2 "_law_worths" ["_law_state", "_law_many"] (spLWorths K)
theorem ok_lworths {f fD : Addr} {fd fdD : FuncData} (F : Fun K "_law_worths" "_law_worths" sLWorths f fd) (hm : mg "_law_worths" = some (.ref f)) (B : Bt mg) (DD : DDraw P w K mg base fD fdD) : DLWorths P w K mg base f fd := by
  refine ⟨?_, hm, F.kp, F.binds fun _ _ _ _ _ _ us hl => match us, hl with | [_, _], _ => rfl⟩
  refine F.ok scLWorths (fun vs H Q E h => ?_) (fun cdv A outer s H vs Q E hr h => ?_)
  · obtain ⟨wl, m, rfl, _⟩ := h
    rfl
  · obtain ⟨wl, m, rfl, hm1, hw, q⟩ := h
    have nd := scLWorths.nd
    refine ⟨_, pss_one <| ps_ret <| pe_callTy call_tuple_of (by rfl) B.tuple (by decide +kernel) <| (pa_cons · pa_nil) <| pe_lc (own := [("_law_k", 2)]) (g := gName 2) (tt := tYes) (te := tCall spDraw [] E0 (tCons (tVar 0) (tCons (tC (.int 97)) tNil))) rfl nd (pi_range1 (by rfl) B.range (pa_cons (pv 1) pa_nil)) (blkOk_by (N := nLWorths) (sc := defScope sLWorths) (own := [("_law_k", 2)]) (by decide +kernel))
      (fun _ _ _ _ _ => pg_name (i := 2) nd rfl (.inl rfl)) (fun _ _ _ _ _ => pts_nil) (fun _ _ _ _ _ => pe_call DD.ok hr (by rfl) DD.mg DD.kp DD.bd .nil pass0 (pa_cons (pv 0) (pa_cons pe_int pa_nil))), ?_⟩
    refine ⟨_, rfl, _, rfl, by omega, by omega, fun R hR => ?_⟩
    have nRw : R ≠ wl := (hw.ne hR).symm
    refine lc_range (lo := 0) (n := ((m : Int)).toNat) (fun i Hc => ∃ rs : List Int, rs.length = i ∧ ROk rs ∧ Hc R = some (.lst (rs.map V.int)) ∧ Dr wl H Hc) ⟨[], rfl, by simp [ROk], upd_same, Dr.new hw hR⟩ ?_ ?_
    · rintro i Hc hi ⟨rs, hl, hr', hc, d⟩
      refine ⟨rfl, tyes ?_⟩
      refine ⟨_, rfl, wl, 97, rfl, by decide, by decide, d.well, fun z H2 z0 z1 E => ?_⟩
      refine ⟨_, E.but _ _ nRw hc, by rw [List.length_map]; exact small1000 (by omega), rs ++ [z], by simp [hl], ?_, ?_, set_well (d.trans E) hR nRw⟩
      · intro y hy
        rcases List.mem_append.mp hy with hy | hy
        · exact hr' y hy
        · simp at hy
          subst hy
          exact ⟨z0, by omega⟩
      · rw [upd_same, List.map_append]
        rfl
    · rintro Hc ⟨rs, hl, hr', hc, d⟩
      refine ⟨R, _, rfl, .inl ⟨SqL.of hc, fun p hp => ?_⟩⟩
      exact q p rs _ (d.trans (Dr.new d.well hp)) upd_same (by omega) hr'
end
end Lag

set_option maxRecDepth 100000
set_option maxHeartbeats 8000000
namespace Lag
open PySem PySem.Spec PyProof.Rows L2
abbrev sLWires : Stmt := topS 45 -- @_law_wires
abbrev sLParts : Stmt := topS 46 -- @_law_parts
theorem kindAt_i {gs : List Gt} {i : Nat} (h : i < gs.length) : kindAt gs i = gs[i].1 := kindAt_get (List.getElem?_eq_getElem h)
theorem GSh.len {gs : List Gt} {a b : Nat} (h : GSh gs a b) : a + b + 1 ≤ gs.length ∧ gs.length ≤ a + b + 2 := by
  obtain ⟨mid, c, rfl, hm, c1, c2, _⟩ := h.ex
  rw [List.length_append, List.length_append, List.length_replicate, List.length_replicate, hm]
  omega
theorem GSh.kind {gs : List Gt} {a b i : Nat} (h : GSh gs a b) (hi : i < gs.length) : (i < a → kindAt gs i = "in") ∧ (a ≤ i → i < a + b → kindAt gs i ≠ "in" ∧ kindAt gs i ≠ "out") ∧ (a + b ≤ i → kindAt gs i = "out") := by
  obtain ⟨mid, c, rfl, hm, c1, c2, hk⟩ := h.ex
  rw [List.length_append, List.length_append, List.length_replicate, List.length_replicate, hm] at hi
  refine ⟨fun h1 => ?_, fun h1 h2 => ?_, fun h1 => ?_⟩
  · refine kindAt_get (g := inG) ?_
    rw [List.getElem?_append_left (by rw [List.length_append, List.length_replicate]; omega), List.getElem?_append_left (by rw [List.length_replicate]; exact h1), List.getElem?_replicate, if_pos h1]
  · have e : (List.replicate a inG ++ mid ++ List.replicate c outG)[i]? = some (mid[i - a]'(by omega)) := by
      rw [List.getElem?_append_left (by rw [List.length_append, List.length_replicate]; omega), List.getElem?_append_right (by rw [List.length_replicate]; exact h1), List.length_replicate, List.getElem?_eq_getElem]
    rw [kindAt_get e]
    exact (hk _ (List.getElem_mem _)).2
  · refine kindAt_get (g := outG) ?_
    rw [List.getElem?_append_right (by rw [List.length_append, List.length_replicate]; omega), List.length_append, List.length_replicate, List.getElem?_replicate, if_pos (by omega)]
theorem GSh.gok {gs : List Gt} {a b : Nat} (h : GSh gs a b) : ∀ g ∈ gs, GOk g := by
  obtain ⟨mid, c, rfl, hm, c1, c2, hk⟩ := h.ex
  intro g hg
  rcases List.mem_append.mp hg with hg | hg
  · rcases List.mem_append.mp hg with hg | hg
    · rw [List.eq_of_mem_replicate hg]
      exact ⟨by show ("in" : Str) ∈ kinds; decide +kernel, Int.le_refl 0, (by show (0 : Int) ≤ 100; decide), fun _ => rfl⟩
    · exact (hk g hg).1
  · rw [List.eq_of_mem_replicate hg]
    exact ⟨by show ("out" : Str) ∈ kinds; decide +kernel, Int.le_refl 0, (by show (0 : Int) ≤ 100; decide), fun _ => rfl⟩
def spLWires (K : PySem.W.Frag) : Sp := fun vs H Q _ => ∃ (wl lg : Addr) (gs : List Gt) (a b : Nat), vs = [.ref wl, .ref lg, .int (a : Nat), .int (b : Nat)] ∧ WellAt wl H ∧ lg ≠ wl ∧ LG K H lg gs ∧ GSh gs a b ∧ ∀ l ws H', Dr wl H H' → H l = none → LW K H' l ws → WInv gs ws gs.length → Q (.ref l) H'
section
variable {P : Program} {w : World} {K : PySem.W.Frag} {mg : Str → Option Value} {base : Heap}
abbrev nLWires : List Str := ["_law_state", "_law_gates_here", "_law_ins", "_law_inner", "_law_wires_here", "_law_end", "_law_k", "_law_start"]
theorem scLWires : FnScope nLWires ["_law_state", "_law_gates_here", "_law_ins", "_law_inner"] (defScope sLWires) := ⟨rfl, rfl, rfl, by decide +kernel, rfl, by decide +kernel, by decide +kernel⟩
abbrev DLWires (P : Program) (w : World) (K : PySem.W.Frag) (mg : Str → Option Value) (base : Heap) := Df P w K mg base 3 "_law_wires" ["_law_state", "_law_gates_here", "_law_ins", "_law_inner"] (spLWires K)
theorem ok_lwires {f fD fW : Addr} {fd fdD fdW : FuncData} (F : Fun K "_law_wires" "_law_wires" sLWires f fd) (hm : mg "_law_wires" = some (.ref f)) (B : Bt mg) (DD : DDraw P w K mg base fD fdD) (DW : DLWorths P w K mg base fW fdW) : DLWires P w K mg base f fd := by
  refine ⟨?_, hm, F.kp, F.binds fun _ _ _ _ _ _ us hl => match us, hl with | [_, _, _, _], _ => rfl⟩
  refine F.ok scLWires (fun vs H Q E h => ?_) (fun cdv A outer s H vs Q E hr h => ?_)
  · obtain ⟨wl, lg, gs, a, b, rfl, _⟩ := h
    rfl
  · obtain ⟨wl, lg, gs, a, b, rfl, hw, nlg, G, gsh, q⟩ := h
    have nd := scLWires.nd
    have hr1 : Room 1 _ := hr.mono (by decide)
    refine ⟨_, pss_cons (ps_set (i := 4) nd rfl (.inl rfl) (pe_lst pa_nil)) <|
      pss_cons (ps_for PassesOwn.never rfl (pi_range2 (by rfl) B.range (pa_cons (pv 2) (pa_cons (pe_callB call_len_seq (by rfl) B.len PySem.boot_len (pa_cons (pv 1) pa_nil)) pa_nil))) (pg_name (i := 5) nd rfl (.inl rfl)) <|
        pss_one <| ps_for PassesOwn.never rfl (pi_range1 (by rfl) B.range (pa_cons (pe_op op_add pe_int (pe_op op_mul (pe_call DD.ok hr1 (by rfl) DD.mg DD.kp DD.bd .nil pass0 (pa_cons (pv 0) (pa_cons pe_int pa_nil))) (pe_callTy call_int1 (by rfl) B.int (by decide +kernel) (pa_cons (pe_cmpR op_lt (pv 5) (pe_op op_add (pv 2) (pv 3)) (nomark _)) pa_nil)))) pa_nil)) (pg_name (i := 6) nd rfl (.inl rfl)) <|
          pss_cons (ps_set (i := 7) nd rfl (.inl rfl) (pe_call DD.ok hr1 (by rfl) DD.mg DD.kp DD.bd .nil pass0 (pa_cons (pv 0) (pa_cons (pe_op op_add (pv 2) (pv 3)) pa_nil)))) <|
          pss_one <| ps_expr <| pe_bm PySem.F.plainAttrs_list PySem.F.slot_list_append PySem.F.type_list_append mt_append (pv 4) <| (pa_cons · pa_nil) <| pe_tup <| pa_cons (pv 7) <| pa_cons (pv 5) <| (pa_cons · pa_nil) <|
            pe_call DW.ok hr (by rfl) DW.mg DW.kp DW.bd .nil pass0 (pa_cons (pv 0) (pa_cons (pe_op op_add (pe_call DD.ok hr1 (by rfl) DD.mg DD.kp DD.bd .nil pass0 (pa_cons (pv 0) (pa_cons pe_int pa_nil))) (pe_callTy call_int1 (by rfl) B.int (by decide +kernel) (pa_cons (pe_cmpR op_ge (pv 7) (pv 5) (nomark _)) pa_nil))) pa_nil))) <|
      pss_one <| ps_ret (pv 4), ?_⟩
    obtain ⟨gl1, gl2⟩ := gsh.len
    have ha2 := gsh.a2
    have hb1 := gsh.b1
    have hb2 := gsh.b2
    obtain ⟨gv, hgv, ga⟩ := id G
    have hlg : gv.length = gs.length := ga.1
    refine ⟨Nat.zero_le _, fun D hD => ?_⟩
    have nDw : D ≠ wl := (hw.ne hD).symm
    have s0 : Same H (upd H D (.lst [])) := same_new hD
    have D0 : Dr wl H (upd H D (.lst [])) := Dr.new hw hD
    refine ⟨_, rfl, _, rfl, lg, gv, rfl, .inl (s0.seq (SqL.of hgv)), _, _, rfl, ⟨by omega, by omega, by omega, by omega⟩, ?_⟩
    refine for_range (fun i σ H' => ∃ (s5 s6 s7 : Option V) (acc : List V) (ws : List Wr), σ = [some (.ref wl), some (.ref lg), some (.int (a : Nat)), some (.int (b : Nat)), some (.ref D), s5, s6, s7] ∧ H' D = some (.lst acc) ∧ All2 (WireV K H') acc ws ∧ WInv gs ws (a + i) ∧ Dr wl H H')
      ⟨_, _, _, [], [], rfl, upd_same, All2.nil, ⟨by simp, fun e he hk => ?_, fun e he hk => ?_, by simp, by simp⟩, D0⟩ ?_ ?_
    · have h1 := (gsh.kind (i := e) (by omega)).1 he
      rw [h1] at hk
      exact absurd hk (by decide +kernel)
    · have h1 := (gsh.kind (i := e) (by omega)).1 he
      rw [h1] at hk
      exact absurd hk (by decide +kernel)
    · rintro i σ H1 hi ⟨s5, s6, s7, acc, ws, rfl, hacc, haa, wi, D1⟩
      rw [hlg] at hi
      have hie : a + i < gs.length := by omega
      have ee : ((a : Nat) : Int) + ((i : Nat) : Int) = ((a + i : Nat) : Int) := by omega
      rw [ee]
      generalize he : a + i = e at hie wi
      obtain ⟨k1, k2, k3⟩ := gsh.kind hie
      refine ⟨_, rfl, wl, 3, rfl, by decide, by decide, D1.well, fun d H2 d0 d1 E2 => ?_⟩
      refine ⟨_, rfl, _, rfl, _, rfl, _, _, rfl, rfl, _, _, rfl, rfl, .inr ⟨_, rfl, _, _, rfl, rfl, .inl ?_, _, _, rfl, rfl, _, rfl, ?_⟩⟩
      · have e64 : (2 ^ 64 : Int) = 18446744073709551616 := by decide
        exact ⟨by omega, by omega⟩
      have hmany : ∃ mm : Nat, (1 : Int) + d * (if decide (((e : Nat) : Int) < ((a : Nat) : Int) + ((b : Nat) : Int)) = true then 1 else 0) = (mm : Int) ∧ 1 ≤ mm ∧ mm ≤ 3 ∧ (a + b ≤ e → mm = 1) := by
        by_cases hlt : e < a + b
        · refine ⟨1 + d.toNat, ?_, by omega, by omega, fun h => by omega⟩
          rw [if_pos (decide_eq_true (by omega))]
          omega
        · refine ⟨1, ?_, by omega, by omega, fun _ => rfl⟩
          rw [if_neg (by rw [decide_eq_true_eq]; omega)]
          omega
      obtain ⟨mm, hmm, mm1, mm3, mmo⟩ := hmany
      rw [hmm]
      have D2 := D1.trans E2
      refine ⟨by omega, by omega, for_range (lo := 0) (n := ((mm : Nat) : Int).toNat) (fun j σ H' => ∃ (s6 s7 : Option V) (acc : List V) (ws : List Wr), σ = [some (.ref wl), some (.ref lg), some (.int (a : Nat)), some (.int (b : Nat)), some (.ref D), some (.int (e : Nat)), s6, s7] ∧ H' D = some (.lst acc) ∧ All2 (WireV K H') acc ws ∧ WInv2 gs ws e j ∧ Dr wl H H')
        ⟨_, _, acc, ws, rfl, E2.but _ _ nDw hacc, haa.imp fun _ _ r => r.tk (TK.dr D1.well E2.but), wi.go, D2⟩ ?_ ?_⟩
      · rintro j σ H3 hj ⟨s6', s7', acc3, ws3, rfl, hacc3, haa3, wi3, D3⟩
        have hal3 : acc3.length ≤ 200 := by
          rw [haa3.1]
          have := wi3.len
          omega
        refine ⟨_, rfl, _, rfl, _, rfl, _, _, rfl, rfl, wl, _, rfl, by omega, by omega, D3.well, fun st H4 st0 st1 E4 => ?_⟩
        obtain ⟨sx, rfl⟩ : ∃ sx : Nat, st = (sx : Int) := ⟨st.toNat, by omega⟩
        have hsx : sx < a + b := by omega
        have hacc4 := E4.but _ _ nDw hacc3
        refine ⟨_, rfl, .inl ⟨rfl, _, SqL.of hacc4⟩, _, rfl, _, rfl, _, rfl, _, rfl, wl, 3, rfl, by decide, by decide, E4.well, fun r0 H5 r00 r01 E5 => ?_⟩
        refine ⟨_, rfl, _, rfl, _, _, rfl, rfl, .inr ⟨_, rfl, _, _, rfl, rfl, ?_⟩⟩
        obtain ⟨rl, hrl, rl3, rlp⟩ : ∃ rl : Nat, r0 + (if decide (((e : Nat) : Int) ≤ ((sx : Nat) : Int)) = true then 1 else 0) = (rl : Int) ∧ rl ≤ 3 ∧ (e ≤ sx → 1 ≤ rl) := by
          by_cases hle : e ≤ sx
          · refine ⟨r0.toNat + 1, ?_, by omega, fun _ => by omega⟩
            rw [if_pos (decide_eq_true (by omega))]
            omega
          · refine ⟨r0.toNat, ?_, by omega, fun h => absurd h hle⟩
            rw [if_neg (by rw [decide_eq_true_eq]; omega)]
            omega
        refine ⟨wl, rl, congrArg (fun z => [V.ref wl, V.int z]) hrl, by omega, E5.well, fun p6 rs H6 E6 ep6 hrs hrok => ?_⟩
        refine ⟨(by show 3 ≤ sizeLine; decide), fun p hp => ?_⟩
        have E36 := E4.trans (E5.trans E6)
        have E7 := E36.trans (Dr.new (o := .tup [.int (sx : Nat), .int (e : Nat), .ref p6]) E36.well hp)
        have hacc7 := E7.but _ _ nDw hacc3
        refine ⟨D, acc3, _, rfl, rfl, hacc7, small1000 (by omega), ?_⟩
        refine ⟨_, _, acc3 ++ [.ref p], ws3 ++ [(sx, e, rs)], rfl, upd_same, All2.pushT (fun t r => WireV.tk t r) haa3 hacc7 (TK.dr D3.well E7.but) ⟨p, p6, rfl, .inl (.inl upd_same), (TK.new hp).seq (.inl (.inl ep6))⟩, wi3.app ⟨by show sx < gs.length; omega, hie, ?_, ?_, hrok, by show rs.length ≤ 100; omega⟩ (fun h => ?_) rfl (by show rs.length ≤ 3; omega), set_well (D3.trans E7) hD nDw⟩
        · show kindAt gs sx ≠ "out"
          rcases Nat.lt_or_ge sx a with h | h
          · rw [(gsh.kind (i := sx) (by omega)).1 h]
            decide +kernel
          · exact ((gsh.kind (i := sx) (by omega)).2.1 h hsx).2
        · show kindAt gs e ≠ "in"
          rcases Nat.lt_or_ge e (a + b) with h | h
          · exact (k2 (by omega) h).1
          · rw [k3 h]
            decide +kernel
        · have h : rs = [] := h
          show sx < e
          rcases Nat.lt_or_ge sx e with h2 | h2
          · exact h2
          · have := rlp h2
            rw [h] at hrs
            simp at hrs
            omega
      · rintro σ H3 ⟨s6', s7', acc3, ws3, rfl, hacc3, haa3, wi3, D3⟩
        rw [Int.toNat_natCast] at wi3
        refine ⟨_, _, _, acc3, ws3, rfl, hacc3, haa3, ?_, D3⟩
        have e2 : a + (i + 1) = e + 1 := by omega
        rw [e2]
        refine wi3.done (fun hk => mmo ?_) (fun _ => mm1) mm3
        rcases Nat.lt_or_ge e (a + b) with h | h
        · exact absurd hk (k2 (by omega) h).2
        · exact h
    · rintro σ H1 ⟨s5, s6, s7, acc, ws, rfl, hacc, haa, wi, D1⟩
      have e2 : a + (((gv.length : Nat) : Int) - ((a : Nat) : Int)).toNat = gs.length := by omega
      rw [e2] at wi
      exact ⟨_, rfl, q D ws H1 D1 hD ⟨acc, hacc, haa⟩ wi⟩
end
end Lag

set_option maxRecDepth 100000
set_option maxHeartbeats 8000000
namespace Lag
open PySem PySem.Spec PyProof.Rows L2
theorem LG.dr {K : PySem.W.Frag} {wl l : Addr} {H H' : Hp} {gs : List Gt} (h : LG K H l gs) (n : l ≠ wl) (W : WellAt wl H) (d : Dr wl H H') : LG K H' l gs := by
  obtain ⟨vs, q, a⟩ := h
  exact ⟨vs, d.but _ _ n q, a.imp fun _ _ r => r.tk (TK.dr W d.but)⟩
theorem LW.dr {K : PySem.W.Frag} {wl l : Addr} {H H' : Hp} {ws : List Wr} (h : LW K H l ws) (n : l ≠ wl) (W : WellAt wl H) (d : Dr wl H H') : LW K H' l ws := by
  obtain ⟨vs, q, a⟩ := h
  exact ⟨vs, d.but _ _ n q, a.imp fun _ _ r => r.tk (TK.dr W d.but)⟩
/-! ### numbered on from t -/
def rotL (n t : Nat) : List Nat := (List.range n).drop t ++ (List.range n).take t
theorem rot_perm (n t : Nat) : (rotL n t).Perm (List.range n) := by
  unfold rotL
  refine List.perm_append_comm.trans ?_
  rw [List.take_append_drop]
theorem rot_map {gs : List Gt} (t : Nat) : ((rotL gs.length t).map fun k => gs.getD k ("", 0)) = gs.drop t ++ gs.take t := by
  have e : (List.range gs.length).map (fun k => gs.getD k ("", 0)) = gs := by
    refine List.ext_getElem? fun i => ?_
    rw [List.getElem?_map]
    by_cases h : i < gs.length
    · rw [List.getElem?_range h, List.getElem?_eq_getElem h]
      show some (gs.getD i ("", 0)) = _
      rw [List.getD_eq_getElem?_getD, List.getElem?_eq_getElem h]
      rfl
    · rw [List.getElem?_eq_none (by rw [List.length_range]; omega), List.getElem?_eq_none (by omega)]
      rfl
  unfold rotL
  rw [List.map_append, List.map_drop, List.map_take, e]
theorem rot_idx {n t i : Nat} (ht : t < n) (hi : i < n) : (((rotL n t).idxOf i : Nat) : Int) = ((i : Int) - (t : Int)) % (n : Int) := by
  have nd : (rotL n t).Nodup := (rot_perm n t).nodup_iff.mpr List.nodup_range
  have key : ∀ j, (rotL n t)[j]? = some i → (rotL n t).idxOf i = j := fun j hj => by
    obtain ⟨hjl, e⟩ := List.getElem?_eq_some_iff.mp hj
    rw [← e]
    exact List.Nodup.idxOf_getElem nd j hjl
  rcases Nat.lt_or_ge i t with h | h
  · have hj : (rotL n t)[n - t + i]? = some i := by
      unfold rotL
      rw [List.getElem?_append_right (by rw [List.length_drop, List.length_range]; omega), List.length_drop, List.length_range, List.getElem?_take_of_lt (by omega), List.getElem?_range (by omega)]
      congr 1
      omega
    rw [key _ hj]
    have : ((i : Int) - (t : Int)) % (n : Int) = ((i : Int) - (t : Int) + (n : Int)) % (n : Int) := by rw [Int.add_emod_right]
    rw [this, Int.emod_eq_of_lt (by omega) (by omega)]
    omega
  · have hj : (rotL n t)[i - t]? = some i := by
      unfold rotL
      rw [List.getElem?_append_left (by rw [List.length_drop, List.length_range]; omega), List.getElem?_drop, List.getElem?_range (by omega)]
      congr 1
      omega
    rw [key _ hj, Int.emod_eq_of_lt (by omega) (by omega)]
    omega
theorem nInn_rot (gs : List Gt) (t : Nat) : nInn (gs.drop t ++ gs.take t) = nInn gs := by
  unfold nInn
  rw [List.countP_append, Nat.add_comm, ← List.countP_append, List.take_append_drop]
theorem GSh.inn {gs : List Gt} {a b : Nat} (h : GSh gs a b) : nInn gs ≤ b := by
  obtain ⟨mid, c, e, hm, _⟩ := h.ex
  have h1 : (List.replicate a inG).countP (fun g => innP g.1) = 0 := List.countP_eq_zero.mpr fun g hg => by
    rw [List.eq_of_mem_replicate hg]
    decide +kernel
  have h2 : (List.replicate c outG).countP (fun g => innP g.1) = 0 := List.countP_eq_zero.mpr fun g hg => by
    rw [List.eq_of_mem_replicate hg]
    decide +kernel
  have h3 : mid.countP (fun g => innP g.1) ≤ mid.length := List.countP_le_length
  unfold nInn
  rw [e, List.countP_append, List.countP_append, h1, h2]
  omega
def spLParts (K : PySem.W.Frag) : Sp := fun vs H Q _ => ∃ (wl : Addr) (m : Int), vs = [.ref wl, .int m] ∧ 0 < m ∧ m ≤ 20 ∧ WellAt wl H ∧
  ∀ (gs : List Gt) (ws : List Wr) (lg lw p : Addr) (H' : Hp), NetOk gs ws → gs.length ≤ 24 → (gs.length : Int) ≤ m + 4 → (nInn gs : Int) ≤ m → ws.length ≤ 3 * gs.length → (∀ x ∈ ws, x.2.2.length ≤ 3) → ws.length ≤ 72 → ws ≠ [] → (∃ i, i < gs.length ∧ kindAt gs i ≠ "in" ∧ kindAt gs i ≠ "out") → Dr wl H H' → H lg = none → H lw = none → lg ≠ lw → LG K H' lg gs → LW K H' lw ws → H' p = some (.tup [.ref lg, .ref lw]) → Q (.ref p) H'
section
variable {P : Program} {w : World} {K : PySem.W.Frag} {mg : Str → Option Value} {base : Heap}
abbrev nLParts : List Str := ["_law_state", "_law_most", "_law_gates_here", "_law_ins", "_law_inner", "_law_wires_here", "_law_many", "_law_turn", "_law_start", "_law_end", "_law_stock"]
theorem scLParts : FnScope nLParts ["_law_state", "_law_most"] (defScope sLParts) := ⟨rfl, rfl, rfl, by decide +kernel, rfl, by decide +kernel, by decide +kernel⟩
abbrev DLParts (P : Program) (w : World) (K : PySem.W.Frag) (mg : Str → Option Value) (base : Heap) := Df P w K mg base 4 "_law_parts" ["_law_state", "_law_most"] (spLParts K)
def rotE : TE := tTup (tCons (tOp (rI (fun _ j => 0 < j) fun i j => .int (i % j)) (tOp (rI0 fun i j => .int (i - j)) (tVar 8) (tVar 7)) (tVar 6)) (tCons (tOp (rI (fun _ j => 0 < j) fun i j => .int (i % j)) (tOp (rI0 fun i j => .int (i - j)) (tVar 9) (tVar 7)) (tVar 6)) (tCons (tVar 10) tNil)))
theorem ok_lparts {f fD fG fW : Addr} {fd fdD fdG fdW : FuncData} (F : Fun K "_law_parts" "_law_parts" sLParts f fd) (hm : mg "_law_parts" = some (.ref f)) (B : Bt mg) (DD : DDraw P w K mg base fD fdD) (DG : DGates P w K mg base fG fdG) (DW : DLWires P w K mg base fW fdW) : DLParts P w K mg base f fd := by
  refine ⟨?_, hm, F.kp, F.binds fun _ _ _ _ _ _ us hl => match us, hl with | [_, _], _ => rfl⟩
  refine F.ok scLParts (fun vs H Q E h => ?_) (fun cdv A outer s H vs Q E hr h => ?_)
  · obtain ⟨wl, m, rfl, _⟩ := h
    rfl
  · obtain ⟨wl, m, rfl, hm0, hm1, hw, q⟩ := h
    have nd := scLParts.nd
    have hr2 : Room 2 _ := hr.mono (by decide)
    have hr1 : Room 1 _ := hr.mono (by decide)
    refine ⟨_, pss_cons (ps_asg (pe_call DG.ok hr2 (by rfl) DG.mg DG.kp DG.bd .nil pass0 (pa_cons (pv 0) (pa_cons (pv 1) pa_nil))) (pg_tup (by rfl) (pgs_cons (pg_name (i := 2) nd rfl (.inl rfl)) (pgs_cons (pg_name (i := 3) nd rfl (.inl rfl)) (pgs_cons (pg_name (i := 4) nd rfl (.inl rfl)) pgs_nil))))) <|
      pss_cons (ps_set (i := 5) nd rfl (.inl rfl) (pe_call DW.ok hr (by rfl) DW.mg DW.kp DW.bd .nil pass0 (pa_cons (pv 0) (pa_cons (pv 2) (pa_cons (pv 3) (pa_cons (pv 4) pa_nil)))))) <|
      pss_cons (ps_set (i := 6) nd rfl (.inr rfl) (pe_callB call_len_seq (by rfl) B.len PySem.boot_len (pa_cons (pv 2) pa_nil))) <|
      pss_cons (ps_set (i := 7) nd rfl (.inr rfl) (pe_call DD.ok hr1 (by rfl) DD.mg DD.kp DD.bd .nil pass0 (pa_cons (pv 0) (pa_cons (pv 6) pa_nil)))) <|
      pss_cons (ps_setLc (i := 5) (own := [("_law_start", 8), ("_law_end", 9), ("_law_stock", 10)]) (g := gTup K 3 (gCons (gName 8) (gCons (gName 9) (gCons (gName 10) gNil)))) (tt := tYes) (te := rotE) rfl nd rfl rfl (sw_true rfl rfl rfl (by decide +kernel)) (pi_list (pv 5)) (blkOk_by (N := nLParts) (sc := defScope sLParts) (own := [("_law_start", 8), ("_law_end", 9), ("_law_stock", 10)]) (by decide +kernel))
          (fun _ _ _ _ _ => pg_tup rfl (pgs_cons (pg_name (i := 8) nd rfl (.inl rfl)) (pgs_cons (pg_name (i := 9) nd rfl (.inl rfl)) (pgs_cons (pg_name (i := 10) nd rfl (.inl rfl)) pgs_nil)))) (fun _ _ _ _ _ => pts_nil)
          (fun _ _ _ _ _ => pe_tup (pa_cons (pe_op op_mod (pe_op op_sub (pv 8) (pv 7)) (pv 6)) (pa_cons (pe_op op_mod (pe_op op_sub (pv 9) (pv 7)) (pv 6)) (pa_cons (pv 10) pa_nil))))) <|
      Evl.pss_cut (ps_if (pt_cmpR op_eq (pe_call DD.ok hr1 (by rfl) DD.mg DD.kp DD.bd .nil pass0 (pa_cons (pv 0) (pa_cons pe_int pa_nil))) pe_int (nomark _)) (pss_one (ps_expr (pe_bm0 PySem.F.plainAttrs_list PySem.F.slot_list_reverse PySem.F.type_list_reverse mt_reverse (pv 5)))) pss_nil) <|
      pss_one <| ps_ret <| pe_tup <| pa_cons (pe_op op_cat (pe_slice sl_list (pv 2) (po_some (pv 7)) po_none) (pe_slice sl_list (pv 2) po_none (po_some (pv 7)))) <| pa_cons (pv 5) pa_nil, ?_⟩
    refine ⟨_, rfl, _, rfl, wl, m, rfl, hm0, hm1, hw, fun t1 lg0 gs a b H1 E1 et1 hlg0 G1 gsh hbm => ?_⟩
    refine ⟨t1, _, rfl, .inl (.inl et1), rfl, _, _, rfl, _, _, rfl, _, _, rfl, rfl, ?_⟩
    obtain ⟨gl1, gl2⟩ := gsh.len
    have ha2 := gsh.a2
    have hb1 := gsh.b1
    have hb2 := gsh.b2
    have nlg0 : lg0 ≠ wl := (hw.ne hlg0).symm
    refine ⟨_, rfl, _, rfl, _, rfl, _, rfl, wl, lg0, gs, a, b, rfl, E1.well, nlg0, G1, gsh, fun lw0 ws H2 E2 hlw0 W2 wi => ?_⟩
    have nlw0 : lw0 ≠ wl := (E1.well.ne hlw0).symm
    have D2 := E1.trans E2
    have G2 := G1.dr nlg0 E1.well E2
    have gne : gs ≠ [] := fun z => by
      rw [z] at gl1
      simp at gl1
    have N := wi.net gne (by omega) gsh.gok
    have hwl := wi.len
    obtain ⟨gv, hgv, ga⟩ := id G2
    have hlg : gv.length = gs.length := ga.1
    refine ⟨_, rfl, lg0, gv, rfl, .inl (SqL.of hgv), ?_⟩
    refine ⟨_, rfl, _, rfl, wl, _, rfl, by omega, by omega, E2.well, fun d H3 d0 d1 E3 => ?_⟩
    obtain ⟨t, rfl⟩ : ∃ t : Nat, d = (t : Int) := ⟨d.toNat, by omega⟩
    have ht : t < gs.length := by omega
    have D3 := D2.trans E3
    have hgv3 := E3.but _ _ nlg0 hgv
    have ga3 := ga.imp fun _ _ r => r.tk (TK.dr E2.well E3.but)
    obtain ⟨wv, hwv, wa⟩ := W2.dr nlw0 E2.well E3
    have hlw : wv.length = ws.length := wa.1
    refine gn_norm (σ' := [some (.ref wl), some (.int m), some (.ref lg0), some (.int (a : Nat)), some (.int (b : Nat)), some (.ref lw0), some (.int (gv.length : Nat)), some (.int (t : Nat)), none, none, none]) rfl ?_
    -- numbered anew
    refine ⟨_, rfl, lw0, rfl, ⟨_, SqL.of hwv⟩, fun lw hlw' => ?_⟩
    have nlw : lw ≠ wl := (E3.well.ne hlw').symm
    have hlwH : H lw = none := D3.free hw hlw'
    refine lc_list (K := K) (a := lw0) (xs := wv) (fun i Hc => ∃ acc, Hc lw = some (.lst acc) ∧ acc.length = i ∧ All2 (WireV K Hc) acc ((ws.take i).map fun x => ((rotL gs.length t).idxOf x.1, (rotL gs.length t).idxOf x.2.1, x.2.2)) ∧ Same H3 Hc) ⟨[], upd_same, rfl, by simpa using All2.nil, same_new hlw'⟩ (fun i Hc _ ⟨_, _, _, _, sm⟩ => SqL.of (sm _ _ hwv)) ?_ ?_
    · rintro i v Hc hv ⟨acc, hacc, hal, haa, sm⟩
      obtain ⟨x, hx, a', b', rfl, sq1, sq2⟩ := wa.get hv
      have hi : i < ws.length := (List.getElem?_eq_some_iff.mp hx).1
      have WX := N.wok x (List.mem_of_getElem? hx)
      have tk := TK.same sm
      refine ⟨a', _, rfl, tk.seq sq1, rfl, _, _, rfl, _, _, rfl, _, _, rfl, rfl, rfl, tyes ?_⟩
      refine ⟨_, rfl, _, rfl, _, _, rfl, rfl, _, rfl, _, _, rfl, rfl, (by show (0 : Int) < ((gv.length : Nat) : Int); omega), ?_⟩
      refine ⟨_, rfl, _, rfl, _, _, rfl, rfl, _, rfl, _, _, rfl, rfl, (by show (0 : Int) < ((gv.length : Nat) : Int); omega), _, rfl, (by show 3 ≤ sizeLine; decide), fun p hp => ?_⟩
      have sp : Same Hc (upd Hc p (.tup [.int ((((x.1 : Nat) : Int) - ((t : Nat) : Int)) % ((gv.length : Nat) : Int)), .int ((((x.2.1 : Nat) : Int) - ((t : Nat) : Int)) % ((gv.length : Nat) : Int)), .ref b'])) := same_new hp
      refine ⟨acc, sp _ _ hacc, small1000 (by omega), acc ++ [.ref p], upd_same, by simp [hal], ?_, same_mut (sm.trans sp) hlw'⟩
      rw [List.take_add_one, hx, List.map_append]
      refine All2.pushT (fun t r => WireV.tk t r) haa (sp _ _ hacc) (TK.same sp) ⟨p, b', rfl, .inl (.inl ?_), (TK.same (sm.trans sp)).seq sq2⟩
      rw [upd_same]
      show some (HO.tup [V.int _, V.int _, V.ref b']) = some (HO.tup [V.int _, V.int _, V.ref b'])
      rw [rot_idx ht WX.s, rot_idx ht WX.e, hlg]
    rintro H4 ⟨acc, hacc, hal, haa, s4⟩
    rw [hlw, List.take_length] at haa
    have D4 : Dr wl H H4 := D3.trans ⟨But.same s4, D3.well.same s4⟩
    have hne : ws ≠ [] := fun z => by
      have hk := (gsh.kind (i := a + b) (by omega)).2.2 (Nat.le_refl _)
      have := N.one (a + b) (by omega) hk
      rw [z] at this
      cases this
    have hinner : ∃ i, i < (gs.drop t ++ gs.take t).length ∧ kindAt (gs.drop t ++ gs.take t) i ≠ "in" ∧ kindAt (gs.drop t ++ gs.take t) i ≠ "out" := by
      have hk := (gsh.kind (i := a) (by omega)).2.1 (Nat.le_refl _) (by omega)
      have hmem : gs[a]'(by omega) ∈ gs.drop t ++ gs.take t := by
        have : gs[a]'(by omega) ∈ gs.take t ++ gs.drop t := by
          rw [List.take_append_drop]
          exact List.getElem_mem _
        rcases List.mem_append.mp this with h | h
        · exact List.mem_append.mpr (.inr h)
        · exact List.mem_append.mpr (.inl h)
      obtain ⟨i, hi⟩ := List.getElem?_of_mem hmem
      refine ⟨i, (List.getElem?_eq_some_iff.mp hi).1, ?_⟩
      rw [kindAt_get hi, ← kindAt_i]
      exact hk
    refine gn_norm (σ' := [some (.ref wl), some (.int m), some (.ref lg0), some (.int (a : Nat)), some (.int (b : Nat)), some (.ref lw), some (.int (gv.length : Nat)), some (.int (t : Nat)), none, none, none]) rfl ?_
    -- turned about, perhaps
    refine ⟨fun σ H' => ∃ (acc : List V) (us : List Wr), σ = [some (.ref wl), some (.int m), some (.ref lg0), some (.int (a : Nat)), some (.int (b : Nat)), some (.ref lw), some (.int (gv.length : Nat)), some (.int (t : Nat)), none, none, none] ∧ us.Perm ws ∧ H' lw = some (.lst acc) ∧ All2 (WireV K H') acc (us.map fun x => ((rotL gs.length t).idxOf x.1, (rotL gs.length t).idxOf x.2.1, x.2.2)) ∧ Dr wl H H' ∧ H' lg0 = some (.lst gv) ∧ All2 (GateV K H') gv gs, ?_, ?_⟩
    · refine ⟨_, rfl, wl, 2, rfl, by decide, by decide, D4.well, fun z H5 z0 z1 E5 => ?_⟩
      have D5 := D4.trans E5
      have h5 := E5.but _ _ nlw hacc
      have a5 := haa.imp fun _ _ r => r.tk (TK.dr D4.well E5.but)
      have g5 := E5.but _ _ nlg0 (s4 _ _ hgv3)
      have ga5 := (ga3.imp fun _ _ r => r.tk (TK.same s4)).imp fun _ _ r => r.tk (TK.dr D4.well E5.but)
      refine ⟨rfl, _, rfl, ite2 (fun e => ?_) (fun e => ⟨acc, ws, rfl, .refl _, h5, a5, D5, g5, ga5⟩)⟩
      have ngw : lg0 ≠ lw := ne_of_none hgv3 hlw'
      refine ⟨_, rfl, .inl ⟨rfl, _, SqL.of h5⟩, lw, _, rfl, rfl, h5, acc.reverse, ws.reverse, rfl, List.reverse_perm _, upd_same, ?_, set_well D5 hlwH nlw, by rw [upd_ne ngw]; exact g5, ga5.imp fun _ _ r => r.tk (TK.lst h5)⟩
      rw [List.map_reverse]
      exact (a5.imp fun _ _ r => r.tk (TK.lst h5)).reverse
    rintro σ H5 ⟨acc5, us, rfl, hp, hacc5, haa5, D5, hgv5, ga5⟩
    have NA := N.anew (rot_perm gs.length t) hp
    rw [rot_map] at NA
    refine ⟨_, rfl, _, rfl, _, rfl, lg0, gv, rfl, SqL.of hgv5, fun l6 hl6 => ?_⟩
    have s6 : Same H5 (upd H5 l6 (.lst (cutV gv (some ((t : Nat) : Int)) none))) := same_new hl6
    have el6 : (upd H5 l6 (.lst (cutV gv (some ((t : Nat) : Int)) none))) l6 = some (.lst (gv.drop t)) := by rw [upd_same, cut_from]
    generalize upd H5 l6 (.lst (cutV gv (some ((t : Nat) : Int)) none)) = H6 at s6 el6
    refine ⟨_, rfl, _, rfl, _, rfl, lg0, gv, rfl, SqL.of (s6 _ _ hgv5), fun l7 hl7 => ?_⟩
    have s7 : Same H6 (upd H6 l7 (.lst (cutV gv none (some ((t : Nat) : Int))))) := same_new hl7
    have el7 : (upd H6 l7 (.lst (cutV gv none (some ((t : Nat) : Int))))) l7 = some (.lst (gv.take t)) := by rw [upd_same, cut_to]
    generalize upd H6 l7 (.lst (cutV gv none (some ((t : Nat) : Int)))) = H7 at s7 el7
    refine ⟨l6, l7, _, _, rfl, rfl, s7 _ _ el6, el7, ?_, fun l8 hl8 => ?_⟩
    · rw [List.length_drop, List.length_take]
      exact Nat.le_of_lt (small1000 (by omega))
    have s8 : Same H7 (upd H7 l8 (.lst (gv.drop t ++ gv.take t))) := same_new hl8
    have el8 : (upd H7 l8 (.lst (gv.drop t ++ gv.take t))) l8 = some (.lst (gv.drop t ++ gv.take t)) := upd_same
    generalize upd H7 l8 (.lst (gv.drop t ++ gv.take t)) = H8 at s8 el8
    have t8 := s6.trans (s7.trans s8)
    have hl8H : H l8 = none := D5.free hw ((s6.trans s7).free hl8)
    have nl8 : l8 ≠ lw := fun z => by
      rw [z, (s6.trans s7) _ _ hacc5] at hl8
      cases hl8
    refine ⟨_, rfl, (by show 2 ≤ sizeLine; decide), fun p hp' => ?_⟩
    have s9 := t8.trans (same_new (o := .tup [.ref l8, .ref lw]) hp')
    have ga9 := ga5.imp fun _ _ r => r.tk (TK.same s9)
    have rl : ∀ x ∈ us.map (fun x : Wr => ((rotL gs.length t).idxOf x.1, (rotL gs.length t).idxOf x.2.1, x.2.2)), x.2.2.length ≤ 3 := fun y hy => by
      obtain ⟨x, hx, rfl⟩ := List.mem_map.mp hy
      exact wi.r2 x (hp.mem_iff.mp hx)
    refine q _ _ l8 lw p _ NA ?_ ?_ ?_ ?_ rl ?_ ?_ hinner (D5.trans ⟨But.same s9, D5.well.same s9⟩) hl8H hlwH nl8 ⟨_, same_new hp' _ _ el8, (ga9.drop t).append (ga9.take t)⟩ ⟨acc5, s9 _ _ hacc5, haa5.imp fun _ _ r => r.tk (TK.same s9)⟩ upd_same
    · rw [List.length_append, List.length_drop, List.length_take]
      omega
    · rw [List.length_append, List.length_drop, List.length_take]
      omega
    · have := nInn_rot gs t
      have := gsh.inn
      omega
    · rw [List.length_map, hp.length_eq, List.length_append, List.length_drop, List.length_take]
      omega
    · rw [List.length_map, hp.length_eq]
      omega
    · intro z
      have := List.map_eq_nil_iff.mp z
      rw [this] at hp
      exact hne hp.nil_eq.symm
end
end Lag

set_option maxRecDepth 100000
set_option maxHeartbeats 8000000
namespace Lag
open PySem PySem.Spec PyProof.Rows L2
def numsD (l : List Int) : PyData := .list (l.map PyData.int)
theorem numsD_eq (a b : List Int) : PyData.eqv (numsD a) (numsD b) = decide (a = b) := eqvAll_map (fun x y => intD_eq x y) a b
theorem sh_nums (l : List Int) : Sh 1 (numsD l) := by
  refine sh_list fun d hd => ?_
  obtain ⟨i, _, rfl⟩ := List.mem_map.mp hd
  exact sh_int _
theorem dp_nums {K : PySem.W.Frag} {H : Hp} {l : Addr} {xs : List Int} (h : SqL K H l (xs.map V.int)) : Dp K H (.ref l) (numsD xs) := .lst h (ints_dp xs)
def tupD (l : List Int) : PyData := .tuple (l.map PyData.int)
theorem tupD_eq (a b : List Int) : PyData.eqv (tupD a) (tupD b) = decide (a = b) := eqvAll_map (fun x y => intD_eq x y) a b
theorem sh_tup (l : List Int) : Sh 1 (tupD l) := by
  refine sh_tuple fun d hd => ?_
  obtain ⟨i, _, rfl⟩ := List.mem_map.mp hd
  exact sh_int _
theorem dp_tup {K : PySem.W.Frag} {H : Hp} {l : Addr} {xs : List Int} (h : SqT K H l (xs.map V.int)) : Dp K H (.ref l) (tupD xs) := .tup h (ints_dp xs)
section
variable {K : PySem.W.Frag} {C : Addr} {H : Hp}
theorem net_in {Q : Addr → Hp → Prop} {lg lw : Addr} {gs : List Gt} {ws : List Wr} (R : RG K H lg gs) (R2 : RW K H lw ws) (N : NetOk gs ws)
    (q : ∀ p ng nw H', NetAt K C H' p ng nw gs ws → Same H H' → H p = none → H ng = none → H nw = none → Q p H') :
    ∀ x dx, H x = none → H dx = none → dx ≠ x → spInit K C (.ref x :: ([.ref lg, .ref lw] ++ [])) (upd (upd H dx (.own x)) x (.ins C dx [])) (fun v H' => v = .non ∧ Q x H') E0 := by
  intro x dx hx hdx ne
  have s0 : Same H (upd (upd H dx (.own x)) x (.ins C dx [])) := fun b o e => by
    rw [upd_ne (ne_of_none e hx), upd_ne (ne_of_none e hdx)]
    exact e
  refine ⟨x, dx, lg, lw, gs, ws, rfl, upd_same, R.same s0, R2.same s0, N, fun H' ng nw A h1 h2 k => ⟨rfl, ?_⟩⟩
  exact q x ng nw H' A (Same.made hx hdx k) hx (s0.free h1) (s0.free h2)
end
theorem slA {K : PySem.W.Frag} {H : Hp} {a : Addr} {xs : List V} {lo hi : Option Int} {Q : VK} (sq : SqT K H a xs) (q : ∀ b H', Same H H' → SqT K H' b (cutV xs lo hi) → Q (.ref b) H') : rSlA K (.ref a) lo hi H Q := by
  refine ⟨a, xs, rfl, sq, fun z => q a H (Same.refl _) ?_, fun _ p hp => q p _ (same_new hp) (.inl (.inl upd_same))⟩
  unfold cutV
  rw [z.1, z.2, List.drop_zero, Nat.sub_zero, List.take_length]
  exact sq
/-! ### lists of tuples of numbers, as data; what moving keeps -/
def tupsD (l : List (List Int)) : PyData := .list (l.map tupD)
theorem tupsD_eq (a b : List (List Int)) : PyData.eqv (tupsD a) (tupsD b) = decide (a = b) := eqvAll_map tupD_eq a b
theorem sh_tups (l : List (List Int)) : Sh 2 (tupsD l) := by
  refine sh_list fun d hd => ?_
  obtain ⟨i, _, rfl⟩ := List.mem_map.mp hd
  exact sh_tup i
/-- a tuple of numbers -/
def TupV (K : PySem.W.Frag) (H : Hp) (v : V) (xs : List Int) : Prop := ∃ a, v = .ref a ∧ SqT K H a (xs.map V.int)
theorem TupV.tk {K : PySem.W.Frag} {H H' : Hp} {v : V} {xs : List Int} (t : TK H H') (h : TupV K H v xs) : TupV K H' v xs := by
  obtain ⟨a, e, s⟩ := h
  exact ⟨a, e, t.seq s⟩
def TL (K : PySem.W.Frag) (H : Hp) (l : Addr) (xss : List (List Int)) : Prop := ∃ vs, H l = some (.lst vs) ∧ All2 (TupV K H) vs xss
theorem TL.same {K : PySem.W.Frag} {H H' : Hp} {l : Addr} {xss : List (List Int)} (h : TL K H l xss) (s : Same H H') : TL K H' l xss := by
  obtain ⟨vs, e, a⟩ := h
  exact ⟨vs, s _ _ e, a.imp fun _ _ r => r.tk (TK.same s)⟩
theorem TL.dp {K : PySem.W.Frag} {H : Hp} {l : Addr} {xss : List (List Int)} (h : TL K H l xss) : Dp K H (.ref l) (tupsD xss) := by
  obtain ⟨vs, e, a⟩ := h
  refine .lst (SqL.of e) (dp_all (fun v xs hv => ?_) a)
  obtain ⟨b, rfl, s⟩ := hv
  exact dp_tup s
def endsL (ws : List Wr) : List (Nat × Nat) := ws.map fun x => (x.1, x.2.1)
def regsL (ws : List Wr) : List Int := ws.map fun x => ((x.2.2.length : Nat) : Int)
/-- the ends, as tuples -/
def endsT (ws : List Wr) : List (List Int) := (endsL ws).map fun e => [((e.1 : Nat) : Int), ((e.2 : Nat) : Int)]
theorem endsT_take {ws : List Wr} {i : Nat} {x : Wr} (h : ws[i]? = some x) : endsT (ws.take (i + 1)) = endsT (ws.take i) ++ [[((x.1 : Nat) : Int), ((x.2.1 : Nat) : Int)]] := by
  unfold endsT endsL
  rw [List.take_add_one, h, List.map_append, List.map_append]
  rfl
theorem regsL_take {ws : List Wr} {i : Nat} {x : Wr} (h : ws[i]? = some x) : regsL (ws.take (i + 1)) = regsL (ws.take i) ++ [((x.2.2.length : Nat) : Int)] := by
  unfold regsL
  rw [List.take_add_one, h, List.map_append]
  rfl
theorem regsL_len (ws : List Wr) : (regsL ws).length = ws.length := List.length_map ..
end Lag

set_option maxRecDepth 100000
set_option maxHeartbeats 8000000
/-! ### promises of defs that show data (repr): they are kept where no guard is up -/
namespace Lag
open PySem PySem.Spec PyProof.Rows L2
/-- FnOk, where no guard is up -/
structure FnG (P : Program) (w : World) (K : PySem.W.Frag) (mg : Str → Option Value) (base : Heap) (CX : CXT) (k : Nat) (f : Addr) (fd : FuncData) (ps : List Str) (sp : Sp) : Prop where
  len : ∀ vs H Q E, sp vs H Q E → vs.length = ps.length
  run : ∀ (A : Around) (outer : List Env) (s : Shared) (H : Hp) (args : Args) (us : List Value) (vs : List V) (Q : VK) (E : XK), A.guards = some [] → Room k A → Env0 P w K mg base A outer s H → BindsTo s fd args (ps.zip us) → Vals vs us → sp vs H Q E →
    codeAny (model P w) A (.call (.ref f) args) (CR CX outer P w H s Q E) s
theorem fn_g {P : Program} {w : World} {K : PySem.W.Frag} {mg : Str → Option Value} {base : Heap} {CX : CXT} {k : Nat} {f : Addr} {fd : FuncData} {ps : List Str} {sp : Sp} (F : FnOk P w K mg base CX k f fd ps sp) : FnG P w K mg base CX k f fd ps sp :=
  ⟨F.len, fun A outer s H args us vs Q E _ => F.run A outer s H args us vs Q E⟩
/-- a def by its body, entered where no guard is up -/
theorem fnG_of {CX : CXT} {P : Program} {w : World} {K : PySem.W.Frag} {mg : Str → Option Value} {base : Heap} {k : Nat} {f : Addr} {name qual : Str} {params : Arguments} {body : List Stmt} {scope : Scope} {dV kV doc pm cdv ct oc : Value} {an od : Option Addr}
    {osl : Array (Option Value)} {N ps : List Str} {sp : Sp} (lk : K.lookup f = some ⟨oc, od, .func (PySem.W.fnOf name qual params body scope dV kV doc pm an cdv ct), osl⟩) (hcd : PySem.W.codeIn K cdv qual = true) (S : FnScope N ps scope)
    (len : ∀ vs H Q E, sp vs H Q E → vs.length = ps.length)
    (hbody : ∀ (A : Around) (outer : List Env) (s : Shared) (H : Hp) (vs : List V) (Q : VK) (E : XK), A.guards = some [] → Room k (A.deeper (envOfC qual scope s.heap.objs.size f cdv)) → sp vs H Q E →
      ∃ t, PSs (cxOf CX P w K mg base N qual scope f cdv A outer s H E) body t ∧ t { nx := fun _ H' => Q .non H', rt := Q } (start N vs) H) :
    FnG P w K mg base CX (k + 1) f (PySem.W.fnOf name qual params body scope dV kV doc pm an cdv ct) ps sp := by
  constructor
  case len => exact len
  case run =>
    intro A outer s H args us vs Q E hg hr e0 hb r hsp
    obtain ⟨t, ht, hq⟩ := hbody A outer s H vs Q E hg (hr.deeper _) hsp
    have lst : ∀ b o, base.get? b = some o → s.heap.get? b = some o := fun b o e => (e0.bs b o e).1
    have KX : K.In s.heap := e0.mod.kin.keeps lst
    refine codeAny_call_function hr.depth (KX _ _ lk) rfl S.co S.gen rfl (PySem.W.codeRec_of KX hcd) (hb _ _ _ _ (wpAny_newFunctionEnv_cells S.kind (fun y hy => ?_) fun env he s1 x => ?_))
    · have hn : y.1 ∈ ps := (List.of_mem_zip (show (y.1, y.2) ∈ ps.zip us from hy)).1
      exact (S.par y.1 hn).imp id fun z => ⟨z, PySem.W.cellsFrom_some _ _ _ (.inl z)⟩
    · cases he
      refine ⟨(e0.mod.nolimit.keeps lst).keeps x.toInCall.keep, codeAny_func (wpAny_mono (ht.run [] s1 (start N vs) H _ (inv_start S hr.hd e0 (len _ _ _ _ hsp) r x) hq) (fun fl s' hs => ?_) fun e s' hs => hs)⟩
      match fl, hs with
      | .ret u, ⟨v, σ', H', J, rv, q⟩ => exact ⟨v, H', J.os, J.bare, J.base, J.hok, rv, q⟩
      | .next, ⟨σ', H', J, q⟩ => exact ⟨V.non, H', J.os, J.bare, J.base, J.hok, rfl, q⟩
      | .brk, ⟨_, _, _, q⟩ => exact False.elim q
      | .cont, ⟨_, _, _, q⟩ => exact False.elim q
/-- a def by its body, of such a promise -/
theorem fun_okG {P : Program} {w : World} {K : PySem.W.Frag} {mg : Str → Option Value} {base : Heap} {x qual : Str} {st : Stmt} {f : Addr} {fd : FuncData} {N ps : List Str} {k : Nat} {sp : Sp} (F : Fun K x qual st f fd) (S : FnScope N ps (defScope st)) (len : ∀ vs H Q E, sp vs H Q E → vs.length = ps.length)
    (hbody : ∀ (cdv : Value) (A : Around) (outer : List Env) (s : Shared) (H : Hp) (vs : List V) (Q : VK) (E : XK), (A.deeper (envOfC qual (defScope st) s.heap.objs.size f cdv)).guards = some [] → Room k (A.deeper (envOfC qual (defScope st) s.heap.objs.size f cdv)) → sp vs H Q E →
      ∃ t, PSs (cxOf CX0 P w K mg base N qual (defScope st) f cdv A outer s H E).nox (defBody st) t ∧ t { nx := fun _ H' => Q .non H', rt := Q } (start N vs) H) : FnG P w K mg base CX0 (k + 1) f fd ps sp := by
  obtain ⟨oc, od, kV, doc, pm, an, cdv, ct, osl, rfl, lk, hcd⟩ := F.ex
  refine fnG_of lk hcd S len fun A outer s H vs Q E hg hr hsp => ?_
  obtain ⟨t, h, q⟩ := hbody cdv A outer s H vs Q E hg hr hsp
  exact ⟨t, h.nox, q⟩
/-- a def at its name, of such a promise -/
structure DfG (P : Program) (w : World) (K : PySem.W.Frag) (mg : Str → Option Value) (base : Heap) (k : Nat) (name : Str) (ps : List Str) (sp : Sp) (f : Addr) (fd : FuncData) : Prop where
  ok : FnG P w K mg base CX0 k f fd ps sp
  mg : mg name = some (.ref f)
  kp : PySem.W.keepIn K (.ref f) = true
  bd : Binds K fd ps []
section
variable {X : Cx} {CX : CXT} {k : Nat} {f : Addr} {fd : FuncData} {ps : List Str} {sp : Sp} {dvs : List V} {ds : List Value} {E : XK} {x : Str} {p pos : Pos} {e : Expr} {es : List Expr} {t : TA}
/-- f(..) of such a def, in a body that was entered where no guard is up -/
theorem pe_callG (F : FnG X.prog X.w X.K X.mg X.base CX k f fd ps sp) (gd : X.A.guards = some []) (hr : Room k X.A) (hg : Gl X x) (hm : X.mg x = some (.ref f)) (hk : PySem.W.keepIn X.K (.ref f) = true) (hb : Binds X.K fd ps ds) (hd : Vals dvs ds) (hx : Passes CX X E)
    (ha : PA X (e :: es) t) (hdb : (x == ("__debug__" : Str)) = false := by decide) (he : starEach (e :: es) X.env = (false, eval e X.env) :: starEach es X.env := by rfl) (hpl : (backTo pos (starEach es X.env)).any (·.1) = false := by rfl) :
    PE X (.Call (.Name x p) (e :: es) [] pos) (tCall sp dvs E t) := by
  constructor
  intro pins s σ H Q I h
  refine wpAny_Call_Name_kw (ld_glob I hg hm (PySem.W.callWith_K (h₀ := X.base) I.ok.mod.kin hk (thn (ha.run pos pins s σ H _ I h) fun us s1 ⟨vs, H1, I1, r, q⟩ => ⟨I1.kIn, ?_⟩) he hpl) hdb)
  have r2 : Vals (vs ++ dvs) (us ++ ds) := r.append hd
  have hl : (us ++ ds).length = ps.length := by rw [← r2.length]; exact F.len _ _ _ _ q
  refine wpAny_call (codeAny_mono (F.run X.A X.stack s1 H1 ⟨us, []⟩ (us ++ ds) (vs ++ dvs) Q E gd hr I1.env0 (hb s1 us I1.kIn hl) r2 q) fun rr s' hq => ?_)
  match rr, hq with
  | .error e, hq => exact hx pins σ H1 s1 e s' I1 hq
  | .ok (.ret u), hq => exact I1.after hq
end
section
variable {X : Cx}
mutual
theorem dp_noDict {K : PySem.W.Frag} {H : Hp} : ∀ (d : PyData) {v : V}, Dp K H v d → d.hasDict = false
  | .none, _, _ => rfl
  | .bool _, _, _ => rfl
  | .int _, _, _ => rfl
  | .str _, _, _ => rfl
  | .list ds, _, h => by
    cases h with
    | lst _ a => exact dp_noDicts ds a
  | .tuple ds, _, h => by
    cases h with
    | tup _ a => exact dp_noDicts ds a
  | .dict _, _, h => by cases h
theorem dp_noDicts {K : PySem.W.Frag} {H : Hp} : ∀ (ds : List PyData) {vs : List V}, DpAll K H vs ds → PyData.hasDictAll ds = false
  | [], _, _ => rfl
  | d :: ds, _, h => by
    cases h with
    | cons h1 h2 =>
      show (d.hasDict || PyData.hasDictAll ds) = false
      rw [dp_noDict d h1, dp_noDicts ds h2]
      rfl
end
/-- repr of a list or a tuple of data -/
def rRepr (K : PySem.W.Frag) : List V → Hp → VK → Prop := fun xs H Q => ∃ (a : Addr) (d : PyData), xs = [.ref a] ∧ Dp K H (.ref a) d ∧ d.showable = true ∧ d.depth < 64 ∧ d.shown.length ≤ sizeLine ∧ Q (.str d.shown) H
theorem call_repr (gd : X.A.guards = some []) (hu : X.A.units + 65 < cLine) : CallR X (.builtin "repr") (rRepr X.K) := by
  intro pins s σ H xs us Q I r h
  obtain ⟨a, d, rfl, dp, sh, dd, hz, q⟩ := h
  obtain ⟨u, rfl, rx⟩ := vals1 r
  obtain ⟨as, rd⟩ := Dp.reads I d _ _ dp rx
  cases rx
  refine repr_of_reads' rd sh (fun hd => ?_) gd (by omega) (fun _ _ e => e) (fun h' u tk hk => ?_) hz
  · rw [dp_noDict d dp] at hd
    cases hd
  · exact I.after ⟨.str d.shown, H, rfl, I.bare, Un.kept hk, I.hok.kept hk, ⟨_, rfl⟩, q⟩
end
end Lag

set_option maxRecDepth 100000
set_option maxHeartbeats 8000000
/-! ### the end of a law whose promise is kept where no guard is up -/
namespace Lag
open PySem PySem.Spec PyProof.Rows L2
/-- the script as the law finds it: one of the module's own objects, or tracked as it stands -/
theorem script_at {P : Program} {w : World} {K : PySem.W.Frag} {a : Addr} {s : Shared} {vs : List Value} {ns : List Int} (KX : K.In s.heap) (ha : s.heap.get? a = some { cls := .type "list", data := .seq vs.toArray }) (hi : IntsAre vs ns) (hl : ns.length ≤ sizeLine) :
    ∃ H : Hp, Only H ∧ SqL K H a (ns.map V.int) ∧ HOk P w H s.heap ∧ ∀ b u, H b = some u → b = a ∧ K.lookup b = none := by
  have rv := vals_ints hi
  have lenV := hi.length
  by_cases hk : ∃ o, K.lookup a = some o
  · obtain ⟨o, hk⟩ := hk
    have e := KX a o hk
    rw [ha] at e
    cases e
    exact ⟨fun _ => none, fun _ => .inl rfl, .inr ⟨_, vs.toArray, _, hk, rfl, rfl, rfl, (by rw [List.size_toArray, lenV]; exact hl), (by simpa using rv)⟩, (fun b u z => by cases z), (fun b u z => by cases z)⟩
  · have hn : K.lookup a = none := Option.eq_none_iff_forall_ne_some.mpr fun o e => hk ⟨o, e⟩
    refine ⟨upd (fun _ => none) a (.frz { cls := .type "list", data := .seq vs.toArray } (.lst (ns.map V.int))), fun b => ?_, .inl (.inr ⟨_, upd_same⟩), fun b u z => ?_, fun b u z => ?_⟩
    · by_cases hb : b = a
      · rw [hb]
        exact .inr ⟨_, _, upd_same⟩
      · exact .inl (upd_ne hb)
    · by_cases hb : b = a
      · subst hb
        rw [upd_same] at z
        cases z
        exact ⟨ha, by rw [List.length_map]; exact hl, vs, _, rv, ha⟩
      · rw [upd_ne hb] at z
        cases z
    · by_cases hb : b = a
      · exact ⟨hb, by rw [hb]; exact hn⟩
      · rw [upd_ne hb] at z
        cases z
theorem lawG_call {P : Program} {w : World} {K : PySem.W.Frag} {mg mb : Str → Option Value} {CX : CXT} {k : Nat} {fa a : Addr} {fd : FuncData} {x : Str} {sp : Sp} {s : Shared} {vs : List Value} {ns : List Int}
    (KX : K.In s.heap) (hns : s.heap.Ns mainGlobals mg) (hb : s.heap.Ns builtinsNs mb) (hbb : ∀ x : Str, x ≠ "__name__" → mb x = bootBuiltins x) (hlim : s.heap.NoLimit) (hg : s.gens = #[])
    (ha : s.heap.get? a = some { cls := .type "list", data := .seq vs.toArray }) (hi : IntsAre vs ns) (hl : ns.length ≤ sizeLine) (hr : Room k callerA)
    (F : ∀ base : Heap, K.In base → base.Ns mainGlobals mg → FnG P w K mg base CX k fa fd [x] sp) (hbind : ∀ (s : Shared) (u : Value), BindsTo s fd ⟨[u], []⟩ [(x, u)])
    (hsp : ∀ H : Hp, Only H → SqL K H a (ns.map V.int) → sp [.ref a] H (fun v _ => v = .bl true) fun _ _ _ => False)
    (hCX : ∀ H e s', CX [] H s (fun _ _ _ => False) e s' → False) :
    codeAny (model P w) callerA (.call (.ref fa) ⟨[.ref a], []⟩) (fun r s' => r = .ok (.ret (.bool true)) ∧ OldK s.heap s'.heap ∧ s'.os = s.os ∧ AllBare s'.gens) s := by
  obtain ⟨H, only, sq, hok, own⟩ := script_at (P := P) (w := w) KX ha hi hl
  have free : ∀ {b : Addr} {o : Obj}, s.heap.get? b = some o → (b = a → (K.lookup b).isSome = true ∨ ∃ es ep, o.data = .dict es ep) → H b = none := fun {b o} e h => by
    cases q : H b with
    | none => rfl
    | some u =>
      obtain ⟨e1, e2⟩ := own b u q
      rcases h e1 with z | ⟨es, ep, z⟩
      · rw [e2] at z
        cases z
      · rw [e1, ha] at e
        have z2 : o.data = Data.seq vs.toArray 0 := (congrArg Obj.data (Option.some.inj e)).symm
        rw [z2] at z
        cases z
  have inB : ∀ {b : Addr} {o : Obj}, s.heap.get? b = some o → H b = none → (hidT s.heap H).get? b = some o := fun e n => hidT_get e n
  have nsB : ∀ {b : Addr} {m : Str → Option Value}, s.heap.Ns b m → (hidT s.heap H).Ns b m := fun ⟨o, es, ep, e, d, r⟩ => ⟨o, es, ep, inB e (free e fun _ => .inr ⟨es, ep, d⟩), d, r⟩
  have KB : K.In (hidT s.heap H) := fun b o e => inB (KX b o e) (free (KX b o e) fun _ => .inl (by rw [e]; rfl))
  obtain ⟨mc, l1, l2⟩ := hlim
  have e0 : Env0 P w K mg (hidT s.heap H) callerA [] s H :=
    { frames := rfl, mod := ⟨KB, nsB hns, ⟨mb, nsB hb, hbb⟩, ⟨mc, nsB l1, l2⟩⟩, bs := fun b o e => of_hidT e, bsz := Nat.le_of_eq (hidT_size _ _), funs := trivial, frf := (fun b z => by cases z), hok := hok, bare := .of_eq hg }
  refine codeAny_mono ((F _ KB (nsB hns)).run callerA [] s H ⟨[.ref a], []⟩ [.ref a] [.ref a] _ _ rfl hr e0 (hbind s (.ref a)) (.cons rfl .nil) (hsp H only sq)) fun r s' h => ?_
  match r, h with
  | .error e, h => exact (hCX H e s' h).elim
  | .ok (.ret u), ⟨v, H', os, bare, un, hok', rv, q⟩ =>
    have q' : v = .bl true := q
    subst q'
    cases rv
    refine ⟨rfl, OldK.of_keep fun b o e => ?_, os, bare⟩
    rcases only b with z | ⟨ob, xs, z⟩
    · exact un.keep b o e z (by intro z; cases z) (by simp)
    · obtain ⟨e1, _⟩ := hok b _ z
      obtain ⟨e2, _⟩ := hok' b _ (un.frzs b ob _ z)
      rw [e] at e1
      cases e1
      exact e2
theorem walkG_of {l : PySem.W.OpenLaw} {n k : Nat} {q : Program} {loose : List Str} {XP : (Str → Option Value) → Heap → Prop} {YP : World → Heap → Prop} {d : DefRec} {K : Params → PySem.W.Frag} {CX : World → CXT} {sp : World → Sp} {x : Str}
    (hn : l.most = some n) (hn2 : n ≤ sizeLine) (hdf : d.params.defaults = []) (hr : Room k callerA)
    (hY : ∀ (w : World) (h : Heap), YP w h → (K w.params).In h)
    (F : ∀ (w : World) (mg : Str → Option Value) (fa : Addr) (h : Heap), (K w.params).In h → h.Ns mainGlobals mg → mg d.name = some (.ref fa) →
      ∃ fd : FuncData, (∀ (s : Shared) (u : Value), BindsTo s fd ⟨[u], []⟩ [(x, u)]) ∧
        ∀ base : Heap, (K w.params).In base → base.Ns mainGlobals mg → FnG l.prog w (K w.params) mg base (CX w) k fa fd [x] (sp w))
    (hsp : ∀ (w : World) (H : Hp) (a : Addr) (ns : List Int), ns.length ≤ n → Only H → SqL (K w.params) H a (ns.map V.int) → sp w [.ref a] H (fun v _ => v = .bl true) fun _ _ _ => False)
    (hCX : ∀ (w : World) (H : Hp) (s : Shared) (e : Value) (s' : Shared), CX w [] H s (fun _ _ _ => False) e s' → False) :
    PySem.W.WalkO q loose XP YP l.row.toRowW d [] (fun f vs => PySem.call f vs) :=
  Att.attach_call hn hdf fun w s₀ s₁ mg mb fa o pm cd doc a vs ns G Y ho hd hcd hmg hobj hints hlen hg => by
    obtain ⟨fd, hb, hF⟩ := F w mg fa _ (hY w _ Y) G.T.g hmg
    exact lawG_call (hY w _ Y) G.T.g G.T.b G.T.builtins G.T.nolimit hg hobj hints (Nat.le_trans hlen hn2) hr hF hb (fun H hO hS => hsp w H a ns hlen hO hS) fun H e s' => hCX w H s₁ e s'
end Lag

set_option maxRecDepth 100000
set_option maxHeartbeats 8000000
/-! ### repr of data in which an empty dict may stand -/
namespace Lag
open PySem PySem.Spec PyProof.Rows L2
mutual
inductive Dx (K : PySem.W.Frag) (Av : Addr → Prop) (H : Hp) : V → PyData → Prop
  | non : Dx K Av H .non .none
  | bl (b : Bool) : Dx K Av H (.bl b) (.bool b)
  | int (i : Int) : Dx K Av H (.int i) (.int i)
  | str (x : Str) : Dx K Av H (.str x) (.str x)
  | lst {a : Addr} {xs : List V} {ds : List PyData} : H a = some (.lst xs) → Av a → DxAll K Av H xs ds → Dx K Av H (.ref a) (.list ds)
  | tup {a : Addr} {xs : List V} {ds : List PyData} : SqT K H a xs → DxAll K Av H xs ds → Dx K Av H (.ref a) (.tuple ds)
  | dic {a : Addr} : H a = some (.dK []) → Dx K Av H (.ref a) (.dict [])
inductive DxAll (K : PySem.W.Frag) (Av : Addr → Prop) (H : Hp) : List V → List PyData → Prop
  | nil : DxAll K Av H [] []
  | cons {v : V} {vs : List V} {d : PyData} {ds : List PyData} : Dx K Av H v d → DxAll K Av H vs ds → DxAll K Av H (v :: vs) (d :: ds)
end
abbrev Any : Addr → Prop := fun _ => True
/-- from heap to heap, and to fewer demands on the lists -/
structure XM (K : PySem.W.Frag) (Av Av' : Addr → Prop) (H H' : Hp) : Prop where
  l : ∀ a xs, Av a → H a = some (.lst xs) → H' a = some (.lst xs) ∧ Av' a
  t : ∀ a xs, SqT K H a xs → SqT K H' a xs
  d : ∀ a, H a = some (.dK []) → H' a = some (.dK [])
mutual
theorem Dx.move {K : PySem.W.Frag} {Av Av' : Addr → Prop} {H H' : Hp} (m : XM K Av Av' H H') : ∀ (d : PyData) {v : V}, Dx K Av H v d → Dx K Av' H' v d
  | .none, _, h => by cases h; exact .non
  | .bool _, _, h => by cases h; exact .bl _
  | .int _, _, h => by cases h; exact .int _
  | .str _, _, h => by cases h; exact .str _
  | .list ds, _, h => by
    cases h with
    | lst s n a => exact .lst (m.l _ _ n s).1 (m.l _ _ n s).2 (DxAll.move m ds a)
  | .tuple ds, _, h => by
    cases h with
    | tup s a => exact .tup (m.t _ _ s) (DxAll.move m ds a)
  | .dict _, _, h => by
    cases h with
    | dic e => exact .dic (m.d _ e)
theorem DxAll.move {K : PySem.W.Frag} {Av Av' : Addr → Prop} {H H' : Hp} (m : XM K Av Av' H H') : ∀ (ds : List PyData) {vs : List V}, DxAll K Av H vs ds → DxAll K Av' H' vs ds
  | [], _, h => by cases h; exact .nil
  | d :: ds, _, h => by
    cases h with
    | cons a b => exact .cons (Dx.move m d a) (DxAll.move m ds b)
end
theorem XM.same {K : PySem.W.Frag} {Av : Addr → Prop} {H H' : Hp} (s : Same H H') : XM K Av Av H H' := ⟨fun a xs n h => ⟨s _ _ h, n⟩, fun a xs h => (TK.same s).seq h, fun a h => s _ _ h⟩
theorem XM.any {K : PySem.W.Frag} {Av : Addr → Prop} {H : Hp} : XM K Av Any H H := ⟨fun a xs n h => ⟨h, trivial⟩, fun a xs h => h, fun a h => h⟩
theorem Dx.same {K : PySem.W.Frag} {Av : Addr → Prop} {H H' : Hp} {d : PyData} {v : V} (h : Dx K Av H v d) (s : Same H H') : Dx K Av H' v d := Dx.move (.same s) d h
theorem Dx.any {K : PySem.W.Frag} {Av : Addr → Prop} {H : Hp} {d : PyData} {v : V} (h : Dx K Av H v d) : Dx K Any H v d := Dx.move .any d h
theorem XM.dr {K : PySem.W.Frag} {w : Addr} {H H' : Hp} (W : WellAt w H) (r : Dr w H H') : XM K (· ≠ w) (· ≠ w) H H' := ⟨fun a xs n h => ⟨r.but _ _ n h, n⟩, fun a xs h => (TK.dr W r.but).seq h, fun a h => r.but _ _ (fun z => by
  obtain ⟨ys, e, _⟩ := W
  rw [z, e] at h
  cases h) h⟩
theorem Dx.dr {K : PySem.W.Frag} {w : Addr} {H H' : Hp} {d : PyData} {v : V} (h : Dx K (· ≠ w) H v d) (W : WellAt w H) (r : Dr w H H') : Dx K (· ≠ w) H' v d := Dx.move (.dr W r) d h
theorem DxAll.all2 {K : PySem.W.Frag} {Av : Addr → Prop} {H : Hp} : ∀ {vs : List V} {ds : List PyData}, DxAll K Av H vs ds → All2 (Dx K Av H) vs ds
  | _, _, .nil => All2.nil
  | v :: vs, d :: ds, .cons h r => by
    have a := DxAll.all2 r
    refine ⟨by rw [List.length_cons, List.length_cons, a.1], fun i x y hx hy => ?_⟩
    cases i with
    | zero =>
      cases hx
      cases hy
      exact h
    | succ i => exact a.2 i x y hx hy
theorem DxAll.from2 {K : PySem.W.Frag} {Av : Addr → Prop} {H : Hp} : ∀ {vs : List V} {ds : List PyData}, All2 (Dx K Av H) vs ds → DxAll K Av H vs ds
  | [], [], _ => .nil
  | [], _ :: _, a => by have := a.1; simp at this
  | _ :: _, [], a => by have := a.1; simp at this
  | _ :: _, _ :: _, a => .cons (a.head) (DxAll.from2 a.tail)
section
variable {X : Cx} {pins : List (Addr × Obj)} {σ : L2.St} {H : Hp} {s : Shared}
theorem dx_empty (I : Inv X pins σ H s) {a : Addr} (e : H a = some (.dK [])) : (a == sysModules) = false ∧ ∃ o n, s.heap.get? a = some o ∧ o.cls = .type "dict" ∧ o.data = .dict #[] n := by
  obtain ⟨_, hs, vs, kv, o, es, ep, h1, h2, h3, _, h5, _⟩ := dk_of I.hok e
  cases kv
  refine ⟨hs, o, ep, h1, h2.1, ?_⟩
  have : es = #[] := by
    obtain ⟨l⟩ := es
    cases l with
    | nil => rfl
    | cons x r => cases h5
  rw [h3, this]
mutual
theorem Dx.show {Av : Addr → Prop} (I : Inv X pins σ H s) : ∀ (d : PyData) (v : V) (u : Value), Dx X.K Av H v d → RelV v u → d.showable = true → d.shown.length ≤ sizeLine → ∃ as bs, Reads s.heap u d as ∧ ReadAtMost s.heap d.depth bs ∧ ReprK X.prog X.w bs s.heap d.depth u d.shown
  | .none, _, _, h, r, _, _ => by
    cases h
    cases r
    exact ⟨_, [], Reads.none, (fun _ h => nomatch h), by simp only [PyData.shown]; exact .of_is ReprIs.none _ _ _⟩
  | .bool b, _, _, h, r, _, _ => by
    cases h
    cases r
    exact ⟨_, [], Reads.bool b, (fun _ h => nomatch h), by simp only [PyData.shown]; exact .of_is (ReprIs.bool b) _ _ _⟩
  | .int i, _, _, h, r, hs, _ => by
    cases h
    obtain ⟨t, rfl⟩ := r
    exact ⟨_, [], Reads.int i t, (fun _ h => nomatch h), by simp only [PyData.shown]; exact .of_is (ReprIs.int t (by simpa [PyData.showable] using hs)) _ _ _⟩
  | .str x, _, _, h, r, _, hz => by
    cases h
    obtain ⟨t, rfl⟩ := r
    exact ⟨_, [], Reads.str x t, (fun _ h => nomatch h), by simp only [PyData.shown]; exact .of_is (ReprIs.str x t (by simpa only [PyData.shown] using hz)) _ _ _⟩
  | .list ds, _, _, h, r, hs, hz => by
    cases h with
    | lst hq hav ha =>
      cases r
      obtain ⟨its, rv, ⟨o, n, ho, hc, _, hd⟩, _⟩ := I.list (SqL.of hq)
      have hz' : (listText (PyData.shownAll ds)).length ≤ sizeLine := by simpa only [PyData.shown] using hz
      obtain ⟨as, bs, r1, hb, hk⟩ := DxAll.show I ds _ its ha rv (by simpa [PyData.showable] using hs) (fun t ht => Nat.le_trans (listText_mem_le ht) hz')
      have r := Reads.list ho hc hd r1
      have hna := not_mem_of_deeper r (by simp only [PyData.depth]; omega) hb
      refine ⟨_, _ :: bs, r, ReadAtMost.cons r (by simp only [PyData.depth]; omega) hb, ?_⟩
      simp only [PyData.depth, PyData.shown]
      cases its with
      | nil =>
        cases r1
        simp only [PyData.shownAll, listText_nil]
        exact ReprK.listEmpty ho hc hd
      | cons x l => exact ReprK.list ho hc hd hna (by simpa using hk.length_eq) (fun i y e => hk.item i y (by simpa using e))
  | .tuple ds, _, _, h, r, hs, hz => by
    cases h with
    | tup hq ha =>
      cases r
      obtain ⟨its, rv, ⟨o, ho, hc, n, hd⟩, _⟩ := I.tuple hq
      have hz' : (tupleText (PyData.shownAll ds)).length ≤ sizeLine := by simpa only [PyData.shown] using hz
      obtain ⟨as, bs, r1, hb, hk⟩ := DxAll.show I ds _ its ha rv (by simpa [PyData.showable] using hs) (fun t ht => Nat.le_trans (tupleText_mem_le ht) hz')
      have r := Reads.tuple ho hc hd r1
      have hna := not_mem_of_deeper r (by simp only [PyData.depth]; omega) hb
      refine ⟨_, _ :: bs, r, ReadAtMost.cons r (by simp only [PyData.depth]; omega) hb, ?_⟩
      simp only [PyData.depth, PyData.shown]
      exact ReprK.tuple ho hc hd hna hk
  | .dict kvs, _, _, h, r, hs, hz => by
    cases h with
    | dic e =>
      cases r
      obtain ⟨hsys, o, n, h1, h2, h3⟩ := dx_empty I e
      have r := Reads.dict (kvs := []) (as := []) (bs := []) h1 h2 h3 (by exact ReadsAll.nil) (by exact ReadsAll.nil)
      refine ⟨_, [_], r, ReadAtMost.cons (n := 0) r (Nat.zero_le _) (fun _ h => nomatch h), ?_⟩
      simp only [PyData.depth, PyData.shown, PyData.shownKv_eq]
      exact ReprK.dict h1 h2 h3 hsys (by simp) (ReprEntriesK.of_two [] _ _ .nil .nil)
theorem DxAll.show {Av : Addr → Prop} (I : Inv X pins σ H s) : ∀ (ds : List PyData) (vs : List V) (us : List Value), DxAll X.K Av H vs ds → Vals vs us → PyData.showableAll ds = true → (∀ t ∈ PyData.shownAll ds, t.length ≤ sizeLine) → ∃ as bs, ReadsAll s.heap us ds as ∧ ReadAtMost s.heap (PyData.depthAll ds) bs ∧ ReprAllK X.prog X.w bs s.heap (PyData.depthAll ds) us (PyData.shownAll ds)
  | [], _, _, h, r, _, _ => by
    cases h
    cases r
    exact ⟨_, [], ReadsAll.nil, (fun _ h => nomatch h), by simp only [PyData.shownAll]; exact .nil⟩
  | d :: ds, _, _, h, r, hs, hz => by
    cases h with
    | cons h1 h2 =>
      cases r with
      | cons r1 r2 =>
        have hs' : d.showable = true ∧ PyData.showableAll ds = true := by simpa [PyData.showableAll] using hs
        obtain ⟨a1, b1, q1, hb1, k1⟩ := Dx.show I d _ _ h1 r1 hs'.1 (hz _ (by simp only [PyData.shownAll]; exact List.mem_cons_self ..))
        obtain ⟨a2, b2, q2, hb2, k2⟩ := DxAll.show I ds _ _ h2 r2 hs'.2 (fun t ht => hz t (by simp only [PyData.shownAll]; exact List.mem_cons_of_mem _ ht))
        refine ⟨_, b1 ++ b2, ReadsAll.cons q1 q2, ?_, ?_⟩
        · intro b hm
          simp only [PyData.depthAll]
          rcases List.mem_append.mp hm with hm | hm
          · obtain ⟨d', as', r', hd'⟩ := hb1 b hm
            exact ⟨d', as', r', Nat.le_trans hd' (Nat.le_max_left _ _)⟩
          · obtain ⟨d', as', r', hd'⟩ := hb2 b hm
            exact ⟨d', as', r', Nat.le_trans hd' (Nat.le_max_right _ _)⟩
        · simp only [PyData.depthAll, PyData.shownAll]
          exact .cons ((k1.more fun b hb => List.mem_append_left _ hb).level_le (Nat.le_max_left _ _)) (k2.more_le (fun b hb => List.mem_append_right _ hb) (Nat.le_max_right _ _))
end
end
section
variable {X : Cx}
/-- repr of such data -/
def rReprX (K : PySem.W.Frag) : List V → Hp → VK → Prop := fun xs H Q => ∃ (v : V) (d : PyData), xs = [v] ∧ Dx K Any H v d ∧ d.showable = true ∧ d.depth < 64 ∧ d.shown.length ≤ sizeLine ∧ Q (.str d.shown) H
theorem call_reprX (gd : X.A.guards = some []) (hu : X.A.units + 65 < cLine) : CallR X (.builtin "repr") (rReprX X.K) := by
  intro pins s σ H xs us Q I r h
  obtain ⟨v, d, rfl, dx, sh, dd, hz, q⟩ := h
  obtain ⟨u, rfl, rx⟩ := vals1 r
  have fin : ∀ (h' : Heap) (u : Tok) (tk : Nat), (∀ b o, s.heap.get? b = some o → h'.get? b = some o) → ∃ (v : V) (H' : Hp), Inv X pins σ H' { s with heap := h', toks := tk } ∧ RelV v (.str d.shown u) ∧ Q v H' := fun h' u tk hk => I.after ⟨.str d.shown, H, rfl, I.bare, Un.kept hk, I.hok.kept hk, ⟨_, rfl⟩, q⟩
  cases dx with
  | non =>
    cases rx
    exact PySem.P.repr_of_none (fin s.heap _ _ fun _ _ e => e)
  | bl b =>
    cases rx
    refine PySem.P.repr_of_bool ?_
    have e : (if b then ("True" : Str) else "False") = PyData.shown (.bool b) := by cases b <;> rfl
    exact fin s.heap _ _ fun _ _ e => e
  | int i =>
    obtain ⟨t, rfl⟩ := rx
    exact PySem.P.repr_of_int (by simpa [PyData.showable] using sh) (fin s.heap _ _ fun _ _ e => e)
  | str x =>
    obtain ⟨t, rfl⟩ := rx
    exact PySem.P.repr_of_str (fin s.heap _ _ fun _ _ e => e) (by simpa only [PyData.shown] using hz)
  | lst hq hav ha =>
    rename_i a xs ds
    cases rx
    obtain ⟨its, rv, ⟨o, n, ho, hc, _, hd⟩, _⟩ := I.list (SqL.of hq)
    have hz' : (listText (PyData.shownAll ds)).length ≤ sizeLine := by simpa only [PyData.shown] using hz
    obtain ⟨as, bs, r1, hb, hk⟩ := DxAll.show I ds _ its ha rv (by simpa [PyData.showable] using sh) (fun t ht => Nat.le_trans (listText_mem_le ht) hz')
    have hna : a ∉ bs := not_mem_of_deeper (Reads.list ho hc hd r1) (by simp only [PyData.depth]; omega) hb
    refine call_repr_slot (by omega) ⟨o, ho, hc⟩ (F.slot_list_repr.toG) ?_
    simp only [PyData.depth] at dd
    simp only [PyData.shown] at fin
    cases its with
    | nil =>
      cases r1
      simp only [PyData.shownAll, listText_nil] at fin
      exact call_list_repr_empty ⟨o, ho, hc⟩ ho hd ⟨_, _, rfl, fin s.heap _ _ fun _ _ e => e⟩
    | cons x l =>
      exact call_list_reprK ho hc hd hna (by simpa using hk.length_eq) (fun i y e => hk.item i y (by simpa using e)) gd (fun b _ => Clear.nil b) (by show X.A.units + 1 + _ < cLine; omega) (fun _ _ e => e) (fun h' u tk hk => ⟨_, _, rfl, fin h' u tk hk⟩) hz'
  | tup hq ha =>
    rename_i a xs ds
    cases rx
    obtain ⟨its, rv, ⟨o, ho, hc, n, hd⟩, _⟩ := I.tuple hq
    have hz' : (tupleText (PyData.shownAll ds)).length ≤ sizeLine := by simpa only [PyData.shown] using hz
    obtain ⟨as, bs, r1, hb, hk⟩ := DxAll.show I ds _ its ha rv (by simpa [PyData.showable] using sh) (fun t ht => Nat.le_trans (tupleText_mem_le ht) hz')
    have hna : a ∉ bs := not_mem_of_deeper (Reads.tuple ho hc hd r1) (by simp only [PyData.depth]; omega) hb
    refine call_repr_slot (by omega) ⟨o, ho, hc⟩ F.slot_tuple_repr ?_
    simp only [PyData.depth] at dd
    simp only [PyData.shown] at fin
    exact call_tuple_reprK ho hc hd hna hk gd (fun b _ => Clear.nil b) (by show X.A.units + 1 + _ < cLine; omega) (fun _ _ e => e) (fun h' u tk hk => ⟨_, _, rfl, fin h' u tk hk⟩) hz'
  | dic e =>
    rename_i a
    cases rx
    obtain ⟨hsys, o, n, h1, h2, h3⟩ := dx_empty I e
    refine call_repr_slot (by omega) ⟨o, h1, h2⟩ F.slot_dict_repr ?_
    simp only [PyData.depth] at dd
    simp only [PyData.shown, PyData.shownKv_eq] at fin hz
    exact call_dict_reprK (as := []) (d := 0) h1 h2 h3 hsys (by simp) (ReprEntriesK.of_two [] _ _ .nil .nil) gd (fun b _ => Clear.nil b) (by show X.A.units + 1 + _ < cLine; omega) (fun _ _ e => e) (fun h' u tk hk => ⟨_, _, rfl, fin h' u tk hk⟩) hz
end
end Lag

set_option maxRecDepth 100000
set_option maxHeartbeats 8000000
namespace Lag
open PySem PySem.Spec PyProof.Rows L2
abbrev sTurn : Stmt := topS 12 -- @is_turn
/-! ### data of any kind where a number or a turn is asked -/
def dI : PyData → Bool
  | .int _ => true
  | .bool _ => true
  | _ => false
def dB : PyData → Bool
  | .bool _ => true
  | _ => false
def dT : PyData → Bool
  | .tuple _ => true
  | _ => false
def dL : PyData → Bool
  | .list _ => true
  | _ => false
def wholeD : PyData → Bool
  | .int _ => true
  | _ => false
def fromD : PyData → Int → Int → Bool
  | .int n, a, b => decide (a ≤ n) && decide (n ≤ b)
  | _, _, _ => false
theorem whole_is (d : PyData) : wholeD d = (dI d && !dB d) := by cases d <;> rfl
theorem Dx.ty {K : PySem.W.Frag} {Av : Addr → Prop} {H : Hp} {v : V} {d : PyData} (h : Dx K Av H v d) : ∃ t : String, TyX K H v (.type t) ∧ kitB t "int" = some (dI d) ∧ kitB t "bool" = some (dB d) ∧ kitB t "tuple" = some (dT d) ∧ kitB t "list" = some (dL d) := by
  cases h with
  | non => exact ⟨"NoneType", .base .non, (show kitB "NoneType" "int" = some false by decide +kernel), (show kitB "NoneType" "bool" = some false by decide +kernel), (show kitB "NoneType" "tuple" = some false by decide +kernel), (show kitB "NoneType" "list" = some false by decide +kernel)⟩
  | bl b => exact ⟨"bool", .base (.bl b), (show kitB "bool" "int" = some true by decide +kernel), (show kitB "bool" "bool" = some true by decide +kernel), (show kitB "bool" "tuple" = some false by decide +kernel), (show kitB "bool" "list" = some false by decide +kernel)⟩
  | int i => exact ⟨"int", .base (.int i), (show kitB "int" "int" = some true by decide +kernel), (show kitB "int" "bool" = some false by decide +kernel), (show kitB "int" "tuple" = some false by decide +kernel), (show kitB "int" "list" = some false by decide +kernel)⟩
  | str x => exact ⟨"str", .base (.str x), (show kitB "str" "int" = some false by decide +kernel), (show kitB "str" "bool" = some false by decide +kernel), (show kitB "str" "tuple" = some false by decide +kernel), (show kitB "str" "list" = some false by decide +kernel)⟩
  | lst s n a => exact ⟨"list", ty_lst (SqL.of s), (show kitB "list" "int" = some false by decide +kernel), (show kitB "list" "bool" = some false by decide +kernel), (show kitB "list" "tuple" = some false by decide +kernel), (show kitB "list" "list" = some true by decide +kernel)⟩
  | tup s a => exact ⟨"tuple", ty_tup s, (show kitB "tuple" "int" = some false by decide +kernel), (show kitB "tuple" "bool" = some false by decide +kernel), (show kitB "tuple" "tuple" = some true by decide +kernel), (show kitB "tuple" "list" = some false by decide +kernel)⟩
  | dic e => exact ⟨"dict", .base (.dK e), (show kitB "dict" "int" = some false by decide +kernel), (show kitB "dict" "bool" = some false by decide +kernel), (show kitB "dict" "tuple" = some false by decide +kernel), (show kitB "dict" "list" = some false by decide +kernel)⟩
/-- a turn: a wire's place, a way -/
abbrev Tn := Nat × Int
def turnOf (n : Nat) : PyData → Option Tn
  | .tuple [.int p, .int w] => if 0 ≤ p ∧ p < n ∧ (w = 1 ∨ w = -1) then some (p.toNat, w) else none
  | _ => none
def spWholeD (K : PySem.W.Frag) : Sp := fun vs H Q _ => ∃ (v : V) (d : PyData), vs = [v] ∧ Dx K Any H v d ∧ Q (.bl (wholeD d)) H
def spFromToD (K : PySem.W.Frag) : Sp := fun vs H Q _ => ∃ (v : V) (d : PyData) (a b : Int), vs = [v, .int a, .int b] ∧ Dx K Any H v d ∧ Q (.bl (fromD d a b)) H
def spTurn (K : PySem.W.Frag) : Sp := fun vs H Q _ => ∃ (v : V) (d : PyData) (n : Nat), vs = [v, .int (n : Nat)] ∧ Dx K Any H v d ∧ Q (.bl (turnOf n d).isSome) H
theorem turn_none {n : Nat} {d : PyData} (h : dT d = false) : turnOf n d = none := by
  cases d <;> first | rfl | cases h
theorem vint_eq (a b : Int) : decide (V.int a = V.int b) = decide (a = b) := decide_eq_decide.mpr ⟨fun h => by injection h, fun h => by rw [h]⟩
theorem turn_len {n : Nat} {ds : List PyData} (h : ds.length ≠ 2) : turnOf n (.tuple ds) = none := by
  match ds, h with
  | [], _ => simp only [turnOf]
  | [_], _ => simp only [turnOf]
  | [_, _], h => exact absurd rfl h
  | _ :: _ :: _ :: _, _ => simp only [turnOf]
theorem turn_int (n : Nat) (p w : Int) : (turnOf n (.tuple [.int p, .int w])).isSome = (fromD (.int p) 0 ((n : Int) - 1) && (fromD (.int w) (-1) 1 && !decide (w = 0))) := by
  simp only [turnOf, fromD]
  by_cases h : 0 ≤ p ∧ p < n ∧ (w = 1 ∨ w = -1)
  · rw [if_pos h]
    have h1 : decide (0 ≤ p) = true := decide_eq_true h.1
    have h2 : decide (p ≤ (n : Int) - 1) = true := decide_eq_true (by omega)
    have h3 : decide (-1 ≤ w) = true := decide_eq_true (by omega)
    have h4 : decide (w ≤ 1) = true := decide_eq_true (by omega)
    have h5 : decide (w = 0) = false := decide_eq_false (by omega)
    rw [h1, h2, h3, h4, h5]
    all_goals rfl
  · rw [if_neg h]
    symm
    rw [Option.isSome_none, Bool.eq_false_iff]
    intro z
    simp only [Bool.and_eq_true, decide_eq_true_eq, Bool.not_eq_true', decide_eq_false_iff_not] at z
    exact h ⟨z.1.1, by omega, by omega⟩
theorem turn_p {n : Nat} {p w : PyData} (h : wholeD p = false) : turnOf n (.tuple [p, w]) = none := by
  cases p <;> first | (simp only [turnOf]; done) | cases h
theorem turn_w {n : Nat} {p w : PyData} (h : wholeD w = false) : turnOf n (.tuple [p, w]) = none := by
  cases w <;> cases p <;> first | (simp only [turnOf]; done) | cases h
theorem from_whole {d : PyData} {a b : Int} (h : wholeD d = false) : fromD d a b = false := by
  cases d <;> first | rfl | cases h
section
variable {P : Program} {w : World} {K : PySem.W.Frag} {mg : Str → Option Value} {base : Heap}
theorem ok_wholeD {f : Addr} {fd : FuncData} (F : Fun K "is_whole" "is_whole" sWhole f fd) (B : Bt mg) : FnOk P w K mg base CX0 1 f fd ["thing"] (spWholeD K) := by
  refine F.ok scWhole (fun vs H Q E h => ?_) (fun cdv A outer s H vs Q E hr h => ?_)
  · obtain ⟨v, d, rfl, _⟩ := h
    rfl
  · obtain ⟨v, d, rfl, hd, q⟩ := h
    refine ⟨_, pss_one <| ps_ret <| pe_and (pe_callB call_isi (by rfl) B.isi (by decide +kernel) (pa_cons (pv 0) (pa_cons (pe_bltn (v := .ty "int") (by rfl) B.int (by decide +kernel) rfl) pa_nil)))
      (pe_one (pe_not (pe_callB call_isi (by rfl) B.isi (by decide +kernel) (pa_cons (pv 0) (pa_cons (pe_bltn (v := .ty "bool") (by rfl) B.bool (by decide +kernel) rfl) pa_nil))))), ?_⟩
    obtain ⟨t, ty, k1, k2, _⟩ := hd.ty
    rw [whole_is] at q
    refine ⟨_, rfl, _, _, _, _, dI d, rfl, .ty "int", ty, kit_ty k1, dI d, rfl, ite2 (fun e1 => ?_) (fun e1 => ?_)⟩
    · rw [e1] at q
      exact ⟨_, rfl, _, _, _, _, dB d, rfl, .ty "bool", ty, kit_ty k2, dB d, rfl, q⟩
    · have e2 : dI d = false := by simpa using e1
      rw [e2] at q
      exact q
theorem ok_fromToD {f fW : Addr} {fd fdW : FuncData} (F : Fun K "is_whole_from_to" "is_whole_from_to" sFromTo f fd) (DW : DWhole P w K mg base fW fdW) (DX : FnOk P w K mg base CX0 1 fW fdW ["thing"] (spWholeD K)) : FnOk P w K mg base CX0 2 f fd ["thing", "least", "greatest"] (spFromToD K) := by
  refine F.ok scFromTo (fun vs H Q E h => ?_) (fun cdv A outer s H vs Q E hr h => ?_)
  · obtain ⟨v, d, a, b, rfl, _⟩ := h
    rfl
  · obtain ⟨v, d, a, b, rfl, hd, q⟩ := h
    have hr1 : Room 1 _ := hr.mono (by decide)
    refine ⟨_, pss_one <| ps_ret <| pe_and (pe_call DX hr1 (by rfl) DW.mg DW.kp DW.bd .nil pass0 (pa_cons (pv 0) pa_nil)) (pe_one (pe_chain op_le op_le (pv 1) (pv 0) (pv 2))), ?_⟩
    refine ⟨_, rfl, v, d, rfl, hd, wholeD d, rfl, ?_⟩
    cases hd with
    | int n =>
      refine iteT ?_
      refine ⟨_, rfl, _, rfl, _, _, rfl, rfl, _, rfl, ?_⟩
      have q : Q (.bl (decide (a ≤ n) && decide (n ≤ b))) H := q
      cases e : decide (a ≤ n) with
      | false =>
        rw [e] at q
        exact iteF q
      | true =>
        rw [e] at q
        exact iteT ⟨_, rfl, _, _, rfl, rfl, q⟩
    | bl b' => exact iteF q
    | non => exact iteF q
    | str x => exact iteF q
    | tup s a => exact iteF q
    | lst s n a => exact iteF q
    | dic e => exact iteF q
abbrev nTurn : List Str := ["thing", "many", "place", "way"]
theorem scTurn : FnScope nTurn ["thing", "many"] (defScope sTurn) := ⟨rfl, rfl, rfl, by decide +kernel, rfl, by decide +kernel, by decide +kernel⟩
abbrev DTurn (P : Program) (w : World) (K : PySem.W.Frag) (mg : Str → Option Value) (base : Heap) := Df P w K mg base 3 "is_turn" ["thing", "many"] (spTurn K)
theorem ok_turn {f fF : Addr} {fd fdF : FuncData} (F : Fun K "is_turn" "is_turn" sTurn f fd) (hm : mg "is_turn" = some (.ref f)) (B : Bt mg) (DF : DFromTo P w K mg base fF fdF) (DX : FnOk P w K mg base CX0 2 fF fdF ["thing", "least", "greatest"] (spFromToD K)) : DTurn P w K mg base f fd := by
  refine ⟨?_, hm, F.kp, F.binds fun _ _ _ _ _ _ us hl => match us, hl with | [_, _], _ => rfl⟩
  refine F.ok scTurn (fun vs H Q E h => ?_) (fun cdv A outer s H vs Q E hr h => ?_)
  · obtain ⟨v, d, n, rfl, _⟩ := h
    rfl
  · obtain ⟨v, d, n, rfl, hd, q⟩ := h
    have nd := scTurn.nd
    refine ⟨_, pss_cons (ps_if (PW.pt (pw_or (pt_not (pt_val (pe_callB call_isi (by rfl) B.isi (by decide +kernel) (pa_cons (pv 0) (pa_cons (pe_bltn (v := .ty "tuple") (by rfl) B.tuple (by decide +kernel) rfl) pa_nil))))) (pw_or1 (pt_cmpR op_ne (pe_callB call_len_seq (by rfl) B.len PySem.boot_len (pa_cons (pv 0) pa_nil)) pe_int (nomark _))))) (pss_one (ps_ret pe_bl)) pss_nil) <|
        pss_cons (ps_asg (pv 0) (pg_tup rfl (pgs_cons (pg_name (i := 2) nd rfl (.inl rfl)) (pgs_cons (pg_name (i := 3) nd rfl (.inl rfl)) pgs_nil)))) <|
        pss_one (ps_ret (pe_and (pe_call DX (hr.mono (by decide)) (by rfl) DF.mg DF.kp DF.bd .nil pass0 (pa_cons (pv 2) (pa_cons pe_int (pa_cons (pe_op op_sub (pv 1) pe_int) pa_nil)))) (pe_and (pe_call DX (hr.mono (by decide)) (by rfl) DF.mg DF.kp DF.bd .nil pass0 (pa_cons (pv 3) (pa_cons (pe_un un_neg pe_int) (pa_cons pe_int pa_nil)))) (pe_one (pe_cmpR op_ne (pv 3) pe_int (nomark _)))))), ?_⟩
    obtain ⟨t, ty, _, _, k3, _⟩ := hd.ty
    refine ⟨_, rfl, _, _, _, _, dT d, rfl, .ty "tuple", ty, kit_ty k3, dT d, rfl, ?_⟩
    cases eT : dT d with
    | false =>
      rw [turn_none eT] at q
      exact q
    | true =>
    refine iteF ?_
    cases hd with
    | @tup a xs ds sq al =>
      have hl : xs.length = ds.length := al.all2.1
      by_cases h2 : ds.length = 2
      · obtain ⟨dp, dw, rfl⟩ : ∃ x y, ds = [x, y] := by
          match ds, h2 with
          | [x, y], _ => exact ⟨x, y, rfl⟩
        obtain ⟨vp, vw, rfl⟩ : ∃ x y, xs = [x, y] := by
          match xs, hl with
          | [x, y], _ => exact ⟨x, y, rfl⟩
        cases al with
        | cons hp al =>
        cases al with
        | cons hw al =>
        refine ⟨_, rfl, a, _, rfl, .inr sq, rfl, _, rfl, iteNS rfl ?_⟩
        refine ⟨_, rfl, a, _, rfl, sq, rfl, _, _, rfl, _, _, rfl, rfl, ?_⟩
        cases ep : wholeD dp with
        | false =>
          rw [turn_p ep] at q
          exact ⟨_, rfl, _, rfl, _, _, rfl, rfl, vp, dp, _, _, rfl, hp, false, by rw [from_whole ep], iteF q⟩
        | true =>
        cases hp with
        | int p =>
          cases ew : wholeD dw with
          | false =>
            rw [turn_w ew] at q
            refine ⟨_, rfl, _, rfl, _, _, rfl, rfl, .int p, .int p, _, _, rfl, .int p, fromD (.int p) 0 ((n : Int) - 1), rfl, ite2 (fun e1 => ?_) (fun e1 => ?_)⟩
            · exact ⟨_, rfl, _, rfl, vw, dw, _, _, rfl, hw, false, by rw [from_whole ew], iteF q⟩
            · exact q
          | true =>
          cases hw with
          | int k =>
            rw [turn_int] at q
            refine ⟨_, rfl, _, rfl, _, _, rfl, rfl, .int p, .int p, _, _, rfl, .int p, fromD (.int p) 0 ((n : Int) - 1), rfl, ite2 (fun e1 => ?_) (fun e1 => ?_)⟩
            · rw [e1] at q
              refine ⟨_, rfl, _, rfl, .int k, .int k, _, _, rfl, .int k, fromD (.int k) (-1) 1, rfl, ite2 (fun e2 => ?_) (fun e2 => ?_)⟩
              · rw [e2] at q
                rw [← vint_eq] at q
                exact ⟨_, rfl, rfl, q⟩
              · have e3 : fromD (.int k) (-1) 1 = false := by simpa using e2
                rw [e3] at q
                exact q
            · have e3 : fromD (.int p) 0 ((n : Int) - 1) = false := by simpa using e1
              rw [e3] at q
              exact q
          | _ => cases ew
        | _ => cases ep
      · rw [turn_len h2] at q
        refine ⟨_, rfl, a, _, rfl, .inr sq, rfl, _, rfl, ite2 (fun _ => q) (fun e => ?_)⟩
        exfalso
        apply e
        have h3 : ¬ (V.int ((xs.length : Nat) : Int) = V.int 2) := fun z => by
          injection z
          omega
        rw [decide_eq_false h3]
        all_goals rfl
    | _ => cases eT
end
end Lag

set_option maxRecDepth 100000
set_option maxHeartbeats 8000000
namespace Lag
open PySem PySem.Spec PyProof.Rows L2
abbrev sOuter : Stmt := topS 22 -- @is_outer
abbrev sSpots : Stmt := topS 33 -- @spots_of
abbrev sTurnE : Stmt := topS 38 -- @turn_ends
abbrev sLoopS : Stmt := topS 39 -- @loop_sum
abbrev sGap : Stmt := topS 34 -- @first_gap
theorem int_at {l : List Int} {i : Nat} {x : V} (h : (l.map V.int)[i]? = some x) : ∃ z, l[i]? = some z ∧ x = V.int z := by
  rw [List.getElem?_map] at h
  cases e : l[i]? with
  | none =>
    rw [e] at h
    cases h
  | some z =>
    rw [e] at h
    cases h
    exact ⟨z, rfl, rfl⟩
theorem getD_at {ts : List Int} {g : Nat} (h : g < ts.length) : (ts.map V.int)[g]? = some (.int (ts.getD g 0)) := by
  rw [List.getElem?_map, List.getElem?_eq_getElem h, List.getD_eq_getElem?_getD, List.getElem?_eq_getElem h]
  rfl
def spOuter (K : PySem.W.Frag) : Sp := fun vs H Q _ => ∃ (v : V) (g : Gt), vs = [v] ∧ GateV K H v g ∧ ∀ b : Bool, (b = true ↔ portK g.1) → Q (.bl b) H
theorem port_in {k : Str} : inV (.str k) [.str "in", .str "out"] = true ↔ portK k := by
  unfold inV
  rw [List.any_eq_true]
  constructor
  · rintro ⟨v, hv, he⟩
    simp only [List.mem_cons, List.not_mem_nil, or_false] at hv
    rcases hv with rfl | rfl
    · exact .inl (eq_of_beq he).symm
    · exact .inr (eq_of_beq he).symm
  · rintro (rfl | rfl)
    · exact ⟨_, List.mem_cons_self .., beq_self_eq_true _⟩
    · exact ⟨_, List.mem_cons_of_mem _ (List.mem_cons_self ..), beq_self_eq_true _⟩
/-! ### turns: what they are, told by plain functions -/
instance : Inhabited Wr := ⟨(0, 0, [])⟩
def wAt (ws : List Wr) (p : Nat) : Wr := ws.getD p (0, 0, [])
/-- start and end of a turn -/
def tEnds (ws : List Wr) (t : Tn) : Nat × Nat := if 0 < t.2 then ((wAt ws t.1).1, (wAt ws t.1).2.1) else ((wAt ws t.1).2.1, (wAt ws t.1).1)
def isPort (gs : List Gt) (g : Nat) : Bool := decide (kindAt gs g = "in") || decide (kindAt gs g = "out")
def spotN (gs : List Gt) (g : Nat) : Nat := if isPort gs g = true then gs.length else g
def homeI (gs : List Gt) (g : Nat) : Int := if isPort gs g = true then -1 else (g : Nat)
def sumT (ws : List Wr) (ts : List Tn) : Int := (ts.map fun t => (((wAt ws t.1).2.2.length : Nat) : Int) * t.2).sum
def TnOk (n : Nat) (t : Tn) : Prop := t.1 < n ∧ (t.2 = 1 ∨ t.2 = -1)
theorem spot_home {gs : List Gt} {a b : Nat} (ha : a < gs.length) (hb : b < gs.length) : (spotN gs a = spotN gs b) ↔ (homeI gs a = homeI gs b) := by
  unfold spotN homeI
  by_cases h1 : isPort gs a = true
  · by_cases h2 : isPort gs b = true
    · rw [if_pos h1, if_pos h2, if_pos h1, if_pos h2]
      exact ⟨fun _ => rfl, fun _ => rfl⟩
    · rw [if_pos h1, if_neg h2, if_pos h1, if_neg h2]
      omega
  · by_cases h2 : isPort gs b = true
    · rw [if_neg h1, if_pos h2, if_neg h1, if_pos h2]
      omega
    · rw [if_neg h1, if_neg h2, if_neg h1, if_neg h2]
      omega
theorem isPort_iff {gs : List Gt} {g : Nat} : isPort gs g = true ↔ portK (kindAt gs g) := by
  unfold isPort portK
  rw [Bool.or_eq_true, decide_eq_true_iff, decide_eq_true_iff]
theorem wAt_get {ws : List Wr} {p : Nat} (h : p < ws.length) : ws[p]? = some (wAt ws p) := by
  unfold wAt
  rw [List.getD_eq_getElem?_getD, List.getElem?_eq_getElem h]
  rfl
theorem wAt_mem {ws : List Wr} {p : Nat} (h : p < ws.length) : wAt ws p ∈ ws := List.mem_of_getElem? (wAt_get h)
theorem tEnds_lt {gs : List Gt} {ws : List Wr} (N : NetOk gs ws) {t : Tn} (h : TnOk ws.length t) : (tEnds ws t).1 < gs.length ∧ (tEnds ws t).2 < gs.length := by
  have W := N.wok _ (wAt_mem h.1)
  unfold tEnds
  by_cases z : 0 < t.2
  · rw [if_pos z]
    exact ⟨W.s, W.e⟩
  · rw [if_neg z]
    exact ⟨W.e, W.s⟩
/-- whether the k-th turn does not end where the next one begins -/
def gapAt (gs : List Gt) (es : List (Nat × Nat)) (k : Nat) : Bool := !decide (spotN gs (es.getD k (0, 0)).2 = spotN gs (es.getD ((k + 1) % es.length) (0, 0)).1)
def gapOf (gs : List Gt) (es : List (Nat × Nat)) : Option Nat := (List.range es.length).find? (gapAt gs es)
theorem gap_some {gs : List Gt} {es : List (Nat × Nat)} {k : Nat} (hk : k < es.length) (h : gapAt gs es k = true) (h0 : ∀ j, j < k → gapAt gs es j = false) : gapOf gs es = some k := by
  unfold gapOf
  rw [List.find?_eq_some_iff_getElem]
  refine ⟨h, k, by rw [List.length_range]; exact hk, by rw [List.getElem_range], fun j hj => ?_⟩
  rw [List.getElem_range, h0 j hj]
  rfl
theorem gap_none {gs : List Gt} {es : List (Nat × Nat)} (h0 : ∀ j, j < es.length → gapAt gs es j = false) : gapOf gs es = none := by
  unfold gapOf
  rw [List.find?_eq_none]
  intro j hj
  rw [h0 j (List.mem_range.mp hj)]
  decide
/-- a turn, in the heap -/
def TnV (K : PySem.W.Frag) (H : Hp) (v : V) (t : Tn) : Prop := ∃ a, v = .ref a ∧ SqT K H a [.int (t.1 : Nat), .int t.2]
theorem TnV.tk {K : PySem.W.Frag} {H H' : Hp} {v : V} {t : Tn} (k : TK H H') (h : TnV K H v t) : TnV K H' v t := by
  obtain ⟨a, e, s⟩ := h
  exact ⟨a, e, k.seq s⟩
def TnL (K : PySem.W.Frag) (H : Hp) (l : Addr) (ts : List Tn) : Prop := ∃ vs, SqL K H l vs ∧ All2 (TnV K H) vs ts
theorem TnL.same {K : PySem.W.Frag} {H H' : Hp} {l : Addr} {ts : List Tn} (h : TnL K H l ts) (s : Same H H') : TnL K H' l ts := by
  obtain ⟨vs, e, a⟩ := h
  exact ⟨vs, s.seq e, a.imp fun _ _ r => r.tk (TK.same s)⟩
abbrev EnV (K : PySem.W.Frag) (H : Hp) (v : V) (e : Nat × Nat) : Prop := ∃ a, v = .ref a ∧ SqT K H a [.int (e.1 : Nat), .int (e.2 : Nat)]
theorem EnV.tk {K : PySem.W.Frag} {H H' : Hp} {v : V} {t : Nat × Nat} (k : TK H H') (h : EnV K H v t) : EnV K H' v t := by
  obtain ⟨a, e, s⟩ := h
  exact ⟨a, e, k.seq s⟩
def spSpots (K : PySem.W.Frag) (C : Addr) : Sp := fun vs H Q _ => ∃ (p ng nw : Addr) (gs : List Gt) (ws : List Wr), vs = [.ref p] ∧ NetAt K C H p ng nw gs ws ∧ gs.length ≤ 1000 ∧ ∀ l H', Same H H' → H l = none → H' l = some (.lst ((List.range gs.length).map fun g => V.int (spotN gs g : Nat))) → Q (.ref l) H'
def spTurnE (K : PySem.W.Frag) (C : Addr) : Sp := fun vs H Q _ => ∃ (p ng nw : Addr) (v : V) (gs : List Gt) (ws : List Wr) (t : Tn), vs = [.ref p, v] ∧ NetAt K C H p ng nw gs ws ∧ TnV K H v t ∧ TnOk ws.length t ∧ ∀ v' H', Same H H' → EnV K H' v' (tEnds ws t) → Q v' H'
def spLoopS (K : PySem.W.Frag) (C : Addr) : Sp := fun vs H Q _ => ∃ (p ng nw l : Addr) (gs : List Gt) (ws : List Wr) (ts : List Tn), vs = [.ref p, .ref l] ∧ NetAt K C H p ng nw gs ws ∧ TnL K H l ts ∧ ts.length ≤ 1000 ∧ (∀ x ∈ ws, x.2.2.length ≤ 1000) ∧ (∀ t ∈ ts, TnOk ws.length t) ∧ ∀ H', Same H H' → Q (.int (sumT ws ts)) H'
def spGap (K : PySem.W.Frag) (C : Addr) : Sp := fun vs H Q _ => ∃ (p ng nw l : Addr) (vs' : List V) (gs : List Gt) (ws : List Wr) (es : List (Nat × Nat)), vs = [.ref p, .ref l] ∧ NetAt K C H p ng nw gs ws ∧ gs.length ≤ 1000 ∧ H l = some (.lst vs') ∧ All2 (EnV K H) vs' es ∧ es.length ≤ 1000 ∧ (∀ e ∈ es, e.1 < gs.length ∧ e.2 < gs.length) ∧ ∀ H', Same H H' → Q (match gapOf gs es with | some k => .int (k : Nat) | none => .non) H'
section
variable {P : Program} {w : World} {K : PySem.W.Frag} {mg : Str → Option Value} {base : Heap}
theorem scOuter : FnScope ["gate"] ["gate"] (defScope sOuter) := ⟨rfl, rfl, rfl, by decide +kernel, rfl, by decide +kernel, by decide +kernel⟩
abbrev DOuter (P : Program) (w : World) (K : PySem.W.Frag) (mg : Str → Option Value) (base : Heap) := Df P w K mg base 1 "is_outer" ["gate"] (spOuter K)
theorem ok_outer {f aK aW aF : Addr} {fd : FuncData} (F : Fun K "is_outer" "is_outer" sOuter f fd) (hm : mg "is_outer" = some (.ref f)) (C : Cns K mg aK aW aF) : DOuter P w K mg base f fd := by
  refine ⟨?_, hm, F.kp, F.binds fun _ _ _ _ _ _ us hl => match us, hl with | [_], _ => rfl⟩
  refine F.ok scOuter (fun vs H Q E h => ?_) (fun cdv A outer s H vs Q E hr h => ?_)
  · obtain ⟨v, g, rfl, _⟩ := h
    rfl
  · obtain ⟨v, g, rfl, ⟨a, rfl, sq⟩, q⟩ := h
    refine ⟨_, pss_one <| ps_ret <| pe_cmpR op_in_seq (pe_ix ix_tup (pv 0) pe_int (fun _ _ => rfl)) (pe_glob (v := .ref aW) (by rfl) C.mW rfl) (by rfl), ?_⟩
    exact ⟨_, rfl, a, _, 0, _, rfl, rfl, sq, atI_nat (j := 0) rfl, aW, _, rfl, .inr (C.sW H), rfl, rfl, q _ port_in⟩
abbrev nSpots : List Str := ["net", "number", "gate"]
theorem scSpots : FnScope nSpots ["net"] (defScope sSpots) := ⟨rfl, rfl, rfl, by decide +kernel, rfl, by decide +kernel, by decide +kernel⟩
abbrev DSpots (P : Program) (w : World) (K : PySem.W.Frag) (mg : Str → Option Value) (base : Heap) (C : Addr) := Df P w K mg base 2 "spots_of" ["net"] (spSpots K C)
theorem ok_spots {f fO C : Addr} {fd fdO : FuncData} (F : Fun K "spots_of" "spots_of" sSpots f fd) (hm : mg "spots_of" = some (.ref f)) (B : Bt mg) (T : NT K mg C) (DO : DOuter P w K mg base fO fdO) : DSpots P w K mg base C f fd := by
  refine ⟨?_, hm, F.kp, F.binds fun _ _ _ _ _ _ us hl => match us, hl with | [_], _ => rfl⟩
  refine F.ok scSpots (fun vs H Q E h => ?_) (fun cdv A outer s H vs Q E hr h => ?_)
  · obtain ⟨p, ng, nw, gs, ws, rfl, _⟩ := h
    rfl
  · obtain ⟨p, ng, nw, gs, ws, rfl, NA, hgl, q⟩ := h
    have nd := scSpots.nd
    refine ⟨_, pss_one (ps_ret (pe_lc (own := [("number", 1), ("gate", 2)]) (g := (gTup K 2 (gCons (gName 1) (gCons (gName 2) gNil)))) (tt := tYes) (te := (tIf (tB (tCall (spOuter K) [] E0 (tCons (tVar 2) tNil))) (tCB (Evl.rLenS K) (tCons (tFld K (tVar 0) "gates") tNil)) (tVar 1))) rfl nd (pi_enum (by rfl) B.enum (pa_cons (pe_fld (pv 0) rfl) pa_nil)) (blkOk_by (N := nSpots) (sc := defScope sSpots) (own := [("number", 1), ("gate", 2)]) (by decide +kernel)) (fun _ _ _ _ _ => (pg_tup rfl (pgs_cons (pg_name (i := 1) nd rfl (.inl rfl)) (pgs_cons (pg_name (i := 2) nd rfl (.inl rfl)) pgs_nil)))) (fun _ _ _ _ _ => pts_nil) (fun _ _ _ _ _ => (pe_ifExp (pt_val (pe_call DO.ok (hr.mono (by decide)) (by rfl) DO.mg DO.kp DO.bd .nil pass0 (pa_cons (pv 2) pa_nil))) (pe_callB call_len_seq (by rfl) B.len PySem.boot_len (pa_cons (pe_fld (pv 0) rfl) pa_nil)) (pv 1))))), ?_⟩
    obtain ⟨dx, ob⟩ := id NA.ob
    obtain ⟨gv, hgv, ga⟩ := id NA.g
    have hl : gv.length = gs.length := ga.1
    refine ⟨_, rfl, p, C, dx, _, _, rfl, ob, T.cl, T.nG, nf_gates _ _, ng, _, rfl, SqL.of hgv, fun D hD => ?_⟩
    refine lc_it (walk_enum (K := K) (a := ng) (xs := gv)) (fun i Hc => Hc D = some (.lst ((List.range i).map fun g => V.int (spotN gs g : Nat))) ∧ Same H Hc) ⟨upd_same, same_new hD⟩ (fun i Hc _ ⟨_, sm⟩ => SqL.of (sm _ _ hgv)) ?_ ?_
    · rintro i x Hc Hc' hi ⟨hc, sm⟩ ⟨T0, x1, y, rfl, hT, rfl, ex, ey⟩
      cases ex
      obtain ⟨g, hg, a, rfl, sq⟩ := ga.get ey
      have hil : i < gs.length := (List.getElem?_eq_some_iff.mp hg).1
      have smT : Same Hc (upd Hc T0 (.tup [.int (i : Nat), .ref a])) := same_new hT
      have eT : (upd Hc T0 (.tup [.int (i : Nat), .ref a])) T0 = some (.tup [.int (i : Nat), .ref a]) := upd_same
      generalize upd Hc T0 (.tup [.int (i : Nat), .ref a]) = Hd at smT eT
      have sd := sm.trans smT
      have hlen : ((List.range i).map fun g => V.int (spotN gs g : Nat)).length < sizeLine := by
        rw [List.length_map, List.length_range]
        exact small1000 (by omega)
      have app : ∀ k : Nat, k = spotN gs i → upd Hd D (.lst (((List.range i).map fun g => V.int (spotN gs g : Nat)) ++ [.int (k : Nat)])) D = some (.lst ((List.range (i + 1)).map fun g => V.int (spotN gs g : Nat))) := fun k hk => by
        rw [upd_same, List.range_succ, List.map_append, hk]
        rfl
      refine ⟨T0, _, rfl, .inl (.inl eT), rfl, _, _, rfl, _, _, rfl, rfl, rfl, tyes ?_⟩
      refine ⟨_, rfl, _, g, rfl, ⟨a, rfl, (TK.same sd).seq sq⟩, fun b hb => ⟨b, rfl, ite2 (fun e => ?_) (fun e => ?_)⟩⟩
      · have hp : isPort gs i = true := isPort_iff.mpr (by rw [kindAt_get hg]; exact hb.mp e)
        refine ⟨_, rfl, p, C, dx, _, _, rfl, sd _ _ ob, T.cl, T.nG, nf_gates _ _, ng, _, rfl, .inl (SqL.of (sd _ _ hgv)), _, smT _ _ hc, hlen, app _ ?_, same_mut sd hD⟩
        rw [hl]
        unfold spotN
        rw [if_pos hp]
      · have hp : ¬ isPort gs i = true := fun z => e (hb.mpr (by rw [← kindAt_get hg]; exact isPort_iff.mp z))
        refine ⟨_, rfl, _, smT _ _ hc, hlen, app _ ?_, same_mut sd hD⟩
        unfold spotN
        rw [if_neg hp]
    · rintro H1 ⟨hc1, s1⟩
      rw [hl] at hc1
      exact q D H1 s1 hD hc1
abbrev nTurnE : List Str := ["net", "turn", "place", "way", "start", "end", "held"]
theorem scTurnE : FnScope nTurnE ["net", "turn"] (defScope sTurnE) := ⟨rfl, rfl, rfl, by decide +kernel, rfl, by decide +kernel, by decide +kernel⟩
abbrev DTurnE (P : Program) (w : World) (K : PySem.W.Frag) (mg : Str → Option Value) (base : Heap) (C : Addr) := Df P w K mg base 1 "turn_ends" ["net", "turn"] (spTurnE K C)
theorem ok_turnE {f C : Addr} {fd : FuncData} (F : Fun K "turn_ends" "turn_ends" sTurnE f fd) (hm : mg "turn_ends" = some (.ref f)) (T : NT K mg C) : DTurnE P w K mg base C f fd := by
  refine ⟨?_, hm, F.kp, F.binds fun _ _ _ _ _ _ us hl => match us, hl with | [_, _], _ => rfl⟩
  refine F.ok scTurnE (fun vs H Q E h => ?_) (fun cdv A outer s H vs Q E hr h => ?_)
  · obtain ⟨p, ng, nw, v, gs, ws, t, rfl, _⟩ := h
    rfl
  · obtain ⟨p, ng, nw, v, gs, ws, t, rfl, NA, ⟨a, rfl, sq⟩, hok, q⟩ := h
    have nd := scTurnE.nd
    refine ⟨_, pss_cons (ps_asg (pv 1) (pg_tup rfl (pgs_cons (pg_name (i := 2) nd rfl (.inl rfl)) (pgs_cons (pg_name (i := 3) nd rfl (.inl rfl)) pgs_nil)))) <|
        pss_cons (ps_asg (pe_ix ix_list (pe_fld (pv 0) rfl) (pv 2) (fun _ _ => rfl)) (pg_tup rfl (pgs_cons (pg_name (i := 4) nd rfl (.inl rfl)) (pgs_cons (pg_name (i := 5) nd rfl (.inl rfl)) (pgs_cons (pg_name (i := 6) nd rfl (.inl rfl)) pgs_nil))))) <|
        pss_one (ps_ret (pe_ifExp (pt_cmpR op_gt (pv 3) pe_int (nomark _)) (pe_tup (pa_cons (pv 4) (pa_cons (pv 5) pa_nil))) (pe_tup (pa_cons (pv 5) (pa_cons (pv 4) pa_nil))))), ?_⟩
    obtain ⟨dx, ob⟩ := id NA.ob
    obtain ⟨wv, hwv, wa⟩ := id NA.w
    obtain ⟨v, hv, b, c, rfl, sb, sc⟩ := wa.getR (wAt_get hok.1)
    refine ⟨_, rfl, a, _, rfl, sq, rfl, _, _, rfl, _, _, rfl, rfl, ?_⟩
    refine ⟨_, rfl, p, C, dx, _, _, rfl, ob, T.cl, T.nW, nf_wires _ _, _, rfl, nw, wv, t.1, .ref b, rfl, rfl, SqL.of hwv, atI_nat hv, b, _, rfl, sb, rfl, _, _, rfl, _, _, rfl, _, _, rfl, rfl, ?_⟩
    refine ⟨_, rfl, _, _, rfl, rfl, _, rfl, ite2 (fun e => ?_) (fun e => ?_)⟩
    · have h0 : 0 < t.2 := of_decide_eq_true e
      refine ⟨_, rfl, _, rfl, (by show 2 ≤ sizeLine; decide), fun r hr => q (.ref r) _ (same_new hr) ⟨r, rfl, .inl (.inl ?_)⟩⟩
      unfold tEnds
      rw [if_pos h0]
      exact upd_same
    · have h0 : ¬ 0 < t.2 := fun z => e (decide_eq_true z)
      refine ⟨_, rfl, _, rfl, (by show 2 ≤ sizeLine; decide), fun r hr => q (.ref r) _ (same_new hr) ⟨r, rfl, .inl (.inl ?_)⟩⟩
      unfold tEnds
      rw [if_neg h0]
      exact upd_same
abbrev nLoopS : List Str := ["net", "loop", "place", "way"]
theorem scLoopS : FnScope nLoopS ["net", "loop"] (defScope sLoopS) := ⟨rfl, rfl, rfl, by decide +kernel, rfl, by decide +kernel, by decide +kernel⟩
abbrev DLoopS (P : Program) (w : World) (K : PySem.W.Frag) (mg : Str → Option Value) (base : Heap) (C : Addr) := Df P w K mg base 1 "loop_sum" ["net", "loop"] (spLoopS K C)
theorem sumT_snoc (ws : List Wr) (ts : List Tn) (t : Tn) : ((ts ++ [t]).map fun t => (((wAt ws t.1).2.2.length : Nat) : Int) * t.2) = (ts.map fun t => (((wAt ws t.1).2.2.length : Nat) : Int) * t.2) ++ [(((wAt ws t.1).2.2.length : Nat) : Int) * t.2] := by
  rw [List.map_append]
  rfl
theorem ok_loopS {f C : Addr} {fd : FuncData} (F : Fun K "loop_sum" "loop_sum" sLoopS f fd) (hm : mg "loop_sum" = some (.ref f)) (B : Bt mg) (ms : mg "sum" = none) (T : NT K mg C) : DLoopS P w K mg base C f fd := by
  refine ⟨?_, hm, F.kp, F.binds fun _ _ _ _ _ _ us hl => match us, hl with | [_, _], _ => rfl⟩
  refine F.ok scLoopS (fun vs H Q E h => ?_) (fun cdv A outer s H vs Q E hr h => ?_)
  · obtain ⟨p, ng, nw, l, gs, ws, ts, rfl, _⟩ := h
    rfl
  · obtain ⟨p, ng, nw, l, gs, ws, ts, rfl, NA, ⟨tv, hl, ta⟩, htl, hwl, hok, q⟩ := h
    have nd := scLoopS.nd
    refine ⟨_, pss_one (ps_ret (pe_callB (cr_sum rfl) (by rfl) ms (by decide +kernel) (pa_cons (pe_lc (own := [("place", 2), ("way", 3)]) (g := (gTup K 2 (gCons (gName 2) (gCons (gName 3) gNil)))) (tt := tYes) (te := (tOp (rI CMul fun i j => .int (i * j)) (tCB (Evl.rLenS K) (tCons (tOp (rIxT K) (tOp (rIxL K) (tFld K (tVar 0) "wires") (tVar 2)) (tC (.int 2))) tNil)) (tVar 3))) rfl nd (pi_list (pv 1)) (blkOk_by (N := nLoopS) (sc := defScope sLoopS) (own := [("place", 2), ("way", 3)]) (by decide +kernel)) (fun _ _ _ _ _ => (pg_tup rfl (pgs_cons (pg_name (i := 2) nd rfl (.inl rfl)) (pgs_cons (pg_name (i := 3) nd rfl (.inl rfl)) pgs_nil)))) (fun _ _ _ _ _ => pts_nil) (fun _ _ _ _ _ => (pe_op op_mul (pe_callB call_len_seq (by rfl) B.len PySem.boot_len (pa_cons (pe_ix ix_tup (pe_ix ix_list (pe_fld (pv 0) rfl) (pv 2) (fun _ _ => rfl)) pe_int (fun _ _ => rfl)) pa_nil)) (pv 3)))) pa_nil))), ?_⟩
    obtain ⟨dx, ob⟩ := id NA.ob
    obtain ⟨wv, hwv, wa⟩ := id NA.w
    have htv : tv.length = ts.length := ta.1
    refine ⟨_, rfl, l, rfl, ⟨_, hl⟩, fun D hD => ?_⟩
    refine lc_list (K := K) (a := l) (xs := tv) (fun i Hc => Hc D = some (.lst (((ts.take i).map fun t => (((wAt ws t.1).2.2.length : Nat) : Int) * t.2).map V.int)) ∧ Same H Hc) ⟨upd_same, same_new hD⟩ (fun i Hc _ ⟨_, sm⟩ => sm.seq hl) ?_ ?_
    · rintro i v Hc hv ⟨hc, sm⟩
      obtain ⟨t, ht, a, rfl, sq⟩ := ta.get hv
      have hi : i < ts.length := (List.getElem?_eq_some_iff.mp ht).1
      have ok := hok t (List.mem_of_getElem? ht)
      obtain ⟨v, hv2, b, c, rfl, sb, sc⟩ := wa.getR (wAt_get ok.1)
      have hw := hwl _ (wAt_mem ok.1)
      have tk := TK.same sm
      refine ⟨a, _, rfl, tk.seq sq, rfl, _, _, rfl, _, _, rfl, rfl, rfl, tyes ?_⟩
      refine ⟨_, rfl, p, C, dx, _, _, rfl, sm _ _ ob, T.cl, T.nW, nf_wires _ _, _, rfl, nw, wv, t.1, .ref b, rfl, rfl, SqL.of (sm _ _ hwv), atI_nat hv2, b, _, 2, .ref c, rfl, rfl, tk.seq sb, atI_nat (j := 2) rfl, c, _, rfl, .inr (tk.seq sc), _, rfl, _, _, rfl, rfl, .inr (by rcases ok.2 with z | z <;> rw [z] <;> decide), _, hc, ?_, ?_, same_mut sm hD⟩
      · rw [List.length_map, List.length_map, List.length_take]
        exact small1000 (by omega)
      · rw [upd_same, List.take_add_one, ht, Option.toList_some, sumT_snoc, List.map_append, List.length_map]
        rfl
    · rintro H1 ⟨hc1, s1⟩
      rw [htv, List.take_length] at hc1
      exact ⟨D, _, rfl, SqL.of hc1, q H1 s1⟩
abbrev nGap : List Str := ["net", "ends", "spots", "k", "start", "end", "behind"]
theorem scGap : FnScope nGap ["net", "ends"] (defScope sGap) := ⟨rfl, rfl, rfl, by decide +kernel, rfl, by decide +kernel, by decide +kernel⟩
abbrev DGap (P : Program) (w : World) (K : PySem.W.Frag) (mg : Str → Option Value) (base : Heap) (C : Addr) := Df P w K mg base 3 "first_gap" ["net", "ends"] (spGap K C)
theorem ok_gap {f fS C : Addr} {fd fdS : FuncData} (F : Fun K "first_gap" "first_gap" sGap f fd) (hm : mg "first_gap" = some (.ref f)) (B : Bt mg) (DSp : DSpots P w K mg base C fS fdS) : DGap P w K mg base C f fd := by
  refine ⟨?_, hm, F.kp, F.binds fun _ _ _ _ _ _ us hl => match us, hl with | [_, _], _ => rfl⟩
  refine F.ok scGap (fun vs H Q E h => ?_) (fun cdv A outer s H vs Q E hr h => ?_)
  · obtain ⟨p, ng, nw, l, vs', gs, ws, es, rfl, _⟩ := h
    rfl
  · obtain ⟨p, ng, nw, l, ev, gs, ws, es, rfl, NA, hgl, hl, ea, hel, hok, q⟩ := h
    have nd := scGap.nd
    refine ⟨_, pss_cons (ps_set (i := 2) nd rfl (.inl rfl) (pe_call DSp.ok (hr.mono (by decide)) (by rfl) DSp.mg DSp.kp DSp.bd .nil pass0 (pa_cons (pv 0) pa_nil))) <|
        pss_cons (ps_for PassesOwn.never rfl (pi_enum (by rfl) B.enum (pa_cons (pv 1) pa_nil)) (pg_tup rfl (pgs_cons (pg_name (i := 3) nd rfl (.inl rfl)) (pgs_cons (pg_tup rfl (pgs_cons (pg_name (i := 4) nd rfl (.inl rfl)) (pgs_cons (pg_name (i := 5) nd rfl (.inl rfl)) pgs_nil))) pgs_nil))) (pss_cons (ps_set (i := 6) nd rfl (.inl rfl) (pe_ix ix_list (pv 1) (pe_op op_mod (pe_op op_add (pv 3) pe_int) (pe_callB call_len_seq (by rfl) B.len PySem.boot_len (pa_cons (pv 1) pa_nil))) (fun _ _ => rfl))) <|
        pss_one (ps_if (pt_cmpR op_ne (pe_ix ix_list (pv 2) (pv 5) (fun _ _ => rfl)) (pe_ix ix_list (pv 2) (pe_ix ix_tup (pv 6) pe_int (fun _ _ => rfl)) (fun _ _ => rfl)) (nomark _)) (pss_one (ps_ret (pv 3))) pss_nil))) <|
        pss_one (ps_ret pe_non), ?_⟩
    have hev : ev.length = es.length := ea.1
    refine ⟨_, rfl, p, ng, nw, gs, ws, rfl, NA, hgl, fun l0 H1 s1 hl0 el0 => ?_⟩
    refine gn_norm (σ' := [some (.ref p), some (.ref l), some (.ref l0), none, none, none, none]) rfl ?_
    have spot : ∀ g, g < gs.length → ((List.range gs.length).map fun g => V.int (spotN gs g : Nat))[g]? = some (.int (spotN gs g : Nat)) := fun g hg => by
      rw [List.getElem?_map, List.getElem?_range hg]
      rfl
    refine ⟨_, rfl, l, ev, rfl, SqL.of (s1 _ _ hl), for_it (walk_enum (K := K) (a := l) (xs := ev)) (fun k σ Hc => ∃ u3 u4 u5 u6 : Option V, σ = [some (.ref p), some (.ref l), some (.ref l0), u3, u4, u5, u6] ∧ Same H1 Hc ∧ ∀ j, j < k → gapAt gs es j = false) ⟨_, _, _, _, rfl, Same.refl _, fun j hj => absurd hj (Nat.not_lt_zero _)⟩ (fun k σ Hc _ ⟨_, _, _, _, _, sm, _⟩ => SqL.of (sm _ _ (s1 _ _ hl))) ?_ ?_⟩
    · rintro k x σ Hc Hc' hk ⟨u3, u4, u5, u6, rfl, sm, h0⟩ ⟨T0, x1, y, rfl, hT, rfl, ex, ey⟩
      cases ex
      obtain ⟨e, he, a, rfl, sq⟩ := ea.get ey
      have hkl : k < es.length := (List.getElem?_eq_some_iff.mp he).1
      have smT : Same Hc (upd Hc T0 (.tup [.int (k : Nat), .ref a])) := same_new hT
      have eT : (upd Hc T0 (.tup [.int (k : Nat), .ref a])) T0 = some (.tup [.int (k : Nat), .ref a]) := upd_same
      generalize upd Hc T0 (.tup [.int (k : Nat), .ref a]) = Hd at smT eT
      have sd := (s1.trans sm).trans smT
      have s1d := sm.trans smT
      have hm : (k + 1) % es.length < es.length := Nat.mod_lt _ (by omega)
      obtain ⟨e2, he2⟩ : ∃ e2, es[(k + 1) % es.length]? = some e2 := ⟨_, List.getElem?_eq_getElem hm⟩
      obtain ⟨v2, hv2, a2, rfl, sq2⟩ := ea.getR he2
      have ok1 := hok e (List.mem_of_getElem? he)
      have ok2 := hok e2 (List.mem_of_getElem? he2)
      have tk := TK.same sd
      refine ⟨T0, _, rfl, .inl (.inl eT), rfl, _, _, rfl, _, _, rfl, a, _, rfl, tk.seq sq, rfl, _, _, rfl, _, _, rfl, rfl, rfl, ?_⟩
      refine ⟨_, rfl, _, rfl, _, _, rfl, rfl, _, rfl, l, _, rfl, .inl (SqL.of (sd _ _ hl)), _, _, rfl, rfl, (by show (0 : Int) < ((ev.length : Nat) : Int); omega), l, _, _, .ref a2, rfl, rfl, SqL.of (sd _ _ hl), (by show atI ev ((((k : Nat) : Int) + 1) % ((ev.length : Nat) : Int)) = _; rw [hev, show (((k : Nat) : Int) + 1) % ((es.length : Nat) : Int) = (((k + 1) % es.length : Nat) : Int) by rw [Int.natCast_emod]; rfl]; exact atI_nat hv2), ?_⟩
      refine gn_norm (σ' := [some (.ref p), some (.ref l), some (.ref l0), some (.int (k : Nat)), some (.int (e.1 : Nat)), some (.int (e.2 : Nat)), some (.ref a2)]) rfl ?_
      have eg : gapAt gs es k = !decide (spotN gs e.2 = spotN gs e2.1) := by
        unfold gapAt
        rw [List.getD_eq_getElem?_getD, List.getD_eq_getElem?_getD, he, he2]
        rfl
      refine ⟨_, rfl, _, rfl, l0, _, e.2, _, rfl, rfl, SqL.of (s1d _ _ el0), atI_nat (spot _ ok1.2), _, rfl, _, rfl, a2, _, 0, _, rfl, rfl, tk.seq sq2, atI_nat (j := 0) rfl, l0, _, e2.1, _, rfl, rfl, SqL.of (s1d _ _ el0), atI_nat (spot _ ok2.1), rfl, _, rfl, ite2 (fun z => ?_) (fun z => ?_)⟩
      · have ne : spotN gs e.2 ≠ spotN gs e2.1 := fun z2 => by
          rw [z2, decide_eq_true rfl] at z
          cases z
        refine ⟨_, rfl, ?_⟩
        have := q Hd sd
        rw [gap_some hkl (by rw [eg, decide_eq_false ne]; rfl) h0] at this
        exact this
      · have e3 : spotN gs e.2 = spotN gs e2.1 := Decidable.byContradiction fun z2 => z (by
          rw [decide_eq_false (fun z3 => z2 (by injection z3 with z4; exact Int.ofNat.inj z4))]
          rfl)
        refine ⟨_, _, _, _, rfl, s1d, fun j hj => ?_⟩
        rcases Nat.lt_succ_iff_lt_or_eq.mp hj with z4 | z4
        · exact h0 j z4
        · rw [z4, eg, decide_eq_true e3]
          rfl
    · rintro σ Hc ⟨u3, u4, u5, u6, rfl, sm, h0⟩
      have := q Hc (s1.trans sm)
      rw [gap_none (fun j hj => h0 j (by rw [hev]; exact hj))] at this
      exact this
end
end Lag

set_option maxRecDepth 100000
set_option maxHeartbeats 8000000
namespace Lag
open PySem PySem.Spec PyProof.Rows L2
abbrev sOneForm : Stmt := topS 23 -- @are_of_one_form
abbrev sChkForm : Stmt := topS 36 -- @check_form
abbrev sFault : Stmt := topS 37 -- @loop_fault
def spOneForm (K : PySem.W.Frag) (C : Addr) : Sp := fun vs H Q _ => ∃ (p ng nw p' ng' nw' : Addr) (gs : List Gt) (ws ws' : List Wr), vs = [.ref p, .ref p'] ∧ NetAt K C H p ng nw gs ws ∧ NetAt K C H p' ng' nw' gs ws' ∧ NetOk gs ws ∧ endsL ws = endsL ws' ∧ ∀ H', Same H H' → Q (.bl true) H'
/-! ### loops, as data -/
def turnsOf (n : Nat) : List PyData → Option (List Tn)
  | [] => some []
  | d :: ds => match turnOf n d, turnsOf n ds with
    | some t, some ts => some (t :: ts)
    | _, _ => none
def loopOf (n : Nat) : PyData → Option (List Tn)
  | .list [] => none
  | .list (d :: ds) => turnsOf n (d :: ds)
  | _ => none
def faultD (gs : List Gt) (ws wso : List Wr) (d : PyData) : PyData := match loopOf ws.length d with
  | none => .tuple [.str "form"]
  | some ts => match gapOf gs (ts.map (tEnds ws)) with
    | some k => .tuple [.str "meet", .int (k : Nat)]
    | none => if sumT ws ts = sumT wso ts then .tuple [.str "sum", .int (sumT ws ts)] else .none
theorem turnsOf_all (n : Nat) : ∀ ds : List PyData, (turnsOf n ds).isSome = (ds.map fun d => (turnOf n d).isSome).all id
  | [] => rfl
  | d :: ds => by
    have h := turnsOf_all n ds
    rw [List.map_cons, List.all_cons, ← h]
    show (match turnOf n d, turnsOf n ds with | some t, some ts => some (t :: ts) | _, _ => none).isSome = _
    cases turnOf n d with
    | none => rfl
    | some t =>
      cases turnsOf n ds with
      | none => rfl
      | some ts => rfl
theorem turnOf_tn {K : PySem.W.Frag} {Av : Addr → Prop} {H : Hp} {n : Nat} {v : V} {d : PyData} {t : Tn} (h : turnOf n d = some t) (hd : Dx K Av H v d) : TnV K H v t ∧ TnOk n t := by
  cases hd with
  | @tup a xs ds sq al =>
    have h2 : ds.length = 2 := Decidable.byContradiction fun z => by
      rw [turn_len z] at h
      cases h
    obtain ⟨dp, dw, rfl⟩ : ∃ x y, ds = [x, y] := by
      match ds, h2 with
      | [x, y], _ => exact ⟨x, y, rfl⟩
    cases al with
    | cons hp al =>
    cases al with
    | cons hw al =>
    cases al
    have ep : wholeD dp = true := by
      cases e : wholeD dp with
      | true => rfl
      | false =>
        rw [turn_p e] at h
        cases h
    have ew : wholeD dw = true := by
      cases e : wholeD dw with
      | true => rfl
      | false =>
        rw [turn_w e] at h
        cases h
    cases hp with
    | int p =>
      cases hw with
      | int k =>
        simp only [turnOf] at h
        by_cases c : 0 ≤ p ∧ p < n ∧ (k = 1 ∨ k = -1)
        · rw [if_pos c] at h
          cases h
          refine ⟨⟨a, rfl, ?_⟩, ?_, c.2.2⟩
          · show SqT K H a [.int ((p.toNat : Nat) : Int), .int k]
            rw [Int.toNat_of_nonneg c.1]
            exact sq
          · show p.toNat < n
            omega
        · rw [if_neg c] at h
          cases h
      | _ => cases ew
    | _ => cases ep
  | _ => rw [turn_none rfl] at h; cases h
theorem turnsOf_len {n : Nat} : ∀ {ds : List PyData} {ts : List Tn}, turnsOf n ds = some ts → ds.length = ts.length
  | [], ts, h => by cases h; rfl
  | d :: ds, ts, h => by
    unfold turnsOf at h
    cases e : turnOf n d with
    | none =>
      rw [e] at h
      cases h
    | some t =>
      rw [e] at h
      cases e2 : turnsOf n ds with
      | none =>
        rw [e2] at h
        cases h
      | some ts2 =>
        rw [e2] at h
        cases h
        rw [List.length_cons, List.length_cons, turnsOf_len e2]
theorem turnsOf_at {n : Nat} : ∀ {ds : List PyData} {ts : List Tn}, turnsOf n ds = some ts → ∀ (i : Nat) (d : PyData) (t : Tn), ds[i]? = some d → ts[i]? = some t → turnOf n d = some t
  | [], ts, h, i, d, t, hd, _ => by simp at hd
  | d0 :: ds, ts, h, i, d, t, hd, ht => by
    unfold turnsOf at h
    cases e : turnOf n d0 with
    | none =>
      rw [e] at h
      cases h
    | some t0 =>
      rw [e] at h
      cases e2 : turnsOf n ds with
      | none =>
        rw [e2] at h
        cases h
      | some ts2 =>
        rw [e2] at h
        cases h
        cases i with
        | zero =>
          cases hd
          cases ht
          exact e
        | succ i => exact turnsOf_at e2 i d t hd ht
theorem turnsOf_ok {n : Nat} {ds : List PyData} {ts : List Tn} (h : turnsOf n ds = some ts) : ∀ t ∈ ts, TnOk n t := fun t ht => by
  obtain ⟨i, hi⟩ := List.getElem?_of_mem ht
  have hl := turnsOf_len h
  obtain ⟨d, hd⟩ : ∃ d, ds[i]? = some d := ⟨_, List.getElem?_eq_getElem (by rw [hl]; exact (List.getElem?_eq_some_iff.mp hi).1)⟩
  have e := turnsOf_at h i d t hd hi
  have : ∀ {d : PyData}, turnOf n d = some t → TnOk n t := fun {d} e => by
    match d, e with
    | .tuple [.int p, .int k], e =>
      simp only [turnOf] at e
      by_cases c : 0 ≤ p ∧ p < n ∧ (k = 1 ∨ k = -1)
      · rw [if_pos c] at e
        cases e
        exact ⟨by show p.toNat < n; omega, c.2.2⟩
      · rw [if_neg c] at e
        cases e
  exact this e
theorem turnsOf_tn {K : PySem.W.Frag} {Av : Addr → Prop} {H : Hp} {n : Nat} {vs : List V} {ds : List PyData} {ts : List Tn} (h : turnsOf n ds = some ts) (a : All2 (Dx K Av H) vs ds) : All2 (TnV K H) vs ts := by
  have hl := turnsOf_len h
  refine ⟨by rw [a.1, hl], fun i v t hv ht => ?_⟩
  obtain ⟨d, hd⟩ : ∃ d, ds[i]? = some d := ⟨_, List.getElem?_eq_getElem (by rw [← a.1]; exact (List.getElem?_eq_some_iff.mp hv).1)⟩
  exact (turnOf_tn (turnsOf_at h i d t hd ht) (a.2 i v d hv hd)).1
def spChkForm (K : PySem.W.Frag) (C : Addr) : Sp := fun vs H Q _ => ∃ (p ng nw p' ng' nw' : Addr) (gs : List Gt) (ws ws' : List Wr), vs = [.ref p, .ref p'] ∧ NetAt K C H p ng nw gs ws ∧ NetAt K C H p' ng' nw' gs ws' ∧ NetOk gs ws ∧ endsL ws = endsL ws' ∧ ∀ H', Same H H' → Q .non H'
def spFault (K : PySem.W.Frag) (C : Addr) : Sp := fun vs H Q _ => ∃ (p ng nw p' ng' nw' : Addr) (v : V) (d : PyData) (gs : List Gt) (ws ws' : List Wr), vs = [.ref p, .ref p', v] ∧ NetAt K C H p ng nw gs ws ∧ NetAt K C H p' ng' nw' gs ws' ∧ NetOk gs ws ∧ NetOk gs ws' ∧ endsL ws = endsL ws' ∧ Dx K Any H v d ∧ (∀ ds, d = .list ds → ds.length ≤ 1000) ∧ ∀ v' H', Same H H' → Dp K H' v' (faultD gs ws ws' d) → Q v' H'
section
variable {P : Program} {w : World} {K : PySem.W.Frag} {mg : Str → Option Value} {base : Heap}
abbrev nOneForm : List Str := ["net", "other", "wire"]
abbrev tCut22 (K : PySem.W.Frag) : TE := tSl (rSlA K) (tVar 2) tNoPart (tPart (tC (.int 2)))
theorem scOneForm : FnScope nOneForm ["net", "other"] (defScope sOneForm) := ⟨rfl, rfl, rfl, by decide +kernel, rfl, by decide +kernel, by decide +kernel⟩
abbrev DOneForm (P : Program) (w : World) (K : PySem.W.Frag) (mg : Str → Option Value) (base : Heap) (C : Addr) := Df P w K mg base 1 "are_of_one_form" ["net", "other"] (spOneForm K C)
theorem ok_oneForm {f C : Addr} {fd : FuncData} (F : Fun K "are_of_one_form" "are_of_one_form" sOneForm f fd) (hm : mg "are_of_one_form" = some (.ref f)) (T : NT K mg C) : DOneForm P w K mg base C f fd := by
  refine ⟨?_, hm, F.kp, F.binds fun _ _ _ _ _ _ us hl => match us, hl with | [_, _], _ => rfl⟩
  refine F.ok scOneForm (fun vs H Q E h => ?_) (fun cdv A outer s H vs Q E hr h => ?_)
  · obtain ⟨p, ng, nw, p', ng', nw', gs, ws, ws', rfl, _⟩ := h
    rfl
  · obtain ⟨p, ng, nw, p', ng', nw', gs, ws, ws', rfl, NA, NB, N, he, q⟩ := h
    have nd := scOneForm.nd
    refine ⟨_, pss_one <| ps_ret <| pe_and (pe_cmpR (op_eqD hr.units) (pe_fld (pv 0) rfl) (pe_fld (pv 1) rfl) (nomark _)) <| pe_one <| pe_cmpR (op_eqD hr.units)
      (pe_lc (own := [("wire", 2)]) (g := gName 2) (tt := tYes) (te := tCut22 K) rfl nd (pi_list (pe_fld (pv 0) rfl)) (blkOk_by (N := nOneForm) (sc := defScope sOneForm) (own := [("wire", 2)]) (by decide +kernel)) (fun _ _ _ _ _ => pg_name (i := 2) nd rfl (.inl rfl)) (fun _ _ _ _ _ => pts_nil) (fun _ _ _ _ _ => pe_slice sl_tupA (pv 2) po_none (po_some pe_int)))
      (pe_lc (own := [("wire", 2)]) (g := gName 2) (tt := tYes) (te := tCut22 K) rfl nd (pi_list (pe_fld (pv 1) rfl)) (blkOk_by (N := nOneForm) (sc := defScope sOneForm) (own := [("wire", 2)]) (by decide +kernel)) (fun _ _ _ _ _ => pg_name (i := 2) nd rfl (.inl rfl)) (fun _ _ _ _ _ => pts_nil) (fun _ _ _ _ _ => pe_slice sl_tupA (pv 2) po_none (po_some pe_int))) (nomark _), ?_⟩
    obtain ⟨dx, ob⟩ := id NA.ob
    obtain ⟨dx', ob'⟩ := id NB.ob
    have hwl := N.wl
    have hwl' : ws'.length = ws.length := by
      have := congrArg List.length he
      unfold endsL at this
      rw [List.length_map, List.length_map] at this
      exact this.symm
    refine ⟨_, rfl, p, C, dx, _, _, rfl, ob, T.cl, T.nG, nf_gates _ _, _, rfl, p', C, dx', _, _, rfl, ob', T.cl, T.nG, nf_gates _ _, _, _, NA.g.rg.dp, NB.g.rg.dp, (sh_gates N.gok).ok (by decide), (sh_gates N.gok).ok (by decide), true, ?_, iteT ?_⟩
    · rw [gatesD_eq, decide_eq_true rfl]
    obtain ⟨wv, hwv, wa⟩ := id NA.w
    refine ⟨_, rfl, p, C, dx, _, _, rfl, ob, T.cl, T.nW, nf_wires _ _, nw, rfl, ⟨_, SqL.of hwv⟩, fun D hD => ?_⟩
    refine lc_list (K := K) (a := nw) (xs := wv) (fun i Hc => ∃ acc, Hc D = some (.lst acc) ∧ acc.length = i ∧ All2 (TupV K Hc) acc (endsT (ws.take i)) ∧ Same H Hc) ⟨[], upd_same, rfl, All2.nil, same_new hD⟩ (fun i Hc _ ⟨_, _, _, _, sm⟩ => SqL.of (sm _ _ hwv)) ?_ ?_
    · rintro i v Hc hv ⟨acc, hc, hal, aa, sm⟩
      obtain ⟨x, hx, a, b, rfl, sq1, sq2⟩ := wa.get hv
      have hi : i < ws.length := (List.getElem?_eq_some_iff.mp hx).1
      refine ⟨rfl, tyes ?_⟩
      refine ⟨_, rfl, _, rfl, slA ((TK.same sm).seq sq1) fun c H' s' sc => ?_⟩
      refine ⟨acc, s' _ _ hc, small1000 (by omega), acc ++ [.ref c], upd_same, by rw [List.length_append, hal]; rfl, ?_, same_mut (sm.trans s') hD⟩
      rw [endsT_take hx]
      have t' := TK.lst (o := .lst (acc ++ [.ref c])) (s' _ _ hc)
      exact (aa.imp fun _ _ z => (z.tk (TK.same s')).tk t').snoc ⟨c, rfl, t'.seq sc⟩
    rintro H1 ⟨acc1, hc1, _, aa1, s1⟩
    rw [wa.1, List.take_length] at aa1
    have K1 : TL K H1 D (endsT ws) := ⟨_, hc1, aa1⟩
    have NB1 := NB.same s1
    obtain ⟨dx1, ob1⟩ := id NB1.ob
    obtain ⟨wv1, hwv1, wa1⟩ := id NB1.w
    refine ⟨_, rfl, p', C, dx1, _, _, rfl, ob1, T.cl, T.nW, nf_wires _ _, nw', rfl, ⟨_, SqL.of hwv1⟩, fun D2 hD2 => ?_⟩
    refine lc_list (K := K) (a := nw') (xs := wv1) (fun i Hc => ∃ acc, Hc D2 = some (.lst acc) ∧ acc.length = i ∧ All2 (TupV K Hc) acc (endsT (ws'.take i)) ∧ Same H1 Hc) ⟨[], upd_same, rfl, All2.nil, same_new hD2⟩ (fun i Hc _ ⟨_, _, _, _, sm⟩ => SqL.of (sm _ _ hwv1)) ?_ ?_
    · rintro i v Hc hv ⟨acc, hc, hal, aa, sm⟩
      obtain ⟨x, hx, a, b, rfl, sq1, sq2⟩ := wa1.get hv
      have hi : i < ws'.length := (List.getElem?_eq_some_iff.mp hx).1
      refine ⟨rfl, tyes ?_⟩
      refine ⟨_, rfl, _, rfl, slA ((TK.same sm).seq sq1) fun c H' s' sc => ?_⟩
      refine ⟨acc, s' _ _ hc, small1000 (by omega), acc ++ [.ref c], upd_same, by rw [List.length_append, hal]; rfl, ?_, same_mut (sm.trans s') hD2⟩
      rw [endsT_take hx]
      have t' := TK.lst (o := .lst (acc ++ [.ref c])) (s' _ _ hc)
      exact (aa.imp fun _ _ z => (z.tk (TK.same s')).tk t').snoc ⟨c, rfl, t'.seq sc⟩
    rintro H2 ⟨acc2, hc2, _, aa2, s2⟩
    rw [wa1.1, List.take_length] at aa2
    have K2 : TL K H2 D2 (endsT ws') := ⟨_, hc2, aa2⟩
    refine ⟨_, _, (K1.same s2).dp, K2.dp, Sh.ok (sh_tups _) (by decide), Sh.ok (sh_tups _) (by decide), ?_⟩
    have et : endsT ws = endsT ws' := by
      unfold endsT
      rw [he]
    rw [tupsD_eq, decide_eq_true et]
    exact q H2 (s1.trans s2)
theorem scChkForm : FnScope ["net", "other"] ["net", "other"] (defScope sChkForm) := ⟨rfl, rfl, rfl, by decide +kernel, rfl, by decide +kernel, by decide +kernel⟩
abbrev DChkForm (P : Program) (w : World) (K : PySem.W.Frag) (mg : Str → Option Value) (base : Heap) (C : Addr) := Df P w K mg base 2 "check_form" ["net", "other"] (spChkForm K C)
theorem ok_chkForm {f fO C : Addr} {fd fdO : FuncData} (F : Fun K "check_form" "check_form" sChkForm f fd) (hm : mg "check_form" = some (.ref f)) (DOf : DOneForm P w K mg base C fO fdO) : DChkForm P w K mg base C f fd := by
  refine ⟨?_, hm, F.kp, F.binds fun _ _ _ _ _ _ us hl => match us, hl with | [_, _], _ => rfl⟩
  refine F.ok scChkForm (fun vs H Q E h => ?_) (fun cdv A outer s H vs Q E hr h => ?_)
  · obtain ⟨p, ng, nw, p', ng', nw', gs, ws, ws', rfl, _⟩ := h
    rfl
  · obtain ⟨p, ng, nw, p', ng', nw', gs, ws, ws', rfl, NA, NB, N, he, q⟩ := h
    have nd := scChkForm.nd
    refine ⟨_, pss_one (ps_if (pt_not (pt_val (pe_call DOf.ok (hr.mono (by decide)) (by rfl) DOf.mg DOf.kp DOf.bd .nil pass0 (pa_cons (pv 0) (pa_cons (pv 1) pa_nil))))) (pss_one ps_never) pss_nil), ?_⟩
    exact ⟨_, rfl, _, rfl, p, ng, nw, p', ng', nw', gs, ws, ws', rfl, NA, NB, N, he, fun H1 s1 => ⟨true, rfl, iteF (q H1 s1)⟩⟩
abbrev nFault : List Str := ["net", "other", "thing", "turn", "gap", "told"]
theorem scFault : FnScope nFault ["net", "other", "thing"] (defScope sFault) := ⟨rfl, rfl, rfl, by decide +kernel, rfl, by decide +kernel, by decide +kernel⟩
abbrev DFault (P : Program) (w : World) (K : PySem.W.Frag) (mg : Str → Option Value) (base : Heap) (C : Addr) := Df P w K mg base 4 "loop_fault" ["net", "other", "thing"] (spFault K C)
theorem ok_fault {f fC fT fG fE fS C : Addr} {fd fdC fdT fdG fdE fdS : FuncData} (F : Fun K "loop_fault" "loop_fault" sFault f fd) (hm : mg "loop_fault" = some (.ref f)) (B : Bt mg) (T : NT K mg C) (DCf : DChkForm P w K mg base C fC fdC) (DIT : DTurn P w K mg base fT fdT) (DFg : DGap P w K mg base C fG fdG) (DTe : DTurnE P w K mg base C fE fdE) (DLs : DLoopS P w K mg base C fS fdS) : DFault P w K mg base C f fd := by
  refine ⟨?_, hm, F.kp, F.binds fun _ _ _ _ _ _ us hl => match us, hl with | [_, _, _], _ => rfl⟩
  refine F.ok scFault (fun vs H Q E h => ?_) (fun cdv A outer s H vs Q E hr h => ?_)
  · obtain ⟨p, ng, nw, p', ng', nw', v, d, gs, ws, ws', rfl, _⟩ := h
    rfl
  · obtain ⟨p, ng, nw, p', ng', nw', v, d, gs, ws, ws', rfl, NA, NB, N, NO, he, hd, hdl, q⟩ := h
    have nd := scFault.nd
    refine ⟨_, pss_cons (ps_expr (pe_call DCf.ok (hr.mono (by decide)) (by rfl) DCf.mg DCf.kp DCf.bd .nil pass0 (pa_cons (pv 0) (pa_cons (pv 1) pa_nil)))) <|
        pss_cons (ps_if (PW.pt (pw_or (pt_not (pt_val (pe_callB call_isi (by rfl) B.isi (by decide +kernel) (pa_cons (pv 2) (pa_cons (pe_bltn (v := .ty "list") (by rfl) B.list (by decide +kernel) rfl) pa_nil))))) (pw_or1 (pt_cmpR op_eq (pe_callB call_len_seq (by rfl) B.len PySem.boot_len (pa_cons (pv 2) pa_nil)) pe_int (nomark _))))) (pss_one (ps_ret (pe_tup (pa_cons pe_str pa_nil)))) pss_nil) <|
        pss_cons (ps_if (pt_not (pt_val (pe_callB (cr_all rfl) (by rfl) B.all (by decide +kernel) (pa_cons (pe_lc (own := [("turn", 3)]) (g := (gName 3)) (tt := tYes) (te := (tCall (spTurn K) [] E0 (tCons (tVar 3) (tCons (tCB (Evl.rLenS K) (tCons (tFld K (tVar 0) "wires") tNil)) tNil)))) rfl nd (pi_list (pv 2)) (blkOk_by (N := nFault) (sc := defScope sFault) (own := [("turn", 3)]) (by decide +kernel)) (fun _ _ _ _ _ => (pg_name (i := 3) nd rfl (.inl rfl))) (fun _ _ _ _ _ => pts_nil) (fun _ _ _ _ _ => (pe_call DIT.ok (hr.mono (by decide)) (by rfl) DIT.mg DIT.kp DIT.bd .nil pass0 (pa_cons (pv 3) (pa_cons (pe_callB call_len_seq (by rfl) B.len PySem.boot_len (pa_cons (pe_fld (pv 0) rfl) pa_nil)) pa_nil))))) pa_nil)))) (pss_one (ps_ret (pe_tup (pa_cons pe_str pa_nil)))) pss_nil) <|
        pss_cons (ps_set (i := 4) nd rfl (.inl rfl) (pe_call DFg.ok (hr.mono (by decide)) (by rfl) DFg.mg DFg.kp DFg.bd .nil pass0 (pa_cons (pv 0) (pa_cons (pe_lc (own := [("turn", 3)]) (g := (gName 3)) (tt := tYes) (te := (tCall (spTurnE K C) [] E0 (tCons (tVar 0) (tCons (tVar 3) tNil)))) rfl nd (pi_list (pv 2)) (blkOk_by (N := nFault) (sc := defScope sFault) (own := [("turn", 3)]) (by decide +kernel)) (fun _ _ _ _ _ => (pg_name (i := 3) nd rfl (.inl rfl))) (fun _ _ _ _ _ => pts_nil) (fun _ _ _ _ _ => (pe_call DTe.ok (hr.mono (by decide)) (by rfl) DTe.mg DTe.kp DTe.bd .nil pass0 (pa_cons (pv 0) (pa_cons (pv 3) pa_nil))))) pa_nil)))) <|
        pss_cons (ps_if (pt_cmpR op_notN (pv 4) pe_non (nomark _)) (pss_one (ps_ret (pe_tup (pa_cons pe_str (pa_cons (pv 4) pa_nil))))) pss_nil) <|
        pss_cons (ps_set (i := 5) nd rfl (.inl rfl) (pe_call DLs.ok (hr.mono (by decide)) (by rfl) DLs.mg DLs.kp DLs.bd .nil pass0 (pa_cons (pv 0) (pa_cons (pv 2) pa_nil)))) <|
        pss_one (ps_ret (pe_ifExp (pt_cmpR op_eq (pv 5) (pe_call DLs.ok (hr.mono (by decide)) (by rfl) DLs.mg DLs.kp DLs.bd .nil pass0 (pa_cons (pv 1) (pa_cons (pv 2) pa_nil))) (nomark _)) (pe_tup (pa_cons pe_str (pa_cons (pv 5) pa_nil))) pe_non)), ?_⟩
    have hwl := N.wl
    have hwe : ws'.length = ws.length := by
      have := congrArg List.length he
      unfold endsL at this
      rw [List.length_map, List.length_map] at this
      exact this.symm
    refine ⟨_, rfl, _, rfl, p, ng, nw, p', ng', nw', gs, ws, ws', rfl, NA, NB, N, he, fun H1 s1 => ?_⟩
    have form : ∀ {H' : Hp}, Same H H' → loopOf ws.length d = none → ∀ t, H' t = none → Q (.ref t) (upd H' t (.tup [.str "form"])) := fun {H'} s e t ht => by
      refine q (.ref t) _ (s.trans (same_new ht)) ?_
      unfold faultD
      rw [e]
      exact .tup (.inl (.inl upd_same)) (.cons (.str _) .nil)
    have hd1 := hd.same s1
    obtain ⟨t, ty, _, _, _, k4⟩ := hd1.ty
    refine ⟨_, rfl, _, _, _, _, dL d, rfl, .ty "list", ty, kit_ty k4, dL d, rfl, ?_⟩
    cases eL : dL d with
    | false =>
      have e0 : loopOf ws.length d = none := by cases d <;> first | rfl | cases eL
      exact iteT ⟨(by show 1 ≤ sizeLine; decide), fun t ht => form s1 e0 t ht⟩
    | true =>
    refine iteF ?_
    cases hd1 with
    | @lst l xs ds sq av al =>
      have hl : xs.length = ds.length := al.all2.1
      have hdl := hdl ds rfl
      refine ⟨_, rfl, l, _, rfl, .inl (SqL.of sq), rfl, _, rfl, ite2 (fun e => ?_) (fun e => ?_)⟩
      · have e0 : ds = [] := List.length_eq_zero_iff.mp (by
          have := V.int.inj (of_decide_eq_true e)
          omega)
        subst e0
        exact ⟨(by show 1 ≤ sizeLine; decide), fun t ht => form s1 rfl t ht⟩
      have hne : ds ≠ [] := fun z => e (by
        rw [z] at hl
        rw [hl]
        rfl)
      have eLo : loopOf ws.length (.list ds) = turnsOf ws.length ds := by
        cases ds with
        | nil => exact absurd rfl hne
        | cons x r => rfl
      have NA1 := NA.same s1
      obtain ⟨dx, ob⟩ := id NA1.ob
      obtain ⟨wv, hwv, wa⟩ := id NA1.w
      have hwvl : wv.length = ws.length := wa.1
      refine ⟨_, rfl, l, rfl, ⟨_, SqL.of sq⟩, fun D hD => ?_⟩
      refine lc_list (K := K) (a := l) (xs := xs) (fun i Hc => Hc D = some (.lst (((ds.take i).map fun d => (turnOf ws.length d).isSome).map V.bl)) ∧ Same H1 Hc) ⟨upd_same, same_new hD⟩ (fun i Hc _ ⟨_, sm⟩ => SqL.of (sm _ _ sq)) ?_ ?_
      · rintro i v Hc hv ⟨hc, sm⟩
        obtain ⟨d, hdd, dxv⟩ := al.all2.get hv
        have hi : i < ds.length := (List.getElem?_eq_some_iff.mp hdd).1
        refine ⟨rfl, tyes ?_⟩
        refine ⟨_, rfl, _, rfl, p, C, dx, _, _, rfl, sm _ _ ob, T.cl, T.nW, nf_wires _ _, nw, _, rfl, .inl (SqL.of (sm _ _ hwv)), v, d, ws.length, (by show [v, V.int ((wv.length : Nat) : Int)] = _; rw [hwvl]), dxv.any.same sm, _, hc, ?_, ?_, same_mut sm hD⟩
        · rw [List.length_map, List.length_map, List.length_take]
          exact small1000 (by omega)
        · rw [upd_same, List.take_add_one, hdd, List.map_append, List.map_append]
          rfl
      rintro H2 ⟨hc2, s12⟩
      rw [hl, List.take_length] at hc2
      have s2 := s1.trans s12
      refine ⟨D, _, rfl, SqL.of hc2, _, rfl, ?_⟩
      rw [← turnsOf_all]
      cases eT : turnsOf ws.length ds with
      | none => exact iteT ⟨(by show 1 ≤ sizeLine; decide), fun t ht => form s2 (by rw [eLo, eT]) t ht⟩
      | some ts =>
      refine iteF ?_
      have htl := turnsOf_len eT
      have tok := turnsOf_ok eT
      have tv := turnsOf_tn eT al.all2
      have sq2 := s12 _ _ sq
      have NA2 := NA.same s2
      -- ends
      refine ⟨_, rfl, _, rfl, l, rfl, ⟨_, SqL.of sq2⟩, fun D2 hD2 => ?_⟩
      refine lc_list (K := K) (a := l) (xs := xs) (fun i Hc => ∃ acc, Hc D2 = some (.lst acc) ∧ acc.length = i ∧ All2 (EnV K Hc) acc ((ts.take i).map (tEnds ws)) ∧ Same H2 Hc) ⟨[], upd_same, rfl, All2.nil, same_new hD2⟩ (fun i Hc _ ⟨_, _, _, _, sm⟩ => SqL.of (sm _ _ sq2)) ?_ ?_
      · rintro i v Hc hv ⟨acc, hc, hal, aa, sm⟩
        obtain ⟨t, htt, tnv⟩ := tv.get hv
        have hi : i < ts.length := (List.getElem?_eq_some_iff.mp htt).1
        refine ⟨rfl, tyes ?_⟩
        refine ⟨_, rfl, _, rfl, p, ng, nw, v, gs, ws, t, rfl, NA2.same sm, (tnv.tk (TK.same s12)).tk (TK.same sm), tok t (List.mem_of_getElem? htt), fun v' H' s' ev => ?_⟩
        refine ⟨acc, s' _ _ hc, small1000 (by omega), acc ++ [v'], upd_same, by rw [List.length_append, hal]; rfl, ?_, same_mut (sm.trans s') hD2⟩
        have t' := TK.lst (o := .lst (acc ++ [v'])) (s' _ _ hc)
        rw [List.take_add_one, htt, List.map_append]
        exact (aa.imp fun _ _ z => (EnV.tk (TK.same s') z).tk t').snoc (EnV.tk t' ev)
      rintro H3 ⟨acc3, hc3, hal3, aa3, s23⟩
      rw [hl, htl, List.take_length] at aa3
      have s3 := s2.trans s23
      have hee : ∀ e ∈ ts.map (tEnds ws), e.1 < gs.length ∧ e.2 < gs.length := fun e he => by
        obtain ⟨t, ht, rfl⟩ := List.mem_map.mp he
        exact tEnds_lt N (tok t ht)
      refine ⟨p, ng, nw, D2, acc3, gs, ws, ts.map (tEnds ws), rfl, NA.same s3, by have := N.gl; omega, hc3, aa3, by rw [List.length_map]; omega, hee, fun H4 s34 => ?_⟩
      have s4 := s3.trans s34
      cases eg : gapOf gs (ts.map (tEnds ws)) with
      | some k =>
        refine gn_norm (σ' := [some (.ref p), some (.ref p'), some (.ref l), none, some (.int (k : Nat)), none]) rfl ?_
        refine ⟨_, rfl, rfl, _, rfl, iteT ⟨_, rfl, (by show 2 ≤ sizeLine; decide), fun t ht => ?_⟩⟩
        refine q (.ref t) _ (s4.trans (same_new ht)) ?_
        unfold faultD
        rw [eLo, eT]
        show Dp K _ _ (match gapOf gs (ts.map (tEnds ws)) with | some k => _ | none => _)
        rw [eg]
        exact .tup (.inl (.inl upd_same)) (.cons (.str _) (.cons (.int _) .nil))
      | none =>
        refine gn_norm (σ' := [some (.ref p), some (.ref p'), some (.ref l), none, some .non, none]) rfl ?_
        refine ⟨_, rfl, rfl, _, rfl, iteF ?_⟩
        have hrl : ∀ (us : List Wr), NetOk gs us → ∀ x ∈ us, x.2.2.length ≤ 1000 := fun us NU x hx => by have := (NU.wok x hx).rl; omega
        have TL4 : ∀ {H' : Hp}, Same H1 H' → TnL K H' l ts := fun {H'} s => ⟨xs, SqL.of (s _ _ sq), tv.imp fun _ _ z => z.tk (TK.same s)⟩
        refine ⟨_, rfl, _, rfl, p, ng, nw, l, gs, ws, ts, rfl, NA.same s4, TL4 ((s12.trans s23).trans s34), by omega, hrl ws N, tok, fun H5 s45 => ?_⟩
        have s5 := s4.trans s45
        refine gn_norm (σ' := [some (.ref p), some (.ref p'), some (.ref l), none, some .non, some (.int (sumT ws ts))]) rfl ?_
        refine ⟨_, rfl, _, rfl, _, rfl, p', ng', nw', l, gs, ws', ts, rfl, NB.same s5, TL4 (((s12.trans s23).trans s34).trans s45), by omega, hrl ws' NO, (by rw [hwe]; exact tok), fun H6 s56 => ?_⟩
        have s6 := s5.trans s56
        have fin : faultD gs ws ws' (.list ds) = if sumT ws ts = sumT ws' ts then .tuple [.str "sum", .int (sumT ws ts)] else .none := by
          unfold faultD
          rw [eLo, eT]
          show (match gapOf gs (ts.map (tEnds ws)) with | some k => _ | none => _) = _
          rw [eg]
        refine ⟨rfl, _, rfl, ite2 (fun e => ?_) (fun e => ?_)⟩
        · have es : sumT ws ts = sumT ws' ts := V.int.inj (of_decide_eq_true e)
          refine ⟨_, rfl, (by show 2 ≤ sizeLine; decide), fun t ht => ?_⟩
          refine q (.ref t) _ (s6.trans (same_new ht)) ?_
          rw [fin, if_pos es]
          exact .tup (.inl (.inl upd_same)) (.cons (.str _) (.cons (.int _) .nil))
        · have es : ¬ sumT ws ts = sumT ws' ts := fun z => e (decide_eq_true (by rw [z]))
          refine q .non _ s6 ?_
          rw [fin, if_neg es]
          exact .non
    | _ => cases eL
end
end Lag

set_option maxRecDepth 100000
set_option maxHeartbeats 8000000
namespace Lag
open PySem PySem.Spec PyProof.Rows L2
abbrev sHome : Stmt := topS 47 -- @_law_home
abbrev sEndsL : Stmt := topS 48 -- @_law_ends
abbrev sWholeL : Stmt := topS 50 -- @_law_whole
/-! ### xs[::-1] of a list -/
theorem rev_range : ∀ (xs : List Value), (List.range xs.length).filterMap (fun k => xs[xs.length - 1 - k]?) = xs.reverse := fun xs => by
  refine List.ext_getElem? fun i => ?_
  have h0 : ((List.range xs.length).filterMap fun k => xs[xs.length - 1 - k]?) = (List.range xs.length).map fun k => xs.getD (xs.length - 1 - k) .none := by
    have : ∀ l : List Nat, (∀ k ∈ l, k < xs.length) → (l.filterMap fun k => xs[xs.length - 1 - k]?) = l.map fun k => xs.getD (xs.length - 1 - k) .none := fun l hl => by
      induction l with
      | nil => rfl
      | cons k l ih =>
        have hk := hl k (by simp)
        rw [List.filterMap_cons, List.map_cons, ih fun j hj => hl j (List.mem_cons_of_mem _ hj), List.getElem?_eq_getElem (by omega), List.getD_eq_getElem?_getD, List.getElem?_eq_getElem (by omega)]
        rfl
    exact this _ fun k hk => List.mem_range.mp hk
  rw [h0, List.getElem?_map]
  by_cases hi : i < xs.length
  · rw [List.getElem?_eq_getElem (by simpa using hi), List.getElem_range, List.getElem?_reverse hi, List.getElem?_eq_getElem (by omega)]
    show some (xs.getD _ _) = _
    rw [List.getD_eq_getElem?_getD, List.getElem?_eq_getElem (by omega)]
    rfl
  · rw [List.getElem?_eq_none (by simpa using hi), List.getElem?_eq_none (by simpa using hi)]
    rfl
theorem slicePick_rev (its : List Value) : slicePick its.toArray none none (some (-1)) = its.reverse.toArray := by
  have hb : sliceBounds none none (some (-1)) its.toArray.size = ((its.length : Int) - 1, -1, -1) := by
    rw [List.size_toArray]
    rfl
  unfold slicePick
  rw [hb]
  have hr : PySem.sliceRange ((its.length : Int) - 1) (-1) (-1) = (List.range its.length).map fun k => its.length - 1 - k := by
    unfold PySem.sliceRange
    have hc : (if (-1 : Int) > 0 then (if (its.length : Int) - 1 < -1 then (-1 - ((its.length : Int) - 1) + -1 - 1) / -1 else 0) else (if (its.length : Int) - 1 > -1 then ((its.length : Int) - 1 - -1 - -1 - 1) / -(-1) else 0)).toNat = its.length := by
      rw [if_neg (by decide)]
      split
      · have : ((its.length : Int) - 1 - -1 - -1 - 1) / -(-1) = its.length := by
          rw [show (-(-1) : Int) = 1 from rfl, Int.ediv_one]
          omega
        rw [this, Int.toNat_natCast]
      · omega
    show (List.range (if (-1 : Int) > 0 then (if (its.length : Int) - 1 < -1 then (-1 - ((its.length : Int) - 1) + -1 - 1) / -1 else 0) else (if (its.length : Int) - 1 > -1 then ((its.length : Int) - 1 - -1 - -1 - 1) / -(-1) else 0)).toNat).map _ = _
    rw [hc]
    refine List.map_congr_left fun k hk => ?_
    have := List.mem_range.mp hk
    omega
  show ((PySem.sliceRange ((its.length : Int) - 1) (-1) (-1)).filterMap (its.toArray[·]?)).toArray = _
  rw [hr, List.filterMap_map]
  congr 1
  refine Eq.trans ?_ (rev_range its)
  congr 1
  funext k
  show its.toArray[its.length - 1 - k]? = its[its.length - 1 - k]?
  simp
section
variable {X : Cx} {e : Expr} {te ts : TE} {p1 p2 p3 pos : Pos}
/-- xs[::-1] -/
def tRevL (K : PySem.W.Frag) (te ts : TE) : TE := fun σ H Q => te σ H fun x H1 => ts σ H1 fun y H2 => ∃ (a : Addr) (xs : List V), x = .ref a ∧ y = .int (-1) ∧ SqL K H2 a xs ∧ ∀ b, H2 b = none → Q (.ref b) (upd H2 b (.lst xs.reverse))
theorem pe_revL {st : Expr} (he : PE X e te) (hs : PE X st ts) : PE X (.Subscript e (.Slice none none (some st) p2) pos) (tRevL X.K te ts) := by
  refine ⟨fun pins s σ H Q I h => ?_⟩
  refine Subscript_ (thn (he.run pins s σ H _ I h) fun v s1 ⟨x, H1, I1, r1, q1⟩ => ?_)
  refine wpAny_Slice (thn (po_none.run pins s1 σ H1 (fun o H3 => o = none ∧ H3 = H1) I1 ⟨rfl, rfl⟩) fun vl s2 ⟨u, H2, I2, pl, eu, e2⟩ => ?_)
  subst eu e2
  refine thn (po_none.run pins s2 σ H2 (fun o H3 => o = none ∧ H3 = H2) I2 ⟨rfl, rfl⟩) fun vu s3 ⟨u, H3, I3, pu, eu, e3⟩ => ?_
  subst eu e3
  refine thn (hs.run pins s3 σ H3 _ I3 q1) fun vs s4 ⟨z, H4, I4, r4, q4⟩ => ?_
  obtain ⟨a, xs, rfl, rfl, hx, q⟩ := q4
  have e1 : v = Value.ref a := r1
  obtain ⟨t4, e4⟩ : ∃ t, vs = Value.int (-1) t := r4
  subst e1 e4
  cases pl
  cases pu
  have I5 : Inv X pins σ H4 { s4 with heap := s4.heap.push { cls := .type "slice", data := .fields #[.none, .none, .int (-1) t4] } } := I4.kept (t' := s4.toks) fun b ob q => Heap.get?_push_of_some _ q
  obtain ⟨its, r, ht, hz⟩ := I5.list hx
  have hlen := r.length
  show wpAny (model X.prog X.w) X.A (subscriptTail e (.Slice none none (some st) p2) (.ref a) (.ref s4.heap.objs.size)) (EP X pins σ Q) X.xe { s4 with heap := s4.heap.push { cls := .type "slice", data := .fields #[.none, .none, .int (-1) t4] } }
  refine tail_any (ops := [.ref a, .ref s4.heap.objs.size]) ht.isList.typeIs slot_list_getitem.lookup ?_ (by with_unfolding_all rfl)
  refine wpAny_getItem_list_slice ht.isList (Heap.IsSliceOf.new ..) .none .none (.int _ _) (by decide) ?_ (by rw [List.size_toArray]; omega)
  rw [slicePick_rev]
  have rr : Vals xs.reverse its.reverse := r.reverse
  refine ⟨.ref _, _, I5.laid (t' := s4.toks) (o := .lst xs.reverse) (fun b ob q => Heap.get?_push_of_some _ q) (Nat.le_refl _) ?_, rfl, q _ (I5.hok.fresh (Nat.le_refl _))⟩
  exact ⟨by rw [List.length_reverse]; omega, _, 0, rr, Heap.get?_push_size _ rfl⟩
end
section
variable {X : Cx} {e : Expr} {te ts : TE} {p1 p2 p3 pos : Pos}
theorem slicePick_one (its : Array Value) : slicePick its none none (some 1) = its := slicePick_all its
/-- xs[::w], w 1 or -1 -/
def tStepL (K : PySem.W.Frag) (te ts : TE) : TE := fun σ H Q => te σ H fun x H1 => ts σ H1 fun y H2 => ∃ (a : Addr) (xs : List V) (w : Int), x = .ref a ∧ y = .int w ∧ (w = 1 ∨ w = -1) ∧ SqL K H2 a xs ∧ ∀ b, H2 b = none → Q (.ref b) (upd H2 b (.lst (if 0 < w then xs else xs.reverse)))
theorem pe_stepL {st : Expr} (he : PE X e te) (hs : PE X st ts) : PE X (.Subscript e (.Slice none none (some st) p2) pos) (tStepL X.K te ts) := by
  refine ⟨fun pins s σ H Q I h => ?_⟩
  refine Subscript_ (thn (he.run pins s σ H _ I h) fun v s1 ⟨x, H1, I1, r1, q1⟩ => ?_)
  refine wpAny_Slice (thn (po_none.run pins s1 σ H1 (fun o H3 => o = none ∧ H3 = H1) I1 ⟨rfl, rfl⟩) fun vl s2 ⟨u, H2, I2, pl, eu, e2⟩ => ?_)
  subst eu e2
  refine thn (po_none.run pins s2 σ H2 (fun o H3 => o = none ∧ H3 = H2) I2 ⟨rfl, rfl⟩) fun vu s3 ⟨u, H3, I3, pu, eu, e3⟩ => ?_
  subst eu e3
  refine thn (hs.run pins s3 σ H3 _ I3 q1) fun vs s4 ⟨z, H4, I4, r4, q4⟩ => ?_
  obtain ⟨a, xs, w, rfl, rfl, hw, hx, q⟩ := q4
  have e1 : v = Value.ref a := r1
  obtain ⟨t4, e4⟩ : ∃ t, vs = Value.int w t := r4
  subst e1 e4
  cases pl
  cases pu
  have I5 : Inv X pins σ H4 { s4 with heap := s4.heap.push { cls := .type "slice", data := .fields #[.none, .none, .int w t4] } } := I4.kept (t' := s4.toks) fun b ob q => Heap.get?_push_of_some _ q
  obtain ⟨its, r, ht, hz⟩ := I5.list hx
  have hlen := r.length
  show wpAny (model X.prog X.w) X.A (subscriptTail e (.Slice none none (some st) p2) (.ref a) (.ref s4.heap.objs.size)) (EP X pins σ Q) X.xe { s4 with heap := s4.heap.push { cls := .type "slice", data := .fields #[.none, .none, .int w t4] } }
  refine tail_any (ops := [.ref a, .ref s4.heap.objs.size]) ht.isList.typeIs slot_list_getitem.lookup ?_ (by with_unfolding_all rfl)
  refine wpAny_getItem_list_slice ht.isList (Heap.IsSliceOf.new ..) .none .none (.int _ _) (by rcases hw with z | z <;> rw [z] <;> decide) ?_ (by rw [List.size_toArray]; omega)
  rcases hw with z | z
  · subst z
    rw [slicePick_one]
    exact ⟨.ref _, _, I5.laid (t' := s4.toks) (o := .lst xs) (fun b ob q => Heap.get?_push_of_some _ q) (Nat.le_refl _) ⟨by omega, _, 0, r, Heap.get?_push_size _ rfl⟩, rfl, q _ (I5.hok.fresh (Nat.le_refl _))⟩
  · subst z
    rw [slicePick_rev]
    have rr : Vals xs.reverse its.reverse := r.reverse
    exact ⟨.ref _, _, I5.laid (t' := s4.toks) (o := .lst xs.reverse) (fun b ob q => Heap.get?_push_of_some _ q) (Nat.le_refl _) ⟨by rw [List.length_reverse]; omega, _, 0, rr, Heap.get?_push_size _ rfl⟩, rfl, q _ (I5.hok.fresh (Nat.le_refl _))⟩
end
def spHome (K : PySem.W.Frag) : Sp := fun vs H Q _ => ∃ (lg : Addr) (gs : List Gt) (g : Nat), vs = [.ref lg, .int (g : Nat)] ∧ LG K H lg gs ∧ g < gs.length ∧ ∀ H', Same H H' → Q (.int (homeI gs g)) H'
def spEndsL (K : PySem.W.Frag) : Sp := fun vs H Q _ => ∃ (lg lw : Addr) (v : V) (gs : List Gt) (ws : List Wr) (t : Tn), vs = [.ref lg, .ref lw, v] ∧ LG K H lg gs ∧ LW K H lw ws ∧ TnV K H v t ∧ TnOk ws.length t ∧ NetOk gs ws ∧ ∀ l H', Same H H' → H' l = some (.lst [.int (homeI gs (tEnds ws t).1), .int (homeI gs (tEnds ws t).2)]) → Q (.ref l) H'
section
variable {P : Program} {w : World} {K : PySem.W.Frag} {mg : Str → Option Value} {base : Heap}
abbrev nHome : List Str := ["_law_gates_here", "_law_gate"]
theorem scHome : FnScope nHome ["_law_gates_here", "_law_gate"] (defScope sHome) := ⟨rfl, rfl, rfl, by decide +kernel, rfl, by decide +kernel, by decide +kernel⟩
abbrev DHome (P : Program) (w : World) (K : PySem.W.Frag) (mg : Str → Option Value) (base : Heap) := Df P w K mg base 1 "_law_home" ["_law_gates_here", "_law_gate"] (spHome K)
theorem ok_home {f : Addr} {fd : FuncData} (F : Fun K "_law_home" "_law_home" sHome f fd) (hm : mg "_law_home" = some (.ref f)) (B : Bt mg) : DHome P w K mg base f fd := by
  refine ⟨?_, hm, F.kp, F.binds fun _ _ _ _ _ _ us hl => match us, hl with | [_, _], _ => rfl⟩
  refine F.ok scHome (fun vs H Q E h => ?_) (fun cdv A outer s H vs Q E hr h => ?_)
  · obtain ⟨lg, gs, g, rfl, _⟩ := h
    rfl
  · obtain ⟨lg, gs, g, rfl, ⟨gv, hgv, ga⟩, hg, q⟩ := h
    have nd := scHome.nd
    refine ⟨_, pss_one (ps_ret (pe_ix ix_list (pe_lst (pa_cons (pv 1) (pa_cons (pe_op op_sub pe_int pe_int) pa_nil))) (pe_callTy call_int1 (by rfl) B.int (by decide +kernel) (pa_cons (pe_cmpR op_in_seq (pe_ix ix_tup (pe_ix ix_list (pv 0) (pv 1) (fun _ _ => rfl)) pe_int (fun _ _ => rfl)) (pe_lst (pa_cons pe_str (pa_cons pe_str pa_nil))) (by rfl)) pa_nil)) (fun _ _ => rfl))), ?_⟩
    obtain ⟨gt, hgt⟩ : ∃ gt, gs[g]? = some gt := ⟨_, List.getElem?_eq_getElem hg⟩
    obtain ⟨v, hv, a, rfl, sq⟩ := ga.getR hgt
    refine ⟨_, rfl, _, _, rfl, rfl, (by show 2 ≤ sizeLine; decide), fun l1 hl1 => ?_⟩
    have s1 : Same H (upd H l1 (.lst [.int (g : Nat), .int (0 - 1)])) := same_new hl1
    have e1 : (upd H l1 (.lst [.int (g : Nat), .int (0 - 1)])) l1 = some (.lst [.int (g : Nat), .int (0 - 1)]) := upd_same
    generalize upd H l1 (.lst [.int (g : Nat), .int (0 - 1)]) = H1 at s1 e1
    refine ⟨_, rfl, _, rfl, lg, gv, g, .ref a, rfl, rfl, SqL.of (s1 _ _ hgv), atI_nat hv, a, _, 0, .str gt.1, rfl, rfl, (TK.same s1).seq sq, atI_nat (j := 0) rfl, (by show 2 ≤ sizeLine; decide), fun l2 hl2 => ?_⟩
    have s2 := s1.trans (same_new (o := .lst [.str "in", .str "out"]) hl2)
    have e2 : (upd H1 l2 (.lst [.str "in", .str "out"])) l2 = some (.lst [.str "in", .str "out"]) := upd_same
    have e1' := same_new (o := .lst [.str "in", .str "out"]) hl2 _ _ e1
    generalize upd H1 l2 (.lst [.str "in", .str "out"]) = H2 at s2 e2 e1'
    have hin : inV (.str gt.1) [.str "in", .str "out"] = isPort gs g := by
      rw [Bool.eq_iff_iff, port_in, isPort_iff, kindAt_get hgt]
    refine ⟨l2, _, rfl, .inl (SqL.of e2), rfl, rfl, ?_⟩
    refine .inr ⟨_, rfl, ?_⟩
    show rIxL K (.ref l1) (.int (if (inV (.str gt.1) [.str "in", .str "out"]) = true then 1 else 0)) H2 _
    rw [hin]
    have qq := q H2 s2
    unfold homeI at qq
    cases hb : isPort gs g with
    | true =>
      rw [if_pos hb] at qq
      exact ⟨l1, _, 1, _, rfl, rfl, SqL.of e1', atI_nat (j := 1) rfl, qq⟩
    | false =>
      rw [if_neg (by rw [hb]; decide)] at qq
      exact ⟨l1, _, 0, _, rfl, rfl, SqL.of e1', atI_nat (j := 0) rfl, qq⟩
abbrev nEndsL : List Str := ["_law_gates_here", "_law_wires_here", "_law_turn", "_law_place", "_law_way"]
theorem scEndsL : FnScope nEndsL ["_law_gates_here", "_law_wires_here", "_law_turn"] (defScope sEndsL) := ⟨rfl, rfl, rfl, by decide +kernel, rfl, by decide +kernel, by decide +kernel⟩
abbrev DEndsL (P : Program) (w : World) (K : PySem.W.Frag) (mg : Str → Option Value) (base : Heap) := Df P w K mg base 2 "_law_ends" ["_law_gates_here", "_law_wires_here", "_law_turn"] (spEndsL K)
theorem ok_endsL {f fH : Addr} {fd fdH : FuncData} (F : Fun K "_law_ends" "_law_ends" sEndsL f fd) (hm : mg "_law_ends" = some (.ref f)) (DHo : DHome P w K mg base fH fdH) : DEndsL P w K mg base f fd := by
  refine ⟨?_, hm, F.kp, F.binds fun _ _ _ _ _ _ us hl => match us, hl with | [_, _, _], _ => rfl⟩
  refine F.ok scEndsL (fun vs H Q E h => ?_) (fun cdv A outer s H vs Q E hr h => ?_)
  · obtain ⟨lg, lw, v, gs, ws, t, rfl, _⟩ := h
    rfl
  · obtain ⟨lg, lw, v, gs, ws, t, rfl, LG0, LW0, ⟨a, rfl, sq⟩, hok, N, q⟩ := h
    have nd := scEndsL.nd
    refine ⟨_, pss_cons (ps_asg (pv 2) (pg_tup rfl (pgs_cons (pg_name (i := 3) nd rfl (.inl rfl)) (pgs_cons (pg_name (i := 4) nd rfl (.inl rfl)) pgs_nil)))) <|
        pss_one (ps_ret (pe_stepL (pe_lst (pa_cons (pe_call DHo.ok (hr.mono (by decide)) (by rfl) DHo.mg DHo.kp DHo.bd .nil pass0 (pa_cons (pv 0) (pa_cons (pe_ix ix_tup (pe_ix ix_list (pv 1) (pv 3) (fun _ _ => rfl)) pe_int (fun _ _ => rfl)) pa_nil))) (pa_cons (pe_call DHo.ok (hr.mono (by decide)) (by rfl) DHo.mg DHo.kp DHo.bd .nil pass0 (pa_cons (pv 0) (pa_cons (pe_ix ix_tup (pe_ix ix_list (pv 1) (pv 3) (fun _ _ => rfl)) pe_int (fun _ _ => rfl)) pa_nil))) pa_nil))) (pv 4))), ?_⟩
    obtain ⟨wv, hwv, wa⟩ := id LW0
    obtain ⟨v, hv, b, c, rfl, sb, sc⟩ := wa.getR (wAt_get hok.1)
    have W := N.wok _ (wAt_mem hok.1)
    refine ⟨_, rfl, a, _, rfl, sq, rfl, _, _, rfl, _, _, rfl, rfl, ?_⟩
    refine ⟨_, rfl, _, rfl, _, rfl, lw, wv, t.1, .ref b, rfl, rfl, SqL.of hwv, atI_nat hv, b, _, 0, _, rfl, rfl, sb, atI_nat (j := 0) rfl, lg, gs, (wAt ws t.1).1, rfl, LG0, W.s, fun H1 s1 => ?_⟩
    refine ⟨_, rfl, _, rfl, _, rfl, lw, wv, t.1, .ref b, rfl, rfl, SqL.of (s1 _ _ hwv), atI_nat hv, b, _, 1, _, rfl, rfl, (TK.same s1).seq sb, atI_nat (j := 1) rfl, lg, gs, (wAt ws t.1).2.1, rfl, LG0.same s1, W.e, fun H2 s2 => ?_⟩
    refine ⟨(by show 2 ≤ sizeLine; decide), fun l1 hl1 => ?_⟩
    have s12 := s1.trans s2
    have s3 := s12.trans (same_new (o := .lst [.int (homeI gs (wAt ws t.1).1), .int (homeI gs (wAt ws t.1).2.1)]) hl1)
    have e3 : (upd H2 l1 (.lst [.int (homeI gs (wAt ws t.1).1), .int (homeI gs (wAt ws t.1).2.1)])) l1 = some (.lst [.int (homeI gs (wAt ws t.1).1), .int (homeI gs (wAt ws t.1).2.1)]) := upd_same
    generalize upd H2 l1 (.lst [.int (homeI gs (wAt ws t.1).1), .int (homeI gs (wAt ws t.1).2.1)]) = H3 at s3 e3
    refine ⟨_, rfl, l1, _, t.2, rfl, rfl, hok.2, SqL.of e3, fun l2 hl2 => q l2 _ (s3.trans (same_new hl2)) ?_⟩
    rw [upd_same]
    unfold tEnds
    by_cases z : 0 < t.2
    · rw [if_pos z, if_pos z]
    · rw [if_neg z, if_neg z]
      rfl
theorem scWholeL : FnScope ["_law_thing"] ["_law_thing"] (defScope sWholeL) := ⟨rfl, rfl, rfl, by decide +kernel, rfl, by decide +kernel, by decide +kernel⟩
abbrev DWholeL (P : Program) (w : World) (K : PySem.W.Frag) (mg : Str → Option Value) (base : Heap) := Df P w K mg base 1 "_law_whole" ["_law_thing"] (spWholeD K)
theorem ok_wholeL {f : Addr} {fd : FuncData} (F : Fun K "_law_whole" "_law_whole" sWholeL f fd) (hm : mg "_law_whole" = some (.ref f)) (B : Bt mg) : DWholeL P w K mg base f fd := by
  refine ⟨?_, hm, F.kp, F.binds fun _ _ _ _ _ _ us hl => match us, hl with | [_], _ => rfl⟩
  refine F.ok scWholeL (fun vs H Q E h => ?_) (fun cdv A outer s H vs Q E hr h => ?_)
  · obtain ⟨v, d, rfl, _⟩ := h
    rfl
  · obtain ⟨v, d, rfl, hd, q⟩ := h
    refine ⟨_, pss_one (ps_ret (pe_and (pe_callB call_isi (by rfl) B.isi (by decide +kernel) (pa_cons (pv 0) (pa_cons (pe_bltn (v := .ty "int") (by rfl) B.int (by decide +kernel) rfl) pa_nil))) (pe_one (pe_not (pe_callB call_isi (by rfl) B.isi (by decide +kernel) (pa_cons (pv 0) (pa_cons (pe_bltn (v := .ty "bool") (by rfl) B.bool (by decide +kernel) rfl) pa_nil))))))), ?_⟩
    obtain ⟨t, ty, k1, k2, _⟩ := hd.ty
    rw [whole_is] at q
    refine ⟨_, rfl, _, _, _, _, dI d, rfl, .ty "int", ty, kit_ty k1, dI d, rfl, ite2 (fun e1 => ?_) (fun e1 => ?_)⟩
    · rw [e1] at q
      exact ⟨_, rfl, _, _, _, _, dB d, rfl, .ty "bool", ty, kit_ty k2, dB d, rfl, q⟩
    · have e2 : dI d = false := by simpa using e1
      rw [e2] at q
      exact q
end
end Lag

set_option maxRecDepth 100000
set_option maxHeartbeats 8000000
namespace Lag
open PySem PySem.Spec PyProof.Rows L2
abbrev sDue : Stmt := topS 51 -- @_law_due
mutual
theorem Dp.move {K : PySem.W.Frag} {H H' : Hp} (s : Same H H') : ∀ (d : PyData) {v : V}, Dp K H v d → Dp K H' v d
  | .none, _, h => by cases h; exact .non
  | .bool _, _, h => by cases h; exact .bl _
  | .int _, _, h => by cases h; exact .int _
  | .str _, _, h => by cases h; exact .str _
  | .list ds, _, h => by
    cases h with
    | lst q a => exact .lst (s.seq q) (DpAll.move s ds a)
  | .tuple ds, _, h => by
    cases h with
    | tup q a => exact .tup ((TK.same s).seq q) (DpAll.move s ds a)
  | .dict _, _, h => by cases h
theorem DpAll.move {K : PySem.W.Frag} {H H' : Hp} (s : Same H H') : ∀ (ds : List PyData) {vs : List V}, DpAll K H vs ds → DpAll K H' vs ds
  | [], _, h => by cases h; exact .nil
  | d :: ds, _, h => by
    cases h with
    | cons a b => exact .cons (Dp.move s d a) (DpAll.move s ds b)
end
theorem dp_same {K : PySem.W.Frag} {H H' : Hp} {d : PyData} {v : V} (h : Dp K H v d) (s : Same H H') : Dp K H' v d := Dp.move s d h
theorem turns_none {n : Nat} : ∀ {ds : List PyData} {i : Nat} {d : PyData}, ds[i]? = some d → turnOf n d = none → turnsOf n ds = none
  | [], i, d, h, _ => by simp at h
  | d0 :: ds, i, d, h, e => by
    show (match turnOf n d0, turnsOf n ds with | some t, some ts => some (t :: ts) | _, _ => none) = none
    cases i with
    | zero =>
      cases h
      rw [e]
    | succ i =>
      rw [turns_none (ds := ds) (i := i) h e]
      cases turnOf n d0 <;> rfl
theorem turns_some {n : Nat} : ∀ {ds : List PyData}, (∀ (i : Nat) (d : PyData), ds[i]? = some d → (turnOf n d).isSome = true) → ∃ ts, turnsOf n ds = some ts
  | [], _ => ⟨[], rfl⟩
  | d0 :: ds, h => by
    obtain ⟨ts, e⟩ := turns_some (ds := ds) fun i d hd => h (i + 1) d hd
    have h0 := h 0 d0 rfl
    cases e0 : turnOf n d0 with
    | none =>
      rw [e0] at h0
      cases h0
    | some t =>
      refine ⟨t :: ts, ?_⟩
      show (match turnOf n d0, turnsOf n ds with | some t, some ts => some (t :: ts) | _, _ => none) = _
      rw [e0, e]
def spDue (K : PySem.W.Frag) : Sp := fun vs H Q _ => ∃ (lg lw lo : Addr) (v : V) (d : PyData) (gs : List Gt) (ws wso : List Wr), vs = [.ref lg, .ref lw, .ref lo, v] ∧ LG K H lg gs ∧ LW K H lw ws ∧ LW K H lo wso ∧ NetOk gs ws ∧ NetOk gs wso ∧ endsL ws = endsL wso ∧ Dx K Any H v d ∧ (∀ ds, d = .list ds → ds.length ≤ 400 ∧ Dp K H v d ∧ SeqAt.shaped d = true) ∧ ∀ v' H', Same H H' → Dp K H' v' (faultD gs ws wso d) → Q v' H'
section
variable {P : Program} {w : World} {K : PySem.W.Frag} {mg : Str → Option Value} {base : Heap}
abbrev nDue : List Str := ["_law_gates_here", "_law_wires_here", "_law_others", "_law_thing", "_law_turn", "_law_k", "_law_rows", "_law_place", "_law_way", "_law_sums"]
theorem scDue : FnScope nDue ["_law_gates_here", "_law_wires_here", "_law_others", "_law_thing"] (defScope sDue) := ⟨rfl, rfl, rfl, by decide +kernel, rfl, by decide +kernel, by decide +kernel⟩
abbrev DDue (P : Program) (w : World) (K : PySem.W.Frag) (mg : Str → Option Value) (base : Heap) := Df P w K mg base 4 "_law_due" ["_law_gates_here", "_law_wires_here", "_law_others", "_law_thing"] (spDue K)
theorem ok_due {f fW fE : Addr} {fd fdW fdE : FuncData} (F : Fun K "_law_due" "_law_due" sDue f fd) (hm : mg "_law_due" = some (.ref f)) (B : Bt mg) (ma : mg "abs" = none) (ms : mg "sum" = none) (DWh : DWholeL P w K mg base fW fdW) (DEn : DEndsL P w K mg base fE fdE) : DDue P w K mg base f fd := by
  refine ⟨?_, hm, F.kp, F.binds fun _ _ _ _ _ _ us hl => match us, hl with | [_, _, _, _], _ => rfl⟩
  refine F.ok scDue (fun vs H Q E h => ?_) (fun cdv A outer s H vs Q E hr h => ?_)
  · obtain ⟨lg, lw, lo, v, d, gs, ws, wso, rfl, _⟩ := h
    rfl
  · obtain ⟨lg, lw, lo, v, d, gs, ws, wso, rfl, LG0, LW0, LO0, N, NO, he, hd, hdl, q⟩ := h
    have nd := scDue.nd
    refine ⟨_, pss_cons (ps_if (PW.pt (pw_or (pt_not (pt_val (pe_callB call_isi (by rfl) B.isi (by decide +kernel) (pa_cons (pv 3) (pa_cons (pe_bltn (v := .ty "list") (by rfl) B.list (by decide +kernel) rfl) pa_nil))))) (pw_or1 (pt_cmpR (op_eqD hr.units) (pv 3) (pe_lst pa_nil) (nomark _))))) (pss_one (ps_ret (pe_tup (pa_cons pe_str pa_nil)))) pss_nil) <|
        pss_cons (ps_for PassesOwn.never rfl (pi_list (pv 3)) (pg_name (i := 4) nd rfl (.inl rfl)) (pss_cons (ps_if (PW.pt (pw_or (pt_not (pt_val (pe_callB call_isi (by rfl) B.isi (by decide +kernel) (pa_cons (pv 4) (pa_cons (pe_bltn (v := .ty "tuple") (by rfl) B.tuple (by decide +kernel) rfl) pa_nil))))) (pw_or (pt_cmpR op_ne (pe_callB call_len_seq (by rfl) B.len PySem.boot_len (pa_cons (pv 4) pa_nil)) pe_int (nomark _)) (pw_or (pt_not (pt_val (pe_call DWh.ok (hr.mono (by decide)) (by rfl) DWh.mg DWh.kp DWh.bd .nil pass0 (pa_cons (pe_ix ix_tup (pv 4) pe_int (fun _ _ => rfl)) pa_nil)))) (pw_or1 (pt_not (pt_val (pe_call DWh.ok (hr.mono (by decide)) (by rfl) DWh.mg DWh.kp DWh.bd .nil pass0 (pa_cons (pe_ix ix_tup (pv 4) pe_int (fun _ _ => rfl)) pa_nil))))))))) (pss_one (ps_ret (pe_tup (pa_cons pe_str pa_nil)))) pss_nil) <|
        pss_one (ps_if (PW.pt (pw_or (pt_not (pt_chain op_le op_lt pe_int (pe_ix ix_tup (pv 4) pe_int (fun _ _ => rfl)) (pe_callB call_len_seq (by rfl) B.len PySem.boot_len (pa_cons (pv 1) pa_nil)))) (pw_or1 (pt_cmpR op_ne (pe_callB call_abs (by rfl) ma (by decide +kernel) (pa_cons (pe_ix ix_tup (pv 4) pe_int (fun _ _ => rfl)) pa_nil)) pe_int (nomark _))))) (pss_one (ps_ret (pe_tup (pa_cons pe_str pa_nil)))) pss_nil))) <|
        pss_cons (ps_for PassesOwn.never rfl (pi_range1 (by rfl) B.range (pa_cons (pe_callB call_len_seq (by rfl) B.len PySem.boot_len (pa_cons (pv 3) pa_nil)) pa_nil)) (pg_name (i := 5) nd rfl (.inl rfl)) (pss_one (ps_if (pt_cmpR op_ne (pe_ix ix_list (pe_call DEn.ok (hr.mono (by decide)) (by rfl) DEn.mg DEn.kp DEn.bd .nil pass0 (pa_cons (pv 0) (pa_cons (pv 1) (pa_cons (pe_ix ix_list (pv 3) (pv 5) (fun _ _ => rfl)) pa_nil)))) pe_int (fun _ _ => rfl)) (pe_ix ix_list (pe_call DEn.ok (hr.mono (by decide)) (by rfl) DEn.mg DEn.kp DEn.bd .nil pass0 (pa_cons (pv 0) (pa_cons (pv 1) (pa_cons (pe_ix ix_list (pe_op op_cat (pv 3) (pv 3)) (pe_op op_add (pv 5) pe_int) (fun _ _ => rfl)) pa_nil)))) pe_int (fun _ _ => rfl)) (nomark _)) (pss_one (ps_ret (pe_tup (pa_cons pe_str (pa_cons (pv 5) pa_nil))))) pss_nil))) <|
        pss_cons (ps_setLc (i := 9) (own := [("_law_rows", 6)]) (g := (gName 6)) (tt := tYes) (te := (tCB (rSum K) (tCons (tLc (iList K (tVar 3)) (gTup K 2 (gCons (gName 7) (gCons (gName 8) gNil))) tYes (tOp (rI CMul fun i j => .int (i * j)) (tVar 8) (tCB (Evl.rLenS K) (tCons (tOp (rIxT K) (tOp (rIxL K) (tVar 6) (tVar 7)) (tC (.int 2))) tNil))) [7, 8]) tNil))) rfl nd rfl rfl (sw_true rfl rfl rfl (by decide +kernel)) (pi_list (pe_lst (pa_cons (pv 1) (pa_cons (pv 2) pa_nil)))) (blkOk_by (N := nDue) (sc := defScope sDue) (own := [("_law_rows", 6)]) (by decide +kernel)) (fun _ _ _ _ _ => (pg_name (i := 6) nd rfl (.inr rfl))) (fun _ _ _ _ _ => pts_nil) (fun _ _ _ _ _ => (pe_callB (cr_sum rfl) (by rfl) ms (by decide +kernel) (pa_cons (pe_lc (own := [("_law_place", 7), ("_law_way", 8)]) (g := (gTup K 2 (gCons (gName 7) (gCons (gName 8) gNil)))) (tt := tYes) (te := (tOp (rI CMul fun i j => .int (i * j)) (tVar 8) (tCB (Evl.rLenS K) (tCons (tOp (rIxT K) (tOp (rIxL K) (tVar 6) (tVar 7)) (tC (.int 2))) tNil)))) rfl nd (pi_list (pv 3)) (blkOk_by (N := nDue) (sc := { kind := .function, names := [(".0", .local), ("_law_rows", .cell), ("sum", .globalImplicit), ("_law_thing", .cell)], isGenerator := false, isCoroutine := false }) (own := [("_law_place", 7), ("_law_way", 8)]) (by decide +kernel)) (fun _ _ _ _ _ => (pg_tup rfl (pgs_cons (pg_name (i := 7) nd rfl (.inl rfl)) (pgs_cons (pg_name (i := 8) nd rfl (.inl rfl)) pgs_nil)))) (fun _ _ _ _ _ => pts_nil) (fun _ _ _ _ _ => (pe_op op_mul (pv 8) (pe_callB call_len_seq (by rfl) B.len PySem.boot_len (pa_cons (pe_ix ix_tup (pe_ix ix_list (pv 6) (pv 7) (fun _ _ => rfl)) pe_int (fun _ _ => rfl)) pa_nil))))) pa_nil)))) <|
        pss_one (ps_ret (pe_ix ix_list (pe_lst (pa_cons pe_non (pa_cons (pe_tup (pa_cons pe_str (pa_cons (pe_ix ix_list (pv 9) pe_int (fun _ _ => rfl)) pa_nil))) pa_nil))) (pe_callTy call_int1 (by rfl) B.int (by decide +kernel) (pa_cons (pe_cmpR op_eq (pe_ix ix_list (pv 9) pe_int (fun _ _ => rfl)) (pe_ix ix_list (pv 9) pe_int (fun _ _ => rfl)) (nomark _)) pa_nil)) (fun _ _ => rfl))), ?_⟩
    have hwl := N.wl
    have hwe : wso.length = ws.length := by
      have := congrArg List.length he
      unfold endsL at this
      rw [List.length_map, List.length_map] at this
      exact this.symm
    have form : ∀ {H' : Hp}, Same H H' → loopOf ws.length d = none → ∀ t, H' t = none → Q (.ref t) (upd H' t (.tup [.str "form"])) := fun {H'} s e t ht => by
      refine q (.ref t) _ (s.trans (same_new ht)) ?_
      unfold faultD
      rw [e]
      exact .tup (.inl (.inl upd_same)) (.cons (.str _) .nil)
    obtain ⟨wv, hwv, wa⟩ := id LW0
    obtain ⟨wv2, hwv2, wa2⟩ := id LO0
    have hwvl : wv.length = ws.length := wa.1
    obtain ⟨t, ty, _, _, _, k4⟩ := hd.ty
    refine ⟨_, rfl, _, _, _, _, dL d, rfl, .ty "list", ty, kit_ty k4, dL d, rfl, ?_⟩
    cases eL : dL d with
    | false =>
      have e0 : loopOf ws.length d = none := by cases d <;> first | rfl | cases eL
      exact iteT ⟨(by show 1 ≤ sizeLine; decide), fun t ht => form (Same.refl _) e0 t ht⟩
    | true =>
    refine iteF ?_
    cases hd with
    | @lst l xs ds sq av al =>
      obtain ⟨hdl, hdp, hsh⟩ := hdl ds rfl
      have hl : xs.length = ds.length := al.all2.1
      refine ⟨_, rfl, (by show 0 ≤ sizeLine; decide), fun le hle => ?_⟩
      have s1 : Same H (upd H le (.lst [])) := same_new hle
      have ee : (upd H le (.lst [])) le = some (.lst []) := upd_same
      generalize upd H le (.lst []) = H1 at s1 ee
      refine ⟨_, _, dp_same hdp s1, .lst (SqL.of ee) .nil, hsh, rfl, decide (ds = []), ?_, ite2 (fun e => ?_) (fun e => ?_)⟩
      · cases ds <;> rfl
      · have e0 : ds = [] := of_decide_eq_true e
        subst e0
        exact ⟨(by show 1 ≤ sizeLine; decide), fun t ht => form s1 rfl t ht⟩
      have hne : ds ≠ [] := fun z => e (decide_eq_true z)
      have eLo : loopOf ws.length (.list ds) = turnsOf ws.length ds := by
        cases ds with
        | nil => exact absurd rfl hne
        | cons x r => rfl
      refine ⟨_, rfl, l, rfl, ⟨_, SqL.of (s1 _ _ sq)⟩, for_list (K := K) (a := l) (xs := xs) (fun i σ Hc => ∃ u4 : Option V, σ = [some (.ref lg), some (.ref lw), some (.ref lo), some (.ref l), u4, none, none, none, none, none] ∧ Same H Hc ∧ ∀ (j : Nat) (d : PyData), j < i → ds[j]? = some d → (turnOf ws.length d).isSome = true) ⟨_, rfl, s1, fun j d hj => absurd hj (Nat.not_lt_zero _)⟩ (fun i σ Hc _ ⟨_, _, sm, _⟩ => SqL.of (sm _ _ sq)) ?_ ?_⟩
      · rintro i v σ Hc hv ⟨u4, rfl, sm, h0⟩
        obtain ⟨d, hdd, dxv⟩ := al.all2.get hv
        have hi : i < ds.length := (List.getElem?_eq_some_iff.mp hdd).1
        have dxc := dxv.same sm
        have bad : turnOf ws.length d = none → loopOf ws.length (.list ds) = none := fun z => by rw [eLo]; exact turns_none hdd z
        obtain ⟨t, ty, _, _, k3, _⟩ := dxc.ty
        refine ⟨_, rfl, _, _, _, _, dT d, rfl, .ty "tuple", ty, kit_ty k3, dT d, rfl, ?_⟩
        cases eT : dT d with
        | false => exact iteT ⟨(by show 1 ≤ sizeLine; decide), fun t ht => form sm (bad (turn_none eT)) t ht⟩
        | true =>
        refine iteF ?_
        cases dxc with
        | @tup a xs2 ds2 sq2 al2 =>
          have hl2 : xs2.length = ds2.length := al2.all2.1
          by_cases h2 : ds2.length = 2
          · obtain ⟨dp, dw, rfl⟩ : ∃ x y, ds2 = [x, y] := by
              match ds2, h2 with
              | [x, y], _ => exact ⟨x, y, rfl⟩
            obtain ⟨vp, vw, rfl⟩ : ∃ x y, xs2 = [x, y] := by
              match xs2, hl2 with
              | [x, y], _ => exact ⟨x, y, rfl⟩
            cases al2 with
            | cons hp al2 =>
            cases al2 with
            | cons hw al2 =>
            refine ⟨_, rfl, a, _, rfl, .inr sq2, rfl, _, rfl, iteNS rfl ?_⟩
            refine ⟨_, rfl, a, _, 0, _, rfl, rfl, sq2, atI_nat (j := 0) rfl, vp, dp, rfl, hp, wholeD dp, rfl, ?_⟩
            cases ep : wholeD dp with
            | false => exact iteT ⟨(by show 1 ≤ sizeLine; decide), fun t ht => form sm (bad (turn_p ep)) t ht⟩
            | true =>
            refine iteF ⟨_, rfl, a, _, 1, _, rfl, rfl, sq2, atI_nat (j := 1) rfl, vw, dw, rfl, hw, wholeD dw, rfl, ?_⟩
            cases ew : wholeD dw with
            | false => exact iteT ⟨(by show 1 ≤ sizeLine; decide), fun t ht => form sm (bad (turn_w ew)) t ht⟩
            | true =>
            refine iteF ?_
            cases hp with
            | int p =>
              cases hw with
              | int k =>
                have suite : ∀ {Hz : Hp}, Same H Hz → ¬ (0 ≤ p ∧ p < (ws.length : Int) ∧ (k = 1 ∨ k = -1)) → ∀ t, Hz t = none → Q (.ref t) (upd Hz t (.tup [.str "form"])) := fun {Hz} sz hc t ht => form sz (bad (by simp only [turnOf]; rw [if_neg hc])) t ht
                refine ⟨_, rfl, a, _, 0, _, rfl, rfl, sq2, atI_nat (j := 0) rfl, _, _, rfl, rfl, _, rfl, ite2 (fun e1 => ?_) (fun e1 => ?_)⟩
                · have p0 : 0 ≤ p := of_decide_eq_true e1
                  refine ⟨_, rfl, lw, wv, rfl, .inl (SqL.of (sm _ _ hwv)), _, _, rfl, rfl, _, rfl, ?_⟩
                  rw [hwvl]
                  cases hb : decide (p < ((ws.length : Nat) : Int)) with
                  | false => exact iteT ⟨(by show 1 ≤ sizeLine; decide), suite sm fun z => (of_decide_eq_false hb) z.2.1⟩
                  | true =>
                  refine iteF ⟨_, rfl, a, _, 1, _, rfl, rfl, sq2, atI_nat (j := 1) rfl, k, rfl, rfl, _, rfl, ite2 (fun e2 => ?_) (fun e2 => ?_)⟩
                  · refine ⟨(by show 1 ≤ sizeLine; decide), suite sm fun z => ?_⟩
                    rcases z.2.2 with z | z
                    · rw [z] at e2
                      exact absurd e2 (by decide)
                    · rw [z] at e2
                      exact absurd e2 (by decide)
                  · have hk : k = 1 ∨ k = -1 := Decidable.byContradiction fun z => e2 (by
                      have h3 : ¬ (V.int (if k < 0 then -k else k) = V.int 1) := fun z2 => by
                        injection z2 with z3
                        by_cases z4 : k < 0
                        · rw [if_pos z4] at z3
                          exact z (.inr (by omega))
                        · rw [if_neg z4] at z3
                          exact z (.inl z3)
                      rw [decide_eq_false h3]
                      rfl)
                    refine ⟨_, rfl, sm, fun j d' hj hd' => ?_⟩
                    rcases Nat.lt_succ_iff_lt_or_eq.mp hj with z | z
                    · exact h0 j d' z hd'
                    · rw [z, hdd] at hd'
                      cases hd'
                      simp only [turnOf]
                      rw [if_pos ⟨p0, of_decide_eq_true hb, hk⟩]
                      rfl
                · exact ⟨_, rfl, iteT ⟨(by show 1 ≤ sizeLine; decide), suite sm fun z => e1 (decide_eq_true z.1)⟩⟩
              | _ => cases ew
            | _ => cases ep
          · refine ⟨_, rfl, a, _, rfl, .inr sq2, rfl, _, rfl, ite2 (fun _ => ?_) (fun e => ?_)⟩
            · exact ⟨(by show 1 ≤ sizeLine; decide), fun t ht => form sm (bad (turn_len h2)) t ht⟩
            · exfalso
              apply e
              have h3 : ¬ (V.int ((xs2.length : Nat) : Int) = V.int 2) := fun z => by
                injection z
                omega
              rw [decide_eq_false h3]
              all_goals rfl
        | _ => cases eT
      · rintro σ H2 ⟨u4, rfl, s2, h0⟩
        rw [hl] at h0
        obtain ⟨ts, eT⟩ := turns_some fun i d hd => h0 i d (List.getElem?_eq_some_iff.mp hd).1 hd
        have htl := turnsOf_len eT
        have tok := turnsOf_ok eT
        have tv := turnsOf_tn eT al.all2
        have hxt : xs.length = ts.length := by omega
        have tvs : ∀ {H' : Hp}, Same H H' → All2 (TnV K H') xs ts := fun s => tv.imp fun _ _ z => z.tk (TK.same s)
        refine ⟨_, rfl, l, xs, rfl, .inl (SqL.of (s2 _ _ sq)), _, rfl, by omega, by omega, ?_⟩
        rw [hxt, Int.toNat_natCast]
        refine for_range (lo := 0) (n := ts.length) (fun k σ Hc => ∃ u5 : Option V, σ = [some (.ref lg), some (.ref lw), some (.ref lo), some (.ref l), u4, u5, none, none, none, none] ∧ Same H Hc ∧ ∀ j, j < k → gapAt gs (ts.map (tEnds ws)) j = false) ⟨_, rfl, s2, fun j hj => absurd hj (Nat.not_lt_zero _)⟩ ?_ ?_
        · rintro k σ Hc hk ⟨u5, rfl, sm, h1⟩
          have ek : (0 : Int) + (k : Nat) = ((k : Nat) : Int) := Int.zero_add _
          rw [ek]
          obtain ⟨t1, ht1⟩ : ∃ t, ts[k]? = some t := ⟨_, List.getElem?_eq_getElem hk⟩
          have hm : (k + 1) % ts.length < ts.length := Nat.mod_lt _ (by omega)
          obtain ⟨t2, ht2⟩ : ∃ t, ts[(k + 1) % ts.length]? = some t := ⟨_, List.getElem?_eq_getElem hm⟩
          obtain ⟨v1, hv1, tn1⟩ := tv.getR ht1
          obtain ⟨v2, hv2, tn2⟩ := tv.getR ht2
          have ok1 := tok t1 (List.mem_of_getElem? ht1)
          have ok2 := tok t2 (List.mem_of_getElem? ht2)
          have b1 := tEnds_lt N ok1
          have b2 := tEnds_lt N ok2
          have hdbl : (xs ++ xs)[k + 1]? = some v2 := by
            by_cases z : k + 1 < ts.length
            · rw [Nat.mod_eq_of_lt z] at hv2
              rw [List.getElem?_append_left (by omega)]
              exact hv2
            · have z2 : k + 1 = ts.length := by omega
              rw [z2, Nat.mod_self] at hv2
              rw [List.getElem?_append_right (by omega), z2, hxt, Nat.sub_self]
              exact hv2
          refine ⟨_, rfl, _, rfl, _, rfl, _, rfl, l, xs, k, v1, rfl, rfl, SqL.of (sm _ _ sq), atI_nat hv1, lg, lw, v1, gs, ws, t1, rfl, LG0.same sm, LW0.same sm, tn1.tk (TK.same sm), ok1, N, fun l1 H3 s3 e3 => ?_⟩
          have s03 := sm.trans s3
          refine ⟨l1, _, 1, _, rfl, rfl, SqL.of e3, atI_nat (j := 1) rfl, ?_⟩
          refine ⟨_, rfl, _, rfl, _, rfl, _, rfl, l, l, xs, xs, rfl, rfl, s03 _ _ sq, s03 _ _ sq, (Nat.le_of_lt (small1000 (by omega))), fun l4 hl4 => ?_⟩
          have s04 := s03.trans (same_new (o := .lst (xs ++ xs)) hl4)
          have e4 : (upd H3 l4 (.lst (xs ++ xs))) l4 = some (.lst (xs ++ xs)) := upd_same
          have e34 := same_new (o := .lst (xs ++ xs)) hl4 _ _ e3
          generalize upd H3 l4 (.lst (xs ++ xs)) = H4 at s04 e4 e34
          refine ⟨_, rfl, _, _, rfl, rfl, l4, _, ((k + 1 : Nat) : Int), v2, rfl, rfl, SqL.of e4, atI_nat hdbl, lg, lw, v2, gs, ws, t2, rfl, LG0.same s04, LW0.same s04, tn2.tk (TK.same s04), ok2, N, fun l5 H5 s5 e5 => ?_⟩
          have s05 := s04.trans s5
          refine ⟨l5, _, 0, _, rfl, rfl, SqL.of e5, atI_nat (j := 0) rfl, rfl, _, rfl, ?_⟩
          have eg : gapAt gs (ts.map (tEnds ws)) k = !decide (spotN gs (tEnds ws t1).2 = spotN gs (tEnds ws t2).1) := by
            unfold gapAt
            rw [List.length_map, List.getD_eq_getElem?_getD, List.getD_eq_getElem?_getD, List.getElem?_map, List.getElem?_map, ht1, ht2]
            rfl
          refine ite2 (fun z => ?_) (fun z => ?_)
          · have ne : spotN gs (tEnds ws t1).2 ≠ spotN gs (tEnds ws t2).1 := fun z2 => by
              rw [(spot_home b1.2 b2.1).mp z2, decide_eq_true rfl] at z
              cases z
            refine ⟨_, rfl, (by show 2 ≤ sizeLine; decide), fun t ht => ?_⟩
            refine q (.ref t) _ (s05.trans (same_new ht)) ?_
            unfold faultD
            rw [eLo, eT]
            show Dp K _ _ (match gapOf gs (ts.map (tEnds ws)) with | some k => _ | none => _)
            rw [gap_some (k := k) (by rw [List.length_map]; exact hk) (by rw [eg, decide_eq_false ne]; rfl) h1]
            exact .tup (.inl (.inl upd_same)) (.cons (.str _) (.cons (.int _) .nil))
          · have e3 : spotN gs (tEnds ws t1).2 = spotN gs (tEnds ws t2).1 := (spot_home b1.2 b2.1).mpr (Decidable.byContradiction fun z2 => z (by
              rw [decide_eq_false (fun z3 => z2 (V.int.inj z3))]
              rfl))
            refine ⟨_, rfl, s05, fun j hj => ?_⟩
            rcases Nat.lt_succ_iff_lt_or_eq.mp hj with z4 | z4
            · exact h1 j z4
            · rw [z4, eg, decide_eq_true e3]
              rfl
        · rintro σ H6 ⟨u5, rfl, s6, h1⟩
          have eg := gap_none (gs := gs) (es := ts.map (tEnds ws)) (fun j hj => h1 j (by rw [List.length_map] at hj; exact hj))
          -- sums
          refine ⟨_, rfl, _, rfl, (by show 2 ≤ sizeLine; decide), fun lr hlr => ?_⟩
          have s7 := s6.trans (same_new (o := .lst [.ref lw, .ref lo]) hlr)
          have e7 : (upd H6 lr (.lst [.ref lw, .ref lo])) lr = some (.lst [.ref lw, .ref lo]) := upd_same
          generalize upd H6 lr (.lst [.ref lw, .ref lo]) = H7 at s7 e7
          refine ⟨lr, rfl, ⟨_, SqL.of e7⟩, fun D hD => ?_⟩
          refine lc_list (K := K) (a := lr) (xs := [.ref lw, .ref lo]) (fun i Hc => Hc D = some (.lst (([sumT ws ts, sumT wso ts].take i).map V.int)) ∧ Same H7 Hc) ⟨upd_same, same_new hD⟩ (fun i Hc _ ⟨_, sm⟩ => SqL.of (sm _ _ e7)) ?_ ?_
          · rintro i v Hc hv ⟨hc, sm⟩
            have hi : i < 2 := (List.getElem?_eq_some_iff.mp hv).1
            obtain ⟨lx, us, rfl, LX, hus, NU, hsum⟩ : ∃ (lx : Addr) (us : List Wr), v = .ref lx ∧ LW K H lx us ∧ us.length = ws.length ∧ NetOk gs us ∧ [sumT ws ts, sumT wso ts][i]? = some (sumT us ts) := by
              rcases (by omega : i = 0 ∨ i = 1) with z | z
              · subst z
                cases hv
                exact ⟨lw, ws, rfl, LW0, rfl, N, rfl⟩
              · subst z
                cases hv
                exact ⟨lo, wso, rfl, LO0, hwe, NO, rfl⟩
            obtain ⟨uv, huv, ua⟩ := id LX
            have s0c := s7.trans sm
            refine ⟨rfl, tyes ?_⟩
            refine ⟨_, rfl, l, rfl, ⟨_, SqL.of (s0c _ _ sq)⟩, fun D2 hD2 => ?_⟩
            refine lc_list (K := K) (a := l) (xs := xs) (fun j Hd => Hd D2 = some (.lst (((ts.take j).map fun t => t.2 * (((wAt us t.1).2.2.length : Nat) : Int)).map V.int)) ∧ Same Hc Hd) ⟨upd_same, same_new hD2⟩ (fun j Hd _ ⟨_, sd⟩ => SqL.of (sd _ _ (s0c _ _ sq))) ?_ ?_
            · rintro j x Hd hx ⟨hd2, sd⟩
              obtain ⟨t, ht, a, rfl, sqt⟩ := tv.get hx
              have hj : j < ts.length := (List.getElem?_eq_some_iff.mp ht).1
              have ok := tok t (List.mem_of_getElem? ht)
              obtain ⟨y, hy, b, c, rfl, sb, sc⟩ := ua.getR (wAt_get (by rw [hus]; exact ok.1))
              have s0d := s0c.trans sd
              have tk := TK.same s0d
              refine ⟨a, _, rfl, tk.seq sqt, rfl, _, _, rfl, _, _, rfl, rfl, rfl, tyes ?_⟩
              refine ⟨_, rfl, _, rfl, _, rfl, lx, uv, t.1, .ref b, rfl, rfl, SqL.of (s0d _ _ huv), atI_nat hy, b, _, 2, .ref c, rfl, rfl, tk.seq sb, atI_nat (j := 2) rfl, c, _, rfl, .inr (tk.seq sc), _, _, rfl, rfl, .inl (by rcases ok.2 with z | z <;> rw [z] <;> decide), _, hd2, ?_, ?_, same_mut sd hD2⟩
              · rw [List.length_map, List.length_map, List.length_take]
                exact small1000 (by omega)
              · rw [upd_same, List.take_add_one, ht, List.map_append, List.map_append, List.length_map]
                rfl
            rintro H9 ⟨hc9, s9⟩
            rw [hxt, List.take_length] at hc9
            have esum : (ts.map fun t => t.2 * (((wAt us t.1).2.2.length : Nat) : Int)).sum = sumT us ts := by
              unfold sumT
              congr 1
              exact List.map_congr_left fun t _ => Int.mul_comm _ _
            refine ⟨D2, _, rfl, SqL.of hc9, _, s9 _ _ hc, ?_, ?_, same_mut (sm.trans s9) hD⟩
            · rw [List.length_map, List.length_take]
              exact small1000 (by have h2 : [sumT ws ts, sumT wso ts].length = 2 := rfl; omega)
            · rw [upd_same, esum, List.take_add_one, hsum, List.map_append]
              rfl
          rintro H8 ⟨hc8, s8⟩
          have s08 := s7.trans s8
          have hc8 : H8 D = some (.lst [.int (sumT ws ts), .int (sumT wso ts)]) := hc8
          refine gn_norm (σ' := [some (.ref lg), some (.ref lw), some (.ref lo), some (.ref l), u4, u5, none, none, none, some (.ref D)]) rfl ?_
          have fin : faultD gs ws wso (.list ds) = if sumT ws ts = sumT wso ts then .tuple [.str "sum", .int (sumT ws ts)] else .none := by
            unfold faultD
            rw [eLo, eT]
            show (match gapOf gs (ts.map (tEnds ws)) with | some k => _ | none => _) = _
            rw [eg]
          refine ⟨_, rfl, D, _, 0, _, rfl, rfl, SqL.of hc8, atI_nat (j := 0) rfl, (by show 2 ≤ sizeLine; decide), fun tz htz => ?_⟩
          have s9 := s08.trans (same_new (o := .tup [.str "sum", .int (sumT ws ts)]) htz)
          have e9 : (upd H8 tz (.tup [.str "sum", .int (sumT ws ts)])) tz = some (.tup [.str "sum", .int (sumT ws ts)]) := upd_same
          have hc9 := same_new (o := .tup [.str "sum", .int (sumT ws ts)]) htz _ _ hc8
          generalize upd H8 tz (.tup [.str "sum", .int (sumT ws ts)]) = H9 at s9 e9 hc9
          refine ⟨(by show 2 ≤ sizeLine; decide), fun lz hlz => ?_⟩
          have s10 := s9.trans (same_new (o := .lst [.non, .ref tz]) hlz)
          have e10 : (upd H9 lz (.lst [.non, .ref tz])) lz = some (.lst [.non, .ref tz]) := upd_same
          have e910 := same_new (o := .lst [.non, .ref tz]) hlz _ _ e9
          have hc10 := same_new (o := .lst [.non, .ref tz]) hlz _ _ hc9
          generalize upd H9 lz (.lst [.non, .ref tz]) = H10 at s10 e10 e910 hc10
          refine ⟨_, rfl, D, _, 0, _, rfl, rfl, SqL.of hc10, atI_nat (j := 0) rfl, _, rfl, D, _, 1, _, rfl, rfl, SqL.of hc10, atI_nat (j := 1) rfl, rfl, .inr ⟨_, rfl, ?_⟩⟩
          by_cases es : sumT ws ts = sumT wso ts
          · have eb : decide (V.int (sumT ws ts) = V.int (sumT wso ts)) = true := decide_eq_true (by rw [es])
            rw [eb]
            refine ⟨lz, _, 1, .ref tz, rfl, rfl, SqL.of e10, atI_nat (j := 1) rfl, q (.ref tz) _ s10 ?_⟩
            rw [fin, if_pos es]
            exact .tup (.inl (.inl e910)) (.cons (.str _) (.cons (.int _) .nil))
          · have eb : decide (V.int (sumT ws ts) = V.int (sumT wso ts)) = false := decide_eq_false fun z => es (V.int.inj z)
            rw [eb]
            refine ⟨lz, _, 0, .non, rfl, rfl, SqL.of e10, atI_nat (j := 0) rfl, q .non _ s10 ?_⟩
            rw [fin, if_neg es]
            exact .non
    | _ => cases eL
end
end Lag

set_option maxRecDepth 100000
set_option maxHeartbeats 8000000
namespace Lag
open PySem PySem.Spec PyProof.Rows L2
abbrev sWalk : Stmt := topS 49 -- @_law_walk
theorem Dr.ofSame {wl : Addr} {H H' : Hp} (W : WellAt wl H) (s : Same H H') : Dr wl H H' := ⟨But.same s, W.same s⟩
theorem Dr.mut {wl p : Addr} {H H' : Hp} {o : HO} (d : Dr wl H H') (h : H p = none) (n : p ≠ wl) : Dr wl H (upd H' p o) := ⟨d.but.mut h, by
  obtain ⟨xs, e, k⟩ := d.well
  exact ⟨xs, by rw [upd_ne n.symm]; exact e, k⟩⟩
theorem way_at {d : Int} (h0 : 0 ≤ d) (h1 : d < 2) : ∃ y : Int, atI [V.int 1, V.int (0 - 1)] d = some (.int y) ∧ (y = 1 ∨ y = -1) := by
  rcases (by omega : d = 0 ∨ d = 1) with z | z
  · subst z
    exact ⟨1, rfl, .inl rfl⟩
  · subst z
    exact ⟨-1, rfl, .inr rfl⟩
theorem tEnds_back {ws : List Wr} {t : Tn} (h : t.2 = 1 ∨ t.2 = -1) : (tEnds ws (t.1, -t.2)).1 = (tEnds ws t).2 := by
  unfold tEnds
  rcases h with z | z
  · rw [z, if_neg (by show ¬ (0 : Int) < -1; decide), if_pos (by decide)]
  · rw [z, if_pos (by show (0 : Int) < - -1; decide), if_neg (by decide)]
def spWalk (K : PySem.W.Frag) : Sp := fun vs H Q _ => ∃ (wl lg lw : Addr) (gs : List Gt) (ws : List Wr), vs = [.ref wl, .ref lg, .ref lw] ∧ WellAt wl H ∧ lg ≠ wl ∧ lw ≠ wl ∧ LG K H lg gs ∧ LW K H lw ws ∧ NetOk gs ws ∧ ws ≠ [] ∧ ws.length ≤ 72 ∧ ∀ l ts vs' H', Dr wl H H' → H l = none → H' l = some (.lst vs') → All2 (TnV K H') vs' ts → ts ≠ [] → ts.length ≤ 10 → (∀ t ∈ ts, TnOk ws.length t) → Q (.ref l) H'
section
variable {P : Program} {w : World} {K : PySem.W.Frag} {mg : Str → Option Value} {base : Heap}
abbrev nWalk : List Str := ["_law_state", "_law_gates_here", "_law_wires_here", "_law_found", "_law_begin", "_law_turn", "_law_here", "_law_place", "_law_both", "_law_step", "_law_some"]
theorem scWalk : FnScope nWalk ["_law_state", "_law_gates_here", "_law_wires_here"] (defScope sWalk) := ⟨rfl, rfl, rfl, by decide +kernel, rfl, by decide +kernel, by decide +kernel⟩
abbrev DWalk (P : Program) (w : World) (K : PySem.W.Frag) (mg : Str → Option Value) (base : Heap) := Df P w K mg base 3 "_law_walk" ["_law_state", "_law_gates_here", "_law_wires_here"] (spWalk K)
theorem ok_walk {f fD fE : Addr} {fd fdD fdE : FuncData} (F : Fun K "_law_walk" "_law_walk" sWalk f fd) (hm : mg "_law_walk" = some (.ref f)) (B : Bt mg) (DD : DDraw P w K mg base fD fdD) (DEn : DEndsL P w K mg base fE fdE) : DWalk P w K mg base f fd := by
  refine ⟨?_, hm, F.kp, F.binds fun _ _ _ _ _ _ us hl => match us, hl with | [_, _, _], _ => rfl⟩
  refine F.ok scWalk (fun vs H Q E h => ?_) (fun cdv A outer s H vs Q E hr h => ?_)
  · obtain ⟨wl, lg, lw, gs, ws, rfl, _⟩ := h
    rfl
  · obtain ⟨wl, lg, lw, gs, ws, rfl, hw, nlg, nlw, LG0, LW0, N, hne, hwl, q⟩ := h
    have nd := scWalk.nd
    refine ⟨_, pss_cons (ps_set (i := 3) nd rfl (.inl rfl) (pe_lst (pa_cons (pe_tup (pa_cons (pe_call DD.ok (hr.mono (by decide)) (by rfl) DD.mg DD.kp DD.bd .nil pass0 (pa_cons (pv 0) (pa_cons (pe_callB call_len_seq (by rfl) B.len PySem.boot_len (pa_cons (pv 2) pa_nil)) pa_nil))) (pa_cons (pe_ix ix_list (pe_lst (pa_cons pe_int (pa_cons (pe_op op_sub pe_int pe_int) pa_nil))) (pe_call DD.ok (hr.mono (by decide)) (by rfl) DD.mg DD.kp DD.bd .nil pass0 (pa_cons (pv 0) (pa_cons pe_int pa_nil))) (fun _ _ => rfl)) pa_nil))) pa_nil))) <|
        pss_cons (ps_set (i := 4) nd rfl (.inl rfl) (pe_ix ix_list (pe_call DEn.ok (hr.mono (by decide)) (by rfl) DEn.mg DEn.kp DEn.bd .nil pass0 (pa_cons (pv 1) (pa_cons (pv 2) (pa_cons (pe_ix ix_list (pv 3) pe_int (fun _ _ => rfl)) pa_nil)))) pe_int (fun _ _ => rfl))) <|
        pss_cons (ps_for PassesOwn.never rfl (pi_range1 (by rfl) B.range (pa_cons (pe_call DD.ok (hr.mono (by decide)) (by rfl) DD.mg DD.kp DD.bd .nil pass0 (pa_cons (pv 0) (pa_cons pe_int pa_nil))) pa_nil)) (pg_name (i := 5) nd rfl (.inl rfl)) (pss_cons (ps_set (i := 6) nd rfl (.inr rfl) (pe_ix ix_list (pe_call DEn.ok (hr.mono (by decide)) (by rfl) DEn.mg DEn.kp DEn.bd .nil pass0 (pa_cons (pv 1) (pa_cons (pv 2) (pa_cons (pe_ix ix_list (pv 3) (pe_un un_neg pe_int) (fun _ _ => rfl)) pa_nil)))) pe_int (fun _ _ => rfl))) <|
        pss_cons (ps_set (i := 8) nd rfl (.inl rfl) (pe_op op_cat (pe_lc (own := [("_law_place", 7)]) (g := (gName 7)) (tt := tYes) (te := (tTup (tCons (tVar 7) (tCons (tC (.int 1)) tNil)))) rfl nd (pi_range1 (by rfl) B.range (pa_cons (pe_callB call_len_seq (by rfl) B.len PySem.boot_len (pa_cons (pv 2) pa_nil)) pa_nil)) (blkOk_by (N := nWalk) (sc := defScope sWalk) (own := [("_law_place", 7)]) (by decide +kernel)) (fun _ _ _ _ _ => (pg_name (i := 7) nd rfl (.inl rfl))) (fun _ _ _ _ _ => pts_nil) (fun _ _ _ _ _ => (pe_tup (pa_cons (pv 7) (pa_cons pe_int pa_nil))))) (pe_lc (own := [("_law_place", 7)]) (g := (gName 7)) (tt := tYes) (te := (tTup (tCons (tVar 7) (tCons (tOp (rI0 fun i j => .int (i - j)) (tC (.int 0)) (tC (.int 1))) tNil)))) rfl nd (pi_range1 (by rfl) B.range (pa_cons (pe_callB call_len_seq (by rfl) B.len PySem.boot_len (pa_cons (pv 2) pa_nil)) pa_nil)) (blkOk_by (N := nWalk) (sc := defScope sWalk) (own := [("_law_place", 7)]) (by decide +kernel)) (fun _ _ _ _ _ => (pg_name (i := 7) nd rfl (.inl rfl))) (fun _ _ _ _ _ => pts_nil) (fun _ _ _ _ _ => (pe_tup (pa_cons (pv 7) (pa_cons (pe_op op_sub pe_int pe_int) pa_nil))))))) <|
        pss_cons (ps_setLc (i := 10) (own := [("_law_step", 9)]) (g := (gName 9)) (tt := (tTest (tOp rEq (tOp (rIxL K) (tCall (spEndsL K) [] E0 (tCons (tVar 1) (tCons (tVar 2) (tCons (tVar 9) tNil)))) (tC (.int 0))) (tVar 6)))) (te := (tVar 9)) rfl nd rfl rfl (sw_true rfl rfl rfl (by decide +kernel)) (pi_list (pv 8)) (blkOk_by (N := nWalk) (sc := defScope sWalk) (own := [("_law_step", 9)]) (by decide +kernel)) (fun _ _ _ _ _ => (pg_name (i := 9) nd rfl (.inl rfl))) (fun _ _ _ _ _ => pts_one (pt_cmpR op_eq (pe_ix ix_list (pe_call DEn.ok (hr.mono (by decide)) (by rfl) DEn.mg DEn.kp DEn.bd .nil pass0 (pa_cons (pv 1) (pa_cons (pv 2) (pa_cons (pv 9) pa_nil)))) pe_int (fun _ _ => rfl)) (pv 6) (nomark _))) (fun _ _ _ _ _ => (pv 9))) <|
        pss_one (ps_if (PW.pt (pw_or (pt_cmpR op_ne (pv 6) (pv 4) (nomark _)) (pw_or1 (pt_cmpR op_eq (pe_call DD.ok (hr.mono (by decide)) (by rfl) DD.mg DD.kp DD.bd .nil pass0 (pa_cons (pv 0) (pa_cons pe_int pa_nil))) pe_int (nomark _))))) (pss_one (ps_expr (pe_bm PySem.F.plainAttrs_list PySem.F.slot_list_append PySem.F.type_list_append mt_append (pv 3) (pa_cons (pe_ix ix_list (pv 10) (pe_call DD.ok (hr.mono (by decide)) (by rfl) DD.mg DD.kp DD.bd .nil pass0 (pa_cons (pv 0) (pa_cons (pe_callB call_len_seq (by rfl) B.len PySem.boot_len (pa_cons (pv 10) pa_nil)) pa_nil))) (fun _ _ => rfl)) pa_nil)))) pss_nil))) <|
        pss_one (ps_ret (pv 3)), ?_⟩
    obtain ⟨wv, hwv, wa⟩ := id LW0
    have hwvl : wv.length = ws.length := wa.1
    have hpos : 0 < ws.length := List.length_pos_iff.mpr hne
    have LGd : ∀ {H' : Hp}, Dr wl H H' → LG K H' lg gs := fun d => LG0.dr nlg hw d
    have LWd : ∀ {H' : Hp}, Dr wl H H' → LW K H' lw ws := fun d => LW0.dr nlw hw d
    -- the first turn
    refine ⟨_, rfl, _, rfl, lw, wv, rfl, .inl (SqL.of hwv), wl, _, rfl, (by omega), (by omega), hw, fun d1 H1 d10 d11 D1 => ?_⟩
    refine ⟨_, _, rfl, rfl, (by show 2 ≤ sizeLine; decide), fun l1 hl1 => ?_⟩
    have n1 : l1 ≠ wl := (D1.well.ne hl1).symm
    have D2 := D1.trans (Dr.new (o := .lst [.int 1, .int (0 - 1)]) D1.well hl1)
    have e1 : (upd H1 l1 (.lst [.int 1, .int (0 - 1)])) l1 = some (.lst [.int 1, .int (0 - 1)]) := upd_same
    generalize upd H1 l1 (.lst [.int 1, .int (0 - 1)]) = H2 at D2 e1
    refine ⟨_, rfl, wl, 2, rfl, by decide, by decide, D2.well, fun d2 H3 d20 d21 E3 => ?_⟩
    obtain ⟨wy, ewy, hwy⟩ := way_at d20 d21
    have D3 := D2.trans E3
    refine ⟨l1, _, d2, _, rfl, rfl, SqL.of (E3.but _ _ n1 e1), ewy, (by show 2 ≤ sizeLine; decide), fun t0 ht0 => ?_⟩
    obtain ⟨p0, ep0⟩ : ∃ n : Nat, d1 = (n : Int) := ⟨d1.toNat, by omega⟩
    have hp0 : p0 < ws.length := by rw [hwvl] at d11; omega
    have D4 := D3.trans (Dr.new (o := .tup [.int d1, .int wy]) D3.well ht0)
    have e4 : (upd H3 t0 (.tup [.int d1, .int wy])) t0 = some (.tup [.int (p0 : Nat), .int wy]) := by rw [upd_same, ep0]
    generalize upd H3 t0 (.tup [.int d1, .int wy]) = H4 at D4 e4
    refine ⟨(by show 1 ≤ sizeLine; decide), fun lf hlf => ?_⟩
    have nlf : lf ≠ wl := (D4.well.ne hlf).symm
    have hlf0 : H lf = none := D4.free hw hlf
    have D5 := D4.trans (Dr.new (o := .lst [.ref t0]) D4.well hlf)
    have e5 : (upd H4 lf (.lst [.ref t0])) lf = some (.lst [.ref t0]) := upd_same
    have e45 : (upd H4 lf (.lst [.ref t0])) t0 = some (.tup [.int (p0 : Nat), .int wy]) := by rw [upd_ne (ne_of_none e4 hlf)]; exact e4
    generalize upd H4 lf (.lst [.ref t0]) = H5 at D5 e5 e45
    refine gn_norm (σ' := [some (.ref wl), some (.ref lg), some (.ref lw), some (.ref lf), none, none, none, none, none, none, none]) rfl ?_
    have ok0 : TnOk ws.length (p0, wy) := ⟨hp0, hwy⟩
    have tn0 : TnV K H5 (.ref t0) (p0, wy) := ⟨t0, rfl, .inl (.inl e45)⟩
    refine ⟨_, rfl, _, rfl, _, rfl, lf, _, 0, .ref t0, rfl, rfl, SqL.of e5, atI_nat (j := 0) rfl, lg, lw, .ref t0, gs, ws, (p0, wy), rfl, LGd D5, LWd D5, tn0, ok0, N, fun l6 H6 s6 e6 => ⟨l6, _, 0, _, rfl, rfl, SqL.of e6, atI_nat (j := 0) rfl, ?_⟩⟩
    have D6 := D5.trans (Dr.ofSame D5.well s6)
    refine gn_norm (σ' := [some (.ref wl), some (.ref lg), some (.ref lw), some (.ref lf), some (.int (homeI gs (tEnds ws (p0, wy)).1)), none, none, none, none, none, none]) rfl ?_
    generalize homeI gs (tEnds ws (p0, wy)).1 = b0
    refine ⟨_, rfl, wl, 9, rfl, by decide, by decide, D6.well, fun d3 H7 d30 d31 E7 => ?_⟩
    have D7 := D6.trans E7
    obtain ⟨m, em⟩ : ∃ n : Nat, d3 = (n : Int) := ⟨d3.toNat, by omega⟩
    subst em
    refine ⟨_, rfl, by omega, by omega, ?_⟩
    rw [Int.toNat_natCast]
    refine for_range (lo := 0) (n := m) (fun i σ Hc => ∃ (u5 u6 u7 u8 u9 u10 : Option V) (vs' : List V) (ts' : List Tn) (v : V) (t : Tn), σ = [some (.ref wl), some (.ref lg), some (.ref lw), some (.ref lf), some (.int b0), u5, u6, u7, u8, u9, u10] ∧ Dr wl H Hc ∧ Hc lf = some (.lst (vs' ++ [v])) ∧ All2 (TnV K Hc) (vs' ++ [v]) (ts' ++ [t]) ∧ (ts' ++ [t]).length ≤ i + 1 ∧ ∀ t' ∈ ts' ++ [t], TnOk ws.length t') ⟨_, _, _, _, _, _, [], [], .ref t0, (p0, wy), rfl, D7, E7.but _ _ nlf (s6 _ _ e5), (All2.nil.snoc (tn0.tk (TK.same s6))).imp fun _ _ r => r.tk (TK.dr D6.well E7.but), Nat.le_refl _, fun t' ht' => by rw [List.mem_singleton.mp ht']; exact ok0⟩ ?_ ?_
    · rintro i σ Hc hi ⟨u5, u6, u7, u8, u9, u10, vs', ts', v, t, rfl, Dc, ef, ta, tl, tok⟩
      have okt := tok t (by simp)
      have tnt : TnV K Hc v t := by
        have := ta.1
        rw [List.length_append, List.length_append] at this
        have h1 : vs'.length = ts'.length := by simpa using this
        exact ta.2 ts'.length v t (by rw [← h1, List.getElem?_append_right (Nat.le_refl _), Nat.sub_self]; rfl) (by rw [List.getElem?_append_right (Nat.le_refl _), Nat.sub_self]; rfl)
      -- here
      refine ⟨_, rfl, _, rfl, _, rfl, _, rfl, lf, _, _, v, rfl, rfl, SqL.of ef, atI_last _ _, lg, lw, v, gs, ws, t, rfl, LGd Dc, LWd Dc, tnt, okt, N, fun l8 H8 s8 e8 => ⟨l8, _, 1, _, rfl, rfl, SqL.of e8, atI_nat (j := 1) rfl, ?_⟩⟩
      refine gn_norm (σ' := [some (.ref wl), some (.ref lg), some (.ref lw), some (.ref lf), some (.int b0), some (.int (0 + (i : Nat))), some (.int (homeI gs (tEnds ws t).2)), u7, u8, u9, u10]) rfl ?_
      have D8 := Dc.trans (Dr.ofSame Dc.well s8)
      obtain ⟨wv8, hwv8, wa8⟩ := LWd D8
      have hwv8l : wv8.length = ws.length := wa8.1
      -- both
      have side : ∀ (y : Int) (Hx : Hp), True := fun _ _ => trivial
      refine ⟨_, rfl, lw, wv8, rfl, .inl (SqL.of hwv8), _, rfl, by omega, by omega, fun DA hDA => ?_⟩
      rw [hwv8l, Int.toNat_natCast]
      refine lc_range (lo := 0) (n := ws.length) (fun k Hd => ∃ acc, Hd DA = some (.lst acc) ∧ acc.length = k ∧ All2 (TnV K Hd) acc ((List.range k).map fun p => ((p, 1) : Tn)) ∧ Same H8 Hd) ⟨[], upd_same, rfl, All2.nil, same_new hDA⟩ ?_ ?_
      · rintro k Hd hk ⟨acc, hd, hal, aa, sd⟩
        have ek : (0 : Int) + (k : Nat) = ((k : Nat) : Int) := Int.zero_add _
        rw [ek]
        refine ⟨rfl, tyes ?_⟩
        refine ⟨_, rfl, (by show 2 ≤ sizeLine; decide), fun b hb => ?_⟩
        have sb : Same Hd (upd Hd b (.tup [.int (k : Nat), .int 1])) := same_new hb
        refine ⟨acc, sb _ _ hd, small1000 (by omega), acc ++ [.ref b], upd_same, by rw [List.length_append, hal]; rfl, ?_, same_mut (sd.trans sb) hDA⟩
        have t' := TK.lst (o := .lst (acc ++ [.ref b])) (sb _ _ hd)
        rw [List.range_succ, List.map_append]
        exact (aa.imp fun _ _ z => (z.tk (TK.same sb)).tk t').snoc (TnV.tk t' ⟨b, rfl, .inl (.inl upd_same)⟩)
      rintro H9 ⟨acc1, hc9, _, aa1, s9⟩
      have D9 := D8.trans (Dr.ofSame D8.well s9)
      refine ⟨_, rfl, lw, wv8, rfl, .inl (SqL.of (s9 _ _ hwv8)), _, rfl, by omega, by omega, fun DB hDB => ?_⟩
      rw [hwv8l, Int.toNat_natCast]
      refine lc_range (lo := 0) (n := ws.length) (fun k Hd => ∃ acc, Hd DB = some (.lst acc) ∧ acc.length = k ∧ All2 (TnV K Hd) acc ((List.range k).map fun p => ((p, -1) : Tn)) ∧ Same H9 Hd) ⟨[], upd_same, rfl, All2.nil, same_new hDB⟩ ?_ ?_
      · rintro k Hd hk ⟨acc, hd, hal, aa, sd⟩
        have ek : (0 : Int) + (k : Nat) = ((k : Nat) : Int) := Int.zero_add _
        rw [ek]
        refine ⟨rfl, tyes ?_⟩
        refine ⟨_, rfl, _, _, rfl, rfl, (by show 2 ≤ sizeLine; decide), fun b hb => ?_⟩
        have sb : Same Hd (upd Hd b (.tup [.int (k : Nat), .int (0 - 1)])) := same_new hb
        refine ⟨acc, sb _ _ hd, small1000 (by omega), acc ++ [.ref b], upd_same, by rw [List.length_append, hal]; rfl, ?_, same_mut (sd.trans sb) hDB⟩
        have t' := TK.lst (o := .lst (acc ++ [.ref b])) (sb _ _ hd)
        rw [List.range_succ, List.map_append]
        exact (aa.imp fun _ _ z => (z.tk (TK.same sb)).tk t').snoc (TnV.tk t' ⟨b, rfl, .inl (.inl upd_same)⟩)
      rintro H10 ⟨acc2, hc10, _, aa2, s10⟩
      have D10 := D9.trans (Dr.ofSame D9.well s10)
      have al1 : acc1.length = ws.length := by rw [aa1.1, List.length_map, List.length_range]
      have al2 : acc2.length = ws.length := by rw [aa2.1, List.length_map, List.length_range]
      refine ⟨DA, DB, acc1, acc2, rfl, rfl, s10 _ _ hc9, hc10, (Nat.le_of_lt (small1000 (by omega))), fun lb hlb => ?_⟩
      have s11 : Same H10 (upd H10 lb (.lst (acc1 ++ acc2))) := same_new hlb
      have e11 : (upd H10 lb (.lst (acc1 ++ acc2))) lb = some (.lst (acc1 ++ acc2)) := upd_same
      generalize upd H10 lb (.lst (acc1 ++ acc2)) = H11 at s11 e11
      have D11 := D10.trans (Dr.ofSame D10.well s11)
      have ba : All2 (TnV K H11) (acc1 ++ acc2) ((List.range ws.length).map (fun p => ((p, 1) : Tn)) ++ (List.range ws.length).map (fun p => ((p, -1) : Tn))) := (aa1.imp fun _ _ z => (z.tk (TK.same s10)).tk (TK.same s11)).append (aa2.imp fun _ _ z => z.tk (TK.same s11))
      have bok : ∀ t' ∈ (List.range ws.length).map (fun p => ((p, 1) : Tn)) ++ (List.range ws.length).map (fun p => ((p, -1) : Tn)), TnOk ws.length t' := fun t' ht' => by
        rcases List.mem_append.mp ht' with z | z
        · obtain ⟨p, hp, rfl⟩ := List.mem_map.mp z
          exact ⟨List.mem_range.mp hp, .inl rfl⟩
        · obtain ⟨p, hp, rfl⟩ := List.mem_map.mp z
          exact ⟨List.mem_range.mp hp, .inr rfl⟩
      have bback : (t.1, -t.2) ∈ (List.range ws.length).map (fun p => ((p, 1) : Tn)) ++ (List.range ws.length).map (fun p => ((p, -1) : Tn)) := by
        rcases okt.2 with z | z
        · exact List.mem_append.mpr (.inr (List.mem_map.mpr ⟨t.1, List.mem_range.mpr okt.1, by rw [z]⟩))
        · exact List.mem_append.mpr (.inl (List.mem_map.mpr ⟨t.1, List.mem_range.mpr okt.1, by rw [z]; rfl⟩))
      generalize (List.range ws.length).map (fun p => ((p, 1) : Tn)) ++ (List.range ws.length).map (fun p => ((p, -1) : Tn)) = bs at ba bok bback
      have hbl : (acc1 ++ acc2).length ≤ 144 := by rw [List.length_append]; omega
      generalize acc1 ++ acc2 = bv at ba e11 hbl
      have s811 : Same H8 H11 := (s9.trans s10).trans s11
      refine gn_norm (σ' := [some (.ref wl), some (.ref lg), some (.ref lw), some (.ref lf), some (.int b0), some (.int (0 + (i : Nat))), some (.int (homeI gs (tEnds ws t).2)), u7, some (.ref lb), u9, u10]) rfl ?_
      -- some
      obtain ⟨k0, hk0⟩ := List.getElem?_of_mem bback
      refine ⟨_, rfl, lb, rfl, ⟨_, SqL.of e11⟩, fun DC hDC => ?_⟩
      refine lc_list (K := K) (a := lb) (xs := bv) (fun k Hd => ∃ acc fs, Hd DC = some (.lst acc) ∧ acc.length ≤ k ∧ All2 (TnV K Hd) acc fs ∧ (∀ t' ∈ fs, TnOk ws.length t') ∧ (k0 < k → fs ≠ []) ∧ Same H11 Hd) ⟨[], [], upd_same, Nat.le_refl _, All2.nil, (fun t' h => by cases h), fun h => absurd h (Nat.not_lt_zero _), same_new hDC⟩ (fun k Hd _ ⟨_, _, _, _, _, _, _, sd⟩ => SqL.of (sd _ _ e11)) ?_ ?_
      · rintro k x Hd hx ⟨acc, fs, hd, hal, fa, fok, fne, sd⟩
        obtain ⟨t2, ht2, tn2⟩ := ba.get hx
        have ok2 := bok t2 (List.mem_of_getElem? ht2)
        have D12 := D11.trans (Dr.ofSame D11.well sd)
        have hkl : k < bv.length := (List.getElem?_eq_some_iff.mp hx).1
        refine ⟨rfl, ?_⟩
        refine ⟨_, rfl, _, rfl, _, rfl, lg, lw, x, gs, ws, t2, rfl, LGd D12, LWd D12, tn2.tk (TK.same sd), ok2, N, fun l9 H13 s13 e13 => ?_⟩
        refine ⟨l9, _, 0, _, rfl, rfl, SqL.of e13, atI_nat (j := 0) rfl, _, rfl, rfl, _, rfl, ite2 (fun e => ?_) (fun e => ?_)⟩
        · refine ⟨_, rfl, acc, s13 _ _ hd, small1000 (by omega), acc ++ [x], fs ++ [t2], upd_same, by rw [List.length_append]; show _ + 1 ≤ _; omega, ?_, fun t' ht' => ?_, fun _ z => by simp at z, same_mut (sd.trans s13) hDC⟩
          · have t' := TK.lst (o := .lst (acc ++ [x])) (s13 _ _ hd)
            exact (fa.imp fun _ _ z => (z.tk (TK.same s13)).tk t').snoc (((tn2.tk (TK.same sd)).tk (TK.same s13)).tk t')
          · rcases List.mem_append.mp ht' with z | z
            · exact fok t' z
            · rw [List.mem_singleton.mp z]
              exact ok2
        · refine ⟨acc, fs, s13 _ _ hd, by omega, fa.imp fun _ _ z => z.tk (TK.same s13), fok, fun z => ?_, sd.trans s13⟩
          rcases Nat.lt_succ_iff_lt_or_eq.mp z with z2 | z2
          · exact fne z2
          · exfalso
            rw [z2, ht2] at hk0
            cases hk0
            exact e (decide_eq_true (by rw [tEnds_back okt.2]))
      rintro H12 ⟨acc3, fs, hc12, hal12, fa, fok, fne, s12⟩
      have hfne : fs ≠ [] := fne (by rw [ba.1]; exact (List.getElem?_eq_some_iff.mp hk0).1)
      have hfl : 0 < acc3.length := by rw [fa.1]; exact List.length_pos_iff.mpr hfne
      have D12 := D11.trans (Dr.ofSame D11.well s12)
      have sc12 := (s8.trans s811).trans s12
      refine gn_norm (σ' := [some (.ref wl), some (.ref lg), some (.ref lw), some (.ref lf), some (.int b0), some (.int (0 + (i : Nat))), some (.int (homeI gs (tEnds ws t).2)), u7, some (.ref lb), u9, some (.ref DC)]) rfl ?_
      have nDC : DC ≠ wl := (D11.well.ne hDC).symm
      have ta12 := ta.imp fun _ _ z => TnV.tk (TK.same sc12) z
      have ef12 := sc12 _ _ ef
      have pick : ∀ (d : Int), 0 ≤ d → d < (acc3.length : Int) → ∃ (x : V) (t2 : Tn), atI acc3 d = some x ∧ TnV K H12 x t2 ∧ TnOk ws.length t2 := fun d h0 h1 => by
        obtain ⟨j, rfl⟩ : ∃ j : Nat, d = (j : Int) := ⟨d.toNat, by omega⟩
        have hj : j < acc3.length := by omega
        have hj2 : j < fs.length := by rw [← fa.1]; exact hj
        exact ⟨acc3[j], fs[j], atI_nat (List.getElem?_eq_getElem hj), fa.2 j _ _ (List.getElem?_eq_getElem hj) (List.getElem?_eq_getElem hj2), fok _ (List.getElem_mem hj2)⟩
      have hal3 : acc3.length ≤ 1000 := by omega
      have fin : ∀ {Hy : Hp} {x : V} {t2 : Tn}, Dr wl H12 Hy → TnV K H12 x t2 → TnOk ws.length t2 → ∃ (vs'' : List V) (ts'' : List Tn) (v' : V) (t' : Tn), (vs' ++ [v]) ++ [x] = vs'' ++ [v'] ∧ Dr wl H (upd Hy lf (.lst ((vs' ++ [v]) ++ [x]))) ∧ All2 (TnV K (upd Hy lf (.lst ((vs' ++ [v]) ++ [x])))) (vs'' ++ [v']) (ts'' ++ [t']) ∧ (ts'' ++ [t']).length ≤ i + 1 + 1 ∧ ∀ t3 ∈ ts'' ++ [t'], TnOk ws.length t3 := fun {Hy x t2} dy tx ox => by
        have tk1 : TK H12 Hy := TK.dr D12.well dy.but
        have efy := dy.but _ _ nlf ef12
        have tk2 : TK Hy (upd Hy lf (.lst ((vs' ++ [v]) ++ [x]))) := TK.lst efy
        refine ⟨vs' ++ [v], ts' ++ [t], x, t2, rfl, (D12.trans dy).mut hlf0 nlf, (ta12.imp fun _ _ z => (TnV.tk tk1 z).tk tk2).snoc ((tx.tk tk1).tk tk2), by rw [List.length_append]; show _ + 1 ≤ _; omega, fun t3 h3 => ?_⟩
        rcases List.mem_append.mp h3 with z | z
        · exact tok t3 z
        · rw [List.mem_singleton.mp z]
          exact ox
      refine ⟨_, rfl, _, rfl, rfl, _, rfl, ite2 (fun _ => ?_) (fun _ => ?_)⟩
      · refine ⟨_, rfl, .inl ⟨rfl, _, SqL.of ef12⟩, _, rfl, _, rfl, _, rfl, DC, acc3, rfl, .inl (SqL.of hc12), wl, _, rfl, by omega, by omega, D12.well, fun d4 H14 d40 d41 E14 => ?_⟩
        obtain ⟨x, t2, ax, tx, ox⟩ := pick d4 d40 d41
        obtain ⟨vs'', ts'', v', t', ee, Dz, az, lz, oz⟩ := fin E14 tx ox
        refine ⟨DC, _, d4, x, rfl, rfl, SqL.of (E14.but _ _ nDC hc12), ax, lf, _, _, rfl, rfl, E14.but _ _ nlf ef12, small1000 (by rw [ta.1]; omega), ?_⟩
        exact ⟨_, _, _, _, _, _, vs'', ts'', v', t', rfl, Dz, by rw [upd_same, ee], az, lz, oz⟩
      · refine ⟨_, rfl, wl, 2, rfl, by decide, by decide, D12.well, fun d5 H15 d50 d51 E15 => ⟨rfl, _, rfl, ite2 (fun _ => ?_) (fun _ => ?_)⟩⟩
        · refine ⟨_, rfl, .inl ⟨rfl, _, SqL.of (E15.but _ _ nlf ef12)⟩, _, rfl, _, rfl, _, rfl, DC, acc3, rfl, .inl (SqL.of (E15.but _ _ nDC hc12)), wl, _, rfl, by omega, by omega, E15.well, fun d4 H14 d40 d41 E14 => ?_⟩
          obtain ⟨x, t2, ax, tx, ox⟩ := pick d4 d40 d41
          have E2 := E15.trans E14
          obtain ⟨vs'', ts'', v', t', ee, Dz, az, lz, oz⟩ := fin E2 tx ox
          refine ⟨DC, _, d4, x, rfl, rfl, SqL.of (E2.but _ _ nDC hc12), ax, lf, _, _, rfl, rfl, E2.but _ _ nlf ef12, small1000 (by rw [ta.1]; omega), ?_⟩
          exact ⟨_, _, _, _, _, _, vs'', ts'', v', t', rfl, Dz, by rw [upd_same, ee], az, lz, oz⟩
        · exact ⟨_, _, _, _, _, _, vs', ts', v, t, rfl, D12.trans E15, E15.but _ _ nlf ef12, ta12.imp fun _ _ z => TnV.tk (TK.dr D12.well E15.but) z, by omega, tok⟩
    · rintro σ H13 ⟨u5, u6, u7, u8, u9, u10, vs', ts', v, t, rfl, Dc, ef, ta, tl, tok⟩
      exact ⟨_, rfl, q lf _ _ H13 Dc hlf0 ef ta (by simp) (by omega) tok⟩
end
end Lag

set_option maxRecDepth 100000
set_option maxHeartbeats 8000000
namespace Lag
open PySem PySem.Spec PyProof.Rows L2
abbrev sSpoilt : Stmt := topS 52 -- @_law_spoilt
structure Txt (k b : Nat) (d : PyData) : Prop where
  sh : Sh k d
  sw : d.showable = true
  si : d.leavesShort 13 = true
  bl : d.bulk ≤ b
theorem Txt.int {k b : Nat} {i : Int} (h0 : -1000 ≤ i) (h1 : i ≤ 1000) : Txt k b (.int i) := by
  refine ⟨sh_int i, ?_, ?_, Nat.zero_le _⟩
  · show decide (i.natAbs.log2 < 1920) = true
    refine decide_eq_true ?_
    by_cases h : i.natAbs = 0
    · rw [h]
      decide
    · refine Nat.lt_of_lt_of_le ((Nat.log2_lt h).mpr (show i.natAbs < 2 ^ 10 by omega)) (by decide)
  · show decide ((PyData.shown (.int i)).length ≤ 13) = true
    exact decide_eq_true (PyData.shown_int_le2 (by omega) (by omega))
theorem txt_all {b : Nat} : ∀ {ds : List PyData}, (∀ d ∈ ds, d.showable = true ∧ d.leavesShort 13 = true ∧ d.bulk ≤ b) → PyData.showableAll ds = true ∧ PyData.leavesShortAll 13 ds = true ∧ PyData.bulkAll ds ≤ ds.length * (b + 1)
  | [], _ => ⟨rfl, rfl, Nat.zero_le _⟩
  | d :: ds, h => by
    obtain ⟨h1, h2, h3⟩ := h d (List.mem_cons_self ..)
    obtain ⟨k1, k2, k3⟩ := txt_all fun e he => h e (List.mem_cons_of_mem _ he)
    refine ⟨?_, ?_, ?_⟩
    · show (d.showable && PyData.showableAll ds) = true
      rw [h1, k1]
      rfl
    · show (d.leavesShort 13 && PyData.leavesShortAll 13 ds) = true
      rw [h2, k2]
      rfl
    · show d.bulk + 1 + PyData.bulkAll ds ≤ (ds.length + 1) * (b + 1)
      rw [Nat.succ_mul]
      omega
theorem Txt.list {k b n : Nat} {ds : List PyData} (hn : ds.length ≤ n) (h : ∀ d ∈ ds, Txt k b d) : Txt (k + 1) (n * (b + 1)) (.list ds) := by
  obtain ⟨k1, k2, k3⟩ := txt_all (b := b) fun d hd => ⟨(h d hd).sw, (h d hd).si, (h d hd).bl⟩
  exact ⟨sh_list fun d hd => (h d hd).sh, k1, k2, Nat.le_trans k3 (Nat.mul_le_mul_right _ hn)⟩
theorem Txt.tuple {k b n : Nat} {ds : List PyData} (hn : ds.length ≤ n) (h : ∀ d ∈ ds, Txt k b d) : Txt (k + 1) (n * (b + 1)) (.tuple ds) := by
  obtain ⟨k1, k2, k3⟩ := txt_all (b := b) fun d hd => ⟨(h d hd).sw, (h d hd).si, (h d hd).bl⟩
  exact ⟨sh_tuple fun d hd => (h d hd).sh, k1, k2, Nat.le_trans k3 (Nat.mul_le_mul_right _ hn)⟩
theorem Txt.fits {k b : Nat} {d : PyData} (h : Txt k b d) (hb : b ≤ 1048576) : d.shown.length ≤ sizeLine := by
  have e : (2 : Nat) ^ 20 = 1048576 := by decide
  exact PyData.shown_fits_bulk (by decide) (by decide) h.si (Nat.le_trans h.bl (by rw [e]; exact hb))
theorem Txt.mono {k b b' : Nat} {d : PyData} (h : Txt k b d) (hb : b ≤ b') : Txt k b' d := ⟨h.sh, h.sw, h.si, Nat.le_trans h.bl hb⟩
theorem Txt.non {k b : Nat} : Txt k b .none := ⟨⟨rfl, Nat.zero_le _⟩, rfl, (by decide +kernel), Nat.zero_le _⟩
theorem Txt.boo {k b : Nat} (x : Bool) : Txt k b (.bool x) := ⟨⟨rfl, Nat.zero_le _⟩, rfl, (by cases x <;> decide +kernel), Nat.zero_le _⟩
mutual
theorem Dx.dp {K : PySem.W.Frag} {Av : Addr → Prop} {H : Hp} : ∀ (d : PyData) {v : V}, Dx K Av H v d → d.canLay0 = true → Dp K H v d
  | .none, _, h, _ => by cases h; exact .non
  | .bool _, _, h, _ => by cases h; exact .bl _
  | .int _, _, h, _ => by cases h; exact .int _
  | .str _, _, h, _ => by cases h; exact .str _
  | .list ds, _, h, e => by
    cases h with
    | lst q n a => exact .lst (SqL.of q) (DxAll.dp ds a (by simpa [PyData.canLay0] using e))
  | .tuple ds, _, h, e => by
    cases h with
    | tup q a => exact .tup q (DxAll.dp ds a (by simpa [PyData.canLay0] using e))
  | .dict _, _, _, e => by cases e
theorem DxAll.dp {K : PySem.W.Frag} {Av : Addr → Prop} {H : Hp} : ∀ (ds : List PyData) {vs : List V}, DxAll K Av H vs ds → PyData.canLayAll0 ds = true → DpAll K H vs ds
  | [], _, h, _ => by cases h; exact .nil
  | d :: ds, _, h, e => by
    cases h with
    | cons a b =>
      have e' : d.canLay0 = true ∧ PyData.canLayAll0 ds = true := by simpa [PyData.canLayAll0] using e
      exact .cons (Dx.dp d a e'.1) (DxAll.dp ds b e'.2)
end
/-- a thing that can be shown, and compared where it is a list -/
structure Rs (K : PySem.W.Frag) (H : Hp) (v : V) (d : PyData) : Prop where
  x : Dx K Any H v d
  sw : d.showable = true
  dd : d.depth < 64
  sz : d.shown.length ≤ sizeLine
  l : ∀ ds, d = .list ds → ds.length ≤ 400 ∧ Dp K H v d ∧ SeqAt.shaped d = true
theorem Rs.of {K : PySem.W.Frag} {Av : Addr → Prop} {H : Hp} {v : V} {d : PyData} {k b : Nat} (h : Dx K Av H v d) (t : Txt k b d) (hk : k ≤ 60) (hb : b ≤ 1048576) (hl : ∀ ds, d = .list ds → ds.length ≤ 400) : Rs K H v d :=
  ⟨h.any, t.sw, by have := t.sh.2; omega, t.fits hb, fun ds e => ⟨hl ds e, Dx.dp d h t.sh.1, t.sh.ok (by omega)⟩⟩
def tnD (t : Tn) : PyData := .tuple [.int (t.1 : Nat), .int t.2]
theorem tnV_dx {K : PySem.W.Frag} {Av : Addr → Prop} {H : Hp} {v : V} {t : Tn} (h : TnV K H v t) : Dx K Av H v (tnD t) := by
  obtain ⟨a, rfl, s⟩ := h
  exact .tup s (.cons (.int _) (.cons (.int _) .nil))
theorem two_txt {x y : PyData} (hx : Txt 0 0 x) (hy : Txt 0 0 y) : Txt 1 3 (.tuple [x, y]) := by
  refine (Txt.tuple (k := 0) (b := 0) (n := 2) (Nat.le_refl _) fun e he => ?_).mono (by decide)
  simp only [List.mem_cons, List.not_mem_nil, or_false] at he
  rcases he with rfl | rfl
  · exact hx
  · exact hy
/-- a list of things, its items data whose lists are not the well -/
def OL (K : PySem.W.Frag) (wl : Addr) (H : Hp) (vs : List V) (ds : List PyData) : Prop := All2 (Dx K (· ≠ wl) H) vs ds ∧ ∀ d ∈ ds, Txt 1 3 d
theorem OL.rs {K : PySem.W.Frag} {wl l : Addr} {H : Hp} {vs : List V} {ds : List PyData} (h : OL K wl H vs ds) (e : H l = some (.lst vs)) (hl : ds.length ≤ 40) : Rs K H (.ref l) (.list ds) := by
  have a : All2 (Dx K Any H) vs ds := h.1.imp fun _ _ z => z.any
  exact Rs.of (k := 2) (b := 160) (.lst e trivial (DxAll.from2 a)) ((Txt.list (k := 1) (b := 3) (n := 40) hl h.2)) (by decide) (by decide) fun ds' z => by
    cases z
    omega
theorem OL.move {K : PySem.W.Frag} {wl : Addr} {H H' : Hp} {vs : List V} {ds : List PyData} (h : OL K wl H vs ds) (m : XM K (· ≠ wl) (· ≠ wl) H H') : OL K wl H' vs ds := ⟨h.1.imp fun _ d z => Dx.move m d z, h.2⟩
theorem OL.same {K : PySem.W.Frag} {wl : Addr} {H H' : Hp} {vs : List V} {ds : List PyData} (h : OL K wl H vs ds) (s : Same H H') : OL K wl H' vs ds := h.move (.same s)
theorem OL.dr {K : PySem.W.Frag} {wl : Addr} {H H' : Hp} {vs : List V} {ds : List PyData} (h : OL K wl H vs ds) (W : WellAt wl H) (d : Dr wl H H') : OL K wl H' vs ds := h.move (.dr W d)
theorem OL.take {K : PySem.W.Frag} {wl : Addr} {H : Hp} {vs : List V} {ds : List PyData} (h : OL K wl H vs ds) (n : Nat) : OL K wl H (vs.take n) (ds.take n) := ⟨h.1.take n, fun d hd => h.2 d (List.mem_of_mem_take hd)⟩
theorem OL.drop {K : PySem.W.Frag} {wl : Addr} {H : Hp} {vs : List V} {ds : List PyData} (h : OL K wl H vs ds) (n : Nat) : OL K wl H (vs.drop n) (ds.drop n) := ⟨h.1.drop n, fun d hd => h.2 d (List.mem_of_mem_drop hd)⟩
theorem OL.app {K : PySem.W.Frag} {wl : Addr} {H : Hp} {vs vs' : List V} {ds ds' : List PyData} (h : OL K wl H vs ds) (h' : OL K wl H vs' ds') : OL K wl H (vs ++ vs') (ds ++ ds') := ⟨h.1.append h'.1, fun d hd => (List.mem_append.mp hd).elim (h.2 d) (h'.2 d)⟩
theorem OL.one {K : PySem.W.Frag} {wl : Addr} {H : Hp} {v : V} {d : PyData} (h : Dx K (· ≠ wl) H v d) (t : Txt 1 3 d) : OL K wl H [v] [d] := ⟨(All2.nil.snoc h : All2 _ ([] ++ [v]) ([] ++ [d])), fun e he => by rw [List.mem_singleton.mp he]; exact t⟩
theorem OL.cons {K : PySem.W.Frag} {wl : Addr} {H : Hp} {v : V} {d : PyData} {vs : List V} {ds : List PyData} (h : Dx K (· ≠ wl) H v d) (t : Txt 1 3 d) (r : OL K wl H vs ds) : OL K wl H (v :: vs) (d :: ds) := (OL.one h t).app r
theorem OL.nil {K : PySem.W.Frag} {wl : Addr} {H : Hp} : OL K wl H [] [] := ⟨All2.nil, fun d h => by cases h⟩
theorem OL.get {K : PySem.W.Frag} {wl : Addr} {H : Hp} {vs : List V} {ds : List PyData} (h : OL K wl H vs ds) {j : Nat} (hj : j < vs.length) : ∃ v d, vs[j]? = some v ∧ Dx K (· ≠ wl) H v d ∧ Txt 1 3 d := by
  have hj2 : j < ds.length := by rw [← h.1.1]; exact hj
  exact ⟨_, _, List.getElem?_eq_getElem hj, h.1.2 j _ _ (List.getElem?_eq_getElem hj) (List.getElem?_eq_getElem hj2), h.2 _ (List.getElem_mem hj2)⟩
theorem OL.rev {K : PySem.W.Frag} {wl : Addr} {H : Hp} {vs : List V} {ds : List PyData} (h : OL K wl H vs ds) : OL K wl H vs.reverse ds.reverse := by
  refine ⟨⟨by rw [List.length_reverse, List.length_reverse, h.1.1], fun i x y hx hy => ?_⟩, fun d hd => h.2 d (List.mem_reverse.mp hd)⟩
  have hi : i < vs.length := by have := (List.getElem?_eq_some_iff.mp hx).1; rw [List.length_reverse] at this; exact this
  rw [List.getElem?_reverse hi] at hx
  rw [List.getElem?_reverse (by rw [← h.1.1]; exact hi), ← h.1.1] at hy
  exact h.1.2 _ x y hx hy
def spSpoilt (K : PySem.W.Frag) : Sp := fun vs H Q _ => ∃ (wl lf : Addr) (many : Nat) (vs' : List V) (ts : List Tn), vs = [.ref wl, .int (many : Nat), .ref lf] ∧ WellAt wl H ∧ lf ≠ wl ∧ H lf = some (.lst vs') ∧ All2 (TnV K H) vs' ts ∧ ts ≠ [] ∧ ts.length ≤ 10 ∧ 0 < many ∧ many ≤ 100 ∧ (∀ t ∈ ts, TnOk many t) ∧ ∀ v d H', Dr wl H H' → Rs K H' v d → Q v H'
section
variable {P : Program} {w : World} {K : PySem.W.Frag} {mg : Str → Option Value} {base : Heap}
abbrev nSpoilt : List Str := ["_law_state", "_law_many", "_law_thing", "_law_way", "_law_place", "_law_wire", "_law_side", "_law_odd"]
theorem scSpoilt : FnScope nSpoilt ["_law_state", "_law_many", "_law_thing"] (defScope sSpoilt) := ⟨rfl, rfl, rfl, by decide +kernel, rfl, by decide +kernel, by decide +kernel⟩
abbrev DSpoilt (P : Program) (w : World) (K : PySem.W.Frag) (mg : Str → Option Value) (base : Heap) := Df P w K mg base 2 "_law_spoilt" ["_law_state", "_law_many", "_law_thing"] (spSpoilt K)
theorem ok_spoilt {f fD : Addr} {fd fdD : FuncData} (F : Fun K "_law_spoilt" "_law_spoilt" sSpoilt f fd) (hm : mg "_law_spoilt" = some (.ref f)) (B : Bt mg) (DD : DDraw P w K mg base fD fdD) : DSpoilt P w K mg base f fd := by
  refine ⟨?_, hm, F.kp, F.binds fun _ _ _ _ _ _ us hl => match us, hl with | [_, _, _], _ => rfl⟩
  refine F.ok scSpoilt (fun vs H Q E h => ?_) (fun cdv A outer s H vs Q E hr h => ?_)
  · obtain ⟨wl, lf, many, vs', ts, rfl, _⟩ := h
    rfl
  · obtain ⟨wl, lf, many, vs', ts, rfl, hw, nlf, hlf, ta, tne, tl, hm0, hm1, tok, q⟩ := h
    have nd := scSpoilt.nd
    refine ⟨_, pss_cons (ps_set (i := 3) nd rfl (.inl rfl) (pe_call DD.ok (hr.mono (by decide)) (by rfl) DD.mg DD.kp DD.bd .nil pass0 (pa_cons (pv 0) (pa_cons pe_int pa_nil)))) <|
        pss_cons (ps_set (i := 4) nd rfl (.inl rfl) (pe_call DD.ok (hr.mono (by decide)) (by rfl) DD.mg DD.kp DD.bd .nil pass0 (pa_cons (pv 0) (pa_cons (pe_callB call_len_seq (by rfl) B.len PySem.boot_len (pa_cons (pv 2) pa_nil)) pa_nil)))) <|
        pss_cons (ps_asg (pe_ix ix_list (pv 2) (pv 4) (fun _ _ => rfl)) (pg_tup rfl (pgs_cons (pg_name (i := 5) nd rfl (.inl rfl)) (pgs_cons (pg_name (i := 6) nd rfl (.inl rfl)) pgs_nil)))) <|
        pss_cons (ps_set (i := 7) nd rfl (.inl rfl) (pe_lst (pa_cons (pe_tup (pa_cons (pe_call DD.ok (hr.mono (by decide)) (by rfl) DD.mg DD.kp DD.bd .nil pass0 (pa_cons (pv 0) (pa_cons (pv 1) pa_nil))) (pa_cons (pv 6) pa_nil))) (pa_cons (pe_tup (pa_cons (pv 5) (pa_cons (pe_op op_sub pe_int (pv 6)) pa_nil))) (pa_cons (pe_tup (pa_cons (pv 5) (pa_cons pe_int pa_nil))) (pa_cons (pe_tup (pa_cons (pv 5) (pa_cons pe_bl pa_nil))) (pa_cons (pe_tup (pa_cons pe_bl (pa_cons (pv 6) pa_nil))) (pa_cons (pe_lst (pa_cons (pv 5) (pa_cons (pv 6) pa_nil))) (pa_cons pe_non pa_nil))))))))) <|
        pss_cons (ps_set (i := 7) nd rfl (.inl rfl) (pe_op op_cat (pv 7) (pe_lst (pa_cons (pe_tup (pa_cons (pv 1) (pa_cons (pv 6) pa_nil))) (pa_cons (pe_tup (pa_cons (pe_op op_sub pe_int pe_int) (pa_cons (pv 6) pa_nil))) (pa_cons (pe_tup (pa_cons (pv 5) pa_nil)) (pa_cons (pe_tup (pa_cons (pv 5) (pa_cons (pv 6) (pa_cons pe_int pa_nil)))) (pa_cons (pe_tup (pa_cons (pv 5) (pa_cons pe_int pa_nil))) pa_nil)))))))) <|
        pss_cons (ps_if (pt_cmpR op_eq (pv 3) pe_int (nomark _)) (pss_one (ps_ret (pe_op op_cat (pe_slice sl_list (pv 2) po_none (po_some (pv 4))) (pe_slice sl_list (pv 2) (po_some (pe_op op_add (pv 4) pe_int)) po_none)))) pss_nil) <|
        pss_cons (ps_if (pt_cmpR op_eq (pv 3) pe_int (nomark _)) (pss_one (ps_ret (pe_op op_cat (pe_op op_cat (pe_slice sl_list (pv 2) po_none (po_some (pv 4))) (pe_lst (pa_cons (pe_ix ix_list (pv 2) (pv 4) (fun _ _ => rfl)) pa_nil))) (pe_slice sl_list (pv 2) (po_some (pv 4)) po_none)))) pss_nil) <|
        pss_cons (ps_if (pt_cmpR op_eq (pv 3) pe_int (nomark _)) (pss_one (ps_ret (pe_revL (pv 2) (pe_un un_neg pe_int)))) pss_nil) <|
        pss_cons (ps_if (pt_cmpR op_eq (pv 3) pe_int (nomark _)) (pss_one (ps_ret (pe_ix ix_list (pe_lst (pa_cons (pe_callTy call_tuple_of (by rfl) B.tuple (by decide +kernel) (pa_cons (pv 2) pa_nil)) (pa_cons pe_non (pa_cons (pe_lst pa_nil) (pa_cons pe_str (pa_cons pe_dnewK (pa_cons pe_int pa_nil))))))) (pe_call DD.ok (hr.mono (by decide)) (by rfl) DD.mg DD.kp DD.bd .nil pass0 (pa_cons (pv 0) (pa_cons pe_int pa_nil))) (fun _ _ => rfl)))) pss_nil) <|
        pss_cons (ps_if (pt_cmpR op_eq (pv 3) pe_int (nomark _)) (pss_one (ps_ret (pe_op op_cat (pe_slice sl_list (pv 2) (po_some (pv 4)) po_none) (pe_slice sl_list (pv 2) po_none (po_some (pv 4)))))) pss_nil) <|
        pss_one (ps_ret (pe_op op_cat (pe_op op_cat (pe_slice sl_list (pv 2) po_none (po_some (pv 4))) (pe_lst (pa_cons (pe_ix ix_list (pv 7) (pe_call DD.ok (hr.mono (by decide)) (by rfl) DD.mg DD.kp DD.bd .nil pass0 (pa_cons (pv 0) (pa_cons pe_int pa_nil))) (fun _ _ => rfl)) pa_nil))) (pe_slice sl_list (pv 2) (po_some (pe_op op_add (pv 4) pe_int)) po_none))), ?_⟩
    have hvl : vs'.length = ts.length := ta.1
    have hpos : 0 < ts.length := List.length_pos_iff.mpr tne
    -- way, place
    refine ⟨_, rfl, wl, 8, rfl, by decide, by decide, hw, fun d1 H1 d10 d11 D1 => ?_⟩
    refine gn_norm (σ' := [some (.ref wl), some (.int (many : Nat)), some (.ref lf), some (.int d1), none, none, none, none]) rfl ?_
    refine ⟨_, rfl, _, rfl, lf, vs', rfl, .inl (SqL.of (D1.but _ _ nlf hlf)), wl, _, rfl, by omega, by omega, D1.well, fun d2 H2 d20 d21 E2 => ?_⟩
    have D2 := D1.trans E2
    obtain ⟨pN, epN⟩ : ∃ n : Nat, d2 = (n : Int) := ⟨d2.toNat, by omega⟩
    subst epN
    have hpN : pN < ts.length := by omega
    refine gn_norm (σ' := [some (.ref wl), some (.int (many : Nat)), some (.ref lf), some (.int d1), some (.int (pN : Nat)), none, none, none]) rfl ?_
    obtain ⟨t, ht⟩ : ∃ t, ts[pN]? = some t := ⟨_, List.getElem?_eq_getElem hpN⟩
    obtain ⟨v0, hv0, a0, rfl, sq0⟩ := ta.getR ht
    have okt := tok t (List.mem_of_getElem? ht)
    have hlf2 := D2.but _ _ nlf hlf
    refine ⟨_, rfl, _, rfl, lf, vs', pN, .ref a0, rfl, rfl, SqL.of hlf2, atI_nat hv0, a0, _, rfl, (TK.dr hw D2.but).seq sq0, rfl, _, _, rfl, _, _, rfl, rfl, ?_⟩
    refine gn_norm (σ' := [some (.ref wl), some (.int (many : Nat)), some (.ref lf), some (.int d1), some (.int (pN : Nat)), some (.int (t.1 : Nat)), some (.int t.2), none]) rfl ?_
    have OL2 : OL K wl H2 vs' (ts.map tnD) := by
      refine ⟨⟨by rw [List.length_map]; exact hvl, fun i x y hx hy => ?_⟩, fun d hd => ?_⟩
      · rw [List.getElem?_map] at hy
        cases e : ts[i]? with
        | none =>
          rw [e] at hy
          cases hy
        | some t' =>
          rw [e] at hy
          cases hy
          exact tnV_dx ((ta.2 i x t' hx e).tk (TK.dr hw D2.but))
      · obtain ⟨t', ht', rfl⟩ := List.mem_map.mp hd
        have ok := tok t' ht'
        have h1 := ok.1
        exact two_txt (.int (by omega) (by omega)) (.int (by rcases ok.2 with z | z <;> omega) (by rcases ok.2 with z | z <;> omega))
    have hdl : (ts.map tnD).length ≤ 10 := by rw [List.length_map]; exact tl
    generalize ts.map tnD = ds at OL2 hdl
    have hvl10 : vs'.length ≤ 10 := by omega
    have b2 : -1 ≤ t.2 ∧ t.2 ≤ 1 := by rcases okt.2 with z | z <;> omega
    have b1 := okt.1
    -- the odd ones
    refine ⟨_, rfl, _, rfl, wl, _, rfl, by omega, by omega, D2.well, fun d3 H3 d30 d31 E3 => ?_⟩
    have D3 := D2.trans E3
    refine ⟨_, rfl, (by show 2 ≤ sizeLine; decide), fun a1 ha1 => ?_⟩
    have O1 : OL K wl (upd H3 a1 (.tup [.int d3, .int t.2])) [.ref a1] [.tuple [.int d3, .int t.2]] := .one (.tup (.inl (.inl upd_same)) (.cons (.int _) (.cons (.int _) .nil))) (two_txt (.int (by omega) (by omega)) (.int (by omega) (by omega)))
    have S1 : Same H3 (upd H3 a1 (.tup [.int d3, .int t.2])) := same_new ha1
    generalize upd H3 a1 (.tup [.int d3, .int t.2]) = G1 at O1 S1
    refine ⟨_, rfl, _, rfl, _, _, rfl, rfl, (by show 2 ≤ sizeLine; decide), fun a2 ha2 => ?_⟩
    have S2 : Same G1 (upd G1 a2 (.tup [.int (t.1 : Nat), .int (0 - t.2)])) := same_new ha2
    have O2 := (O1.same S2).app (.one (v := .ref a2) (d := .tuple [.int (t.1 : Nat), .int (0 - t.2)]) (.tup (.inl (.inl upd_same)) (.cons (.int _) (.cons (.int _) .nil))) (two_txt (.int (by omega) (by omega)) (.int (by omega) (by omega))))
    generalize upd G1 a2 (.tup [.int (t.1 : Nat), .int (0 - t.2)]) = G2 at O2 S2
    refine ⟨_, rfl, (by show 2 ≤ sizeLine; decide), fun a3 ha3 => ?_⟩
    have S3 : Same G2 (upd G2 a3 (.tup [.int (t.1 : Nat), .int 0])) := same_new ha3
    have O3 := (O2.same S3).app (.one (v := .ref a3) (d := .tuple [.int (t.1 : Nat), .int 0]) (.tup (.inl (.inl upd_same)) (.cons (.int _) (.cons (.int _) .nil))) (two_txt (.int (by omega) (by omega)) (.int (by decide) (by decide))))
    generalize upd G2 a3 (.tup [.int (t.1 : Nat), .int 0]) = G3 at O3 S3
    refine ⟨_, rfl, (by show 2 ≤ sizeLine; decide), fun a4 ha4 => ?_⟩
    have S4 : Same G3 (upd G3 a4 (.tup [.int (t.1 : Nat), .bl true])) := same_new ha4
    have O4 := (O3.same S4).app (.one (v := .ref a4) (d := .tuple [.int (t.1 : Nat), .bool true]) (.tup (.inl (.inl upd_same)) (.cons (.int _) (.cons (.bl _) .nil))) (two_txt (.int (by omega) (by omega)) (.boo _)))
    generalize upd G3 a4 (.tup [.int (t.1 : Nat), .bl true]) = G4 at O4 S4
    refine ⟨_, rfl, (by show 2 ≤ sizeLine; decide), fun a5 ha5 => ?_⟩
    have S5 : Same G4 (upd G4 a5 (.tup [.bl true, .int t.2])) := same_new ha5
    have O5 := (O4.same S5).app (.one (v := .ref a5) (d := .tuple [.bool true, .int t.2]) (.tup (.inl (.inl upd_same)) (.cons (.bl _) (.cons (.int _) .nil))) (two_txt (.boo _) (.int (by omega) (by omega))))
    generalize upd G4 a5 (.tup [.bl true, .int t.2]) = G5 at O5 S5
    refine ⟨_, rfl, _, rfl, (by show 2 ≤ sizeLine; decide), fun a6 ha6 => ?_⟩
    have DG5 : Dr wl H G5 := D3.trans (Dr.ofSame D3.well ((((S1.trans S2).trans S3).trans S4).trans S5))
    have na6 : a6 ≠ wl := (DG5.well.ne ha6).symm
    have S6 : Same G5 (upd G5 a6 (.lst [.int (t.1 : Nat), .int t.2])) := same_new ha6
    have O6 := ((O5.same S6).app (.one (v := .ref a6) (d := .list [.int (t.1 : Nat), .int t.2]) (.lst upd_same na6 (.cons (.int _) (.cons (.int _) .nil))) ((Txt.list (k := 0) (b := 0) (n := 2) (Nat.le_refl _) fun e he => by
      simp only [List.mem_cons, List.not_mem_nil, or_false] at he
      rcases he with rfl | rfl
      · exact .int (by omega) (by omega)
      · exact .int (by omega) (by omega)).mono (by decide)))).app (.one (v := .non) (d := .none) .non .non)
    generalize upd G5 a6 (.lst [.int (t.1 : Nat), .int t.2]) = G6 at O6 S6
    refine ⟨(by show 7 ≤ sizeLine; decide), fun l7 hl7 => ?_⟩
    have S7 : Same G6 (upd G6 l7 (.lst [.ref a1, .ref a2, .ref a3, .ref a4, .ref a5, .ref a6, .non])) := same_new hl7
    have e7 : (upd G6 l7 (.lst [.ref a1, .ref a2, .ref a3, .ref a4, .ref a5, .ref a6, .non])) l7 = some (.lst [.ref a1, .ref a2, .ref a3, .ref a4, .ref a5, .ref a6, .non]) := upd_same
    have O7 := O6.same S7
    generalize upd G6 l7 (.lst [.ref a1, .ref a2, .ref a3, .ref a4, .ref a5, .ref a6, .non]) = G7 at S7 e7 O7
    refine gn_norm (σ' := [some (.ref wl), some (.int (many : Nat)), some (.ref lf), some (.int d1), some (.int (pN : Nat)), some (.int (t.1 : Nat)), some (.int t.2), some (.ref l7)]) rfl ?_
    refine ⟨_, rfl, _, rfl, _, rfl, (by show 2 ≤ sizeLine; decide), fun b1' hb1 => ?_⟩
    have T1 : Same G7 (upd G7 b1' (.tup [.int (many : Nat), .int t.2])) := same_new hb1
    have P1 : OL K wl (upd G7 b1' (.tup [.int (many : Nat), .int t.2])) [.ref b1'] [.tuple [.int (many : Nat), .int t.2]] := .one (.tup (.inl (.inl upd_same)) (.cons (.int _) (.cons (.int _) .nil))) (two_txt (.int (by omega) (by omega)) (.int (by omega) (by omega)))
    generalize upd G7 b1' (.tup [.int (many : Nat), .int t.2]) = J1 at T1 P1
    refine ⟨_, _, rfl, rfl, _, rfl, (by show 2 ≤ sizeLine; decide), fun b2' hb2 => ?_⟩
    have T2 : Same J1 (upd J1 b2' (.tup [.int (0 - 1), .int t.2])) := same_new hb2
    have P2 := (P1.same T2).app (.one (v := .ref b2') (d := .tuple [.int (0 - 1), .int t.2]) (.tup (.inl (.inl upd_same)) (.cons (.int _) (.cons (.int _) .nil))) (two_txt (.int (by decide) (by decide)) (.int (by omega) (by omega))))
    generalize upd J1 b2' (.tup [.int (0 - 1), .int t.2]) = J2 at T2 P2
    refine ⟨_, rfl, (by show 1 ≤ sizeLine; decide), fun b3' hb3 => ?_⟩
    have T3 : Same J2 (upd J2 b3' (.tup [.int (t.1 : Nat)])) := same_new hb3
    have P3 := (P2.same T3).app (.one (v := .ref b3') (d := .tuple [.int (t.1 : Nat)]) (.tup (.inl (.inl upd_same)) (.cons (.int _) .nil)) ((Txt.tuple (k := 0) (b := 0) (n := 1) (Nat.le_refl _) fun e he => by rw [List.mem_singleton.mp he]; exact .int (by omega) (by omega)).mono (by decide)))
    generalize upd J2 b3' (.tup [.int (t.1 : Nat)]) = J3 at T3 P3
    refine ⟨_, rfl, _, rfl, (by show 3 ≤ sizeLine; decide), fun b4' hb4 => ?_⟩
    have T4 : Same J3 (upd J3 b4' (.tup [.int (t.1 : Nat), .int t.2, .int 1])) := same_new hb4
    have P4 := (P3.same T4).app (.one (v := .ref b4') (d := .tuple [.int (t.1 : Nat), .int t.2, .int 1]) (.tup (.inl (.inl upd_same)) (.cons (.int _) (.cons (.int _) (.cons (.int _) .nil)))) ((Txt.tuple (k := 0) (b := 0) (n := 3) (Nat.le_refl _) fun e he => by
      simp only [List.mem_cons, List.not_mem_nil, or_false] at he
      rcases he with rfl | rfl | rfl
      · exact .int (by omega) (by omega)
      · exact .int (by omega) (by omega)
      · exact .int (by decide) (by decide)).mono (by decide)))
    generalize upd J3 b4' (.tup [.int (t.1 : Nat), .int t.2, .int 1]) = J4 at T4 P4
    refine ⟨_, rfl, (by show 2 ≤ sizeLine; decide), fun b5' hb5 => ?_⟩
    have T5 : Same J4 (upd J4 b5' (.tup [.int (t.1 : Nat), .int 2])) := same_new hb5
    have P5 := (P4.same T5).app (.one (v := .ref b5') (d := .tuple [.int (t.1 : Nat), .int 2]) (.tup (.inl (.inl upd_same)) (.cons (.int _) (.cons (.int _) .nil))) (two_txt (.int (by omega) (by omega)) (.int (by decide) (by decide))))
    generalize upd J4 b5' (.tup [.int (t.1 : Nat), .int 2]) = J5 at T5 P5
    have T15 : Same G7 J5 := (((T1.trans T2).trans T3).trans T4).trans T5
    refine ⟨(by show 5 ≤ sizeLine; decide), fun l8 hl8 => ?_⟩
    have S8 : Same J5 (upd J5 l8 (.lst [.ref b1', .ref b2', .ref b3', .ref b4', .ref b5'])) := same_new hl8
    have e8 : (upd J5 l8 (.lst [.ref b1', .ref b2', .ref b3', .ref b4', .ref b5'])) l8 = some (.lst [.ref b1', .ref b2', .ref b3', .ref b4', .ref b5']) := upd_same
    have O8 := (O7.same (T15.trans S8)).app (P5.same S8)
    have e78 := (T15.trans S8) _ _ e7
    generalize upd J5 l8 (.lst [.ref b1', .ref b2', .ref b3', .ref b4', .ref b5']) = G8 at S8 e8 O8 e78
    refine ⟨l7, l8, _, _, rfl, rfl, e78, e8, (by show 7 + 5 ≤ sizeLine; decide), fun l9 hl9 => ?_⟩
    have DG8 : Dr wl H G8 := DG5.trans (Dr.ofSame DG5.well (((S6.trans S7).trans T15).trans S8))
    have nl9 : l9 ≠ wl := (DG8.well.ne hl9).symm
    have S9 : Same G8 (upd G8 l9 (.lst ([.ref a1, .ref a2, .ref a3, .ref a4, .ref a5, .ref a6, .non] ++ [.ref b1', .ref b2', .ref b3', .ref b4', .ref b5']))) := same_new hl9
    have e9 : (upd G8 l9 (.lst ([.ref a1, .ref a2, .ref a3, .ref a4, .ref a5, .ref a6, .non] ++ [.ref b1', .ref b2', .ref b3', .ref b4', .ref b5']))) l9 = some (.lst ([.ref a1, .ref a2, .ref a3, .ref a4, .ref a5, .ref a6, .non] ++ [.ref b1', .ref b2', .ref b3', .ref b4', .ref b5'])) := upd_same
    have O9 := O8.same S9
    have e9 : (upd G8 l9 (.lst ([.ref a1, .ref a2, .ref a3, .ref a4, .ref a5, .ref a6, .non] ++ [.ref b1', .ref b2', .ref b3', .ref b4', .ref b5']))) l9 = some (.lst (([V.ref a1] ++ [V.ref a2] ++ [V.ref a3] ++ [V.ref a4] ++ [V.ref a5] ++ [V.ref a6] ++ [V.non]) ++ ([V.ref b1'] ++ [V.ref b2'] ++ [V.ref b3'] ++ [V.ref b4'] ++ [V.ref b5']))) := e9
    have DG9 := DG8.trans (Dr.ofSame DG8.well S9)
    have D3G9 : Same H3 _ := ((((((((((S1.trans S2).trans S3).trans S4).trans S5).trans S6).trans S7).trans T15).trans S8).trans S9))
    have o12 : (([V.ref a1] ++ [V.ref a2] ++ [V.ref a3] ++ [V.ref a4] ++ [V.ref a5] ++ [V.ref a6] ++ [V.non]) ++ ([V.ref b1'] ++ [V.ref b2'] ++ [V.ref b3'] ++ [V.ref b4'] ++ [V.ref b5'])).length = 12 := rfl
    generalize ([V.ref a1] ++ [V.ref a2] ++ [V.ref a3] ++ [V.ref a4] ++ [V.ref a5] ++ [V.ref a6] ++ [V.non]) ++ ([V.ref b1'] ++ [V.ref b2'] ++ [V.ref b3'] ++ [V.ref b4'] ++ [V.ref b5']) = ov at O9 e9 o12
    generalize upd G8 l9 (.lst ([.ref a1, .ref a2, .ref a3, .ref a4, .ref a5, .ref a6, .non] ++ [.ref b1', .ref b2', .ref b3', .ref b4', .ref b5'])) = G9 at S9 e9 O9 DG9 D3G9
    clear O1 O2 O3 O4 O5 O6 O7 O8 P1 P2 P3 P4 P5
    refine gn_norm (σ' := [some (.ref wl), some (.int (many : Nat)), some (.ref lf), some (.int d1), some (.int (pN : Nat)), some (.int (t.1 : Nat)), some (.int t.2), some (.ref l9)]) rfl ?_
    have hlf9 := DG9.but _ _ nlf hlf
    have OLt : OL K wl G9 vs' ds := (OL2.dr D2.well E3).same D3G9
    have fin : ∀ {Hz : Hp} {l : Addr} {us : List V} {es : List PyData}, Dr wl H Hz → OL K wl Hz us es → Hz l = some (.lst us) → es.length ≤ 40 → Q (.ref l) Hz := fun dz oz ez lz => q _ _ _ dz (oz.rs ez lz)
    have grow : ∀ {Hz : Hp} {c : Addr} {o : HO}, Dr wl H Hz → Hz c = none → Dr wl H (upd Hz c o) := fun dz hc => dz.trans (Dr.new dz.well hc)
    refine ⟨_, rfl, rfl, _, rfl, ite2 (fun _ => ?_) (fun _ => ?_)⟩
    · refine ⟨_, rfl, _, rfl, _, rfl, lf, vs', rfl, SqL.of hlf9, fun c1 hc1 => ?_⟩
      rw [cut_to]
      have s1 : Same G9 (upd G9 c1 (.lst (vs'.take pN))) := same_new hc1
      have f1 : (upd G9 c1 (.lst (vs'.take pN))) c1 = some (.lst (vs'.take pN)) := upd_same
      have x1 := grow (o := .lst (vs'.take pN)) DG9 hc1
      generalize upd G9 c1 (.lst (vs'.take pN)) = K1 at s1 f1 x1
      refine ⟨_, rfl, _, rfl, _, _, rfl, rfl, _, rfl, lf, vs', rfl, SqL.of (s1 _ _ hlf9), fun c2 hc2 => ?_⟩
      rw [show ((pN : Nat) : Int) + 1 = ((pN + 1 : Nat) : Int) from rfl, cut_from]
      have s2 : Same K1 (upd K1 c2 (.lst (vs'.drop (pN + 1)))) := same_new hc2
      have f2 : (upd K1 c2 (.lst (vs'.drop (pN + 1)))) c2 = some (.lst (vs'.drop (pN + 1))) := upd_same
      have x2 := grow (o := .lst (vs'.drop (pN + 1))) x1 hc2
      generalize upd K1 c2 (.lst (vs'.drop (pN + 1))) = K2 at s2 f2 x2
      refine ⟨c1, c2, _, _, rfl, rfl, s2 _ _ f1, f2, Nat.le_of_lt (small1000 (by rw [List.length_take, List.length_drop]; omega)), fun c3 hc3 => ?_⟩
      refine fin (es := ds.take pN ++ ds.drop (pN + 1)) (grow x2 hc3) (((OLt.take pN).app (OLt.drop (pN + 1))).same ((s1.trans s2).trans (same_new hc3))) upd_same ?_
      rw [List.length_append, List.length_take, List.length_drop]
      omega
    refine ⟨_, rfl, rfl, _, rfl, ite2 (fun _ => ?_) (fun _ => ?_)⟩
    · refine ⟨_, rfl, _, rfl, _, rfl, lf, vs', rfl, SqL.of hlf9, fun c1 hc1 => ?_⟩
      rw [cut_to]
      have s1 : Same G9 (upd G9 c1 (.lst (vs'.take pN))) := same_new hc1
      have f1 : (upd G9 c1 (.lst (vs'.take pN))) c1 = some (.lst (vs'.take pN)) := upd_same
      have x1 := grow (o := .lst (vs'.take pN)) DG9 hc1
      generalize upd G9 c1 (.lst (vs'.take pN)) = K1 at s1 f1 x1
      refine ⟨_, rfl, _, rfl, lf, vs', pN, .ref a0, rfl, rfl, SqL.of (s1 _ _ hlf9), atI_nat hv0, (by show 1 ≤ sizeLine; decide), fun c2 hc2 => ?_⟩
      have s2 : Same K1 (upd K1 c2 (.lst [.ref a0])) := same_new hc2
      have f2 : (upd K1 c2 (.lst [.ref a0])) c2 = some (.lst [.ref a0]) := upd_same
      have x2 := grow (o := .lst [.ref a0]) x1 hc2
      generalize upd K1 c2 (.lst [.ref a0]) = K2 at s2 f2 x2
      refine ⟨c1, c2, _, _, rfl, rfl, s2 _ _ f1, f2, Nat.le_of_lt (small1000 (by rw [List.length_take]; show _ + 1 ≤ _; omega)), fun c3 hc3 => ?_⟩
      have s3 : Same K2 (upd K2 c3 (.lst (vs'.take pN ++ [.ref a0]))) := same_new hc3
      have f3 : (upd K2 c3 (.lst (vs'.take pN ++ [.ref a0]))) c3 = some (.lst (vs'.take pN ++ [.ref a0])) := upd_same
      have x3 := grow (o := .lst (vs'.take pN ++ [.ref a0])) x2 hc3
      generalize upd K2 c3 (.lst (vs'.take pN ++ [.ref a0])) = K3 at s3 f3 x3
      have s13 := (s1.trans s2).trans s3
      refine ⟨_, rfl, _, rfl, _, rfl, lf, vs', rfl, SqL.of (s13 _ _ hlf9), fun c4 hc4 => ?_⟩
      rw [cut_from]
      have s4 : Same K3 (upd K3 c4 (.lst (vs'.drop pN))) := same_new hc4
      have f4 : (upd K3 c4 (.lst (vs'.drop pN))) c4 = some (.lst (vs'.drop pN)) := upd_same
      have x4 := grow (o := .lst (vs'.drop pN)) x3 hc4
      generalize upd K3 c4 (.lst (vs'.drop pN)) = K4 at s4 f4 x4
      refine ⟨c3, c4, _, _, rfl, rfl, s4 _ _ f3, f4, Nat.le_of_lt (small1000 (by rw [List.length_append, List.length_take, List.length_drop]; show _ + 1 + _ ≤ _; omega)), fun c5 hc5 => ?_⟩
      obtain ⟨v1, dd1, hv1, hx1, ht1⟩ := OLt.get (j := pN) (by omega)
      rw [hv0] at hv1
      cases hv1
      refine fin (es := ds.take pN ++ [dd1] ++ ds.drop pN) (grow x4 hc5) ((((OLt.take pN).app (.one hx1 ht1)).app (OLt.drop pN)).same ((s13.trans s4).trans (same_new hc5))) upd_same ?_
      rw [List.length_append, List.length_append, List.length_take, List.length_drop]
      show _ + 1 + _ ≤ _
      omega
    refine ⟨_, rfl, rfl, _, rfl, ite2 (fun _ => ?_) (fun _ => ?_)⟩
    · exact ⟨_, rfl, _, rfl, lf, vs', rfl, rfl, SqL.of hlf9, fun c hc => fin (es := ds.reverse) (grow DG9 hc) (OLt.rev.same (same_new hc)) upd_same (by rw [List.length_reverse]; omega)⟩
    refine ⟨_, rfl, rfl, _, rfl, ite2 (fun _ => ?_) (fun _ => ?_)⟩
    · refine ⟨_, rfl, lf, _, rfl, .inl ⟨SqL.of hlf9, fun tp htp => ?_⟩⟩
      have s1 : Same G9 (upd G9 tp (.tup vs')) := same_new htp
      have f1 : (upd G9 tp (.tup vs')) tp = some (.tup vs') := upd_same
      have x1 := grow (o := .tup vs') DG9 htp
      generalize upd G9 tp (.tup vs') = K1 at s1 f1 x1
      refine ⟨(by show 0 ≤ sizeLine; decide), fun c2 hc2 => ?_⟩
      have s2 : Same K1 (upd K1 c2 (.lst [])) := same_new hc2
      have f2 : (upd K1 c2 (.lst [])) c2 = some (.lst []) := upd_same
      have x2 := grow (o := .lst []) x1 hc2
      have nc2 : c2 ≠ wl := (x1.well.ne hc2).symm
      generalize upd K1 c2 (.lst []) = K2 at s2 f2 x2
      intro c3 hc3
      have s3 : Same K2 (upd K2 c3 (.dK [])) := same_new hc3
      have f3 : (upd K2 c3 (.dK [])) c3 = some (.dK []) := upd_same
      have x3 := grow (o := .dK []) x2 hc3
      have nc3 : c3 ≠ wl := (x2.well.ne hc3).symm
      generalize upd K2 c3 (.dK []) = K3 at s3 f3 x3
      refine ⟨(by show 6 ≤ sizeLine; decide), fun lz hlz => ?_⟩
      have nlz : lz ≠ wl := (x3.well.ne hlz).symm
      have s4 : Same K3 (upd K3 lz (.lst [.ref tp, .non, .ref c2, .str "loop", .ref c3, .int 3])) := same_new hlz
      have f4 : (upd K3 lz (.lst [.ref tp, .non, .ref c2, .str "loop", .ref c3, .int 3])) lz = some (.lst [.ref tp, .non, .ref c2, .str "loop", .ref c3, .int 3]) := upd_same
      have x4 := grow (o := .lst [.ref tp, .non, .ref c2, .str "loop", .ref c3, .int 3]) x3 hlz
      generalize upd K3 lz (.lst [.ref tp, .non, .ref c2, .str "loop", .ref c3, .int 3]) = K4 at s4 f4 x4
      refine ⟨_, rfl, wl, 6, rfl, by decide, by decide, x4.well, fun d6 K5 d60 d61 E5 => ?_⟩
      have x5 := x4.trans E5
      have tk5 : TK K1 K5 := (TK.same ((s2.trans s3).trans s4)).trans (TK.dr x4.well E5.but)
      obtain ⟨v, d, av, rv⟩ : ∃ v d, atI [V.ref tp, .non, .ref c2, .str "loop", .ref c3, .int 3] d6 = some v ∧ Rs K K5 v d := by
        have O5 : OL K wl K5 vs' ds := (OLt.same (((s1.trans s2).trans s3).trans s4)).dr x4.well E5
        rcases (by omega : d6 = 0 ∨ d6 = 1 ∨ d6 = 2 ∨ d6 = 3 ∨ d6 = 4 ∨ d6 = 5) with z | z | z | z | z | z <;> subst z
        · exact ⟨_, .tuple ds, rfl, Rs.of (k := 2) (b := 160) (Av := (· ≠ wl)) (.tup (.inl (.inl (tk5 _ _ trivial f1))) (DxAll.from2 O5.1)) (Txt.tuple (k := 1) (b := 3) (n := 40) (by omega) O5.2) (by decide) (by decide) fun _ z => by cases z⟩
        · exact ⟨_, .none, rfl, Rs.of (Av := Any) (k := 0) (b := 0) .non .non (by decide) (by decide) fun _ z => by cases z⟩
        · refine ⟨_, .list [], rfl, Rs.of (k := 1) (b := 0) (Av := Any) (.lst (E5.but _ _ nc2 ((s3.trans s4) _ _ f2)) trivial .nil) ((Txt.list (k := 0) (b := 0) (n := 0) (Nat.le_refl _) fun e he => by cases he)) (by decide) (by decide) fun es z => by
            cases z
            exact Nat.zero_le _⟩
        · exact ⟨_, .str "loop", rfl, .str _, by decide +kernel, by decide +kernel, by decide +kernel, fun _ z => by cases z⟩
        · exact ⟨_, .dict [], rfl, .dic (E5.but _ _ nc3 (s4 _ _ f3)), by decide +kernel, by decide +kernel, by decide +kernel, fun _ z => by cases z⟩
        · exact ⟨_, .int 3, rfl, Rs.of (Av := Any) (k := 0) (b := 0) (.int _) (.int (by decide) (by decide)) (by decide) (by decide) fun _ z => by cases z⟩
      exact ⟨lz, _, d6, v, rfl, rfl, SqL.of (E5.but _ _ nlz f4), av, q _ _ _ x5 rv⟩
    refine ⟨_, rfl, rfl, _, rfl, ite2 (fun _ => ?_) (fun _ => ?_)⟩
    · refine ⟨_, rfl, _, rfl, _, rfl, lf, vs', rfl, SqL.of hlf9, fun c1 hc1 => ?_⟩
      rw [cut_from]
      have s1 : Same G9 (upd G9 c1 (.lst (vs'.drop pN))) := same_new hc1
      have f1 : (upd G9 c1 (.lst (vs'.drop pN))) c1 = some (.lst (vs'.drop pN)) := upd_same
      have x1 := grow (o := .lst (vs'.drop pN)) DG9 hc1
      generalize upd G9 c1 (.lst (vs'.drop pN)) = K1 at s1 f1 x1
      refine ⟨_, rfl, _, rfl, _, rfl, lf, vs', rfl, SqL.of (s1 _ _ hlf9), fun c2 hc2 => ?_⟩
      rw [cut_to]
      have s2 : Same K1 (upd K1 c2 (.lst (vs'.take pN))) := same_new hc2
      have f2 : (upd K1 c2 (.lst (vs'.take pN))) c2 = some (.lst (vs'.take pN)) := upd_same
      have x2 := grow (o := .lst (vs'.take pN)) x1 hc2
      generalize upd K1 c2 (.lst (vs'.take pN)) = K2 at s2 f2 x2
      refine ⟨c1, c2, _, _, rfl, rfl, s2 _ _ f1, f2, Nat.le_of_lt (small1000 (by rw [List.length_take, List.length_drop]; omega)), fun c3 hc3 => ?_⟩
      refine fin (es := ds.drop pN ++ ds.take pN) (grow x2 hc3) (((OLt.drop pN).app (OLt.take pN)).same ((s1.trans s2).trans (same_new hc3))) upd_same ?_
      rw [List.length_append, List.length_take, List.length_drop]
      omega
    · refine ⟨_, rfl, _, rfl, _, rfl, lf, vs', rfl, SqL.of hlf9, fun c1 hc1 => ?_⟩
      rw [cut_to]
      have s1 : Same G9 (upd G9 c1 (.lst (vs'.take pN))) := same_new hc1
      have f1 : (upd G9 c1 (.lst (vs'.take pN))) c1 = some (.lst (vs'.take pN)) := upd_same
      have x1 := grow (o := .lst (vs'.take pN)) DG9 hc1
      have nc1 : c1 ≠ wl := (DG9.well.ne hc1).symm
      generalize upd G9 c1 (.lst (vs'.take pN)) = K1 at s1 f1 x1
      refine ⟨_, rfl, _, rfl, wl, 12, rfl, by decide, by decide, x1.well, fun d6 K2 d60 d61 E2' => ?_⟩
      obtain ⟨j, ej⟩ : ∃ j : Nat, d6 = (j : Int) := ⟨d6.toNat, by omega⟩
      subst ej
      have O2' := (O9.same s1).dr x1.well E2'
      obtain ⟨v1, dd1, hv1, hx1, ht1⟩ := O2'.get (j := j) (by omega)
      have x2 := x1.trans E2'
      refine ⟨l9, _, j, v1, rfl, rfl, SqL.of (E2'.but _ _ nl9 (s1 _ _ e9)), atI_nat hv1, (by show 1 ≤ sizeLine; decide), fun c2 hc2 => ?_⟩
      have s3 : Same K2 (upd K2 c2 (.lst [v1])) := same_new hc2
      have f3 : (upd K2 c2 (.lst [v1])) c2 = some (.lst [v1]) := upd_same
      have x3 := grow (o := .lst [v1]) x2 hc2
      generalize upd K2 c2 (.lst [v1]) = K3 at s3 f3 x3
      refine ⟨c1, c2, _, _, rfl, rfl, s3 _ _ (E2'.but _ _ nc1 f1), f3, Nat.le_of_lt (small1000 (by rw [List.length_take]; show _ + 1 ≤ _; omega)), fun c3 hc3 => ?_⟩
      have s4 : Same K3 (upd K3 c3 (.lst (vs'.take pN ++ [v1]))) := same_new hc3
      have f4 : (upd K3 c3 (.lst (vs'.take pN ++ [v1]))) c3 = some (.lst (vs'.take pN ++ [v1])) := upd_same
      have x4 := grow (o := .lst (vs'.take pN ++ [v1])) x3 hc3
      generalize upd K3 c3 (.lst (vs'.take pN ++ [v1])) = K4 at s4 f4 x4
      have hlf4 := (s3.trans s4) _ _ (E2'.but _ _ nlf (s1 _ _ hlf9))
      refine ⟨_, rfl, _, rfl, _, _, rfl, rfl, _, rfl, lf, vs', rfl, SqL.of hlf4, fun c4 hc4 => ?_⟩
      rw [show ((pN : Nat) : Int) + 1 = ((pN + 1 : Nat) : Int) from rfl, cut_from]
      have s5 : Same K4 (upd K4 c4 (.lst (vs'.drop (pN + 1)))) := same_new hc4
      have f5 : (upd K4 c4 (.lst (vs'.drop (pN + 1)))) c4 = some (.lst (vs'.drop (pN + 1))) := upd_same
      have x5 := grow (o := .lst (vs'.drop (pN + 1))) x4 hc4
      generalize upd K4 c4 (.lst (vs'.drop (pN + 1))) = K5 at s5 f5 x5
      refine ⟨c3, c4, _, _, rfl, rfl, s5 _ _ f4, f5, Nat.le_of_lt (small1000 (by rw [List.length_append, List.length_take, List.length_drop]; show _ + 1 + _ ≤ _; omega)), fun c5 hc5 => ?_⟩
      have OLt2 := (OLt.same s1).dr x1.well E2'
      refine fin (es := ds.take pN ++ [dd1] ++ ds.drop (pN + 1)) (grow x5 hc5) ((((OLt2.take pN).app (.one hx1 ht1)).app (OLt2.drop (pN + 1))).same (((s3.trans s4).trans s5).trans (same_new hc5))) upd_same ?_
      rw [List.length_append, List.length_append, List.length_take, List.length_drop]
      show _ + 1 + _ ≤ _
      omega
end
end Lag

set_option maxRecDepth 100000
set_option maxHeartbeats 8000000
namespace Lag
open PySem PySem.Spec PyProof.Rows L2
abbrev sLaw : Stmt := topS 53 -- @law
/-! ### a tuple no times, one time -/
theorem tuple_mul0 (l : Addr) (items : Array Value) (n : Nat) (dd : Option Addr) (sl : Array (Option Value)) (u : Tok) (c1 : (items.isEmpty || (0 : Int) == 1) = false) :
    Meets (Builtin.«tuple.__mul__» ⟨[.ref l, .int 0 u], []⟩) (fun _ R s => s.heap.get? l = some { cls := .type "tuple", dict := dd, data := .seq items n, slots := sl } ∧
      R (.ok (.ret (Value.ref s.heap.objs.size))) { s with heap := s.heap.push { cls := Value.type "tuple", data := Data.seq #[] }, toks := s.toks }) :=
  .of_wp fun prog w A R s h => by
    obtain ⟨hp, g, d, tk, os⟩ := s
    obtain ⟨hl, h⟩ := h
    have f1 := AutoSeq1.idx_int
    have c0 : (decide ((0 : Int) < -(2 ^ 63)) || decide ((0 : Int) ≥ 2 ^ 63)) = false := by decide
    have c2 : (decide ((0 : Int) ≤ 0) || items.isEmpty) = true := rfl
    wp_walk using wpAny_loadPart' hl
    repeat (first
      | (refine wpAny_ite_false (decide_eq_false (by rw [c0]; exact Bool.false_ne_true)) ?_; wp_walk using wpAny_loadPart' hl)
      | (refine wpAny_ite_false (decide_eq_false (by rw [c1]; exact Bool.false_ne_true)) ?_; wp_walk using wpAny_loadPart' hl)
      | (refine wpAny_ite_true (decide_eq_true c2) ?_; wp_walk using wpAny_loadPart' hl))
    exact ⟨_, rfl, h⟩
theorem tuple_mul1 (l : Addr) (items : Array Value) (n : Nat) (dd : Option Addr) (sl : Array (Option Value)) (u : Tok) :
    Meets (Builtin.«tuple.__mul__» ⟨[.ref l, .int 1 u], []⟩) (fun _ R s => s.heap.get? l = some { cls := .type "tuple", dict := dd, data := .seq items n, slots := sl } ∧
      R (.ok (.ret (Value.ref l))) s) :=
  .of_wp fun prog w A R s h => by
    obtain ⟨hp, g, d, tk, os⟩ := s
    obtain ⟨hl, h⟩ := h
    have f1 := AutoSeq1.idx_int
    have c0 : (decide ((1 : Int) < -(2 ^ 63)) || decide ((1 : Int) ≥ 2 ^ 63)) = false := by decide
    have c1 : (items.isEmpty || (1 : Int) == 1) = true := by rw [show ((1 : Int) == 1) = true from rfl, Bool.or_true]
    wp_walk using wpAny_loadPart' hl
    repeat (first
      | (refine wpAny_ite_false (decide_eq_false (by rw [c0]; exact Bool.false_ne_true)) ?_; wp_walk using wpAny_loadPart' hl)
      | (refine wpAny_ite_true (decide_eq_true c1) ?_; wp_walk using wpAny_loadPart' hl))
    exact ⟨_, rfl, h⟩
def rRep01 (K : PySem.W.Frag) : R2 := fun x y H Q => ∃ l xs, x = .ref l ∧ SqT K H l xs ∧ xs ≠ [] ∧ ((y = .int 1 ∧ Q (.ref l) H) ∨ (y = .int 0 ∧ ∀ p, H p = none → Q (.ref p) (upd H p (.tup []))))
section
variable {X : Cx}
theorem op_rep01 : OpR X (binaryOp .Mult) (rRep01 X.K) := by
  intro pins s σ H x y v u Q I rx ry h
  obtain ⟨l, xs, rfl, hT, hne, h⟩ := h
  cases rx
  obtain ⟨its, r, ⟨⟨cls, dd, data, sl⟩, ho, hc, n, hd⟩, hs⟩ := I.tuple hT
  simp only at hc hd
  subst hc hd
  have hle : its.length = xs.length := r.length.symm
  have hi : its.toArray.isEmpty = false := by
    cases its with
    | nil => exact absurd (List.eq_nil_of_length_eq_zero hle.symm) hne
    | cons a b => rfl
  rcases h with ⟨rfl, q⟩ | ⟨rfl, q⟩
  · obtain ⟨t, rfl⟩ := ry
    refine wpAny_binaryOp_repeat_ref (T := "tuple") (U := "int") (by decide) ⟨_, ho, rfl⟩ (fun s' => typeIs_int s' 1 t) noFill_tuple_mul PySem.F.fills_int_mul PySem.F.slot_int_rmul repeat_tuple PySem.F.slot_int_index.lookup
      (call_meets PySem.F.slot_int_rmul (typeIs_int s 1 t) PySem.F.entry_int_rmul (PySem.F.args_int_rmul_2 _ _) (int_rmul_tuple 1 t l its.toArray n dd sl)
        ⟨ho, rfl, ⟨_, ho, rfl⟩, call_meets PySem.F.slot_tuple_mul ⟨_, ho, rfl⟩ PySem.F.entry_tuple_mul (PySem.F.args_tuple_mul_2 _ _) (tuple_mul1 l its.toArray n dd sl t) ⟨ho, ?_⟩⟩)
    exact ⟨.ref l, H, I, rfl, q⟩
  · obtain ⟨t, rfl⟩ := ry
    refine wpAny_binaryOp_repeat_ref (T := "tuple") (U := "int") (by decide) ⟨_, ho, rfl⟩ (fun s' => typeIs_int s' 0 t) noFill_tuple_mul PySem.F.fills_int_mul PySem.F.slot_int_rmul repeat_tuple PySem.F.slot_int_index.lookup
      (call_meets PySem.F.slot_int_rmul (typeIs_int s 0 t) PySem.F.entry_int_rmul (PySem.F.args_int_rmul_2 _ _) (int_rmul_tuple 0 t l its.toArray n dd sl)
        ⟨ho, rfl, ⟨_, ho, rfl⟩, call_meets PySem.F.slot_tuple_mul ⟨_, ho, rfl⟩ PySem.F.entry_tuple_mul (PySem.F.args_tuple_mul_2 _ _) (tuple_mul0 l its.toArray n dd sl t (by rw [hi]; rfl)) ⟨ho, ?_⟩⟩)
    refine ⟨.ref s.heap.objs.size, _, I.laid (t' := s.toks) (o := .tup []) (fun b ob q => Heap.get?_push_of_some _ q) (Nat.le_refl _) ?_, rfl, q _ (I.hok.fresh (Nat.le_refl _))⟩
    exact ⟨Nat.zero_le _, _, .nil, IsTup.new _ _⟩
end
/-- (z,) * d with d below two -/
theorem rep_in {K : PySem.W.Frag} {H : Hp} {Q : VK} {z d : Int} (d0 : 0 ≤ d) (d1 : d < 2) {l : Addr} (hl : SqT K H l [.int z]) (q : ∀ p H' (rs : List Int), Same H H' → SqT K H' p (rs.map V.int) → rs.length ≤ 1 → (∀ y ∈ rs, y = z) → Q (.ref p) H') : rRep01 K (.ref l) (.int d) H Q := by
  refine ⟨l, _, rfl, hl, by simp, ?_⟩
  rcases (by omega : d = 0 ∨ d = 1) with rfl | rfl
  · exact .inr ⟨rfl, fun p hp => q p _ [] (same_new hp) (.inl (.inl upd_same)) (by simp) (by simp)⟩
  · exact .inl ⟨rfl, q l H [z] (Same.refl _) hl (by simp) (by simp)⟩
theorem catA {K : PySem.W.Frag} {H : Hp} {a b : Addr} {xs ys : List V} {Q : VK} (sa : SqT K H a xs) (sb : SqT K H b ys) (hl : xs.length + ys.length ≤ sizeLine) (q : ∀ c H', Same H H' → SqT K H' c (xs ++ ys) → Q (.ref c) H') : rCatA K (.ref a) (.ref b) H Q := by
  refine ⟨a, b, xs, ys, rfl, rfl, sa, sb, hl, fun z => q b H (Same.refl _) ?_, fun _ z => q a H (Same.refl _) ?_, fun _ _ p hp => q p _ (same_new hp) (.inl (.inl upd_same))⟩
  · rw [z]
    exact sb
  · rw [z, List.append_nil]
    exact sa
theorem LG.dr' {K : PySem.W.Frag} {wl l : Addr} {H H' : Hp} {gs : List Gt} (h : LG K H l gs) (n : l ≠ wl) (W : WellAt wl H) (d : Dr wl H H') : LG K H' l gs := by
  obtain ⟨vs, q, a⟩ := h
  exact ⟨vs, d.but _ _ n q, a.imp fun _ _ r => r.tk (TK.dr W d.but)⟩
theorem LW.dr' {K : PySem.W.Frag} {wl l : Addr} {H H' : Hp} {ws : List Wr} (h : LW K H l ws) (n : l ≠ wl) (W : WellAt wl H) (d : Dr wl H H') : LW K H' l ws := by
  obtain ⟨vs, q, a⟩ := h
  exact ⟨vs, d.but _ _ n q, a.imp fun _ _ r => r.tk (TK.dr W d.but)⟩
theorem NetAt.dr' {K : PySem.W.Frag} {C wl p ng nw : Addr} {H H' : Hp} {gs : List Gt} {ws : List Wr} (n : NetAt K C H p ng nw gs ws) (W : WellAt wl H) (n3 : p ≠ wl) (n4 : ng ≠ wl) (n5 : nw ≠ wl) (d : Dr wl H H') : NetAt K C H' p ng nw gs ws := by
  obtain ⟨dx, h⟩ := n.ob
  exact ⟨⟨dx, d.but _ _ n3 h⟩, n.g.dr' n4 W d, n.w.dr' n5 W d, n.ne⟩
abbrev rInt1 : List V → Hp → VK → Prop := fun xs H Q => (∃ i, xs = [.int i] ∧ Q (.int i) H) ∨ ∃ k, xs = [.bl k] ∧ Q (.int (if k then 1 else 0)) H
theorem rs_more {rs : List Int} (h1 : rs.length ≤ 1) (h2 : ∀ y ∈ rs, y = 5) (l : List Int) : l ++ rs = l ∨ l ++ rs = l ++ [5] := by
  match rs, h1, h2 with
  | [], _, _ => exact .inl (List.append_nil _)
  | [y], _, h => exact .inr (by rw [h y (by simp)])
/-- a wire, perhaps with a register more -/
def MoreW (x u : Wr) : Prop := u.1 = x.1 ∧ u.2.1 = x.2.1 ∧ (u.2.2 = x.2.2 ∨ u.2.2 = x.2.2 ++ [5])
theorem more_ends {ws us : List Wr} (h : All2 MoreW ws us) : endsL ws = endsL us := by
  refine List.ext_getElem? fun i => ?_
  unfold endsL
  rw [List.getElem?_map, List.getElem?_map]
  cases e : ws[i]? with
  | none =>
    have : us[i]? = none := by
      rw [List.getElem?_eq_none_iff] at e ⊢
      rw [← h.1]
      exact e
    rw [this]
  | some x =>
    obtain ⟨u, hu, m⟩ := h.get e
    rw [hu]
    show some (x.1, x.2.1) = some (u.1, u.2.1)
    rw [m.1, m.2.1]
theorem NetOk.more {gs : List Gt} {ws us : List Wr} (N : NetOk gs ws) (h : All2 MoreW ws us) (h3 : ∀ x ∈ ws, x.2.2.length ≤ 3) : NetOk gs us := by
  have e := more_ends h
  have c : ∀ g, cnt us g = cnt ws g := fun g => by
    have k : ∀ l : List Wr, cnt l g = (endsL l).countP (fun x => x.2 == g) := fun l => by
      unfold cnt endsL
      rw [List.countP_map]
      rfl
    rw [k, k, e]
  have at_ : ∀ u ∈ us, ∃ x ∈ ws, MoreW x u := fun u hu => by
    obtain ⟨i, hi⟩ := List.getElem?_of_mem hu
    obtain ⟨x, hx, m⟩ := h.getR hi
    exact ⟨x, List.mem_of_getElem? hx, m⟩
  obtain ⟨ρ, hρ⟩ := N.rank
  refine ⟨N.ne, N.gl, by rw [← h.1]; exact N.wl, N.gok, fun u hu => ?_, fun g hg hk => by rw [c]; exact N.one g hg hk, fun g hg hk => by rw [c]; exact N.some g hg hk, ρ, fun u hu h0 => ?_⟩
  · obtain ⟨x, hx, m1, m2, m3⟩ := at_ u hu
    have W := N.wok x hx
    have hl := h3 x hx
    refine ⟨m1 ▸ W.s, m2 ▸ W.e, m1 ▸ W.ks, m2 ▸ W.ke, ?_, ?_⟩
    · rcases m3 with z | z
      · rw [z]
        exact W.r
      · rw [z]
        intro y hy
        rcases List.mem_append.mp hy with z2 | z2
        · exact W.r y z2
        · rw [List.mem_singleton.mp z2]
          exact ⟨by decide, by decide⟩
    · rcases m3 with z | z
      · rw [z]
        omega
      · rw [z, List.length_append]
        show _ + 1 ≤ _
        omega
  · obtain ⟨x, hx, m1, m2, m3⟩ := at_ u hu
    rw [m1, m2]
    refine hρ x hx ?_
    rcases m3 with z | z
    · rw [← z]
      exact h0
    · rw [z] at h0
      simp at h0
theorem ol_turns {K : PySem.W.Frag} {wl : Addr} {H : Hp} {vs : List V} {ts : List Tn} {n : Nat} (a : All2 (TnV K H) vs ts) (tok : ∀ t ∈ ts, TnOk n t) (hn : n ≤ 900) : OL K wl H vs (ts.map tnD) := by
  refine ⟨⟨by rw [List.length_map]; exact a.1, fun i x y hx hy => ?_⟩, fun d hd => ?_⟩
  · rw [List.getElem?_map] at hy
    cases e : ts[i]? with
    | none =>
      rw [e] at hy
      cases hy
    | some t' =>
      rw [e] at hy
      cases hy
      exact tnV_dx (a.2 i x t' hx e)
  · obtain ⟨t', ht', rfl⟩ := List.mem_map.mp hd
    have ok := tok t' ht'
    have h1 := ok.1
    exact two_txt (.int (by omega) (by omega)) (.int (by rcases ok.2 with z | z <;> omega) (by rcases ok.2 with z | z <;> omega))
theorem fault_sh (gs : List Gt) (ws wso : List Wr) (d : PyData) : Sh 1 (faultD gs ws wso d) := by
  have one : ∀ (x : Str), PyData.canLay0 (.str x) = true → Sh 1 (.tuple [.str x]) := fun x hx => sh_tuple fun e he => by
    rw [List.mem_singleton.mp he]
    exact ⟨hx, Nat.zero_le _⟩
  have two : ∀ (x : Str) (k : Int), PyData.canLay0 (.str x) = true → Sh 1 (.tuple [.str x, .int k]) := fun x k hx => sh_tuple fun e he => by
    simp only [List.mem_cons, List.not_mem_nil, or_false] at he
    rcases he with rfl | rfl
    · exact ⟨hx, Nat.zero_le _⟩
    · exact sh_int _
  unfold faultD
  cases loopOf ws.length d with
  | none => exact one _ (by decide +kernel)
  | some ts =>
    show Sh 1 (match gapOf gs (ts.map (tEnds ws)) with | some k => _ | none => _)
    cases gapOf gs (ts.map (tEnds ws)) with
    | some k => exact two _ _ (by decide +kernel)
    | none =>
      by_cases e : sumT ws ts = sumT wso ts
      · simp only [if_pos e]
        exact two _ _ (by decide +kernel)
      · simp only [if_neg e]
        exact ⟨rfl, Nat.zero_le _⟩
end Lag

set_option maxRecDepth 100000
set_option maxHeartbeats 8000000
namespace Lag
open PySem PySem.Spec PyProof.Rows L2
def spLaw (K : PySem.W.Frag) : Sp := fun vs H Q _ => ∃ (a : Addr) (ns : List Int), vs = [.ref a] ∧ SqL K H a (ns.map V.int) ∧ ns.length ≤ 63 ∧ ∀ H', Q (.bl true) H'
section
variable {P : Program} {w : World} {K : PySem.W.Frag} {mg : Str → Option Value} {base : Heap}
abbrev nLaw : List Str := ["_law_script", "_law_k", "_law_state", "_law_gates_here", "_law_wires_here", "_law_start", "_law_end", "_law_stock", "_law_others", "_law_one", "_law_other", "_law_turn", "_law_thing", "_law_kept", "_law_due_here"]
theorem scLaw : FnScope nLaw ["_law_script"] (defScope sLaw) := ⟨rfl, rfl, rfl, by decide +kernel, rfl, by decide +kernel, by decide +kernel⟩
theorem ok_law {f fC fD fP fI fW fS fU fL C : Addr} {fd fdC fdD fdP fdI fdW fdS fdU fdL : FuncData} (F : Fun K "law" "law" sLaw f fd) (B : Bt mg) (mn : mg "min" = none) (mR : mg "repr" = none) (T : NT K mg C) (DC : DCellAt P w K mg base fC fdC) (DD : DDraw P w K mg base fD fdD) (DP : DLParts P w K mg base fP fdP)
    (MK : Mk K C fI) (init : FnOk P w K mg base CX0 6 fI fdI ["self", "gates", "wires"] (spInit K C)) (bI : Binds K fdI ["self", "gates", "wires"] []) (DWa : DWalk P w K mg base fW fdW) (DSpo : DSpoilt P w K mg base fS fdS) (DDu : DDue P w K mg base fU fdU) (DLf : DFault P w K mg base C fL fdL) :
    FnG P w K mg base CX0 8 f fd ["_law_script"] (spLaw K) := by
  refine fun_okG F scLaw (fun vs H Q E h => ?_) (fun cdv A outer s H vs Q E gd hr h => ?_)
  · obtain ⟨a, ns, rfl, _⟩ := h
    rfl
  · obtain ⟨a, ns, rfl, hS, hlen, q⟩ := h
    have nd := scLaw.nd
    have hu : (A.deeper (envOfC "law" (defScope sLaw) s.heap.objs.size f cdv)).units + 65 < cLine := by have := hr.un; omega
    refine ⟨_, pss_cons (ps_for PassesOwn.never rfl (pi_range1 (by rfl) B.range (pa_cons (pe_callB (call_max2 rfl) (by rfl) B.max (by decide +kernel) (pa_cons pe_int (pa_cons (pe_callB (call_min2 rfl) (by rfl) mn (by decide +kernel) (pa_cons pe_int (pa_cons (pe_callB call_len_seq (by rfl) B.len PySem.boot_len (pa_cons (pv 0) pa_nil)) pa_nil))) pa_nil))) pa_nil)) (pg_name (i := 1) nd rfl (.inl rfl)) (pss_cons (ps_set (i := 2) nd rfl (.inr rfl) (pe_lst (pa_cons (pe_op op_add (pe_call DC.ok (hr.mono (by decide)) (by rfl) DC.mg DC.kp DC.bd .nil pass0 (pa_cons (pv 0) (pa_cons (pv 1) pa_nil))) (pe_op op_mul pe_int (pv 1))) pa_nil))) <|
        pss_cons (ps_asg (pe_call DP.ok (hr.mono (by decide)) (by rfl) DP.mg DP.kp DP.bd .nil pass0 (pa_cons (pv 2) (pa_cons pe_int pa_nil))) (pg_tup rfl (pgs_cons (pg_name (i := 3) nd rfl (.inl rfl)) (pgs_cons (pg_name (i := 4) nd rfl (.inl rfl)) pgs_nil)))) <|
        pss_cons (ps_setLc (i := 8) (own := [("_law_start", 5), ("_law_end", 6), ("_law_stock", 7)]) (g := (gTup K 3 (gCons (gName 5) (gCons (gName 6) (gCons (gName 7) gNil))))) (tt := tYes) (te := (tTup (tCons (tVar 5) (tCons (tVar 6) (tCons (tOp (rCatA K) (tVar 7) (tOp (rRep01 K) (tTup (tCons (tC (.int 5)) tNil)) (tCB rInt1 (tCons (tOp rEq (tCall spDraw [] E0 (tCons (tVar 2) (tCons (tC (.int 4)) tNil))) (tC (.int 0))) tNil)))) tNil))))) rfl nd rfl rfl (sw_true rfl rfl rfl (by decide +kernel)) (pi_list (pv 4)) (blkOk_by (N := nLaw) (sc := defScope sLaw) (own := [("_law_start", 5), ("_law_end", 6), ("_law_stock", 7)]) (by decide +kernel)) (fun _ _ _ _ _ => (pg_tup rfl (pgs_cons (pg_name (i := 5) nd rfl (.inl rfl)) (pgs_cons (pg_name (i := 6) nd rfl (.inl rfl)) (pgs_cons (pg_name (i := 7) nd rfl (.inl rfl)) pgs_nil))))) (fun _ _ _ _ _ => pts_nil) (fun _ _ _ _ _ => (pe_tup (pa_cons (pv 5) (pa_cons (pv 6) (pa_cons (pe_op op_catA (pv 7) (pe_op op_rep01 (pe_tup (pa_cons pe_int pa_nil)) (pe_callTy call_int1 (by rfl) B.int (by decide +kernel) (pa_cons (pe_cmpR op_eq (pe_call DD.ok (hr.mono (by decide)) (by rfl) DD.mg DD.kp DD.bd .nil pass0 (pa_cons (pv 2) (pa_cons pe_int pa_nil))) pe_int (nomark _)) pa_nil)))) pa_nil)))))) <|
        pss_cons (ps_set (i := 9) nd rfl (.inl rfl) (pe_make MK init (hr.mono (by decide)) (by rfl) T.mg bI .nil pass0 (pa_cons (pv 3) (pa_cons (pv 4) pa_nil)))) <|
        pss_cons (ps_set (i := 10) nd rfl (.inl rfl) (pe_make MK init (hr.mono (by decide)) (by rfl) T.mg bI .nil pass0 (pa_cons (pv 3) (pa_cons (pv 8) pa_nil)))) <|
        pss_one (ps_for PassesOwn.never rfl (pi_range1 (by rfl) B.range (pa_cons pe_int pa_nil)) (pg_name (i := 11) nd rfl (.inl rfl)) (pss_cons (ps_set (i := 12) nd rfl (.inl rfl) (pe_call DWa.ok (hr.mono (by decide)) (by rfl) DWa.mg DWa.kp DWa.bd .nil pass0 (pa_cons (pv 2) (pa_cons (pv 3) (pa_cons (pv 4) pa_nil))))) <|
        Evl.pss_cut (ps_if (pt_cmpR op_eq (pe_call DD.ok (hr.mono (by decide)) (by rfl) DD.mg DD.kp DD.bd .nil pass0 (pa_cons (pv 2) (pa_cons pe_int pa_nil))) pe_int (nomark _)) (pss_one (ps_set (i := 12) nd rfl (.inl rfl) (pe_call DSpo.ok (hr.mono (by decide)) (by rfl) DSpo.mg DSpo.kp DSpo.bd .nil pass0 (pa_cons (pv 2) (pa_cons (pe_callB call_len_seq (by rfl) B.len PySem.boot_len (pa_cons (pv 4) pa_nil)) (pa_cons (pv 12) pa_nil)))))) pss_nil) <|
        pss_cons (ps_set (i := 13) nd rfl (.inl rfl) (pe_callB (call_reprX gd hu) (by rfl) mR (by decide +kernel) (pa_cons (pv 12) pa_nil))) <|
        pss_cons (ps_set (i := 14) nd rfl (.inl rfl) (pe_call DDu.ok (hr.mono (by decide)) (by rfl) DDu.mg DDu.kp DDu.bd .nil pass0 (pa_cons (pv 3) (pa_cons (pv 4) (pa_cons (pv 8) (pa_cons (pv 12) pa_nil)))))) <|
        pss_one (ps_if (PW.pt (pw_or (pt_cmpR (op_neD hr.units) (pe_call DLf.ok (hr.mono (by decide)) (by rfl) DLf.mg DLf.kp DLf.bd .nil pass0 (pa_cons (pv 9) (pa_cons (pv 10) (pa_cons (pv 12) pa_nil)))) (pv 14) (nomark _)) (pw_or1 (pt_cmpR op_ne (pe_callB (call_reprX gd hu) (by rfl) mR (by decide +kernel) (pa_cons (pv 12) pa_nil)) (pv 13) (nomark _))))) (pss_one (ps_ret pe_bl)) pss_nil))))) <|
        pss_one (ps_ret pe_bl), ?_⟩
    refine ⟨_, rfl, a, _, rfl, .inl hS, 10, _, rfl, 1, _, rfl, _, rfl, ?_, ?_, ?_⟩
    · split <;> split <;> omega
    · split <;> split <;> omega
    refine for_range (lo := 0) (fun i σ H' => ∃ t1 t2 t3 t4 t5 t6 t7 t8 t9 t10 t11 t12 t13 t14 : Option V, σ = [some (.ref a), t1, t2, t3, t4, t5, t6, t7, t8, t9, t10, t11, t12, t13, t14] ∧ Same H H') ⟨_, _, _, _, _, _, _, _, _, _, _, _, _, _, rfl, Same.refl _⟩ ?_ (fun σ H' ⟨_, _, _, _, _, _, _, _, _, _, _, _, _, _, e, _⟩ => by subst e; exact q H')
    rintro i σ H0 hi ⟨t1, t2, t3, t4, t5, t6, t7, t8, t9, t10, t11, t12, t13, t14, rfl, s0⟩
    have ek : (0 : Int) + (i : Nat) = ((i : Nat) : Int) := Int.zero_add _
    rw [ek]
    refine ⟨_, rfl, _, rfl, a, ns, _, rfl, by omega, s0.seq hS, fun z => ?_⟩
    refine ⟨_, rfl, _, _, rfl, rfl, .inl ⟨by decide, by decide⟩, _, _, rfl, rfl, (by show 1 ≤ sizeLine; decide), fun wl hwl => ?_⟩
    have s1 : Same H0 (upd H0 wl (.lst [.int (z + 83 * (i : Nat))])) := same_new hwl
    have W1 : WellAt wl (upd H0 wl (.lst [.int (z + 83 * (i : Nat))])) := ⟨_, upd_same, .inl ⟨_, rfl⟩⟩
    generalize upd H0 wl (.lst [.int (z + 83 * (i : Nat))]) = H1 at s1 W1
    refine gn_norm (σ' := [some (.ref a), some (.int (i : Nat)), some (.ref wl), t3, t4, t5, t6, t7, t8, t9, t10, t11, t12, t13, t14]) rfl ?_
    refine ⟨_, rfl, wl, 5, rfl, by decide, by decide, W1, fun gs ws lg lw p H2 N gl24 glm hnI hwg rl3 hw72 wne inner D2 hlg hlw nlgw LG2 LW2 ep => ?_⟩
    refine ⟨p, _, rfl, .inl (.inl ep), rfl, _, _, rfl, _, _, rfl, rfl, ?_⟩
    have nlg : lg ≠ wl := (W1.ne hlg).symm
    have nlw : lw ≠ wl := (W1.ne hlw).symm
    have W2 := D2.well
    refine gn_norm (σ' := [some (.ref a), some (.int (i : Nat)), some (.ref wl), some (.ref lg), some (.ref lw), t5, t6, t7, t8, t9, t10, t11, t12, t13, t14]) rfl ?_
    -- others
    obtain ⟨wv, hwv, wa⟩ := id LW2
    have hwvl : wv.length = ws.length := wa.1
    refine ⟨_, rfl, lw, rfl, ⟨_, SqL.of hwv⟩, fun D hD => ?_⟩
    have nD : D ≠ wl := (W2.ne hD).symm
    refine lc_list (K := K) (a := lw) (xs := wv) (fun k Hc => ∃ acc us, Hc D = some (.lst acc) ∧ acc.length = k ∧ All2 (WireV K Hc) acc us ∧ All2 MoreW (ws.take k) us ∧ Dr wl H2 Hc) ⟨[], [], upd_same, rfl, All2.nil, (by rw [List.take_zero]; exact All2.nil), Dr.new W2 hD⟩ (fun k Hc _ ⟨_, _, _, _, _, _, dc⟩ => SqL.of (dc.but _ _ nlw hwv)) ?_ ?_
    · rintro k v Hc hv ⟨acc, us, hc, hal, ua, um, dc⟩
      obtain ⟨x, hx, b, c, rfl, sb, sc⟩ := wa.get hv
      have hk : k < ws.length := (List.getElem?_eq_some_iff.mp hx).1
      have tk := TK.dr W2 dc.but
      have hx3 := rl3 x (List.mem_of_getElem? hx)
      refine ⟨b, _, rfl, tk.seq sb, rfl, _, _, rfl, _, _, rfl, _, _, rfl, rfl, rfl, tyes ?_⟩
      refine ⟨_, rfl, _, rfl, _, rfl, (by show 1 ≤ sizeLine; decide), fun t5' ht5 => ?_⟩
      have e1 := Dr.new (o := .tup [.int 5]) dc.well ht5
      have f1 : (upd Hc t5' (.tup [.int 5])) t5' = some (.tup [.int 5]) := upd_same
      generalize upd Hc t5' (.tup [.int 5]) = J1 at e1 f1
      refine ⟨_, rfl, wl, 4, rfl, by decide, by decide, e1.well, fun d J2 d0 d1 E2 => ⟨rfl, .inr ⟨_, rfl, ?_⟩⟩⟩
      have e2 := e1.trans E2
      have tk2 := TK.dr dc.well e2.but
      have f2 : SqT K J2 t5' [.int 5] := .inl (.inl (TK.dr e1.well E2.but _ _ trivial f1))
      refine rep_in (z := 5) (by split <;> decide) (by split <;> decide) f2 fun pr J3 rs s3 sqr hrl hrs => ?_
      refine catA ((TK.same s3).seq (tk2.seq (tk.seq sc))) sqr (by rw [List.length_map, List.length_map]; exact Nat.le_trans (show _ ≤ 4 by omega) (by decide)) fun c2 J4 s4 sq4 => ?_
      refine ⟨(by show 3 ≤ sizeLine; decide), fun tw htw => ?_⟩
      have e4 := e2.trans (Dr.ofSame e2.well (s3.trans s4))
      have e5 := e4.trans (Dr.new (o := .tup [.int (x.1 : Nat), .int (x.2.1 : Nat), .ref c2]) e4.well htw)
      have f5 : WireV K (upd J4 tw (.tup [.int (x.1 : Nat), .int (x.2.1 : Nat), .ref c2])) (.ref tw) (x.1, x.2.1, x.2.2 ++ rs) := ⟨tw, c2, rfl, .inl (.inl upd_same), by rw [List.map_append]; exact (TK.new htw).seq sq4⟩
      generalize upd J4 tw (.tup [.int (x.1 : Nat), .int (x.2.1 : Nat), .ref c2]) = J5 at e5 f5
      have hc5 := e5.but _ _ nD hc
      refine ⟨acc, hc5, small1000 (by omega), acc ++ [.ref tw], us ++ [(x.1, x.2.1, x.2.2 ++ rs)], upd_same, by rw [List.length_append, hal]; rfl, ?_, ?_, (dc.trans e5).mut hD nD⟩
      · have t' := TK.lst (o := .lst (acc ++ [.ref tw])) hc5
        exact (ua.imp fun _ _ z => (z.tk (TK.dr dc.well e5.but)).tk t').snoc (f5.tk t')
      · rw [List.take_add_one, hx]
        refine um.snoc ⟨rfl, rfl, ?_⟩
        exact rs_more hrl hrs _
    rintro H3 ⟨acc, us, hc3, hal3, ua3, um3, D3⟩
    rw [hwvl, List.take_length] at um3
    have NO := N.more um3 rl3
    have he := more_ends um3
    have LO3 : LW K H3 D us := ⟨acc, hc3, ua3⟩
    have LG3 := LG2.dr nlg W2 D3
    have LW3 := LW2.dr nlw W2 D3
    refine gn_norm (σ' := [some (.ref a), some (.int (i : Nat)), some (.ref wl), some (.ref lg), some (.ref lw), t5, t6, t7, some (.ref D), t9, t10, t11, t12, t13, t14]) rfl ?_
    -- nets
    refine ⟨_, rfl, _, rfl, ?_⟩
    refine net_in LG3.rg LW3.rw N fun p1 ng1 nw1 H4 NA4 s4 hp1 hng1 hnw1 => ?_
    refine gn_norm (σ' := [some (.ref a), some (.int (i : Nat)), some (.ref wl), some (.ref lg), some (.ref lw), t5, t6, t7, some (.ref D), some (.ref p1), t10, t11, t12, t13, t14]) rfl ?_
    refine ⟨_, rfl, _, rfl, ?_⟩
    refine net_in (LG3.same s4).rg (LO3.same s4).rw NO fun p2 ng2 nw2 H5 NB5 s5 hp2 hng2 hnw2 => ?_
    refine gn_norm (σ' := [some (.ref a), some (.int (i : Nat)), some (.ref wl), some (.ref lg), some (.ref lw), t5, t6, t7, some (.ref D), some (.ref p1), some (.ref p2), t11, t12, t13, t14]) rfl ?_
    have W3 := D3.well
    have W4 := W3.same s4
    have W5 := W4.same s5
    have NA5 := NA4.same s5
    have LG5 := (LG3.same s4).same s5
    have LW5 := (LW3.same s4).same s5
    have LO5 := (LO3.same s4).same s5
    have D5 := (D2.trans D3).trans (Dr.ofSame W3 (s4.trans s5))
    have m1 : p1 ≠ wl := (W3.ne hp1).symm
    have m2 : ng1 ≠ wl := (W3.ne hng1).symm
    have m3 : nw1 ≠ wl := (W3.ne hnw1).symm
    have m4 : p2 ≠ wl := (W4.ne hp2).symm
    have m5 : ng2 ≠ wl := (W4.ne hng2).symm
    have m6 : nw2 ≠ wl := (W4.ne hnw2).symm
    refine ⟨3, rfl, by decide, by decide, ?_⟩
    refine for_range (lo := 0) (fun k σ Hc => ∃ u11 u12 u13 u14 : Option V, σ = [some (.ref a), some (.int (i : Nat)), some (.ref wl), some (.ref lg), some (.ref lw), t5, t6, t7, some (.ref D), some (.ref p1), some (.ref p2), u11, u12, u13, u14] ∧ Dr wl H5 Hc) ⟨_, _, _, _, rfl, ⟨But.refl _ _, W5⟩⟩ ?_ ?_
    · rintro k σ Hc hk ⟨u11, u12, u13, u14, rfl, dc⟩
      have LGc := LG5.dr nlg W5 dc
      have LWc := LW5.dr nlw W5 dc
      refine ⟨_, rfl, _, rfl, _, rfl, wl, lg, lw, gs, ws, rfl, dc.well, nlg, nlw, LGc, LWc, N, wne, hw72, fun lt ts tv H6 E6 hlt elt tav tne tl tok => ?_⟩
      have d6 := dc.trans E6
      have nlt : lt ≠ wl := (dc.well.ne hlt).symm
      refine gn_norm (σ' := [some (.ref a), some (.int (i : Nat)), some (.ref wl), some (.ref lg), some (.ref lw), t5, t6, t7, some (.ref D), some (.ref p1), some (.ref p2), some (.int (0 + (k : Nat))), some (.ref lt), u13, u14]) rfl ?_
      refine ⟨fun σ Hd => ∃ (v : V) (d : PyData), σ = [some (.ref a), some (.int (i : Nat)), some (.ref wl), some (.ref lg), some (.ref lw), t5, t6, t7, some (.ref D), some (.ref p1), some (.ref p2), some (.int (0 + (k : Nat))), some v, u13, u14] ∧ Dr wl H5 Hd ∧ Rs K Hd v d, ?_, ?_⟩
      · refine ⟨_, rfl, wl, 2, rfl, by decide, by decide, d6.well, fun d7 H7 d70 d71 E7 => ⟨rfl, _, rfl, ite2 (fun _ => ?_) (fun _ => ?_)⟩⟩
        · have d7' := d6.trans E7
          obtain ⟨wv7, hwv7, wa7⟩ := LW5.dr nlw W5 d7'
          have hpos : 0 < ws.length := List.length_pos_iff.mpr wne
          refine ⟨_, rfl, _, rfl, lw, wv7, rfl, .inl (SqL.of hwv7), _, rfl, wl, lt, ws.length, tv, ts, (by show [V.ref wl, V.int ((wv7.length : Nat) : Int), V.ref lt] = _; rw [wa7.1]), d7'.well, nlt, E7.but _ _ nlt elt, tav.imp fun _ _ z => z.tk (TK.dr d6.well E7.but), tne, tl, hpos, by omega, tok, fun v d H8 E8 R8 => ?_⟩
          exact ⟨v, d, rfl, d7'.trans E8, R8⟩
        · refine ⟨.ref lt, .list (ts.map tnD), rfl, d6.trans E7, OL.rs (wl := wl) (ol_turns (tav.imp fun _ _ z => z.tk (TK.dr d6.well E7.but)) tok (by omega)) (E7.but _ _ nlt elt) (by rw [List.length_map]; omega)⟩
      rintro σ H8 ⟨v, d, rfl, d8, R⟩
      refine ⟨_, rfl, v, d, rfl, R.x, R.sw, R.dd, R.sz, ?_⟩
      refine gn_norm (σ' := [some (.ref a), some (.int (i : Nat)), some (.ref wl), some (.ref lg), some (.ref lw), t5, t6, t7, some (.ref D), some (.ref p1), some (.ref p2), some (.int (0 + (k : Nat))), some v, some (.str d.shown), u14]) rfl ?_
      refine ⟨_, rfl, _, rfl, _, rfl, _, rfl, lg, lw, D, v, d, gs, ws, us, rfl, LG5.dr nlg W5 d8, LW5.dr nlw W5 d8, LO5.dr nD W5 d8, N, NO, he, R.x, R.l, fun v2 H9 s9 dp9 => ?_⟩
      refine gn_norm (σ' := [some (.ref a), some (.int (i : Nat)), some (.ref wl), some (.ref lg), some (.ref lw), t5, t6, t7, some (.ref D), some (.ref p1), some (.ref p2), some (.int (0 + (k : Nat))), some v, some (.str d.shown), some v2]) rfl ?_
      have d9 := d8.trans (Dr.ofSame d8.well s9)
      have fs := fault_sh gs ws us d
      have sh := fs.ok (by decide)
      have eq := SeqAt.eqv_refl _ fs.1
      refine ⟨_, rfl, _, rfl, _, rfl, p1, ng1, nw1, p2, ng2, nw2, v, d, gs, ws, us, rfl, NA5.dr' W5 m1 m2 m3 d9, NB5.dr' W5 m4 m5 m6 d9, N, NO, he, R.x.same s9, (fun ds e => by have := (R.l ds e).1; omega), fun v3 H10 s10 dp10 => ?_⟩
      refine ⟨_, rfl, _, _, dp10, dp_same dp9 s10, sh, sh, false, ?_, iteF ?_⟩
      · rw [eq]
        rfl
      refine ⟨_, rfl, v, d, rfl, R.x.same (s9.trans s10), R.sw, R.dd, R.sz, _, rfl, rfl, _, rfl, iteNS rfl ?_⟩
      exact ⟨_, _, _, _, rfl, d8.trans (Dr.ofSame d8.well (s9.trans s10))⟩
    · rintro σ Hc ⟨u11, u12, u13, u14, rfl, dc⟩
      have D15 := D5.trans dc
      exact ⟨_, _, _, _, _, _, _, _, _, _, _, _, _, _, rfl, fun b o e => by
        have e0 := s0 _ _ e
        exact D15.but _ _ (ne_of_none e0 hwl) (s1 _ _ e0)⟩
end
end Lag

set_option maxRecDepth 100000
set_option maxHeartbeats 8000000
namespace Lag
open PySem PySem.Spec PyProof.Rows L2
theorem all_mk {l : PySem.W.OpenLaw} {w : World} {K : PySem.W.Frag} {h : Heap} {mg : Str → Option Value} {fa C : Addr} (X : K.In h) (G : h.Ns mainGlobals mg) (hfa : mg "law" = some (.ref fa))
    {fd0 : Addr} {odd0 and0 : Option Addr} {sld0 : Array (Option Value)} {ocd0 kVd0 dcd0 pmd0 cdd0 ctd0 : Value}
    {fd1 : Addr} {odd1 and1 : Option Addr} {sld1 : Array (Option Value)} {ocd1 kVd1 dcd1 pmd1 cdd1 ctd1 : Value}
    {fd2 : Addr} {odd2 and2 : Option Addr} {sld2 : Array (Option Value)} {ocd2 kVd2 dcd2 pmd2 cdd2 ctd2 : Value}
    {fd3 : Addr} {odd3 and3 : Option Addr} {sld3 : Array (Option Value)} {ocd3 kVd3 dcd3 pmd3 cdd3 ctd3 : Value}
    {fd4 : Addr} {odd4 and4 : Option Addr} {sld4 : Array (Option Value)} {ocd4 kVd4 dcd4 pmd4 cdd4 ctd4 : Value}
    {fd5 : Addr} {odd5 and5 : Option Addr} {sld5 : Array (Option Value)} {ocd5 kVd5 dcd5 pmd5 cdd5 ctd5 : Value}
    {fd6 : Addr} {odd6 and6 : Option Addr} {sld6 : Array (Option Value)} {ocd6 kVd6 dcd6 pmd6 cdd6 ctd6 : Value}
    {fd7 : Addr} {odd7 and7 : Option Addr} {sld7 : Array (Option Value)} {ocd7 kVd7 dcd7 pmd7 cdd7 ctd7 : Value}
    {fd8 : Addr} {odd8 and8 : Option Addr} {sld8 : Array (Option Value)} {ocd8 kVd8 dcd8 pmd8 cdd8 ctd8 : Value}
    {fd9 : Addr} {odd9 and9 : Option Addr} {sld9 : Array (Option Value)} {ocd9 kVd9 dcd9 pmd9 cdd9 ctd9 : Value}
    {fd10 : Addr} {odd10 and10 : Option Addr} {sld10 : Array (Option Value)} {ocd10 kVd10 dcd10 pmd10 cdd10 ctd10 : Value}
    {fd11 : Addr} {odd11 and11 : Option Addr} {sld11 : Array (Option Value)} {ocd11 kVd11 dcd11 pmd11 cdd11 ctd11 : Value}
    {fd12 : Addr} {odd12 and12 : Option Addr} {sld12 : Array (Option Value)} {ocd12 kVd12 dcd12 pmd12 cdd12 ctd12 : Value}
    {fd13 : Addr} {odd13 and13 : Option Addr} {sld13 : Array (Option Value)} {ocd13 kVd13 dcd13 pmd13 cdd13 ctd13 : Value}
    {fd14 : Addr} {odd14 and14 : Option Addr} {sld14 : Array (Option Value)} {ocd14 kVd14 dcd14 pmd14 cdd14 ctd14 : Value}
    {fd15 : Addr} {odd15 and15 : Option Addr} {sld15 : Array (Option Value)} {ocd15 kVd15 dcd15 pmd15 cdd15 ctd15 : Value}
    {fd16 : Addr} {odd16 and16 : Option Addr} {sld16 : Array (Option Value)} {ocd16 kVd16 dcd16 pmd16 cdd16 ctd16 : Value}
    {fd17 : Addr} {odd17 and17 : Option Addr} {sld17 : Array (Option Value)} {ocd17 kVd17 dcd17 pmd17 cdd17 ctd17 : Value}
    {fd18 : Addr} {odd18 and18 : Option Addr} {sld18 : Array (Option Value)} {ocd18 kVd18 dcd18 pmd18 cdd18 ctd18 : Value}
    {fd19 : Addr} {odd19 and19 : Option Addr} {sld19 : Array (Option Value)} {ocd19 kVd19 dcd19 pmd19 cdd19 ctd19 : Value}
    {fd20 : Addr} {odd20 and20 : Option Addr} {sld20 : Array (Option Value)} {ocd20 kVd20 dcd20 pmd20 cdd20 ctd20 : Value}
    {fd21 : Addr} {odd21 and21 : Option Addr} {sld21 : Array (Option Value)} {ocd21 kVd21 dcd21 pmd21 cdd21 ctd21 : Value}
    {fd22 : Addr} {odd22 and22 : Option Addr} {sld22 : Array (Option Value)} {ocd22 kVd22 dcd22 pmd22 cdd22 ctd22 : Value}
    {fd23 : Addr} {odd23 and23 : Option Addr} {sld23 : Array (Option Value)} {ocd23 kVd23 dcd23 pmd23 cdd23 ctd23 : Value}
    {fd24 : Addr} {odd24 and24 : Option Addr} {sld24 : Array (Option Value)} {ocd24 kVd24 dcd24 pmd24 cdd24 ctd24 : Value}
    {fd25 : Addr} {odd25 and25 : Option Addr} {sld25 : Array (Option Value)} {ocd25 kVd25 dcd25 pmd25 cdd25 ctd25 : Value}
    {fd26 : Addr} {odd26 and26 : Option Addr} {sld26 : Array (Option Value)} {ocd26 kVd26 dcd26 pmd26 cdd26 ctd26 : Value}
    {fd27 : Addr} {odd27 and27 : Option Addr} {sld27 : Array (Option Value)} {ocd27 kVd27 dcd27 pmd27 cdd27 ctd27 : Value}
    {fd28 : Addr} {odd28 and28 : Option Addr} {sld28 : Array (Option Value)} {ocd28 kVd28 dcd28 pmd28 cdd28 ctd28 : Value}
    {fd29 : Addr} {odd29 and29 : Option Addr} {sld29 : Array (Option Value)} {ocd29 kVd29 dcd29 pmd29 cdd29 ctd29 : Value}
    {fd30 : Addr} {odd30 and30 : Option Addr} {sld30 : Array (Option Value)} {ocd30 kVd30 dcd30 pmd30 cdd30 ctd30 : Value}
    {fd31 : Addr} {odd31 and31 : Option Addr} {sld31 : Array (Option Value)} {ocd31 kVd31 dcd31 pmd31 cdd31 ctd31 : Value}
    {fd32 : Addr} {odd32 and32 : Option Addr} {sld32 : Array (Option Value)} {ocd32 kVd32 dcd32 pmd32 cdd32 ctd32 : Value}
    {fm0 : Addr} {odm0 anm0 : Option Addr} {slm0 : Array (Option Value)} {ocm0 kVm0 dcm0 pmm0 cdm0 ctm0 : Value}
    {tGW tGA : Tok}
    {aK nnK : Nat} {ddK : Option Addr} {ssK : Array (Option Value)} {tK0 tK1 tK2 tK3 tK4 tK5 tK6 tK7 : Tok}
    {aW nnW : Nat} {ddW : Option Addr} {ssW : Array (Option Value)} {tW0 tW1 : Tok}
    {aF nnF : Nat} {ddF : Option Addr} {ssF : Array (Option Value)} {tF0 tF1 : Tok}
    (aC : PySem.W.nsIn K mainGlobals "Net" = some (some (.ref C)))
    (ad0 : PySem.W.nsIn K mainGlobals "is_whole" = some (some (.ref fd0)))
    (ld0 : K.lookup fd0 = some ⟨ocd0, odd0, .func (PySem.W.fnOf "is_whole" "is_whole" (defArgs sWhole) (defBody sWhole) (defScope sWhole) .none kVd0 dcd0 pmd0 and0 cdd0 ctd0), sld0⟩)
    (cd0 : PySem.W.codeIn K cdd0 "is_whole" = true)
    (kd0 : PySem.W.keepIn K (.ref fd0) = true)
    (ad1 : PySem.W.nsIn K mainGlobals "is_whole_from_to" = some (some (.ref fd1)))
    (ld1 : K.lookup fd1 = some ⟨ocd1, odd1, .func (PySem.W.fnOf "is_whole_from_to" "is_whole_from_to" (defArgs sFromTo) (defBody sFromTo) (defScope sFromTo) .none kVd1 dcd1 pmd1 and1 cdd1 ctd1), sld1⟩)
    (cd1 : PySem.W.codeIn K cdd1 "is_whole_from_to" = true)
    (kd1 : PySem.W.keepIn K (.ref fd1) = true)
    (ad2 : PySem.W.nsIn K mainGlobals "is_worth" = some (some (.ref fd2)))
    (ld2 : K.lookup fd2 = some ⟨ocd2, odd2, .func (PySem.W.fnOf "is_worth" "is_worth" (defArgs sWorth) (defBody sWorth) (defScope sWorth) .none kVd2 dcd2 pmd2 and2 cdd2 ctd2), sld2⟩)
    (cd2 : PySem.W.codeIn K cdd2 "is_worth" = true)
    (kd2 : PySem.W.keepIn K (.ref fd2) = true)
    (ad3 : PySem.W.nsIn K mainGlobals "is_gate" = some (some (.ref fd3)))
    (ld3 : K.lookup fd3 = some ⟨ocd3, odd3, .func (PySem.W.fnOf "is_gate" "is_gate" (defArgs sIsGate) (defBody sIsGate) (defScope sIsGate) .none kVd3 dcd3 pmd3 and3 cdd3 ctd3), sld3⟩)
    (cd3 : PySem.W.codeIn K cdd3 "is_gate" = true)
    (kd3 : PySem.W.keepIn K (.ref fd3) = true)
    (ad4 : PySem.W.nsIn K mainGlobals "check_gates" = some (some (.ref fd4)))
    (ld4 : K.lookup fd4 = some ⟨ocd4, odd4, .func (PySem.W.fnOf "check_gates" "check_gates" (defArgs sChkGates) (defBody sChkGates) (defScope sChkGates) .none kVd4 dcd4 pmd4 and4 cdd4 ctd4), sld4⟩)
    (cd4 : PySem.W.codeIn K cdd4 "check_gates" = true)
    (kd4 : PySem.W.keepIn K (.ref fd4) = true)
    (ad5 : PySem.W.nsIn K mainGlobals "is_wire" = some (some (.ref fd5)))
    (ld5 : K.lookup fd5 = some ⟨ocd5, odd5, .func (PySem.W.fnOf "is_wire" "is_wire" (defArgs sIsWire) (defBody sIsWire) (defScope sIsWire) .none kVd5 dcd5 pmd5 and5 cdd5 ctd5), sld5⟩)
    (cd5 : PySem.W.codeIn K cdd5 "is_wire" = true)
    (kd5 : PySem.W.keepIn K (.ref fd5) = true)
    (ad6 : PySem.W.nsIn K mainGlobals "is_taken" = some (some (.ref fd6)))
    (ld6 : K.lookup fd6 = some ⟨ocd6, odd6, .func (PySem.W.fnOf "is_taken" "is_taken" (defArgs sTaken) (defBody sTaken) (defScope sTaken) .none kVd6 dcd6 pmd6 and6 cdd6 ctd6), sld6⟩)
    (cd6 : PySem.W.codeIn K cdd6 "is_taken" = true)
    (kd6 : PySem.W.keepIn K (.ref fd6) = true)
    (ad7 : PySem.W.nsIn K mainGlobals "check_wires" = some (some (.ref fd7)))
    (ld7 : K.lookup fd7 = some ⟨ocd7, odd7, .func (PySem.W.fnOf "check_wires" "check_wires" (defArgs sChkWires) (defBody sChkWires) (defScope sChkWires) .none kVd7 dcd7 pmd7 and7 cdd7 ctd7), sld7⟩)
    (cd7 : PySem.W.codeIn K cdd7 "check_wires" = true)
    (kd7 : PySem.W.keepIn K (.ref fd7) = true)
    (ad8 : PySem.W.nsIn K mainGlobals "order_along" = some (some (.ref fd8)))
    (ld8 : K.lookup fd8 = some ⟨ocd8, odd8, .func (PySem.W.fnOf "order_along" "order_along" (defArgs sAlong) (defBody sAlong) (defScope sAlong) .none kVd8 dcd8 pmd8 and8 cdd8 ctd8), sld8⟩)
    (cd8 : PySem.W.codeIn K cdd8 "order_along" = true)
    (kd8 : PySem.W.keepIn K (.ref fd8) = true)
    (ad9 : PySem.W.nsIn K mainGlobals "bare_order" = some (some (.ref fd9)))
    (ld9 : K.lookup fd9 = some ⟨ocd9, odd9, .func (PySem.W.fnOf "bare_order" "bare_order" (defArgs sOrder) (defBody sOrder) (defScope sOrder) .none kVd9 dcd9 pmd9 and9 cdd9 ctd9), sld9⟩)
    (cd9 : PySem.W.codeIn K cdd9 "bare_order" = true)
    (kd9 : PySem.W.keepIn K (.ref fd9) = true)
    (ad10 : PySem.W.nsIn K mainGlobals "check_rings" = some (some (.ref fd10)))
    (ld10 : K.lookup fd10 = some ⟨ocd10, odd10, .func (PySem.W.fnOf "check_rings" "check_rings" (defArgs sChkRings) (defBody sChkRings) (defScope sChkRings) .none kVd10 dcd10 pmd10 and10 cdd10 ctd10), sld10⟩)
    (cd10 : PySem.W.codeIn K cdd10 "check_rings" = true)
    (kd10 : PySem.W.keepIn K (.ref fd10) = true)
    (ad11 : PySem.W.nsIn K mainGlobals "is_turn" = some (some (.ref fd11)))
    (ld11 : K.lookup fd11 = some ⟨ocd11, odd11, .func (PySem.W.fnOf "is_turn" "is_turn" (defArgs sTurn) (defBody sTurn) (defScope sTurn) .none kVd11 dcd11 pmd11 and11 cdd11 ctd11), sld11⟩)
    (cd11 : PySem.W.codeIn K cdd11 "is_turn" = true)
    (kd11 : PySem.W.keepIn K (.ref fd11) = true)
    (ad12 : PySem.W.nsIn K mainGlobals "is_outer" = some (some (.ref fd12)))
    (ld12 : K.lookup fd12 = some ⟨ocd12, odd12, .func (PySem.W.fnOf "is_outer" "is_outer" (defArgs sOuter) (defBody sOuter) (defScope sOuter) .none kVd12 dcd12 pmd12 and12 cdd12 ctd12), sld12⟩)
    (cd12 : PySem.W.codeIn K cdd12 "is_outer" = true)
    (kd12 : PySem.W.keepIn K (.ref fd12) = true)
    (ad13 : PySem.W.nsIn K mainGlobals "are_of_one_form" = some (some (.ref fd13)))
    (ld13 : K.lookup fd13 = some ⟨ocd13, odd13, .func (PySem.W.fnOf "are_of_one_form" "are_of_one_form" (defArgs sOneForm) (defBody sOneForm) (defScope sOneForm) .none kVd13 dcd13 pmd13 and13 cdd13 ctd13), sld13⟩)
    (cd13 : PySem.W.codeIn K cdd13 "are_of_one_form" = true)
    (kd13 : PySem.W.keepIn K (.ref fd13) = true)
    (ad14 : PySem.W.nsIn K mainGlobals "spots_of" = some (some (.ref fd14)))
    (ld14 : K.lookup fd14 = some ⟨ocd14, odd14, .func (PySem.W.fnOf "spots_of" "spots_of" (defArgs sSpots) (defBody sSpots) (defScope sSpots) .none kVd14 dcd14 pmd14 and14 cdd14 ctd14), sld14⟩)
    (cd14 : PySem.W.codeIn K cdd14 "spots_of" = true)
    (kd14 : PySem.W.keepIn K (.ref fd14) = true)
    (ad15 : PySem.W.nsIn K mainGlobals "first_gap" = some (some (.ref fd15)))
    (ld15 : K.lookup fd15 = some ⟨ocd15, odd15, .func (PySem.W.fnOf "first_gap" "first_gap" (defArgs sGap) (defBody sGap) (defScope sGap) .none kVd15 dcd15 pmd15 and15 cdd15 ctd15), sld15⟩)
    (cd15 : PySem.W.codeIn K cdd15 "first_gap" = true)
    (kd15 : PySem.W.keepIn K (.ref fd15) = true)
    (ad16 : PySem.W.nsIn K mainGlobals "check_form" = some (some (.ref fd16)))
    (ld16 : K.lookup fd16 = some ⟨ocd16, odd16, .func (PySem.W.fnOf "check_form" "check_form" (defArgs sChkForm) (defBody sChkForm) (defScope sChkForm) .none kVd16 dcd16 pmd16 and16 cdd16 ctd16), sld16⟩)
    (cd16 : PySem.W.codeIn K cdd16 "check_form" = true)
    (kd16 : PySem.W.keepIn K (.ref fd16) = true)
    (ad17 : PySem.W.nsIn K mainGlobals "loop_fault" = some (some (.ref fd17)))
    (ld17 : K.lookup fd17 = some ⟨ocd17, odd17, .func (PySem.W.fnOf "loop_fault" "loop_fault" (defArgs sFault) (defBody sFault) (defScope sFault) .none kVd17 dcd17 pmd17 and17 cdd17 ctd17), sld17⟩)
    (cd17 : PySem.W.codeIn K cdd17 "loop_fault" = true)
    (kd17 : PySem.W.keepIn K (.ref fd17) = true)
    (ad18 : PySem.W.nsIn K mainGlobals "turn_ends" = some (some (.ref fd18)))
    (ld18 : K.lookup fd18 = some ⟨ocd18, odd18, .func (PySem.W.fnOf "turn_ends" "turn_ends" (defArgs sTurnE) (defBody sTurnE) (defScope sTurnE) .none kVd18 dcd18 pmd18 and18 cdd18 ctd18), sld18⟩)
    (cd18 : PySem.W.codeIn K cdd18 "turn_ends" = true)
    (kd18 : PySem.W.keepIn K (.ref fd18) = true)
    (ad19 : PySem.W.nsIn K mainGlobals "loop_sum" = some (some (.ref fd19)))
    (ld19 : K.lookup fd19 = some ⟨ocd19, odd19, .func (PySem.W.fnOf "loop_sum" "loop_sum" (defArgs sLoopS) (defBody sLoopS) (defScope sLoopS) .none kVd19 dcd19 pmd19 and19 cdd19 ctd19), sld19⟩)
    (cd19 : PySem.W.codeIn K cdd19 "loop_sum" = true)
    (kd19 : PySem.W.keepIn K (.ref fd19) = true)
    (ad20 : PySem.W.nsIn K mainGlobals "_law_cell_at" = some (some (.ref fd20)))
    (ld20 : K.lookup fd20 = some ⟨ocd20, odd20, .func (PySem.W.fnOf "_law_cell_at" "_law_cell_at" (defArgs sCellAt) (defBody sCellAt) (defScope sCellAt) .none kVd20 dcd20 pmd20 and20 cdd20 ctd20), sld20⟩)
    (cd20 : PySem.W.codeIn K cdd20 "_law_cell_at" = true)
    (kd20 : PySem.W.keepIn K (.ref fd20) = true)
    (ad21 : PySem.W.nsIn K mainGlobals "_law_digit" = some (some (.ref fd21)))
    (ld21 : K.lookup fd21 = some ⟨ocd21, odd21, .func (PySem.W.fnOf "_law_digit" "_law_digit" (defArgs sDigit) (defBody sDigit) (defScope sDigit) .none kVd21 dcd21 pmd21 and21 cdd21 ctd21), sld21⟩)
    (cd21 : PySem.W.codeIn K cdd21 "_law_digit" = true)
    (kd21 : PySem.W.keepIn K (.ref fd21) = true)
    (ad22 : PySem.W.nsIn K mainGlobals "_law_gates" = some (some (.ref fd22)))
    (ld22 : K.lookup fd22 = some ⟨ocd22, odd22, .func (PySem.W.fnOf "_law_gates" "_law_gates" (defArgs sGates) (defBody sGates) (defScope sGates) .none kVd22 dcd22 pmd22 and22 cdd22 ctd22), sld22⟩)
    (cd22 : PySem.W.codeIn K cdd22 "_law_gates" = true)
    (kd22 : PySem.W.keepIn K (.ref fd22) = true)
    (ad23 : PySem.W.nsIn K mainGlobals "_law_worths" = some (some (.ref fd23)))
    (ld23 : K.lookup fd23 = some ⟨ocd23, odd23, .func (PySem.W.fnOf "_law_worths" "_law_worths" (defArgs sLWorths) (defBody sLWorths) (defScope sLWorths) .none kVd23 dcd23 pmd23 and23 cdd23 ctd23), sld23⟩)
    (cd23 : PySem.W.codeIn K cdd23 "_law_worths" = true)
    (kd23 : PySem.W.keepIn K (.ref fd23) = true)
    (ad24 : PySem.W.nsIn K mainGlobals "_law_wires" = some (some (.ref fd24)))
    (ld24 : K.lookup fd24 = some ⟨ocd24, odd24, .func (PySem.W.fnOf "_law_wires" "_law_wires" (defArgs sLWires) (defBody sLWires) (defScope sLWires) .none kVd24 dcd24 pmd24 and24 cdd24 ctd24), sld24⟩)
    (cd24 : PySem.W.codeIn K cdd24 "_law_wires" = true)
    (kd24 : PySem.W.keepIn K (.ref fd24) = true)
    (ad25 : PySem.W.nsIn K mainGlobals "_law_parts" = some (some (.ref fd25)))
    (ld25 : K.lookup fd25 = some ⟨ocd25, odd25, .func (PySem.W.fnOf "_law_parts" "_law_parts" (defArgs sLParts) (defBody sLParts) (defScope sLParts) .none kVd25 dcd25 pmd25 and25 cdd25 ctd25), sld25⟩)
    (cd25 : PySem.W.codeIn K cdd25 "_law_parts" = true)
    (kd25 : PySem.W.keepIn K (.ref fd25) = true)
    (ad26 : PySem.W.nsIn K mainGlobals "_law_home" = some (some (.ref fd26)))
    (ld26 : K.lookup fd26 = some ⟨ocd26, odd26, .func (PySem.W.fnOf "_law_home" "_law_home" (defArgs sHome) (defBody sHome) (defScope sHome) .none kVd26 dcd26 pmd26 and26 cdd26 ctd26), sld26⟩)
    (cd26 : PySem.W.codeIn K cdd26 "_law_home" = true)
    (kd26 : PySem.W.keepIn K (.ref fd26) = true)
    (ad27 : PySem.W.nsIn K mainGlobals "_law_ends" = some (some (.ref fd27)))
    (ld27 : K.lookup fd27 = some ⟨ocd27, odd27, .func (PySem.W.fnOf "_law_ends" "_law_ends" (defArgs sEndsL) (defBody sEndsL) (defScope sEndsL) .none kVd27 dcd27 pmd27 and27 cdd27 ctd27), sld27⟩)
    (cd27 : PySem.W.codeIn K cdd27 "_law_ends" = true)
    (kd27 : PySem.W.keepIn K (.ref fd27) = true)
    (ad28 : PySem.W.nsIn K mainGlobals "_law_walk" = some (some (.ref fd28)))
    (ld28 : K.lookup fd28 = some ⟨ocd28, odd28, .func (PySem.W.fnOf "_law_walk" "_law_walk" (defArgs sWalk) (defBody sWalk) (defScope sWalk) .none kVd28 dcd28 pmd28 and28 cdd28 ctd28), sld28⟩)
    (cd28 : PySem.W.codeIn K cdd28 "_law_walk" = true)
    (kd28 : PySem.W.keepIn K (.ref fd28) = true)
    (ad29 : PySem.W.nsIn K mainGlobals "_law_whole" = some (some (.ref fd29)))
    (ld29 : K.lookup fd29 = some ⟨ocd29, odd29, .func (PySem.W.fnOf "_law_whole" "_law_whole" (defArgs sWholeL) (defBody sWholeL) (defScope sWholeL) .none kVd29 dcd29 pmd29 and29 cdd29 ctd29), sld29⟩)
    (cd29 : PySem.W.codeIn K cdd29 "_law_whole" = true)
    (kd29 : PySem.W.keepIn K (.ref fd29) = true)
    (ad30 : PySem.W.nsIn K mainGlobals "_law_due" = some (some (.ref fd30)))
    (ld30 : K.lookup fd30 = some ⟨ocd30, odd30, .func (PySem.W.fnOf "_law_due" "_law_due" (defArgs sDue) (defBody sDue) (defScope sDue) .none kVd30 dcd30 pmd30 and30 cdd30 ctd30), sld30⟩)
    (cd30 : PySem.W.codeIn K cdd30 "_law_due" = true)
    (kd30 : PySem.W.keepIn K (.ref fd30) = true)
    (ad31 : PySem.W.nsIn K mainGlobals "_law_spoilt" = some (some (.ref fd31)))
    (ld31 : K.lookup fd31 = some ⟨ocd31, odd31, .func (PySem.W.fnOf "_law_spoilt" "_law_spoilt" (defArgs sSpoilt) (defBody sSpoilt) (defScope sSpoilt) .none kVd31 dcd31 pmd31 and31 cdd31 ctd31), sld31⟩)
    (cd31 : PySem.W.codeIn K cdd31 "_law_spoilt" = true)
    (kd31 : PySem.W.keepIn K (.ref fd31) = true)
    (ad32 : PySem.W.nsIn K mainGlobals "law" = some (some (.ref fd32)))
    (ld32 : K.lookup fd32 = some ⟨ocd32, odd32, .func (PySem.W.fnOf "law" "law" (defArgs sLaw) (defBody sLaw) (defScope sLaw) .none kVd32 dcd32 pmd32 and32 cdd32 ctd32), sld32⟩)
    (cd32 : PySem.W.codeIn K cdd32 "law" = true)
    (kd32 : PySem.W.keepIn K (.ref fd32) = true)
    (am0 : PySem.W.findIn K (.ref C) "__init__" = some (some (.ref fm0)))
    (im0 : PySem.W.isFn K (.ref fm0) = true)
    (lm0 : K.lookup fm0 = some ⟨ocm0, odm0, .func (PySem.W.fnOf "__init__" "Net.__init__" (defArgs sInit) (defBody sInit) (defScope sInit) .none kVm0 dcm0 pmm0 anm0 cdm0 ctm0), slm0⟩)
    (cm0 : PySem.W.codeIn K cdm0 "Net.__init__" = true)
    (km0 : PySem.W.keepIn K (.ref fm0) = true)
    (pgC : PySem.W.plainGet K C Str.empty = true)
    (hdC : PySem.W.hasDictIn K C = true)
    (poC : PySem.W.plainOver K C = true)
    (saC : PySem.W.findIn K (.ref C) "__setattr__" = some (some (.builtin "object.__setattr__")))
    (mkC : PySem.W.makesIn K C = true)
    (kcC : PySem.W.keepIn K (.ref C) = true)
    (nG : PySem.W.findIn K (.ref C) "gates" = some none)
    (nW : PySem.W.findIn K (.ref C) "wires" = some none)
    (zisi : PySem.W.nsIn K mainGlobals "isinstance" = some none)
    (zint : PySem.W.nsIn K mainGlobals "int" = some none)
    (zbool : PySem.W.nsIn K mainGlobals "bool" = some none)
    (zlen : PySem.W.nsIn K mainGlobals "len" = some none)
    (ztuple : PySem.W.nsIn K mainGlobals "tuple" = some none)
    (zstr : PySem.W.nsIn K mainGlobals "str" = some none)
    (zlist : PySem.W.nsIn K mainGlobals "list" = some none)
    (zall : PySem.W.nsIn K mainGlobals "all" = some none)
    (zenum : PySem.W.nsIn K mainGlobals "enumerate" = some none)
    (zzip : PySem.W.nsIn K mainGlobals "zip" = some none)
    (zrange : PySem.W.nsIn K mainGlobals "range" = some none)
    (zmax : PySem.W.nsIn K mainGlobals "max" = some none)
    (zsum : PySem.W.nsIn K mainGlobals "sum" = some none)
    (zmin : PySem.W.nsIn K mainGlobals "min" = some none)
    (zabs : PySem.W.nsIn K mainGlobals "abs" = some none)
    (zrepr : PySem.W.nsIn K mainGlobals "repr" = some none)
    (gGW : PySem.W.nsIn K mainGlobals "GREATEST_WORTH" = some (some (.int 96 tGW)))
    (gGA : PySem.W.nsIn K mainGlobals "GREATEST_WAIT" = some (some (.int 100 tGA)))
    (gK : PySem.W.nsIn K mainGlobals "KINDS" = some (some (.ref aK)))
    (oK : K.lookup aK = some ⟨.type "tuple", ddK, .seq #[.str "in" tK0, .str "out" tK1, .str "sum" tK2, .str "times" tK3, .str "most" tK4, .str "least" tK5, .str "first" tK6, .str "one" tK7] nnK, ssK⟩)
    (gW : PySem.W.nsIn K mainGlobals "OUTER_KINDS" = some (some (.ref aW)))
    (oW : K.lookup aW = some ⟨.type "tuple", ddW, .seq #[.str "in" tW0, .str "out" tW1] nnW, ssW⟩)
    (gF : PySem.W.nsIn K mainGlobals "KINDS_WITH_A_WIRE" = some (some (.ref aF)))
    (oF : K.lookup aF = some ⟨.type "tuple", ddF, .seq #[.str "out" tF0, .str "first" tF1] nnF, ssF⟩) :
    ∃ fd : FuncData, (∀ (s : Shared) (v : Value), BindsTo s fd ⟨[v], []⟩ [("_law_script", v)]) ∧ ∀ base : Heap, K.In base → base.Ns mainGlobals mg → FnG l.prog w K mg base CX0 8 fa fd ["_law_script"] (spLaw K) := by
  have e := hfa.symm.trans (PySem.W.mg_of X G ad32)
  cases e
  have Fd0 := fun_mk (st := sWhole) ld0 cd0 kd0
  have Fd1 := fun_mk (st := sFromTo) ld1 cd1 kd1
  have Fd2 := fun_mk (st := sWorth) ld2 cd2 kd2
  have Fd3 := fun_mk (st := sIsGate) ld3 cd3 kd3
  have Fd4 := fun_mk (st := sChkGates) ld4 cd4 kd4
  have Fd5 := fun_mk (st := sIsWire) ld5 cd5 kd5
  have Fd6 := fun_mk (st := sTaken) ld6 cd6 kd6
  have Fd7 := fun_mk (st := sChkWires) ld7 cd7 kd7
  have Fd8 := fun_mk (st := sAlong) ld8 cd8 kd8
  have Fd9 := fun_mk (st := sOrder) ld9 cd9 kd9
  have Fd10 := fun_mk (st := sChkRings) ld10 cd10 kd10
  have Fd11 := fun_mk (st := sTurn) ld11 cd11 kd11
  have Fd12 := fun_mk (st := sOuter) ld12 cd12 kd12
  have Fd13 := fun_mk (st := sOneForm) ld13 cd13 kd13
  have Fd14 := fun_mk (st := sSpots) ld14 cd14 kd14
  have Fd15 := fun_mk (st := sGap) ld15 cd15 kd15
  have Fd16 := fun_mk (st := sChkForm) ld16 cd16 kd16
  have Fd17 := fun_mk (st := sFault) ld17 cd17 kd17
  have Fd18 := fun_mk (st := sTurnE) ld18 cd18 kd18
  have Fd19 := fun_mk (st := sLoopS) ld19 cd19 kd19
  have Fd20 := fun_mk (st := sCellAt) ld20 cd20 kd20
  have Fd21 := fun_mk (st := sDigit) ld21 cd21 kd21
  have Fd22 := fun_mk (st := sGates) ld22 cd22 kd22
  have Fd23 := fun_mk (st := sLWorths) ld23 cd23 kd23
  have Fd24 := fun_mk (st := sLWires) ld24 cd24 kd24
  have Fd25 := fun_mk (st := sLParts) ld25 cd25 kd25
  have Fd26 := fun_mk (st := sHome) ld26 cd26 kd26
  have Fd27 := fun_mk (st := sEndsL) ld27 cd27 kd27
  have Fd28 := fun_mk (st := sWalk) ld28 cd28 kd28
  have Fd29 := fun_mk (st := sWholeL) ld29 cd29 kd29
  have Fd30 := fun_mk (st := sDue) ld30 cd30 kd30
  have Fd31 := fun_mk (st := sSpoilt) ld31 cd31 kd31
  have Fd32 := fun_mk (st := sLaw) ld32 cd32 kd32
  have Fm0 := fun_mk (st := sInit) lm0 cm0 km0
  have B : Bt mg := ⟨PySem.W.mg_none_of X G zisi, PySem.W.mg_none_of X G zint, PySem.W.mg_none_of X G zbool, PySem.W.mg_none_of X G zlen, PySem.W.mg_none_of X G ztuple, PySem.W.mg_none_of X G zstr, PySem.W.mg_none_of X G zlist, PySem.W.mg_none_of X G zall, PySem.W.mg_none_of X G zenum, PySem.W.mg_none_of X G zzip, PySem.W.mg_none_of X G zrange, PySem.W.mg_none_of X G zmax⟩
  have b_sum := PySem.W.mg_none_of X G zsum
  have b_min := PySem.W.mg_none_of X G zmin
  have b_abs := PySem.W.mg_none_of X G zabs
  have b_repr := PySem.W.mg_none_of X G zrepr
  have Cn : Cns K mg aK aW aF := ⟨⟨_, PySem.W.mg_of X G gGW⟩, ⟨_, PySem.W.mg_of X G gGA⟩, PySem.W.mg_of X G gK, fun _ => .inr ⟨_, _, _, oK, rfl, rfl, (by show 8 ≤ sizeLine; decide), .cons ⟨_, rfl⟩ (.cons ⟨_, rfl⟩ (.cons ⟨_, rfl⟩ (.cons ⟨_, rfl⟩ (.cons ⟨_, rfl⟩ (.cons ⟨_, rfl⟩ (.cons ⟨_, rfl⟩ (.cons ⟨_, rfl⟩ (.nil))))))))⟩, PySem.W.mg_of X G gW, fun _ => .inr ⟨_, _, _, oW, rfl, rfl, (by show 2 ≤ sizeLine; decide), .cons ⟨_, rfl⟩ (.cons ⟨_, rfl⟩ (.nil))⟩, PySem.W.mg_of X G gF, fun _ => .inr ⟨_, _, _, oF, rfl, rfl, (by show 2 ≤ sizeLine; decide), .cons ⟨_, rfl⟩ (.cons ⟨_, rfl⟩ (.nil))⟩⟩
  have T : NT K mg C := ⟨⟨pgC, hdC, poC, saC⟩, nG, nW, PySem.W.mg_of X G aC⟩
  have bm0 := Fm0.binds (ps := ["self", "gates", "wires"]) fun _ _ _ _ _ _ us hl => match us, hl with | [_, _, _], _ => rfl
  refine ⟨PySem.W.fnOf "law" "law" (defArgs sLaw) (defBody sLaw) (defScope sLaw) .none kVd32 dcd32 pmd32 and32 cdd32 ctd32, fun s v => .of_eq rfl, fun base _ _ => ?_⟩
  have whole := ok_whole (P := l.prog) (w := w) (base := base) Fd0 (PySem.W.mg_of X G ad0) B
  have ft := ok_fromTo (P := l.prog) (w := w) (base := base) Fd1 (PySem.W.mg_of X G ad1) whole
  have wo := ok_worth (P := l.prog) (w := w) (base := base) Fd2 (PySem.W.mg_of X G ad2) Cn ft
  have ig := ok_isGate (P := l.prog) (w := w) (base := base) Fd3 (PySem.W.mg_of X G ad3) B Cn ft
  have cg := ok_chkGates (P := l.prog) (w := w) (base := base) Fd4 (PySem.W.mg_of X G ad4) B ig
  have iw := ok_isWire (P := l.prog) (w := w) (base := base) Fd5 (PySem.W.mg_of X G ad5) B ft wo
  have tk := ok_taken (P := l.prog) (w := w) (base := base) Fd6 (PySem.W.mg_of X G ad6)
  have cw := ok_chkWires (P := l.prog) (w := w) (base := base) Fd7 (PySem.W.mg_of X G ad7) B Cn iw tk
  have al := ok_along (P := l.prog) (w := w) (base := base) Fd8 (PySem.W.mg_of X G ad8) B
  have od := ok_order (P := l.prog) (w := w) (base := base) Fd9 (PySem.W.mg_of X G ad9) B al
  have cr := ok_chkRings (P := l.prog) (w := w) (base := base) Fd10 (PySem.W.mg_of X G ad10) B od
  have init := ok_init (P := l.prog) (w := w) (base := base) Fm0 T B cg cw cr
  have MK : Mk K C fm0 := ⟨mkC, am0, im0, kcC⟩
  have whD := ok_wholeD (P := l.prog) (w := w) (base := base) Fd0 B
  have ftD := ok_fromToD (P := l.prog) (w := w) (base := base) Fd1 whole whD
  have tn := ok_turn (P := l.prog) (w := w) (base := base) Fd11 (PySem.W.mg_of X G ad11) B ft ftD
  have ou := ok_outer (P := l.prog) (w := w) (base := base) Fd12 (PySem.W.mg_of X G ad12) Cn
  have spo := ok_spots (P := l.prog) (w := w) (base := base) Fd14 (PySem.W.mg_of X G ad14) B T ou
  have gap := ok_gap (P := l.prog) (w := w) (base := base) Fd15 (PySem.W.mg_of X G ad15) B spo
  have tue := ok_turnE (P := l.prog) (w := w) (base := base) Fd18 (PySem.W.mg_of X G ad18) T
  have los := ok_loopS (P := l.prog) (w := w) (base := base) Fd19 (PySem.W.mg_of X G ad19) B b_sum T
  have of1 := ok_oneForm (P := l.prog) (w := w) (base := base) Fd13 (PySem.W.mg_of X G ad13) T
  have ckf := ok_chkForm (P := l.prog) (w := w) (base := base) Fd16 (PySem.W.mg_of X G ad16) of1
  have lof := ok_fault (P := l.prog) (w := w) (base := base) Fd17 (PySem.W.mg_of X G ad17) B T ckf tn gap tue los
  have ca := ok_cellAt (P := l.prog) (w := w) (base := base) Fd20 (PySem.W.mg_of X G ad20) B.len
  have dg := ok_digit (P := l.prog) (w := w) (base := base) Fd21 (PySem.W.mg_of X G ad21) B
  have ga := ok_gates (P := l.prog) (w := w) (base := base) Fd22 (PySem.W.mg_of X G ad22) B dg
  have lw := ok_lworths (P := l.prog) (w := w) (base := base) Fd23 (PySem.W.mg_of X G ad23) B dg
  have wi := ok_lwires (P := l.prog) (w := w) (base := base) Fd24 (PySem.W.mg_of X G ad24) B dg lw
  have pa := ok_lparts (P := l.prog) (w := w) (base := base) Fd25 (PySem.W.mg_of X G ad25) B dg ga wi
  have hom := ok_home (P := l.prog) (w := w) (base := base) Fd26 (PySem.W.mg_of X G ad26) B
  have enl := ok_endsL (P := l.prog) (w := w) (base := base) Fd27 (PySem.W.mg_of X G ad27) hom
  have whl := ok_wholeL (P := l.prog) (w := w) (base := base) Fd29 (PySem.W.mg_of X G ad29) B
  have due := ok_due (P := l.prog) (w := w) (base := base) Fd30 (PySem.W.mg_of X G ad30) B b_abs b_sum whl enl
  have wlk := ok_walk (P := l.prog) (w := w) (base := base) Fd28 (PySem.W.mg_of X G ad28) B dg enl
  have spt := ok_spoilt (P := l.prog) (w := w) (base := base) Fd31 (PySem.W.mg_of X G ad31) B dg
  exact ok_law Fd32 B b_min b_repr T ca dg pa MK init bm0 wlk spt due lof
end Lag

set_option maxRecDepth 100000
open PySem PySem.W PyProof.Rows
set_option maxRecDepth 100000 in
set_option maxHeartbeats 0 in
theorem PySem.Challenge.cw_lagshift_k29_loops_judged_holds : PySem.Challenge.rw_lagshift_k29_loops_judged.Holds := by
  w_on; o_law; k_head; (case hw => w_witness2)
  k_fill
  refine Lag.walkG_of (l := PySem.Challenge.rw_lagshift_k29_loops_judged) (n := 63) (k := 8) (x := "_law_script") (CX := fun _ => L2.CX0) (sp := fun w => Lag.spLaw _) rfl (by decide) rfl ⟨rfl, by decide, by decide⟩ (fun w h Y => PySem.W.kIn_of Y) ?F (fun _ _ a ns hl _ hS => ⟨a, ns, rfl, hS, hl, fun _ => rfl⟩) (fun _ _ _ _ _ h => h)
  case F =>
    intro w mg fa h KX G hmg
    refine' Lag.all_mk KX G hmg ?aC ?ad0 ?ld0 ?cd0 ?kd0 ?ad1 ?ld1 ?cd1 ?kd1 ?ad2 ?ld2 ?cd2 ?kd2 ?ad3 ?ld3 ?cd3 ?kd3 ?ad4 ?ld4 ?cd4 ?kd4 ?ad5 ?ld5 ?cd5 ?kd5 ?ad6 ?ld6 ?cd6 ?kd6 ?ad7 ?ld7 ?cd7 ?kd7 ?ad8 ?ld8 ?cd8 ?kd8 ?ad9 ?ld9 ?cd9 ?kd9 ?ad10 ?ld10 ?cd10 ?kd10 ?ad11 ?ld11 ?cd11 ?kd11 ?ad12 ?ld12 ?cd12 ?kd12 ?ad13 ?ld13 ?cd13 ?kd13 ?ad14 ?ld14 ?cd14 ?kd14 ?ad15 ?ld15 ?cd15 ?kd15 ?ad16 ?ld16 ?cd16 ?kd16 ?ad17 ?ld17 ?cd17 ?kd17 ?ad18 ?ld18 ?cd18 ?kd18 ?ad19 ?ld19 ?cd19 ?kd19 ?ad20 ?ld20 ?cd20 ?kd20 ?ad21 ?ld21 ?cd21 ?kd21 ?ad22 ?ld22 ?cd22 ?kd22 ?ad23 ?ld23 ?cd23 ?kd23 ?ad24 ?ld24 ?cd24 ?kd24 ?ad25 ?ld25 ?cd25 ?kd25 ?ad26 ?ld26 ?cd26 ?kd26 ?ad27 ?ld27 ?cd27 ?kd27 ?ad28 ?ld28 ?cd28 ?kd28 ?ad29 ?ld29 ?cd29 ?kd29 ?ad30 ?ld30 ?cd30 ?kd30 ?ad31 ?ld31 ?cd31 ?kd31 ?ad32 ?ld32 ?cd32 ?kd32 ?am0 ?im0 ?lm0 ?cm0 ?km0 ?pgC ?hdC ?poC ?saC ?mkC ?kcC ?nG ?nW ?zisi ?zint ?zbool ?zlen ?ztuple ?zstr ?zlist ?zall ?zenum ?zzip ?zrange ?zmax ?zsum ?zmin ?zabs ?zrepr ?gGW ?gGA ?gK ?oK ?gW ?oW ?gF ?oF
    (case aC => k_is)
    (case ad0 => k_is)
    (case ld0 => k_is)
    (case cd0 => k_is)
    (case kd0 => k_is)
    (case ad1 => k_is)
    (case ld1 => k_is)
    (case cd1 => k_is)
    (case kd1 => k_is)
    (case ad2 => k_is)
    (case ld2 => k_is)
    (case cd2 => k_is)
    (case kd2 => k_is)
    (case ad3 => k_is)
    (case ld3 => k_is)
    (case cd3 => k_is)
    (case kd3 => k_is)
    (case ad4 => k_is)
    (case ld4 => k_is)
    (case cd4 => k_is)
    (case kd4 => k_is)
    (case ad5 => k_is)
    (case ld5 => k_is)
    (case cd5 => k_is)
    (case kd5 => k_is)
    (case ad6 => k_is)
    (case ld6 => k_is)
    (case cd6 => k_is)
    (case kd6 => k_is)
    (case ad7 => k_is)
    (case ld7 => k_is)
    (case cd7 => k_is)
    (case kd7 => k_is)
    (case ad8 => k_is)
    (case ld8 => k_is)
    (case cd8 => k_is)
    (case kd8 => k_is)
    (case ad9 => k_is)
    (case ld9 => k_is)
    (case cd9 => k_is)
    (case kd9 => k_is)
    (case ad10 => k_is)
    (case ld10 => k_is)
    (case cd10 => k_is)
    (case kd10 => k_is)
    (case ad11 => k_is)
    (case ld11 => k_is)
    (case cd11 => k_is)
    (case kd11 => k_is)
    (case ad12 => k_is)
    (case ld12 => k_is)
    (case cd12 => k_is)
    (case kd12 => k_is)
    (case ad13 => k_is)
    (case ld13 => k_is)
    (case cd13 => k_is)
    (case kd13 => k_is)
    (case ad14 => k_is)
    (case ld14 => k_is)
    (case cd14 => k_is)
    (case kd14 => k_is)
    (case ad15 => k_is)
    (case ld15 => k_is)
    (case cd15 => k_is)
    (case kd15 => k_is)
    (case ad16 => k_is)
    (case ld16 => k_is)
    (case cd16 => k_is)
    (case kd16 => k_is)
    (case ad17 => k_is)
    (case ld17 => k_is)
    (case cd17 => k_is)
    (case kd17 => k_is)
    (case ad18 => k_is)
    (case ld18 => k_is)
    (case cd18 => k_is)
    (case kd18 => k_is)
    (case ad19 => k_is)
    (case ld19 => k_is)
    (case cd19 => k_is)
    (case kd19 => k_is)
    (case ad20 => k_is)
    (case ld20 => k_is)
    (case cd20 => k_is)
    (case kd20 => k_is)
    (case ad21 => k_is)
    (case ld21 => k_is)
    (case cd21 => k_is)
    (case kd21 => k_is)
    (case ad22 => k_is)
    (case ld22 => k_is)
    (case cd22 => k_is)
    (case kd22 => k_is)
    (case ad23 => k_is)
    (case ld23 => k_is)
    (case cd23 => k_is)
    (case kd23 => k_is)
    (case ad24 => k_is)
    (case ld24 => k_is)
    (case cd24 => k_is)
    (case kd24 => k_is)
    (case ad25 => k_is)
    (case ld25 => k_is)
    (case cd25 => k_is)
    (case kd25 => k_is)
    (case ad26 => k_is)
    (case ld26 => k_is)
    (case cd26 => k_is)
    (case kd26 => k_is)
    (case ad27 => k_is)
    (case ld27 => k_is)
    (case cd27 => k_is)
    (case kd27 => k_is)
    (case ad28 => k_is)
    (case ld28 => k_is)
    (case cd28 => k_is)
    (case kd28 => k_is)
    (case ad29 => k_is)
    (case ld29 => k_is)
    (case cd29 => k_is)
    (case kd29 => k_is)
    (case ad30 => k_is)
    (case ld30 => k_is)
    (case cd30 => k_is)
    (case kd30 => k_is)
    (case ad31 => k_is)
    (case ld31 => k_is)
    (case cd31 => k_is)
    (case kd31 => k_is)
    (case ad32 => k_is)
    (case ld32 => k_is)
    (case cd32 => k_is)
    (case kd32 => k_is)
    (case am0 => k_is)
    (case im0 => k_is)
    (case lm0 => k_is)
    (case cm0 => k_is)
    (case km0 => k_is)
    (case pgC => k_is)
    (case hdC => k_is)
    (case poC => k_is)
    (case saC => k_is)
    (case mkC => k_is)
    (case kcC => k_is)
    (case nG => k_is)
    (case nW => k_is)
    (case zisi => k_is)
    (case zint => k_is)
    (case zbool => k_is)
    (case zlen => k_is)
    (case ztuple => k_is)
    (case zstr => k_is)
    (case zlist => k_is)
    (case zall => k_is)
    (case zenum => k_is)
    (case zzip => k_is)
    (case zrange => k_is)
    (case zmax => k_is)
    (case zsum => k_is)
    (case zmin => k_is)
    (case zabs => k_is)
    (case zrepr => k_is)
    (case gGW => k_is)
    (case gGA => k_is)
    (case gK => k_is)
    (case oK => k_is)
    (case gW => k_is)
    (case oW => k_is)
    (case gF => k_is)
    (case oF => k_is)

