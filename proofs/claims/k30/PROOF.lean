import PyProof.Rows.All
import Wide.All
import OpenK.AllK
import Wide.FinOn
import HandS.ForMost
import HandS.IsInst
import HandS.Evl
import HandS.Flow
import HandS.Conv
import HandS.Wide
import HandS.Walk
import HandS.Zip
import HandS.Style
import HandS.TupAny
import HandS.ExcInit
import HandS.ExcValue
import HandS.ExcIs
import HandS.ExcField
import HandS.MakeKwOnly
import HandS.Deep
import HandS.More
import HandS.WordsExc
import HandS.ExcOwn
import PyProof.Rows.CountFlat
import PySem.Challenge.RW_lagshift_k30_refusals_apart
set_option Elab.async false
set_option linter.all false
set_option maxRecDepth 100000
set_option maxHeartbeats 4000000
namespace Lag
open PySem PySem.Spec PyProof.Rows L2
/-! ### the text by its places -/
def topS (i : Nat) : Stmt := PySem.Challenge.pw_lagshift_k30_refusals_apart.main.body.getD i (.Pass ⟨0, 0, 0, 0⟩)
abbrev sCellAt : Stmt := topS 16 -- @_law_cell_at
/-! ### heaps -/
/-- all stands as it stood but at w -/
def But (w : Addr) (H H' : Hp) : Prop := ∀ b o, b ≠ w → H b = some o → H' b = some o
theorem But.refl (w : Addr) (H : Hp) : But w H H := fun _ _ _ h => h
theorem But.trans {w : Addr} {H H1 H2 : Hp} (a : But w H H1) (b : But w H1 H2) : But w H H2 := fun c o n h => b c o n (a c o n h)
theorem But.same {w : Addr} {H H1 : Hp} (a : Same H H1) : But w H H1 := fun c o _ h => a c o h
theorem But.upd {w : Addr} {H : Hp} {o : HO} : But w H (upd H w o) := fun c u n h => by rw [upd_ne n]; exact h
theorem But.new {w p : Addr} {H : Hp} {o : HO} (h : H p = none) : But w H (L2.upd H p o) := fun c u n e => by rw [upd_ne (ne_of_none e h)]; exact e
theorem same_new {H : Hp} {p : Addr} {o : HO} (h : H p = none) : Same H (upd H p o) := fun b x e => by rw [upd_ne (ne_of_none e h)]; exact e
/-- an object that H does not know may be changed -/
theorem same_mut {H H' : Hp} {p : Addr} {o : HO} (e : Same H H') (h : H p = none) : Same H (upd H' p o) := fun a u ha => by rw [upd_ne (ne_of_none ha h)]; exact e a u ha
theorem But.mut {w p : Addr} {H H' : Hp} {o : HO} (e : But w H H') (h : H p = none) : But w H (L2.upd H' p o) := fun a u n ha => by rw [upd_ne (ne_of_none ha h)]; exact e a u n ha
theorem But.seq {K : PySem.W.Frag} {w a : Addr} {H H' : Hp} {xs : List V} (e : But w H H') (n : a ≠ w) (h : SqL K H a xs) : SqL K H' a xs := by
  rcases h with (h | ⟨o, h⟩) | h
  · exact .inl (.inl (e _ _ n h))
  · exact .inl (.inr ⟨o, e _ _ n h⟩)
  · exact .inr h
/-- at w the state: one number, or three -/
def StOk (xs : List V) : Prop := (∃ a : Int, xs = [.int a]) ∨ ∃ a b c : Int, xs = [.int a, .int b, .int c]
def WellAt (w : Addr) (H : Hp) : Prop := ∃ xs : List V, H w = some (.lst xs) ∧ StOk xs
theorem WellAt.new {w p : Addr} {H : Hp} {o : HO} (W : WellAt w H) (h : H p = none) : WellAt w (upd H p o) := by
  obtain ⟨xs, e, k⟩ := W
  exact ⟨xs, by rw [upd_ne (ne_of_none e h)]; exact e, k⟩
theorem WellAt.same {w : Addr} {H H' : Hp} (W : WellAt w H) (s : Same H H') : WellAt w H' := by
  obtain ⟨xs, e, k⟩ := W
  exact ⟨xs, s _ _ e, k⟩
theorem WellAt.ne {w p : Addr} {H : Hp} (W : WellAt w H) (h : H p = none) : w ≠ p := by
  obtain ⟨xs, e, k⟩ := W
  exact ne_of_none e h
/-- a draw of the well: what stood stands, the well is one -/
structure Dr (w : Addr) (H H' : Hp) : Prop where
  but : But w H H'
  well : WellAt w H'
theorem Dr.trans {w : Addr} {H H1 H2 : Hp} (a : Dr w H H1) (b : Dr w H1 H2) : Dr w H H2 := ⟨a.but.trans b.but, b.well⟩
theorem Dr.free {w p : Addr} {H H' : Hp} (d : Dr w H H') (W : WellAt w H) (h : H' p = none) : H p = none := by
  cases q : H p with
  | none => rfl
  | some o =>
    have n : p ≠ w := (d.well.ne h).symm
    rw [d.but _ _ n q] at h
    cases h
/-! ### the promises of the draws -/
def spCellAt (K : PySem.W.Frag) : Sp := fun vs H Q _ => ∃ (a : Addr) (ns : List Int) (k : Int), vs = [.ref a, .int k] ∧ 0 ≤ k ∧ SqL K H a (ns.map V.int) ∧ ∀ z : Int, Q (.int z) H
section
variable {P : Program} {w : World} {K : PySem.W.Frag} {mg : Str → Option Value} {base : Heap}
/-- a def at its name: it keeps its promise, its name holds it, its arguments bind -/
structure Df (P : Program) (w : World) (K : PySem.W.Frag) (mg : Str → Option Value) (base : Heap) (k : Nat) (name : Str) (ps : List Str) (sp : Sp) (f : Addr) (fd : FuncData) : Prop where
  ok : FnOk P w K mg base CX0 k f fd ps sp
  mg : mg name = some (.ref f)
  kp : PySem.W.keepIn K (.ref f) = true
  bd : Binds K fd ps []
/-! ### _law_cell_at -/
theorem scCellAt : FnScope ["_law_script", "_law_k"] ["_law_script", "_law_k"] (defScope sCellAt) := ⟨rfl, rfl, rfl, by decide +kernel, rfl, by decide +kernel, by decide +kernel⟩
abbrev DCellAt (P : Program) (w : World) (K : PySem.W.Frag) (mg : Str → Option Value) (base : Heap) := Df P w K mg base 1 "_law_cell_at" ["_law_script", "_law_k"] (spCellAt K)
theorem ok_cellAt {f : Addr} {fd : FuncData} (F : Fun K "_law_cell_at" "_law_cell_at" sCellAt f fd) (hm : mg "_law_cell_at" = some (.ref f)) (ml : mg "len" = none) : DCellAt P w K mg base f fd := by
  refine ⟨?_, hm, F.kp, F.binds fun _ _ _ _ _ _ us hl => match us, hl with | [_, _], _ => rfl⟩
  refine F.ok scCellAt (fun vs H Q E h => ?_) (fun cdv A outer s H vs Q E hr h => ?_)
  · obtain ⟨a, ns, k, rfl, _⟩ := h
    rfl
  · obtain ⟨a, ns, k, rfl, hk, hS, q⟩ := h
    refine ⟨_, pss_cons (ps_if (pt_cmpR op_lt (pv 1) (pe_callB call_len_seq (by rfl) ml PySem.boot_len (pa_cons (pv 0) pa_nil)) (nomark _))
        (pss_one (ps_ret (pe_ix ix_list (pv 0) (pv 1) (fun _ _ => rfl)))) pss_nil)
      (pss_one (ps_ret pe_int)), ?_⟩
    refine ⟨_, rfl, .ref a, rfl, a, _, rfl, .inl hS, _, _, rfl, rfl, _, rfl, ite2 (fun e => ?_) (fun e => ?_)⟩
    · have e1 : k < ((ns.map V.int).length : Int) := of_decide_eq_true e
      rw [List.length_map] at e1
      have hj : k.toNat < ns.length := by omega
      refine ⟨_, rfl, _, rfl, a, _, k, .int (ns[k.toNat]), rfl, rfl, hS, at_of (j := k.toNat) (by omega) ?_, q _⟩
      rw [List.getElem?_map, List.getElem?_eq_getElem hj]
      rfl
    · exact q 0
end
/-! ### what is kept of tuples -/
def isT : HO → Prop
  | .tup _ => True
  | .frz _ _ => True
  | _ => False
/-- tuples, and what is locked, stand as they stood -/
def TK (H H' : Hp) : Prop := ∀ a o, isT o → H a = some o → H' a = some o
theorem TK.refl (H : Hp) : TK H H := fun _ _ _ h => h
theorem TK.trans {H H1 H2 : Hp} (a : TK H H1) (b : TK H1 H2) : TK H H2 := fun c o t h => b c o t (a c o t h)
theorem TK.same {H H1 : Hp} (a : Same H H1) : TK H H1 := fun c o _ h => a c o h
theorem TK.new {p : Addr} {H : Hp} {o : HO} (h : H p = none) : TK H (upd H p o) := TK.same (same_new h)
theorem TK.lst {l : Addr} {H : Hp} {xs : List V} {o : HO} (h : H l = some (.lst xs)) : TK H (upd H l o) := fun c u t e => by
  have n : c ≠ l := fun z => by
    rw [z, h] at e
    cases e
    exact t
  rw [upd_ne n]
  exact e
theorem TK.dr {w : Addr} {H H' : Hp} (W : WellAt w H) (d : But w H H') : TK H H' := fun c u t e => by
  obtain ⟨xs, h, _⟩ := W
  have n : c ≠ w := fun z => by
    rw [z, h] at e
    cases e
    exact t
  exact d _ _ n e
theorem TK.seq {K : PySem.W.Frag} {H H' : Hp} {a : Addr} {xs : List V} (t : TK H H') (h : SqT K H a xs) : SqT K H' a xs := by
  rcases h with (h | ⟨o, h⟩) | h
  · exact .inl (.inl (t _ _ trivial h))
  · exact .inl (.inr ⟨o, t _ _ trivial h⟩)
  · exact .inr h
/-! ### gates and wires as data -/
abbrev Gt := Str × Int
abbrev Wr := Nat × Nat × List Int
def kinds : List Str := ["in", "out", "sum", "times", "most", "least", "first", "one"]
def portK (k : Str) : Prop := k = "in" ∨ k = "out"
/-- a gate -/
def GOk (g : Gt) : Prop := g.1 ∈ kinds ∧ 0 ≤ g.2 ∧ g.2 ≤ 100 ∧ (portK g.1 → g.2 = 0)
def GateV (K : PySem.W.Frag) (H : Hp) (v : V) (g : Gt) : Prop := ∃ a, v = .ref a ∧ SqT K H a [.str g.1, .int g.2]
def WireV (K : PySem.W.Frag) (H : Hp) (v : V) (x : Wr) : Prop := ∃ a b, v = .ref a ∧ SqT K H a [.int x.1, .int x.2.1, .ref b] ∧ SqT K H b (x.2.2.map V.int)
theorem GateV.tk {K : PySem.W.Frag} {H H' : Hp} {v : V} {g : Gt} (t : TK H H') (h : GateV K H v g) : GateV K H' v g := by
  obtain ⟨a, e, s⟩ := h
  exact ⟨a, e, t.seq s⟩
theorem WireV.tk {K : PySem.W.Frag} {H H' : Hp} {v : V} {x : Wr} (t : TK H H') (h : WireV K H v x) : WireV K H' v x := by
  obtain ⟨a, b, e, s, s2⟩ := h
  exact ⟨a, b, e, t.seq s, t.seq s2⟩
theorem Dr.new {wl p : Addr} {H : Hp} {o : HO} (W : WellAt wl H) (h : H p = none) : Dr wl H (upd H p o) := ⟨But.new h, W.new h⟩
def ROk (r : List Int) : Prop := ∀ x ∈ r, 0 ≤ x ∧ x ≤ 96
theorem tyes {σ : L2.St} {H : Hp} {A B : Hp → Prop} (h : A H) : tYes σ H (fun b H3 => if b = true then A H3 else B H3) := by
  show if true = true then A H else B H
  rw [if_pos rfl]
  exact h
/-! ### two lists, place by place -/
def All2 {α β : Type} (R : α → β → Prop) (xs : List α) (ys : List β) : Prop := xs.length = ys.length ∧ ∀ (i : Nat) (x : α) (y : β), xs[i]? = some x → ys[i]? = some y → R x y
section
variable {α β : Type} {R S : α → β → Prop} {xs : List α} {ys : List β} {x : α} {y : β}
theorem All2.nil : All2 R [] [] := ⟨rfl, fun i x y h => by simp at h⟩
theorem All2.imp (h : All2 R xs ys) (f : ∀ x y, R x y → S x y) : All2 S xs ys := ⟨h.1, fun i x y a b => f x y (h.2 i x y a b)⟩
theorem All2.snoc (h : All2 R xs ys) (r : R x y) : All2 R (xs ++ [x]) (ys ++ [y]) := by
  refine ⟨by simp [h.1], fun i a b ha hb => ?_⟩
  by_cases hi : i < xs.length
  · rw [List.getElem?_append_left hi] at ha
    rw [List.getElem?_append_left (by rw [← h.1]; exact hi)] at hb
    exact h.2 i a b ha hb
  · rw [List.getElem?_append_right (by omega)] at ha
    rw [List.getElem?_append_right (by rw [← h.1]; omega), ← h.1] at hb
    cases e : i - xs.length with
    | zero =>
      rw [e] at ha hb
      simp at ha hb
      subst ha hb
      exact r
    | succ n =>
      rw [e] at ha
      simp at ha
theorem All2.cons (r : R x y) (h : All2 R xs ys) : All2 R (x :: xs) (y :: ys) := by
  refine ⟨by simp [h.1], fun i a b ha hb => ?_⟩
  cases i with
  | zero =>
    simp at ha hb
    subst ha hb
    exact r
  | succ n => exact h.2 n a b (by simpa using ha) (by simpa using hb)
theorem All2.head {x : α} {y : β} (h : All2 R (x :: xs) (y :: ys)) : R x y := h.2 0 x y rfl rfl
theorem All2.tail {x : α} {y : β} (h : All2 R (x :: xs) (y :: ys)) : All2 R xs ys := ⟨by have := h.1; simp at this; exact this, fun i a b ha hb => h.2 (i + 1) a b (by simpa using ha) (by simpa using hb)⟩
theorem All2.get (h : All2 R xs ys) {i : Nat} {x : α} (e : xs[i]? = some x) : ∃ y, ys[i]? = some y ∧ R x y := by
  have hi := (List.getElem?_eq_some_iff.mp e).1
  have hj : i < ys.length := by rw [← h.1]; exact hi
  exact ⟨ys[i], List.getElem?_eq_getElem hj, h.2 i x _ e (List.getElem?_eq_getElem hj)⟩
theorem All2.getR (h : All2 R xs ys) {i : Nat} {y : β} (e : ys[i]? = some y) : ∃ x, xs[i]? = some x ∧ R x y := by
  have hi := (List.getElem?_eq_some_iff.mp e).1
  have hj : i < xs.length := by rw [h.1]; exact hi
  exact ⟨xs[i], List.getElem?_eq_getElem hj, h.2 i _ y (List.getElem?_eq_getElem hj) e⟩
theorem All2.perm {xs' : List α} (p : xs'.Perm xs) : ∀ {ys : List β}, All2 R xs ys → ∃ ys', ys'.Perm ys ∧ All2 R xs' ys' := by
  induction p with
  | nil => intro ys h; exact ⟨ys, .refl _, h⟩
  | @cons a l1 l2 p ih =>
    intro ys h
    cases ys with
    | nil => have := h.1; simp at this
    | cons y ys =>
      obtain ⟨ys', p', h'⟩ := ih h.tail
      exact ⟨y :: ys', p'.cons y, h'.cons h.head⟩
  | swap a b l =>
    intro ys h
    match ys, h with
    | [], h => have := h.1; simp at this
    | [_], h => have := h.1; simp at this
    | y :: z :: ys, h => exact ⟨z :: y :: ys, .swap _ _ _, All2.cons h.tail.head (All2.cons h.head h.tail.tail)⟩
  | trans p1 p2 ih1 ih2 =>
    intro ys h
    obtain ⟨ys1, q1, h1⟩ := ih2 h
    obtain ⟨ys2, q2, h2⟩ := ih1 h1
    exact ⟨ys2, q2.trans q1, h2⟩
end
/-! ### nets as data -/
def kindAt (gs : List Gt) (i : Nat) : Str := (gs.getD i ("", 0)).1
def cnt (ws : List Wr) (e : Nat) : Nat := ws.countP (fun x => x.2.1 == e)
/-- a wire between these gates -/
structure WOk (gs : List Gt) (x : Wr) : Prop where
  s : x.1 < gs.length
  e : x.2.1 < gs.length
  ks : kindAt gs x.1 ≠ "out"
  ke : kindAt gs x.2.1 ≠ "in"
  r : ROk x.2.2
  rl : x.2.2.length ≤ 100
structure NetOk (gs : List Gt) (ws : List Wr) : Prop where
  ne : gs ≠ []
  gl : gs.length ≤ 100
  wl : ws.length ≤ 1000
  gok : ∀ g ∈ gs, GOk g
  wok : ∀ x ∈ ws, WOk gs x
  one : ∀ e, e < gs.length → kindAt gs e = "out" → cnt ws e = 1
  some : ∀ e, e < gs.length → kindAt gs e = "first" → 1 ≤ cnt ws e
  rank : ∃ ρ : Nat → Nat, ∀ x ∈ ws, x.2.2 = [] → ρ x.1 < ρ x.2.1
/-- numbered anew: the gate k is the old gate at left's place k -/
theorem NetOk.anew {gs : List Gt} {ws : List Wr} {left : List Nat} (N : NetOk gs ws) (p : left.Perm (List.range gs.length)) {ws' : List Wr} (pw : ws'.Perm ws) :
    NetOk (left.map fun k => gs.getD k ("", 0)) (ws'.map fun x => (left.idxOf x.1, left.idxOf x.2.1, x.2.2)) := by
  have hl : left.length = gs.length := by rw [p.length_eq, List.length_range]
  have nd : left.Nodup := p.nodup_iff.mpr List.nodup_range
  have mem : ∀ i, i < gs.length → i ∈ left := fun i hi => p.mem_iff.mpr (List.mem_range.mpr hi)
  have memb : ∀ i, i ∈ left → i < gs.length := fun i hi => List.mem_range.mp (p.mem_iff.mp hi)
  have il : ∀ i, i < gs.length → left.idxOf i < left.length := fun i hi => List.idxOf_lt_length_iff.mpr (mem i hi)
  have ge : ∀ i (h : i < gs.length), left[left.idxOf i]? = Option.some i := fun i h => by
    rw [List.getElem?_eq_getElem (il i h), List.getElem_idxOf]
  have kk : ∀ i, i < gs.length → kindAt (left.map fun k => gs.getD k ("", 0)) (left.idxOf i) = kindAt gs i := fun i h => by
    unfold kindAt
    rw [List.getD_eq_getElem?_getD, List.getElem?_map, ge i h]
    rfl
  have inj : ∀ i j, i < gs.length → j < gs.length → left.idxOf i = left.idxOf j → i = j := fun i j hi hj e => by
    have h1 := ge i hi
    rw [e, ge j hj] at h1
    exact (Option.some.inj h1).symm
  have cc : ∀ e, e < gs.length → cnt (ws'.map fun x => (left.idxOf x.1, left.idxOf x.2.1, x.2.2)) (left.idxOf e) = cnt ws e := fun e he => by
    unfold cnt
    rw [List.countP_map, ← pw.countP_eq]
    refine List.countP_congr fun x hx => ?_
    have := (N.wok x (pw.mem_iff.mp hx)).e
    simp only [Function.comp, beq_iff_eq]
    exact ⟨fun z => inj _ _ this he z, fun z => by rw [z]⟩
  have back : ∀ e, e < left.length → ∃ i, i < gs.length ∧ left.idxOf i = e := fun e he => by
    refine ⟨left[e], memb _ (List.getElem_mem he), ?_⟩
    exact List.Nodup.idxOf_getElem nd e he
  obtain ⟨ρ, hρ⟩ := N.rank
  refine ⟨?_, by simpa [hl] using N.gl, by simpa [pw.length_eq] using N.wl, ?_, ?_, ?_, ?_, ?_⟩
  · intro z
    have := congrArg List.length z
    simp [hl] at this
    exact N.ne this
  · intro g hg
    obtain ⟨k, hk, rfl⟩ := List.mem_map.mp hg
    refine N.gok _ ?_
    rw [List.getD_eq_getElem?_getD, List.getElem?_eq_getElem (memb k hk)]
    exact List.getElem_mem _
  · intro y hy
    obtain ⟨x, hx, rfl⟩ := List.mem_map.mp hy
    have W := N.wok x (pw.mem_iff.mp hx)
    refine ⟨by simpa using il _ W.s, by simpa using il _ W.e, ?_, ?_, W.r, W.rl⟩
    · show kindAt _ (left.idxOf x.1) ≠ _
      rw [kk _ W.s]
      exact W.ks
    · show kindAt _ (left.idxOf x.2.1) ≠ _
      rw [kk _ W.e]
      exact W.ke
  · intro e he hk
    obtain ⟨i, hi, rfl⟩ := back e (by simpa using he)
    rw [kk i hi] at hk
    rw [cc i hi]
    exact N.one i hi hk
  · intro e he hk
    obtain ⟨i, hi, rfl⟩ := back e (by simpa using he)
    rw [kk i hi] at hk
    rw [cc i hi]
    exact N.some i hi hk
  · refine ⟨fun k => ρ (left.getD k 0), fun y hy h => ?_⟩
    obtain ⟨x, hx, rfl⟩ := List.mem_map.mp hy
    have W := N.wok x (pw.mem_iff.mp hx)
    have := hρ x (pw.mem_iff.mp hx) h
    simp only [List.getD_eq_getElem?_getD, ge _ W.s, ge _ W.e, Option.getD_some]
    exact this
theorem set_well {wl D : Addr} {H0 H : Hp} {o : HO} (d : Dr wl H0 H) (h0 : H0 D = none) (n : D ≠ wl) : Dr wl H0 (upd H D o) := by
  refine ⟨fun c u nc e => ?_, ?_⟩
  · rw [upd_ne (ne_of_none e h0)]
    exact d.but c u nc e
  · obtain ⟨xs, hx, k⟩ := d.well
    exact ⟨xs, by rw [upd_ne n.symm]; exact hx, k⟩
def tLen (K : PySem.W.Frag) (i : Nat) : TE := tCB (Evl.rLenS K) (tCons (tVar i) tNil)
/-- the wires into the gates ahead of i -/
structure WInv (gs : List Gt) (ws : List Wr) (i : Nat) : Prop where
  ok : ∀ x ∈ ws, WOk gs x ∧ (x.2.2 = [] → x.1 < x.2.1) ∧ x.2.1 < i
  one : ∀ e, e < i → kindAt gs e = "out" → cnt ws e = 1
  some : ∀ e, e < i → kindAt gs e = "first" → 1 ≤ cnt ws e
  len : ws.length ≤ 3 * i
  r2 : ∀ x ∈ ws, x.2.2.length ≤ 3
/-- .. and j wires into the gate i -/
structure WInv2 (gs : List Gt) (ws : List Wr) (i j : Nat) : Prop where
  ok : ∀ x ∈ ws, WOk gs x ∧ (x.2.2 = [] → x.1 < x.2.1) ∧ x.2.1 < i + 1
  one : ∀ e, e < i → kindAt gs e = "out" → cnt ws e = 1
  some : ∀ e, e < i → kindAt gs e = "first" → 1 ≤ cnt ws e
  here : cnt ws i = j
  len : ws.length ≤ 3 * i + j
  r2 : ∀ x ∈ ws, x.2.2.length ≤ 3
theorem WInv.go {gs : List Gt} {ws : List Wr} {i : Nat} (h : WInv gs ws i) : WInv2 gs ws i 0 := by
  refine ⟨fun x hx => ⟨(h.ok x hx).1, (h.ok x hx).2.1, by have := (h.ok x hx).2.2; omega⟩, h.one, h.some, ?_, h.len, h.r2⟩
  unfold cnt
  rw [List.countP_eq_zero]
  intro x hx z
  have := (h.ok x hx).2.2
  simp at z
  omega
theorem WInv2.app {gs : List Gt} {ws : List Wr} {i j : Nat} {x : Wr} (h : WInv2 gs ws i j) (hx : WOk gs x) (hr : x.2.2 = [] → x.1 < x.2.1) (he : x.2.1 = i) (h2 : x.2.2.length ≤ 3) : WInv2 gs (ws ++ [x]) i (j + 1) := by
  have c : ∀ e, e < i → cnt (ws ++ [x]) e = cnt ws e := fun e he' => by
    unfold cnt
    rw [List.countP_append]
    have : (x.2.1 == e) = false := by simp; omega
    simp [List.countP_cons, this]
  refine ⟨fun y hy => ?_, fun e h1 h2 => by rw [c e h1]; exact h.one e h1 h2, fun e h1 h2 => by rw [c e h1]; exact h.some e h1 h2, ?_, by have := h.len; simp; omega, fun y hy => ?_⟩
  · rcases List.mem_append.mp hy with hy | hy
    · exact h.ok y hy
    · simp at hy
      subst hy
      exact ⟨hx, hr, by omega⟩
  · have := h.here
    unfold cnt at this ⊢
    rw [List.countP_append, this]
    simp [List.countP_cons, he]
  · rcases List.mem_append.mp hy with hy | hy
    · exact h.r2 y hy
    · simp at hy
      subst hy
      exact h2
theorem WInv2.done {gs : List Gt} {ws : List Wr} {i j : Nat} (h : WInv2 gs ws i j) (h1 : kindAt gs i = "out" → j = 1) (h2 : kindAt gs i = "first" → 1 ≤ j) (hj : j ≤ 3) : WInv gs ws (i + 1) := by
  refine ⟨fun x hx => h.ok x hx, fun e he hk => ?_, fun e he hk => ?_, by have := h.len; omega, h.r2⟩
  · by_cases hi : e = i
    · subst hi
      rw [h.here]
      exact h1 hk
    · exact h.one e (by omega) hk
  · by_cases hi : e = i
    · subst hi
      rw [h.here]
      exact h2 hk
    · exact h.some e (by omega) hk
theorem WInv.net {gs : List Gt} {ws : List Wr} (h : WInv gs ws gs.length) (ne : gs ≠ []) (gl : gs.length ≤ 100) (gok : ∀ g ∈ gs, GOk g) : NetOk gs ws :=
  ⟨ne, gl, by have := h.len; omega, gok, fun x hx => (h.ok x hx).1, h.one, h.some, id, fun x hx hr => (h.ok x hx).2.1 hr⟩
/-- lists of gates, of wires, that stand tracked -/
def LG (K : PySem.W.Frag) (H : Hp) (l : Addr) (gs : List Gt) : Prop := ∃ vs, H l = some (.lst vs) ∧ All2 (GateV K H) vs gs
def LW (K : PySem.W.Frag) (H : Hp) (l : Addr) (ws : List Wr) : Prop := ∃ vs, H l = some (.lst vs) ∧ All2 (WireV K H) vs ws
theorem kindAt_get {gs : List Gt} {i : Nat} {g : Gt} (h : gs[i]? = some g) : kindAt gs i = g.1 := by
  unfold kindAt
  rw [List.getD_eq_getElem?_getD, h]
  rfl
theorem all2_eq {α β : Type} {f : β → α} : ∀ {xs : List α} {ys : List β}, All2 (fun x y => x = f y) xs ys → xs = ys.map f
  | [], [], _ => rfl
  | [], _ :: _, h => by have := h.1; simp at this
  | _ :: _, [], h => by have := h.1; simp at this
  | x :: xs, y :: ys, h => by rw [List.map_cons, ← all2_eq h.tail, ← h.head]
theorem eq_all2 {α β : Type} {f : β → α} (ys : List β) : All2 (fun x y => x = f y) (ys.map f) ys := ⟨by simp, fun i x y h1 h2 => by
  rw [List.getElem?_map, h2] at h1
  exact (Option.some.inj h1).symm⟩
theorem rgV_nat (n : Nat) : rgV 0 (n : Int) = (List.range n).map fun i => V.int (i : Nat) := by
  unfold rgV
  have : ((n : Int) - 0).toNat = n := by omega
  rw [this]
  refine List.map_congr_left fun i _ => ?_
  rw [Int.zero_add]
theorem flat_ints (l : List Nat) : (l.map fun i => V.int (i : Nat)).all flatV = true := by
  rw [List.all_eq_true]
  intro x hx
  obtain ⟨i, _, rfl⟩ := List.mem_map.mp hx
  rfl
/-- where a number stands among numbers without two alike -/
theorem idx_at {left : List Nat} {a : Nat} (h : a ∈ left) : (left.map fun i => V.int (i : Nat))[left.idxOf a]? = some (V.int (a : Nat)) := by
  rw [List.getElem?_map, List.getElem?_eq_getElem (List.idxOf_lt_length_iff.mpr h), List.getElem_idxOf]
  rfl
theorem eqV_int (a b : Int) : eqV (V.int a) (V.int b) = decide (a = b) := rfl
theorem idx_no {left : List Nat} {a m : Nat} {z : V} (nd : left.Nodup) (hm : m < left.idxOf a) (h : (left.map fun i => V.int (i : Nat))[m]? = some z) : eqV z (V.int (a : Nat)) = false := by
  rw [List.getElem?_map] at h
  cases e : left[m]? with
  | none =>
    rw [e] at h
    cases h
  | some b =>
    rw [e] at h
    cases h
    rw [eqV_int]
    refine decide_eq_false fun z => ?_
    have z : b = a := by omega
    obtain ⟨hm', eb⟩ := List.getElem?_eq_some_iff.mp e
    have := List.Nodup.idxOf_getElem nd m hm'
    rw [eb, z] at this
    omega
end Lag

set_option maxRecDepth 100000
set_option maxHeartbeats 4000000
namespace Lag
open PySem PySem.Spec PyProof.Rows L2
/-! ### o[i] of a list, by values -/
def rGetL (K : PySem.W.Frag) : V → V → Hp → VK → Prop := fun o i H Q => ∃ (p : Addr) (xs : List V) (j : Nat) (v : V), o = .ref p ∧ i = .int (j : Nat) ∧ SqL K H p xs ∧ xs[j]? = some v ∧ Q v H
theorem get_list {X : Cx} : PGet X (rGetL X.K) := by
  intro pins s σ H o i ov iv Q I ro ri h
  obtain ⟨p, xs, j, v, rfl, rfl, hq, he, q⟩ := h
  cases ro
  obtain ⟨t, rfl⟩ := ri
  obtain ⟨its, r, pl, hz⟩ := I.list hq
  obtain ⟨w, ew, rw'⟩ := r.get he
  have hl := r.length
  have hn := line63
  have hj : j < its.length := (List.getElem?_eq_some_iff.mp ew).1
  exact wpAny_getItem_list pl.isList (by omega) (by omega) (by simpa using ew) ⟨v, H, I, rw', q⟩
/-! ### names of built-ins, constants of the text -/
structure Bt (mg : Str → Option Value) : Prop where
  isi : mg "isinstance" = none
  int : mg "int" = none
  bool : mg "bool" = none
  len : mg "len" = none
  tuple : mg "tuple" = none
  str : mg "str" = none
  list : mg "list" = none
  all : mg "all" = none
  enum : mg "enumerate" = none
  zip : mg "zip" = none
  range : mg "range" = none
  max : mg "max" = none
structure Cns (K : PySem.W.Frag) (mg : Str → Option Value) (aK aW aF : Addr) : Prop where
  gw : ∃ t, mg "GREATEST_WORTH" = some (.int 96 t)
  ga : ∃ t, mg "GREATEST_WAIT" = some (.int 100 t)
  mK : mg "KINDS" = some (.ref aK)
  sK : ∀ H, SqT K H aK (kinds.map V.str)
  mW : mg "OUTER_KINDS" = some (.ref aW)
  sW : ∀ H, SqT K H aW [.str "in", .str "out"]
  mF : mg "KINDS_WITH_A_WIRE" = some (.ref aF)
  sF : ∀ H, SqT K H aF [.str "out", .str "first"]
theorem ty_tup {K : PySem.W.Frag} {H : Hp} {a : Addr} {xs : List V} (h : SqT K H a xs) : TyX K H (.ref a) (.type "tuple") := by
  rcases h with (h | ⟨o, h⟩) | ⟨o, its, n, hk, hc, _⟩
  · exact .base (.tup h)
  · exact .fTuple h
  · exact .kTuple hk hc
theorem ty_lst {K : PySem.W.Frag} {H : Hp} {a : Addr} {xs : List V} (h : SqL K H a xs) : TyX K H (.ref a) (.type "list") := by
  rcases h with (h | ⟨o, h⟩) | ⟨o, its, n, hk, hc, _⟩
  · exact .base (.lst h)
  · exact .base (.frz h)
  · exact .kList hk hc
/-! ### promises -/
def spWhole : Sp := fun vs H Q _ => ∃ n : Int, vs = [.int n] ∧ Q (.bl true) H
def spFromTo : Sp := fun vs H Q _ => ∃ n a b : Int, vs = [.int n, .int a, .int b] ∧ Q (.bl (decide (a ≤ n) && decide (n ≤ b))) H
def spWorth : Sp := fun vs H Q _ => ∃ n : Int, vs = [.int n] ∧ Q (.bl (decide (0 ≤ n) && decide (n ≤ 96))) H
def spIsGate (K : PySem.W.Frag) : Sp := fun vs H Q _ => ∃ (v : V) (g : Gt), vs = [v] ∧ GateV K H v g ∧ GOk g ∧ ∀ H', Same H H' → Q (.bl true) H'
/-- lists that are read -/
def RG (K : PySem.W.Frag) (H : Hp) (l : Addr) (gs : List Gt) : Prop := ∃ vs, SqL K H l vs ∧ All2 (GateV K H) vs gs
def RW (K : PySem.W.Frag) (H : Hp) (l : Addr) (ws : List Wr) : Prop := ∃ vs, SqL K H l vs ∧ All2 (WireV K H) vs ws
theorem RG.same {K : PySem.W.Frag} {H H' : Hp} {l : Addr} {gs : List Gt} (h : RG K H l gs) (s : Same H H') : RG K H' l gs := by
  obtain ⟨vs, q, a⟩ := h
  exact ⟨vs, s.seq q, a.imp fun _ _ r => r.tk (TK.same s)⟩
theorem RW.same {K : PySem.W.Frag} {H H' : Hp} {l : Addr} {ws : List Wr} (h : RW K H l ws) (s : Same H H') : RW K H' l ws := by
  obtain ⟨vs, q, a⟩ := h
  exact ⟨vs, s.seq q, a.imp fun _ _ r => r.tk (TK.same s)⟩
def spChkGates (K : PySem.W.Frag) : Sp := fun vs H Q _ => ∃ (l : Addr) (gs : List Gt), vs = [.ref l] ∧ RG K H l gs ∧ gs ≠ [] ∧ (∀ g ∈ gs, GOk g) ∧ ∀ H', Same H H' → Q .non H'
section
variable {P : Program} {w : World} {K : PySem.W.Frag} {mg : Str → Option Value} {base : Heap}
/-! ### is_whole, is_whole_from_to, is_worth -/
abbrev DWhole (P : Program) (w : World) (K : PySem.W.Frag) (mg : Str → Option Value) (base : Heap) := Df P w K mg base 1 "is_whole" ["thing"] spWhole
abbrev DFromTo (P : Program) (w : World) (K : PySem.W.Frag) (mg : Str → Option Value) (base : Heap) := Df P w K mg base 2 "is_whole_from_to" ["thing", "least", "greatest"] spFromTo
abbrev DWorth (P : Program) (w : World) (K : PySem.W.Frag) (mg : Str → Option Value) (base : Heap) := Df P w K mg base 3 "is_worth" ["thing"] spWorth
/-! ### is_gate -/
abbrev DIsGate (P : Program) (w : World) (K : PySem.W.Frag) (mg : Str → Option Value) (base : Heap) := Df P w K mg base 3 "is_gate" ["thing"] (spIsGate K)
theorem kinds_in {k : Str} (h : k ∈ kinds) : inV (.str k) (kinds.map V.str) = true := by
  unfold inV
  rw [List.any_eq_true]
  exact ⟨.str k, List.mem_map.mpr ⟨k, h, rfl⟩, beq_self_eq_true k⟩
theorem flat_strs (l : List Str) : (l.map V.str).all flatV = true := by
  rw [List.all_eq_true]
  intro x hx
  obtain ⟨i, _, rfl⟩ := List.mem_map.mp hx
  rfl
end
end Lag

set_option maxRecDepth 100000
set_option maxHeartbeats 4000000
namespace Lag
open PySem PySem.Spec PyProof.Rows L2
/-! ### what keeps a net a net -/
theorem kindAt_set {gs : List Gt} {i j : Nat} {g : Gt} (h : i < gs.length) : kindAt (gs.set i g) j = if j = i then g.1 else kindAt gs j := by
  unfold kindAt
  rw [List.getD_eq_getElem?_getD, List.getD_eq_getElem?_getD, List.getElem?_set]
  by_cases e : i = j
  · subst e
    rw [if_pos rfl, if_pos h, if_pos rfl]
    rfl
  · rw [if_neg e, if_neg (fun z => e z.symm)]
/-- another gate at a place whose gate is no port: no port, and no first where it was none -/
theorem NetOk.setG {gs : List Gt} {ws : List Wr} (N : NetOk gs ws) {i : Nat} {g : Gt} (hi : i < gs.length) (hg : GOk g) (h1 : g.1 ≠ "out") (h2 : g.1 ≠ "in") (h3 : g.1 = "first" → kindAt gs i = "first") : NetOk (gs.set i g) ws := by
  have kk := @kindAt_set gs i
  refine ⟨?_, by rw [List.length_set]; exact N.gl, N.wl, ?_, fun x hx => ?_, fun e he hk => ?_, fun e he hk => ?_, N.rank⟩
  · intro z
    have := congrArg List.length z
    rw [List.length_set] at this
    exact N.ne (List.length_eq_zero_iff.mp this)
  · intro y hy
    rcases List.mem_or_eq_of_mem_set hy with hy | hy
    · exact N.gok y hy
    · rw [hy]
      exact hg
  · have W := N.wok x hx
    refine ⟨by rw [List.length_set]; exact W.s, by rw [List.length_set]; exact W.e, ?_, ?_, W.r, W.rl⟩
    · rw [kk hi]
      split
      · exact h1
      · exact W.ks
    · rw [kk hi]
      split
      · exact h2
      · exact W.ke
  · rw [List.length_set] at he
    rw [kk hi] at hk
    split at hk
    · exact absurd hk h1
    · exact N.one e he hk
  · rw [List.length_set] at he
    rw [kk hi] at hk
    split at hk
    · rename_i hei
      subst hei
      exact N.some _ he (h3 hk)
    · exact N.some e he hk
theorem kindAt_app {gs : List Gt} {g : Gt} {j : Nat} (h : j < gs.length) : kindAt (gs ++ [g]) j = kindAt gs j := by
  unfold kindAt
  rw [List.getD_eq_getElem?_getD, List.getD_eq_getElem?_getD, List.getElem?_append_left h]
theorem NetOk.addIn {gs : List Gt} {ws : List Wr} (N : NetOk gs ws) (hl : gs.length < 100) : NetOk (gs ++ [(("in" : Str), (0 : Int))]) ws := by
  have kl : kindAt (gs ++ [(("in" : Str), (0 : Int))]) gs.length = "in" := by
    unfold kindAt
    rw [List.getD_eq_getElem?_getD, List.getElem?_append_right (Nat.le_refl _), Nat.sub_self]
    rfl
  refine ⟨by simp, by simp; omega, N.wl, ?_, fun x hx => ?_, fun e he hk => ?_, fun e he hk => ?_, N.rank⟩
  · intro y hy
    rcases List.mem_append.mp hy with hy | hy
    · exact N.gok y hy
    · simp at hy
      subst hy
      exact ⟨by show ("in" : Str) ∈ kinds; decide +kernel, Int.le_refl 0, (by show (0 : Int) ≤ 100; decide), fun _ => rfl⟩
  · have W := N.wok x hx
    exact ⟨by have := W.s; simp; omega, by have := W.e; simp; omega, by rw [kindAt_app W.s]; exact W.ks, by rw [kindAt_app W.e]; exact W.ke, W.r, W.rl⟩
  · by_cases h : e < gs.length
    · rw [kindAt_app h] at hk
      exact N.one e h hk
    · have : e = gs.length := by simp at he; omega
      subst this
      rw [kl] at hk
      exact absurd hk (by decide +kernel)
  · by_cases h : e < gs.length
    · rw [kindAt_app h] at hk
      exact N.some e h hk
    · have : e = gs.length := by simp at he; omega
      subst this
      rw [kl] at hk
      exact absurd hk (by decide +kernel)
theorem cnt_set {ws : List Wr} {i : Nat} {x y : Wr} (h : ws[i]? = some x) (he : y.2.1 = x.2.1) (e : Nat) : cnt (ws.set i y) e = cnt ws e := by
  obtain ⟨hi, rfl⟩ := List.getElem?_eq_some_iff.mp h
  have h1 : ws.set i y = ws.take i ++ y :: ws.drop (i + 1) := List.set_eq_take_append_cons_drop .. |>.trans (by rw [if_pos hi])
  have h2 : ws = ws.take i ++ ws[i] :: ws.drop (i + 1) := by rw [List.getElem_cons_drop, List.take_append_drop]
  unfold cnt
  conv => rhs; rw [h2]
  rw [h1, List.countP_append, List.countP_append, List.countP_cons, List.countP_cons, he]
/-- a wire with other registers, one at least -/
theorem NetOk.setW {gs : List Gt} {ws : List Wr} (N : NetOk gs ws) {i : Nat} {x : Wr} {r : List Int} (h : ws[i]? = Option.some x) (hr : ROk r) (hl : r.length ≤ 100) (hne : r ≠ []) : NetOk gs (ws.set i (x.1, x.2.1, r)) := by
  have W := N.wok x (List.mem_of_getElem? h)
  obtain ⟨ρ, hρ⟩ := N.rank
  refine ⟨N.ne, N.gl, by rw [List.length_set]; exact N.wl, N.gok, fun y hy => ?_, fun e he hk => ?_, fun e he hk => ?_, ρ, fun y hy hyr => ?_⟩
  · rcases List.mem_or_eq_of_mem_set hy with hy | hy
    · exact N.wok y hy
    · rw [hy]
      exact ⟨W.s, W.e, W.ks, W.ke, hr, hl⟩
  · rw [cnt_set (y := (x.1, x.2.1, r)) h rfl]
    exact N.one e he hk
  · rw [cnt_set (y := (x.1, x.2.1, r)) h rfl]
    exact N.some e he hk
  · rcases List.mem_or_eq_of_mem_set hy with hy | hy
    · exact hρ y hy hyr
    · rw [hy] at hyr
      exact absurd hyr hne
theorem NetOk.perm {gs : List Gt} {ws ws' : List Wr} (N : NetOk gs ws) (p : ws'.Perm ws) : NetOk gs ws' := by
  obtain ⟨ρ, hρ⟩ := N.rank
  have c : ∀ e, cnt ws' e = cnt ws e := fun e => p.countP_eq _
  exact ⟨N.ne, N.gl, by rw [p.length_eq]; exact N.wl, N.gok, fun x hx => N.wok x (p.mem_iff.mp hx), fun e he hk => by rw [c]; exact N.one e he hk, fun e he hk => by rw [c]; exact N.some e he hk, ρ, fun x hx h => hρ x (p.mem_iff.mp hx) h⟩
/-! ### slices -/
theorem take_min {α : Type} (l : List α) (k : Nat) : l.take (min k l.length) = l.take k := by
  by_cases h : k ≤ l.length
  · rw [Nat.min_eq_left h]
  · rw [Nat.min_eq_right (by omega), List.take_length, List.take_of_length_le (by omega)]
theorem drop_min {α : Type} (l : List α) (k : Nat) : l.drop (min k l.length) = l.drop k := by
  by_cases h : k ≤ l.length
  · rw [Nat.min_eq_left h]
  · rw [Nat.min_eq_right (by omega), List.drop_length, List.drop_of_length_le (by omega)]
theorem cut_to {xs : List V} (k : Nat) : cutV xs none (some (k : Int)) = xs.take k := by
  unfold cutV
  rw [HT.sIx_none, HT.sIx_nat, List.drop_zero, Nat.sub_zero, take_min]
theorem cut_from {xs : List V} (k : Nat) : cutV xs (some (k : Int)) none = xs.drop k := by
  unfold cutV
  rw [HT.sIx_none, HT.sIx_nat, drop_min]
  exact List.take_of_length_le (by rw [List.length_drop]; omega)
theorem cut_mid {xs : List V} (j k : Nat) : cutV xs (some (j : Int)) (some (k : Int)) = (xs.take k).drop j := by
  unfold cutV
  rw [HT.sIx_nat, HT.sIx_nat, List.drop_take, drop_min]
  by_cases h : j ≤ xs.length
  · by_cases h2 : k ≤ xs.length
    · rw [Nat.min_eq_left h, Nat.min_eq_left h2]
    · rw [List.take_of_length_le (by rw [List.length_drop]; omega), List.take_of_length_le (by rw [List.length_drop]; omega)]
  · rw [List.drop_of_length_le (by omega)]
    simp
section
variable {α β : Type} {R : α → β → Prop} {xs xs' : List α} {ys ys' : List β}
theorem All2.take (h : All2 R xs ys) (k : Nat) : All2 R (xs.take k) (ys.take k) := by
  refine ⟨by rw [List.length_take, List.length_take, h.1], fun i x y hx hy => ?_⟩
  have hi : i < k := by
    have := (List.getElem?_eq_some_iff.mp hx).1
    rw [List.length_take] at this
    omega
  rw [List.getElem?_take_of_lt hi] at hx hy
  exact h.2 i x y hx hy
theorem All2.drop (h : All2 R xs ys) (k : Nat) : All2 R (xs.drop k) (ys.drop k) := by
  refine ⟨by rw [List.length_drop, List.length_drop, h.1], fun i x y hx hy => ?_⟩
  rw [List.getElem?_drop] at hx hy
  exact h.2 _ x y hx hy
theorem All2.append (h : All2 R xs ys) (h' : All2 R xs' ys') : All2 R (xs ++ xs') (ys ++ ys') := by
  induction xs generalizing ys with
  | nil =>
    cases ys with
    | nil => exact h'
    | cons _ _ => have := h.1; simp at this
  | cons x xs ih =>
    cases ys with
    | nil => have := h.1; simp at this
    | cons y ys => exact All2.cons h.head (ih h.tail)
theorem All2.reverse (h : All2 R xs ys) : All2 R xs.reverse ys.reverse := by
  induction xs generalizing ys with
  | nil =>
    cases ys with
    | nil => exact h
    | cons _ _ => have := h.1; simp at this
  | cons x xs ih =>
    cases ys with
    | nil => have := h.1; simp at this
    | cons y ys =>
      rw [List.reverse_cons, List.reverse_cons]
      exact (ih h.tail).snoc h.head
theorem All2.one {x : α} {y : β} (r : R x y) : All2 R [x] [y] := All2.cons r All2.nil
end
theorem set_cut {α : Type} {l : List α} {i : Nat} {y : α} (h : i < l.length) : l.take i ++ [y] ++ l.drop (i + 1) = l.set i y := by
  rw [List.set_eq_take_append_cons_drop, if_pos h, List.append_assoc]
  rfl
theorem swap_perm {α : Type} (l : List α) (i : Nat) : (l.take i ++ ((l.take (i + 2)).drop i).reverse ++ l.drop (i + 2)).Perm l := by
  have e : l = l.take i ++ (l.take (i + 2)).drop i ++ l.drop (i + 2) := by
    have h1 : l.take i = (l.take (i + 2)).take i := by rw [List.take_take, Nat.min_eq_left (by omega)]
    rw [h1, List.take_append_drop, List.take_append_drop]
  conv => rhs; rw [e]
  exact ((List.Perm.refl _).append (List.reverse_perm _)).append (List.Perm.refl _)
end Lag

set_option maxRecDepth 100000
set_option maxHeartbeats 8000000
namespace Lag
open PySem PySem.Spec PyProof.Rows L2
abbrev sDigit : Stmt := topS 17 -- @_law_digit
theorem st_norm {f : L2.St → Hp → Prop} {σ σ' : L2.St} {H : Hp} (e : σ = σ') (h : f σ' H) : f σ H := e ▸ h
theorem gn_norm {i : Nat} {x : V} {σ σ' : L2.St} {H : Hp} {N : L2.St → Hp → Prop} (e : σ.set i (some x) = σ') (h : N σ' H) : gName i x σ H N := by
  subst e
  exact h
theorem All2.pushT {α : Type} {R : Hp → V → α → Prop} {H H2 : Hp} {D : Addr} {acc : List V} {l : List α} {v : V} {x : α} {o : HO} (mono : ∀ {H H' : Hp} {v : V} {x : α}, TK H H' → R H v x → R H' v x) (h : All2 (R H) acc l) (hD : H2 D = some (.lst acc)) (t : TK H H2) (r : R H2 v x) : All2 (R (upd H2 D o)) (acc ++ [v]) (l ++ [x]) :=
  (h.imp fun _ _ r => mono (t.trans (TK.lst hD)) r).snoc (mono (TK.lst hD) r)
def rTupOf (K : PySem.W.Frag) : List V → Hp → VK → Prop := fun xs H Q => ∃ p ys, xs = [.ref p] ∧ ((SqL K H p ys ∧ ∀ l, H l = none → Q (.ref l) (upd H l (.tup ys))) ∨ (SqT K H p ys ∧ Q (.ref p) H))
theorem mod_b {x n : Int} (h : 0 < n) (hn : n ≤ 4294967296) : -(2 ^ 64) < x % n ∧ x % n < 2 ^ 64 := by
  have h1 := Int.emod_nonneg x (show n ≠ 0 by omega)
  have h2 := Int.emod_lt_of_pos x h
  constructor
  · have e : (-(2 ^ 64) : Int) = -18446744073709551616 := by decide
    omega
  · have e : (2 ^ 64 : Int) = 18446744073709551616 := by decide
    omega
/-! ### _law_digit -/
def spDraw : Sp := fun vs H Q _ => ∃ (w : Addr) (n : Int), vs = [.ref w, .int n] ∧ 0 < n ∧ n < 1000000 ∧ WellAt w H ∧ ∀ d H', 0 ≤ d → d < n → Dr w H H' → Q (.int d) H'
section
variable {P : Program} {w : World} {K : PySem.W.Frag} {mg : Str → Option Value} {base : Heap}
abbrev nDigit : List Str := ["_law_state", "_law_base", "_law_cell", "_law_found", "_law_number"]
theorem scDigit : FnScope nDigit ["_law_state", "_law_base"] (defScope sDigit) := ⟨rfl, rfl, rfl, by decide +kernel, rfl, by decide +kernel, by decide +kernel⟩
abbrev DDraw (P : Program) (w : World) (K : PySem.W.Frag) (mg : Str → Option Value) (base : Heap) := Df P w K mg base 1 "_law_digit" ["_law_state", "_law_base"] spDraw
theorem ok_digit {f : Addr} {fd : FuncData} (F : Fun K "_law_digit" "_law_digit" sDigit f fd) (hm : mg "_law_digit" = some (.ref f)) (B : Bt mg) : DDraw P w K mg base f fd := by
  refine ⟨?_, hm, F.kp, F.binds fun _ _ _ _ _ _ us hl => match us, hl with | [_, _], _ => rfl⟩
  refine F.ok scDigit (fun vs H Q E h => ?_) (fun cdv A outer s H vs Q E hr h => ?_)
  · obtain ⟨wl, n, rfl, _⟩ := h
    rfl
  · obtain ⟨wl, n, rfl, hn, hn2, ⟨xs, hw, hst⟩, q⟩ := h
    have nd := scDigit.nd
    refine ⟨_, Evl.pss_cut (ps_if (pt_cmpR op_eq (pe_callB call_len_seq (by rfl) B.len PySem.boot_len (pa_cons (pv 0) pa_nil)) pe_int (nomark _))
        (pss_cons (ps_set (i := 2) nd rfl (.inl rfl) (pe_ix ix_list (pv 0) pe_int (fun _ _ => rfl))) <|
          pss_cons (ps_asg (pe_ix ix_list (pe_lst (pa_cons pe_int (pa_cons (pv 2) pa_nil))) (pe_callTy call_int1 (by rfl) B.int (by decide +kernel) (pa_cons (pe_cmpR op_ge (pv 2) (pe_op op_pow pe_int pe_int) (nomark _)) pa_nil)) (fun _ _ => rfl)) (pg_sub (pv 0) pe_int set_list)) <|
          pss_one <| ps_expr <| pe_bm PySem.F.plainAttrs_list PySem.F.slot_list_extend PySem.F.type_list_extend mt_extend (pv 0) <| (pa_cons · pa_nil) <| pe_lst (pa_cons (pe_op op_mod (pv 2) pe_int) (pa_cons pe_int pa_nil))) pss_nil) <|
      pss_cons (ps_if (pt_cmpR op_gt (pe_ix ix_list (pv 0) pe_int (fun _ _ => rfl)) pe_int (nomark _))
        (pss_cons (ps_set (i := 3) nd rfl (Or.inl rfl) (pe_op op_mod (pe_ix ix_list (pv 0) pe_int (fun _ _ => rfl)) (pv 1)))
        (pss_cons (ps_asg (pe_op op_fdiv (pe_ix ix_list (pv 0) pe_int (fun _ _ => rfl)) (pv 1)) (pg_sub (pv 0) pe_int set_list))
        (pss_one (ps_ret (pv 3))))) pss_nil)
      (pss_cons (ps_asg (pe_op op_add (pe_ix ix_list (pv 0) pe_int (fun _ _ => rfl)) pe_int) (pg_sub (pv 0) pe_int set_list))
      (pss_cons (ps_set (i := 4) nd rfl (Or.inl rfl) (pe_op op_mod (pe_op op_mul (pe_op op_add (pe_op op_add (pe_ix ix_list (pv 0) pe_int (fun _ _ => rfl)) (pe_op op_mul pe_int (pe_ix ix_list (pv 0) pe_int (fun _ _ => rfl)))) pe_int) pe_int) pe_int))
      (pss_cons (ps_set (i := 4) nd rfl (Or.inl rfl) (pe_op op_mod (pe_op op_mul (pv 4) (pe_op op_add (pe_op op_fdiv (pv 4) pe_int) pe_int)) pe_int))
      (pss_one (ps_ret (pe_op op_mod (pe_op op_mod (pe_op op_mul (pv 4) (pe_op op_add (pe_op op_fdiv (pv 4) pe_int) pe_int)) pe_int) (pv 1))))))), ?_⟩
    refine ⟨fun σ H' => ∃ (a b c : Int) (s2 : Option V), σ = [some (.ref wl), some (.int n), s2, none, none] ∧ H' wl = some (.lst [.int a, .int b, .int c]) ∧ But wl H H', ?_, ?_⟩
    · refine ⟨_, rfl, wl, xs, rfl, .inl (SqL.of hw), rfl, _, rfl, ite2 (fun e => ?_) (fun e => ?_)⟩
      · have e' : ((xs.length : Nat) : Int) = 1 := V.int.inj (of_decide_eq_true e)
        rcases hst with ⟨a, rfl⟩ | ⟨a, b, c, rfl⟩
        · refine ⟨_, rfl, wl, _, 0, .int a, rfl, rfl, SqL.of hw, atI_nat (j := 0) rfl, ?_⟩
          refine ⟨_, rfl, (by show 2 ≤ sizeLine; decide), fun l hl => ?_⟩
          have nl : wl ≠ l := ne_of_none hw hl
          refine ⟨_, rfl, _, _, rfl, rfl, ⟨by decide, by decide, by decide⟩, _, _, rfl, rfl, .inr ⟨_, rfl, ?_⟩⟩
          refine ⟨l, _, _, .int (if decide (10 ^ (18 : Int).toNat ≤ a) = true then a else 0), rfl, rfl, SqL.of upd_same, ?_, ?_⟩
          · cases decide (10 ^ (18 : Int).toNat ≤ a) with
            | true => rfl
            | false => rfl
          generalize (if decide (10 ^ (18 : Int).toNat ≤ a) = true then a else 0) = a2
          have hw1 : (upd H l (.lst [.int 0, .int a])) wl = some (.lst [.int a]) := by
            rw [upd_ne nl]
            exact hw
          have b1 : But wl H (upd H l (.lst [.int 0, .int a])) := But.new hl
          generalize upd H l (.lst [.int 0, .int a]) = H1 at hw1 b1
          refine ⟨_, rfl, wl, _, 0, 0, rfl, rfl, hw1, rfl, ?_⟩
          have hw2 : (upd H1 wl (.lst [.int a2])) wl = some (.lst [.int a2]) := upd_same
          have b2 : But wl H (upd H1 wl (.lst [.int a2])) := b1.trans But.upd
          show _
          refine ⟨_, rfl, .inl ⟨rfl, _, SqL.of hw2⟩, _, rfl, _, _, rfl, rfl, (by show (0 : Int) < 2147483647; decide), (by show 2 ≤ sizeLine; decide), fun l2 hl2 => ?_⟩
          have nl2 : wl ≠ l2 := ne_of_none hw2 hl2
          refine ⟨wl, l2, [.int a2], _, rfl, rfl, by rw [upd_ne nl2]; exact hw2, upd_same, (by show 1 + 2 ≤ sizeLine; decide), ?_⟩
          exact ⟨_, _, _, _, rfl, upd_same, (b2.trans (But.new hl2)).trans But.upd⟩
        · exact absurd e' (by show ¬ ((3 : Nat) : Int) = 1; decide)
      · rcases hst with ⟨a, rfl⟩ | ⟨a, b, c, rfl⟩
        · exact absurd rfl e
        · exact ⟨a, b, c, _, rfl, hw, But.refl _ _⟩
    rintro σ H0 ⟨a, b, c, s2, rfl, hw0, b0⟩
    have dr : ∀ {a b c : Int} {H' : Hp}, But wl H H' → H' wl = some (.lst [.int a, .int b, .int c]) → Dr wl H H' := fun hb h => ⟨hb, _, h, .inr ⟨_, _, _, rfl⟩⟩
    refine ⟨_, rfl, wl, _, 0, .int a, rfl, rfl, SqL.of hw0, atI_nat (j := 0) rfl, _, _, rfl, rfl, _, rfl, ite2 (fun e => ?_) (fun e => ?_)⟩
    · refine ⟨_, rfl, wl, _, 0, .int a, rfl, rfl, SqL.of hw0, atI_nat (j := 0) rfl, _, rfl, _, _, rfl, rfl, hn, ?_⟩
      refine ⟨_, rfl, wl, _, 0, .int a, rfl, rfl, SqL.of hw0, atI_nat (j := 0) rfl, _, rfl, _, _, rfl, rfl, ⟨hn, by omega⟩, ?_⟩
      refine ⟨_, rfl, wl, _, 0, 0, rfl, rfl, hw0, rfl, ?_⟩
      refine ⟨_, rfl, ?_⟩
      exact q _ _ (Int.emod_nonneg _ (by omega)) (Int.emod_lt_of_pos _ hn) (dr (b0.trans But.upd) upd_same)
    · have h1 : (upd H0 wl (HO.lst [.int a, .int b, .int (c + 1)])) wl = some (.lst [.int a, .int b, .int (c + 1)]) := upd_same
      refine ⟨_, rfl, wl, _, 2, .int c, rfl, rfl, SqL.of hw0, atI_nat (j := 2) rfl, _, _, rfl, rfl, ?_⟩
      refine ⟨_, rfl, wl, _, 2, 2, rfl, rfl, hw0, rfl, ?_⟩
      refine ⟨_, rfl, wl, _, 1, .int b, rfl, rfl, SqL.of h1, atI_nat (j := 1) rfl, _, rfl, wl, _, 2, .int (c + 1), rfl, rfl, SqL.of h1, atI_nat (j := 2) rfl, _, _, rfl, rfl, .inl ⟨by decide, by decide⟩, _, _, rfl, rfl, _, _, rfl, rfl, _, _, rfl, rfl, .inr ⟨by decide, by decide⟩, _, _, rfl, rfl, (by show (0 : Int) < 2147483647; decide), ?_⟩
      refine ⟨_, rfl, _, rfl, _, _, rfl, rfl, ⟨by decide, by decide⟩, _, _, rfl, rfl, _, _, rfl, rfl, .inl (mod_b (by decide) (by decide)), _, _, rfl, rfl, (by show (0 : Int) < 2147483647; decide), ?_⟩
      refine ⟨_, rfl, _, rfl, _, _, rfl, rfl, ⟨by decide, by decide⟩, _, _, rfl, rfl, _, _, rfl, rfl, .inl (mod_b (by decide) (by decide)), _, _, rfl, rfl, (by show (0 : Int) < 2147483399; decide), _, rfl, _, _, rfl, rfl, hn, ?_⟩
      exact q _ _ (Int.emod_nonneg _ (by omega)) (Int.emod_lt_of_pos _ hn) (dr (b0.trans But.upd) h1)
end
/-! ### _law_gates -/
def inG : Gt := ("in", 0)
def outG : Gt := ("out", 0)
def innP (k : Str) : Bool := k != "in" && k != "out"
def nInn (gs : List Gt) : Nat := gs.countP fun g => innP g.1
structure GSh (gs : List Gt) (a b : Nat) : Prop where
  ex : ∃ mid c, gs = List.replicate a inG ++ mid ++ List.replicate c outG ∧ mid.length = b ∧ 1 ≤ c ∧ c ≤ 2 ∧ ∀ g ∈ mid, GOk g ∧ g.1 ≠ "in" ∧ g.1 ≠ "out"
  a2 : a ≤ 2
  b1 : 1 ≤ b
  b2 : b ≤ 20
def spGates (K : PySem.W.Frag) : Sp := fun vs H Q _ => ∃ (wl : Addr) (m : Int), vs = [.ref wl, .int m] ∧ 0 < m ∧ m ≤ 20 ∧ WellAt wl H ∧ ∀ t lg gs (a b : Nat) H', Dr wl H H' → H' t = some (.tup [.ref lg, .int (a : Nat), .int (b : Nat)]) → H lg = none → LG K H' lg gs → GSh gs a b → (b : Int) ≤ m → Q (.ref t) H'
def inner7 : List Str := ["sum", "times", "most", "least", "first", "one", "sum"]
theorem inner7_ok : ∀ k ∈ inner7, k ∈ kinds ∧ k ≠ "in" ∧ k ≠ "out" := by decide +kernel
theorem rep_flat {α : Type} (n : Nat) (x : α) : (List.replicate n [x]).flatten = List.replicate n x := by
  induction n with
  | zero => rfl
  | succ n ih => rw [List.replicate_succ, List.flatten_cons, ih, List.replicate_succ]; rfl
theorem all2_rep {α β : Type} {R : α → β → Prop} {x : α} {y : β} (h : R x y) : ∀ n, All2 R (List.replicate n x) (List.replicate n y)
  | 0 => All2.nil
  | n + 1 => All2.cons h (all2_rep h n)
section
variable {P : Program} {w : World} {K : PySem.W.Frag} {mg : Str → Option Value} {base : Heap}
abbrev nGates : List Str := ["_law_state", "_law_most", "_law_inner", "_law_ins", "_law_gates_here", "_law_k", "_law_kind"]
abbrev DGates (P : Program) (w : World) (K : PySem.W.Frag) (mg : Str → Option Value) (base : Heap) := Df P w K mg base 2 "_law_gates" ["_law_state", "_law_most"] (spGates K)
end
/-! ### _law_worths -/
def spLWorths (K : PySem.W.Frag) : Sp := fun vs H Q _ => ∃ (wl : Addr) (m : Nat), vs = [.ref wl, .int (m : Nat)] ∧ m ≤ 100 ∧ WellAt wl H ∧ ∀ p rs H', Dr wl H H' → H' p = some (.tup (rs.map V.int)) → rs.length = m → ROk rs → Q (.ref p) H'
section
variable {P : Program} {w : World} {K : PySem.W.Frag} {mg : Str → Option Value} {base : Heap}
abbrev nLWorths : List Str := ["_law_state", "_law_many", "_law_k"]
abbrev DLWorths (P : Program) (w : World) (K : PySem.W.Frag) (mg : Str → Option Value) (base : Heap) := Df P w K mg base 2 "_law_worths" ["_law_state", "_law_many"] (spLWorths K)
end
end Lag

set_option maxRecDepth 100000
set_option maxHeartbeats 4000000
/-! ### an own exception class called by the name of its field alone -/
namespace PySem
namespace ByName
open PySem.Spec PySem.HandSPX
section
variable {M : Model} {A : Around} {E : Value → Shared → Prop} {h : Heap} {g : Array GenState} {d : Drawn} {t : Nat} {os : OsState}
variable {nm q : Str} {C N : Addr} {bs bm bmB : List Value} {hdct : Bool} {sn : List Str} {sub : List Value} {ab : Bool} {col : Option Bool}
variable {dd : Option Addr} {k0 k1 k2 k3 k5 : Option Value} {B newId initId : String} {kw : List (Str × Value)}
theorem checkN (F : ExcBaseFacts B newId initId bmB) (hT : ∀ Y : String, bm.contains (.type Y) = bmB.contains (.type Y)) {Q : Unit → Shared → Prop}
    (hC : h.get? C = some (excClassObj nm q C N bs bm hdct sn sub ab col dd k0 k1 k2 k3 k5 newId)) (hq : Q () ⟨h, g, d, t, os⟩) :
    wpAny M A (checkBuiltinCall newId ⟨[.ref C], kw⟩) Q E ⟨h, g, d, t, os⟩ := by
  have hcont : (Value.ref C :: bm).contains (.type B) = true := by
    rw [List.contains_cons, hT, F.hasB, Bool.or_true]
  have st := F.noStar
  simp only [checkBuiltinCall, F.newKind, F.newSplit, F.newRow]
  repeat (first
    | refine wpAny_loadPart_at hC ?_
    | (refine wpAny_isSubtype_exc hC ?_
       rw [hcont])
    | refine wpAny_staticBase_exc hC ?_
    | refine wpAny_madeBy_exc hC ?_
    | simp only [bne_self_eq_false, Bool.false_eq_true, if_false]
    | wp_step)
  exact hq
end
section
variable {prog : Program} {w : World} {A : Around} {E : Value → Shared → Prop} {R : Result → Shared → Prop} {h : Heap} {g : Array GenState} {d : Drawn} {t : Nat} {os : OsState}
variable {nm q : Str} {C N : Addr} {bs bm bmB : List Value} {hdct : Bool} {sn : List Str} {sub : List Value} {ab : Bool} {col : Option Bool}
variable {dd : Option Addr} {k0 k1 k2 k3 k5 : Option Value} {B newId initId : String} {kw : List (Str × Value)} {fI : Addr}
/-- the new object: no args -/
theorem newN (F : ExcBaseFacts B newId initId bmB) (hT : ∀ Y : String, bm.contains (.type Y) = bmB.contains (.type Y))
    (hC : h.get? C = some (excClassObj nm q C N bs bm hdct sn sub ab col dd k0 k1 k2 k3 k5 newId))
    (hq : R (.ok (.ret (.ref (h.objs.size + 1)))) ⟨(h.push (W.kdv_tup [])).push (excO C h.objs.size), g, d, t, os⟩) :
    codeAny (model prog w) A (.builtin newId ⟨[.ref C], kw⟩) R ⟨h, g, d, t, os⟩ := by
  have hends := F.ends
  have cB : (Value.ref C :: bm).contains (.type B) = true := by
    rw [List.contains_cons, hT, F.hasB, Bool.or_true]
  have cA : (Value.ref C :: bm).contains (.type "AttributeError") = false := by
    rw [List.contains_cons, hT, F.noAttr]
    rfl
  have cN : (Value.ref C :: bm).contains (.type "NameError") = false := by
    rw [List.contains_cons, hT, F.noName]
    rfl
  refine codeAny_builtinAt F.entry ?_
  unfold Builtin.«BaseException.__new__»
  refine wpAt_bind ?_
  show wpAt _ _ _ (stack >>= _) _ _ _
  refine wpAt_bind (wpAt_stack fun p below => wpAt_of_wpAny ?_)
  wp_walk
  refine wpAt_of_wpAny ?_
  rw [F.owner]
  repeat (first
    | with_reducible refine wpAny_madeHere_exc F.canon hC ?_
    | with_reducible refine wpAny_loadPart_at hC ?_
    | (with_reducible refine wpAny_isSubtype_exc hC ?_
       first
         | rw [cB]
         | rw [cA]
         | rw [cN])
    | wp_step)
  show R _ _
  rw [Heap.size_push]
  exact hq
theorem typeN (F : ExcBaseFacts B newId initId bmB) (hT : ∀ Y : String, bm.contains (.type Y) = bmB.contains (.type Y)) {Q : Fin → Shared → Prop}
    (hC : h.get? C = some (excClassObj nm q C N bs bm hdct sn sub ab col dd k0 k1 k2 k3 k5 newId))
    (hi : W.Looks (model prog w) h (typeLookup (.ref C) "__init__") (some (.ref fI))) (hb : ∀ me, W.Looks (model prog w) h (bindSpecial (.ref fI) me) (.ref fI, [me]))
    (hq : codeAny (model prog w) A (.call (.ref fI) ⟨[.ref (h.objs.size + 1)], kw⟩)
      (fun r z => match r with
        | .ok (.ret v) => v = .none ∧ Q (.done (.ret (.ref (h.objs.size + 1)))) z
        | .ok _ => False
        | .error e => E e z)
      ⟨(h.push (W.kdv_tup [])).push (excO C h.objs.size), g, d, t, os⟩) :
    wpAny (model prog w) A (Builtin.«type.__call__» ⟨[.ref C], kw⟩) Q E ⟨h, g, d, t, os⟩ := by
  repeat (first
    | with_reducible refine wpAny_loadPart_at hC ?_
    | with_reducible refine wpAny_madeBy_exc hC ?_
    | wp_step)
  refine codeAny_call_builtin_code (Code.quiet_builtin _ F.quiet) (checkN F hT hC ?_)
  refine newN F hT hC ?_
  show wpAny _ _ _ _ _ _
  have up : ∀ b o, h.get? b = some o → ((h.push (W.kdv_tup [])).push (excO C h.objs.size)).get? b = some o := fun b o e =>
    Heap.get?_push_of_some _ (Heap.get?_push_of_some _ e)
  have hC1 := up _ _ hC
  have hget : ((h.push (W.kdv_tup [])).push (excO C h.objs.size)).get? (h.objs.size + 1) = some (excO C h.objs.size) := by
    heap_get
  have cC : (Value.ref C :: bm).contains (.ref C) = true := by simp
  have i1 := hi.keeps up
  have b1 := (hb (.ref (h.objs.size + 1))).keeps up
  unfold isInstance
  repeat (first
    | with_reducible refine wpAny_loadPart_at hget ?_
    | (with_reducible refine wpAny_isSubtype_exc hC1 ?_
       rw [cC])
    | wp_step)
  show wpAny _ _ (typeLookup (.ref C) _) _ _ _
  refine i1.at ?_
  refine wpAny_holding (wpAny_bind (b1.at ?_))
  refine wpAny_bind (wpAny_call (codeAny_mono hq fun r z hz => ?_))
  rcases r with e | (v | _ | _ | _) <;> first | exact hz | exact hz.elim | skip
  obtain ⟨rfl, hz⟩ := hz
  first
    | exact wpAny_pure (wpAny_pure hz)
    | (wp_walk
       exact hz)
theorem callN (F : ExcBaseFacts B newId initId bmB) (hT : ∀ Y : String, bm.contains (.type Y) = bmB.contains (.type Y))
    (hC : h.get? C = some (excClassObj nm q C N bs bm hdct sn sub ab col dd k0 k1 k2 k3 k5 newId))
    (hi : W.Looks (model prog w) h (typeLookup (.ref C) "__init__") (some (.ref fI))) (hb : ∀ me, W.Looks (model prog w) h (bindSpecial (.ref fI) me) (.ref fI, [me]))
    (hq : codeAny (model prog w) (A.under (.builtin "type.__call__" ⟨[.ref C], kw⟩)) (.call (.ref fI) ⟨[.ref (h.objs.size + 1)], kw⟩) (W.InitBack (h.objs.size + 1) R)
      ⟨(h.push (W.kdv_tup [])).push (excO C h.objs.size), g, d, t, os⟩) :
    codeAny (model prog w) A (.call (.ref C) ⟨[], kw⟩) R ⟨h, g, d, t, os⟩ := by
  have f1 := tc_lookup
  have f2 := tc_bind (.ref C)
  have ty : (⟨h, g, d, t, os⟩ : Shared).TypeIs (.ref C) "type" := ⟨_, hC, rfl⟩
  refine codeAny_of_tree ?_
  show wpAny _ _ (callAny (.ref C) _) _ _ _
  repeat (any_goals (first
    | assumption
    | with_reducible refine wpAny_loadPart_at hC ?_
    | wp_step))
  refine ⟨rfl, ?_⟩
  refine codeAny_call_builtin_at (Code.quiet_builtin _ (by decide +kernel)) entry_typeCall (wpAny_check_type_call_sub hC (typeN F hT hC hi hb ?_))
  refine codeAny_mono hq fun r z hz => ?_
  rcases r with e | (v | _ | _ | _) <;> exact hz
end
end ByName
end PySem

set_option maxRecDepth 100000
set_option maxHeartbeats 4000000
namespace PySem.W
open PySem PySem.Spec PySem.Calls PyProof.Rows
section
variable {prog : Program} {w : World} {A : Around} {E : Value → Shared → Prop} {s : Shared} {K : Frag} {x D : Addr} {ox : Obj} {od : Option Obj}
theorem cls_found {D : Addr} {a g : Value} {n : Str} (hd : hasDictIn K D = true) (h1 : findIn K (.ref D) n = some (some a)) (h2 : specialIn K a "__get__" = some (some g)) (h3 : takesIn K a = some true) : findObj K D od n = some (.bind g a) := by
  obtain ⟨cd, hc, _⟩ := any_some hd
  unfold findObj
  rw [hc, Option.bind_some, h1, Option.bind_some]
  simp [h2, h3]
theorem cls_of_exc {Q : Option Value → Shared → Prop} (C1 : findIn K (.ref D) "__getattribute__" = some (some (.builtin "BaseException.__getattribute__"))) (C2 : findIn K (.ref D) "__getattr__" = some none) (C3 : subIn K (.ref D) (.type "BaseException") = some true)
    (C4 : hasDictIn K D = true) (C5 : findIn K (.ref D) "__class__" = some (some (.builtin "object.__class__"))) (C6 : specialIn K (.builtin "object.__class__") "__get__" = some (some (.builtin "getset_descriptor.__get__"))) (C7 : takesIn K (.builtin "object.__class__") = some true) (C8 : mroIn K D (.type "object") = some true)
    (X : K.In s.heap) (I : InstAt s.heap x ox D od) (h : Q (some (.ref D)) { s with toks := s.toks + 1 }) : wpAny (model prog w) A (getAttr? (.ref x) "__class__") Q E s := by
  have fnd := cls_found (od := od) C4 C5 C6 C7
  obtain ⟨hp, g, d, t, os⟩ := s
  have t0 := I.type (M := model prog w)
  have t1 := looks_findIn (M := model prog w) X C1
  have t2 := looks_findIn (M := model prog w) X C2
  have t3 := looks_find (M := model prog w) X I fnd
  have isE : Looks (model prog w) hp (isInstance (.ref x) (.type "BaseException")) true := t0.andThen (looks_subIn X C3)
  have own : (Value.builtin "BaseException.__getattribute__" == Value.builtin "object.__getattribute__") = false := by decide +kernel
  have q1 : (onTheHeap (Value.ref D) && Value.builtin "BaseException.__getattribute__" == Value.builtin "object.__getattribute__") = false := by rw [own]; rfl
  unfold getAttr? getAttrBy? getAttrBy
  refine wpAny_bind (wpAny_mkText (wpAny_bind (wpAny_attempt (wpAny_holding (wpAny_bind (t0.at (wpAny_bind (t1.at ?_))))))))
  show wpAny _ _ (if (onTheHeap (Value.ref D) && Value.builtin "BaseException.__getattribute__" == Value.builtin "object.__getattribute__") = true then _ else _) _ _ _
  rw [q1, if_neg Bool.false_ne_true]
  unfold getAttrByItsOwn hookBefore
  refine wpAny_bind ?_
  rw [if_pos (show onTheHeap (Value.ref D) = true from rfl)]
  refine t2.at (wpAny_bind (wpAny_attempt (wpAny_holding ?_)))
  unfold callGetattribute
  rw [show (false && onTheHeap (Value.builtin "BaseException.__getattribute__")) = false from rfl, if_neg Bool.false_ne_true]
  unfold boundAndCalled
  rw [PySem.F.excAttr_ValueError.ga.bind (.ref x)]
  refine wpAny_bind (wpAny_pure ?_)
  show wpAny _ _ (call (.builtin "BaseException.__getattribute__") [.ref x, .str "__class__" t]) _ _ _
  refine wpAny_call (codeAny_call_builtin PySem.F.excAttr_ValueError.ga.plain PySem.F.entry_bexc_ga ?_)
  refine @check_slot (model prog w) _ _ ⟨hp, g, d, t + 1, os⟩ "BaseException.__getattribute__" "BaseException" "__getattribute__" (.ref x) [.str "__class__" t] [] _ (by decide +kernel) (by decide +kernel) isE (PySem.F.args_bexc_ga (.ref x) (.str "__class__" t)) ?_
  unfold Builtin.«object.__getattribute__»
  refine wpAny_bind (wpAny_of_eq (a := ((Value.ref x : Value), [Value.str "__class__" t])) (by first | rfl | (simp only [slotArgs]; rfl)) ?_)
  refine wpAny_bind (wpAny_pure (wpAny_bind (t0.at (wpAny_bind (t3.at ?_)))))
  show wpAny _ _ (holding [Value.builtin "object.__class__"] (call (.builtin "getset_descriptor.__get__") [.builtin "object.__class__", .ref x, .ref D]) >>= ret) _ _ _
  refine wpAny_bind (wpAny_holding (wpAny_call (class_get (s := ⟨hp, g, d, t + 1, os⟩) (ox := ox) (od := od) X I C8 ?_)))
  refine wpAny_pure ?_
  show wpAny _ _ (handedOut (.ref D)) _ _ _
  rw [handedOut_of (v := .ref D) rfl]
  first
    | exact wpAny_pure (wpAny_pure h)
    | exact wpAny_pure h
    | exact wpAny_pure (wpAny_bind (wpAny_pure (wpAny_pure h)))
theorem kitD (C1 : findIn K (.ref D) "__getattribute__" = some (some (.builtin "BaseException.__getattribute__"))) (C2 : findIn K (.ref D) "__getattr__" = some none) (C3 : subIn K (.ref D) (.type "BaseException") = some true)
    (C4 : hasDictIn K D = true) (C5 : findIn K (.ref D) "__class__" = some (some (.builtin "object.__class__"))) (C6 : specialIn K (.builtin "object.__class__") "__get__" = some (some (.builtin "getset_descriptor.__get__"))) (C7 : takesIn K (.builtin "object.__class__") = some true) (C8 : mroIn K D (.type "object") = some true) :
    KitX K (.ref x) (.ref D) (fun h => InstAt h x ox D od) := by
  have isC : ∃ c d cd sl, K.lookup D = some ⟨c, d, .cls cd, sl⟩ := by
    obtain ⟨cd, hc, _⟩ := any_some C4
    unfold clsIn at hc
    split at hc
    · exact ⟨_, _, _, _, by assumption⟩
    · cases hc
  obtain ⟨c, d, cd, sl, ho⟩ := isC
  refine ⟨fun _ _ _ I => I.type, fun M h X _ => ?_, fun h tp dd its n sl' X htp => ?_, fun X I k => cls_of_exc C1 C2 C3 C4 C5 C6 C7 C8 X I k⟩
  · intro A' Q' E' s' k q
    unfold isType loadHead
    exact wpAny_bind (wpAny_loadPart (k _ _ (X _ _ ho)) (wpAny_pure q))
  · refine Bool.eq_false_iff.mpr fun q => ?_
    have e : D = tp := Value.ref.inj (beq_iff_eq.mp q)
    rw [← e, X _ _ ho] at htp
    cases htp
end
end PySem.W
namespace L2
open PySem PySem.Spec PyProof.Rows
/-- an own exception as a value: of its text, or of a field -/
def ExV (C a : Addr) (H : Hp) : Prop := H a = some (ExO (.ref C) a) ∨ ∃ (d : Addr) (fs : List (Str × V)), H a = some (exo a C (some d)) ∧ H d = some (exd d fs)
theorem ExV.same {C a : Addr} {H H' : Hp} (s : ∀ b o, H b = some o → H' b = some o) (h : ExV C a H) : ExV C a H' := by
  rcases h with h | ⟨d, fs, h, k⟩
  · exact .inl (s _ _ h)
  · exact .inr ⟨d, fs, s _ _ h, s _ _ k⟩
/-- C(e), C's own __init__ keeping sp -/
def tValO (C : Addr) (sp : Sp) (ta : TA) : TE := fun σ H Q => ta σ H fun vs H1 => vs.length ≤ 1000 ∧ ∀ a, H1 a = none → sp (.ref a :: vs) (upd H1 a (exo a C none)) (fun v H2 => v = .non ∧ Q (.ref a) H2) E0
/-- C(f = e) -/
def tValK (C : Addr) (sp : Sp) (tk : TA) : TE := fun σ H Q => tk σ H fun zs H1 => zs.length = 1 ∧ ∀ a, H1 a = none → sp (.ref a :: zs) (upd H1 a (exo a C none)) (fun v H2 => v = .non ∧ Q (.ref a) H2) E0
section
variable {X : Cx} {e : Expr} {es : List Expr} {ta tk : TA} {p pos : Pos} {x : Str} {C fI : Addr} {k : Nat} {fd : FuncData} {ps ks : List Str} {sp : Sp} {kws : List Keyword}
theorem made_ok {pins : List (Addr × Obj)} {σ : St} {H1 H2 : Hp} {hp : Heap} {g : Array GenState} {dr : Drawn} {tk : Nat} {os : OsState} {s2 : Shared} (I : Inv X pins σ H1 ⟨hp, g, dr, tk, os⟩) (ho : s2.os = os) (hb : AllBare s2.gens) (un : Un (frs X.stack) [] H1 H2 hp s2.heap) (hok : HOk X.prog X.w H2 s2.heap) : Inv X pins σ H2 s2 := by
  obtain ⟨h2, g2, d2, t2, os2⟩ := s2
  exact I.call' (ch := []) ho un hok hb (fun b z => absurd z (by simp))
theorem pe_valO (T : OexC X.K C) (iC : PySem.W.findIn X.K (.ref C) "__init__" = some (some (.ref fI))) (tI : PySem.W.typeIn X.K (.ref fI) = some (.type "function"))
    (F1 : FnOk X.prog X.w X.K X.mg X.base CX0 k fI fd ps sp) (hr : Room (k + 1) X.A) (hb : Binds X.K fd ps []) (hg : Gl X x) (hm : X.mg x = some (.ref C)) (ha : PA X (e :: es) ta)
    (hdb : (x == ("__debug__" : Str)) = false := by decide) (he : starEach (e :: es) X.env = (false, eval e X.env) :: starEach es X.env := by rfl)
    (hpl : (backTo pos (starEach es X.env)).any (·.1) = false := by rfl) : PE X (.Call (.Name x p) (e :: es) [] pos) (tValO C sp ta) := by
  refine ⟨fun pins s σ H Q I h => ?_⟩
  obtain ⟨nm, q, N, bs, bm, sn, sub, ab, col, dd, k0, k1, k2, k3, k5, hC, hbm⟩ := T.cls
  refine wpAny_Call_Name_kw (ld_glob I hg hm ?_ hdb)
  refine PySem.W.callWith_K (h₀ := X.base) I.ok.mod.kin T.kC ?_ he hpl
  refine thn (ha.run pos pins s σ H _ I h) fun us s1 ⟨vs, H1, I1, r1, hz, q1⟩ => ⟨I1.kIn, ?_⟩
  show wpAny _ _ (call (.ref C) us) _ _ _
  obtain ⟨hp, g, dr, tk, os⟩ := s1
  have hn : H1 (hp.objs.size + 1) = none := I1.hok.fresh (Nat.le_succ _)
  have hq := q1 _ hn
  have up : ∀ b o, hp.get? b = some o → ((hp.push (PySem.W.kdv_tup us)).push (PySem.HandSPX.excO C hp.objs.size)).get? b = some o := fun b o z =>
    Heap.get?_push_of_some _ (Heap.get?_push_of_some _ z)
  have here : ((hp.push (PySem.W.kdv_tup us)).push (PySem.HandSPX.excO C hp.objs.size)).get? (hp.objs.size + 1) = some (PySem.HandSPX.excO C hp.objs.size) := by
    heap_get
  have I2 := I1.laid (t' := tk) (a := hp.objs.size + 1) (o := exo (hp.objs.size + 1) C none) (h' := (hp.push (PySem.W.kdv_tup us)).push (PySem.HandSPX.excO C hp.objs.size)) up (Nat.le_succ _) (exo_ok here)
  have r2 : Vals (V.ref (hp.objs.size + 1) :: vs) (Value.ref (hp.objs.size + 1) :: us) := .cons rfl r1
  have hl : (Value.ref (hp.objs.size + 1) :: us).length = ps.length := by
    rw [← F1.len _ _ _ _ hq]
    exact r2.length.symm
  have hus : us.length ≤ sizeLine := by
    rw [← Paired.length r1, sizeLine_eq]
    omega
  refine wpAny_call (PySem.HandSPX.call_own F.excBase_ValueError (fun Y => PySem.HandSPX.refsVE_contains Y bm hbm) (I1.kIn _ _ hC) (PySem.W.looks_findIn I1.kIn iC) (fun me => PySem.W.bind_fn I1.kIn me tI) hus ?_)
  refine codeAny_mono (F1.run _ X.stack _ _ ⟨Value.ref (hp.objs.size + 1) :: us, []⟩ (Value.ref (hp.objs.size + 1) :: us) _ _ E0 (hr.make C us []) (I2.env0.make C us []) ?_ r2 hq) fun r s' hq' => ?_
  · have := hb _ (Value.ref (hp.objs.size + 1) :: us) I2.kIn (by rw [List.append_nil]; exact hl)
    rw [List.append_nil] at this
    exact this
  cases r with
  | error er => exact False.elim hq'
  | ok fl =>
    cases fl with
    | ret u =>
      obtain ⟨v, H2, os2, bare2, un2, hok2, rv, ev, q2⟩ := hq'
      subst ev
      exact ⟨rv, ⟨V.ref (hp.objs.size + 1), H2, made_ok I2 os2 bare2 un2 hok2, rfl, q2⟩⟩
    | next => exact False.elim hq'
    | brk => exact False.elim hq'
    | cont => exact False.elim hq'
end
end L2

set_option maxRecDepth 100000
set_option maxHeartbeats 4000000
namespace L2
open PySem PySem.Spec PyProof.Rows
section
variable {X : Cx} {e : Expr} {es : List Expr} {ta tk : TA} {p pos : Pos} {x : Str} {C fI : Addr} {k : Nat} {fd : FuncData} {ps ks : List Str} {sp : Sp} {kws : List Keyword}
theorem vals_one : ∀ {zs : List V} {ws : List Value}, Vals zs ws → zs.length = 1 → ∃ z u, zs = [z] ∧ ws = [u]
  | _, _, .nil, h => nomatch h
  | _, _, .cons _ .nil, _ => ⟨_, _, rfl, rfl⟩
  | _, _, .cons _ (.cons _ _), h => by
    simp at h
theorem pe_valK {n : Str} {p1 p2 : Str} (T : OexC X.K C) (iC : PySem.W.findIn X.K (.ref C) "__init__" = some (some (.ref fI))) (tI : PySem.W.typeIn X.K (.ref fI) = some (.type "function"))
    (F1 : FnOk X.prog X.w X.K X.mg X.base CX0 k fI fd [p1, p2] sp) (hr : Room (k + 1) X.A) (hb : ∀ (s : Shared) (me v : Value), X.K.In s.heap → BindsTo s fd ⟨[me], [(n, v)]⟩ [(p1, me), (p2, v)]) (hg : Gl X x) (hm : X.mg x = some (.ref C)) (hkw : PK X kws tk)
    (hall : (backToKw pos (keywordEach kws X.env)).all (·.1.isSome) = true := by rfl) (hks : (backToKw pos (keywordEach kws X.env)).filterMap (·.1) = [n] := by rfl) (hdb : (x == ("__debug__" : Str)) = false := by decide)
    (hpl : ((backTo pos (starEach [] X.env)).any (·.1) || (backToKw pos (keywordEach kws X.env)).any (·.1.isNone)) = false := by rfl) : PE X (.Call (.Name x p) [] kws pos) (tValK C sp tk) := by
  refine ⟨fun pins s σ H Q I h => ?_⟩
  obtain ⟨nm, q, N, bs, bm, sn, sub, ab, col, dd, k0, k1, k2, k3, k5, hC, hbm⟩ := T.cls
  refine wpAny_Call_Name_kw (ld_glob I hg hm ?_ hdb)
  refine PySem.W.callWith_KW0 (h₀ := X.base) I.ok.mod.kin T.kC hall ?_ hpl
  refine thn (hkw.run pos pins s σ H _ I h) fun ws s1 ⟨zs, H1, I1, rz, q1, q2⟩ => ⟨I1.kIn, ?_⟩
  rw [hks]
  obtain ⟨z, u, rfl, rfl⟩ := vals_one rz q1
  show wpAny _ _ (call (.ref C) [] [(n, u)]) _ _ _
  obtain ⟨hp, g, dr, tk, os⟩ := s1
  have hn : H1 (hp.objs.size + 1) = none := I1.hok.fresh (Nat.le_succ _)
  have hq := q2 _ hn
  have up : ∀ b o, hp.get? b = some o → ((hp.push (PySem.W.kdv_tup [])).push (PySem.HandSPX.excO C hp.objs.size)).get? b = some o := fun b o z =>
    Heap.get?_push_of_some _ (Heap.get?_push_of_some _ z)
  have here : ((hp.push (PySem.W.kdv_tup [])).push (PySem.HandSPX.excO C hp.objs.size)).get? (hp.objs.size + 1) = some (PySem.HandSPX.excO C hp.objs.size) := by
    heap_get
  have I2 := I1.laid (t' := tk) (a := hp.objs.size + 1) (o := exo (hp.objs.size + 1) C none) (h' := (hp.push (PySem.W.kdv_tup [])).push (PySem.HandSPX.excO C hp.objs.size)) up (Nat.le_succ _) (exo_ok here)
  have r2 : Vals (V.ref (hp.objs.size + 1) :: [z]) (Value.ref (hp.objs.size + 1) :: [u]) := .cons rfl rz
  refine wpAny_call (PySem.ByName.callN F.excBase_ValueError (fun Y => PySem.HandSPX.refsVE_contains Y bm hbm) (I1.kIn _ _ hC) (PySem.W.looks_findIn I1.kIn iC) (fun me => PySem.W.bind_fn I1.kIn me tI) ?_)
  refine codeAny_mono (F1.run _ X.stack _ _ ⟨[Value.ref (hp.objs.size + 1)], [(n, u)]⟩ [Value.ref (hp.objs.size + 1), u] _ _ E0 (hr.make C [] [(n, u)]) (I2.env0.make C [] [(n, u)]) (hb _ _ _ I2.kIn) r2 hq) fun r s' hq' => ?_
  cases r with
  | error er => exact False.elim hq'
  | ok fl =>
    cases fl with
    | ret u =>
      obtain ⟨v, H2, os2, bare2, un2, hok2, rv, ev, q2⟩ := hq'
      subst ev
      exact ⟨rv, ⟨V.ref (hp.objs.size + 1), H2, made_ok I2 os2 bare2 un2 hok2, rfl, q2⟩⟩
    | next => exact False.elim hq'
    | brk => exact False.elim hq'
    | cont => exact False.elim hq'
end
end L2

set_option maxRecDepth 100000
set_option maxHeartbeats 4000000
namespace L2
open PySem PySem.Spec PyProof.Rows
section
variable {X : Cx} {e : Expr} {es : List Expr} {ta tk : TA} {p pos : Pos} {x : Str} {C fI : Addr} {k : Nat} {fd : FuncData} {ps ks : List Str} {sp : Sp} {kws : List Keyword}
/-- isinstance(e, D) of an exception that stands -/
def rIsV (K : PySem.W.Frag) : List V → Hp → VK → Prop := fun xs H Q => ∃ (a C : Addr) (c : V) (cv : Value) (b : Bool), xs = [.ref a, c] ∧ ExcC K C ∧ ExV C a H ∧ (∀ u, RelV c u → u = cv) ∧ PySem.W.kitOne K (.ref C) cv = some b ∧ Q (.bl b) H
theorem inst_val {pins : List (Addr × Obj)} {σ : St} {H : Hp} {s : Shared} {a : Addr} (I : Inv X pins σ H s) (h : ExV C a H) : ∃ (oe : Obj) (od : Option Obj), PySem.W.InstAt s.heap a oe C od := by
  rcases h with h | ⟨d, fs, h, hd⟩
  · obtain ⟨⟨oe, vs, ho, hz, hv, _⟩, _, _⟩ := I.hok a _ h
    exact ⟨oe, none, ho, hz.1, by unfold PySem.W.notCls; rw [hv] <;> rfl, by rw [hz.2]; trivial⟩
  · obtain ⟨t1, ho⟩ := exo_at I.hok h
    obtain ⟨mA, hns, _⟩ := exd_at I.hok hd
    obtain ⟨o, es, ep, e1, _⟩ := hns
    exact ⟨_, some o, ho, rfl, rfl, e1⟩
theorem call_isV : CallR X (.builtin "isinstance") (rIsV X.K) := by
  intro pins s σ H xs us Q I r h
  obtain ⟨a, C, c, cv, b, rfl, XC, hv, hcv, e, q⟩ := h
  obtain ⟨u1, u2, rfl, rx, rt⟩ := vals2 r
  cases rx
  have ec := hcv _ rt
  subst ec
  obtain ⟨oe, od, J⟩ := inst_val I hv
  exact PySem.W.kia_one (PySem.W.kitD XC.hg XC.hk XC.hs XC.hd XC.ha XC.hn XC.ht XC.hm) I.kIn J e (fun z => nomatch z) fun tk => ⟨.bl b, H, I.kept (t' := tk) fun _ _ z => z, rfl, q⟩
/-- e.f of an exception that stands -/
def tXfV (K : PySem.W.Frag) (f : Str) (te : TE) : TE := fun σ H Q => te σ H fun x H1 => ∃ (a C d : Addr) (fs : List (Str × V)) (v : V), x = .ref a ∧ XfC K C ∧ PySem.W.findIn K (.ref C) f = some none ∧ H1 a = some (exo a C (some d)) ∧ H1 d = some (exd d fs) ∧ fs.lookup f = some v ∧ Q v H1
theorem pe_xfV {te : TE} {n : Str} (he : PE X e te) (hb : attributeBase e n X.env (eval e X.env) = eval e X.env := by rfl) : PE X (.Attribute e n pos) (tXfV X.K n te) := by
  refine ⟨fun pins s σ H Q I h => ?_⟩
  refine attr_of hb (thn (he.run pins s σ H _ I h) fun u s1 hh => ?_)
  obtain ⟨x, H1, I1, rx, a, C, d, fs, v, rfl, T, hno, ha, hd, l, q⟩ := hh
  obtain rfl : u = Value.ref a := rx
  obtain ⟨t1, ho⟩ := exo_at I1.hok ha
  obtain ⟨mA, hns, hr⟩ := exd_at I1.hok hd
  obtain ⟨od, hod, hl⟩ := lookIn_ns hns
  obtain ⟨u, hu, ru⟩ := RelO.some_of (v := v) (o := mA n) (by rw [← l]; exact hr n)
  have J : PySem.W.InstAt s1.heap a _ C (some od) := ⟨ho, rfl, rfl, hod⟩
  exact HandSPX.exc_get I1.kIn J T.ga T.gg T.exC (PySem.W.findObj_own T.hdC hno rfl (by rw [hl, hu])) (handed_of ru) ⟨v, H1, I1.tok _, ru, q⟩
end
end L2

set_option maxRecDepth 100000
set_option maxHeartbeats 4000000
namespace Lag
open PySem PySem.Spec PyProof.Rows L2
end Lag
namespace L2
open PySem PySem.Spec PyProof.Rows
/-- l.count(True): of a list of bools -/
def rCountB (K : PySem.W.Frag) : V → List V → Hp → VK → Prop := fun x xs H Q => ∃ (l : Addr) (bs : List Bool) (k : Bool), x = .ref l ∧ xs = [.bl k] ∧ SqL K H l (bs.map V.bl) ∧ Q (.int (countIn (.bool k) (bs.map PyData.bool))) H
theorem dpall_bools {K : PySem.W.Frag} {H : Hp} : ∀ bs : List Bool, DpAll K H (bs.map V.bl) (bs.map PyData.bool)
  | [] => .nil
  | b :: bs => .cons (.bl b) (dpall_bools bs)
theorem bools_all : ∀ bs : List Bool, (bs.map PyData.bool).all Shape.bool.has = true
  | [] => rfl
  | b :: bs => by
    rw [List.map_cons, List.all_cons, bools_all bs]
    rfl
theorem mt_lcountB {X : Cx} : MtR X "list.count" (rCountB X.K) := by
  intro pins s σ H x xs v us Q I rx rxs h
  obtain ⟨l, bs, k, rfl, rfl, hl, q⟩ := h
  cases rx
  cases rxs with
  | cons ry rt =>
    cases rt
    cases ry
    obtain ⟨its, rv, ⟨⟨cls, dd, data, sls⟩, n, ho, hc, hdn, hdt⟩, hlen⟩ := I.list hl
    simp only at hc hdt
    subst hc hdt
    obtain ⟨as, h4⟩ := Dp.readsAll I _ _ its (dpall_bools bs) rv
    exact count_list_bools ⟨_, ho, rfl, n, rfl⟩ h4 (bools_all bs) ⟨.int _, H, I.tok _, ⟨_, rfl⟩, q⟩
end L2
namespace Lag
open PySem PySem.Spec PyProof.Rows L2
abbrev sI0 : Stmt := inClass (topS 3 /- @NoWires -/) 0
abbrev sI1 : Stmt := inClass (topS 4 /- @NoRing -/) 0
abbrev sI2 : Stmt := inClass (topS 7 /- @NotLet -/) 0
abbrev sI3 : Stmt := inClass (topS 9 /- @TooEarly -/) 0
abbrev sI4 : Stmt := inClass (topS 11 /- @NoLagsThere -/) 0
section
variable {X : Cx} {e : Expr} {es : List Expr} {ta : TA} {p1 p2 pos : Pos}
theorem pe_leinit {x : Str} {C0 : Addr} {pl : Sem Bool} (hg : Gl X x) (hm : X.mg x = some (.ref C0)) (gA : PySem.W.specialIn X.K (.ref C0) "__getattribute__" = some (some (.builtin "type.__getattribute__"))) (tC : PySem.W.typeIn X.K (.ref C0) = some (.type "type")) (rC : PySem.W.readsIn X.K C0 (.type "type") = true)
    (vV : PySem.W.findCls X.K (.ref C0) (.type "type") "__init__" = some (.val (.builtin "ValueError.__init__"))) (ha : PA X (e :: es) ta) (hdb : (x == ("__debug__" : Str)) = false := by decide)
    (hc : eval (.Call (.Attribute (.Name x p1) "__init__" p2) (e :: es) [] pos) X.env = (do
      let ov ← eval (.Name x p1) X.env
      standAt p2.atName
      let (f, first) ← holding [ov] (getMethod ov "__init__" pl)
      callWith pos f first (backTo pos (starEach (e :: es) X.env)) (backToKw pos (keywordEach [] X.env))) := by rfl)
    (he : starEach (e :: es) X.env = (false, eval e X.env) :: starEach es X.env := by rfl) (hpl : (backTo pos (starEach es X.env)).any (·.1) = false := by rfl) :
    PE X (.Call (.Attribute (.Name x p1) "__init__" p2) (e :: es) [] pos) (tVeI X.K ta) := by
  refine ⟨fun pins s σ H Q I h => ?_⟩
  refine PySem.W.methodCall_KW (ld_glob I hg hm ?_ hdb) hc
  obtain ⟨m, fr⟩ := I.fr
  refine PySem.W.method_of_cls fr I.ok.mod.kin gA (PySem.W.cls_val fr I.ok.mod.kin tC rC vV (by decide +kernel) ?_)
  show wpAny _ _ (callWith pos (Value.builtin "ValueError.__init__") [] (backTo pos (starEach (e :: es) X.env)) []) _ _ _
  refine PyProof.Rows.callWith_method1 (thn (ha.run pos pins _ σ H _ (I.tok _) h) fun us s1 ⟨vs, H1, I1, r1, a, C, ws, ev, hl, T, ea, q⟩ => ?_) he hpl
  subst ev
  cases r1 with
  | @cons _ u0 _ ur ra rw' =>
    obtain rfl : u0 = Value.ref a := ra
    have hlen : ur.length ≤ sizeLine := by
      rw [← Paired.length rw', sizeLine_eq]
      omega
    exact oinit_ok T I1 ea hlen fun s' J => ⟨.non, H1, J, rfl, q⟩
end
/-- what the top tells of LagError -/
structure LEx (K : PySem.W.Frag) (mg : Str → Option Value) (C0 : Addr) : Prop where
  g : mg "LagError" = some (.ref C0)
  gA : PySem.W.specialIn K (.ref C0) "__getattribute__" = some (some (.builtin "type.__getattribute__"))
  tC : PySem.W.typeIn K (.ref C0) = some (.type "type")
  rC : PySem.W.readsIn K C0 (.type "type") = true
  vV : PySem.W.findCls K (.ref C0) (.type "type") "__init__" = some (.val (.builtin "ValueError.__init__"))
/-- .. and of a class under it with a field of its own -/
structure TEx (K : PySem.W.Frag) (mg : Str → Option Value) (x f : Str) (C fI : Addr) : Prop where
  g : mg x = some (.ref C)
  T : OexC K C
  iC : PySem.W.findIn K (.ref C) "__init__" = some (some (.ref fI))
  tI : PySem.W.typeIn K (.ref fI) = some (.type "function")
  no : PySem.W.findIn K (.ref C) f = some none
  xf : XfC K C
def spXI (f : Str) (C : Addr) : Sp := fun vs H Q _ => ∃ (a : Addr) (v : V), vs = [.ref a, v] ∧ H a = some (exo a C none) ∧ ∀ dx, H dx = none → dx ≠ a → Q .non (upd (upd H dx (exd dx [(f, v)])) a (exo a C (some dx)))
section
variable {P : Program} {w : World} {K : PySem.W.Frag} {mg : Str → Option Value} {base : Heap}
theorem scI0 : FnScope ["self", "place"] ["self", "place"] (defScope sI0) := ⟨rfl, rfl, rfl, by decide +kernel, rfl, by decide +kernel, by decide +kernel⟩
theorem ok_init0 {f C0 C fI : Addr} {fd : FuncData} (F : Fun K "__init__" "NoWires.__init__" sI0 f fd) (L : LEx K mg C0) (TE : TEx K mg "NoWires" "place" C fI) : FnOk P w K mg base CX0 1 f fd ["self", "place"] (spXI "place" C) := by
  refine F.ok scI0 (fun vs H Q E h => ?_) (fun cdv A outer s H vs Q E hr h => ?_)
  · obtain ⟨a, v, rfl, _⟩ := h
    rfl
  · obtain ⟨a, v, rfl, ha, q⟩ := h
    refine ⟨_, pss_cons (ps_expr (pe_leinit (by rfl) L.g L.gA L.tC L.rC L.vV (pa_cons (pv 0) (pa_cons pe_str pa_nil)))) <| pss_one (ps_ost (pv 0) (pv 1)), ?_⟩
    exact ⟨_, rfl, a, C, _, rfl, (by show 1 ≤ 1000; decide), TE.T, ha, _, rfl, _, rfl, a, C, rfl, TE.T, TE.no, .inl ⟨ha, fun dx hdx ne => q dx hdx ne⟩⟩
theorem scI1 : FnScope ["self", "ring"] ["self", "ring"] (defScope sI1) := ⟨rfl, rfl, rfl, by decide +kernel, rfl, by decide +kernel, by decide +kernel⟩
theorem ok_init1 {f C0 C fI : Addr} {fd : FuncData} (F : Fun K "__init__" "NoRing.__init__" sI1 f fd) (L : LEx K mg C0) (TE : TEx K mg "NoRing" "ring" C fI) : FnOk P w K mg base CX0 1 f fd ["self", "ring"] (spXI "ring" C) := by
  refine F.ok scI1 (fun vs H Q E h => ?_) (fun cdv A outer s H vs Q E hr h => ?_)
  · obtain ⟨a, v, rfl, _⟩ := h
    rfl
  · obtain ⟨a, v, rfl, ha, q⟩ := h
    refine ⟨_, pss_cons (ps_expr (pe_leinit (by rfl) L.g L.gA L.tC L.rC L.vV (pa_cons (pv 0) (pa_cons pe_str pa_nil)))) <| pss_one (ps_ost (pv 0) (pv 1)), ?_⟩
    exact ⟨_, rfl, a, C, _, rfl, (by show 1 ≤ 1000; decide), TE.T, ha, _, rfl, _, rfl, a, C, rfl, TE.T, TE.no, .inl ⟨ha, fun dx hdx ne => q dx hdx ne⟩⟩
theorem scI2 : FnScope ["self", "wire"] ["self", "wire"] (defScope sI2) := ⟨rfl, rfl, rfl, by decide +kernel, rfl, by decide +kernel, by decide +kernel⟩
theorem ok_init2 {f C0 C fI : Addr} {fd : FuncData} (F : Fun K "__init__" "NotLet.__init__" sI2 f fd) (L : LEx K mg C0) (TE : TEx K mg "NotLet" "wire" C fI) : FnOk P w K mg base CX0 1 f fd ["self", "wire"] (spXI "wire" C) := by
  refine F.ok scI2 (fun vs H Q E h => ?_) (fun cdv A outer s H vs Q E hr h => ?_)
  · obtain ⟨a, v, rfl, _⟩ := h
    rfl
  · obtain ⟨a, v, rfl, ha, q⟩ := h
    refine ⟨_, pss_cons (ps_expr (pe_leinit (by rfl) L.g L.gA L.tC L.rC L.vV (pa_cons (pv 0) (pa_cons pe_str pa_nil)))) <| pss_one (ps_ost (pv 0) (pv 1)), ?_⟩
    exact ⟨_, rfl, a, C, _, rfl, (by show 1 ≤ 1000; decide), TE.T, ha, _, rfl, _, rfl, a, C, rfl, TE.T, TE.no, .inl ⟨ha, fun dx hdx ne => q dx hdx ne⟩⟩
theorem scI3 : FnScope ["self", "rows"] ["self", "rows"] (defScope sI3) := ⟨rfl, rfl, rfl, by decide +kernel, rfl, by decide +kernel, by decide +kernel⟩
theorem ok_init3 {f C0 C fI : Addr} {fd : FuncData} (F : Fun K "__init__" "TooEarly.__init__" sI3 f fd) (L : LEx K mg C0) (TE : TEx K mg "TooEarly" "rows" C fI) : FnOk P w K mg base CX0 1 f fd ["self", "rows"] (spXI "rows" C) := by
  refine F.ok scI3 (fun vs H Q E h => ?_) (fun cdv A outer s H vs Q E hr h => ?_)
  · obtain ⟨a, v, rfl, _⟩ := h
    rfl
  · obtain ⟨a, v, rfl, ha, q⟩ := h
    refine ⟨_, pss_cons (ps_expr (pe_leinit (by rfl) L.g L.gA L.tC L.rC L.vV (pa_cons (pv 0) (pa_cons pe_str pa_nil)))) <| pss_one (ps_ost (pv 0) (pv 1)), ?_⟩
    exact ⟨_, rfl, a, C, _, rfl, (by show 1 ≤ 1000; decide), TE.T, ha, _, rfl, _, rfl, a, C, rfl, TE.T, TE.no, .inl ⟨ha, fun dx hdx ne => q dx hdx ne⟩⟩
theorem scI4 : FnScope ["self", "bar"] ["self", "bar"] (defScope sI4) := ⟨rfl, rfl, rfl, by decide +kernel, rfl, by decide +kernel, by decide +kernel⟩
theorem ok_init4 {f C0 C fI : Addr} {fd : FuncData} (F : Fun K "__init__" "NoLagsThere.__init__" sI4 f fd) (L : LEx K mg C0) (TE : TEx K mg "NoLagsThere" "bar" C fI) : FnOk P w K mg base CX0 1 f fd ["self", "bar"] (spXI "bar" C) := by
  refine F.ok scI4 (fun vs H Q E h => ?_) (fun cdv A outer s H vs Q E hr h => ?_)
  · obtain ⟨a, v, rfl, _⟩ := h
    rfl
  · obtain ⟨a, v, rfl, ha, q⟩ := h
    refine ⟨_, pss_cons (ps_expr (pe_leinit (by rfl) L.g L.gA L.tC L.rC L.vV (pa_cons (pv 0) (pa_cons pe_str pa_nil)))) <| pss_one (ps_ost (pv 0) (pv 1)), ?_⟩
    exact ⟨_, rfl, a, C, _, rfl, (by show 1 ≤ 1000; decide), TE.T, ha, _, rfl, _, rfl, a, C, rfl, TE.T, TE.no, .inl ⟨ha, fun dx hdx ne => q dx hdx ne⟩⟩
end
/-- a class of refusals without a field -/
structure PCl (K : PySem.W.Frag) (mg : Str → Option Value) (x : Str) (C : Addr) : Prop where
  g : mg x = some (.ref C)
  q : PySem.W.excIn K C [.type "ValueError", .type "Exception", .type "BaseException", .type "object"] "ValueError.__new__" = true
  k : PySem.W.keepIn K (.ref C) = true
/-- .. with one, and its __init__ -/
structure FCl (P : Program) (w : World) (K : PySem.W.Frag) (mg : Str → Option Value) (base : Heap) (x f : Str) (C fI : Addr) (fd : FuncData) : Prop where
  T : TEx K mg x f C fI
  ok : FnOk P w K mg base CX0 1 fI fd ["self", f] (spXI f C)
  bd : Binds K fd ["self", f] []
  bk : ∀ (s : Shared) (me v : Value), K.In s.heap → BindsTo s fd ⟨[me], [(f, v)]⟩ [("self", me), (f, v)]
abbrev Cls (c0 c1 c2 c3 c4 c5 c6 c7 c8 c9 c10 c11 c12 : Addr) : List Addr := [c0, c1, c2, c3, c4, c5, c6, c7, c8, c9, c10, c11, c12]
structure E13 (K : PySem.W.Frag) (mg : Str → Option Value) (C0 c0 c1 c2 c3 c4 c5 c6 c7 c8 c9 c10 c11 c12 : Addr) : Prop where
  g0 : mg "NoBeat" = some (.ref c0)
  g1 : mg "NoForm" = some (.ref c1)
  g2 : mg "NoGates" = some (.ref c2)
  g3 : mg "NoLags" = some (.ref c3)
  g4 : mg "NoPaper" = some (.ref c4)
  g5 : mg "NoRow" = some (.ref c5)
  g6 : mg "NoStreams" = some (.ref c6)
  g7 : mg "NoText" = some (.ref c7)
  g8 : mg "NoWires" = some (.ref c8)
  g9 : mg "NoRing" = some (.ref c9)
  g10 : mg "NotLet" = some (.ref c10)
  g11 : mg "TooEarly" = some (.ref c11)
  g12 : mg "NoLagsThere" = some (.ref c12)
  mI : mg "isinstance" = none
  g0' : mg "LagError" = some (.ref C0)
  mV : mg "ValueError" = none
  x : ∀ C ∈ Cls c0 c1 c2 c3 c4 c5 c6 c7 c8 c9 c10 c11 c12, ExcC K C
  k0 : ∀ C ∈ Cls c0 c1 c2 c3 c4 c5 c6 c7 c8 c9 c10 c11 c12, PySem.W.kitOne K (.ref C) (.ref C0) = some true
  kV : ∀ C ∈ Cls c0 c1 c2 c3 c4 c5 c6 c7 c8 c9 c10 c11 c12, PySem.W.kitOne K (.ref C) (.type "ValueError") = some true
  kk : ∀ (i j : Nat) (C D : Addr), (Cls c0 c1 c2 c3 c4 c5 c6 c7 c8 c9 c10 c11 c12)[i]? = some C → (Cls c0 c1 c2 c3 c4 c5 c6 c7 c8 c9 c10 c11 c12)[j]? = some D → PySem.W.kitOne K (.ref C) (.ref D) = some (decide (i = j))
theorem val_step {H : Hp} {a dx C : Addr} {f : Str} {v : V} (ha : H a = none) (hd : (upd H a (exo a C none)) dx = none) (ne : dx ≠ a) : Same H (upd (upd (upd H a (exo a C none)) dx (exd dx [(f, v)])) a (exo a C (some dx))) ∧
    (upd (upd (upd H a (exo a C none)) dx (exd dx [(f, v)])) a (exo a C (some dx))) a = some (exo a C (some dx)) ∧ (upd (upd (upd H a (exo a C none)) dx (exd dx [(f, v)])) a (exo a C (some dx))) dx = some (exd dx [(f, v)]) := by
  refine ⟨fun b o e => ?_, upd_same, ?_⟩
  · have n1 := ne_of_none e ha
    have n2 : b ≠ dx := ne_of_none (show (upd H a (exo a C none)) b = some o by rw [upd_ne n1]; exact e) hd
    rw [upd_ne n1, upd_ne n2, upd_ne n1]
    exact e
  · rw [upd_ne ne, upd_same]
end Lag

set_option maxRecDepth 100000
set_option maxHeartbeats 4000000
namespace Lag
open PySem PySem.Spec PyProof.Rows L2
abbrev sMade : Stmt := topS 18 -- @_law_made
abbrev sMarks : Stmt := topS 19 -- @_law_marks
abbrev sNamed : Stmt := topS 20 -- @_law_named
def marks (i : Nat) : List Bool := (List.range 13).map fun j => decide (i = j)
def spMade (K : PySem.W.Frag) (CS : List Addr) : Sp := fun vs H Q _ => ∃ (x : Str) (v : V), vs = [.str x, v] ∧ ∀ l (xs : List V) H', Same H H' → H' l = some (.lst xs) → All2 (fun u C => ∃ a, u = .ref a ∧ ExV C a H') xs CS → Q (.ref l) H'
def spMarks (K : PySem.W.Frag) (CS : List Addr) : Sp := fun vs H Q _ => ∃ (a C : Addr) (i : Nat), vs = [.ref a] ∧ CS[i]? = some C ∧ ExV C a H ∧ ∀ l H', Same H H' → H' l = some (.lst ((marks i).map V.bl)) → Q (.ref l) H'
def spNamed : Sp := fun vs H Q _ => ∃ v : V, vs = [v] ∧ ∀ l H', Same H H' → H' l = some (.lst (List.replicate 10 v)) → Q (.ref l) H'
section
variable {P : Program} {w : World} {K : PySem.W.Frag} {mg : Str → Option Value} {base : Heap}
abbrev nMade : List Str := ["_law_word", "_law_thing", "_law_found"]
theorem scMade : FnScope nMade ["_law_word", "_law_thing"] (defScope sMade) := ⟨rfl, rfl, rfl, by decide +kernel, rfl, by decide +kernel, by decide +kernel⟩
theorem ok_made {f : Addr} {fd : FuncData} {C0 c0 c1 c2 c3 c4 c5 c6 c7 c8 c9 c10 c11 c12 i0 i1 i2 i3 i4 : Addr} {d0 d1 d2 d3 d4 : FuncData} (F : Fun K "_law_made" "_law_made" sMade f fd) (B : Bt mg) (P0 : PCl K mg "NoBeat" c0) (P1 : PCl K mg "NoForm" c1) (P2 : PCl K mg "NoGates" c2) (P3 : PCl K mg "NoLags" c3) (P4 : PCl K mg "NoPaper" c4) (P5 : PCl K mg "NoRow" c5) (P6 : PCl K mg "NoStreams" c6) (P7 : PCl K mg "NoText" c7) (I0 : FCl P w K mg base "NoWires" "place" c8 i0 d0) (I1 : FCl P w K mg base "NoRing" "ring" c9 i1 d1) (I2 : FCl P w K mg base "NotLet" "wire" c10 i2 d2) (I3 : FCl P w K mg base "TooEarly" "rows" c11 i3 d3) (I4 : FCl P w K mg base "NoLagsThere" "bar" c12 i4 d4) : FnOk P w K mg base CX0 3 f fd ["_law_word", "_law_thing"] (spMade K (Cls c0 c1 c2 c3 c4 c5 c6 c7 c8 c9 c10 c11 c12)) := by
  refine F.ok scMade (fun vs H Q E h => ?_) (fun cdv A outer s H vs Q E hr h => ?_)
  · obtain ⟨x, v, rfl, _⟩ := h
    rfl
  · obtain ⟨x, v, rfl, q⟩ := h
    have nd := scMade.nd
    refine ⟨_, pss_cons (ps_set (i := 2) nd rfl (.inl rfl) (pe_lst (pa_cons (pe_exc1 PySem.F.excBase_ValueError P0.q P0.g P0.k (by rfl) (pv 0)) (pa_cons (pe_exc1 PySem.F.excBase_ValueError P1.q P1.g P1.k (by rfl) (pv 0)) (pa_cons (pe_exc1 PySem.F.excBase_ValueError P2.q P2.g P2.k (by rfl) (pv 0)) (pa_cons (pe_exc1 PySem.F.excBase_ValueError P3.q P3.g P3.k (by rfl) (pv 0)) (pa_cons (pe_exc1 PySem.F.excBase_ValueError P4.q P4.g P4.k (by rfl) (pv 0)) (pa_cons (pe_exc1 PySem.F.excBase_ValueError P5.q P5.g P5.k (by rfl) (pv 0)) (pa_cons (pe_exc1 PySem.F.excBase_ValueError P6.q P6.g P6.k (by rfl) (pv 0)) pa_nil))))))))) <|
        pss_one (ps_ret (pe_op op_cat (pv 2) (pe_lst (pa_cons (pe_exc1 PySem.F.excBase_ValueError P7.q P7.g P7.k (by rfl) (pv 0)) (pa_cons (pe_valO I0.T.T I0.T.iC I0.T.tI I0.ok (hr.mono (by decide)) I0.bd (by rfl) I0.T.g (pa_cons (pv 1) pa_nil)) (pa_cons (pe_valO I1.T.T I1.T.iC I1.T.tI I1.ok (hr.mono (by decide)) I1.bd (by rfl) I1.T.g (pa_cons (pv 1) pa_nil)) (pa_cons (pe_valO I2.T.T I2.T.iC I2.T.tI I2.ok (hr.mono (by decide)) I2.bd (by rfl) I2.T.g (pa_cons (pv 1) pa_nil)) (pa_cons (pe_valO I3.T.T I3.T.iC I3.T.tI I3.ok (hr.mono (by decide)) I3.bd (by rfl) I3.T.g (pa_cons (pv 1) pa_nil)) (pa_cons (pe_valO I4.T.T I4.T.iC I4.T.tI I4.ok (hr.mono (by decide)) I4.bd (by rfl) I4.T.g (pa_cons (pv 1) pa_nil)) pa_nil))))))))), ?_⟩
    refine ⟨_, rfl, fun a0 ha0 => ?_⟩
    have S1 : Same H (upd H a0 (ExO (.ref c0) a0)) := same_new ha0
    have ea0 : (upd H a0 (ExO (.ref c0) a0)) a0 = some (ExO (.ref c0) a0) := upd_same
    generalize upd H a0 (ExO (.ref c0) a0) = G1 at S1 ea0 
    have T1 := S1
    have o0 : ExV c0 a0 G1 := .inl ea0
    refine ⟨_, rfl, fun a1 ha1 => ?_⟩
    have S2 : Same G1 (upd G1 a1 (ExO (.ref c1) a1)) := same_new ha1
    have ea1 : (upd G1 a1 (ExO (.ref c1) a1)) a1 = some (ExO (.ref c1) a1) := upd_same
    have o0 := o0.same S2
    generalize upd G1 a1 (ExO (.ref c1) a1) = G2 at S2 ea1 o0
    have T2 := T1.trans S2
    have o1 : ExV c1 a1 G2 := .inl ea1
    refine ⟨_, rfl, fun a2 ha2 => ?_⟩
    have S3 : Same G2 (upd G2 a2 (ExO (.ref c2) a2)) := same_new ha2
    have ea2 : (upd G2 a2 (ExO (.ref c2) a2)) a2 = some (ExO (.ref c2) a2) := upd_same
    have o0 := o0.same S3
    have o1 := o1.same S3
    generalize upd G2 a2 (ExO (.ref c2) a2) = G3 at S3 ea2 o0 o1
    have T3 := T2.trans S3
    have o2 : ExV c2 a2 G3 := .inl ea2
    refine ⟨_, rfl, fun a3 ha3 => ?_⟩
    have S4 : Same G3 (upd G3 a3 (ExO (.ref c3) a3)) := same_new ha3
    have ea3 : (upd G3 a3 (ExO (.ref c3) a3)) a3 = some (ExO (.ref c3) a3) := upd_same
    have o0 := o0.same S4
    have o1 := o1.same S4
    have o2 := o2.same S4
    generalize upd G3 a3 (ExO (.ref c3) a3) = G4 at S4 ea3 o0 o1 o2
    have T4 := T3.trans S4
    have o3 : ExV c3 a3 G4 := .inl ea3
    refine ⟨_, rfl, fun a4 ha4 => ?_⟩
    have S5 : Same G4 (upd G4 a4 (ExO (.ref c4) a4)) := same_new ha4
    have ea4 : (upd G4 a4 (ExO (.ref c4) a4)) a4 = some (ExO (.ref c4) a4) := upd_same
    have o0 := o0.same S5
    have o1 := o1.same S5
    have o2 := o2.same S5
    have o3 := o3.same S5
    generalize upd G4 a4 (ExO (.ref c4) a4) = G5 at S5 ea4 o0 o1 o2 o3
    have T5 := T4.trans S5
    have o4 : ExV c4 a4 G5 := .inl ea4
    refine ⟨_, rfl, fun a5 ha5 => ?_⟩
    have S6 : Same G5 (upd G5 a5 (ExO (.ref c5) a5)) := same_new ha5
    have ea5 : (upd G5 a5 (ExO (.ref c5) a5)) a5 = some (ExO (.ref c5) a5) := upd_same
    have o0 := o0.same S6
    have o1 := o1.same S6
    have o2 := o2.same S6
    have o3 := o3.same S6
    have o4 := o4.same S6
    generalize upd G5 a5 (ExO (.ref c5) a5) = G6 at S6 ea5 o0 o1 o2 o3 o4
    have T6 := T5.trans S6
    have o5 : ExV c5 a5 G6 := .inl ea5
    refine ⟨_, rfl, fun a6 ha6 => ?_⟩
    have S7 : Same G6 (upd G6 a6 (ExO (.ref c6) a6)) := same_new ha6
    have ea6 : (upd G6 a6 (ExO (.ref c6) a6)) a6 = some (ExO (.ref c6) a6) := upd_same
    have o0 := o0.same S7
    have o1 := o1.same S7
    have o2 := o2.same S7
    have o3 := o3.same S7
    have o4 := o4.same S7
    have o5 := o5.same S7
    generalize upd G6 a6 (ExO (.ref c6) a6) = G7 at S7 ea6 o0 o1 o2 o3 o4 o5
    have T7 := T6.trans S7
    have o6 : ExV c6 a6 G7 := .inl ea6
    refine ⟨(by show 7 ≤ sizeLine; decide), fun l1 hl1 => ?_⟩
    have S8 : Same G7 (upd G7 l1 (.lst [.ref a0, .ref a1, .ref a2, .ref a3, .ref a4, .ref a5, .ref a6])) := same_new hl1
    have fl1 : (upd G7 l1 (.lst [.ref a0, .ref a1, .ref a2, .ref a3, .ref a4, .ref a5, .ref a6])) l1 = some (.lst [.ref a0, .ref a1, .ref a2, .ref a3, .ref a4, .ref a5, .ref a6]) := upd_same
    have o0 := o0.same S8
    have o1 := o1.same S8
    have o2 := o2.same S8
    have o3 := o3.same S8
    have o4 := o4.same S8
    have o5 := o5.same S8
    have o6 := o6.same S8
    generalize upd G7 l1 (.lst [.ref a0, .ref a1, .ref a2, .ref a3, .ref a4, .ref a5, .ref a6]) = G8 at S8 fl1 o0 o1 o2 o3 o4 o5 o6
    have T8 := T7.trans S8
    refine gn_norm (σ' := [some (.str x), some v, some (.ref l1)]) rfl ?_
    refine ⟨_, rfl, ?_⟩
    refine ⟨_, rfl, fun a7 ha7 => ?_⟩
    have S9 : Same G8 (upd G8 a7 (ExO (.ref c7) a7)) := same_new ha7
    have ea7 : (upd G8 a7 (ExO (.ref c7) a7)) a7 = some (ExO (.ref c7) a7) := upd_same
    have fl1 := S9 _ _ fl1
    have o0 := o0.same S9
    have o1 := o1.same S9
    have o2 := o2.same S9
    have o3 := o3.same S9
    have o4 := o4.same S9
    have o5 := o5.same S9
    have o6 := o6.same S9
    generalize upd G8 a7 (ExO (.ref c7) a7) = G9 at S9 ea7 fl1 o0 o1 o2 o3 o4 o5 o6
    have T9 := T8.trans S9
    have o7 : ExV c7 a7 G9 := .inl ea7
    refine ⟨_, rfl, (by show 1 ≤ 1000; decide), fun a8 ha8 => ⟨a8, v, rfl, upd_same, fun xa8 ka8 ma8 => ⟨rfl, ?_⟩⟩⟩
    obtain ⟨S10, ea8, fa8⟩ := val_step (f := "place") (v := v) ha8 ka8 ma8
    have fl1 := S10 _ _ fl1
    have o0 := o0.same S10
    have o1 := o1.same S10
    have o2 := o2.same S10
    have o3 := o3.same S10
    have o4 := o4.same S10
    have o5 := o5.same S10
    have o6 := o6.same S10
    have o7 := o7.same S10
    generalize upd (upd (upd G9 a8 (exo a8 c8 none)) xa8 (exd xa8 [(("place" : Str), v)])) a8 (exo a8 c8 (some xa8)) = G10 at S10 ea8 fa8 fl1 o0 o1 o2 o3 o4 o5 o6 o7
    have T10 := T9.trans S10
    have o8 : ExV c8 a8 G10 := .inr ⟨xa8, _, ea8, fa8⟩
    refine ⟨_, rfl, (by show 1 ≤ 1000; decide), fun a9 ha9 => ⟨a9, v, rfl, upd_same, fun xa9 ka9 ma9 => ⟨rfl, ?_⟩⟩⟩
    obtain ⟨S11, ea9, fa9⟩ := val_step (f := "ring") (v := v) ha9 ka9 ma9
    have fl1 := S11 _ _ fl1
    have o0 := o0.same S11
    have o1 := o1.same S11
    have o2 := o2.same S11
    have o3 := o3.same S11
    have o4 := o4.same S11
    have o5 := o5.same S11
    have o6 := o6.same S11
    have o7 := o7.same S11
    have o8 := o8.same S11
    generalize upd (upd (upd G10 a9 (exo a9 c9 none)) xa9 (exd xa9 [(("ring" : Str), v)])) a9 (exo a9 c9 (some xa9)) = G11 at S11 ea9 fa9 fl1 o0 o1 o2 o3 o4 o5 o6 o7 o8
    have T11 := T10.trans S11
    have o9 : ExV c9 a9 G11 := .inr ⟨xa9, _, ea9, fa9⟩
    refine ⟨_, rfl, (by show 1 ≤ 1000; decide), fun a10 ha10 => ⟨a10, v, rfl, upd_same, fun xa10 ka10 ma10 => ⟨rfl, ?_⟩⟩⟩
    obtain ⟨S12, ea10, fa10⟩ := val_step (f := "wire") (v := v) ha10 ka10 ma10
    have fl1 := S12 _ _ fl1
    have o0 := o0.same S12
    have o1 := o1.same S12
    have o2 := o2.same S12
    have o3 := o3.same S12
    have o4 := o4.same S12
    have o5 := o5.same S12
    have o6 := o6.same S12
    have o7 := o7.same S12
    have o8 := o8.same S12
    have o9 := o9.same S12
    generalize upd (upd (upd G11 a10 (exo a10 c10 none)) xa10 (exd xa10 [(("wire" : Str), v)])) a10 (exo a10 c10 (some xa10)) = G12 at S12 ea10 fa10 fl1 o0 o1 o2 o3 o4 o5 o6 o7 o8 o9
    have T12 := T11.trans S12
    have o10 : ExV c10 a10 G12 := .inr ⟨xa10, _, ea10, fa10⟩
    refine ⟨_, rfl, (by show 1 ≤ 1000; decide), fun a11 ha11 => ⟨a11, v, rfl, upd_same, fun xa11 ka11 ma11 => ⟨rfl, ?_⟩⟩⟩
    obtain ⟨S13, ea11, fa11⟩ := val_step (f := "rows") (v := v) ha11 ka11 ma11
    have fl1 := S13 _ _ fl1
    have o0 := o0.same S13
    have o1 := o1.same S13
    have o2 := o2.same S13
    have o3 := o3.same S13
    have o4 := o4.same S13
    have o5 := o5.same S13
    have o6 := o6.same S13
    have o7 := o7.same S13
    have o8 := o8.same S13
    have o9 := o9.same S13
    have o10 := o10.same S13
    generalize upd (upd (upd G12 a11 (exo a11 c11 none)) xa11 (exd xa11 [(("rows" : Str), v)])) a11 (exo a11 c11 (some xa11)) = G13 at S13 ea11 fa11 fl1 o0 o1 o2 o3 o4 o5 o6 o7 o8 o9 o10
    have T13 := T12.trans S13
    have o11 : ExV c11 a11 G13 := .inr ⟨xa11, _, ea11, fa11⟩
    refine ⟨_, rfl, (by show 1 ≤ 1000; decide), fun a12 ha12 => ⟨a12, v, rfl, upd_same, fun xa12 ka12 ma12 => ⟨rfl, ?_⟩⟩⟩
    obtain ⟨S14, ea12, fa12⟩ := val_step (f := "bar") (v := v) ha12 ka12 ma12
    have fl1 := S14 _ _ fl1
    have o0 := o0.same S14
    have o1 := o1.same S14
    have o2 := o2.same S14
    have o3 := o3.same S14
    have o4 := o4.same S14
    have o5 := o5.same S14
    have o6 := o6.same S14
    have o7 := o7.same S14
    have o8 := o8.same S14
    have o9 := o9.same S14
    have o10 := o10.same S14
    have o11 := o11.same S14
    generalize upd (upd (upd G13 a12 (exo a12 c12 none)) xa12 (exd xa12 [(("bar" : Str), v)])) a12 (exo a12 c12 (some xa12)) = G14 at S14 ea12 fa12 fl1 o0 o1 o2 o3 o4 o5 o6 o7 o8 o9 o10 o11
    have T14 := T13.trans S14
    have o12 : ExV c12 a12 G14 := .inr ⟨xa12, _, ea12, fa12⟩
    refine ⟨(by show 6 ≤ sizeLine; decide), fun l2 hl2 => ?_⟩
    have S15 : Same G14 (upd G14 l2 (.lst [.ref a7, .ref a8, .ref a9, .ref a10, .ref a11, .ref a12])) := same_new hl2
    have fl2 : (upd G14 l2 (.lst [.ref a7, .ref a8, .ref a9, .ref a10, .ref a11, .ref a12])) l2 = some (.lst [.ref a7, .ref a8, .ref a9, .ref a10, .ref a11, .ref a12]) := upd_same
    have fl1 := S15 _ _ fl1
    have o0 := o0.same S15
    have o1 := o1.same S15
    have o2 := o2.same S15
    have o3 := o3.same S15
    have o4 := o4.same S15
    have o5 := o5.same S15
    have o6 := o6.same S15
    have o7 := o7.same S15
    have o8 := o8.same S15
    have o9 := o9.same S15
    have o10 := o10.same S15
    have o11 := o11.same S15
    have o12 := o12.same S15
    generalize upd G14 l2 (.lst [.ref a7, .ref a8, .ref a9, .ref a10, .ref a11, .ref a12]) = G15 at S15 fl2 fl1 o0 o1 o2 o3 o4 o5 o6 o7 o8 o9 o10 o11 o12
    have T15 := T14.trans S15
    refine ⟨l1, l2, _, _, rfl, rfl, fl1, fl2, (by show 7 + 6 ≤ sizeLine; decide), fun l3 hl3 => ?_⟩
    have S16 : Same G15 (upd G15 l3 (.lst ([.ref a0, .ref a1, .ref a2, .ref a3, .ref a4, .ref a5, .ref a6] ++ [.ref a7, .ref a8, .ref a9, .ref a10, .ref a11, .ref a12]))) := same_new hl3
    have fl3 : (upd G15 l3 (.lst ([.ref a0, .ref a1, .ref a2, .ref a3, .ref a4, .ref a5, .ref a6] ++ [.ref a7, .ref a8, .ref a9, .ref a10, .ref a11, .ref a12]))) l3 = some (.lst ([.ref a0, .ref a1, .ref a2, .ref a3, .ref a4, .ref a5, .ref a6] ++ [.ref a7, .ref a8, .ref a9, .ref a10, .ref a11, .ref a12])) := upd_same
    have fl1 := S16 _ _ fl1
    have fl2 := S16 _ _ fl2
    have o0 := o0.same S16
    have o1 := o1.same S16
    have o2 := o2.same S16
    have o3 := o3.same S16
    have o4 := o4.same S16
    have o5 := o5.same S16
    have o6 := o6.same S16
    have o7 := o7.same S16
    have o8 := o8.same S16
    have o9 := o9.same S16
    have o10 := o10.same S16
    have o11 := o11.same S16
    have o12 := o12.same S16
    generalize upd G15 l3 (.lst ([.ref a0, .ref a1, .ref a2, .ref a3, .ref a4, .ref a5, .ref a6] ++ [.ref a7, .ref a8, .ref a9, .ref a10, .ref a11, .ref a12])) = G16 at S16 fl3 fl1 fl2 o0 o1 o2 o3 o4 o5 o6 o7 o8 o9 o10 o11 o12
    have T16 := T15.trans S16
    exact q l3 _ _ T16 fl3 (All2.cons ⟨a0, rfl, o0⟩ (All2.cons ⟨a1, rfl, o1⟩ (All2.cons ⟨a2, rfl, o2⟩ (All2.cons ⟨a3, rfl, o3⟩ (All2.cons ⟨a4, rfl, o4⟩ (All2.cons ⟨a5, rfl, o5⟩ (All2.cons ⟨a6, rfl, o6⟩ (All2.cons ⟨a7, rfl, o7⟩ (All2.cons ⟨a8, rfl, o8⟩ (All2.cons ⟨a9, rfl, o9⟩ (All2.cons ⟨a10, rfl, o10⟩ (All2.cons ⟨a11, rfl, o11⟩ (All2.cons ⟨a12, rfl, o12⟩ All2.nil)))))))))))))
abbrev nMarks : List Str := ["_law_one", "_law_found"]
theorem scMarks : FnScope nMarks ["_law_one"] (defScope sMarks) := ⟨rfl, rfl, rfl, by decide +kernel, rfl, by decide +kernel, by decide +kernel⟩
theorem ok_marks {f C0 c0 c1 c2 c3 c4 c5 c6 c7 c8 c9 c10 c11 c12 : Addr} {fd : FuncData} (F : Fun K "_law_marks" "_law_marks" sMarks f fd) (B : Bt mg) (R : E13 K mg C0 c0 c1 c2 c3 c4 c5 c6 c7 c8 c9 c10 c11 c12) : FnOk P w K mg base CX0 1 f fd ["_law_one"] (spMarks K (Cls c0 c1 c2 c3 c4 c5 c6 c7 c8 c9 c10 c11 c12)) := by
  refine F.ok scMarks (fun vs H Q E h => ?_) (fun cdv A outer s H vs Q E hr h => ?_)
  · obtain ⟨a, C, i, rfl, _⟩ := h
    rfl
  · obtain ⟨a, C, i, rfl, hi, hv, q⟩ := h
    have nd := scMarks.nd
    have XC := R.x C (List.mem_of_getElem? hi)
    refine ⟨_, pss_cons (ps_set (i := 1) nd rfl (.inl rfl) (pe_lst (pa_cons (pe_callB call_isV (by rfl) R.mI (by decide +kernel) (pa_cons (pv 0) (pa_cons (pe_glob (v := .ref c0) (by rfl) R.g0 rfl) pa_nil))) (pa_cons (pe_callB call_isV (by rfl) R.mI (by decide +kernel) (pa_cons (pv 0) (pa_cons (pe_glob (v := .ref c1) (by rfl) R.g1 rfl) pa_nil))) (pa_cons (pe_callB call_isV (by rfl) R.mI (by decide +kernel) (pa_cons (pv 0) (pa_cons (pe_glob (v := .ref c2) (by rfl) R.g2 rfl) pa_nil))) (pa_cons (pe_callB call_isV (by rfl) R.mI (by decide +kernel) (pa_cons (pv 0) (pa_cons (pe_glob (v := .ref c3) (by rfl) R.g3 rfl) pa_nil))) pa_nil)))))) <|
        pss_cons (ps_set (i := 1) nd rfl (.inl rfl) (pe_op op_cat (pv 1) (pe_lst (pa_cons (pe_callB call_isV (by rfl) R.mI (by decide +kernel) (pa_cons (pv 0) (pa_cons (pe_glob (v := .ref c4) (by rfl) R.g4 rfl) pa_nil))) (pa_cons (pe_callB call_isV (by rfl) R.mI (by decide +kernel) (pa_cons (pv 0) (pa_cons (pe_glob (v := .ref c5) (by rfl) R.g5 rfl) pa_nil))) (pa_cons (pe_callB call_isV (by rfl) R.mI (by decide +kernel) (pa_cons (pv 0) (pa_cons (pe_glob (v := .ref c6) (by rfl) R.g6 rfl) pa_nil))) pa_nil)))))) <|
        pss_cons (ps_set (i := 1) nd rfl (.inl rfl) (pe_op op_cat (pv 1) (pe_lst (pa_cons (pe_callB call_isV (by rfl) R.mI (by decide +kernel) (pa_cons (pv 0) (pa_cons (pe_glob (v := .ref c7) (by rfl) R.g7 rfl) pa_nil))) (pa_cons (pe_callB call_isV (by rfl) R.mI (by decide +kernel) (pa_cons (pv 0) (pa_cons (pe_glob (v := .ref c8) (by rfl) R.g8 rfl) pa_nil))) (pa_cons (pe_callB call_isV (by rfl) R.mI (by decide +kernel) (pa_cons (pv 0) (pa_cons (pe_glob (v := .ref c9) (by rfl) R.g9 rfl) pa_nil))) pa_nil)))))) <|
        pss_one (ps_ret (pe_op op_cat (pv 1) (pe_lst (pa_cons (pe_callB call_isV (by rfl) R.mI (by decide +kernel) (pa_cons (pv 0) (pa_cons (pe_glob (v := .ref c10) (by rfl) R.g10 rfl) pa_nil))) (pa_cons (pe_callB call_isV (by rfl) R.mI (by decide +kernel) (pa_cons (pv 0) (pa_cons (pe_glob (v := .ref c11) (by rfl) R.g11 rfl) pa_nil))) (pa_cons (pe_callB call_isV (by rfl) R.mI (by decide +kernel) (pa_cons (pv 0) (pa_cons (pe_glob (v := .ref c12) (by rfl) R.g12 rfl) pa_nil))) pa_nil)))))), ?_⟩
    refine ⟨_, rfl, a, C, .ref c0, .ref c0, decide (i = 0), rfl, XC, hv, (fun u hu => hu), R.kk i 0 C c0 hi rfl, _, rfl, a, C, .ref c1, .ref c1, decide (i = 1), rfl, XC, hv, (fun u hu => hu), R.kk i 1 C c1 hi rfl, _, rfl, a, C, .ref c2, .ref c2, decide (i = 2), rfl, XC, hv, (fun u hu => hu), R.kk i 2 C c2 hi rfl, _, rfl, a, C, .ref c3, .ref c3, decide (i = 3), rfl, XC, hv, (fun u hu => hu), R.kk i 3 C c3 hi rfl, (by show 4 ≤ sizeLine; decide), fun l0 hl0 => ?_⟩
    have S1 : Same H (upd H l0 (.lst [.bl (decide (i = 0)), .bl (decide (i = 1)), .bl (decide (i = 2)), .bl (decide (i = 3))])) := same_new hl0
    have fl0 : (upd H l0 (.lst [.bl (decide (i = 0)), .bl (decide (i = 1)), .bl (decide (i = 2)), .bl (decide (i = 3))])) l0 = some (.lst [.bl (decide (i = 0)), .bl (decide (i = 1)), .bl (decide (i = 2)), .bl (decide (i = 3))]) := upd_same
    have hv := hv.same S1
    generalize upd H l0 (.lst [.bl (decide (i = 0)), .bl (decide (i = 1)), .bl (decide (i = 2)), .bl (decide (i = 3))]) = G1 at S1 fl0 hv
    have T1 := S1
    refine gn_norm (σ' := [some (.ref a), some (.ref l0)]) rfl ?_
    refine ⟨_, rfl, _, rfl, a, C, .ref c4, .ref c4, decide (i = 4), rfl, XC, hv, (fun u hu => hu), R.kk i 4 C c4 hi rfl, _, rfl, a, C, .ref c5, .ref c5, decide (i = 5), rfl, XC, hv, (fun u hu => hu), R.kk i 5 C c5 hi rfl, _, rfl, a, C, .ref c6, .ref c6, decide (i = 6), rfl, XC, hv, (fun u hu => hu), R.kk i 6 C c6 hi rfl, (by show 3 ≤ sizeLine; decide), fun l1 hl1 => ?_⟩
    have S2 : Same G1 (upd G1 l1 (.lst [.bl (decide (i = 4)), .bl (decide (i = 5)), .bl (decide (i = 6))])) := same_new hl1
    have fl1 : (upd G1 l1 (.lst [.bl (decide (i = 4)), .bl (decide (i = 5)), .bl (decide (i = 6))])) l1 = some (.lst [.bl (decide (i = 4)), .bl (decide (i = 5)), .bl (decide (i = 6))]) := upd_same
    have fl0 := S2 _ _ fl0
    have hv := hv.same S2
    generalize upd G1 l1 (.lst [.bl (decide (i = 4)), .bl (decide (i = 5)), .bl (decide (i = 6))]) = G2 at S2 fl1 fl0 hv
    have T2 := T1.trans S2
    refine ⟨l0, l1, _, _, rfl, rfl, fl0, fl1, (by show 4 + 3 ≤ sizeLine; decide), fun m1 hm1 => ?_⟩
    have S3 : Same G2 (upd G2 m1 (.lst ([.bl (decide (i = 0)), .bl (decide (i = 1)), .bl (decide (i = 2)), .bl (decide (i = 3))] ++ [.bl (decide (i = 4)), .bl (decide (i = 5)), .bl (decide (i = 6))]))) := same_new hm1
    have fm1 : (upd G2 m1 (.lst ([.bl (decide (i = 0)), .bl (decide (i = 1)), .bl (decide (i = 2)), .bl (decide (i = 3))] ++ [.bl (decide (i = 4)), .bl (decide (i = 5)), .bl (decide (i = 6))]))) m1 = some (.lst ([.bl (decide (i = 0)), .bl (decide (i = 1)), .bl (decide (i = 2)), .bl (decide (i = 3))] ++ [.bl (decide (i = 4)), .bl (decide (i = 5)), .bl (decide (i = 6))])) := upd_same
    have fl0 := S3 _ _ fl0
    have fl1 := S3 _ _ fl1
    have hv := hv.same S3
    generalize upd G2 m1 (.lst ([.bl (decide (i = 0)), .bl (decide (i = 1)), .bl (decide (i = 2)), .bl (decide (i = 3))] ++ [.bl (decide (i = 4)), .bl (decide (i = 5)), .bl (decide (i = 6))])) = G3 at S3 fm1 fl0 fl1 hv
    have T3 := T2.trans S3
    refine gn_norm (σ' := [some (.ref a), some (.ref m1)]) rfl ?_
    refine ⟨_, rfl, _, rfl, a, C, .ref c7, .ref c7, decide (i = 7), rfl, XC, hv, (fun u hu => hu), R.kk i 7 C c7 hi rfl, _, rfl, a, C, .ref c8, .ref c8, decide (i = 8), rfl, XC, hv, (fun u hu => hu), R.kk i 8 C c8 hi rfl, _, rfl, a, C, .ref c9, .ref c9, decide (i = 9), rfl, XC, hv, (fun u hu => hu), R.kk i 9 C c9 hi rfl, (by show 3 ≤ sizeLine; decide), fun l2 hl2 => ?_⟩
    have S4 : Same G3 (upd G3 l2 (.lst [.bl (decide (i = 7)), .bl (decide (i = 8)), .bl (decide (i = 9))])) := same_new hl2
    have fl2 : (upd G3 l2 (.lst [.bl (decide (i = 7)), .bl (decide (i = 8)), .bl (decide (i = 9))])) l2 = some (.lst [.bl (decide (i = 7)), .bl (decide (i = 8)), .bl (decide (i = 9))]) := upd_same
    have fl0 := S4 _ _ fl0
    have fl1 := S4 _ _ fl1
    have fm1 := S4 _ _ fm1
    have hv := hv.same S4
    generalize upd G3 l2 (.lst [.bl (decide (i = 7)), .bl (decide (i = 8)), .bl (decide (i = 9))]) = G4 at S4 fl2 fl0 fl1 fm1 hv
    have T4 := T3.trans S4
    refine ⟨m1, l2, _, _, rfl, rfl, fm1, fl2, (by show 7 + 3 ≤ sizeLine; decide), fun m2 hm2 => ?_⟩
    have S5 : Same G4 (upd G4 m2 (.lst (([.bl (decide (i = 0)), .bl (decide (i = 1)), .bl (decide (i = 2)), .bl (decide (i = 3))] ++ [.bl (decide (i = 4)), .bl (decide (i = 5)), .bl (decide (i = 6))]) ++ [.bl (decide (i = 7)), .bl (decide (i = 8)), .bl (decide (i = 9))]))) := same_new hm2
    have fm2 : (upd G4 m2 (.lst (([.bl (decide (i = 0)), .bl (decide (i = 1)), .bl (decide (i = 2)), .bl (decide (i = 3))] ++ [.bl (decide (i = 4)), .bl (decide (i = 5)), .bl (decide (i = 6))]) ++ [.bl (decide (i = 7)), .bl (decide (i = 8)), .bl (decide (i = 9))]))) m2 = some (.lst (([.bl (decide (i = 0)), .bl (decide (i = 1)), .bl (decide (i = 2)), .bl (decide (i = 3))] ++ [.bl (decide (i = 4)), .bl (decide (i = 5)), .bl (decide (i = 6))]) ++ [.bl (decide (i = 7)), .bl (decide (i = 8)), .bl (decide (i = 9))])) := upd_same
    have fl0 := S5 _ _ fl0
    have fl1 := S5 _ _ fl1
    have fm1 := S5 _ _ fm1
    have fl2 := S5 _ _ fl2
    have hv := hv.same S5
    generalize upd G4 m2 (.lst (([.bl (decide (i = 0)), .bl (decide (i = 1)), .bl (decide (i = 2)), .bl (decide (i = 3))] ++ [.bl (decide (i = 4)), .bl (decide (i = 5)), .bl (decide (i = 6))]) ++ [.bl (decide (i = 7)), .bl (decide (i = 8)), .bl (decide (i = 9))])) = G5 at S5 fm2 fl0 fl1 fm1 fl2 hv
    have T5 := T4.trans S5
    refine gn_norm (σ' := [some (.ref a), some (.ref m2)]) rfl ?_
    refine ⟨_, rfl, _, rfl, a, C, .ref c10, .ref c10, decide (i = 10), rfl, XC, hv, (fun u hu => hu), R.kk i 10 C c10 hi rfl, _, rfl, a, C, .ref c11, .ref c11, decide (i = 11), rfl, XC, hv, (fun u hu => hu), R.kk i 11 C c11 hi rfl, _, rfl, a, C, .ref c12, .ref c12, decide (i = 12), rfl, XC, hv, (fun u hu => hu), R.kk i 12 C c12 hi rfl, (by show 3 ≤ sizeLine; decide), fun l3 hl3 => ?_⟩
    have S6 : Same G5 (upd G5 l3 (.lst [.bl (decide (i = 10)), .bl (decide (i = 11)), .bl (decide (i = 12))])) := same_new hl3
    have fl3 : (upd G5 l3 (.lst [.bl (decide (i = 10)), .bl (decide (i = 11)), .bl (decide (i = 12))])) l3 = some (.lst [.bl (decide (i = 10)), .bl (decide (i = 11)), .bl (decide (i = 12))]) := upd_same
    have fl0 := S6 _ _ fl0
    have fl1 := S6 _ _ fl1
    have fm1 := S6 _ _ fm1
    have fl2 := S6 _ _ fl2
    have fm2 := S6 _ _ fm2
    have hv := hv.same S6
    generalize upd G5 l3 (.lst [.bl (decide (i = 10)), .bl (decide (i = 11)), .bl (decide (i = 12))]) = G6 at S6 fl3 fl0 fl1 fm1 fl2 fm2 hv
    have T6 := T5.trans S6
    refine ⟨m2, l3, _, _, rfl, rfl, fm2, fl3, (by show 10 + 3 ≤ sizeLine; decide), fun m3 hm3 => ?_⟩
    have S7 : Same G6 (upd G6 m3 (.lst ((([.bl (decide (i = 0)), .bl (decide (i = 1)), .bl (decide (i = 2)), .bl (decide (i = 3))] ++ [.bl (decide (i = 4)), .bl (decide (i = 5)), .bl (decide (i = 6))]) ++ [.bl (decide (i = 7)), .bl (decide (i = 8)), .bl (decide (i = 9))]) ++ [.bl (decide (i = 10)), .bl (decide (i = 11)), .bl (decide (i = 12))]))) := same_new hm3
    have fm3 : (upd G6 m3 (.lst ((([.bl (decide (i = 0)), .bl (decide (i = 1)), .bl (decide (i = 2)), .bl (decide (i = 3))] ++ [.bl (decide (i = 4)), .bl (decide (i = 5)), .bl (decide (i = 6))]) ++ [.bl (decide (i = 7)), .bl (decide (i = 8)), .bl (decide (i = 9))]) ++ [.bl (decide (i = 10)), .bl (decide (i = 11)), .bl (decide (i = 12))]))) m3 = some (.lst ((([.bl (decide (i = 0)), .bl (decide (i = 1)), .bl (decide (i = 2)), .bl (decide (i = 3))] ++ [.bl (decide (i = 4)), .bl (decide (i = 5)), .bl (decide (i = 6))]) ++ [.bl (decide (i = 7)), .bl (decide (i = 8)), .bl (decide (i = 9))]) ++ [.bl (decide (i = 10)), .bl (decide (i = 11)), .bl (decide (i = 12))])) := upd_same
    have fl0 := S7 _ _ fl0
    have fl1 := S7 _ _ fl1
    have fm1 := S7 _ _ fm1
    have fl2 := S7 _ _ fl2
    have fm2 := S7 _ _ fm2
    have fl3 := S7 _ _ fl3
    have hv := hv.same S7
    generalize upd G6 m3 (.lst ((([.bl (decide (i = 0)), .bl (decide (i = 1)), .bl (decide (i = 2)), .bl (decide (i = 3))] ++ [.bl (decide (i = 4)), .bl (decide (i = 5)), .bl (decide (i = 6))]) ++ [.bl (decide (i = 7)), .bl (decide (i = 8)), .bl (decide (i = 9))]) ++ [.bl (decide (i = 10)), .bl (decide (i = 11)), .bl (decide (i = 12))])) = G7 at S7 fm3 fl0 fl1 fm1 fl2 fm2 fl3 hv
    have T7 := T6.trans S7
    exact q m3 _ T7 fm3
abbrev nNamed : List Str := ["_law_thing", "_law_found"]
theorem scNamed : FnScope nNamed ["_law_thing"] (defScope sNamed) := ⟨rfl, rfl, rfl, by decide +kernel, rfl, by decide +kernel, by decide +kernel⟩
theorem ok_named {f : Addr} {fd : FuncData} {C0 c0 c1 c2 c3 c4 c5 c6 c7 c8 c9 c10 c11 c12 i0 i1 i2 i3 i4 : Addr} {d0 d1 d2 d3 d4 : FuncData} (F : Fun K "_law_named" "_law_named" sNamed f fd) (B : Bt mg) (I0 : FCl P w K mg base "NoWires" "place" c8 i0 d0) (I1 : FCl P w K mg base "NoRing" "ring" c9 i1 d1) (I2 : FCl P w K mg base "NotLet" "wire" c10 i2 d2) (I3 : FCl P w K mg base "TooEarly" "rows" c11 i3 d3) (I4 : FCl P w K mg base "NoLagsThere" "bar" c12 i4 d4) : FnOk P w K mg base CX0 3 f fd ["_law_thing"] spNamed := by
  refine F.ok scNamed (fun vs H Q E h => ?_) (fun cdv A outer s H vs Q E hr h => ?_)
  · obtain ⟨v, rfl, _⟩ := h
    rfl
  · obtain ⟨v, rfl, q⟩ := h
    have nd := scNamed.nd
    refine ⟨_, pss_cons (ps_set (i := 1) nd rfl (.inl rfl) (pe_lst (pa_cons (pe_xfV (pe_valK I0.T.T I0.T.iC I0.T.tI I0.ok (hr.mono (by decide)) I0.bk (by rfl) I0.T.g (pk_cons (pv 0) pk_nil))) (pa_cons (pe_xfV (pe_valK I1.T.T I1.T.iC I1.T.tI I1.ok (hr.mono (by decide)) I1.bk (by rfl) I1.T.g (pk_cons (pv 0) pk_nil))) (pa_cons (pe_xfV (pe_valK I2.T.T I2.T.iC I2.T.tI I2.ok (hr.mono (by decide)) I2.bk (by rfl) I2.T.g (pk_cons (pv 0) pk_nil))) pa_nil))))) <|
        pss_cons (ps_set (i := 1) nd rfl (.inl rfl) (pe_op op_cat (pv 1) (pe_lst (pa_cons (pe_xfV (pe_valK I3.T.T I3.T.iC I3.T.tI I3.ok (hr.mono (by decide)) I3.bk (by rfl) I3.T.g (pk_cons (pv 0) pk_nil))) (pa_cons (pe_xfV (pe_valK I4.T.T I4.T.iC I4.T.tI I4.ok (hr.mono (by decide)) I4.bk (by rfl) I4.T.g (pk_cons (pv 0) pk_nil))) pa_nil))))) <|
        pss_cons (ps_set (i := 1) nd rfl (.inl rfl) (pe_op op_cat (pv 1) (pe_lst (pa_cons (pe_xfV (pe_valO I0.T.T I0.T.iC I0.T.tI I0.ok (hr.mono (by decide)) I0.bd (by rfl) I0.T.g (pa_cons (pv 0) pa_nil))) (pa_cons (pe_xfV (pe_valO I1.T.T I1.T.iC I1.T.tI I1.ok (hr.mono (by decide)) I1.bd (by rfl) I1.T.g (pa_cons (pv 0) pa_nil))) (pa_cons (pe_xfV (pe_valO I2.T.T I2.T.iC I2.T.tI I2.ok (hr.mono (by decide)) I2.bd (by rfl) I2.T.g (pa_cons (pv 0) pa_nil))) pa_nil)))))) <|
        pss_one (ps_ret (pe_op op_cat (pv 1) (pe_lst (pa_cons (pe_xfV (pe_valO I3.T.T I3.T.iC I3.T.tI I3.ok (hr.mono (by decide)) I3.bd (by rfl) I3.T.g (pa_cons (pv 0) pa_nil))) (pa_cons (pe_xfV (pe_valO I4.T.T I4.T.iC I4.T.tI I4.ok (hr.mono (by decide)) I4.bd (by rfl) I4.T.g (pa_cons (pv 0) pa_nil))) pa_nil))))), ?_⟩
    refine ⟨_, rfl, rfl, fun b0 hb0 => ⟨b0, v, rfl, upd_same, fun xb0 kb0 mb0 => ⟨rfl, ?_⟩⟩⟩
    obtain ⟨S1, eb0, fb0⟩ := val_step (f := "place") (v := v) hb0 kb0 mb0
    generalize upd (upd (upd H b0 (exo b0 c8 none)) xb0 (exd xb0 [(("place" : Str), v)])) b0 (exo b0 c8 (some xb0)) = G1 at S1 eb0 fb0 
    have T1 := S1
    refine ⟨b0, c8, xb0, _, v, rfl, I0.T.xf, I0.T.no, eb0, fb0, rfl, _, rfl, rfl, fun b1 hb1 => ⟨b1, v, rfl, upd_same, fun xb1 kb1 mb1 => ⟨rfl, ?_⟩⟩⟩
    obtain ⟨S2, eb1, fb1⟩ := val_step (f := "ring") (v := v) hb1 kb1 mb1
    generalize upd (upd (upd G1 b1 (exo b1 c9 none)) xb1 (exd xb1 [(("ring" : Str), v)])) b1 (exo b1 c9 (some xb1)) = G2 at S2 eb1 fb1 
    have T2 := T1.trans S2
    refine ⟨b1, c9, xb1, _, v, rfl, I1.T.xf, I1.T.no, eb1, fb1, rfl, _, rfl, rfl, fun b2 hb2 => ⟨b2, v, rfl, upd_same, fun xb2 kb2 mb2 => ⟨rfl, ?_⟩⟩⟩
    obtain ⟨S3, eb2, fb2⟩ := val_step (f := "wire") (v := v) hb2 kb2 mb2
    generalize upd (upd (upd G2 b2 (exo b2 c10 none)) xb2 (exd xb2 [(("wire" : Str), v)])) b2 (exo b2 c10 (some xb2)) = G3 at S3 eb2 fb2 
    have T3 := T2.trans S3
    refine ⟨b2, c10, xb2, _, v, rfl, I2.T.xf, I2.T.no, eb2, fb2, rfl, (by show 3 ≤ sizeLine; decide), fun l0 hl0 => ?_⟩
    have S4 : Same G3 (upd G3 l0 (.lst [v, v, v])) := same_new hl0
    have fl0 : (upd G3 l0 (.lst [v, v, v])) l0 = some (.lst [v, v, v]) := upd_same
    generalize upd G3 l0 (.lst [v, v, v]) = G4 at S4 fl0 
    have T4 := T3.trans S4
    refine gn_norm (σ' := [some v, some (.ref l0)]) rfl ?_
    refine ⟨_, rfl, _, rfl, rfl, fun b3 hb3 => ⟨b3, v, rfl, upd_same, fun xb3 kb3 mb3 => ⟨rfl, ?_⟩⟩⟩
    obtain ⟨S5, eb3, fb3⟩ := val_step (f := "rows") (v := v) hb3 kb3 mb3
    have fl0 := S5 _ _ fl0
    generalize upd (upd (upd G4 b3 (exo b3 c11 none)) xb3 (exd xb3 [(("rows" : Str), v)])) b3 (exo b3 c11 (some xb3)) = G5 at S5 eb3 fb3 fl0
    have T5 := T4.trans S5
    refine ⟨b3, c11, xb3, _, v, rfl, I3.T.xf, I3.T.no, eb3, fb3, rfl, _, rfl, rfl, fun b4 hb4 => ⟨b4, v, rfl, upd_same, fun xb4 kb4 mb4 => ⟨rfl, ?_⟩⟩⟩
    obtain ⟨S6, eb4, fb4⟩ := val_step (f := "bar") (v := v) hb4 kb4 mb4
    have fl0 := S6 _ _ fl0
    generalize upd (upd (upd G5 b4 (exo b4 c12 none)) xb4 (exd xb4 [(("bar" : Str), v)])) b4 (exo b4 c12 (some xb4)) = G6 at S6 eb4 fb4 fl0
    have T6 := T5.trans S6
    refine ⟨b4, c12, xb4, _, v, rfl, I4.T.xf, I4.T.no, eb4, fb4, rfl, (by show 2 ≤ sizeLine; decide), fun l1 hl1 => ?_⟩
    have S7 : Same G6 (upd G6 l1 (.lst [v, v])) := same_new hl1
    have fl1 : (upd G6 l1 (.lst [v, v])) l1 = some (.lst [v, v]) := upd_same
    have fl0 := S7 _ _ fl0
    generalize upd G6 l1 (.lst [v, v]) = G7 at S7 fl1 fl0
    have T7 := T6.trans S7
    refine ⟨l0, l1, _, _, rfl, rfl, fl0, fl1, (by show 3 + 2 ≤ sizeLine; decide), fun m1 hm1 => ?_⟩
    have S8 : Same G7 (upd G7 m1 (.lst ([v, v, v] ++ [v, v]))) := same_new hm1
    have fm1 : (upd G7 m1 (.lst ([v, v, v] ++ [v, v]))) m1 = some (.lst ([v, v, v] ++ [v, v])) := upd_same
    have fl0 := S8 _ _ fl0
    have fl1 := S8 _ _ fl1
    generalize upd G7 m1 (.lst ([v, v, v] ++ [v, v])) = G8 at S8 fm1 fl0 fl1
    have T8 := T7.trans S8
    refine gn_norm (σ' := [some v, some (.ref m1)]) rfl ?_
    refine ⟨_, rfl, _, rfl, (by show 1 ≤ 1000; decide), fun b5 hb5 => ⟨b5, v, rfl, upd_same, fun xb5 kb5 mb5 => ⟨rfl, ?_⟩⟩⟩
    obtain ⟨S9, eb5, fb5⟩ := val_step (f := "place") (v := v) hb5 kb5 mb5
    have fl0 := S9 _ _ fl0
    have fl1 := S9 _ _ fl1
    have fm1 := S9 _ _ fm1
    generalize upd (upd (upd G8 b5 (exo b5 c8 none)) xb5 (exd xb5 [(("place" : Str), v)])) b5 (exo b5 c8 (some xb5)) = G9 at S9 eb5 fb5 fl0 fl1 fm1
    have T9 := T8.trans S9
    refine ⟨b5, c8, xb5, _, v, rfl, I0.T.xf, I0.T.no, eb5, fb5, rfl, _, rfl, (by show 1 ≤ 1000; decide), fun b6 hb6 => ⟨b6, v, rfl, upd_same, fun xb6 kb6 mb6 => ⟨rfl, ?_⟩⟩⟩
    obtain ⟨S10, eb6, fb6⟩ := val_step (f := "ring") (v := v) hb6 kb6 mb6
    have fl0 := S10 _ _ fl0
    have fl1 := S10 _ _ fl1
    have fm1 := S10 _ _ fm1
    generalize upd (upd (upd G9 b6 (exo b6 c9 none)) xb6 (exd xb6 [(("ring" : Str), v)])) b6 (exo b6 c9 (some xb6)) = G10 at S10 eb6 fb6 fl0 fl1 fm1
    have T10 := T9.trans S10
    refine ⟨b6, c9, xb6, _, v, rfl, I1.T.xf, I1.T.no, eb6, fb6, rfl, _, rfl, (by show 1 ≤ 1000; decide), fun b7 hb7 => ⟨b7, v, rfl, upd_same, fun xb7 kb7 mb7 => ⟨rfl, ?_⟩⟩⟩
    obtain ⟨S11, eb7, fb7⟩ := val_step (f := "wire") (v := v) hb7 kb7 mb7
    have fl0 := S11 _ _ fl0
    have fl1 := S11 _ _ fl1
    have fm1 := S11 _ _ fm1
    generalize upd (upd (upd G10 b7 (exo b7 c10 none)) xb7 (exd xb7 [(("wire" : Str), v)])) b7 (exo b7 c10 (some xb7)) = G11 at S11 eb7 fb7 fl0 fl1 fm1
    have T11 := T10.trans S11
    refine ⟨b7, c10, xb7, _, v, rfl, I2.T.xf, I2.T.no, eb7, fb7, rfl, (by show 3 ≤ sizeLine; decide), fun l2 hl2 => ?_⟩
    have S12 : Same G11 (upd G11 l2 (.lst [v, v, v])) := same_new hl2
    have fl2 : (upd G11 l2 (.lst [v, v, v])) l2 = some (.lst [v, v, v]) := upd_same
    have fl0 := S12 _ _ fl0
    have fl1 := S12 _ _ fl1
    have fm1 := S12 _ _ fm1
    generalize upd G11 l2 (.lst [v, v, v]) = G12 at S12 fl2 fl0 fl1 fm1
    have T12 := T11.trans S12
    refine ⟨m1, l2, _, _, rfl, rfl, fm1, fl2, (by show 5 + 3 ≤ sizeLine; decide), fun m2 hm2 => ?_⟩
    have S13 : Same G12 (upd G12 m2 (.lst (([v, v, v] ++ [v, v]) ++ [v, v, v]))) := same_new hm2
    have fm2 : (upd G12 m2 (.lst (([v, v, v] ++ [v, v]) ++ [v, v, v]))) m2 = some (.lst (([v, v, v] ++ [v, v]) ++ [v, v, v])) := upd_same
    have fl0 := S13 _ _ fl0
    have fl1 := S13 _ _ fl1
    have fm1 := S13 _ _ fm1
    have fl2 := S13 _ _ fl2
    generalize upd G12 m2 (.lst (([v, v, v] ++ [v, v]) ++ [v, v, v])) = G13 at S13 fm2 fl0 fl1 fm1 fl2
    have T13 := T12.trans S13
    refine gn_norm (σ' := [some v, some (.ref m2)]) rfl ?_
    refine ⟨_, rfl, _, rfl, (by show 1 ≤ 1000; decide), fun b8 hb8 => ⟨b8, v, rfl, upd_same, fun xb8 kb8 mb8 => ⟨rfl, ?_⟩⟩⟩
    obtain ⟨S14, eb8, fb8⟩ := val_step (f := "rows") (v := v) hb8 kb8 mb8
    have fl0 := S14 _ _ fl0
    have fl1 := S14 _ _ fl1
    have fm1 := S14 _ _ fm1
    have fl2 := S14 _ _ fl2
    have fm2 := S14 _ _ fm2
    generalize upd (upd (upd G13 b8 (exo b8 c11 none)) xb8 (exd xb8 [(("rows" : Str), v)])) b8 (exo b8 c11 (some xb8)) = G14 at S14 eb8 fb8 fl0 fl1 fm1 fl2 fm2
    have T14 := T13.trans S14
    refine ⟨b8, c11, xb8, _, v, rfl, I3.T.xf, I3.T.no, eb8, fb8, rfl, _, rfl, (by show 1 ≤ 1000; decide), fun b9 hb9 => ⟨b9, v, rfl, upd_same, fun xb9 kb9 mb9 => ⟨rfl, ?_⟩⟩⟩
    obtain ⟨S15, eb9, fb9⟩ := val_step (f := "bar") (v := v) hb9 kb9 mb9
    have fl0 := S15 _ _ fl0
    have fl1 := S15 _ _ fl1
    have fm1 := S15 _ _ fm1
    have fl2 := S15 _ _ fl2
    have fm2 := S15 _ _ fm2
    generalize upd (upd (upd G14 b9 (exo b9 c12 none)) xb9 (exd xb9 [(("bar" : Str), v)])) b9 (exo b9 c12 (some xb9)) = G15 at S15 eb9 fb9 fl0 fl1 fm1 fl2 fm2
    have T15 := T14.trans S15
    refine ⟨b9, c12, xb9, _, v, rfl, I4.T.xf, I4.T.no, eb9, fb9, rfl, (by show 2 ≤ sizeLine; decide), fun l3 hl3 => ?_⟩
    have S16 : Same G15 (upd G15 l3 (.lst [v, v])) := same_new hl3
    have fl3 : (upd G15 l3 (.lst [v, v])) l3 = some (.lst [v, v]) := upd_same
    have fl0 := S16 _ _ fl0
    have fl1 := S16 _ _ fl1
    have fm1 := S16 _ _ fm1
    have fl2 := S16 _ _ fl2
    have fm2 := S16 _ _ fm2
    generalize upd G15 l3 (.lst [v, v]) = G16 at S16 fl3 fl0 fl1 fm1 fl2 fm2
    have T16 := T15.trans S16
    refine ⟨m2, l3, _, _, rfl, rfl, fm2, fl3, (by show 8 + 2 ≤ sizeLine; decide), fun m3 hm3 => ?_⟩
    have S17 : Same G16 (upd G16 m3 (.lst ((([v, v, v] ++ [v, v]) ++ [v, v, v]) ++ [v, v]))) := same_new hm3
    have fm3 : (upd G16 m3 (.lst ((([v, v, v] ++ [v, v]) ++ [v, v, v]) ++ [v, v]))) m3 = some (.lst ((([v, v, v] ++ [v, v]) ++ [v, v, v]) ++ [v, v])) := upd_same
    have fl0 := S17 _ _ fl0
    have fl1 := S17 _ _ fl1
    have fm1 := S17 _ _ fm1
    have fl2 := S17 _ _ fl2
    have fm2 := S17 _ _ fm2
    have fl3 := S17 _ _ fl3
    generalize upd G16 m3 (.lst ((([v, v, v] ++ [v, v]) ++ [v, v, v]) ++ [v, v])) = G17 at S17 fm3 fl0 fl1 fm1 fl2 fm2 fl3
    have T17 := T16.trans S17
    exact q m3 _ T17 fm3
end
end Lag

set_option maxRecDepth 100000
set_option maxHeartbeats 4000000
namespace Lag
open PySem PySem.Spec PyProof.Rows L2
abbrev sLaw : Stmt := topS 21 -- @law
theorem lay_all {ds : List PyData} : (∀ d ∈ ds, PyData.canLay0 d = true) → PyData.canLayAll0 ds = true := by
  induction ds with
  | nil => intro _; rfl
  | cons d ds ih =>
    intro h
    show (PyData.canLay0 d && PyData.canLayAll0 ds) = true
    rw [h d (List.mem_cons_self ..), ih fun x hx => h x (List.mem_cons_of_mem _ hx)]
    rfl
theorem depth_all {ds : List PyData} {k : Nat} : (∀ d ∈ ds, PyData.depth d ≤ k) → PyData.depthAll ds ≤ k := by
  induction ds with
  | nil => intro _; exact Nat.zero_le _
  | cons d ds ih =>
    intro h
    show max (PyData.depth d) (PyData.depthAll ds) ≤ k
    have h1 := h d (List.mem_cons_self ..)
    have h2 := ih fun x hx => h x (List.mem_cons_of_mem _ hx)
    omega
/-- such data may be compared, to the depth k -/
def Sh (k : Nat) (d : PyData) : Prop := PyData.canLay0 d = true ∧ PyData.depth d ≤ k
theorem Sh.ok {k : Nat} {d : PyData} (h : Sh k d) (hk : k ≤ 64) : SeqAt.shaped d = true := by
  show (PyData.canLay0 d && decide (PyData.depth d ≤ 64)) = true
  rw [h.1, decide_eq_true (Nat.le_trans h.2 hk)]
  rfl
theorem sh_list {k : Nat} {ds : List PyData} (h : ∀ d ∈ ds, Sh k d) : Sh (k + 1) (.list ds) := ⟨lay_all fun d hd => (h d hd).1, Nat.succ_le_succ (depth_all fun d hd => (h d hd).2)⟩
def ThAt (K : PySem.W.Frag) (H : Hp) (v : V) : Prop := ∃ d, (∀ H', Same H H' → Dp K H' v d) ∧ Sh 5 d ∧ PyData.eqv d d = true
theorem th_int {K : PySem.W.Frag} {H : Hp} (z : Int) : ThAt K H (.int z) := ⟨.int z, fun _ _ => .int z, ⟨rfl, Nat.zero_le _⟩, (beq_self_eq_true z : (z == z) = true)⟩
theorem dp_rep {K : PySem.W.Frag} {H : Hp} {v : V} {d : PyData} (h : Dp K H v d) : ∀ n, DpAll K H (List.replicate n v) (List.replicate n d)
  | 0 => .nil
  | n + 1 => .cons h (dp_rep h n)
theorem sh_rep {k n : Nat} {d : PyData} (h : Sh k d) : Sh (k + 1) (.list (List.replicate n d)) := sh_list fun x hx => by
  rw [List.eq_of_mem_replicate hx]
  exact h
theorem eqv_rep {d : PyData} (h : PyData.eqv d d = true) : ∀ n, PyData.eqv (.list (List.replicate n d)) (.list (List.replicate n d)) = true
  | 0 => rfl
  | n + 1 => by
    show (PyData.eqv d d && PyData.eqv (.list (List.replicate n d)) (.list (List.replicate n d))) = true
    rw [h, eqv_rep h n]
    rfl
theorem marks_one : ∀ j < 13, (!decide (V.int (countIn (.bool true) ((marks j).map PyData.bool)) = V.int 1)) = false := by decide +kernel
theorem marks_atB : ∀ j < 13, (marks j)[j]? = some true := by decide +kernel
theorem marks_at (j : Nat) (h : j < 13) : ((marks j).map V.bl)[j]? = some (.bl true) := by
  rw [List.getElem?_map, marks_atB j h]
  rfl
def spLaw (K : PySem.W.Frag) : Sp := fun vs H Q _ => ∃ (a : Addr) (ns : List Int), vs = [.ref a] ∧ SqL K H a (ns.map V.int) ∧ ns.length ≤ 63 ∧ ∀ H', Q (.bl true) H'
section
variable {P : Program} {w : World} {K : PySem.W.Frag} {mg : Str → Option Value} {base : Heap}
abbrev nLaw : List Str := ["_law_script", "_law_k", "_law_state", "_law_thing", "_law_word", "_law_number", "_law_one", "_law_marks_here"]
theorem scLaw : FnScope nLaw ["_law_script"] (defScope sLaw) := ⟨rfl, rfl, rfl, by decide +kernel, rfl, by decide +kernel, by decide +kernel⟩
theorem ok_law {f fC fD fMa fMk fNm C0 c0 c1 c2 c3 c4 c5 c6 c7 c8 c9 c10 c11 c12 : Addr} {fd fdC fdD fdMa fdMk fdNm : FuncData} (F : Fun K "law" "law" sLaw f fd) (B : Bt mg) (mn : mg "min" = none) (R : E13 K mg C0 c0 c1 c2 c3 c4 c5 c6 c7 c8 c9 c10 c11 c12) (DCa : DCellAt P w K mg base fC fdC) (DDg : DDraw P w K mg base fD fdD)
    (gMa : mg "_law_made" = some (.ref fMa)) (kMa : PySem.W.keepIn K (.ref fMa) = true) (bMa : Binds K fdMa ["_law_word", "_law_thing"] []) (DMa : FnOk P w K mg base CX0 3 fMa fdMa ["_law_word", "_law_thing"] (spMade K (Cls c0 c1 c2 c3 c4 c5 c6 c7 c8 c9 c10 c11 c12))) (gMk : mg "_law_marks" = some (.ref fMk)) (kMk : PySem.W.keepIn K (.ref fMk) = true) (bMk : Binds K fdMk ["_law_one"] []) (DMk : FnOk P w K mg base CX0 1 fMk fdMk ["_law_one"] (spMarks K (Cls c0 c1 c2 c3 c4 c5 c6 c7 c8 c9 c10 c11 c12))) (gNm : mg "_law_named" = some (.ref fNm)) (kNm : PySem.W.keepIn K (.ref fNm) = true) (bNm : Binds K fdNm ["_law_thing"] []) (DNm : FnOk P w K mg base CX0 3 fNm fdNm ["_law_thing"] spNamed) : FnOk P w K mg base CX0 5 f fd ["_law_script"] (spLaw K) := by
  refine F.ok scLaw (fun vs H Q E h => ?_) (fun cdv A outer s H vs Q E hr h => ?_)
  · obtain ⟨a, ns, rfl, _⟩ := h
    rfl
  · obtain ⟨a, ns, rfl, hS, hlen, q⟩ := h
    have nd := scLaw.nd
    refine ⟨_, pss_cons (ps_for PassesOwn.never rfl (pi_range1 (by rfl) B.range (pa_cons (pe_callB (call_max2 rfl) (by rfl) B.max (by decide +kernel) (pa_cons pe_int (pa_cons (pe_callB (call_min2 rfl) (by rfl) mn (by decide +kernel) (pa_cons pe_int (pa_cons (pe_callB call_len_seq (by rfl) B.len PySem.boot_len (pa_cons (pv 0) pa_nil)) pa_nil))) pa_nil))) pa_nil)) (pg_name (i := 1) nd rfl (.inl rfl)) (pss_cons (ps_set (i := 2) nd rfl (.inl rfl) (pe_lst (pa_cons (pe_op op_add (pe_call DCa.ok (hr.mono (by decide)) (by rfl) DCa.mg DCa.kp DCa.bd .nil pass0 (pa_cons (pv 0) (pa_cons (pv 1) pa_nil))) (pe_op op_mul pe_int (pv 1))) pa_nil))) <|
        pss_cons (ps_set (i := 3) nd rfl (.inl rfl) (pe_ix ix_list (pe_lst (pa_cons pe_int (pa_cons pe_int (pa_cons (pe_lst (pa_cons pe_int (pa_cons pe_int pa_nil))) (pa_cons (pe_lst (pa_cons (pe_tup (pa_cons pe_int (pa_cons (pe_lst (pa_cons pe_int pa_nil)) pa_nil))) pa_nil)) (pa_cons pe_non (pa_cons (pe_call DDg.ok (hr.mono (by decide)) (by rfl) DDg.mg DDg.kp DDg.bd .nil pass0 (pa_cons (pv 2) (pa_cons pe_int pa_nil))) pa_nil))))))) (pe_call DDg.ok (hr.mono (by decide)) (by rfl) DDg.mg DDg.kp DDg.bd .nil pass0 (pa_cons (pv 2) (pa_cons pe_int pa_nil))) (fun _ _ => rfl))) <|
        pss_cons (ps_set (i := 4) nd rfl (.inl rfl) (pe_ix ix_list (pe_lst (pa_cons pe_str (pa_cons pe_str (pa_cons pe_str pa_nil)))) (pe_call DDg.ok (hr.mono (by decide)) (by rfl) DDg.mg DDg.kp DDg.bd .nil pass0 (pa_cons (pv 2) (pa_cons pe_int pa_nil))) (fun _ _ => rfl))) <|
        pss_cons (ps_for PassesOwn.never rfl (pi_enum (by rfl) B.enum (pa_cons (pe_call DMa (hr.mono (by decide)) (by rfl) gMa kMa bMa .nil pass0 (pa_cons (pv 4) (pa_cons (pv 3) pa_nil))) pa_nil)) (pg_tup rfl (pgs_cons (pg_name (i := 5) nd rfl (.inl rfl)) (pgs_cons (pg_name (i := 6) nd rfl (.inl rfl)) pgs_nil))) (pss_cons (ps_set (i := 7) nd rfl (.inl rfl) (pe_call DMk (hr.mono (by decide)) (by rfl) gMk kMk bMk .nil pass0 (pa_cons (pv 6) pa_nil))) <|
        pss_cons (ps_if (PW.pt (pw_or (pt_not (pt_val (pe_callB call_isV (by rfl) R.mI (by decide +kernel) (pa_cons (pv 6) (pa_cons (pe_glob (v := .ref C0) (by rfl) R.g0' rfl) pa_nil))))) (pw_or1 (pt_not (pt_val (pe_callB call_isV (by rfl) R.mI (by decide +kernel) (pa_cons (pv 6) (pa_cons (pe_bltn (v := .ty "ValueError") (by rfl) R.mV (by decide +kernel) rfl) pa_nil)))))))) (pss_one (ps_ret pe_bl)) pss_nil) <|
        pss_one (ps_if (PW.pt (pw_or (pt_cmpR op_ne (pe_bm PySem.F.plainAttrs_list PySem.F.slot_list_count PySem.F.type_list_count mt_lcountB (pv 7) (pa_cons pe_bl pa_nil)) pe_int (nomark _)) (pw_or1 (pt_not (pt_val (pe_ix ix_list (pv 7) (pv 5) (fun _ _ => rfl))))))) (pss_one (ps_ret pe_bl)) pss_nil))) <|
        pss_one (ps_if (pt_cmpR (op_neD hr.units) (pe_call DNm (hr.mono (by decide)) (by rfl) gNm kNm bNm .nil pass0 (pa_cons (pv 3) pa_nil)) (pe_op op_rep (pe_lst (pa_cons (pv 3) pa_nil)) pe_int) (nomark _)) (pss_one (ps_ret pe_bl)) pss_nil))) <|
        pss_one (ps_ret pe_bl), ?_⟩
    refine ⟨_, rfl, a, _, rfl, .inl hS, 8, _, rfl, 1, _, rfl, _, rfl, ?_, ?_, ?_⟩
    · split <;> split <;> omega
    · split <;> split <;> omega
    refine for_range (lo := 0) (fun i σ H' => ∃ t1 t2 t3 t4 t5 t6 t7 : Option V, σ = [some (.ref a), t1, t2, t3, t4, t5, t6, t7] ∧ Same H H') ⟨_, _, _, _, _, _, _, rfl, Same.refl _⟩ ?_ (fun σ H' ⟨_, _, _, _, _, _, _, e, _⟩ => by subst e; exact q H')
    rintro i σ H0 hi ⟨t1, t2, t3, t4, t5, t6, t7, rfl, s0⟩
    have ek : (0 : Int) + (i : Nat) = ((i : Nat) : Int) := Int.zero_add _
    rw [ek]
    refine ⟨_, rfl, _, rfl, a, ns, _, rfl, by omega, s0.seq hS, fun z => ?_⟩
    refine ⟨_, rfl, _, _, rfl, rfl, .inl ⟨by decide, by decide⟩, _, _, rfl, rfl, (by show 1 ≤ sizeLine; decide), fun wl hwl => ?_⟩
    have s1 : Same H0 (upd H0 wl (.lst [.int (z + 101 * (i : Nat))])) := same_new hwl
    have W1 : WellAt wl (upd H0 wl (.lst [.int (z + 101 * (i : Nat))])) := ⟨_, upd_same, .inl ⟨_, rfl⟩⟩
    generalize upd H0 wl (.lst [.int (z + 101 * (i : Nat))]) = H1 at s1 W1
    refine gn_norm (σ' := [some (.ref a), some (.int (i : Nat)), some (.ref wl), t3, t4, t5, t6, t7]) rfl ?_
    refine ⟨(by show 2 ≤ sizeLine; decide), fun p1 hp1 => ?_⟩
    have np1 : p1 ≠ wl := (W1.ne hp1).symm
    have E2 := Dr.new (o := .lst [.int 1, .int 2]) W1 hp1
    have f1 : (upd H1 p1 (.lst [.int 1, .int 2])) p1 = some (.lst [.int 1, .int 2]) := upd_same
    generalize upd H1 p1 (.lst [.int 1, .int 2]) = H2 at E2 f1 
    refine ⟨(by show 1 ≤ sizeLine; decide), fun p2 hp2 => ?_⟩
    have np2 : p2 ≠ wl := (E2.well.ne hp2).symm
    have E3 := Dr.new (o := .lst [.int 1]) E2.well hp2
    have f2 : (upd H2 p2 (.lst [.int 1])) p2 = some (.lst [.int 1]) := upd_same
    have f1 := E3.but _ _ np1 f1
    generalize upd H2 p2 (.lst [.int 1]) = H3 at E3 f2 f1
    refine ⟨(by show 2 ≤ sizeLine; decide), fun p3 hp3 => ?_⟩
    have np3 : p3 ≠ wl := (E3.well.ne hp3).symm
    have E4 := Dr.new (o := .tup [.int 0, .ref p2]) E3.well hp3
    have f3 : (upd H3 p3 (.tup [.int 0, .ref p2])) p3 = some (.tup [.int 0, .ref p2]) := upd_same
    have f1 := E4.but _ _ np1 f1
    have f2 := E4.but _ _ np2 f2
    generalize upd H3 p3 (.tup [.int 0, .ref p2]) = H4 at E4 f3 f1 f2
    refine ⟨(by show 1 ≤ sizeLine; decide), fun p4 hp4 => ?_⟩
    have np4 : p4 ≠ wl := (E4.well.ne hp4).symm
    have E5 := Dr.new (o := .lst [.ref p3]) E4.well hp4
    have f4 : (upd H4 p4 (.lst [.ref p3])) p4 = some (.lst [.ref p3]) := upd_same
    have f1 := E5.but _ _ np1 f1
    have f2 := E5.but _ _ np2 f2
    have f3 := E5.but _ _ np3 f3
    generalize upd H4 p4 (.lst [.ref p3]) = H5 at E5 f4 f1 f2 f3
    refine ⟨_, rfl, wl, 99, rfl, by decide, by decide, E5.well, fun d9 H6 d90 d91 E6 => ?_⟩
    have f1 := E6.but _ _ np1 f1
    have f2 := E6.but _ _ np2 f2
    have f3 := E6.but _ _ np3 f3
    have f4 := E6.but _ _ np4 f4
    refine ⟨(by show 6 ≤ sizeLine; decide), fun p5 hp5 => ?_⟩
    have np5 : p5 ≠ wl := (E6.well.ne hp5).symm
    have E7 := Dr.new (o := .lst [.int 0, .int 7, .ref p1, .ref p4, .non, .int d9]) E6.well hp5
    have f5 : (upd H6 p5 (.lst [.int 0, .int 7, .ref p1, .ref p4, .non, .int d9])) p5 = some (.lst [.int 0, .int 7, .ref p1, .ref p4, .non, .int d9]) := upd_same
    have f1 := E7.but _ _ np1 f1
    have f2 := E7.but _ _ np2 f2
    have f3 := E7.but _ _ np3 f3
    have f4 := E7.but _ _ np4 f4
    generalize upd H6 p5 (.lst [.int 0, .int 7, .ref p1, .ref p4, .non, .int d9]) = H7 at E7 f5 f1 f2 f3 f4
    refine ⟨_, rfl, wl, 6, rfl, by decide, by decide, E7.well, fun d6 H8 d60 d61 E8 => ?_⟩
    have f1 := E8.but _ _ np1 f1
    have f2 := E8.but _ _ np2 f2
    have f3 := E8.but _ _ np3 f3
    have f4 := E8.but _ _ np4 f4
    have f5 := E8.but _ _ np5 f5
    obtain ⟨v, hv⟩ : ∃ v, atI [V.int 0, .int 7, .ref p1, .ref p4, .non, .int d9] d6 = some v := by
      rcases (by omega : d6 = 0 ∨ d6 = 1 ∨ d6 = 2 ∨ d6 = 3 ∨ d6 = 4 ∨ d6 = 5) with z | z | z | z | z | z <;> subst z <;> exact ⟨_, rfl⟩
    refine ⟨p5, _, d6, v, rfl, rfl, SqL.of f5, hv, ?_⟩
    refine gn_norm (σ' := [some (.ref a), some (.int (i : Nat)), some (.ref wl), some v, t4, t5, t6, t7]) rfl ?_
    refine ⟨(by show 3 ≤ sizeLine; decide), fun p6 hp6 => ?_⟩
    have np6 : p6 ≠ wl := (E8.well.ne hp6).symm
    have E9 := Dr.new (o := .lst [.str "", .str "none", .str "no such thing"]) E8.well hp6
    have f6 : (upd H8 p6 (.lst [.str "", .str "none", .str "no such thing"])) p6 = some (.lst [.str "", .str "none", .str "no such thing"]) := upd_same
    have f1 := E9.but _ _ np1 f1
    have f2 := E9.but _ _ np2 f2
    have f3 := E9.but _ _ np3 f3
    have f4 := E9.but _ _ np4 f4
    have f5 := E9.but _ _ np5 f5
    generalize upd H8 p6 (.lst [.str "", .str "none", .str "no such thing"]) = H9 at E9 f6 f1 f2 f3 f4 f5
    refine ⟨_, rfl, wl, 3, rfl, by decide, by decide, E9.well, fun d3 H10 d30 d31 E10 => ?_⟩
    have f1 := E10.but _ _ np1 f1
    have f2 := E10.but _ _ np2 f2
    have f3 := E10.but _ _ np3 f3
    have f4 := E10.but _ _ np4 f4
    have f5 := E10.but _ _ np5 f5
    have f6 := E10.but _ _ np6 f6
    obtain ⟨x, hx⟩ : ∃ x : Str, atI [V.str "", .str "none", .str "no such thing"] d3 = some (.str x) := by
      rcases (by omega : d3 = 0 ∨ d3 = 1 ∨ d3 = 2) with z | z | z <;> subst z <;> exact ⟨_, rfl⟩
    refine ⟨p6, _, d3, .str x, rfl, rfl, SqL.of f6, hx, ?_⟩
    refine gn_norm (σ' := [some (.ref a), some (.int (i : Nat)), some (.ref wl), some v, some (.str x), t5, t6, t7]) rfl ?_
    have th : ThAt K H10 v := by
      rcases (by omega : d6 = 0 ∨ d6 = 1 ∨ d6 = 2 ∨ d6 = 3 ∨ d6 = 4 ∨ d6 = 5) with z | z | z | z | z | z <;> subst z <;> cases hv
      · exact th_int 0
      · exact th_int 7
      · exact ⟨.list [.int 1, .int 2], fun H' s => .lst (SqL.of (s _ _ f1)) (.cons (.int 1) (.cons (.int 2) .nil)), ⟨by decide +kernel, by decide⟩, by decide +kernel⟩
      · exact ⟨.list [.tuple [.int 0, .list [.int 1]]], fun H' s => .lst (SqL.of (s _ _ f4)) (.cons (.tup (.inl (.inl (s _ _ f3))) (.cons (.int 0) (.cons (.lst (SqL.of (s _ _ f2)) (.cons (.int 1) .nil)) .nil))) .nil), ⟨by decide +kernel, by decide⟩, by decide +kernel⟩
      · exact ⟨.none, fun H' s => .non, ⟨rfl, Nat.zero_le _⟩, rfl⟩
      · exact th_int d9
    have DD := ((((((((E2).trans E3).trans E4).trans E5).trans E6).trans E7).trans E8).trans E9).trans E10
    clear hv hx f1 f2 f3 f4 f5 f6
    have s9 : Same H H10 := fun b o eb => DD.but b o (ne_of_none (s0 _ _ eb) hwl) (s1 _ _ (s0 _ _ eb))
    generalize H10 = G0 at th s9
    clear DD E2 E3 E4 E5 E6 E7 E8 E9 E10
    refine ⟨_, rfl, _, rfl, x, v, rfl, fun l xs G1 sg el al => ?_⟩
    have hxl : xs.length = 13 := al.1
    refine ⟨l, xs, rfl, SqL.of el, for_it (walk_enum (K := K) (a := l) (xs := xs)) (fun j σ Gc => ∃ u5 u6 u7 : Option V, σ = [some (.ref a), some (.int (i : Nat)), some (.ref wl), some v, some (.str x), u5, u6, u7] ∧ Same G1 Gc) ⟨_, _, _, rfl, Same.refl _⟩ (fun j σ Gc _ ⟨_, _, _, _, sm⟩ => SqL.of (sm _ _ el)) ?_ ?_⟩
    · rintro j y σ Gc Gc' hj ⟨u5, u6, u7, rfl, sc⟩ ⟨T, x1, y1, rfl, hT, rfl, ex, ey⟩
      cases ex
      obtain ⟨C, hC, b, rfl, hv0⟩ := al.get ey
      have hj13 : j < 13 := by omega
      have sT : Same Gc (upd Gc T (.tup [.int (j : Nat), .ref b])) := same_new hT
      have eT : (upd Gc T (.tup [.int (j : Nat), .ref b])) T = some (.tup [.int (j : Nat), .ref b]) := upd_same
      generalize upd Gc T (.tup [.int (j : Nat), .ref b]) = G3 at sT eT
      have sc3 := sc.trans sT
      refine ⟨T, _, rfl, .inl (.inl eT), rfl, _, _, rfl, _, _, rfl, rfl, ?_⟩
      refine gn_norm (σ' := [some (.ref a), some (.int (i : Nat)), some (.ref wl), some v, some (.str x), some (.int (j : Nat)), some (.ref b), u7]) rfl ?_
      have hv3 : ExV C b G3 := hv0.same sc3
      have hm := List.mem_of_getElem? hC
      refine ⟨_, rfl, b, C, j, rfl, hC, hv3, fun lm G4 s4 em => ?_⟩
      refine gn_norm (σ' := [some (.ref a), some (.int (i : Nat)), some (.ref wl), some v, some (.str x), some (.int (j : Nat)), some (.ref b), some (.ref lm)]) rfl ?_
      have hv4 := hv3.same s4
      refine ⟨_, rfl, b, C, .ref C0, .ref C0, true, rfl, R.x C hm, hv4, (fun u hu => hu), R.k0 C hm, true, rfl, iteF ?_⟩
      refine ⟨_, rfl, b, C, .ty "ValueError", .type "ValueError", true, rfl, R.x C hm, hv4, (fun u hu => hu), R.kV C hm, true, rfl, iteF ?_⟩
      refine ⟨_, rfl, .inl ⟨rfl, _, SqL.of em⟩, lm, marks j, true, rfl, rfl, SqL.of em, rfl, _, rfl, ?_⟩
      rw [marks_one j hj13]
      refine iteF ?_
      refine ⟨_, rfl, _, rfl, lm, _, ((j : Nat) : Int), .bl true, rfl, rfl, SqL.of em, atI_nat (marks_at j hj13), true, rfl, iteF ?_⟩
      exact ⟨_, _, _, rfl, sc3.trans s4⟩
    rintro σ G5 ⟨u5, u6, u7, rfl, s5⟩
    obtain ⟨d, dpv, shd, eqd⟩ := th
    have s05 := sg.trans s5
    refine ⟨_, rfl, v, rfl, fun l2 G6 s6 e6 => ?_⟩
    refine ⟨_, rfl, (by show 1 ≤ sizeLine; decide), fun q1 hq1 => ?_⟩
    have s7 : Same G6 (upd G6 q1 (.lst [v])) := same_new hq1
    have e7 : (upd G6 q1 (.lst [v])) q1 = some (.lst [v]) := upd_same
    have e67 := s7 _ _ e6
    generalize upd G6 q1 (.lst [v]) = G7 at s7 e7 e67
    refine ⟨q1, 10, _, rfl, rfl, e7, by decide, by decide, (by show 1 * 10 ≤ sizeLine; decide), fun q2 hq2 => ?_⟩
    have s8 : Same G7 (upd G7 q2 (.lst (List.replicate 10 v))) := same_new hq2
    have e8 : (upd G7 q2 (.lst (List.replicate 10 v))) q2 = some (.lst (List.replicate 10 v)) := upd_same
    have e68 := s8 _ _ e67
    have sx := ((s05.trans s6).trans s7).trans s8
    have dv := dpv _ sx
    refine ⟨.list (List.replicate 10 d), .list (List.replicate 10 d), .lst (SqL.of e68) (dp_rep dv 10), .lst (SqL.of e8) (dp_rep dv 10), (sh_rep shd).ok (by decide), (sh_rep shd).ok (by decide), _, rfl, ?_⟩
    rw [eqv_rep eqd 10]
    refine iteF ?_
    exact ⟨_, _, _, _, _, _, _, rfl, (s9.trans sx)⟩
end
end Lag

set_option maxRecDepth 100000
set_option maxHeartbeats 8000000
namespace Lag
open PySem PySem.Spec PyProof.Rows L2
theorem exm_of {K : PySem.W.Frag} {S C : Addr} (h1 : PySem.W.subIn K (.ref C) (.type "BaseException") = some true) (h2 : PySem.W.isClsIn K C = true) (h3 : PySem.W.typeIn K (.ref C) = some (.type "type")) (h4 : PySem.W.subIn K (.ref S) (.ref C) = some true) :
    PySem.W.exmOne K (.ref S) (.ref C) = some true := by
  have e1 : (PySem.W.subIn K (.ref C) (.type "BaseException") == some true) = true := by rw [h1] <;> rfl
  have e2 : ((PySem.W.clsIn K C).isSome && PySem.W.typeIn K (.ref C) == some (.type "type")) = true := by
    have h2' : (PySem.W.clsIn K C).isSome = true := h2
    rw [h2', h3] <;> rfl
  show (if (PySem.W.subIn K (.ref C) (.type "BaseException") == some true) = true then (if ((PySem.W.clsIn K C).isSome && PySem.W.typeIn K (.ref C) == some (.type "type")) = true then PySem.W.subIn K (.ref S) (.ref C) else none) else none) = some true
  rw [if_pos e1, if_pos e2]
  exact h4
theorem kit_type {K : PySem.W.Frag} {S : Addr} {T : String} {b : Bool} (h1 : PySem.W.kitMeta T = true) (h2 : PySem.W.subIn K (.ref S) (.type T) = some b) : PySem.W.kitOne K (.ref S) (.type T) = some b := by
  have e0 : ((Value.ref S) == (Value.type T)) = false := rfl
  show (if ((Value.ref S) == (Value.type T)) = true then some true else (if PySem.W.kitMeta T = true then PySem.W.subIn K (.ref S) (.type T) else none)) = some b
  rw [e0, if_neg (by decide), if_pos h1]
  exact h2
theorem kit_not {K : PySem.W.Frag} {S C : Addr} (h2 : PySem.W.isClsIn K C = true) (h3 : PySem.W.typeIn K (.ref C) = some (.type "type")) (h4 : PySem.W.subIn K (.ref S) (.ref S) = some true) (h5 : PySem.W.subIn K (.ref S) (.ref C) = some false) :
    PySem.W.kitOne K (.ref S) (.ref C) = some false := by
  have ne : ¬ (((Value.ref S) == (Value.ref C)) = true) := fun z => by
    have z' : S = C := by
      have z2 := beq_iff_eq.mp z
      cases z2
      rfl
    rw [z'] at h4 h5
    rw [h4] at h5
    cases h5
  have e2 : ((PySem.W.clsIn K C).isSome && PySem.W.typeIn K (.ref C) == some (.type "type")) = true := by
    have h2' : (PySem.W.clsIn K C).isSome = true := h2
    rw [h2', h3] <;> rfl
  show (if ((Value.ref S) == (Value.ref C)) = true then some true else (if ((PySem.W.clsIn K C).isSome && PySem.W.typeIn K (.ref C) == some (.type "type")) = true then PySem.W.subIn K (.ref S) (.ref C) else none)) = some false
  rw [if_neg ne, if_pos e2]
  exact h5
theorem exm_any {K : PySem.W.Frag} {S C : Addr} {b : Bool} (h1 : PySem.W.subIn K (.ref C) (.type "BaseException") = some true) (h2 : PySem.W.isClsIn K C = true) (h3 : PySem.W.typeIn K (.ref C) = some (.type "type")) (h4 : PySem.W.subIn K (.ref S) (.ref C) = some b) :
    PySem.W.exmOne K (.ref S) (.ref C) = some b := by
  have e1 : (PySem.W.subIn K (.ref C) (.type "BaseException") == some true) = true := by rw [h1] <;> rfl
  have e2 : ((PySem.W.clsIn K C).isSome && PySem.W.typeIn K (.ref C) == some (.type "type")) = true := by
    have h2' : (PySem.W.clsIn K C).isSome = true := h2
    rw [h2', h3] <;> rfl
  show (if (PySem.W.subIn K (.ref C) (.type "BaseException") == some true) = true then (if ((PySem.W.clsIn K C).isSome && PySem.W.typeIn K (.ref C) == some (.type "type")) = true then PySem.W.subIn K (.ref S) (.ref C) else none) else none) = some b
  rw [if_pos e1, if_pos e2]
  exact h4
theorem kit_yes {K : PySem.W.Frag} {S C : Addr} (h2 : PySem.W.isClsIn K C = true) (h3 : PySem.W.typeIn K (.ref C) = some (.type "type")) (h5 : PySem.W.subIn K (.ref S) (.ref C) = some true) : PySem.W.kitOne K (.ref S) (.ref C) = some true := by
  have e2 : ((PySem.W.clsIn K C).isSome && PySem.W.typeIn K (.ref C) == some (.type "type")) = true := by
    have h2' : (PySem.W.clsIn K C).isSome = true := h2
    rw [h2', h3] <;> rfl
  show (if ((Value.ref S) == (Value.ref C)) = true then some true else (if ((PySem.W.clsIn K C).isSome && PySem.W.typeIn K (.ref C) == some (.type "type")) = true then PySem.W.subIn K (.ref S) (.ref C) else none)) = some true
  by_cases hq : ((Value.ref S) == (Value.ref C)) = true
  · rw [if_pos hq]
  · rw [if_neg hq, if_pos e2]
    exact h5
theorem all13 {P : Nat → Addr → Prop} {c0 c1 c2 c3 c4 c5 c6 c7 c8 c9 c10 c11 c12 : Addr} (h0 : P 0 c0) (h1 : P 1 c1) (h2 : P 2 c2) (h3 : P 3 c3) (h4 : P 4 c4) (h5 : P 5 c5) (h6 : P 6 c6) (h7 : P 7 c7) (h8 : P 8 c8) (h9 : P 9 c9) (h10 : P 10 c10) (h11 : P 11 c11) (h12 : P 12 c12) : ∀ (i : Nat) (C : Addr), (Cls c0 c1 c2 c3 c4 c5 c6 c7 c8 c9 c10 c11 c12)[i]? = some C → P i C
  | 0, _, rfl => h0
  | 1, _, rfl => h1
  | 2, _, rfl => h2
  | 3, _, rfl => h3
  | 4, _, rfl => h4
  | 5, _, rfl => h5
  | 6, _, rfl => h6
  | 7, _, rfl => h7
  | 8, _, rfl => h8
  | 9, _, rfl => h9
  | 10, _, rfl => h10
  | 11, _, rfl => h11
  | 12, _, rfl => h12
  | n + 13, C, h => by cases h
theorem mem13 {P : Addr → Prop} {c0 c1 c2 c3 c4 c5 c6 c7 c8 c9 c10 c11 c12 : Addr} (h0 : P c0) (h1 : P c1) (h2 : P c2) (h3 : P c3) (h4 : P c4) (h5 : P c5) (h6 : P c6) (h7 : P c7) (h8 : P c8) (h9 : P c9) (h10 : P c10) (h11 : P c11) (h12 : P c12) : ∀ C ∈ Cls c0 c1 c2 c3 c4 c5 c6 c7 c8 c9 c10 c11 c12, P C := fun C hC => by
  obtain ⟨i, hi⟩ := List.getElem?_of_mem hC
  exact all13 (P := fun _ C => P C) h0 h1 h2 h3 h4 h5 h6 h7 h8 h9 h10 h11 h12 i C hi
theorem all_mk {l : PySem.W.OpenLaw} {w : World} {K : PySem.W.Frag} {h : Heap} {mg : Str → Option Value} {fa : Addr} (X : K.In h) (G : h.Ns mainGlobals mg) (hfa : mg "law" = some (.ref fa))
    {C0 c0 c1 c2 c3 c4 c5 c6 c7 c8 c9 c10 c11 c12 i0 i1 i2 i3 i4 : Addr} {nmE8 qE8 : Str} {NTE8 : Addr} {bsE8 : List Value} {snE8 : List Str} {subE8 : List Value} {abE8 : Bool} {colE8 : Option Bool} {ddE8 : Option Addr} {m0E8 m1E8 m2E8 m3E8 m5E8 : Option Value} {odE8 anE8 : Option Addr} {slE8 : Array (Option Value)} {ocE8 kVE8 dcE8 pmE8 cdvE8 ctE8 : Value} {nmE9 qE9 : Str} {NTE9 : Addr} {bsE9 : List Value} {snE9 : List Str} {subE9 : List Value} {abE9 : Bool} {colE9 : Option Bool} {ddE9 : Option Addr} {m0E9 m1E9 m2E9 m3E9 m5E9 : Option Value} {odE9 anE9 : Option Addr} {slE9 : Array (Option Value)} {ocE9 kVE9 dcE9 pmE9 cdvE9 ctE9 : Value} {nmE10 qE10 : Str} {NTE10 : Addr} {bsE10 : List Value} {snE10 : List Str} {subE10 : List Value} {abE10 : Bool} {colE10 : Option Bool} {ddE10 : Option Addr} {m0E10 m1E10 m2E10 m3E10 m5E10 : Option Value} {odE10 anE10 : Option Addr} {slE10 : Array (Option Value)} {ocE10 kVE10 dcE10 pmE10 cdvE10 ctE10 : Value} {nmE11 qE11 : Str} {NTE11 : Addr} {bsE11 : List Value} {snE11 : List Str} {subE11 : List Value} {abE11 : Bool} {colE11 : Option Bool} {ddE11 : Option Addr} {m0E11 m1E11 m2E11 m3E11 m5E11 : Option Value} {odE11 anE11 : Option Addr} {slE11 : Array (Option Value)} {ocE11 kVE11 dcE11 pmE11 cdvE11 ctE11 : Value} {nmE12 qE12 : Str} {NTE12 : Addr} {bsE12 : List Value} {snE12 : List Str} {subE12 : List Value} {abE12 : Bool} {colE12 : Option Bool} {ddE12 : Option Addr} {m0E12 m1E12 m2E12 m3E12 m5E12 : Option Value} {odE12 anE12 : Option Addr} {slE12 : Array (Option Value)} {ocE12 kVE12 dcE12 pmE12 cdvE12 ctE12 : Value}
    {fd0 : Addr} {odd0 and0 : Option Addr} {sld0 : Array (Option Value)} {ocd0 kVd0 dcd0 pmd0 cdd0 ctd0 : Value}
    {fd1 : Addr} {odd1 and1 : Option Addr} {sld1 : Array (Option Value)} {ocd1 kVd1 dcd1 pmd1 cdd1 ctd1 : Value}
    {fd2 : Addr} {odd2 and2 : Option Addr} {sld2 : Array (Option Value)} {ocd2 kVd2 dcd2 pmd2 cdd2 ctd2 : Value}
    {fd3 : Addr} {odd3 and3 : Option Addr} {sld3 : Array (Option Value)} {ocd3 kVd3 dcd3 pmd3 cdd3 ctd3 : Value}
    {fd4 : Addr} {odd4 and4 : Option Addr} {sld4 : Array (Option Value)} {ocd4 kVd4 dcd4 pmd4 cdd4 ctd4 : Value}
    {fd5 : Addr} {odd5 and5 : Option Addr} {sld5 : Array (Option Value)} {ocd5 kVd5 dcd5 pmd5 cdd5 ctd5 : Value}
    (ad0 : PySem.W.nsIn K mainGlobals "_law_cell_at" = some (some (.ref fd0)))
    (ld0 : K.lookup fd0 = some ⟨ocd0, odd0, .func (PySem.W.fnOf "_law_cell_at" "_law_cell_at" (defArgs sCellAt) (defBody sCellAt) (defScope sCellAt) .none kVd0 dcd0 pmd0 and0 cdd0 ctd0), sld0⟩)
    (cd0 : PySem.W.codeIn K cdd0 "_law_cell_at" = true)
    (kd0 : PySem.W.keepIn K (.ref fd0) = true)
    (ad1 : PySem.W.nsIn K mainGlobals "_law_digit" = some (some (.ref fd1)))
    (ld1 : K.lookup fd1 = some ⟨ocd1, odd1, .func (PySem.W.fnOf "_law_digit" "_law_digit" (defArgs sDigit) (defBody sDigit) (defScope sDigit) .none kVd1 dcd1 pmd1 and1 cdd1 ctd1), sld1⟩)
    (cd1 : PySem.W.codeIn K cdd1 "_law_digit" = true)
    (kd1 : PySem.W.keepIn K (.ref fd1) = true)
    (ad2 : PySem.W.nsIn K mainGlobals "_law_made" = some (some (.ref fd2)))
    (ld2 : K.lookup fd2 = some ⟨ocd2, odd2, .func (PySem.W.fnOf "_law_made" "_law_made" (defArgs sMade) (defBody sMade) (defScope sMade) .none kVd2 dcd2 pmd2 and2 cdd2 ctd2), sld2⟩)
    (cd2 : PySem.W.codeIn K cdd2 "_law_made" = true)
    (kd2 : PySem.W.keepIn K (.ref fd2) = true)
    (ad3 : PySem.W.nsIn K mainGlobals "_law_marks" = some (some (.ref fd3)))
    (ld3 : K.lookup fd3 = some ⟨ocd3, odd3, .func (PySem.W.fnOf "_law_marks" "_law_marks" (defArgs sMarks) (defBody sMarks) (defScope sMarks) .none kVd3 dcd3 pmd3 and3 cdd3 ctd3), sld3⟩)
    (cd3 : PySem.W.codeIn K cdd3 "_law_marks" = true)
    (kd3 : PySem.W.keepIn K (.ref fd3) = true)
    (ad4 : PySem.W.nsIn K mainGlobals "_law_named" = some (some (.ref fd4)))
    (ld4 : K.lookup fd4 = some ⟨ocd4, odd4, .func (PySem.W.fnOf "_law_named" "_law_named" (defArgs sNamed) (defBody sNamed) (defScope sNamed) .none kVd4 dcd4 pmd4 and4 cdd4 ctd4), sld4⟩)
    (cd4 : PySem.W.codeIn K cdd4 "_law_named" = true)
    (kd4 : PySem.W.keepIn K (.ref fd4) = true)
    (ad5 : PySem.W.nsIn K mainGlobals "law" = some (some (.ref fd5)))
    (ld5 : K.lookup fd5 = some ⟨ocd5, odd5, .func (PySem.W.fnOf "law" "law" (defArgs sLaw) (defBody sLaw) (defScope sLaw) .none kVd5 dcd5 pmd5 and5 cdd5 ctd5), sld5⟩)
    (cd5 : PySem.W.codeIn K cdd5 "law" = true)
    (kd5 : PySem.W.keepIn K (.ref fd5) = true)
    (aL0 : PySem.W.nsIn K mainGlobals "LagError" = some (some (.ref C0)))
    (gL : PySem.W.specialIn K (.ref C0) "__getattribute__" = some (some (.builtin "type.__getattribute__")))
    (rL : PySem.W.readsIn K C0 (.type "type") = true)
    (vL : PySem.W.findCls K (.ref C0) (.type "type") "__init__" = some (.val (.builtin "ValueError.__init__")))
    (iC0 : PySem.W.isClsIn K C0 = true)
    (tC0 : PySem.W.typeIn K (.ref C0) = some (.type "type"))
    (aE0 : PySem.W.nsIn K mainGlobals "NoBeat" = some (some (.ref c0)))
    (qE0 : PySem.W.excIn K c0 [.type "ValueError", .type "Exception", .type "BaseException", .type "object"] "ValueError.__new__" = true)
    (kkE0 : PySem.W.keepIn K (.ref c0) = true)
    (eE0 : PySem.W.subIn K (.ref c0) (.type "BaseException") = some true)
    (ttE0 : PySem.W.typeIn K (.ref c0) = some (.type "type"))
    (ciE0 : PySem.W.isClsIn K c0 = true)
    (sE0 : PySem.W.subIn K (.ref c0) (.ref c0) = some true)
    (xgE0 : PySem.W.findIn K (.ref c0) "__getattribute__" = some (some (.builtin "BaseException.__getattribute__")))
    (xkE0 : PySem.W.findIn K (.ref c0) "__getattr__" = some none)
    (xdE0 : PySem.W.hasDictIn K c0 = true)
    (xaE0 : PySem.W.findIn K (.ref c0) "__class__" = some (some (.builtin "object.__class__")))
    (xmE0 : PySem.W.mroIn K c0 (.type "object") = some true)
    (s0E0 : PySem.W.subIn K (.ref c0) (.ref C0) = some true)
    (aE1 : PySem.W.nsIn K mainGlobals "NoForm" = some (some (.ref c1)))
    (qE1 : PySem.W.excIn K c1 [.type "ValueError", .type "Exception", .type "BaseException", .type "object"] "ValueError.__new__" = true)
    (kkE1 : PySem.W.keepIn K (.ref c1) = true)
    (eE1 : PySem.W.subIn K (.ref c1) (.type "BaseException") = some true)
    (ttE1 : PySem.W.typeIn K (.ref c1) = some (.type "type"))
    (ciE1 : PySem.W.isClsIn K c1 = true)
    (sE1 : PySem.W.subIn K (.ref c1) (.ref c1) = some true)
    (xgE1 : PySem.W.findIn K (.ref c1) "__getattribute__" = some (some (.builtin "BaseException.__getattribute__")))
    (xkE1 : PySem.W.findIn K (.ref c1) "__getattr__" = some none)
    (xdE1 : PySem.W.hasDictIn K c1 = true)
    (xaE1 : PySem.W.findIn K (.ref c1) "__class__" = some (some (.builtin "object.__class__")))
    (xmE1 : PySem.W.mroIn K c1 (.type "object") = some true)
    (s0E1 : PySem.W.subIn K (.ref c1) (.ref C0) = some true)
    (aE2 : PySem.W.nsIn K mainGlobals "NoGates" = some (some (.ref c2)))
    (qE2 : PySem.W.excIn K c2 [.type "ValueError", .type "Exception", .type "BaseException", .type "object"] "ValueError.__new__" = true)
    (kkE2 : PySem.W.keepIn K (.ref c2) = true)
    (eE2 : PySem.W.subIn K (.ref c2) (.type "BaseException") = some true)
    (ttE2 : PySem.W.typeIn K (.ref c2) = some (.type "type"))
    (ciE2 : PySem.W.isClsIn K c2 = true)
    (sE2 : PySem.W.subIn K (.ref c2) (.ref c2) = some true)
    (xgE2 : PySem.W.findIn K (.ref c2) "__getattribute__" = some (some (.builtin "BaseException.__getattribute__")))
    (xkE2 : PySem.W.findIn K (.ref c2) "__getattr__" = some none)
    (xdE2 : PySem.W.hasDictIn K c2 = true)
    (xaE2 : PySem.W.findIn K (.ref c2) "__class__" = some (some (.builtin "object.__class__")))
    (xmE2 : PySem.W.mroIn K c2 (.type "object") = some true)
    (s0E2 : PySem.W.subIn K (.ref c2) (.ref C0) = some true)
    (aE3 : PySem.W.nsIn K mainGlobals "NoLags" = some (some (.ref c3)))
    (qE3 : PySem.W.excIn K c3 [.type "ValueError", .type "Exception", .type "BaseException", .type "object"] "ValueError.__new__" = true)
    (kkE3 : PySem.W.keepIn K (.ref c3) = true)
    (eE3 : PySem.W.subIn K (.ref c3) (.type "BaseException") = some true)
    (ttE3 : PySem.W.typeIn K (.ref c3) = some (.type "type"))
    (ciE3 : PySem.W.isClsIn K c3 = true)
    (sE3 : PySem.W.subIn K (.ref c3) (.ref c3) = some true)
    (xgE3 : PySem.W.findIn K (.ref c3) "__getattribute__" = some (some (.builtin "BaseException.__getattribute__")))
    (xkE3 : PySem.W.findIn K (.ref c3) "__getattr__" = some none)
    (xdE3 : PySem.W.hasDictIn K c3 = true)
    (xaE3 : PySem.W.findIn K (.ref c3) "__class__" = some (some (.builtin "object.__class__")))
    (xmE3 : PySem.W.mroIn K c3 (.type "object") = some true)
    (s0E3 : PySem.W.subIn K (.ref c3) (.ref C0) = some true)
    (aE4 : PySem.W.nsIn K mainGlobals "NoPaper" = some (some (.ref c4)))
    (qE4 : PySem.W.excIn K c4 [.type "ValueError", .type "Exception", .type "BaseException", .type "object"] "ValueError.__new__" = true)
    (kkE4 : PySem.W.keepIn K (.ref c4) = true)
    (eE4 : PySem.W.subIn K (.ref c4) (.type "BaseException") = some true)
    (ttE4 : PySem.W.typeIn K (.ref c4) = some (.type "type"))
    (ciE4 : PySem.W.isClsIn K c4 = true)
    (sE4 : PySem.W.subIn K (.ref c4) (.ref c4) = some true)
    (xgE4 : PySem.W.findIn K (.ref c4) "__getattribute__" = some (some (.builtin "BaseException.__getattribute__")))
    (xkE4 : PySem.W.findIn K (.ref c4) "__getattr__" = some none)
    (xdE4 : PySem.W.hasDictIn K c4 = true)
    (xaE4 : PySem.W.findIn K (.ref c4) "__class__" = some (some (.builtin "object.__class__")))
    (xmE4 : PySem.W.mroIn K c4 (.type "object") = some true)
    (s0E4 : PySem.W.subIn K (.ref c4) (.ref C0) = some true)
    (aE5 : PySem.W.nsIn K mainGlobals "NoRow" = some (some (.ref c5)))
    (qE5 : PySem.W.excIn K c5 [.type "ValueError", .type "Exception", .type "BaseException", .type "object"] "ValueError.__new__" = true)
    (kkE5 : PySem.W.keepIn K (.ref c5) = true)
    (eE5 : PySem.W.subIn K (.ref c5) (.type "BaseException") = some true)
    (ttE5 : PySem.W.typeIn K (.ref c5) = some (.type "type"))
    (ciE5 : PySem.W.isClsIn K c5 = true)
    (sE5 : PySem.W.subIn K (.ref c5) (.ref c5) = some true)
    (xgE5 : PySem.W.findIn K (.ref c5) "__getattribute__" = some (some (.builtin "BaseException.__getattribute__")))
    (xkE5 : PySem.W.findIn K (.ref c5) "__getattr__" = some none)
    (xdE5 : PySem.W.hasDictIn K c5 = true)
    (xaE5 : PySem.W.findIn K (.ref c5) "__class__" = some (some (.builtin "object.__class__")))
    (xmE5 : PySem.W.mroIn K c5 (.type "object") = some true)
    (s0E5 : PySem.W.subIn K (.ref c5) (.ref C0) = some true)
    (aE6 : PySem.W.nsIn K mainGlobals "NoStreams" = some (some (.ref c6)))
    (qE6 : PySem.W.excIn K c6 [.type "ValueError", .type "Exception", .type "BaseException", .type "object"] "ValueError.__new__" = true)
    (kkE6 : PySem.W.keepIn K (.ref c6) = true)
    (eE6 : PySem.W.subIn K (.ref c6) (.type "BaseException") = some true)
    (ttE6 : PySem.W.typeIn K (.ref c6) = some (.type "type"))
    (ciE6 : PySem.W.isClsIn K c6 = true)
    (sE6 : PySem.W.subIn K (.ref c6) (.ref c6) = some true)
    (xgE6 : PySem.W.findIn K (.ref c6) "__getattribute__" = some (some (.builtin "BaseException.__getattribute__")))
    (xkE6 : PySem.W.findIn K (.ref c6) "__getattr__" = some none)
    (xdE6 : PySem.W.hasDictIn K c6 = true)
    (xaE6 : PySem.W.findIn K (.ref c6) "__class__" = some (some (.builtin "object.__class__")))
    (xmE6 : PySem.W.mroIn K c6 (.type "object") = some true)
    (s0E6 : PySem.W.subIn K (.ref c6) (.ref C0) = some true)
    (aE7 : PySem.W.nsIn K mainGlobals "NoText" = some (some (.ref c7)))
    (qE7 : PySem.W.excIn K c7 [.type "ValueError", .type "Exception", .type "BaseException", .type "object"] "ValueError.__new__" = true)
    (kkE7 : PySem.W.keepIn K (.ref c7) = true)
    (eE7 : PySem.W.subIn K (.ref c7) (.type "BaseException") = some true)
    (ttE7 : PySem.W.typeIn K (.ref c7) = some (.type "type"))
    (ciE7 : PySem.W.isClsIn K c7 = true)
    (sE7 : PySem.W.subIn K (.ref c7) (.ref c7) = some true)
    (xgE7 : PySem.W.findIn K (.ref c7) "__getattribute__" = some (some (.builtin "BaseException.__getattribute__")))
    (xkE7 : PySem.W.findIn K (.ref c7) "__getattr__" = some none)
    (xdE7 : PySem.W.hasDictIn K c7 = true)
    (xaE7 : PySem.W.findIn K (.ref c7) "__class__" = some (some (.builtin "object.__class__")))
    (xmE7 : PySem.W.mroIn K c7 (.type "object") = some true)
    (s0E7 : PySem.W.subIn K (.ref c7) (.ref C0) = some true)
    (aE8 : PySem.W.nsIn K mainGlobals "NoWires" = some (some (.ref c8)))
    (xE8 : K.lookup c8 = some (excClassObj nmE8 qE8 c8 NTE8 bsE8 [.ref C0, .type "ValueError", .type "Exception", .type "BaseException", .type "object"] true snE8 subE8 abE8 colE8 ddE8 m0E8 m1E8 m2E8 m3E8 m5E8 "ValueError.__new__"))
    (saE8 : PySem.W.findIn K (.ref c8) "__setattr__" = some (some (.builtin "object.__setattr__")))
    (noE8 : PySem.W.findIn K (.ref c8) "place" = some none)
    (iE8 : PySem.W.findIn K (.ref c8) "__init__" = some (some (.ref i0)))
    (ftE8 : PySem.W.typeIn K (.ref i0) = some (.type "function"))
    (lE8 : K.lookup i0 = some ⟨ocE8, odE8, .func (PySem.W.fnOf "__init__" "NoWires.__init__" (defArgs sI0) (defBody sI0) (defScope sI0) .none kVE8 dcE8 pmE8 anE8 cdvE8 ctE8), slE8⟩)
    (cdE8 : PySem.W.codeIn K cdvE8 "NoWires.__init__" = true)
    (kfE8 : PySem.W.keepIn K (.ref i0) = true)
    (kkE8 : PySem.W.keepIn K (.ref c8) = true)
    (eE8 : PySem.W.subIn K (.ref c8) (.type "BaseException") = some true)
    (ttE8 : PySem.W.typeIn K (.ref c8) = some (.type "type"))
    (ciE8 : PySem.W.isClsIn K c8 = true)
    (sE8 : PySem.W.subIn K (.ref c8) (.ref c8) = some true)
    (xgE8 : PySem.W.findIn K (.ref c8) "__getattribute__" = some (some (.builtin "BaseException.__getattribute__")))
    (xkE8 : PySem.W.findIn K (.ref c8) "__getattr__" = some none)
    (xdE8 : PySem.W.hasDictIn K c8 = true)
    (xaE8 : PySem.W.findIn K (.ref c8) "__class__" = some (some (.builtin "object.__class__")))
    (xmE8 : PySem.W.mroIn K c8 (.type "object") = some true)
    (s0E8 : PySem.W.subIn K (.ref c8) (.ref C0) = some true)
    (aE9 : PySem.W.nsIn K mainGlobals "NoRing" = some (some (.ref c9)))
    (xE9 : K.lookup c9 = some (excClassObj nmE9 qE9 c9 NTE9 bsE9 [.ref C0, .type "ValueError", .type "Exception", .type "BaseException", .type "object"] true snE9 subE9 abE9 colE9 ddE9 m0E9 m1E9 m2E9 m3E9 m5E9 "ValueError.__new__"))
    (saE9 : PySem.W.findIn K (.ref c9) "__setattr__" = some (some (.builtin "object.__setattr__")))
    (noE9 : PySem.W.findIn K (.ref c9) "ring" = some none)
    (iE9 : PySem.W.findIn K (.ref c9) "__init__" = some (some (.ref i1)))
    (ftE9 : PySem.W.typeIn K (.ref i1) = some (.type "function"))
    (lE9 : K.lookup i1 = some ⟨ocE9, odE9, .func (PySem.W.fnOf "__init__" "NoRing.__init__" (defArgs sI1) (defBody sI1) (defScope sI1) .none kVE9 dcE9 pmE9 anE9 cdvE9 ctE9), slE9⟩)
    (cdE9 : PySem.W.codeIn K cdvE9 "NoRing.__init__" = true)
    (kfE9 : PySem.W.keepIn K (.ref i1) = true)
    (kkE9 : PySem.W.keepIn K (.ref c9) = true)
    (eE9 : PySem.W.subIn K (.ref c9) (.type "BaseException") = some true)
    (ttE9 : PySem.W.typeIn K (.ref c9) = some (.type "type"))
    (ciE9 : PySem.W.isClsIn K c9 = true)
    (sE9 : PySem.W.subIn K (.ref c9) (.ref c9) = some true)
    (xgE9 : PySem.W.findIn K (.ref c9) "__getattribute__" = some (some (.builtin "BaseException.__getattribute__")))
    (xkE9 : PySem.W.findIn K (.ref c9) "__getattr__" = some none)
    (xdE9 : PySem.W.hasDictIn K c9 = true)
    (xaE9 : PySem.W.findIn K (.ref c9) "__class__" = some (some (.builtin "object.__class__")))
    (xmE9 : PySem.W.mroIn K c9 (.type "object") = some true)
    (s0E9 : PySem.W.subIn K (.ref c9) (.ref C0) = some true)
    (aE10 : PySem.W.nsIn K mainGlobals "NotLet" = some (some (.ref c10)))
    (xE10 : K.lookup c10 = some (excClassObj nmE10 qE10 c10 NTE10 bsE10 [.ref C0, .type "ValueError", .type "Exception", .type "BaseException", .type "object"] true snE10 subE10 abE10 colE10 ddE10 m0E10 m1E10 m2E10 m3E10 m5E10 "ValueError.__new__"))
    (saE10 : PySem.W.findIn K (.ref c10) "__setattr__" = some (some (.builtin "object.__setattr__")))
    (noE10 : PySem.W.findIn K (.ref c10) "wire" = some none)
    (iE10 : PySem.W.findIn K (.ref c10) "__init__" = some (some (.ref i2)))
    (ftE10 : PySem.W.typeIn K (.ref i2) = some (.type "function"))
    (lE10 : K.lookup i2 = some ⟨ocE10, odE10, .func (PySem.W.fnOf "__init__" "NotLet.__init__" (defArgs sI2) (defBody sI2) (defScope sI2) .none kVE10 dcE10 pmE10 anE10 cdvE10 ctE10), slE10⟩)
    (cdE10 : PySem.W.codeIn K cdvE10 "NotLet.__init__" = true)
    (kfE10 : PySem.W.keepIn K (.ref i2) = true)
    (kkE10 : PySem.W.keepIn K (.ref c10) = true)
    (eE10 : PySem.W.subIn K (.ref c10) (.type "BaseException") = some true)
    (ttE10 : PySem.W.typeIn K (.ref c10) = some (.type "type"))
    (ciE10 : PySem.W.isClsIn K c10 = true)
    (sE10 : PySem.W.subIn K (.ref c10) (.ref c10) = some true)
    (xgE10 : PySem.W.findIn K (.ref c10) "__getattribute__" = some (some (.builtin "BaseException.__getattribute__")))
    (xkE10 : PySem.W.findIn K (.ref c10) "__getattr__" = some none)
    (xdE10 : PySem.W.hasDictIn K c10 = true)
    (xaE10 : PySem.W.findIn K (.ref c10) "__class__" = some (some (.builtin "object.__class__")))
    (xmE10 : PySem.W.mroIn K c10 (.type "object") = some true)
    (s0E10 : PySem.W.subIn K (.ref c10) (.ref C0) = some true)
    (aE11 : PySem.W.nsIn K mainGlobals "TooEarly" = some (some (.ref c11)))
    (xE11 : K.lookup c11 = some (excClassObj nmE11 qE11 c11 NTE11 bsE11 [.ref C0, .type "ValueError", .type "Exception", .type "BaseException", .type "object"] true snE11 subE11 abE11 colE11 ddE11 m0E11 m1E11 m2E11 m3E11 m5E11 "ValueError.__new__"))
    (saE11 : PySem.W.findIn K (.ref c11) "__setattr__" = some (some (.builtin "object.__setattr__")))
    (noE11 : PySem.W.findIn K (.ref c11) "rows" = some none)
    (iE11 : PySem.W.findIn K (.ref c11) "__init__" = some (some (.ref i3)))
    (ftE11 : PySem.W.typeIn K (.ref i3) = some (.type "function"))
    (lE11 : K.lookup i3 = some ⟨ocE11, odE11, .func (PySem.W.fnOf "__init__" "TooEarly.__init__" (defArgs sI3) (defBody sI3) (defScope sI3) .none kVE11 dcE11 pmE11 anE11 cdvE11 ctE11), slE11⟩)
    (cdE11 : PySem.W.codeIn K cdvE11 "TooEarly.__init__" = true)
    (kfE11 : PySem.W.keepIn K (.ref i3) = true)
    (kkE11 : PySem.W.keepIn K (.ref c11) = true)
    (eE11 : PySem.W.subIn K (.ref c11) (.type "BaseException") = some true)
    (ttE11 : PySem.W.typeIn K (.ref c11) = some (.type "type"))
    (ciE11 : PySem.W.isClsIn K c11 = true)
    (sE11 : PySem.W.subIn K (.ref c11) (.ref c11) = some true)
    (xgE11 : PySem.W.findIn K (.ref c11) "__getattribute__" = some (some (.builtin "BaseException.__getattribute__")))
    (xkE11 : PySem.W.findIn K (.ref c11) "__getattr__" = some none)
    (xdE11 : PySem.W.hasDictIn K c11 = true)
    (xaE11 : PySem.W.findIn K (.ref c11) "__class__" = some (some (.builtin "object.__class__")))
    (xmE11 : PySem.W.mroIn K c11 (.type "object") = some true)
    (s0E11 : PySem.W.subIn K (.ref c11) (.ref C0) = some true)
    (aE12 : PySem.W.nsIn K mainGlobals "NoLagsThere" = some (some (.ref c12)))
    (xE12 : K.lookup c12 = some (excClassObj nmE12 qE12 c12 NTE12 bsE12 [.ref C0, .type "ValueError", .type "Exception", .type "BaseException", .type "object"] true snE12 subE12 abE12 colE12 ddE12 m0E12 m1E12 m2E12 m3E12 m5E12 "ValueError.__new__"))
    (saE12 : PySem.W.findIn K (.ref c12) "__setattr__" = some (some (.builtin "object.__setattr__")))
    (noE12 : PySem.W.findIn K (.ref c12) "bar" = some none)
    (iE12 : PySem.W.findIn K (.ref c12) "__init__" = some (some (.ref i4)))
    (ftE12 : PySem.W.typeIn K (.ref i4) = some (.type "function"))
    (lE12 : K.lookup i4 = some ⟨ocE12, odE12, .func (PySem.W.fnOf "__init__" "NoLagsThere.__init__" (defArgs sI4) (defBody sI4) (defScope sI4) .none kVE12 dcE12 pmE12 anE12 cdvE12 ctE12), slE12⟩)
    (cdE12 : PySem.W.codeIn K cdvE12 "NoLagsThere.__init__" = true)
    (kfE12 : PySem.W.keepIn K (.ref i4) = true)
    (kkE12 : PySem.W.keepIn K (.ref c12) = true)
    (eE12 : PySem.W.subIn K (.ref c12) (.type "BaseException") = some true)
    (ttE12 : PySem.W.typeIn K (.ref c12) = some (.type "type"))
    (ciE12 : PySem.W.isClsIn K c12 = true)
    (sE12 : PySem.W.subIn K (.ref c12) (.ref c12) = some true)
    (xgE12 : PySem.W.findIn K (.ref c12) "__getattribute__" = some (some (.builtin "BaseException.__getattribute__")))
    (xkE12 : PySem.W.findIn K (.ref c12) "__getattr__" = some none)
    (xdE12 : PySem.W.hasDictIn K c12 = true)
    (xaE12 : PySem.W.findIn K (.ref c12) "__class__" = some (some (.builtin "object.__class__")))
    (xmE12 : PySem.W.mroIn K c12 (.type "object") = some true)
    (s0E12 : PySem.W.subIn K (.ref c12) (.ref C0) = some true)
    (vE0 : PySem.W.subIn K (.ref c0) (.type "ValueError") = some true)
    (vE1 : PySem.W.subIn K (.ref c1) (.type "ValueError") = some true)
    (vE2 : PySem.W.subIn K (.ref c2) (.type "ValueError") = some true)
    (vE3 : PySem.W.subIn K (.ref c3) (.type "ValueError") = some true)
    (vE4 : PySem.W.subIn K (.ref c4) (.type "ValueError") = some true)
    (vE5 : PySem.W.subIn K (.ref c5) (.type "ValueError") = some true)
    (vE6 : PySem.W.subIn K (.ref c6) (.type "ValueError") = some true)
    (vE7 : PySem.W.subIn K (.ref c7) (.type "ValueError") = some true)
    (vE8 : PySem.W.subIn K (.ref c8) (.type "ValueError") = some true)
    (vE9 : PySem.W.subIn K (.ref c9) (.type "ValueError") = some true)
    (vE10 : PySem.W.subIn K (.ref c10) (.type "ValueError") = some true)
    (vE11 : PySem.W.subIn K (.ref c11) (.type "ValueError") = some true)
    (vE12 : PySem.W.subIn K (.ref c12) (.type "ValueError") = some true)
    (u0_1 : PySem.W.subIn K (.ref c0) (.ref c1) = some false)
    (u0_2 : PySem.W.subIn K (.ref c0) (.ref c2) = some false)
    (u0_3 : PySem.W.subIn K (.ref c0) (.ref c3) = some false)
    (u0_4 : PySem.W.subIn K (.ref c0) (.ref c4) = some false)
    (u0_5 : PySem.W.subIn K (.ref c0) (.ref c5) = some false)
    (u0_6 : PySem.W.subIn K (.ref c0) (.ref c6) = some false)
    (u0_7 : PySem.W.subIn K (.ref c0) (.ref c7) = some false)
    (u0_8 : PySem.W.subIn K (.ref c0) (.ref c8) = some false)
    (u0_9 : PySem.W.subIn K (.ref c0) (.ref c9) = some false)
    (u0_10 : PySem.W.subIn K (.ref c0) (.ref c10) = some false)
    (u0_11 : PySem.W.subIn K (.ref c0) (.ref c11) = some false)
    (u0_12 : PySem.W.subIn K (.ref c0) (.ref c12) = some false)
    (u1_0 : PySem.W.subIn K (.ref c1) (.ref c0) = some false)
    (u1_2 : PySem.W.subIn K (.ref c1) (.ref c2) = some false)
    (u1_3 : PySem.W.subIn K (.ref c1) (.ref c3) = some false)
    (u1_4 : PySem.W.subIn K (.ref c1) (.ref c4) = some false)
    (u1_5 : PySem.W.subIn K (.ref c1) (.ref c5) = some false)
    (u1_6 : PySem.W.subIn K (.ref c1) (.ref c6) = some false)
    (u1_7 : PySem.W.subIn K (.ref c1) (.ref c7) = some false)
    (u1_8 : PySem.W.subIn K (.ref c1) (.ref c8) = some false)
    (u1_9 : PySem.W.subIn K (.ref c1) (.ref c9) = some false)
    (u1_10 : PySem.W.subIn K (.ref c1) (.ref c10) = some false)
    (u1_11 : PySem.W.subIn K (.ref c1) (.ref c11) = some false)
    (u1_12 : PySem.W.subIn K (.ref c1) (.ref c12) = some false)
    (u2_0 : PySem.W.subIn K (.ref c2) (.ref c0) = some false)
    (u2_1 : PySem.W.subIn K (.ref c2) (.ref c1) = some false)
    (u2_3 : PySem.W.subIn K (.ref c2) (.ref c3) = some false)
    (u2_4 : PySem.W.subIn K (.ref c2) (.ref c4) = some false)
    (u2_5 : PySem.W.subIn K (.ref c2) (.ref c5) = some false)
    (u2_6 : PySem.W.subIn K (.ref c2) (.ref c6) = some false)
    (u2_7 : PySem.W.subIn K (.ref c2) (.ref c7) = some false)
    (u2_8 : PySem.W.subIn K (.ref c2) (.ref c8) = some false)
    (u2_9 : PySem.W.subIn K (.ref c2) (.ref c9) = some false)
    (u2_10 : PySem.W.subIn K (.ref c2) (.ref c10) = some false)
    (u2_11 : PySem.W.subIn K (.ref c2) (.ref c11) = some false)
    (u2_12 : PySem.W.subIn K (.ref c2) (.ref c12) = some false)
    (u3_0 : PySem.W.subIn K (.ref c3) (.ref c0) = some false)
    (u3_1 : PySem.W.subIn K (.ref c3) (.ref c1) = some false)
    (u3_2 : PySem.W.subIn K (.ref c3) (.ref c2) = some false)
    (u3_4 : PySem.W.subIn K (.ref c3) (.ref c4) = some false)
    (u3_5 : PySem.W.subIn K (.ref c3) (.ref c5) = some false)
    (u3_6 : PySem.W.subIn K (.ref c3) (.ref c6) = some false)
    (u3_7 : PySem.W.subIn K (.ref c3) (.ref c7) = some false)
    (u3_8 : PySem.W.subIn K (.ref c3) (.ref c8) = some false)
    (u3_9 : PySem.W.subIn K (.ref c3) (.ref c9) = some false)
    (u3_10 : PySem.W.subIn K (.ref c3) (.ref c10) = some false)
    (u3_11 : PySem.W.subIn K (.ref c3) (.ref c11) = some false)
    (u3_12 : PySem.W.subIn K (.ref c3) (.ref c12) = some false)
    (u4_0 : PySem.W.subIn K (.ref c4) (.ref c0) = some false)
    (u4_1 : PySem.W.subIn K (.ref c4) (.ref c1) = some false)
    (u4_2 : PySem.W.subIn K (.ref c4) (.ref c2) = some false)
    (u4_3 : PySem.W.subIn K (.ref c4) (.ref c3) = some false)
    (u4_5 : PySem.W.subIn K (.ref c4) (.ref c5) = some false)
    (u4_6 : PySem.W.subIn K (.ref c4) (.ref c6) = some false)
    (u4_7 : PySem.W.subIn K (.ref c4) (.ref c7) = some false)
    (u4_8 : PySem.W.subIn K (.ref c4) (.ref c8) = some false)
    (u4_9 : PySem.W.subIn K (.ref c4) (.ref c9) = some false)
    (u4_10 : PySem.W.subIn K (.ref c4) (.ref c10) = some false)
    (u4_11 : PySem.W.subIn K (.ref c4) (.ref c11) = some false)
    (u4_12 : PySem.W.subIn K (.ref c4) (.ref c12) = some false)
    (u5_0 : PySem.W.subIn K (.ref c5) (.ref c0) = some false)
    (u5_1 : PySem.W.subIn K (.ref c5) (.ref c1) = some false)
    (u5_2 : PySem.W.subIn K (.ref c5) (.ref c2) = some false)
    (u5_3 : PySem.W.subIn K (.ref c5) (.ref c3) = some false)
    (u5_4 : PySem.W.subIn K (.ref c5) (.ref c4) = some false)
    (u5_6 : PySem.W.subIn K (.ref c5) (.ref c6) = some false)
    (u5_7 : PySem.W.subIn K (.ref c5) (.ref c7) = some false)
    (u5_8 : PySem.W.subIn K (.ref c5) (.ref c8) = some false)
    (u5_9 : PySem.W.subIn K (.ref c5) (.ref c9) = some false)
    (u5_10 : PySem.W.subIn K (.ref c5) (.ref c10) = some false)
    (u5_11 : PySem.W.subIn K (.ref c5) (.ref c11) = some false)
    (u5_12 : PySem.W.subIn K (.ref c5) (.ref c12) = some false)
    (u6_0 : PySem.W.subIn K (.ref c6) (.ref c0) = some false)
    (u6_1 : PySem.W.subIn K (.ref c6) (.ref c1) = some false)
    (u6_2 : PySem.W.subIn K (.ref c6) (.ref c2) = some false)
    (u6_3 : PySem.W.subIn K (.ref c6) (.ref c3) = some false)
    (u6_4 : PySem.W.subIn K (.ref c6) (.ref c4) = some false)
    (u6_5 : PySem.W.subIn K (.ref c6) (.ref c5) = some false)
    (u6_7 : PySem.W.subIn K (.ref c6) (.ref c7) = some false)
    (u6_8 : PySem.W.subIn K (.ref c6) (.ref c8) = some false)
    (u6_9 : PySem.W.subIn K (.ref c6) (.ref c9) = some false)
    (u6_10 : PySem.W.subIn K (.ref c6) (.ref c10) = some false)
    (u6_11 : PySem.W.subIn K (.ref c6) (.ref c11) = some false)
    (u6_12 : PySem.W.subIn K (.ref c6) (.ref c12) = some false)
    (u7_0 : PySem.W.subIn K (.ref c7) (.ref c0) = some false)
    (u7_1 : PySem.W.subIn K (.ref c7) (.ref c1) = some false)
    (u7_2 : PySem.W.subIn K (.ref c7) (.ref c2) = some false)
    (u7_3 : PySem.W.subIn K (.ref c7) (.ref c3) = some false)
    (u7_4 : PySem.W.subIn K (.ref c7) (.ref c4) = some false)
    (u7_5 : PySem.W.subIn K (.ref c7) (.ref c5) = some false)
    (u7_6 : PySem.W.subIn K (.ref c7) (.ref c6) = some false)
    (u7_8 : PySem.W.subIn K (.ref c7) (.ref c8) = some false)
    (u7_9 : PySem.W.subIn K (.ref c7) (.ref c9) = some false)
    (u7_10 : PySem.W.subIn K (.ref c7) (.ref c10) = some false)
    (u7_11 : PySem.W.subIn K (.ref c7) (.ref c11) = some false)
    (u7_12 : PySem.W.subIn K (.ref c7) (.ref c12) = some false)
    (u8_0 : PySem.W.subIn K (.ref c8) (.ref c0) = some false)
    (u8_1 : PySem.W.subIn K (.ref c8) (.ref c1) = some false)
    (u8_2 : PySem.W.subIn K (.ref c8) (.ref c2) = some false)
    (u8_3 : PySem.W.subIn K (.ref c8) (.ref c3) = some false)
    (u8_4 : PySem.W.subIn K (.ref c8) (.ref c4) = some false)
    (u8_5 : PySem.W.subIn K (.ref c8) (.ref c5) = some false)
    (u8_6 : PySem.W.subIn K (.ref c8) (.ref c6) = some false)
    (u8_7 : PySem.W.subIn K (.ref c8) (.ref c7) = some false)
    (u8_9 : PySem.W.subIn K (.ref c8) (.ref c9) = some false)
    (u8_10 : PySem.W.subIn K (.ref c8) (.ref c10) = some false)
    (u8_11 : PySem.W.subIn K (.ref c8) (.ref c11) = some false)
    (u8_12 : PySem.W.subIn K (.ref c8) (.ref c12) = some false)
    (u9_0 : PySem.W.subIn K (.ref c9) (.ref c0) = some false)
    (u9_1 : PySem.W.subIn K (.ref c9) (.ref c1) = some false)
    (u9_2 : PySem.W.subIn K (.ref c9) (.ref c2) = some false)
    (u9_3 : PySem.W.subIn K (.ref c9) (.ref c3) = some false)
    (u9_4 : PySem.W.subIn K (.ref c9) (.ref c4) = some false)
    (u9_5 : PySem.W.subIn K (.ref c9) (.ref c5) = some false)
    (u9_6 : PySem.W.subIn K (.ref c9) (.ref c6) = some false)
    (u9_7 : PySem.W.subIn K (.ref c9) (.ref c7) = some false)
    (u9_8 : PySem.W.subIn K (.ref c9) (.ref c8) = some false)
    (u9_10 : PySem.W.subIn K (.ref c9) (.ref c10) = some false)
    (u9_11 : PySem.W.subIn K (.ref c9) (.ref c11) = some false)
    (u9_12 : PySem.W.subIn K (.ref c9) (.ref c12) = some false)
    (u10_0 : PySem.W.subIn K (.ref c10) (.ref c0) = some false)
    (u10_1 : PySem.W.subIn K (.ref c10) (.ref c1) = some false)
    (u10_2 : PySem.W.subIn K (.ref c10) (.ref c2) = some false)
    (u10_3 : PySem.W.subIn K (.ref c10) (.ref c3) = some false)
    (u10_4 : PySem.W.subIn K (.ref c10) (.ref c4) = some false)
    (u10_5 : PySem.W.subIn K (.ref c10) (.ref c5) = some false)
    (u10_6 : PySem.W.subIn K (.ref c10) (.ref c6) = some false)
    (u10_7 : PySem.W.subIn K (.ref c10) (.ref c7) = some false)
    (u10_8 : PySem.W.subIn K (.ref c10) (.ref c8) = some false)
    (u10_9 : PySem.W.subIn K (.ref c10) (.ref c9) = some false)
    (u10_11 : PySem.W.subIn K (.ref c10) (.ref c11) = some false)
    (u10_12 : PySem.W.subIn K (.ref c10) (.ref c12) = some false)
    (u11_0 : PySem.W.subIn K (.ref c11) (.ref c0) = some false)
    (u11_1 : PySem.W.subIn K (.ref c11) (.ref c1) = some false)
    (u11_2 : PySem.W.subIn K (.ref c11) (.ref c2) = some false)
    (u11_3 : PySem.W.subIn K (.ref c11) (.ref c3) = some false)
    (u11_4 : PySem.W.subIn K (.ref c11) (.ref c4) = some false)
    (u11_5 : PySem.W.subIn K (.ref c11) (.ref c5) = some false)
    (u11_6 : PySem.W.subIn K (.ref c11) (.ref c6) = some false)
    (u11_7 : PySem.W.subIn K (.ref c11) (.ref c7) = some false)
    (u11_8 : PySem.W.subIn K (.ref c11) (.ref c8) = some false)
    (u11_9 : PySem.W.subIn K (.ref c11) (.ref c9) = some false)
    (u11_10 : PySem.W.subIn K (.ref c11) (.ref c10) = some false)
    (u11_12 : PySem.W.subIn K (.ref c11) (.ref c12) = some false)
    (u12_0 : PySem.W.subIn K (.ref c12) (.ref c0) = some false)
    (u12_1 : PySem.W.subIn K (.ref c12) (.ref c1) = some false)
    (u12_2 : PySem.W.subIn K (.ref c12) (.ref c2) = some false)
    (u12_3 : PySem.W.subIn K (.ref c12) (.ref c3) = some false)
    (u12_4 : PySem.W.subIn K (.ref c12) (.ref c4) = some false)
    (u12_5 : PySem.W.subIn K (.ref c12) (.ref c5) = some false)
    (u12_6 : PySem.W.subIn K (.ref c12) (.ref c6) = some false)
    (u12_7 : PySem.W.subIn K (.ref c12) (.ref c7) = some false)
    (u12_8 : PySem.W.subIn K (.ref c12) (.ref c8) = some false)
    (u12_9 : PySem.W.subIn K (.ref c12) (.ref c9) = some false)
    (u12_10 : PySem.W.subIn K (.ref c12) (.ref c10) = some false)
    (u12_11 : PySem.W.subIn K (.ref c12) (.ref c11) = some false)
    (xn : PySem.W.specialIn K (.builtin "object.__class__") "__get__" = some (some (.builtin "getset_descriptor.__get__")))
    (xt : PySem.W.takesIn K (.builtin "object.__class__") = some true)
    (zisi : PySem.W.nsIn K mainGlobals "isinstance" = some none)
    (zint : PySem.W.nsIn K mainGlobals "int" = some none)
    (zbool : PySem.W.nsIn K mainGlobals "bool" = some none)
    (zlen : PySem.W.nsIn K mainGlobals "len" = some none)
    (ztuple : PySem.W.nsIn K mainGlobals "tuple" = some none)
    (zstr : PySem.W.nsIn K mainGlobals "str" = some none)
    (zlist : PySem.W.nsIn K mainGlobals "list" = some none)
    (zall : PySem.W.nsIn K mainGlobals "all" = some none)
    (zenum : PySem.W.nsIn K mainGlobals "enumerate" = some none)
    (zzip : PySem.W.nsIn K mainGlobals "zip" = some none)
    (zrange : PySem.W.nsIn K mainGlobals "range" = some none)
    (zmax : PySem.W.nsIn K mainGlobals "max" = some none)
    (zmin : PySem.W.nsIn K mainGlobals "min" = some none)
    (zVE : PySem.W.nsIn K mainGlobals "ValueError" = some none) :
    ∃ fd : FuncData, (∀ (s : Shared) (v : Value), BindsTo s fd ⟨[v], []⟩ [("_law_script", v)]) ∧ ∀ base : Heap, K.In base → base.Ns mainGlobals mg → FnOk l.prog w K mg base CX0 5 fa fd ["_law_script"] (spLaw K) := by
  have e := hfa.symm.trans (PySem.W.mg_of X G ad5)
  cases e
  have Fd0 := fun_mk (st := sCellAt) ld0 cd0 kd0
  have Fd1 := fun_mk (st := sDigit) ld1 cd1 kd1
  have Fd2 := fun_mk (st := sMade) ld2 cd2 kd2
  have Fd3 := fun_mk (st := sMarks) ld3 cd3 kd3
  have Fd4 := fun_mk (st := sNamed) ld4 cd4 kd4
  have Fd5 := fun_mk (st := sLaw) ld5 cd5 kd5
  have B : Bt mg := ⟨PySem.W.mg_none_of X G zisi, PySem.W.mg_none_of X G zint, PySem.W.mg_none_of X G zbool, PySem.W.mg_none_of X G zlen, PySem.W.mg_none_of X G ztuple, PySem.W.mg_none_of X G zstr, PySem.W.mg_none_of X G zlist, PySem.W.mg_none_of X G zall, PySem.W.mg_none_of X G zenum, PySem.W.mg_none_of X G zzip, PySem.W.mg_none_of X G zrange, PySem.W.mg_none_of X G zmax⟩
  have b_min := PySem.W.mg_none_of X G zmin
  have b_VE := PySem.W.mg_none_of X G zVE
  refine ⟨PySem.W.fnOf "law" "law" (defArgs sLaw) (defBody sLaw) (defScope sLaw) .none kVd5 dcd5 pmd5 and5 cdd5 ctd5, fun s v => .of_eq rfl, fun base _ _ => ?_⟩
  have LX : LEx K mg C0 := ⟨PySem.W.mg_of X G aL0, gL, tC0, rL, vL⟩
  have P0 : PCl K mg "NoBeat" c0 := ⟨PySem.W.mg_of X G aE0, qE0, kkE0⟩
  have P1 : PCl K mg "NoForm" c1 := ⟨PySem.W.mg_of X G aE1, qE1, kkE1⟩
  have P2 : PCl K mg "NoGates" c2 := ⟨PySem.W.mg_of X G aE2, qE2, kkE2⟩
  have P3 : PCl K mg "NoLags" c3 := ⟨PySem.W.mg_of X G aE3, qE3, kkE3⟩
  have P4 : PCl K mg "NoPaper" c4 := ⟨PySem.W.mg_of X G aE4, qE4, kkE4⟩
  have P5 : PCl K mg "NoRow" c5 := ⟨PySem.W.mg_of X G aE5, qE5, kkE5⟩
  have P6 : PCl K mg "NoStreams" c6 := ⟨PySem.W.mg_of X G aE6, qE6, kkE6⟩
  have P7 : PCl K mg "NoText" c7 := ⟨PySem.W.mg_of X G aE7, qE7, kkE7⟩
  have TT0 : TEx K mg "NoWires" "place" c8 i0 := ⟨PySem.W.mg_of X G aE8, ⟨⟨_, _, _, _, _, _, _, _, _, _, _, _, _, _, _, xE8, by rfl⟩, saE8, eE8, ttE8, kkE8⟩, iE8, ftE8, noE8, ⟨xgE8, xkE8, eE8, xdE8⟩⟩
  have FI0 := fun_mk (st := sI0) lE8 cdE8 kfE8
  have bI0 := FI0.binds (ps := ["self", "place"]) fun _ _ _ _ _ _ us hl => match us, hl with | [_, _], _ => rfl
  have I0 : FCl l.prog w K mg base "NoWires" "place" c8 i0 _ := ⟨TT0, ok_init0 (P := l.prog) (w := w) (base := base) FI0 LX TT0, bI0, fun s me v _ => .of_eq rfl⟩
  have TT1 : TEx K mg "NoRing" "ring" c9 i1 := ⟨PySem.W.mg_of X G aE9, ⟨⟨_, _, _, _, _, _, _, _, _, _, _, _, _, _, _, xE9, by rfl⟩, saE9, eE9, ttE9, kkE9⟩, iE9, ftE9, noE9, ⟨xgE9, xkE9, eE9, xdE9⟩⟩
  have FI1 := fun_mk (st := sI1) lE9 cdE9 kfE9
  have bI1 := FI1.binds (ps := ["self", "ring"]) fun _ _ _ _ _ _ us hl => match us, hl with | [_, _], _ => rfl
  have I1 : FCl l.prog w K mg base "NoRing" "ring" c9 i1 _ := ⟨TT1, ok_init1 (P := l.prog) (w := w) (base := base) FI1 LX TT1, bI1, fun s me v _ => .of_eq rfl⟩
  have TT2 : TEx K mg "NotLet" "wire" c10 i2 := ⟨PySem.W.mg_of X G aE10, ⟨⟨_, _, _, _, _, _, _, _, _, _, _, _, _, _, _, xE10, by rfl⟩, saE10, eE10, ttE10, kkE10⟩, iE10, ftE10, noE10, ⟨xgE10, xkE10, eE10, xdE10⟩⟩
  have FI2 := fun_mk (st := sI2) lE10 cdE10 kfE10
  have bI2 := FI2.binds (ps := ["self", "wire"]) fun _ _ _ _ _ _ us hl => match us, hl with | [_, _], _ => rfl
  have I2 : FCl l.prog w K mg base "NotLet" "wire" c10 i2 _ := ⟨TT2, ok_init2 (P := l.prog) (w := w) (base := base) FI2 LX TT2, bI2, fun s me v _ => .of_eq rfl⟩
  have TT3 : TEx K mg "TooEarly" "rows" c11 i3 := ⟨PySem.W.mg_of X G aE11, ⟨⟨_, _, _, _, _, _, _, _, _, _, _, _, _, _, _, xE11, by rfl⟩, saE11, eE11, ttE11, kkE11⟩, iE11, ftE11, noE11, ⟨xgE11, xkE11, eE11, xdE11⟩⟩
  have FI3 := fun_mk (st := sI3) lE11 cdE11 kfE11
  have bI3 := FI3.binds (ps := ["self", "rows"]) fun _ _ _ _ _ _ us hl => match us, hl with | [_, _], _ => rfl
  have I3 : FCl l.prog w K mg base "TooEarly" "rows" c11 i3 _ := ⟨TT3, ok_init3 (P := l.prog) (w := w) (base := base) FI3 LX TT3, bI3, fun s me v _ => .of_eq rfl⟩
  have TT4 : TEx K mg "NoLagsThere" "bar" c12 i4 := ⟨PySem.W.mg_of X G aE12, ⟨⟨_, _, _, _, _, _, _, _, _, _, _, _, _, _, _, xE12, by rfl⟩, saE12, eE12, ttE12, kkE12⟩, iE12, ftE12, noE12, ⟨xgE12, xkE12, eE12, xdE12⟩⟩
  have FI4 := fun_mk (st := sI4) lE12 cdE12 kfE12
  have bI4 := FI4.binds (ps := ["self", "bar"]) fun _ _ _ _ _ _ us hl => match us, hl with | [_, _], _ => rfl
  have I4 : FCl l.prog w K mg base "NoLagsThere" "bar" c12 i4 _ := ⟨TT4, ok_init4 (P := l.prog) (w := w) (base := base) FI4 LX TT4, bI4, fun s me v _ => .of_eq rfl⟩
  have kkk := all13 (P := fun i C => ∀ (j : Nat) (D : Addr), (Cls c0 c1 c2 c3 c4 c5 c6 c7 c8 c9 c10 c11 c12)[j]? = some D → PySem.W.kitOne K (.ref C) (.ref D) = some (decide (i = j))) (all13 (P := fun j D => PySem.W.kitOne K (.ref c0) (.ref D) = some (decide (0 = j))) (if_pos (beq_self_eq_true _)) (kit_not ciE1 ttE1 sE0 u0_1) (kit_not ciE2 ttE2 sE0 u0_2) (kit_not ciE3 ttE3 sE0 u0_3) (kit_not ciE4 ttE4 sE0 u0_4) (kit_not ciE5 ttE5 sE0 u0_5) (kit_not ciE6 ttE6 sE0 u0_6) (kit_not ciE7 ttE7 sE0 u0_7) (kit_not ciE8 ttE8 sE0 u0_8) (kit_not ciE9 ttE9 sE0 u0_9) (kit_not ciE10 ttE10 sE0 u0_10) (kit_not ciE11 ttE11 sE0 u0_11) (kit_not ciE12 ttE12 sE0 u0_12)) (all13 (P := fun j D => PySem.W.kitOne K (.ref c1) (.ref D) = some (decide (1 = j))) (kit_not ciE0 ttE0 sE1 u1_0) (if_pos (beq_self_eq_true _)) (kit_not ciE2 ttE2 sE1 u1_2) (kit_not ciE3 ttE3 sE1 u1_3) (kit_not ciE4 ttE4 sE1 u1_4) (kit_not ciE5 ttE5 sE1 u1_5) (kit_not ciE6 ttE6 sE1 u1_6) (kit_not ciE7 ttE7 sE1 u1_7) (kit_not ciE8 ttE8 sE1 u1_8) (kit_not ciE9 ttE9 sE1 u1_9) (kit_not ciE10 ttE10 sE1 u1_10) (kit_not ciE11 ttE11 sE1 u1_11) (kit_not ciE12 ttE12 sE1 u1_12)) (all13 (P := fun j D => PySem.W.kitOne K (.ref c2) (.ref D) = some (decide (2 = j))) (kit_not ciE0 ttE0 sE2 u2_0) (kit_not ciE1 ttE1 sE2 u2_1) (if_pos (beq_self_eq_true _)) (kit_not ciE3 ttE3 sE2 u2_3) (kit_not ciE4 ttE4 sE2 u2_4) (kit_not ciE5 ttE5 sE2 u2_5) (kit_not ciE6 ttE6 sE2 u2_6) (kit_not ciE7 ttE7 sE2 u2_7) (kit_not ciE8 ttE8 sE2 u2_8) (kit_not ciE9 ttE9 sE2 u2_9) (kit_not ciE10 ttE10 sE2 u2_10) (kit_not ciE11 ttE11 sE2 u2_11) (kit_not ciE12 ttE12 sE2 u2_12)) (all13 (P := fun j D => PySem.W.kitOne K (.ref c3) (.ref D) = some (decide (3 = j))) (kit_not ciE0 ttE0 sE3 u3_0) (kit_not ciE1 ttE1 sE3 u3_1) (kit_not ciE2 ttE2 sE3 u3_2) (if_pos (beq_self_eq_true _)) (kit_not ciE4 ttE4 sE3 u3_4) (kit_not ciE5 ttE5 sE3 u3_5) (kit_not ciE6 ttE6 sE3 u3_6) (kit_not ciE7 ttE7 sE3 u3_7) (kit_not ciE8 ttE8 sE3 u3_8) (kit_not ciE9 ttE9 sE3 u3_9) (kit_not ciE10 ttE10 sE3 u3_10) (kit_not ciE11 ttE11 sE3 u3_11) (kit_not ciE12 ttE12 sE3 u3_12)) (all13 (P := fun j D => PySem.W.kitOne K (.ref c4) (.ref D) = some (decide (4 = j))) (kit_not ciE0 ttE0 sE4 u4_0) (kit_not ciE1 ttE1 sE4 u4_1) (kit_not ciE2 ttE2 sE4 u4_2) (kit_not ciE3 ttE3 sE4 u4_3) (if_pos (beq_self_eq_true _)) (kit_not ciE5 ttE5 sE4 u4_5) (kit_not ciE6 ttE6 sE4 u4_6) (kit_not ciE7 ttE7 sE4 u4_7) (kit_not ciE8 ttE8 sE4 u4_8) (kit_not ciE9 ttE9 sE4 u4_9) (kit_not ciE10 ttE10 sE4 u4_10) (kit_not ciE11 ttE11 sE4 u4_11) (kit_not ciE12 ttE12 sE4 u4_12)) (all13 (P := fun j D => PySem.W.kitOne K (.ref c5) (.ref D) = some (decide (5 = j))) (kit_not ciE0 ttE0 sE5 u5_0) (kit_not ciE1 ttE1 sE5 u5_1) (kit_not ciE2 ttE2 sE5 u5_2) (kit_not ciE3 ttE3 sE5 u5_3) (kit_not ciE4 ttE4 sE5 u5_4) (if_pos (beq_self_eq_true _)) (kit_not ciE6 ttE6 sE5 u5_6) (kit_not ciE7 ttE7 sE5 u5_7) (kit_not ciE8 ttE8 sE5 u5_8) (kit_not ciE9 ttE9 sE5 u5_9) (kit_not ciE10 ttE10 sE5 u5_10) (kit_not ciE11 ttE11 sE5 u5_11) (kit_not ciE12 ttE12 sE5 u5_12)) (all13 (P := fun j D => PySem.W.kitOne K (.ref c6) (.ref D) = some (decide (6 = j))) (kit_not ciE0 ttE0 sE6 u6_0) (kit_not ciE1 ttE1 sE6 u6_1) (kit_not ciE2 ttE2 sE6 u6_2) (kit_not ciE3 ttE3 sE6 u6_3) (kit_not ciE4 ttE4 sE6 u6_4) (kit_not ciE5 ttE5 sE6 u6_5) (if_pos (beq_self_eq_true _)) (kit_not ciE7 ttE7 sE6 u6_7) (kit_not ciE8 ttE8 sE6 u6_8) (kit_not ciE9 ttE9 sE6 u6_9) (kit_not ciE10 ttE10 sE6 u6_10) (kit_not ciE11 ttE11 sE6 u6_11) (kit_not ciE12 ttE12 sE6 u6_12)) (all13 (P := fun j D => PySem.W.kitOne K (.ref c7) (.ref D) = some (decide (7 = j))) (kit_not ciE0 ttE0 sE7 u7_0) (kit_not ciE1 ttE1 sE7 u7_1) (kit_not ciE2 ttE2 sE7 u7_2) (kit_not ciE3 ttE3 sE7 u7_3) (kit_not ciE4 ttE4 sE7 u7_4) (kit_not ciE5 ttE5 sE7 u7_5) (kit_not ciE6 ttE6 sE7 u7_6) (if_pos (beq_self_eq_true _)) (kit_not ciE8 ttE8 sE7 u7_8) (kit_not ciE9 ttE9 sE7 u7_9) (kit_not ciE10 ttE10 sE7 u7_10) (kit_not ciE11 ttE11 sE7 u7_11) (kit_not ciE12 ttE12 sE7 u7_12)) (all13 (P := fun j D => PySem.W.kitOne K (.ref c8) (.ref D) = some (decide (8 = j))) (kit_not ciE0 ttE0 sE8 u8_0) (kit_not ciE1 ttE1 sE8 u8_1) (kit_not ciE2 ttE2 sE8 u8_2) (kit_not ciE3 ttE3 sE8 u8_3) (kit_not ciE4 ttE4 sE8 u8_4) (kit_not ciE5 ttE5 sE8 u8_5) (kit_not ciE6 ttE6 sE8 u8_6) (kit_not ciE7 ttE7 sE8 u8_7) (if_pos (beq_self_eq_true _)) (kit_not ciE9 ttE9 sE8 u8_9) (kit_not ciE10 ttE10 sE8 u8_10) (kit_not ciE11 ttE11 sE8 u8_11) (kit_not ciE12 ttE12 sE8 u8_12)) (all13 (P := fun j D => PySem.W.kitOne K (.ref c9) (.ref D) = some (decide (9 = j))) (kit_not ciE0 ttE0 sE9 u9_0) (kit_not ciE1 ttE1 sE9 u9_1) (kit_not ciE2 ttE2 sE9 u9_2) (kit_not ciE3 ttE3 sE9 u9_3) (kit_not ciE4 ttE4 sE9 u9_4) (kit_not ciE5 ttE5 sE9 u9_5) (kit_not ciE6 ttE6 sE9 u9_6) (kit_not ciE7 ttE7 sE9 u9_7) (kit_not ciE8 ttE8 sE9 u9_8) (if_pos (beq_self_eq_true _)) (kit_not ciE10 ttE10 sE9 u9_10) (kit_not ciE11 ttE11 sE9 u9_11) (kit_not ciE12 ttE12 sE9 u9_12)) (all13 (P := fun j D => PySem.W.kitOne K (.ref c10) (.ref D) = some (decide (10 = j))) (kit_not ciE0 ttE0 sE10 u10_0) (kit_not ciE1 ttE1 sE10 u10_1) (kit_not ciE2 ttE2 sE10 u10_2) (kit_not ciE3 ttE3 sE10 u10_3) (kit_not ciE4 ttE4 sE10 u10_4) (kit_not ciE5 ttE5 sE10 u10_5) (kit_not ciE6 ttE6 sE10 u10_6) (kit_not ciE7 ttE7 sE10 u10_7) (kit_not ciE8 ttE8 sE10 u10_8) (kit_not ciE9 ttE9 sE10 u10_9) (if_pos (beq_self_eq_true _)) (kit_not ciE11 ttE11 sE10 u10_11) (kit_not ciE12 ttE12 sE10 u10_12)) (all13 (P := fun j D => PySem.W.kitOne K (.ref c11) (.ref D) = some (decide (11 = j))) (kit_not ciE0 ttE0 sE11 u11_0) (kit_not ciE1 ttE1 sE11 u11_1) (kit_not ciE2 ttE2 sE11 u11_2) (kit_not ciE3 ttE3 sE11 u11_3) (kit_not ciE4 ttE4 sE11 u11_4) (kit_not ciE5 ttE5 sE11 u11_5) (kit_not ciE6 ttE6 sE11 u11_6) (kit_not ciE7 ttE7 sE11 u11_7) (kit_not ciE8 ttE8 sE11 u11_8) (kit_not ciE9 ttE9 sE11 u11_9) (kit_not ciE10 ttE10 sE11 u11_10) (if_pos (beq_self_eq_true _)) (kit_not ciE12 ttE12 sE11 u11_12)) (all13 (P := fun j D => PySem.W.kitOne K (.ref c12) (.ref D) = some (decide (12 = j))) (kit_not ciE0 ttE0 sE12 u12_0) (kit_not ciE1 ttE1 sE12 u12_1) (kit_not ciE2 ttE2 sE12 u12_2) (kit_not ciE3 ttE3 sE12 u12_3) (kit_not ciE4 ttE4 sE12 u12_4) (kit_not ciE5 ttE5 sE12 u12_5) (kit_not ciE6 ttE6 sE12 u12_6) (kit_not ciE7 ttE7 sE12 u12_7) (kit_not ciE8 ttE8 sE12 u12_8) (kit_not ciE9 ttE9 sE12 u12_9) (kit_not ciE10 ttE10 sE12 u12_10) (kit_not ciE11 ttE11 sE12 u12_11) (if_pos (beq_self_eq_true _)))
  have R : E13 K mg C0 c0 c1 c2 c3 c4 c5 c6 c7 c8 c9 c10 c11 c12 := ⟨PySem.W.mg_of X G aE0, PySem.W.mg_of X G aE1, PySem.W.mg_of X G aE2, PySem.W.mg_of X G aE3, PySem.W.mg_of X G aE4, PySem.W.mg_of X G aE5, PySem.W.mg_of X G aE6, PySem.W.mg_of X G aE7, PySem.W.mg_of X G aE8, PySem.W.mg_of X G aE9, PySem.W.mg_of X G aE10, PySem.W.mg_of X G aE11, PySem.W.mg_of X G aE12, B.isi, PySem.W.mg_of X G aL0, b_VE, mem13 (P := fun C => ExcC K C) ⟨xgE0, xkE0, eE0, xdE0, xaE0, xn, xt, xmE0⟩ ⟨xgE1, xkE1, eE1, xdE1, xaE1, xn, xt, xmE1⟩ ⟨xgE2, xkE2, eE2, xdE2, xaE2, xn, xt, xmE2⟩ ⟨xgE3, xkE3, eE3, xdE3, xaE3, xn, xt, xmE3⟩ ⟨xgE4, xkE4, eE4, xdE4, xaE4, xn, xt, xmE4⟩ ⟨xgE5, xkE5, eE5, xdE5, xaE5, xn, xt, xmE5⟩ ⟨xgE6, xkE6, eE6, xdE6, xaE6, xn, xt, xmE6⟩ ⟨xgE7, xkE7, eE7, xdE7, xaE7, xn, xt, xmE7⟩ ⟨xgE8, xkE8, eE8, xdE8, xaE8, xn, xt, xmE8⟩ ⟨xgE9, xkE9, eE9, xdE9, xaE9, xn, xt, xmE9⟩ ⟨xgE10, xkE10, eE10, xdE10, xaE10, xn, xt, xmE10⟩ ⟨xgE11, xkE11, eE11, xdE11, xaE11, xn, xt, xmE11⟩ ⟨xgE12, xkE12, eE12, xdE12, xaE12, xn, xt, xmE12⟩, mem13 (P := fun C => PySem.W.kitOne K (.ref C) (.ref C0) = some true) (kit_yes iC0 tC0 s0E0) (kit_yes iC0 tC0 s0E1) (kit_yes iC0 tC0 s0E2) (kit_yes iC0 tC0 s0E3) (kit_yes iC0 tC0 s0E4) (kit_yes iC0 tC0 s0E5) (kit_yes iC0 tC0 s0E6) (kit_yes iC0 tC0 s0E7) (kit_yes iC0 tC0 s0E8) (kit_yes iC0 tC0 s0E9) (kit_yes iC0 tC0 s0E10) (kit_yes iC0 tC0 s0E11) (kit_yes iC0 tC0 s0E12), mem13 (P := fun C => PySem.W.kitOne K (.ref C) (.type "ValueError") = some true) (kit_type (by decide +kernel) vE0) (kit_type (by decide +kernel) vE1) (kit_type (by decide +kernel) vE2) (kit_type (by decide +kernel) vE3) (kit_type (by decide +kernel) vE4) (kit_type (by decide +kernel) vE5) (kit_type (by decide +kernel) vE6) (kit_type (by decide +kernel) vE7) (kit_type (by decide +kernel) vE8) (kit_type (by decide +kernel) vE9) (kit_type (by decide +kernel) vE10) (kit_type (by decide +kernel) vE11) (kit_type (by decide +kernel) vE12), fun i j C D hi hj => kkk i C hi j D hj⟩
  have bd2 := Fd2.binds (ps := ["_law_word", "_law_thing"]) fun _ _ _ _ _ _ us hl => match us, hl with | [_, _], _ => rfl
  have bd3 := Fd3.binds (ps := ["_law_one"]) fun _ _ _ _ _ _ us hl => match us, hl with | [_], _ => rfl
  have bd4 := Fd4.binds (ps := ["_law_thing"]) fun _ _ _ _ _ _ us hl => match us, hl with | [_], _ => rfl
  have ca := ok_cellAt (P := l.prog) (w := w) (base := base) Fd0 (PySem.W.mg_of X G ad0) B.len
  have dg := ok_digit (P := l.prog) (w := w) (base := base) Fd1 (PySem.W.mg_of X G ad1) B
  have ma := ok_made (P := l.prog) (w := w) (base := base) (C0 := C0) Fd2 B P0 P1 P2 P3 P4 P5 P6 P7 I0 I1 I2 I3 I4
  have mk := ok_marks (P := l.prog) (w := w) (base := base) Fd3 B R
  have nm := ok_named (P := l.prog) (w := w) (base := base) (C0 := C0) (c0 := c0) (c1 := c1) (c2 := c2) (c3 := c3) (c4 := c4) (c5 := c5) (c6 := c6) (c7 := c7) (c8 := c8) (c9 := c9) (c10 := c10) (c11 := c11) (c12 := c12) Fd4 B I0 I1 I2 I3 I4
  exact ok_law Fd5 B b_min R ca dg (PySem.W.mg_of X G ad2) kd2 bd2 ma (PySem.W.mg_of X G ad3) kd3 bd3 mk (PySem.W.mg_of X G ad4) kd4 bd4 nm
end Lag

set_option maxRecDepth 100000
open PySem PySem.W PyProof.Rows
set_option maxRecDepth 100000 in
set_option maxHeartbeats 0 in
theorem PySem.Challenge.cw_lagshift_k30_refusals_apart_holds : PySem.Challenge.rw_lagshift_k30_refusals_apart.Holds := by
  w_on; o_law; k_head; (case hw => w_witness2)
  k_fill
  refine L2.walk_of (l := PySem.Challenge.rw_lagshift_k30_refusals_apart) (n := 63) (k := 5) (x := "_law_script") (CX := fun _ => L2.CX0) (sp := fun w => Lag.spLaw _) rfl (by decide) rfl ⟨rfl, by decide, by decide⟩ (fun w h Y => PySem.W.kIn_of Y) ?F (fun _ _ a ns hl _ hS => ⟨a, ns, rfl, hS, hl, fun _ => rfl⟩) (fun _ _ _ _ _ h => h)
  case F =>
    intro w mg fa h KX G hmg
    refine' Lag.all_mk KX G hmg ?ad0 ?ld0 ?cd0 ?kd0 ?ad1 ?ld1 ?cd1 ?kd1 ?ad2 ?ld2 ?cd2 ?kd2 ?ad3 ?ld3 ?cd3 ?kd3 ?ad4 ?ld4 ?cd4 ?kd4 ?ad5 ?ld5 ?cd5 ?kd5 ?aL0 ?gL ?rL ?vL ?iC0 ?tC0 ?aE0 ?qE0 ?kkE0 ?eE0 ?ttE0 ?ciE0 ?sE0 ?xgE0 ?xkE0 ?xdE0 ?xaE0 ?xmE0 ?s0E0 ?aE1 ?qE1 ?kkE1 ?eE1 ?ttE1 ?ciE1 ?sE1 ?xgE1 ?xkE1 ?xdE1 ?xaE1 ?xmE1 ?s0E1 ?aE2 ?qE2 ?kkE2 ?eE2 ?ttE2 ?ciE2 ?sE2 ?xgE2 ?xkE2 ?xdE2 ?xaE2 ?xmE2 ?s0E2 ?aE3 ?qE3 ?kkE3 ?eE3 ?ttE3 ?ciE3 ?sE3 ?xgE3 ?xkE3 ?xdE3 ?xaE3 ?xmE3 ?s0E3 ?aE4 ?qE4 ?kkE4 ?eE4 ?ttE4 ?ciE4 ?sE4 ?xgE4 ?xkE4 ?xdE4 ?xaE4 ?xmE4 ?s0E4 ?aE5 ?qE5 ?kkE5 ?eE5 ?ttE5 ?ciE5 ?sE5 ?xgE5 ?xkE5 ?xdE5 ?xaE5 ?xmE5 ?s0E5 ?aE6 ?qE6 ?kkE6 ?eE6 ?ttE6 ?ciE6 ?sE6 ?xgE6 ?xkE6 ?xdE6 ?xaE6 ?xmE6 ?s0E6 ?aE7 ?qE7 ?kkE7 ?eE7 ?ttE7 ?ciE7 ?sE7 ?xgE7 ?xkE7 ?xdE7 ?xaE7 ?xmE7 ?s0E7 ?aE8 ?xE8 ?saE8 ?noE8 ?iE8 ?ftE8 ?lE8 ?cdE8 ?kfE8 ?kkE8 ?eE8 ?ttE8 ?ciE8 ?sE8 ?xgE8 ?xkE8 ?xdE8 ?xaE8 ?xmE8 ?s0E8 ?aE9 ?xE9 ?saE9 ?noE9 ?iE9 ?ftE9 ?lE9 ?cdE9 ?kfE9 ?kkE9 ?eE9 ?ttE9 ?ciE9 ?sE9 ?xgE9 ?xkE9 ?xdE9 ?xaE9 ?xmE9 ?s0E9 ?aE10 ?xE10 ?saE10 ?noE10 ?iE10 ?ftE10 ?lE10 ?cdE10 ?kfE10 ?kkE10 ?eE10 ?ttE10 ?ciE10 ?sE10 ?xgE10 ?xkE10 ?xdE10 ?xaE10 ?xmE10 ?s0E10 ?aE11 ?xE11 ?saE11 ?noE11 ?iE11 ?ftE11 ?lE11 ?cdE11 ?kfE11 ?kkE11 ?eE11 ?ttE11 ?ciE11 ?sE11 ?xgE11 ?xkE11 ?xdE11 ?xaE11 ?xmE11 ?s0E11 ?aE12 ?xE12 ?saE12 ?noE12 ?iE12 ?ftE12 ?lE12 ?cdE12 ?kfE12 ?kkE12 ?eE12 ?ttE12 ?ciE12 ?sE12 ?xgE12 ?xkE12 ?xdE12 ?xaE12 ?xmE12 ?s0E12 ?vE0 ?vE1 ?vE2 ?vE3 ?vE4 ?vE5 ?vE6 ?vE7 ?vE8 ?vE9 ?vE10 ?vE11 ?vE12 ?u0_1 ?u0_2 ?u0_3 ?u0_4 ?u0_5 ?u0_6 ?u0_7 ?u0_8 ?u0_9 ?u0_10 ?u0_11 ?u0_12 ?u1_0 ?u1_2 ?u1_3 ?u1_4 ?u1_5 ?u1_6 ?u1_7 ?u1_8 ?u1_9 ?u1_10 ?u1_11 ?u1_12 ?u2_0 ?u2_1 ?u2_3 ?u2_4 ?u2_5 ?u2_6 ?u2_7 ?u2_8 ?u2_9 ?u2_10 ?u2_11 ?u2_12 ?u3_0 ?u3_1 ?u3_2 ?u3_4 ?u3_5 ?u3_6 ?u3_7 ?u3_8 ?u3_9 ?u3_10 ?u3_11 ?u3_12 ?u4_0 ?u4_1 ?u4_2 ?u4_3 ?u4_5 ?u4_6 ?u4_7 ?u4_8 ?u4_9 ?u4_10 ?u4_11 ?u4_12 ?u5_0 ?u5_1 ?u5_2 ?u5_3 ?u5_4 ?u5_6 ?u5_7 ?u5_8 ?u5_9 ?u5_10 ?u5_11 ?u5_12 ?u6_0 ?u6_1 ?u6_2 ?u6_3 ?u6_4 ?u6_5 ?u6_7 ?u6_8 ?u6_9 ?u6_10 ?u6_11 ?u6_12 ?u7_0 ?u7_1 ?u7_2 ?u7_3 ?u7_4 ?u7_5 ?u7_6 ?u7_8 ?u7_9 ?u7_10 ?u7_11 ?u7_12 ?u8_0 ?u8_1 ?u8_2 ?u8_3 ?u8_4 ?u8_5 ?u8_6 ?u8_7 ?u8_9 ?u8_10 ?u8_11 ?u8_12 ?u9_0 ?u9_1 ?u9_2 ?u9_3 ?u9_4 ?u9_5 ?u9_6 ?u9_7 ?u9_8 ?u9_10 ?u9_11 ?u9_12 ?u10_0 ?u10_1 ?u10_2 ?u10_3 ?u10_4 ?u10_5 ?u10_6 ?u10_7 ?u10_8 ?u10_9 ?u10_11 ?u10_12 ?u11_0 ?u11_1 ?u11_2 ?u11_3 ?u11_4 ?u11_5 ?u11_6 ?u11_7 ?u11_8 ?u11_9 ?u11_10 ?u11_12 ?u12_0 ?u12_1 ?u12_2 ?u12_3 ?u12_4 ?u12_5 ?u12_6 ?u12_7 ?u12_8 ?u12_9 ?u12_10 ?u12_11 ?xn ?xt ?zisi ?zint ?zbool ?zlen ?ztuple ?zstr ?zlist ?zall ?zenum ?zzip ?zrange ?zmax ?zmin ?zVE
    (case ad0 => k_is)
    (case ld0 => k_is)
    (case cd0 => k_is)
    (case kd0 => k_is)
    (case ad1 => k_is)
    (case ld1 => k_is)
    (case cd1 => k_is)
    (case kd1 => k_is)
    (case ad2 => k_is)
    (case ld2 => k_is)
    (case cd2 => k_is)
    (case kd2 => k_is)
    (case ad3 => k_is)
    (case ld3 => k_is)
    (case cd3 => k_is)
    (case kd3 => k_is)
    (case ad4 => k_is)
    (case ld4 => k_is)
    (case cd4 => k_is)
    (case kd4 => k_is)
    (case ad5 => k_is)
    (case ld5 => k_is)
    (case cd5 => k_is)
    (case kd5 => k_is)
    (case aL0 => k_is)
    (case gL => k_is)
    (case rL => k_is)
    (case vL => k_is)
    (case iC0 => k_is)
    (case tC0 => k_is)
    (case aE0 => k_is)
    (case qE0 => k_exc)
    (case kkE0 => k_is)
    (case eE0 => k_is)
    (case ttE0 => k_is)
    (case ciE0 => k_is)
    (case sE0 => first | rfl | k_is)
    (case xgE0 => k_is)
    (case xkE0 => k_is)
    (case xdE0 => k_is)
    (case xaE0 => k_is)
    (case xmE0 => k_is)
    (case s0E0 => k_is)
    (case aE1 => k_is)
    (case qE1 => k_exc)
    (case kkE1 => k_is)
    (case eE1 => k_is)
    (case ttE1 => k_is)
    (case ciE1 => k_is)
    (case sE1 => first | rfl | k_is)
    (case xgE1 => k_is)
    (case xkE1 => k_is)
    (case xdE1 => k_is)
    (case xaE1 => k_is)
    (case xmE1 => k_is)
    (case s0E1 => k_is)
    (case aE2 => k_is)
    (case qE2 => k_exc)
    (case kkE2 => k_is)
    (case eE2 => k_is)
    (case ttE2 => k_is)
    (case ciE2 => k_is)
    (case sE2 => first | rfl | k_is)
    (case xgE2 => k_is)
    (case xkE2 => k_is)
    (case xdE2 => k_is)
    (case xaE2 => k_is)
    (case xmE2 => k_is)
    (case s0E2 => k_is)
    (case aE3 => k_is)
    (case qE3 => k_exc)
    (case kkE3 => k_is)
    (case eE3 => k_is)
    (case ttE3 => k_is)
    (case ciE3 => k_is)
    (case sE3 => first | rfl | k_is)
    (case xgE3 => k_is)
    (case xkE3 => k_is)
    (case xdE3 => k_is)
    (case xaE3 => k_is)
    (case xmE3 => k_is)
    (case s0E3 => k_is)
    (case aE4 => k_is)
    (case qE4 => k_exc)
    (case kkE4 => k_is)
    (case eE4 => k_is)
    (case ttE4 => k_is)
    (case ciE4 => k_is)
    (case sE4 => first | rfl | k_is)
    (case xgE4 => k_is)
    (case xkE4 => k_is)
    (case xdE4 => k_is)
    (case xaE4 => k_is)
    (case xmE4 => k_is)
    (case s0E4 => k_is)
    (case aE5 => k_is)
    (case qE5 => k_exc)
    (case kkE5 => k_is)
    (case eE5 => k_is)
    (case ttE5 => k_is)
    (case ciE5 => k_is)
    (case sE5 => first | rfl | k_is)
    (case xgE5 => k_is)
    (case xkE5 => k_is)
    (case xdE5 => k_is)
    (case xaE5 => k_is)
    (case xmE5 => k_is)
    (case s0E5 => k_is)
    (case aE6 => k_is)
    (case qE6 => k_exc)
    (case kkE6 => k_is)
    (case eE6 => k_is)
    (case ttE6 => k_is)
    (case ciE6 => k_is)
    (case sE6 => first | rfl | k_is)
    (case xgE6 => k_is)
    (case xkE6 => k_is)
    (case xdE6 => k_is)
    (case xaE6 => k_is)
    (case xmE6 => k_is)
    (case s0E6 => k_is)
    (case aE7 => k_is)
    (case qE7 => k_exc)
    (case kkE7 => k_is)
    (case eE7 => k_is)
    (case ttE7 => k_is)
    (case ciE7 => k_is)
    (case sE7 => first | rfl | k_is)
    (case xgE7 => k_is)
    (case xkE7 => k_is)
    (case xdE7 => k_is)
    (case xaE7 => k_is)
    (case xmE7 => k_is)
    (case s0E7 => k_is)
    (case aE8 => k_is)
    (case xE8 => k_is)
    (case saE8 => k_is)
    (case noE8 => k_is)
    (case iE8 => k_is)
    (case ftE8 => k_is)
    (case lE8 => k_is)
    (case cdE8 => k_is)
    (case kfE8 => k_is)
    (case kkE8 => k_is)
    (case eE8 => k_is)
    (case ttE8 => k_is)
    (case ciE8 => k_is)
    (case sE8 => first | rfl | k_is)
    (case xgE8 => k_is)
    (case xkE8 => k_is)
    (case xdE8 => k_is)
    (case xaE8 => k_is)
    (case xmE8 => k_is)
    (case s0E8 => k_is)
    (case aE9 => k_is)
    (case xE9 => k_is)
    (case saE9 => k_is)
    (case noE9 => k_is)
    (case iE9 => k_is)
    (case ftE9 => k_is)
    (case lE9 => k_is)
    (case cdE9 => k_is)
    (case kfE9 => k_is)
    (case kkE9 => k_is)
    (case eE9 => k_is)
    (case ttE9 => k_is)
    (case ciE9 => k_is)
    (case sE9 => first | rfl | k_is)
    (case xgE9 => k_is)
    (case xkE9 => k_is)
    (case xdE9 => k_is)
    (case xaE9 => k_is)
    (case xmE9 => k_is)
    (case s0E9 => k_is)
    (case aE10 => k_is)
    (case xE10 => k_is)
    (case saE10 => k_is)
    (case noE10 => k_is)
    (case iE10 => k_is)
    (case ftE10 => k_is)
    (case lE10 => k_is)
    (case cdE10 => k_is)
    (case kfE10 => k_is)
    (case kkE10 => k_is)
    (case eE10 => k_is)
    (case ttE10 => k_is)
    (case ciE10 => k_is)
    (case sE10 => first | rfl | k_is)
    (case xgE10 => k_is)
    (case xkE10 => k_is)
    (case xdE10 => k_is)
    (case xaE10 => k_is)
    (case xmE10 => k_is)
    (case s0E10 => k_is)
    (case aE11 => k_is)
    (case xE11 => k_is)
    (case saE11 => k_is)
    (case noE11 => k_is)
    (case iE11 => k_is)
    (case ftE11 => k_is)
    (case lE11 => k_is)
    (case cdE11 => k_is)
    (case kfE11 => k_is)
    (case kkE11 => k_is)
    (case eE11 => k_is)
    (case ttE11 => k_is)
    (case ciE11 => k_is)
    (case sE11 => first | rfl | k_is)
    (case xgE11 => k_is)
    (case xkE11 => k_is)
    (case xdE11 => k_is)
    (case xaE11 => k_is)
    (case xmE11 => k_is)
    (case s0E11 => k_is)
    (case aE12 => k_is)
    (case xE12 => k_is)
    (case saE12 => k_is)
    (case noE12 => k_is)
    (case iE12 => k_is)
    (case ftE12 => k_is)
    (case lE12 => k_is)
    (case cdE12 => k_is)
    (case kfE12 => k_is)
    (case kkE12 => k_is)
    (case eE12 => k_is)
    (case ttE12 => k_is)
    (case ciE12 => k_is)
    (case sE12 => first | rfl | k_is)
    (case xgE12 => k_is)
    (case xkE12 => k_is)
    (case xdE12 => k_is)
    (case xaE12 => k_is)
    (case xmE12 => k_is)
    (case s0E12 => k_is)
    (case vE0 => k_is)
    (case vE1 => k_is)
    (case vE2 => k_is)
    (case vE3 => k_is)
    (case vE4 => k_is)
    (case vE5 => k_is)
    (case vE6 => k_is)
    (case vE7 => k_is)
    (case vE8 => k_is)
    (case vE9 => k_is)
    (case vE10 => k_is)
    (case vE11 => k_is)
    (case vE12 => k_is)
    (case u0_1 => k_is)
    (case u0_2 => k_is)
    (case u0_3 => k_is)
    (case u0_4 => k_is)
    (case u0_5 => k_is)
    (case u0_6 => k_is)
    (case u0_7 => k_is)
    (case u0_8 => k_is)
    (case u0_9 => k_is)
    (case u0_10 => k_is)
    (case u0_11 => k_is)
    (case u0_12 => k_is)
    (case u1_0 => k_is)
    (case u1_2 => k_is)
    (case u1_3 => k_is)
    (case u1_4 => k_is)
    (case u1_5 => k_is)
    (case u1_6 => k_is)
    (case u1_7 => k_is)
    (case u1_8 => k_is)
    (case u1_9 => k_is)
    (case u1_10 => k_is)
    (case u1_11 => k_is)
    (case u1_12 => k_is)
    (case u2_0 => k_is)
    (case u2_1 => k_is)
    (case u2_3 => k_is)
    (case u2_4 => k_is)
    (case u2_5 => k_is)
    (case u2_6 => k_is)
    (case u2_7 => k_is)
    (case u2_8 => k_is)
    (case u2_9 => k_is)
    (case u2_10 => k_is)
    (case u2_11 => k_is)
    (case u2_12 => k_is)
    (case u3_0 => k_is)
    (case u3_1 => k_is)
    (case u3_2 => k_is)
    (case u3_4 => k_is)
    (case u3_5 => k_is)
    (case u3_6 => k_is)
    (case u3_7 => k_is)
    (case u3_8 => k_is)
    (case u3_9 => k_is)
    (case u3_10 => k_is)
    (case u3_11 => k_is)
    (case u3_12 => k_is)
    (case u4_0 => k_is)
    (case u4_1 => k_is)
    (case u4_2 => k_is)
    (case u4_3 => k_is)
    (case u4_5 => k_is)
    (case u4_6 => k_is)
    (case u4_7 => k_is)
    (case u4_8 => k_is)
    (case u4_9 => k_is)
    (case u4_10 => k_is)
    (case u4_11 => k_is)
    (case u4_12 => k_is)
    (case u5_0 => k_is)
    (case u5_1 => k_is)
    (case u5_2 => k_is)
    (case u5_3 => k_is)
    (case u5_4 => k_is)
    (case u5_6 => k_is)
    (case u5_7 => k_is)
    (case u5_8 => k_is)
    (case u5_9 => k_is)
    (case u5_10 => k_is)
    (case u5_11 => k_is)
    (case u5_12 => k_is)
    (case u6_0 => k_is)
    (case u6_1 => k_is)
    (case u6_2 => k_is)
    (case u6_3 => k_is)
    (case u6_4 => k_is)
    (case u6_5 => k_is)
    (case u6_7 => k_is)
    (case u6_8 => k_is)
    (case u6_9 => k_is)
    (case u6_10 => k_is)
    (case u6_11 => k_is)
    (case u6_12 => k_is)
    (case u7_0 => k_is)
    (case u7_1 => k_is)
    (case u7_2 => k_is)
    (case u7_3 => k_is)
    (case u7_4 => k_is)
    (case u7_5 => k_is)
    (case u7_6 => k_is)
    (case u7_8 => k_is)
    (case u7_9 => k_is)
    (case u7_10 => k_is)
    (case u7_11 => k_is)
    (case u7_12 => k_is)
    (case u8_0 => k_is)
    (case u8_1 => k_is)
    (case u8_2 => k_is)
    (case u8_3 => k_is)
    (case u8_4 => k_is)
    (case u8_5 => k_is)
    (case u8_6 => k_is)
    (case u8_7 => k_is)
    (case u8_9 => k_is)
    (case u8_10 => k_is)
    (case u8_11 => k_is)
    (case u8_12 => k_is)
    (case u9_0 => k_is)
    (case u9_1 => k_is)
    (case u9_2 => k_is)
    (case u9_3 => k_is)
    (case u9_4 => k_is)
    (case u9_5 => k_is)
    (case u9_6 => k_is)
    (case u9_7 => k_is)
    (case u9_8 => k_is)
    (case u9_10 => k_is)
    (case u9_11 => k_is)
    (case u9_12 => k_is)
    (case u10_0 => k_is)
    (case u10_1 => k_is)
    (case u10_2 => k_is)
    (case u10_3 => k_is)
    (case u10_4 => k_is)
    (case u10_5 => k_is)
    (case u10_6 => k_is)
    (case u10_7 => k_is)
    (case u10_8 => k_is)
    (case u10_9 => k_is)
    (case u10_11 => k_is)
    (case u10_12 => k_is)
    (case u11_0 => k_is)
    (case u11_1 => k_is)
    (case u11_2 => k_is)
    (case u11_3 => k_is)
    (case u11_4 => k_is)
    (case u11_5 => k_is)
    (case u11_6 => k_is)
    (case u11_7 => k_is)
    (case u11_8 => k_is)
    (case u11_9 => k_is)
    (case u11_10 => k_is)
    (case u11_12 => k_is)
    (case u12_0 => k_is)
    (case u12_1 => k_is)
    (case u12_2 => k_is)
    (case u12_3 => k_is)
    (case u12_4 => k_is)
    (case u12_5 => k_is)
    (case u12_6 => k_is)
    (case u12_7 => k_is)
    (case u12_8 => k_is)
    (case u12_9 => k_is)
    (case u12_10 => k_is)
    (case u12_11 => k_is)
    (case xn => k_is)
    (case xt => k_is)
    (case zisi => k_is)
    (case zint => k_is)
    (case zbool => k_is)
    (case zlen => k_is)
    (case ztuple => k_is)
    (case zstr => k_is)
    (case zlist => k_is)
    (case zall => k_is)
    (case zenum => k_is)
    (case zzip => k_is)
    (case zrange => k_is)
    (case zmax => k_is)
    (case zmin => k_is)
    (case zVE => k_is)

