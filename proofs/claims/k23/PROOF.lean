import PyProof.Rows.All
import Wide.All
import OpenK.AllK
import Wide.FinOn
import HandS.ForMost
import HandS.IsInst
import HandS.Evl
import HandS.Flow
import HandS.Conv
import HandS.Wide
import HandS.Walk
import HandS.Zip
import HandS.OwnEq
import HandS.Style
import HandS.TupAny
import KE.KMinKey
import HandS.SortKw
import HandS.WordsExc
import HandS.ExcOwn
import HandS.ExcField
import HandS.TryOnly
import HandS.ExcIs
import HandS.Lambda
import HandS.EndOwn
import KE.KNestM
import PySem.Challenge.RW_lagshift_k23_the_beat_of_a_net
set_option Elab.async false
set_option linter.all false
set_option maxRecDepth 100000
set_option maxHeartbeats 4000000
namespace Lag
open PySem PySem.Spec PyProof.Rows L2
/-! ### the text by its places -/
def topS (i : Nat) : Stmt := PySem.Challenge.pw_lagshift_k23_the_beat_of_a_net.main.body.getD i (.Pass ⟨0, 0, 0, 0⟩)
abbrev sCellAt : Stmt := topS 47 -- @_law_cell_at
/-! ### heaps -/
/-- all stands as it stood but at w -/
def But (w : Addr) (H H' : Hp) : Prop := ∀ b o, b ≠ w → H b = some o → H' b = some o
theorem But.refl (w : Addr) (H : Hp) : But w H H := fun _ _ _ h => h
theorem But.trans {w : Addr} {H H1 H2 : Hp} (a : But w H H1) (b : But w H1 H2) : But w H H2 := fun c o n h => b c o n (a c o n h)
theorem But.same {w : Addr} {H H1 : Hp} (a : Same H H1) : But w H H1 := fun c o _ h => a c o h
theorem But.upd {w : Addr} {H : Hp} {o : HO} : But w H (upd H w o) := fun c u n h => by rw [upd_ne n]; exact h
theorem But.new {w p : Addr} {H : Hp} {o : HO} (h : H p = none) : But w H (L2.upd H p o) := fun c u n e => by rw [upd_ne (ne_of_none e h)]; exact e
theorem same_new {H : Hp} {p : Addr} {o : HO} (h : H p = none) : Same H (upd H p o) := fun b x e => by rw [upd_ne (ne_of_none e h)]; exact e
/-- an object that H does not know may be changed -/
theorem same_mut {H H' : Hp} {p : Addr} {o : HO} (e : Same H H') (h : H p = none) : Same H (upd H' p o) := fun a u ha => by rw [upd_ne (ne_of_none ha h)]; exact e a u ha
theorem But.mut {w p : Addr} {H H' : Hp} {o : HO} (e : But w H H') (h : H p = none) : But w H (L2.upd H' p o) := fun a u n ha => by rw [upd_ne (ne_of_none ha h)]; exact e a u n ha
theorem But.seq {K : PySem.W.Frag} {w a : Addr} {H H' : Hp} {xs : List V} (e : But w H H') (n : a ≠ w) (h : SqL K H a xs) : SqL K H' a xs := by
  rcases h with (h | ⟨o, h⟩) | h
  · exact .inl (.inl (e _ _ n h))
  · exact .inl (.inr ⟨o, e _ _ n h⟩)
  · exact .inr h
/-- at w the state: one number, or three -/
def StOk (xs : List V) : Prop := (∃ a : Int, xs = [.int a]) ∨ ∃ a b c : Int, xs = [.int a, .int b, .int c]
def WellAt (w : Addr) (H : Hp) : Prop := ∃ xs : List V, H w = some (.lst xs) ∧ StOk xs
theorem WellAt.new {w p : Addr} {H : Hp} {o : HO} (W : WellAt w H) (h : H p = none) : WellAt w (upd H p o) := by
  obtain ⟨xs, e, k⟩ := W
  exact ⟨xs, by rw [upd_ne (ne_of_none e h)]; exact e, k⟩
theorem WellAt.same {w : Addr} {H H' : Hp} (W : WellAt w H) (s : Same H H') : WellAt w H' := by
  obtain ⟨xs, e, k⟩ := W
  exact ⟨xs, s _ _ e, k⟩
theorem WellAt.ne {w p : Addr} {H : Hp} (W : WellAt w H) (h : H p = none) : w ≠ p := by
  obtain ⟨xs, e, k⟩ := W
  exact ne_of_none e h
/-- a draw of the well: what stood stands, the well is one -/
structure Dr (w : Addr) (H H' : Hp) : Prop where
  but : But w H H'
  well : WellAt w H'
theorem Dr.trans {w : Addr} {H H1 H2 : Hp} (a : Dr w H H1) (b : Dr w H1 H2) : Dr w H H2 := ⟨a.but.trans b.but, b.well⟩
theorem Dr.free {w p : Addr} {H H' : Hp} (d : Dr w H H') (W : WellAt w H) (h : H' p = none) : H p = none := by
  cases q : H p with
  | none => rfl
  | some o =>
    have n : p ≠ w := (d.well.ne h).symm
    rw [d.but _ _ n q] at h
    cases h
/-! ### the promises of the draws -/
def spCellAt (K : PySem.W.Frag) : Sp := fun vs H Q _ => ∃ (a : Addr) (ns : List Int) (k : Int), vs = [.ref a, .int k] ∧ 0 ≤ k ∧ SqL K H a (ns.map V.int) ∧ ∀ z : Int, Q (.int z) H
section
variable {P : Program} {w : World} {K : PySem.W.Frag} {mg : Str → Option Value} {base : Heap}
/-- a def at its name: it keeps its promise, its name holds it, its arguments bind -/
structure Df (P : Program) (w : World) (K : PySem.W.Frag) (mg : Str → Option Value) (base : Heap) (k : Nat) (name : Str) (ps : List Str) (sp : Sp) (f : Addr) (fd : FuncData) : Prop where
  ok : FnOk P w K mg base CX0 k f fd ps sp
  mg : mg name = some (.ref f)
  kp : PySem.W.keepIn K (.ref f) = true
  bd : Binds K fd ps []
/-! ### _law_cell_at -/
theorem scCellAt : FnScope ["_law_script", "_law_k"] ["_law_script", "_law_k"] (defScope sCellAt) := ⟨rfl, rfl, rfl, by decide +kernel, rfl, by decide +kernel, by decide +kernel⟩
abbrev DCellAt (P : Program) (w : World) (K : PySem.W.Frag) (mg : Str → Option Value) (base : Heap) := Df P w K mg base 1 "_law_cell_at" ["_law_script", "_law_k"] (spCellAt K)
theorem ok_cellAt {f : Addr} {fd : FuncData} (F : Fun K "_law_cell_at" "_law_cell_at" sCellAt f fd) (hm : mg "_law_cell_at" = some (.ref f)) (ml : mg "len" = none) : DCellAt P w K mg base f fd := by
  refine ⟨?_, hm, F.kp, F.binds fun _ _ _ _ _ _ us hl => match us, hl with | [_, _], _ => rfl⟩
  refine F.ok scCellAt (fun vs H Q E h => ?_) (fun cdv A outer s H vs Q E hr h => ?_)
  · obtain ⟨a, ns, k, rfl, _⟩ := h
    rfl
  · obtain ⟨a, ns, k, rfl, hk, hS, q⟩ := h
    refine ⟨_, pss_cons (ps_if (pt_cmpR op_lt (pv 1) (pe_callB call_len_seq (by rfl) ml PySem.boot_len (pa_cons (pv 0) pa_nil)) (nomark _))
        (pss_one (ps_ret (pe_ix ix_list (pv 0) (pv 1) (fun _ _ => rfl)))) pss_nil)
      (pss_one (ps_ret pe_int)), ?_⟩
    refine ⟨_, rfl, .ref a, rfl, a, _, rfl, .inl hS, _, _, rfl, rfl, _, rfl, ite2 (fun e => ?_) (fun e => ?_)⟩
    · have e1 : k < ((ns.map V.int).length : Int) := of_decide_eq_true e
      rw [List.length_map] at e1
      have hj : k.toNat < ns.length := by omega
      refine ⟨_, rfl, _, rfl, a, _, k, .int (ns[k.toNat]), rfl, rfl, hS, at_of (j := k.toNat) (by omega) ?_, q _⟩
      rw [List.getElem?_map, List.getElem?_eq_getElem hj]
      rfl
    · exact q 0
end
/-! ### what is kept of tuples -/
def isT : HO → Prop
  | .tup _ => True
  | .frz _ _ => True
  | _ => False
/-- tuples, and what is locked, stand as they stood -/
def TK (H H' : Hp) : Prop := ∀ a o, isT o → H a = some o → H' a = some o
theorem TK.refl (H : Hp) : TK H H := fun _ _ _ h => h
theorem TK.trans {H H1 H2 : Hp} (a : TK H H1) (b : TK H1 H2) : TK H H2 := fun c o t h => b c o t (a c o t h)
theorem TK.same {H H1 : Hp} (a : Same H H1) : TK H H1 := fun c o _ h => a c o h
theorem TK.new {p : Addr} {H : Hp} {o : HO} (h : H p = none) : TK H (upd H p o) := TK.same (same_new h)
theorem TK.lst {l : Addr} {H : Hp} {xs : List V} {o : HO} (h : H l = some (.lst xs)) : TK H (upd H l o) := fun c u t e => by
  have n : c ≠ l := fun z => by
    rw [z, h] at e
    cases e
    exact t
  rw [upd_ne n]
  exact e
theorem TK.dr {w : Addr} {H H' : Hp} (W : WellAt w H) (d : But w H H') : TK H H' := fun c u t e => by
  obtain ⟨xs, h, _⟩ := W
  have n : c ≠ w := fun z => by
    rw [z, h] at e
    cases e
    exact t
  exact d _ _ n e
theorem TK.seq {K : PySem.W.Frag} {H H' : Hp} {a : Addr} {xs : List V} (t : TK H H') (h : SqT K H a xs) : SqT K H' a xs := by
  rcases h with (h | ⟨o, h⟩) | h
  · exact .inl (.inl (t _ _ trivial h))
  · exact .inl (.inr ⟨o, t _ _ trivial h⟩)
  · exact .inr h
/-! ### gates and wires as data -/
abbrev Gt := Str × Int
abbrev Wr := Nat × Nat × List Int
def kinds : List Str := ["in", "out", "sum", "times", "most", "least", "first", "one"]
def portK (k : Str) : Prop := k = "in" ∨ k = "out"
/-- a gate -/
def GOk (g : Gt) : Prop := g.1 ∈ kinds ∧ 0 ≤ g.2 ∧ g.2 ≤ 100 ∧ (portK g.1 → g.2 = 0)
def GateV (K : PySem.W.Frag) (H : Hp) (v : V) (g : Gt) : Prop := ∃ a, v = .ref a ∧ SqT K H a [.str g.1, .int g.2]
def WireV (K : PySem.W.Frag) (H : Hp) (v : V) (x : Wr) : Prop := ∃ a b, v = .ref a ∧ SqT K H a [.int x.1, .int x.2.1, .ref b] ∧ SqT K H b (x.2.2.map V.int)
theorem GateV.tk {K : PySem.W.Frag} {H H' : Hp} {v : V} {g : Gt} (t : TK H H') (h : GateV K H v g) : GateV K H' v g := by
  obtain ⟨a, e, s⟩ := h
  exact ⟨a, e, t.seq s⟩
theorem WireV.tk {K : PySem.W.Frag} {H H' : Hp} {v : V} {x : Wr} (t : TK H H') (h : WireV K H v x) : WireV K H' v x := by
  obtain ⟨a, b, e, s, s2⟩ := h
  exact ⟨a, b, e, t.seq s, t.seq s2⟩
theorem Dr.new {wl p : Addr} {H : Hp} {o : HO} (W : WellAt wl H) (h : H p = none) : Dr wl H (upd H p o) := ⟨But.new h, W.new h⟩
def ROk (r : List Int) : Prop := ∀ x ∈ r, 0 ≤ x ∧ x ≤ 96
theorem tyes {σ : L2.St} {H : Hp} {A B : Hp → Prop} (h : A H) : tYes σ H (fun b H3 => if b = true then A H3 else B H3) := by
  show if true = true then A H else B H
  rw [if_pos rfl]
  exact h
/-! ### two lists, place by place -/
def All2 {α β : Type} (R : α → β → Prop) (xs : List α) (ys : List β) : Prop := xs.length = ys.length ∧ ∀ (i : Nat) (x : α) (y : β), xs[i]? = some x → ys[i]? = some y → R x y
section
variable {α β : Type} {R S : α → β → Prop} {xs : List α} {ys : List β} {x : α} {y : β}
theorem All2.nil : All2 R [] [] := ⟨rfl, fun i x y h => by simp at h⟩
theorem All2.imp (h : All2 R xs ys) (f : ∀ x y, R x y → S x y) : All2 S xs ys := ⟨h.1, fun i x y a b => f x y (h.2 i x y a b)⟩
theorem All2.snoc (h : All2 R xs ys) (r : R x y) : All2 R (xs ++ [x]) (ys ++ [y]) := by
  refine ⟨by simp [h.1], fun i a b ha hb => ?_⟩
  by_cases hi : i < xs.length
  · rw [List.getElem?_append_left hi] at ha
    rw [List.getElem?_append_left (by rw [← h.1]; exact hi)] at hb
    exact h.2 i a b ha hb
  · rw [List.getElem?_append_right (by omega)] at ha
    rw [List.getElem?_append_right (by rw [← h.1]; omega), ← h.1] at hb
    cases e : i - xs.length with
    | zero =>
      rw [e] at ha hb
      simp at ha hb
      subst ha hb
      exact r
    | succ n =>
      rw [e] at ha
      simp at ha
theorem All2.cons (r : R x y) (h : All2 R xs ys) : All2 R (x :: xs) (y :: ys) := by
  refine ⟨by simp [h.1], fun i a b ha hb => ?_⟩
  cases i with
  | zero =>
    simp at ha hb
    subst ha hb
    exact r
  | succ n => exact h.2 n a b (by simpa using ha) (by simpa using hb)
theorem All2.head {x : α} {y : β} (h : All2 R (x :: xs) (y :: ys)) : R x y := h.2 0 x y rfl rfl
theorem All2.tail {x : α} {y : β} (h : All2 R (x :: xs) (y :: ys)) : All2 R xs ys := ⟨by have := h.1; simp at this; exact this, fun i a b ha hb => h.2 (i + 1) a b (by simpa using ha) (by simpa using hb)⟩
theorem All2.get (h : All2 R xs ys) {i : Nat} {x : α} (e : xs[i]? = some x) : ∃ y, ys[i]? = some y ∧ R x y := by
  have hi := (List.getElem?_eq_some_iff.mp e).1
  have hj : i < ys.length := by rw [← h.1]; exact hi
  exact ⟨ys[i], List.getElem?_eq_getElem hj, h.2 i x _ e (List.getElem?_eq_getElem hj)⟩
theorem All2.getR (h : All2 R xs ys) {i : Nat} {y : β} (e : ys[i]? = some y) : ∃ x, xs[i]? = some x ∧ R x y := by
  have hi := (List.getElem?_eq_some_iff.mp e).1
  have hj : i < xs.length := by rw [h.1]; exact hi
  exact ⟨xs[i], List.getElem?_eq_getElem hj, h.2 i _ y (List.getElem?_eq_getElem hj) e⟩
theorem All2.perm {xs' : List α} (p : xs'.Perm xs) : ∀ {ys : List β}, All2 R xs ys → ∃ ys', ys'.Perm ys ∧ All2 R xs' ys' := by
  induction p with
  | nil => intro ys h; exact ⟨ys, .refl _, h⟩
  | @cons a l1 l2 p ih =>
    intro ys h
    cases ys with
    | nil => have := h.1; simp at this
    | cons y ys =>
      obtain ⟨ys', p', h'⟩ := ih h.tail
      exact ⟨y :: ys', p'.cons y, h'.cons h.head⟩
  | swap a b l =>
    intro ys h
    match ys, h with
    | [], h => have := h.1; simp at this
    | [_], h => have := h.1; simp at this
    | y :: z :: ys, h => exact ⟨z :: y :: ys, .swap _ _ _, All2.cons h.tail.head (All2.cons h.head h.tail.tail)⟩
  | trans p1 p2 ih1 ih2 =>
    intro ys h
    obtain ⟨ys1, q1, h1⟩ := ih2 h
    obtain ⟨ys2, q2, h2⟩ := ih1 h1
    exact ⟨ys2, q2.trans q1, h2⟩
end
/-! ### nets as data -/
def kindAt (gs : List Gt) (i : Nat) : Str := (gs.getD i ("", 0)).1
def cnt (ws : List Wr) (e : Nat) : Nat := ws.countP (fun x => x.2.1 == e)
/-- a wire between these gates -/
structure WOk (gs : List Gt) (x : Wr) : Prop where
  s : x.1 < gs.length
  e : x.2.1 < gs.length
  ks : kindAt gs x.1 ≠ "out"
  ke : kindAt gs x.2.1 ≠ "in"
  r : ROk x.2.2
  rl : x.2.2.length ≤ 100
structure NetOk (gs : List Gt) (ws : List Wr) : Prop where
  ne : gs ≠ []
  gl : gs.length ≤ 100
  wl : ws.length ≤ 1000
  gok : ∀ g ∈ gs, GOk g
  wok : ∀ x ∈ ws, WOk gs x
  one : ∀ e, e < gs.length → kindAt gs e = "out" → cnt ws e = 1
  some : ∀ e, e < gs.length → kindAt gs e = "first" → 1 ≤ cnt ws e
  rank : ∃ ρ : Nat → Nat, ∀ x ∈ ws, x.2.2 = [] → ρ x.1 < ρ x.2.1
/-- numbered anew: the gate k is the old gate at left's place k -/
theorem NetOk.anew {gs : List Gt} {ws : List Wr} {left : List Nat} (N : NetOk gs ws) (p : left.Perm (List.range gs.length)) {ws' : List Wr} (pw : ws'.Perm ws) :
    NetOk (left.map fun k => gs.getD k ("", 0)) (ws'.map fun x => (left.idxOf x.1, left.idxOf x.2.1, x.2.2)) := by
  have hl : left.length = gs.length := by rw [p.length_eq, List.length_range]
  have nd : left.Nodup := p.nodup_iff.mpr List.nodup_range
  have mem : ∀ i, i < gs.length → i ∈ left := fun i hi => p.mem_iff.mpr (List.mem_range.mpr hi)
  have memb : ∀ i, i ∈ left → i < gs.length := fun i hi => List.mem_range.mp (p.mem_iff.mp hi)
  have il : ∀ i, i < gs.length → left.idxOf i < left.length := fun i hi => List.idxOf_lt_length_iff.mpr (mem i hi)
  have ge : ∀ i (h : i < gs.length), left[left.idxOf i]? = Option.some i := fun i h => by
    rw [List.getElem?_eq_getElem (il i h), List.getElem_idxOf]
  have kk : ∀ i, i < gs.length → kindAt (left.map fun k => gs.getD k ("", 0)) (left.idxOf i) = kindAt gs i := fun i h => by
    unfold kindAt
    rw [List.getD_eq_getElem?_getD, List.getElem?_map, ge i h]
    rfl
  have inj : ∀ i j, i < gs.length → j < gs.length → left.idxOf i = left.idxOf j → i = j := fun i j hi hj e => by
    have h1 := ge i hi
    rw [e, ge j hj] at h1
    exact (Option.some.inj h1).symm
  have cc : ∀ e, e < gs.length → cnt (ws'.map fun x => (left.idxOf x.1, left.idxOf x.2.1, x.2.2)) (left.idxOf e) = cnt ws e := fun e he => by
    unfold cnt
    rw [List.countP_map, ← pw.countP_eq]
    refine List.countP_congr fun x hx => ?_
    have := (N.wok x (pw.mem_iff.mp hx)).e
    simp only [Function.comp, beq_iff_eq]
    exact ⟨fun z => inj _ _ this he z, fun z => by rw [z]⟩
  have back : ∀ e, e < left.length → ∃ i, i < gs.length ∧ left.idxOf i = e := fun e he => by
    refine ⟨left[e], memb _ (List.getElem_mem he), ?_⟩
    exact List.Nodup.idxOf_getElem nd e he
  obtain ⟨ρ, hρ⟩ := N.rank
  refine ⟨?_, by simpa [hl] using N.gl, by simpa [pw.length_eq] using N.wl, ?_, ?_, ?_, ?_, ?_⟩
  · intro z
    have := congrArg List.length z
    simp [hl] at this
    exact N.ne this
  · intro g hg
    obtain ⟨k, hk, rfl⟩ := List.mem_map.mp hg
    refine N.gok _ ?_
    rw [List.getD_eq_getElem?_getD, List.getElem?_eq_getElem (memb k hk)]
    exact List.getElem_mem _
  · intro y hy
    obtain ⟨x, hx, rfl⟩ := List.mem_map.mp hy
    have W := N.wok x (pw.mem_iff.mp hx)
    refine ⟨by simpa using il _ W.s, by simpa using il _ W.e, ?_, ?_, W.r, W.rl⟩
    · show kindAt _ (left.idxOf x.1) ≠ _
      rw [kk _ W.s]
      exact W.ks
    · show kindAt _ (left.idxOf x.2.1) ≠ _
      rw [kk _ W.e]
      exact W.ke
  · intro e he hk
    obtain ⟨i, hi, rfl⟩ := back e (by simpa using he)
    rw [kk i hi] at hk
    rw [cc i hi]
    exact N.one i hi hk
  · intro e he hk
    obtain ⟨i, hi, rfl⟩ := back e (by simpa using he)
    rw [kk i hi] at hk
    rw [cc i hi]
    exact N.some i hi hk
  · refine ⟨fun k => ρ (left.getD k 0), fun y hy h => ?_⟩
    obtain ⟨x, hx, rfl⟩ := List.mem_map.mp hy
    have W := N.wok x (pw.mem_iff.mp hx)
    have := hρ x (pw.mem_iff.mp hx) h
    simp only [List.getD_eq_getElem?_getD, ge _ W.s, ge _ W.e, Option.getD_some]
    exact this
theorem set_well {wl D : Addr} {H0 H : Hp} {o : HO} (d : Dr wl H0 H) (h0 : H0 D = none) (n : D ≠ wl) : Dr wl H0 (upd H D o) := by
  refine ⟨fun c u nc e => ?_, ?_⟩
  · rw [upd_ne (ne_of_none e h0)]
    exact d.but c u nc e
  · obtain ⟨xs, hx, k⟩ := d.well
    exact ⟨xs, by rw [upd_ne n.symm]; exact hx, k⟩
def tLen (K : PySem.W.Frag) (i : Nat) : TE := tCB (Evl.rLenS K) (tCons (tVar i) tNil)
/-- the wires into the gates ahead of i -/
structure WInv (gs : List Gt) (ws : List Wr) (i : Nat) : Prop where
  ok : ∀ x ∈ ws, WOk gs x ∧ (x.2.2 = [] → x.1 < x.2.1) ∧ x.2.1 < i
  one : ∀ e, e < i → kindAt gs e = "out" → cnt ws e = 1
  some : ∀ e, e < i → kindAt gs e = "first" → 1 ≤ cnt ws e
  len : ws.length ≤ 3 * i
  r2 : ∀ x ∈ ws, x.2.2.length ≤ 3
/-- .. and j wires into the gate i -/
structure WInv2 (gs : List Gt) (ws : List Wr) (i j : Nat) : Prop where
  ok : ∀ x ∈ ws, WOk gs x ∧ (x.2.2 = [] → x.1 < x.2.1) ∧ x.2.1 < i + 1
  one : ∀ e, e < i → kindAt gs e = "out" → cnt ws e = 1
  some : ∀ e, e < i → kindAt gs e = "first" → 1 ≤ cnt ws e
  here : cnt ws i = j
  len : ws.length ≤ 3 * i + j
  r2 : ∀ x ∈ ws, x.2.2.length ≤ 3
theorem WInv.go {gs : List Gt} {ws : List Wr} {i : Nat} (h : WInv gs ws i) : WInv2 gs ws i 0 := by
  refine ⟨fun x hx => ⟨(h.ok x hx).1, (h.ok x hx).2.1, by have := (h.ok x hx).2.2; omega⟩, h.one, h.some, ?_, h.len, h.r2⟩
  unfold cnt
  rw [List.countP_eq_zero]
  intro x hx z
  have := (h.ok x hx).2.2
  simp at z
  omega
theorem WInv2.app {gs : List Gt} {ws : List Wr} {i j : Nat} {x : Wr} (h : WInv2 gs ws i j) (hx : WOk gs x) (hr : x.2.2 = [] → x.1 < x.2.1) (he : x.2.1 = i) (h2 : x.2.2.length ≤ 3) : WInv2 gs (ws ++ [x]) i (j + 1) := by
  have c : ∀ e, e < i → cnt (ws ++ [x]) e = cnt ws e := fun e he' => by
    unfold cnt
    rw [List.countP_append]
    have : (x.2.1 == e) = false := by simp; omega
    simp [List.countP_cons, this]
  refine ⟨fun y hy => ?_, fun e h1 h2 => by rw [c e h1]; exact h.one e h1 h2, fun e h1 h2 => by rw [c e h1]; exact h.some e h1 h2, ?_, by have := h.len; simp; omega, fun y hy => ?_⟩
  · rcases List.mem_append.mp hy with hy | hy
    · exact h.ok y hy
    · simp at hy
      subst hy
      exact ⟨hx, hr, by omega⟩
  · have := h.here
    unfold cnt at this ⊢
    rw [List.countP_append, this]
    simp [List.countP_cons, he]
  · rcases List.mem_append.mp hy with hy | hy
    · exact h.r2 y hy
    · simp at hy
      subst hy
      exact h2
theorem WInv2.done {gs : List Gt} {ws : List Wr} {i j : Nat} (h : WInv2 gs ws i j) (h1 : kindAt gs i = "out" → j = 1) (h2 : kindAt gs i = "first" → 1 ≤ j) (hj : j ≤ 3) : WInv gs ws (i + 1) := by
  refine ⟨fun x hx => h.ok x hx, fun e he hk => ?_, fun e he hk => ?_, by have := h.len; omega, h.r2⟩
  · by_cases hi : e = i
    · subst hi
      rw [h.here]
      exact h1 hk
    · exact h.one e (by omega) hk
  · by_cases hi : e = i
    · subst hi
      rw [h.here]
      exact h2 hk
    · exact h.some e (by omega) hk
theorem WInv.net {gs : List Gt} {ws : List Wr} (h : WInv gs ws gs.length) (ne : gs ≠ []) (gl : gs.length ≤ 100) (gok : ∀ g ∈ gs, GOk g) : NetOk gs ws :=
  ⟨ne, gl, by have := h.len; omega, gok, fun x hx => (h.ok x hx).1, h.one, h.some, id, fun x hx hr => (h.ok x hx).2.1 hr⟩
/-- lists of gates, of wires, that stand tracked -/
def LG (K : PySem.W.Frag) (H : Hp) (l : Addr) (gs : List Gt) : Prop := ∃ vs, H l = some (.lst vs) ∧ All2 (GateV K H) vs gs
def LW (K : PySem.W.Frag) (H : Hp) (l : Addr) (ws : List Wr) : Prop := ∃ vs, H l = some (.lst vs) ∧ All2 (WireV K H) vs ws
theorem kindAt_get {gs : List Gt} {i : Nat} {g : Gt} (h : gs[i]? = some g) : kindAt gs i = g.1 := by
  unfold kindAt
  rw [List.getD_eq_getElem?_getD, h]
  rfl
theorem all2_eq {α β : Type} {f : β → α} : ∀ {xs : List α} {ys : List β}, All2 (fun x y => x = f y) xs ys → xs = ys.map f
  | [], [], _ => rfl
  | [], _ :: _, h => by have := h.1; simp at this
  | _ :: _, [], h => by have := h.1; simp at this
  | x :: xs, y :: ys, h => by rw [List.map_cons, ← all2_eq h.tail, ← h.head]
theorem eq_all2 {α β : Type} {f : β → α} (ys : List β) : All2 (fun x y => x = f y) (ys.map f) ys := ⟨by simp, fun i x y h1 h2 => by
  rw [List.getElem?_map, h2] at h1
  exact (Option.some.inj h1).symm⟩
theorem rgV_nat (n : Nat) : rgV 0 (n : Int) = (List.range n).map fun i => V.int (i : Nat) := by
  unfold rgV
  have : ((n : Int) - 0).toNat = n := by omega
  rw [this]
  refine List.map_congr_left fun i _ => ?_
  rw [Int.zero_add]
theorem flat_ints (l : List Nat) : (l.map fun i => V.int (i : Nat)).all flatV = true := by
  rw [List.all_eq_true]
  intro x hx
  obtain ⟨i, _, rfl⟩ := List.mem_map.mp hx
  rfl
/-- where a number stands among numbers without two alike -/
theorem idx_at {left : List Nat} {a : Nat} (h : a ∈ left) : (left.map fun i => V.int (i : Nat))[left.idxOf a]? = some (V.int (a : Nat)) := by
  rw [List.getElem?_map, List.getElem?_eq_getElem (List.idxOf_lt_length_iff.mpr h), List.getElem_idxOf]
  rfl
theorem eqV_int (a b : Int) : eqV (V.int a) (V.int b) = decide (a = b) := rfl
theorem idx_no {left : List Nat} {a m : Nat} {z : V} (nd : left.Nodup) (hm : m < left.idxOf a) (h : (left.map fun i => V.int (i : Nat))[m]? = some z) : eqV z (V.int (a : Nat)) = false := by
  rw [List.getElem?_map] at h
  cases e : left[m]? with
  | none =>
    rw [e] at h
    cases h
  | some b =>
    rw [e] at h
    cases h
    rw [eqV_int]
    refine decide_eq_false fun z => ?_
    have z : b = a := by omega
    obtain ⟨hm', eb⟩ := List.getElem?_eq_some_iff.mp e
    have := List.Nodup.idxOf_getElem nd m hm'
    rw [eb, z] at this
    omega
end Lag

set_option maxRecDepth 100000
set_option maxHeartbeats 4000000
namespace Lag
open PySem PySem.Spec PyProof.Rows L2
abbrev sWhole : Stmt := topS 10
abbrev sFromTo : Stmt := topS 11
abbrev sWorth : Stmt := topS 12
abbrev sIsGate : Stmt := topS 25
abbrev sChkGates : Stmt := topS 24
/-! ### o[i] of a list, by values -/
def rGetL (K : PySem.W.Frag) : V → V → Hp → VK → Prop := fun o i H Q => ∃ (p : Addr) (xs : List V) (j : Nat) (v : V), o = .ref p ∧ i = .int (j : Nat) ∧ SqL K H p xs ∧ xs[j]? = some v ∧ Q v H
theorem get_list {X : Cx} : PGet X (rGetL X.K) := by
  intro pins s σ H o i ov iv Q I ro ri h
  obtain ⟨p, xs, j, v, rfl, rfl, hq, he, q⟩ := h
  cases ro
  obtain ⟨t, rfl⟩ := ri
  obtain ⟨its, r, pl, hz⟩ := I.list hq
  obtain ⟨w, ew, rw'⟩ := r.get he
  have hl := r.length
  have hn := line63
  have hj : j < its.length := (List.getElem?_eq_some_iff.mp ew).1
  exact wpAny_getItem_list pl.isList (by omega) (by omega) (by simpa using ew) ⟨v, H, I, rw', q⟩
/-! ### names of built-ins, constants of the text -/
structure Bt (mg : Str → Option Value) : Prop where
  isi : mg "isinstance" = none
  int : mg "int" = none
  bool : mg "bool" = none
  len : mg "len" = none
  tuple : mg "tuple" = none
  str : mg "str" = none
  list : mg "list" = none
  all : mg "all" = none
  enum : mg "enumerate" = none
  zip : mg "zip" = none
  range : mg "range" = none
  max : mg "max" = none
structure Cns (K : PySem.W.Frag) (mg : Str → Option Value) (aK aW aF : Addr) : Prop where
  gw : ∃ t, mg "GREATEST_WORTH" = some (.int 96 t)
  ga : ∃ t, mg "GREATEST_WAIT" = some (.int 100 t)
  mK : mg "KINDS" = some (.ref aK)
  sK : ∀ H, SqT K H aK (kinds.map V.str)
  mW : mg "OUTER_KINDS" = some (.ref aW)
  sW : ∀ H, SqT K H aW [.str "in", .str "out"]
  mF : mg "KINDS_WITH_A_WIRE" = some (.ref aF)
  sF : ∀ H, SqT K H aF [.str "out", .str "first"]
theorem ty_tup {K : PySem.W.Frag} {H : Hp} {a : Addr} {xs : List V} (h : SqT K H a xs) : TyX K H (.ref a) (.type "tuple") := by
  rcases h with (h | ⟨o, h⟩) | ⟨o, its, n, hk, hc, _⟩
  · exact .base (.tup h)
  · exact .fTuple h
  · exact .kTuple hk hc
theorem ty_lst {K : PySem.W.Frag} {H : Hp} {a : Addr} {xs : List V} (h : SqL K H a xs) : TyX K H (.ref a) (.type "list") := by
  rcases h with (h | ⟨o, h⟩) | ⟨o, its, n, hk, hc, _⟩
  · exact .base (.lst h)
  · exact .base (.frz h)
  · exact .kList hk hc
/-! ### promises -/
def spWhole : Sp := fun vs H Q _ => ∃ n : Int, vs = [.int n] ∧ Q (.bl true) H
def spFromTo : Sp := fun vs H Q _ => ∃ n a b : Int, vs = [.int n, .int a, .int b] ∧ Q (.bl (decide (a ≤ n) && decide (n ≤ b))) H
def spWorth : Sp := fun vs H Q _ => ∃ n : Int, vs = [.int n] ∧ Q (.bl (decide (0 ≤ n) && decide (n ≤ 96))) H
def spIsGate (K : PySem.W.Frag) : Sp := fun vs H Q _ => ∃ (v : V) (g : Gt), vs = [v] ∧ GateV K H v g ∧ GOk g ∧ ∀ H', Same H H' → Q (.bl true) H'
/-- lists that are read -/
def RG (K : PySem.W.Frag) (H : Hp) (l : Addr) (gs : List Gt) : Prop := ∃ vs, SqL K H l vs ∧ All2 (GateV K H) vs gs
def RW (K : PySem.W.Frag) (H : Hp) (l : Addr) (ws : List Wr) : Prop := ∃ vs, SqL K H l vs ∧ All2 (WireV K H) vs ws
theorem RG.same {K : PySem.W.Frag} {H H' : Hp} {l : Addr} {gs : List Gt} (h : RG K H l gs) (s : Same H H') : RG K H' l gs := by
  obtain ⟨vs, q, a⟩ := h
  exact ⟨vs, s.seq q, a.imp fun _ _ r => r.tk (TK.same s)⟩
theorem RW.same {K : PySem.W.Frag} {H H' : Hp} {l : Addr} {ws : List Wr} (h : RW K H l ws) (s : Same H H') : RW K H' l ws := by
  obtain ⟨vs, q, a⟩ := h
  exact ⟨vs, s.seq q, a.imp fun _ _ r => r.tk (TK.same s)⟩
def spChkGates (K : PySem.W.Frag) : Sp := fun vs H Q _ => ∃ (l : Addr) (gs : List Gt), vs = [.ref l] ∧ RG K H l gs ∧ gs ≠ [] ∧ (∀ g ∈ gs, GOk g) ∧ ∀ H', Same H H' → Q .non H'
section
variable {P : Program} {w : World} {K : PySem.W.Frag} {mg : Str → Option Value} {base : Heap}
/-! ### is_whole, is_whole_from_to, is_worth -/
theorem scWhole : FnScope ["thing"] ["thing"] (defScope sWhole) := ⟨rfl, rfl, rfl, by decide +kernel, rfl, by decide +kernel, by decide +kernel⟩
abbrev DWhole (P : Program) (w : World) (K : PySem.W.Frag) (mg : Str → Option Value) (base : Heap) := Df P w K mg base 1 "is_whole" ["thing"] spWhole
theorem ok_whole {f : Addr} {fd : FuncData} (F : Fun K "is_whole" "is_whole" sWhole f fd) (hm : mg "is_whole" = some (.ref f)) (B : Bt mg) : DWhole P w K mg base f fd := by
  refine ⟨?_, hm, F.kp, F.binds fun _ _ _ _ _ _ us hl => match us, hl with | [_], _ => rfl⟩
  refine F.ok scWhole (fun vs H Q E h => ?_) (fun cdv A outer s H vs Q E hr h => ?_)
  · obtain ⟨n, rfl, _⟩ := h
    rfl
  · obtain ⟨n, rfl, q⟩ := h
    refine ⟨_, pss_one <| ps_ret <| pe_and (pe_callB call_isi (by rfl) B.isi (by decide +kernel) (pa_cons (pv 0) (pa_cons (pe_bltn (v := .ty "int") (by rfl) B.int (by decide +kernel) rfl) pa_nil)))
      (pe_one (pe_not (pe_callB call_isi (by rfl) B.isi (by decide +kernel) (pa_cons (pv 0) (pa_cons (pe_bltn (v := .ty "bool") (by rfl) B.bool (by decide +kernel) rfl) pa_nil))))), ?_⟩
    refine ⟨_, rfl, _, _, _, _, true, rfl, .ty "int", .base (.int n), kit_ty (by decide +kernel), true, rfl, iteT ?_⟩
    exact ⟨_, rfl, _, _, _, _, false, rfl, .ty "bool", .base (.int n), kit_ty (by decide +kernel), false, rfl, q⟩
theorem scFromTo : FnScope ["thing", "least", "greatest"] ["thing", "least", "greatest"] (defScope sFromTo) := ⟨rfl, rfl, rfl, by decide +kernel, rfl, by decide +kernel, by decide +kernel⟩
abbrev DFromTo (P : Program) (w : World) (K : PySem.W.Frag) (mg : Str → Option Value) (base : Heap) := Df P w K mg base 2 "is_whole_from_to" ["thing", "least", "greatest"] spFromTo
theorem ok_fromTo {f fW : Addr} {fd fdW : FuncData} (F : Fun K "is_whole_from_to" "is_whole_from_to" sFromTo f fd) (hm : mg "is_whole_from_to" = some (.ref f)) (DW : DWhole P w K mg base fW fdW) : DFromTo P w K mg base f fd := by
  refine ⟨?_, hm, F.kp, F.binds fun _ _ _ _ _ _ us hl => match us, hl with | [_, _, _], _ => rfl⟩
  refine F.ok scFromTo (fun vs H Q E h => ?_) (fun cdv A outer s H vs Q E hr h => ?_)
  · obtain ⟨n, a, b, rfl, _⟩ := h
    rfl
  · obtain ⟨n, a, b, rfl, q⟩ := h
    refine ⟨_, pss_one <| ps_ret <| pe_and (pe_call DW.ok hr (by rfl) DW.mg DW.kp DW.bd .nil pass0 (pa_cons (pv 0) pa_nil)) (pe_one (pe_chain op_le op_le (pv 1) (pv 0) (pv 2))), ?_⟩
    refine ⟨_, rfl, n, rfl, true, rfl, iteT ?_⟩
    refine ⟨_, rfl, _, rfl, _, _, rfl, rfl, _, rfl, ?_⟩
    cases e : decide (a ≤ n) with
    | false =>
      rw [e] at q
      exact iteF q
    | true =>
      rw [e] at q
      exact iteT ⟨_, rfl, _, _, rfl, rfl, q⟩
theorem scWorth : FnScope ["thing"] ["thing"] (defScope sWorth) := ⟨rfl, rfl, rfl, by decide +kernel, rfl, by decide +kernel, by decide +kernel⟩
abbrev DWorth (P : Program) (w : World) (K : PySem.W.Frag) (mg : Str → Option Value) (base : Heap) := Df P w K mg base 3 "is_worth" ["thing"] spWorth
theorem ok_worth {f fF aK aW aF : Addr} {fd fdF : FuncData} (F : Fun K "is_worth" "is_worth" sWorth f fd) (hm : mg "is_worth" = some (.ref f)) (C : Cns K mg aK aW aF) (DF : DFromTo P w K mg base fF fdF) : DWorth P w K mg base f fd := by
  obtain ⟨tg, hgw⟩ := C.gw
  refine ⟨?_, hm, F.kp, F.binds fun _ _ _ _ _ _ us hl => match us, hl with | [_], _ => rfl⟩
  refine F.ok scWorth (fun vs H Q E h => ?_) (fun cdv A outer s H vs Q E hr h => ?_)
  · obtain ⟨n, rfl, _⟩ := h
    rfl
  · obtain ⟨n, rfl, q⟩ := h
    refine ⟨_, pss_one <| ps_ret <| pe_call DF.ok hr (by rfl) DF.mg DF.kp DF.bd .nil pass0 <| pa_cons (pv 0) <| pa_cons pe_int <| pa_cons (pe_glob (v := .int 96) (by rfl) hgw ⟨_, rfl⟩) pa_nil, ?_⟩
    exact ⟨_, rfl, n, 0, 96, rfl, q⟩
/-! ### is_gate -/
theorem scIsGate : FnScope ["thing", "kind", "wait"] ["thing"] (defScope sIsGate) := ⟨rfl, rfl, rfl, by decide +kernel, rfl, by decide +kernel, by decide +kernel⟩
abbrev DIsGate (P : Program) (w : World) (K : PySem.W.Frag) (mg : Str → Option Value) (base : Heap) := Df P w K mg base 3 "is_gate" ["thing"] (spIsGate K)
theorem kinds_in {k : Str} (h : k ∈ kinds) : inV (.str k) (kinds.map V.str) = true := by
  unfold inV
  rw [List.any_eq_true]
  exact ⟨.str k, List.mem_map.mpr ⟨k, h, rfl⟩, beq_self_eq_true k⟩
theorem flat_strs (l : List Str) : (l.map V.str).all flatV = true := by
  rw [List.all_eq_true]
  intro x hx
  obtain ⟨i, _, rfl⟩ := List.mem_map.mp hx
  rfl
theorem ok_isGate {f fF aK aW aF : Addr} {fd fdF : FuncData} (F : Fun K "is_gate" "is_gate" sIsGate f fd) (hm : mg "is_gate" = some (.ref f)) (B : Bt mg) (C : Cns K mg aK aW aF) (DF : DFromTo P w K mg base fF fdF) : DIsGate P w K mg base f fd := by
  obtain ⟨tg, hga⟩ := C.ga
  refine ⟨?_, hm, F.kp, F.binds fun _ _ _ _ _ _ us hl => match us, hl with | [_], _ => rfl⟩
  refine F.ok scIsGate (fun vs H Q E h => ?_) (fun cdv A outer s H vs Q E hr h => ?_)
  · obtain ⟨v, g, rfl, _⟩ := h
    rfl
  · obtain ⟨v, g, rfl, ⟨a, rfl, sq⟩, gok, q⟩ := h
    have nd := scIsGate.nd
    refine ⟨_, pss_cons (ps_if (PW.pt (pw_or (pt_not (pt_val (pe_callB call_isi (by rfl) B.isi (by decide +kernel) (pa_cons (pv 0) (pa_cons (pe_bltn (v := .ty "tuple") (by rfl) B.tuple (by decide +kernel) rfl) pa_nil)))))
          (pw_or1 (pt_cmpR op_ne (pe_callB call_len_seq (by rfl) B.len PySem.boot_len (pa_cons (pv 0) pa_nil)) pe_int (nomark _))))) (pss_one (ps_ret pe_bl)) pss_nil) <|
      pss_cons (ps_asg (pv 0) (pg_tup (by rfl) (pgs_cons (pg_name (i := 1) nd rfl (.inl rfl)) (pgs_cons (pg_name (i := 2) nd rfl (.inl rfl)) pgs_nil)))) <|
      pss_cons (ps_if (PW.pt (pw_or (pt_not (pt_val (pe_callB call_isi (by rfl) B.isi (by decide +kernel) (pa_cons (pv 1) (pa_cons (pe_bltn (v := .ty "str") (by rfl) B.str (by decide +kernel) rfl) pa_nil)))))
          (pw_or1 (pt_cmpR op_notIn_seq (pv 1) (pe_glob (v := .ref aK) (by rfl) C.mK rfl) (by rfl))))) (pss_one (ps_ret pe_bl)) pss_nil) <|
      pss_one <| ps_ret <| pe_call DF.ok hr (by rfl) DF.mg DF.kp DF.bd .nil pass0 <| pa_cons (pv 2) <| pa_cons pe_int <| (pa_cons · pa_nil) <|
        pe_ifExp (pt_cmpR op_in_seq (pv 1) (pe_glob (v := .ref aW) (by rfl) C.mW rfl) (by rfl)) pe_int (pe_glob (v := .int 100) (by rfl) hga ⟨_, rfl⟩), ?_⟩
    refine ⟨_, rfl, _, _, _, _, true, rfl, .ty "tuple", ty_tup sq, kit_ty (by decide +kernel), true, rfl, ?_⟩
    refine iteF ⟨_, rfl, a, _, rfl, .inr sq, rfl, _, rfl, iteF ?_⟩
    refine ⟨_, rfl, a, _, rfl, sq, rfl, _, _, rfl, _, _, rfl, rfl, ?_⟩
    refine ⟨_, rfl, _, _, _, _, true, rfl, .ty "str", .base (.str g.1), kit_ty (by decide +kernel), true, rfl, ?_⟩
    refine iteF ⟨_, rfl, aK, _, rfl, .inr (C.sK H), rfl, flat_strs _, false, ?_, iteF ?_⟩
    · show V.bl (!inV (V.str g.1) (kinds.map V.str)) = V.bl false
      rw [kinds_in gok.1]
      rfl
    refine ⟨_, rfl, _, rfl, aW, _, rfl, .inr (C.sW H), rfl, rfl, _, rfl, ite2 (fun e => ?_) (fun e => ?_)⟩
    · have hp : portK g.1 := by
        have e' : inV (V.str g.1) [V.str "in", V.str "out"] = true := e
        unfold inV at e'
        rw [List.any_eq_true] at e'
        obtain ⟨x, hx, hxe⟩ := e'
        simp only [List.mem_cons, List.not_mem_nil, or_false] at hx
        rcases hx with rfl | rfl
        · exact .inl (eq_of_beq hxe).symm
        · exact .inr (eq_of_beq hxe).symm
      have h0 := gok.2.2.2 hp
      refine ⟨g.2, 0, 0, rfl, ?_⟩
      rw [h0]
      exact q H (Same.refl H)
    · refine ⟨g.2, 0, 100, rfl, ?_⟩
      rw [decide_eq_true gok.2.1, decide_eq_true gok.2.2.1]
      exact q H (Same.refl H)
end
end Lag

set_option maxRecDepth 100000
set_option maxHeartbeats 4000000
namespace Lag
open PySem PySem.Spec PyProof.Rows L2
abbrev sIsWire : Stmt := topS 27
abbrev sTaken : Stmt := topS 28
def spIsWire (K : PySem.W.Frag) : Sp := fun vs H Q _ => ∃ (v : V) (x : Wr) (n : Nat), vs = [v, .int (n : Nat)] ∧ WireV K H v x ∧ x.1 < n ∧ x.2.1 < n ∧ ROk x.2.2 ∧ x.2.2.length ≤ 1000 ∧ ∀ H', Same H H' → Q (.bl true) H'
def spTaken (K : PySem.W.Frag) : Sp := fun vs H Q _ => ∃ (v : V) (x : Wr) (lg lc : Addr) (gs : List Gt) (cs : List Nat), vs = [v, .ref lg, .ref lc] ∧ WireV K H v x ∧ RG K H lg gs ∧ SqL K H lc (cs.map fun i => V.int (i : Nat)) ∧ WOk gs x ∧ cs.length = gs.length ∧
  (kindAt gs x.2.1 = "out" → cs[x.2.1]? = some 0) ∧ Q (.bl true) H
section
variable {P : Program} {w : World} {K : PySem.W.Frag} {mg : Str → Option Value} {base : Heap}
/-! ### check_gates -/
theorem scChkGates : FnScope ["gates", "thing"] ["gates"] (defScope sChkGates) := ⟨rfl, rfl, rfl, by decide +kernel, rfl, by decide +kernel, by decide +kernel⟩
abbrev DChkGates (P : Program) (w : World) (K : PySem.W.Frag) (mg : Str → Option Value) (base : Heap) := Df P w K mg base 4 "check_gates" ["gates"] (spChkGates K)
theorem ok_chkGates {f fG : Addr} {fd fdG : FuncData} (F : Fun K "check_gates" "check_gates" sChkGates f fd) (hm : mg "check_gates" = some (.ref f)) (B : Bt mg) (DG : DIsGate P w K mg base fG fdG) : DChkGates P w K mg base f fd := by
  refine ⟨?_, hm, F.kp, F.binds fun _ _ _ _ _ _ us hl => match us, hl with | [_], _ => rfl⟩
  refine F.ok scChkGates (fun vs H Q E h => ?_) (fun cdv A outer s H vs Q E hr h => ?_)
  · obtain ⟨l, gs, rfl, _⟩ := h
    rfl
  · obtain ⟨l, gs, rfl, R, hne, gok, q⟩ := h
    have nd := scChkGates.nd
    refine ⟨_, pss_cons (ps_if (PW.pt (pw_or (pt_not (pt_val (pe_callB call_isi (by rfl) B.isi (by decide +kernel) (pa_cons (pv 0) (pa_cons (pe_bltn (v := .ty "list") (by rfl) B.list (by decide +kernel) rfl) pa_nil)))))
          (pw_or1 (pt_cmpR op_eq (pe_callB call_len_seq (by rfl) B.len PySem.boot_len (pa_cons (pv 0) pa_nil)) pe_int (nomark _))))) (pss_one ps_never) pss_nil) <|
      pss_one <| ps_for PassesOwn.never rfl (pi_list (pv 0)) (pg_name (i := 1) nd rfl (.inl rfl)) <|
        pss_one <| ps_if (pt_not (pt_val (pe_call DG.ok hr (by rfl) DG.mg DG.kp DG.bd .nil pass0 (pa_cons (pv 1) pa_nil)))) (pss_one ps_never) pss_nil, ?_⟩
    obtain ⟨gv, sg, ga⟩ := R
    have hl : gv.length = gs.length := ga.1
    have hpos : 0 < gs.length := by
      cases gs with
      | nil => exact absurd rfl hne
      | cons _ _ => simp
    refine ⟨_, rfl, _, _, _, _, true, rfl, .ty "list", ty_lst sg, kit_ty (by decide +kernel), true, rfl, ?_⟩
    refine iteF ⟨_, rfl, l, gv, rfl, .inl sg, rfl, false, ?_, iteF ?_⟩
    · show V.bl (decide (V.int (gv.length : Int) = V.int 0)) = V.bl false
      rw [decide_eq_false]
      intro z
      have := V.int.inj z
      omega
    refine ⟨_, rfl, l, rfl, ⟨_, sg⟩, for_list (K := K) (a := l) (xs := gv) (fun i σ H2 => ∃ y, σ = [some (.ref l), y] ∧ Same H H2) ⟨_, rfl, Same.refl H⟩ (fun i σ H2 _ ⟨_, _, sm⟩ => sm.seq sg) ?_ ?_⟩
    · rintro i x σ H2 hx ⟨y, rfl, sm⟩
      obtain ⟨g, hg, gv⟩ := ga.get hx
      refine ⟨_, rfl, x, g, rfl, gv.tk (TK.same sm), gok g (List.mem_of_getElem? hg), fun H3 sm3 => ⟨true, rfl, iteF ⟨_, rfl, sm.trans sm3⟩⟩⟩
    · rintro σ H2 ⟨y, rfl, sm⟩
      exact q H2 sm
/-! ### is_wire -/
abbrev nIsWire : List Str := ["thing", "many_gates", "start", "end", "held", "worth"]
theorem scIsWire : FnScope nIsWire ["thing", "many_gates"] (defScope sIsWire) := ⟨rfl, rfl, rfl, by decide +kernel, rfl, by decide +kernel, by decide +kernel⟩
abbrev DIsWire (P : Program) (w : World) (K : PySem.W.Frag) (mg : Str → Option Value) (base : Heap) := Df P w K mg base 4 "is_wire" ["thing", "many_gates"] (spIsWire K)
theorem ok_isWire {f fF fW : Addr} {fd fdF fdW : FuncData} (F : Fun K "is_wire" "is_wire" sIsWire f fd) (hm : mg "is_wire" = some (.ref f)) (B : Bt mg) (DF : DFromTo P w K mg base fF fdF) (DW : DWorth P w K mg base fW fdW) : DIsWire P w K mg base f fd := by
  refine ⟨?_, hm, F.kp, F.binds fun _ _ _ _ _ _ us hl => match us, hl with | [_, _], _ => rfl⟩
  refine F.ok scIsWire (fun vs H Q E h => ?_) (fun cdv A outer s H vs Q E hr h => ?_)
  · obtain ⟨v, x, n, rfl, _⟩ := h
    rfl
  · obtain ⟨v, x, n, rfl, ⟨a, b, rfl, sq1, sq2⟩, hs, he, rok, rl, q⟩ := h
    have nd := scIsWire.nd
    have hr2 : Room 2 _ := hr.mono (by decide)
    refine ⟨_, pss_cons (ps_if (PW.pt (pw_or (pt_not (pt_val (pe_callB call_isi (by rfl) B.isi (by decide +kernel) (pa_cons (pv 0) (pa_cons (pe_bltn (v := .ty "tuple") (by rfl) B.tuple (by decide +kernel) rfl) pa_nil)))))
          (pw_or1 (pt_cmpR op_ne (pe_callB call_len_seq (by rfl) B.len PySem.boot_len (pa_cons (pv 0) pa_nil)) pe_int (nomark _))))) (pss_one (ps_ret pe_bl)) pss_nil) <|
      pss_cons (ps_asg (pv 0) (pg_tup (by rfl) (pgs_cons (pg_name (i := 2) nd rfl (.inl rfl)) (pgs_cons (pg_name (i := 3) nd rfl (.inl rfl)) (pgs_cons (pg_name (i := 4) nd rfl (.inl rfl)) pgs_nil))))) <|
      pss_cons (ps_if (PW.pt (pw_or (pt_not (pt_val (pe_call DF.ok hr2 (by rfl) DF.mg DF.kp DF.bd .nil pass0 (pa_cons (pv 2) (pa_cons pe_int (pa_cons (pe_op op_sub (pv 1) pe_int) pa_nil))))))
          (pw_or1 (pt_not (pt_val (pe_call DF.ok hr2 (by rfl) DF.mg DF.kp DF.bd .nil pass0 (pa_cons (pv 3) (pa_cons pe_int (pa_cons (pe_op op_sub (pv 1) pe_int) pa_nil))))))))) (pss_one (ps_ret pe_bl)) pss_nil) <|
      pss_one <| ps_ret <| pe_and (pe_callB call_isi (by rfl) B.isi (by decide +kernel) (pa_cons (pv 4) (pa_cons (pe_bltn (v := .ty "tuple") (by rfl) B.tuple (by decide +kernel) rfl) pa_nil))) <| pe_one <|
        pe_callB (cr_all rfl) (by rfl) B.all (by decide +kernel) <| (pa_cons · pa_nil) <| pe_lc (own := [("worth", 5)]) (g := gName 5) (tt := tYes) (te := tCall spWorth [] E0 (tCons (tVar 5) tNil)) rfl nd (pi_tup (pv 4)) (blkOk_by (N := nIsWire) (sc := defScope sIsWire) (own := [("worth", 5)]) (by decide +kernel))
          (fun _ _ _ _ _ => pg_name (i := 5) nd rfl (.inl rfl)) (fun _ _ _ _ _ => pts_nil) (fun _ _ _ _ _ => pe_call DW.ok hr (by rfl) DW.mg DW.kp DW.bd .nil pass0 (pa_cons (pv 5) pa_nil)), ?_⟩
    refine ⟨_, rfl, _, _, _, _, true, rfl, .ty "tuple", ty_tup sq1, kit_ty (by decide +kernel), true, rfl, ?_⟩
    refine iteF ⟨_, rfl, a, _, rfl, .inr sq1, rfl, _, rfl, iteF ?_⟩
    refine ⟨_, rfl, a, _, rfl, sq1, rfl, _, _, rfl, _, _, rfl, _, _, rfl, rfl, ?_⟩
    refine ⟨_, rfl, _, rfl, _, _, rfl, rfl, _, _, _, rfl, true, ?_, iteF ?_⟩
    · rw [decide_eq_true (by omega), decide_eq_true (by omega)]
      rfl
    refine ⟨_, rfl, _, rfl, _, _, rfl, rfl, _, _, _, rfl, true, ?_, iteF ?_⟩
    · rw [decide_eq_true (by omega), decide_eq_true (by omega)]
      rfl
    refine ⟨_, rfl, _, _, _, _, true, rfl, .ty "tuple", ty_tup sq2, kit_ty (by decide +kernel), true, rfl, iteT ?_⟩
    refine ⟨_, rfl, b, rfl, ⟨_, sq2⟩, fun D hD => ?_⟩
    refine lc_tup (K := K) (a := b) (xs := x.2.2.map V.int) (fun i Hc => Hc D = some (.lst ((List.replicate i true).map V.bl)) ∧ Same H Hc) ⟨upd_same, same_new hD⟩ (fun i Hc _ ⟨_, sm⟩ => (TK.same sm).seq sq2) ?_ ?_
    · rintro i y Hc hy ⟨hc, sm⟩
      rw [List.getElem?_map] at hy
      cases ey : x.2.2[i]? with
      | none =>
        rw [ey] at hy
        cases hy
      | some z =>
      rw [ey] at hy
      cases hy
      have hz := rok z (List.mem_of_getElem? ey)
      have hi : i < x.2.2.length := (List.getElem?_eq_some_iff.mp ey).1
      refine ⟨rfl, tyes ?_⟩
      refine ⟨_, rfl, z, rfl, _, hc, by rw [List.length_map, List.length_replicate]; exact small1000 (by omega), ?_, same_mut sm hD⟩
      rw [upd_same, decide_eq_true hz.1, decide_eq_true hz.2, List.replicate_succ', List.map_append]
      rfl
    · rintro Hc ⟨hc, sm⟩
      refine ⟨D, _, rfl, SqL.of hc, ?_⟩
      have e : (List.replicate (x.2.2.map V.int).length true).all id = true := by
        rw [List.all_eq_true]
        intro y hy
        rw [List.mem_replicate] at hy
        rw [hy.2]
        rfl
      rw [e]
      exact q Hc sm
/-! ### is_taken -/
theorem scTaken : FnScope ["wire", "gates", "come", "start", "end"] ["wire", "gates", "come"] (defScope sTaken) := ⟨rfl, rfl, rfl, by decide +kernel, rfl, by decide +kernel, by decide +kernel⟩
abbrev DTaken (P : Program) (w : World) (K : PySem.W.Frag) (mg : Str → Option Value) (base : Heap) := Df P w K mg base 1 "is_taken" ["wire", "gates", "come"] (spTaken K)
theorem ok_taken {f : Addr} {fd : FuncData} (F : Fun K "is_taken" "is_taken" sTaken f fd) (hm : mg "is_taken" = some (.ref f)) : DTaken P w K mg base f fd := by
  refine ⟨?_, hm, F.kp, F.binds fun _ _ _ _ _ _ us hl => match us, hl with | [_, _, _], _ => rfl⟩
  refine F.ok scTaken (fun vs H Q E h => ?_) (fun cdv A outer s H vs Q E hr h => ?_)
  · obtain ⟨v, x, lg, lc, gs, cs, rfl, _⟩ := h
    rfl
  · obtain ⟨v, x, lg, lc, gs, cs, rfl, ⟨a, b, rfl, sq1, sq2⟩, ⟨gv, sg, ga⟩, sc, W, hcl, h0, q⟩ := h
    have nd := scTaken.nd
    refine ⟨_, pss_cons (ps_par (i := 3) (j := 4) (by rfl) nd rfl rfl (by decide) rfl rfl (pa_cons (pe_ix ix_tup (pv 0) pe_int (fun _ _ => rfl)) (pa_cons (pe_ix ix_tup (pv 0) pe_int (fun _ _ => rfl)) pa_nil)) (by rfl)) <|
      pss_cons (ps_if (PW.pt (pw_or (pt_cmpR op_eq (pe_ix ix_tup (pe_ix ix_list (pv 1) (pv 3) (fun _ _ => rfl)) pe_int (fun _ _ => rfl)) pe_str (nomark _)) (pw_or1 (pt_cmpR op_eq (pe_ix ix_tup (pe_ix ix_list (pv 1) (pv 4) (fun _ _ => rfl)) pe_int (fun _ _ => rfl)) pe_str (nomark _))))) (pss_one (ps_ret pe_bl)) pss_nil) <|
      pss_one <| ps_ret <| pe_or (pe_cmpR op_ne (pe_ix ix_tup (pe_ix ix_list (pv 1) (pv 4) (fun _ _ => rfl)) pe_int (fun _ _ => rfl)) pe_str (nomark _)) (pe_one (pe_cmpR op_eq (pe_ix ix_list (pv 2) (pv 4) (fun _ _ => rfl)) pe_int (nomark _))), ?_⟩
    have hl : gv.length = gs.length := ga.1
    obtain ⟨vs1, g1, e1, f1, a1, rfl, s1⟩ : ∃ vs1 g1, gv[x.1]? = some vs1 ∧ gs[x.1]? = some g1 ∧ GateV K H vs1 g1 := by
      have e1 : gs[x.1]? = some (gs[x.1]'W.s) := List.getElem?_eq_getElem W.s
      obtain ⟨y, hy, r⟩ := ga.getR e1
      exact ⟨y, _, hy, e1, r⟩
    obtain ⟨vs2, g2, e2, f2, a2, rfl, s2⟩ : ∃ vs2 g2, gv[x.2.1]? = some vs2 ∧ gs[x.2.1]? = some g2 ∧ GateV K H vs2 g2 := by
      have e1 : gs[x.2.1]? = some (gs[x.2.1]'W.e) := List.getElem?_eq_getElem W.e
      obtain ⟨y, hy, r⟩ := ga.getR e1
      exact ⟨y, _, hy, e1, r⟩
    have k1 := kindAt_get f1
    have k2 := kindAt_get f2
    refine ⟨_, rfl, a, _, 0, _, rfl, rfl, sq1, atI_nat (j := 0) rfl, _, rfl, a, _, 1, _, rfl, rfl, sq1, atI_nat (j := 1) rfl, _, _, rfl, ?_⟩
    refine ⟨_, rfl, _, rfl, lg, gv, _, _, rfl, rfl, sg, atI_nat e1, a1, _, 0, _, rfl, rfl, s1, atI_nat (j := 0) rfl, rfl, false, ?_, iteF ?_⟩
    · show V.bl (decide (V.str g1.1 = V.str "out")) = V.bl false
      rw [decide_eq_false]
      intro z
      exact W.ks (by rw [k1]; exact V.str.inj z)
    refine ⟨_, rfl, _, rfl, lg, gv, _, _, rfl, rfl, sg, atI_nat e2, a2, _, 0, _, rfl, rfl, s2, atI_nat (j := 0) rfl, rfl, false, ?_, iteF ?_⟩
    · show V.bl (decide (V.str g2.1 = V.str "in")) = V.bl false
      rw [decide_eq_false]
      intro z
      exact W.ke (by rw [k2]; exact V.str.inj z)
    refine ⟨_, rfl, _, rfl, lg, gv, _, _, rfl, rfl, sg, atI_nat e2, a2, _, 0, _, rfl, rfl, s2, atI_nat (j := 0) rfl, rfl, _, rfl, ite2 (fun e => ?_) (fun e => ?_)⟩
    · exact q
    · have hk : kindAt gs x.2.1 = "out" := by
        rw [k2]
        refine Classical.byContradiction fun z => e ?_
        show (!decide (V.str g2.1 = V.str "out")) = true
        rw [decide_eq_false (fun y => z (V.str.inj y))]
        rfl
      have hc := h0 hk
      refine ⟨_, rfl, _, rfl, lc, _, _, .int 0, rfl, rfl, sc, atI_nat (by rw [List.getElem?_map, hc]; rfl), rfl, q⟩
end
end Lag

set_option maxRecDepth 100000
set_option maxHeartbeats 4000000
namespace Lag
open PySem PySem.Spec PyProof.Rows L2
abbrev sChkWires : Stmt := topS 26
def cntL (n : Nat) (ws : List Wr) : List Nat := (List.range n).map (cnt ws)
theorem cntL_len (n : Nat) (ws : List Wr) : (cntL n ws).length = n := by simp [cntL]
theorem cntL_get {n e : Nat} {ws : List Wr} (h : e < n) : (cntL n ws)[e]? = some (cnt ws e) := by
  unfold cntL
  rw [List.getElem?_map, List.getElem?_range h]
  rfl
theorem cntL_nil (n : Nat) : cntL n [] = List.replicate n 0 := by
  refine List.ext_getElem? fun i => ?_
  by_cases h : i < n
  · rw [cntL_get h, List.getElem?_replicate, if_pos h]
    rfl
  · rw [List.getElem?_eq_none (by rw [cntL_len]; omega), List.getElem?_eq_none (by simp; omega)]
theorem cnt_app (ws : List Wr) (x : Wr) (e : Nat) : cnt (ws ++ [x]) e = cnt ws e + if x.2.1 = e then 1 else 0 := by
  unfold cnt
  rw [List.countP_append, List.countP_cons, List.countP_nil]
  by_cases h : x.2.1 = e <;> simp [h]
theorem cntL_app {n : Nat} {ws : List Wr} {x : Wr} (h : x.2.1 < n) : (cntL n ws).set x.2.1 (cnt ws x.2.1 + 1) = cntL n (ws ++ [x]) := by
  refine List.ext_getElem? fun i => ?_
  by_cases hi : i < n
  · rw [cntL_get hi, cnt_app, List.getElem?_set]
    by_cases e : x.2.1 = i
    · rw [if_pos e, if_pos e, if_pos (by rw [cntL_len]; exact h), e]
    · rw [if_neg e, if_neg e, cntL_get hi]
      rfl
  · rw [List.getElem?_eq_none (by rw [List.length_set, cntL_len]; omega), List.getElem?_eq_none (by rw [cntL_len]; omega)]
theorem cnt_take_lt {ws : List Wr} {i : Nat} {x : Wr} (h : ws[i]? = some x) : cnt (ws.take i) x.2.1 + 1 ≤ cnt ws x.2.1 := by
  have e : ws.take (i + 1) = ws.take i ++ [x] := by rw [List.take_add_one, h]; rfl
  have h1 : cnt (ws.take (i + 1)) x.2.1 ≤ cnt ws x.2.1 := by
    unfold cnt
    exact List.Sublist.countP_le (List.take_sublist _ _)
  rw [e, cnt_app, if_pos rfl] at h1
  exact h1
def spChkWires (K : PySem.W.Frag) : Sp := fun vs H Q _ => ∃ (lg lw : Addr) (gs : List Gt) (ws : List Wr), vs = [.ref lg, .ref lw] ∧ RG K H lg gs ∧ RW K H lw ws ∧ NetOk gs ws ∧ ∀ H', Same H H' → Q .non H'
theorem map_set' {α β : Type} (f : α → β) (l : List α) (i : Nat) (a : α) : (l.map f).set i (f a) = (l.set i a).map f := by simp [List.map_set]
section
variable {P : Program} {w : World} {K : PySem.W.Frag} {mg : Str → Option Value} {base : Heap}
theorem scChkWires : FnScope ["gates", "wires", "come", "place", "thing", "gate", "many"] ["gates", "wires"] (defScope sChkWires) := ⟨rfl, rfl, rfl, by decide +kernel, rfl, by decide +kernel, by decide +kernel⟩
abbrev DChkWires (P : Program) (w : World) (K : PySem.W.Frag) (mg : Str → Option Value) (base : Heap) := Df P w K mg base 5 "check_wires" ["gates", "wires"] (spChkWires K)
theorem ok_chkWires {f fW fT aK aW aF : Addr} {fd fdW fdT : FuncData} (F : Fun K "check_wires" "check_wires" sChkWires f fd) (hm : mg "check_wires" = some (.ref f)) (B : Bt mg) (C : Cns K mg aK aW aF) (DW : DIsWire P w K mg base fW fdW) (DT : DTaken P w K mg base fT fdT) : DChkWires P w K mg base f fd := by
  refine ⟨?_, hm, F.kp, F.binds fun _ _ _ _ _ _ us hl => match us, hl with | [_, _], _ => rfl⟩
  refine F.ok scChkWires (fun vs H Q E h => ?_) (fun cdv A outer s H vs Q E hr h => ?_)
  · obtain ⟨lg, lw, gs, ws, rfl, _⟩ := h
    rfl
  · obtain ⟨lg, lw, gs, ws, rfl, RGs, ⟨wv, sw, wa⟩, N, q⟩ := h
    have nd := scChkWires.nd
    have hr1 : Room 1 _ := hr.mono (by decide)
    refine ⟨_, pss_cons (ps_if (pt_not (pt_val (pe_callB call_isi (by rfl) B.isi (by decide +kernel) (pa_cons (pv 1) (pa_cons (pe_bltn (v := .ty "list") (by rfl) B.list (by decide +kernel) rfl) pa_nil))))) (pss_one ps_never) pss_nil) <|
      pss_cons (ps_set (i := 2) nd rfl (Or.inl rfl) (pe_op op_rep (pe_lst (pa_cons pe_int pa_nil)) (pe_callB call_len_seq (by rfl) B.len PySem.boot_len (pa_cons (pv 0) pa_nil)))) <|
      pss_cons (ps_for PassesOwn.never rfl (pi_enum (by rfl) B.enum (pa_cons (pv 1) pa_nil)) (pg_tup rfl (pgs_cons (pg_name (i := 3) nd rfl (Or.inl rfl)) (pgs_cons (pg_name (i := 4) nd rfl (Or.inl rfl)) pgs_nil))) <|
        pss_cons (ps_if (PW.pt (pw_or (pt_not (pt_val (pe_call DW.ok hr (by rfl) DW.mg DW.kp DW.bd .nil pass0 (pa_cons (pv 4) (pa_cons (pe_callB call_len_seq (by rfl) B.len PySem.boot_len (pa_cons (pv 0) pa_nil)) pa_nil)))))
            (pw_or1 (pt_not (pt_val (pe_call DT.ok hr1 (by rfl) DT.mg DT.kp DT.bd .nil pass0 (pa_cons (pv 4) (pa_cons (pv 0) (pa_cons (pv 2) pa_nil))))))))) (pss_one ps_never) pss_nil) <|
        pss_one <| ps_augS (pv 2) (pe_ix ix_tup (pv 4) pe_int (fun _ _ => rfl)) get_list pe_int ip_add set_list) <|
      pss_one <| ps_for PassesOwn.never rfl (pi_zip (by rfl) B.zip (pa_cons (pv 0) (pa_cons (pv 2) pa_nil))) (pg_tup rfl (pgs_cons (pg_name (i := 5) nd rfl (Or.inl rfl)) (pgs_cons (pg_name (i := 6) nd rfl (Or.inl rfl)) pgs_nil))) <|
        pss_one <| ps_if (PW.pt (pw_and (pt_cmpR op_in_seq (pe_ix ix_tup (pv 5) pe_int (fun _ _ => rfl)) (pe_glob (v := .ref aF) (by rfl) C.mF rfl) (by rfl)) (pw_and1 (pt_cmpR op_eq (pv 6) pe_int (nomark _))))) (pss_one ps_never) pss_nil, ?_⟩
    obtain ⟨gv, sg, ga⟩ := id RGs
    have hlg : gv.length = gs.length := ga.1
    have hlw : wv.length = ws.length := wa.1
    have hgl := N.gl
    refine ⟨_, rfl, _, _, _, _, true, rfl, .ty "list", ty_lst sw, kit_ty (by decide +kernel), true, rfl, iteF ?_⟩
    refine ⟨(by show 1 ≤ sizeLine; decide), fun l0 hl0 => ?_⟩
    refine ⟨_, rfl, lg, gv, rfl, .inl ((same_new hl0).seq sg), ?_⟩
    refine ⟨l0, _, _, rfl, rfl, upd_same, by omega, by omega, ?_, fun lc hlc => ?_⟩
    · show 1 * _ ≤ sizeLine
      have : 1 * ((gv.length : Int)).toNat ≤ 1000 := by omega
      exact Nat.le_of_lt (small1000 this)
    have sm0 : Same H (upd H l0 (.lst [.int 0])) := same_new hl0
    have hlc0 : H lc = none := sm0.free hlc
    have e0 : (List.replicate ((gv.length : Int)).toNat [V.int 0]).flatten = (cntL gs.length (ws.take 0)).map fun i => V.int (i : Nat) := by
      rw [List.take_zero, cntL_nil, List.map_replicate, ← hlg, Int.toNat_natCast]
      generalize gv.length = n
      induction n with
      | zero => rfl
      | succ n ih =>
        rw [List.replicate_succ, List.flatten_cons, ih, List.replicate_succ]
        rfl
    rw [e0]
    -- for place, thing in enumerate(wires)
    refine ⟨_, rfl, lw, wv, rfl, (sm0.trans (same_new hlc)).seq sw, for_it (walk_enum (K := K) (a := lw) (xs := wv)) (fun i σ H2 => ∃ s3 s4 : Option V, σ = [some (.ref lg), some (.ref lw), some (.ref lc), s3, s4, none, none] ∧
        H2 lc = some (.lst ((cntL gs.length (ws.take i)).map fun i => V.int (i : Nat))) ∧ Same H H2)
      ⟨_, _, rfl, upd_same, sm0.trans (same_new hlc)⟩ (fun i σ H2 _ ⟨_, _, _, _, sm⟩ => sm.seq sw) ?_ ?_⟩
    · rintro i v σ H2 H2' hi ⟨s3, s4, rfl, hc, sm⟩ ⟨T, x1, y, rfl, hT, rfl, ex, ey⟩
      cases ex
      obtain ⟨x, hx, wx⟩ := wa.get ey
      have W := N.wok x (List.mem_of_getElem? hx)
      have hxi : i < ws.length := (List.getElem?_eq_some_iff.mp hx).1
      have smT : Same H2 (upd H2 T (.tup [.int (i : Nat), y])) := same_new hT
      have sm2 := sm.trans smT
      refine ⟨T, _, rfl, .inl (.inl upd_same), rfl, _, _, rfl, _, _, rfl, rfl, ?_⟩
      refine ⟨_, rfl, _, rfl, lg, gv, rfl, .inl (sm2.seq sg), y, x, gv.length, rfl, wx.tk (TK.same sm2), by rw [hlg]; exact W.s, by rw [hlg]; exact W.e, W.r, by have := W.rl; omega, fun H3 sm3 => ⟨true, rfl, iteF ?_⟩⟩
      have sm4 := sm2.trans sm3
      have hc3 := sm3 _ _ (smT _ _ hc)
      refine ⟨_, rfl, _, rfl, _, rfl, y, x, lg, lc, gs, cntL gs.length (ws.take i), rfl, wx.tk (TK.same sm4), RGs.same sm4, SqL.of hc3, W, cntL_len _ _, fun hk => ?_, true, rfl, iteF ?_⟩
      · rw [cntL_get W.e]
        have h1 := N.one _ W.e hk
        have h2 := cnt_take_lt hx
        congr 1
        omega
      obtain ⟨a, b, rfl, sq1, sq2⟩ := wx
      have hlen : x.2.1 < (cntL gs.length (ws.take i)).length := by rw [cntL_len]; exact W.e
      refine ⟨_, rfl, _, rfl, a, _, 1, _, rfl, rfl, (TK.same sm4).seq sq1, atI_nat (j := 1) rfl, lc, _, x.2.1, .int (cnt (ws.take i) x.2.1 : Nat), rfl, rfl, SqL.of hc3, by rw [List.getElem?_map, cntL_get W.e]; rfl, _, _, rfl, rfl, lc, _, _, x.2.1, rfl, rfl, hc3, Evl.ixN_nat (by rw [List.length_map]; exact hlen), ?_⟩
      refine ⟨_, _, rfl, ?_, same_mut sm4 hlc0⟩
      have et : ws.take (i + 1) = ws.take i ++ [x] := by rw [List.take_add_one, hx]; rfl
      rw [upd_same, et, ← cntL_app W.e, ← map_set']
      rfl
    · rintro σ H2 ⟨s3, s4, rfl, hc, sm⟩
      rw [hlw, List.take_length] at hc
      -- for gate, many in zip(gates, come)
      refine ⟨_, rfl, _, rfl, lg, lc, gv, _, rfl, sm.seq sg, SqL.of hc, RZ.for_zipL (K := K) (a := lg) (b := lc) (xs := gv) (by rw [List.length_map, cntL_len]; exact hlg) (fun i σ H3 => ∃ s5 s6 : Option V, σ = [some (.ref lg), some (.ref lw), some (.ref lc), s3, s4, s5, s6] ∧ Same H2 H3)
        ⟨_, _, rfl, Same.refl H2⟩ (fun i σ H3 ⟨_, _, _, sm3⟩ => ⟨(sm.trans sm3).seq sg, SqL.of (sm3 _ _ hc)⟩) ?_ ?_⟩
      · rintro i x y T σ H3 hx hy ⟨s5, s6, rfl, sm3⟩ hT
        obtain ⟨g, hg, a, rfl, sq⟩ := ga.get hx
        have hgi : i < gs.length := (List.getElem?_eq_some_iff.mp hg).1
        rw [List.getElem?_map, cntL_get hgi] at hy
        cases hy
        have sm4 : Same H (upd H3 T (.tup [.ref a, .int (cnt ws i : Nat)])) := (sm.trans sm3).trans (same_new hT)
        refine ⟨T, _, rfl, .inl (.inl upd_same), rfl, _, _, rfl, _, _, rfl, rfl, ?_⟩
        refine ⟨_, rfl, a, _, 0, _, rfl, rfl, (TK.same sm4).seq sq, atI_nat (j := 0) rfl, aF, _, rfl, .inr (C.sF _), rfl, rfl, _, rfl, ite2 (fun e => ?_) (fun e => ?_)⟩
        · have e' : inV (V.str g.1) [V.str "out", V.str "first"] = true := e
          have hpos : 1 ≤ cnt ws i := by
            unfold inV at e'
            rw [List.any_eq_true] at e'
            obtain ⟨x, hx, hxe⟩ := e'
            simp only [List.mem_cons, List.not_mem_nil, or_false] at hx
            rcases hx with rfl | rfl
            · have := N.one i hgi (by rw [kindAt_get hg]; exact (eq_of_beq hxe).symm)
              omega
            · exact N.some i hgi (by rw [kindAt_get hg]; exact (eq_of_beq hxe).symm)
          refine ⟨_, rfl, rfl, false, ?_, iteF ⟨_, _, rfl, sm3.trans (same_new hT)⟩⟩
          show V.bl (decide (V.int (cnt ws i : Int) = V.int 0)) = V.bl false
          rw [decide_eq_false]
          intro z
          have := V.int.inj z
          omega
        · exact iteF ⟨_, _, rfl, sm3.trans (same_new hT)⟩
      · rintro σ H3 ⟨s5, s6, rfl, sm3⟩
        exact q H3 (sm.trans sm3)
end
end Lag

set_option maxRecDepth 100000
set_option maxHeartbeats 4000000
namespace Lag
open PySem PySem.Spec PyProof.Rows L2
/-! ### the order of gates along wires without registers: the mathematics -/
def bare (ws : List Wr) : List (Nat × Nat) := (ws.filter fun x => x.2.2.isEmpty).map fun x => (x.1, x.2.1)
/-- how many wires of B lead into e from gates that are not in dn -/
def mis (B : List (Nat × Nat)) (dn : List Nat) (e : Nat) : Nat := B.countP fun b => b.2 == e && !dn.contains b.1
def frm (B : List (Nat × Nat)) (g e : Nat) : Nat := B.countP fun b => b.1 == g && b.2 == e
theorem mis_split {B : List (Nat × Nat)} {dn : List Nat} {g : Nat} (h : g ∉ dn) (e : Nat) : mis B dn e = mis B (dn ++ [g]) e + frm B g e := by
  unfold mis frm
  induction B with
  | nil => rfl
  | cons b B ih =>
    rw [List.countP_cons, List.countP_cons, List.countP_cons, ih]
    by_cases h1 : b.2 = e
    · by_cases h2 : b.1 = g
      · have : b.1 ∉ dn := by rw [h2]; exact h
        simp [h1, h2, h]
        omega
      · by_cases h3 : b.1 ∈ dn
        · simp [h1, h2, h3]
        · simp [h1, h2, h3]
          omega
    · simp [h1]
theorem mis_zero {B : List (Nat × Nat)} {dn : List Nat} {e : Nat} (h : mis B dn e = 0) {b : Nat × Nat} (hb : b ∈ B) (he : b.2 = e) : b.1 ∈ dn := by
  unfold mis at h
  rw [List.countP_eq_zero] at h
  have := h b hb
  simp [he] at this
  exact this
theorem frm_drop {B : List (Nat × Nat)} {j : Nat} {b : Nat × Nat} (h : B[j]? = some b) (g e : Nat) : frm (B.drop j) g e = frm (B.drop (j + 1)) g e + if b.1 = g ∧ b.2 = e then 1 else 0 := by
  obtain ⟨hj, rfl⟩ := List.getElem?_eq_some_iff.mp h
  rw [List.drop_eq_getElem_cons hj]
  unfold frm
  rw [List.countP_cons]
  by_cases h1 : B[j].1 = g <;> by_cases h2 : B[j].2 = e <;> simp [h1, h2]
structure KI (B : List (Nat × Nat)) (n : Nat) (placed : List Nat) (d : Nat) : Prop where
  nd : placed.Nodup
  lt : ∀ e ∈ placed, e < n
  le : d ≤ placed.length
  iff : ∀ e, e < n → (e ∈ placed ↔ mis B (placed.take d) e = 0)
  top : ∀ (j e : Nat), placed[j]? = some e → ∀ b ∈ B, b.2 = e → b.1 ∈ placed.take j
structure KJ (B : List (Nat × Nat)) (n : Nat) (placed : List Nat) (d g j : Nat) : Prop where
  nd : placed.Nodup
  lt : ∀ e ∈ placed, e < n
  at_ : placed[d]? = some g
  iff : ∀ e, e < n → (e ∈ placed ↔ mis B (placed.take (d + 1)) e + frm (B.drop j) g e = 0)
  top : ∀ (j e : Nat), placed[j]? = some e → ∀ b ∈ B, b.2 = e → b.1 ∈ placed.take j
theorem take_add {l : List Nat} {d g : Nat} (h : l[d]? = some g) : l.take (d + 1) = l.take d ++ [g] := by rw [List.take_add_one, h]; rfl
theorem nodup_take {l : List Nat} {d g : Nat} (nd : l.Nodup) (h : l[d]? = some g) : g ∉ l.take d := by
  intro hm
  obtain ⟨i, hi⟩ := List.getElem?_of_mem hm
  have h1 : i < d := by
    have := (List.getElem?_eq_some_iff.mp hi).1
    rw [List.length_take] at this
    omega
  rw [List.getElem?_take_of_lt h1] at hi
  have := nd_ix nd hi h
  omega
theorem KI.go {B : List (Nat × Nat)} {n : Nat} {placed : List Nat} {d g : Nat} (h : KI B n placed d) (hg : placed[d]? = some g) : KJ B n placed d g 0 :=
  ⟨h.nd, h.lt, hg, fun e he => by rw [h.iff e he, take_add hg, mis_split (nodup_take h.nd hg), List.drop_zero], h.top⟩
theorem KJ.done {B : List (Nat × Nat)} {n : Nat} {placed : List Nat} {d g : Nat} (h : KJ B n placed d g B.length) : KI B n placed (d + 1) := by
  have hd : d < placed.length := (List.getElem?_eq_some_iff.mp h.at_).1
  refine ⟨h.nd, h.lt, hd, fun e he => ?_, h.top⟩
  rw [h.iff e he, List.drop_length]
  rfl
theorem KJ.skip {B : List (Nat × Nat)} {n : Nat} {placed : List Nat} {d g j : Nat} {b : Nat × Nat} (h : KJ B n placed d g j) (hb : B[j]? = some b) (hg : b.1 ≠ g) : KJ B n placed d g (j + 1) :=
  ⟨h.nd, h.lt, h.at_, fun e he => by rw [h.iff e he, frm_drop hb, if_neg (fun z => hg z.1)]; rfl, h.top⟩
theorem KJ.not {B : List (Nat × Nat)} {n : Nat} {placed : List Nat} {d g j : Nat} {b : Nat × Nat} (h : KJ B n placed d g j) (hb : B[j]? = some b) (hg : b.1 = g) (hn : mis B (placed.take (d + 1)) b.2 + frm (B.drop (j + 1)) g b.2 ≠ 0) : KJ B n placed d g (j + 1) := by
  refine ⟨h.nd, h.lt, h.at_, fun e he => ?_, h.top⟩
  rw [h.iff e he, frm_drop hb]
  by_cases h2 : b.2 = e
  · subst h2
    rw [if_pos ⟨hg, rfl⟩]
    omega
  · rw [if_neg (fun z => h2 z.2)]
    rfl
theorem KJ.put {B : List (Nat × Nat)} {n : Nat} {placed : List Nat} {d g j : Nat} {b : Nat × Nat} (h : KJ B n placed d g j) (hb : B[j]? = some b) (hg : b.1 = g) (hlt : b.2 < n) (hn : mis B (placed.take (d + 1)) b.2 + frm (B.drop (j + 1)) g b.2 = 0) : KJ B n (placed ++ [b.2]) d g (j + 1) := by
  have hd : d < placed.length := (List.getElem?_eq_some_iff.mp h.at_).1
  have hnot : b.2 ∉ placed := fun z => by
    have := (h.iff _ hlt).mp z
    rw [frm_drop hb, if_pos ⟨hg, rfl⟩] at this
    omega
  have et : (placed ++ [b.2]).take (d + 1) = placed.take (d + 1) := List.take_append_of_le_length (by omega)
  refine ⟨?_, ?_, ?_, ?_, ?_⟩
  · rw [List.nodup_append]
    refine ⟨h.nd, by simp, fun a ha c hc => ?_⟩
    simp at hc
    subst hc
    intro z
    exact hnot (by rw [← z]; exact ha)
  · intro e he
    rcases List.mem_append.mp he with he | he
    · exact h.lt e he
    · simp at he
      subst he
      exact hlt
  · rw [List.getElem?_append_left hd]
    exact h.at_
  · intro e he
    rw [et, List.mem_append]
    by_cases h2 : b.2 = e
    · subst h2
      simp [hn]
    · have := h.iff e he
      rw [frm_drop hb, if_neg (fun z => h2 z.2)] at this
      rw [this]
      simp
      intro z
      exact absurd z.symm h2
  · intro k e hk c hc hce
    by_cases hk' : k < placed.length
    · rw [List.getElem?_append_left hk'] at hk
      rw [List.take_append_of_le_length (by omega)]
      exact h.top k e hk c hc hce
    · have hkl : k = placed.length := by
        have := (List.getElem?_eq_some_iff.mp hk).1
        simp at this
        omega
      subst hkl
      rw [List.getElem?_append_right (by omega)] at hk
      simp at hk
      subst hk
      rw [List.take_left']
      · have := mis_zero (show mis B (placed.take (d + 1)) b.2 = 0 by omega) hc hce
        exact List.mem_of_mem_take this
      · rfl
/-- what the order is: gates without two alike, each behind those it hangs on; all whose wires come from such -/
def Ord (n : Nat) (ws : List Wr) (ord : List Nat) : Prop := KI (bare ws) n ord ord.length
theorem Ord.full {n : Nat} {ws : List Wr} {ord : List Nat} (h : Ord n ws ord) (hw : ∀ x ∈ ws, x.1 < n ∧ x.2.1 < n) (rk : ∃ ρ : Nat → Nat, ∀ x ∈ ws, x.2.2 = [] → ρ x.1 < ρ x.2.1) : ord.Perm (List.range n) := by
  obtain ⟨ρ, hρ⟩ := rk
  have all : ∀ r e, e < n → ρ e = r → e ∈ ord := by
    intro r
    induction r using Nat.strongRecOn with
    | ind r ih =>
      intro e he hr
      rw [h.iff e he, List.take_length]
      unfold mis
      rw [List.countP_eq_zero]
      intro b hb
      obtain ⟨x, hx, rfl⟩ := List.mem_map.mp hb
      rw [List.mem_filter] at hx
      have hr0 : x.2.2 = [] := by simpa using hx.2
      have := hρ x hx.1 hr0
      simp
      intro z
      exact ih (ρ x.1) (by rw [← hr, ← z]; exact this) x.1 (hw x hx.1).1 rfl
  rw [List.perm_iff_count]
  intro a
  rw [h.nd.count, List.nodup_range.count]
  by_cases ha : a < n
  · rw [if_pos (all _ a ha rfl), if_pos (List.mem_range.mpr ha)]
  · rw [if_neg (fun z => ha (h.lt a z)), if_neg (fun z => ha (List.mem_range.mp z))]
end Lag

set_option maxRecDepth 100000
set_option maxHeartbeats 8000000
namespace Lag
open PySem PySem.Spec PyProof.Rows L2
abbrev sAlong : Stmt := topS 15
abbrev sOrder : Stmt := topS 30
def PairV (K : PySem.W.Frag) (H : Hp) (v : V) (b : Nat × Nat) : Prop := ∃ a, v = .ref a ∧ SqT K H a [.int (b.1 : Nat), .int (b.2 : Nat)]
theorem PairV.tk {K : PySem.W.Frag} {H H' : Hp} {v : V} {b : Nat × Nat} (t : TK H H') (h : PairV K H v b) : PairV K H' v b := by
  obtain ⟨a, e, s⟩ := h
  exact ⟨a, e, t.seq s⟩
/-- numbers by a function of the place -/
def fnL (n : Nat) (f : Nat → Nat) : List V := (List.range n).map fun e => V.int (f e : Nat)
theorem fnL_len (n : Nat) (f : Nat → Nat) : (fnL n f).length = n := by simp [fnL]
theorem fnL_get {n e : Nat} {f : Nat → Nat} (h : e < n) : (fnL n f)[e]? = some (V.int (f e : Nat)) := by
  unfold fnL
  rw [List.getElem?_map, List.getElem?_range h]
  rfl
theorem fnL_set {n e : Nat} {f f' : Nat → Nat} {z : Int} (h : e < n) (he : (f' e : Int) = z) (ho : ∀ i, i ≠ e → f' i = f i) : (fnL n f).set e (V.int z) = fnL n f' := by
  refine List.ext_getElem? fun i => ?_
  by_cases hi : i < n
  · rw [fnL_get hi, List.getElem?_set]
    by_cases ei : e = i
    · subst ei
      rw [if_pos rfl, if_pos (by rw [fnL_len]; exact h), he]
    · rw [if_neg ei, fnL_get hi, ho i (fun z => ei z.symm)]
  · rw [List.getElem?_eq_none (by rw [List.length_set, fnL_len]; omega), List.getElem?_eq_none (by rw [fnL_len]; omega)]
theorem fnL_zero (n : Nat) (f : Nat → Nat) (h : ∀ e, f e = 0) : (List.replicate n [V.int 0]).flatten = fnL n f := by
  have e : f = fun _ => 0 := funext h
  subst e
  unfold fnL
  induction n with
  | zero => rfl
  | succ n ih =>
    rw [List.replicate_succ', List.flatten_append, ih, List.range_succ, List.map_append]
    rfl
def spOrder (K : PySem.W.Frag) : Sp := fun vs H Q _ => ∃ (n : Nat) (lw : Addr) (ws : List Wr), vs = [.int (n : Nat), .ref lw] ∧ RW K H lw ws ∧ (∀ x ∈ ws, x.1 < n ∧ x.2.1 < n) ∧ n ≤ 1000 ∧ ws.length ≤ 1000 ∧
  ∀ (ord : List Nat) (p : Addr) (H' : Hp), Ord n ws ord → Same H H' → H p = none → H' p = some (.lst (ord.map fun i => V.int (i : Nat))) → Q (.ref p) H'
def spAlong (K : PySem.W.Frag) : Sp := fun vs H Q _ => ∃ (n : Nat) (lb : Addr) (bv : List V) (B : List (Nat × Nat)), vs = [.int (n : Nat), .ref lb] ∧ SqL K H lb bv ∧ All2 (PairV K H) bv B ∧ (∀ b ∈ B, b.1 < n ∧ b.2 < n) ∧ n ≤ 1000 ∧ B.length ≤ 1000 ∧
  ∀ (ord : List Nat) (p : Addr) (H' : Hp), KI B n ord ord.length → Same H H' → H p = none → H' p = some (.lst (ord.map fun i => V.int (i : Nat))) → Q (.ref p) H'
abbrev nAlong : List Str := ["many", "pairs", "missing", "start", "end", "placed", "done", "place"]
theorem scAlong : FnScope nAlong ["many", "pairs"] (defScope sAlong) := ⟨rfl, rfl, rfl, by decide +kernel, rfl, by decide +kernel, by decide +kernel⟩
abbrev nOrder : List Str := ["many_gates", "wires", "start", "end", "held"]
theorem scOrder : FnScope nOrder ["many_gates", "wires"] (defScope sOrder) := ⟨rfl, rfl, rfl, by decide +kernel, rfl, by decide +kernel, by decide +kernel⟩
theorem bare_take {ws : List Wr} {i : Nat} {x : Wr} (h : ws[i]? = some x) : bare (ws.take (i + 1)) = if x.2.2.isEmpty then bare (ws.take i) ++ [(x.1, x.2.1)] else bare (ws.take i) := by
  unfold bare
  rw [List.take_add_one, h]
  show ((ws.take i ++ [x]).filter _).map _ = _
  rw [List.filter_append]
  by_cases e : x.2.2.isEmpty
  · rw [if_pos e, List.filter_cons, if_pos e, List.map_append]
    rfl
  · rw [if_neg e, List.filter_cons, if_neg e, List.filter_nil, List.append_nil]
theorem bare_len (ws : List Wr) : (bare ws).length ≤ ws.length := by
  unfold bare
  rw [List.length_map]
  exact List.length_filter_le _ _
theorem mis_take {B : List (Nat × Nat)} {i : Nat} {b : Nat × Nat} (h : B[i]? = some b) (e : Nat) : mis (B.take (i + 1)) [] e = mis (B.take i) [] e + if b.2 = e then 1 else 0 := by
  unfold mis
  rw [List.take_add_one, h]
  show (B.take i ++ [b]).countP _ = _
  rw [List.countP_append, List.countP_cons, List.countP_nil]
  by_cases h1 : b.2 = e <;> simp [h1]
section
variable {P : Program} {w : World} {K : PySem.W.Frag} {mg : Str → Option Value} {base : Heap}
abbrev DAlong (P : Program) (w : World) (K : PySem.W.Frag) (mg : Str → Option Value) (base : Heap) := Df P w K mg base 1 "order_along" ["many", "pairs"] (spAlong K)
theorem ok_along {f : Addr} {fd : FuncData} (F : Fun K "order_along" "order_along" sAlong f fd) (hm : mg "order_along" = some (.ref f)) (Bb : Bt mg) : DAlong P w K mg base f fd := by
  refine ⟨?_, hm, F.kp, F.binds fun _ _ _ _ _ _ us hl => match us, hl with | [_, _], _ => rfl⟩
  refine F.ok scAlong (fun vs H Q E h => ?_) (fun cdv A outer s H vs Q E hr h => ?_)
  · obtain ⟨n, lb, bv, B, rfl, _⟩ := h
    rfl
  · obtain ⟨n, lb, bv, B, rfl, sb, ba1, hBlt, hn, hwl, q⟩ := h
    have nd := scAlong.nd
    refine ⟨_, pss_cons (ps_set (i := 2) nd rfl (Or.inr rfl) (pe_op op_rep (pe_lst (pa_cons pe_int pa_nil)) (pv 0))) <|
      pss_cons (ps_for PassesOwn.never rfl (pi_list (pv 1)) (pg_tup rfl (pgs_cons (pg_name (i := 3) nd rfl (Or.inl rfl)) (pgs_cons (pg_name (i := 4) nd rfl (Or.inl rfl)) pgs_nil)))
        (pss_one (ps_augS (pv 2) (pv 4) get_list pe_int ip_add set_list))) <|
      pss_cons (ps_setLc (i := 5) (own := [("place", 7)]) (g := gName 7) (tt := tTest (tOp rEq (tOp (rIxL K) (tVar 2) (tVar 7)) (tC (.int 0)))) (te := tVar 7) rfl nd rfl rfl (sw_true rfl rfl rfl (by decide +kernel))
          (pi_range1 (by rfl) Bb.range (pa_cons (pv 0) pa_nil)) (blkOk_by (N := nAlong) (sc := defScope sAlong) (own := [("place", 7)]) (by decide +kernel)) (fun _ _ _ _ _ => pg_name (i := 7) nd rfl (Or.inl rfl))
          (fun _ _ _ _ _ => pts_one (pt_cmpR op_eq (pe_ix ix_list (pv 2) (pv 7) (fun _ _ => rfl)) pe_int (nomark _))) (fun _ _ _ _ _ => pv 7)) <|
      pss_cons (ps_set (i := 6) nd rfl (Or.inl rfl) pe_int) <|
      pss_cons (ps_while PassesOwn.never (pt_cmpR op_lt (pv 6) (pe_callB call_len_seq (by rfl) Bb.len PySem.boot_len (pa_cons (pv 5) pa_nil)) (nomark _)) <|
        pss_cons (ps_for PassesOwn.never rfl (pi_list (pv 1)) (pg_tup rfl (pgs_cons (pg_name (i := 3) nd rfl (Or.inl rfl)) (pgs_cons (pg_name (i := 4) nd rfl (Or.inl rfl)) pgs_nil))) <|
          pss_one <| ps_if (pt_cmpR op_eq (pv 3) (pe_ix ix_list (pv 5) (pv 6) (fun _ _ => rfl)) (nomark _))
            (pss_cons (ps_augS (pv 2) (pv 4) get_list pe_int ip_sub set_list) <| pss_one <| ps_if (pt_cmpR op_eq (pe_ix ix_list (pv 2) (pv 4) (fun _ _ => rfl)) pe_int (nomark _))
              (pss_one (ps_expr (pe_bm PySem.F.plainAttrs_list PySem.F.slot_list_append PySem.F.type_list_append mt_append (pv 5) (pa_cons (pv 4) pa_nil)))) pss_nil) pss_nil) <|
        pss_one <| ps_aug (i := 6) nd rfl (Or.inl rfl) pe_int ip_add) <|
      pss_one <| ps_ret (pv 5), ?_⟩
    have hbl : bv.length ≤ 1000 := by
      rw [ba1.1]
      omega
    -- missing = [0] * many_gates
    refine ⟨(by show 1 ≤ sizeLine; decide), fun l0 hl0 => ?_⟩
    have sm2 : Same H (upd H l0 (.lst [.int 0])) := same_new hl0
    refine ⟨_, rfl, l0, _, _, rfl, rfl, upd_same, by omega, by omega, ?_, fun lm hlm => ?_⟩
    · show 1 * _ ≤ sizeLine
      have : 1 * ((n : Int)).toNat ≤ 1000 := by omega
      exact Nat.le_of_lt (small1000 this)
    rw [Int.toNat_natCast, fnL_zero n (mis (B.take 0) []) (fun e => by simp [mis])]
    have sm3 : Same H (upd (upd H l0 (.lst [.int 0])) lm (.lst (fnL n (mis (B.take 0) [])))) := sm2.trans (same_new hlm)
    have hm1 : H lm = none := sm2.free hlm
    -- for start, end in bare: missing[end] += 1
    refine ⟨_, rfl, lb, rfl, ⟨_, sm3.seq sb⟩, for_list (K := K) (a := lb) (xs := bv) (fun i σ H4 => ∃ s4 s5 : Option V, σ = [some (.int (n : Nat)), some (.ref lb), some (.ref lm), s4, s5, none, none, none] ∧
        H4 lm = some (.lst (fnL n (mis (B.take i) []))) ∧ Same H H4) ⟨_, _, rfl, upd_same, sm3⟩ (fun i σ H4 _ ⟨_, _, _, _, sm⟩ => sm.seq sb) ?_ ?_⟩
    · rintro i x σ H4 hx ⟨s4, s5, rfl, hml, sm4⟩
      obtain ⟨b, hbb, a, rfl, sq⟩ := ba1.get hx
      have hlt := hBlt b (List.mem_of_getElem? hbb)
      refine ⟨a, _, rfl, (TK.same sm4).seq sq, rfl, _, _, rfl, _, _, rfl, rfl, ?_⟩
      refine ⟨_, rfl, _, rfl, lm, _, b.2, _, rfl, rfl, SqL.of hml, fnL_get hlt.2, _, _, rfl, rfl, lm, _, _, b.2, rfl, rfl, hml, Evl.ixN_nat (by rw [fnL_len]; exact hlt.2), ?_⟩
      refine ⟨_, _, rfl, ?_, same_mut sm4 hm1⟩
      rw [upd_same]
      refine congrArg (fun z => some (HO.lst z)) (fnL_set hlt.2 ?_ ?_)
      · rw [mis_take hbb, if_pos rfl]
        show ((mis (B.take i) [] b.2 + 1 : Nat) : Int) = ((mis (B.take i) [] b.2 : Nat) : Int) + 1
        omega
      · intro j hj
        rw [mis_take hbb, if_neg (fun z => hj z.symm)]
        rfl
    · rintro σ H4 ⟨s4, s5, rfl, hml, sm4⟩
      rw [ba1.1, List.take_length] at hml
      -- placed = [gate for gate in range(many_gates) if missing[gate] == 0]
      refine ⟨_, rfl, _, rfl, by omega, by omega, fun lp hlp => ?_⟩
      refine lc_range (lo := 0) (n := ((n : Int)).toNat) (fun i Hc => Hc lp = some (.lst (((List.range i).filter fun e => mis B [] e == 0).map fun i => V.int (i : Nat))) ∧ Same H4 Hc) ⟨upd_same, same_new hlp⟩ ?_ ?_
      · rintro i Hc hi ⟨hc, sm⟩
        have hi' : i < n := by omega
        have hlen : (((List.range i).filter fun e => mis B [] e == 0).map fun i => V.int (i : Nat)).length ≤ 1000 := by
          rw [List.length_map]
          have := List.length_filter_le (fun e => mis B [] e == 0) (List.range i)
          rw [List.length_range] at this
          omega
        have e0 : (0 : Int) + (i : Int) = (i : Int) := Int.zero_add _
        rw [e0]
        refine ⟨rfl, ?_⟩
        refine ⟨_, rfl, _, rfl, lm, _, _, _, rfl, rfl, SqL.of (sm _ _ hml), atI_nat (fnL_get hi'), rfl, _, rfl, ite2 (fun e => ?_) (fun e => ?_)⟩
        · have hz : mis B [] i = 0 := by
            have := V.int.inj (of_decide_eq_true e)
            omega
          refine ⟨_, rfl, _, hc, Nat.lt_of_le_of_lt hlen (small1000 (Nat.le_refl _)), ?_, same_mut sm hlp⟩
          rw [upd_same, List.range_succ, List.filter_append, List.map_append, List.filter_cons, if_pos (by rw [hz]; rfl)]
          rfl
        · have hz : ¬ (mis B [] i == 0) = true := fun z => by
            apply e
            rw [beq_iff_eq] at z
            rw [z]
            rfl
          refine ⟨?_, sm⟩
          rw [List.range_succ, List.filter_append, List.filter_cons, if_neg hz, List.filter_nil, List.append_nil]
          exact hc
      · rintro H5 ⟨hp5, sm5⟩
        rw [Int.toNat_natCast] at hp5
        have k0 : KI B n ((List.range n).filter fun e => mis B [] e == 0) 0 := by
          refine ⟨List.nodup_range.sublist List.filter_sublist, fun e he => List.mem_range.mp (List.mem_filter.mp he).1, Nat.zero_le _, fun e he => ?_, fun j e hj b hb hbe => ?_⟩
          · rw [List.mem_filter, List.take_zero]
            simp [he]
          · have hm0 := (List.mem_filter.mp (List.mem_of_getElem? hj)).2
            rw [beq_iff_eq] at hm0
            have := mis_zero hm0 hb hbe
            simp at this
        -- the while
        have hp0 : H lp = none := sm4.free hlp
        refine ⟨fun m σ H6 => ∃ (placed : List Nat) (d : Nat) (s4 s5 : Option V), σ = [some (.int (n : Nat)), some (.ref lb), some (.ref lm), s4, s5, some (.ref lp), some (.int (d : Nat)), none] ∧
          KI B n placed d ∧ H6 lp = some (.lst (placed.map fun i => V.int (i : Nat))) ∧ H6 lm = some (.lst (fnL n (mis B (placed.take d)))) ∧ Same H H6 ∧ m = n - d, ?_, ?_⟩
        · have h5m := sm5 _ _ hml
          have e0 : mis B [] = mis B (((List.range n).filter fun e => mis B [] e == 0).take 0) := by rw [List.take_zero]
          rw [e0] at h5m
          exact ⟨n, _, 0, _, _, rfl, k0, hp5, h5m, sm4.trans sm5, rfl⟩
        · rintro m σ H6 ⟨placed, d, s4, s5, rfl, ki, hp6, hm6, sm6, rfl⟩
          have hp1 : H lp = none := sm4.free hlp
          have npm : lp ≠ lm := fun z => by
            rw [z, hml] at hlp
            cases hlp
          refine ⟨_, rfl, _, rfl, lp, _, rfl, .inl (SqL.of hp6), _, _, rfl, rfl, _, rfl, ite2 (fun e => ?_) (fun e => ?_)⟩
          · have hd : d < placed.length := by
              have e' : (d : Int) < ((placed.map fun i => V.int (i : Nat)).length : Int) := of_decide_eq_true e
              rw [List.length_map] at e'
              omega
            have hpl : ∀ placed : List Nat, placed.Nodup → (∀ e ∈ placed, e < n) → placed.length ≤ n := fun l hnd hlt => by
              have h1 : l.length = (l.filter fun e => decide (e < n)).length := by
                rw [List.filter_eq_self.mpr]
                intro a ha
                exact decide_eq_true (hlt a ha)
              have h2 := List.Nodup.length_le_of_subset hnd (l₂ := List.range n) (fun a ha => List.mem_range.mpr (hlt a ha))
              rw [List.length_range] at h2
              exact h2
            have hdn := hpl placed ki.nd ki.lt
            have hg : placed[d]? = some placed[d] := List.getElem?_eq_getElem hd
            refine ⟨fun σ H7 => ∃ (placed : List Nat) (s4 s5 : Option V), σ = [some (.int (n : Nat)), some (.ref lb), some (.ref lm), s4, s5, some (.ref lp), some (.int ((d : Nat) + 1)), none] ∧
              KI B n placed (d + 1) ∧ H7 lp = some (.lst (placed.map fun i => V.int (i : Nat))) ∧ H7 lm = some (.lst (fnL n (mis B (placed.take (d + 1))))) ∧ Same H H7, ?_, ?_⟩
            · rintro σ' H' ⟨placed', t4, t5, rfl, ki', hp', hm', sm'⟩
              exact ⟨n - (d + 1), by omega, placed', d + 1, t4, t5, rfl, ki', hp', hm', sm', rfl⟩
            · have e1 : mis B (placed.take d) = fun e => mis B (placed.take (d + 1)) e + frm (B.drop 0) placed[d] e := funext fun e => by
                rw [take_add hg, List.drop_zero]
                exact mis_split (nodup_take ki.nd hg) e
              rw [e1] at hm6
              generalize placed[d] = g at hg hm6
              refine ⟨_, rfl, lb, rfl, ⟨_, sm6.seq sb⟩, for_list (K := K) (a := lb) (xs := bv) (fun j σ H7 => ∃ (placed : List Nat) (s4 s5 : Option V), σ = [some (.int (n : Nat)), some (.ref lb), some (.ref lm), s4, s5, some (.ref lp), some (.int (d : Nat)), none] ∧
                  KJ B n placed d g j ∧ H7 lp = some (.lst (placed.map fun i => V.int (i : Nat))) ∧ H7 lm = some (.lst (fnL n fun e => mis B (placed.take (d + 1)) e + frm (B.drop j) g e)) ∧ Same H H7)
                ⟨placed, _, _, rfl, ki.go hg, hp6, hm6, sm6⟩ (fun i σ H4 _ ⟨_, _, _, _, _, _, _, sm⟩ => sm.seq sb) ?_ ?_⟩
              · rintro j x σ H7 hx ⟨placed, s4, s5, rfl, kj, hp7, hm7, sm7⟩
                obtain ⟨b, hbb, a, rfl, sq⟩ := ba1.get hx
                have hlt := hBlt b (List.mem_of_getElem? hbb)
                refine ⟨a, _, rfl, (TK.same sm7).seq sq, rfl, _, _, rfl, _, _, rfl, rfl, ?_⟩
                refine ⟨_, rfl, _, rfl, _, rfl, lp, _, _, _, rfl, rfl, SqL.of hp7, atI_nat (j := d) (by rw [List.getElem?_map, kj.at_]; rfl), rfl, _, rfl, ite2 (fun e => ?_) (fun e => ?_)⟩
                · have hbg : b.1 = g := by
                    have := V.int.inj (of_decide_eq_true e)
                    omega
                  have hfd : ∀ e, frm (B.drop j) g e = frm (B.drop (j + 1)) g e + if b.1 = g ∧ b.2 = e then 1 else 0 := fun e => frm_drop hbb g e
                  refine ⟨_, rfl, _, rfl, lm, _, b.2, _, rfl, rfl, SqL.of hm7, fnL_get hlt.2, _, _, rfl, rfl, lm, _, _, b.2, rfl, rfl, hm7, Evl.ixN_nat (by rw [fnL_len]; exact hlt.2), ?_⟩
                  have e2 : (fnL n fun e => mis B (placed.take (d + 1)) e + frm (B.drop j) g e).set b.2 (V.int (((mis B (placed.take (d + 1)) b.2 + frm (B.drop j) g b.2 : Nat) : Int) - 1)) = fnL n fun e => mis B (placed.take (d + 1)) e + frm (B.drop (j + 1)) g e := by
                    refine fnL_set hlt.2 ?_ ?_
                    · rw [hfd, if_pos ⟨hbg, rfl⟩]
                      omega
                    · intro i hi
                      rw [hfd, if_neg (fun z => hi z.2.symm)]
                      rfl
                  have hm8 : (upd H7 lm (.lst (fnL n fun e => mis B (placed.take (d + 1)) e + frm (B.drop (j + 1)) g e))) lm = some (.lst (fnL n fun e => mis B (placed.take (d + 1)) e + frm (B.drop (j + 1)) g e)) := upd_same
                  rw [← e2] at hm8
                  have hp8 : (upd H7 lm (.lst ((fnL n fun e => mis B (placed.take (d + 1)) e + frm (B.drop j) g e).set b.2 (V.int (((mis B (placed.take (d + 1)) b.2 + frm (B.drop j) g b.2 : Nat) : Int) - 1))))) lp = some (.lst (placed.map fun i => V.int (i : Nat))) := by
                    rw [upd_ne npm]
                    exact hp7
                  have sm8 := same_mut (p := lm) (o := .lst ((fnL n fun e => mis B (placed.take (d + 1)) e + frm (B.drop j) g e).set b.2 (V.int (((mis B (placed.take (d + 1)) b.2 + frm (B.drop j) g b.2 : Nat) : Int) - 1)))) sm7 hm1
                  have hg8 : ((fnL n fun e => mis B (placed.take (d + 1)) e + frm (B.drop j) g e).set b.2 (V.int (((mis B (placed.take (d + 1)) b.2 + frm (B.drop j) g b.2 : Nat) : Int) - 1)))[b.2]? = some (V.int ((mis B (placed.take (d + 1)) b.2 + frm (B.drop (j + 1)) g b.2 : Nat) : Int)) := by
                    rw [e2]
                    exact fnL_get hlt.2
                  have hm9 := hm8
                  rw [e2] at hm9
                  refine ⟨_, rfl, _, rfl, lm, _, _, _, rfl, rfl, SqL.of upd_same, atI_nat hg8, rfl, _, rfl, ite2 (fun e3 => ?_) (fun e3 => ?_)⟩
                  · have hz : mis B (placed.take (d + 1)) b.2 + frm (B.drop (j + 1)) g b.2 = 0 := by
                      have := V.int.inj (of_decide_eq_true e3)
                      omega
                    have hlp1 := hpl placed kj.nd kj.lt
                    have hdl : d < placed.length := (List.getElem?_eq_some_iff.mp kj.at_).1
                    refine ⟨_, rfl, .inl ⟨rfl, _, SqL.of hp8⟩, _, rfl, lp, _, _, rfl, rfl, hp8, by rw [List.length_map]; exact small1000 (by omega), ?_⟩
                    refine ⟨placed ++ [b.2], _, _, rfl, kj.put hbb hbg hlt.2 hz, ?_, ?_, same_mut sm8 hp1⟩
                    · rw [upd_same, List.map_append]
                      rfl
                    · rw [upd_ne npm.symm, List.take_append_of_le_length (by omega), ← e2]
                      exact upd_same
                  · have hz : mis B (placed.take (d + 1)) b.2 + frm (B.drop (j + 1)) g b.2 ≠ 0 := fun z => by
                      apply e3
                      rw [z]
                      rfl
                    refine ⟨placed, _, _, rfl, kj.not hbb hbg hz, hp8, ?_, sm8⟩
                    rw [← e2]
                    exact upd_same
                · have hbg : b.1 ≠ g := fun z => by
                    apply e
                    rw [z]
                    exact decide_eq_true rfl
                  refine ⟨placed, _, _, rfl, kj.skip hbb hbg, hp7, ?_, sm7⟩
                  have : (fun e => mis B (placed.take (d + 1)) e + frm (B.drop (j + 1)) g e) = fun e => mis B (placed.take (d + 1)) e + frm (B.drop j) g e := funext fun e => by
                    rw [frm_drop hbb, if_neg (fun z => hbg z.1)]
                    rfl
                  rw [this]
                  exact hm7
              · rintro σ H7 ⟨placed, s4, s5, rfl, kj, hp7, hm7, sm7⟩
                rw [ba1.1] at kj hm7
                refine ⟨_, rfl, _, _, rfl, rfl, placed, _, _, rfl, kj.done, hp7, ?_, sm7⟩
                rw [List.drop_length] at hm7
                exact hm7
          · have hd : d = placed.length := by
              have e' : ¬ (d : Int) < ((placed.map fun i => V.int (i : Nat)).length : Int) := fun z => e (decide_eq_true z)
              rw [List.length_map] at e'
              have := ki.le
              omega
            subst hd
            exact ⟨_, rfl, q placed lp H6 ki sm6 hp0 hp6⟩
abbrev DOrder (P : Program) (w : World) (K : PySem.W.Frag) (mg : Str → Option Value) (base : Heap) := Df P w K mg base 2 "bare_order" ["many_gates", "wires"] (spOrder K)
theorem ok_order {f fA : Addr} {fd fdA : FuncData} (F : Fun K "bare_order" "bare_order" sOrder f fd) (hm : mg "bare_order" = some (.ref f)) (B : Bt mg) (DA : DAlong P w K mg base fA fdA) : DOrder P w K mg base f fd := by
  refine ⟨?_, hm, F.kp, F.binds fun _ _ _ _ _ _ us hl => match us, hl with | [_, _], _ => rfl⟩
  refine F.ok scOrder (fun vs H Q E h => ?_) (fun cdv A outer s H vs Q E hr h => ?_)
  · obtain ⟨n, lw, ws, rfl, _⟩ := h
    rfl
  · obtain ⟨n, lw, ws, rfl, ⟨wv, sw, wa⟩, hws, hn, hwl, q⟩ := h
    have nd := scOrder.nd
    refine ⟨_, pss_one <| ps_ret <| pe_call DA.ok hr (by rfl) DA.mg DA.kp DA.bd .nil pass0 <| pa_cons (pv 0) <| (pa_cons · pa_nil) <|
      pe_lc (own := [("start", 2), ("end", 3), ("held", 4)]) (g := gTup K 3 (gCons (gName 2) (gCons (gName 3) (gCons (gName 4) gNil)))) (tt := tTest (tOp rEq (tCB (Evl.rLenS K) (tCons (tVar 4) tNil)) (tC (.int 0)))) (te := tTup (tCons (tVar 2) (tCons (tVar 3) tNil))) rfl nd
        (pi_list (pv 1)) (blkOk_by (N := nOrder) (sc := defScope sOrder) (own := [("start", 2), ("end", 3), ("held", 4)]) (by decide +kernel))
        (fun _ _ _ _ _ => pg_tup rfl (pgs_cons (pg_name (i := 2) nd rfl (Or.inl rfl)) (pgs_cons (pg_name (i := 3) nd rfl (Or.inl rfl)) (pgs_cons (pg_name (i := 4) nd rfl (Or.inl rfl)) pgs_nil))))
        (fun _ _ _ _ _ => pts_one (pt_cmpR op_eq (pe_callB call_len_seq (by rfl) B.len PySem.boot_len (pa_cons (pv 4) pa_nil)) pe_int (nomark _)))
        (fun _ _ _ _ _ => pe_tup (pa_cons (pv 2) (pa_cons (pv 3) pa_nil))), ?_⟩
    have hlw : wv.length = ws.length := wa.1
    -- bare = [..]
    refine ⟨_, rfl, _, rfl, lw, rfl, ⟨_, sw⟩, fun lb hlb => ?_⟩
    refine lc_list (K := K) (a := lw) (xs := wv) (fun i Hc => ∃ bv, Hc lb = some (.lst bv) ∧ All2 (PairV K Hc) bv (bare (ws.take i)) ∧ Same H Hc) ⟨[], upd_same, by simpa [bare] using All2.nil, same_new hlb⟩ (fun i Hc _ ⟨_, _, _, sm⟩ => sm.seq sw) ?_ ?_
    · rintro i x Hc hx ⟨bv, hb, ba, sm⟩
      obtain ⟨y, hy, a, b, rfl, sq1, sq2⟩ := wa.get hx
      have hyi : i < ws.length := (List.getElem?_eq_some_iff.mp hy).1
      have t := TK.same sm
      have hbl : bv.length ≤ 1000 := by
        rw [ba.1]
        have := bare_len (ws.take i)
        rw [List.length_take] at this
        omega
      refine ⟨a, _, rfl, t.seq sq1, rfl, _, _, rfl, _, _, rfl, _, _, rfl, rfl, rfl, ?_⟩
      refine ⟨_, rfl, b, _, rfl, .inr (t.seq sq2), rfl, _, rfl, ite2 (fun e => ?_) (fun e => ?_)⟩
      · have he : y.2.2.isEmpty = true := by
          have e' : (((y.2.2.map V.int).length : Nat) : Int) = 0 := V.int.inj (of_decide_eq_true e)
          rw [List.length_map] at e'
          rw [List.isEmpty_iff, ← List.length_eq_zero_iff]
          omega
        refine ⟨_, rfl, _, rfl, (by show 2 ≤ sizeLine; decide), fun p hp => ?_⟩
        have smp : Same Hc (upd Hc p (.tup [.int (y.1 : Nat), .int (y.2.1 : Nat)])) := same_new hp
        have npb : p ≠ lb := fun z => by
          rw [z, hb] at hp
          cases hp
        have t2 : TK Hc (upd (upd Hc p (.tup [.int (y.1 : Nat), .int (y.2.1 : Nat)])) lb (.lst (bv ++ [.ref p]))) := (TK.new hp).trans (TK.lst (smp _ _ hb))
        refine ⟨bv, smp _ _ hb, Nat.lt_of_le_of_lt hbl (small1000 (Nat.le_refl _)), bv ++ [.ref p], upd_same, ?_, same_mut (sm.trans smp) hlb⟩
        rw [bare_take hy, if_pos he]
        exact (ba.imp fun _ _ r => r.tk t2).snoc ⟨p, rfl, .inl (.inl (by rw [upd_ne npb]; exact upd_same))⟩
      · have he : ¬ y.2.2.isEmpty = true := fun z => by
          apply e
          rw [List.isEmpty_iff] at z
          rw [z]
          rfl
        exact ⟨bv, hb, by rw [bare_take hy, if_neg he]; exact ba, sm⟩
    · rintro H1 ⟨bv, hb1, ba1, sm1⟩
      rw [hlw, List.take_length] at ba1
      have hbl : bv.length ≤ 1000 := by
        rw [ba1.1]
        have := bare_len ws
        omega
      have hBlt : ∀ b ∈ bare ws, b.1 < n ∧ b.2 < n := by
        intro b hb
        obtain ⟨x, hx, rfl⟩ := List.mem_map.mp hb
        rw [List.mem_filter] at hx
        exact hws x hx.1
      exact ⟨n, lb, bv, bare ws, rfl, SqL.of hb1, ba1, hBlt, hn, by have := bare_len ws; omega, fun ord p H2 ki s2 hp h2 => q ord p H2 ki (sm1.trans s2) (sm1.free hp) h2⟩
end
end Lag

set_option maxRecDepth 100000
set_option maxHeartbeats 4000000
namespace Lag
open PySem PySem.Spec PyProof.Rows L2
abbrev sChkRings : Stmt := topS 29
abbrev sInit : Stmt := inClass (topS 22) 0
abbrev sEq : Stmt := inClass (topS 22) 1
def spChkRings (K : PySem.W.Frag) : Sp := fun vs H Q _ => ∃ (n : Nat) (lw : Addr) (ws : List Wr), vs = [.int (n : Nat), .ref lw] ∧ RW K H lw ws ∧ (∀ x ∈ ws, x.1 < n ∧ x.2.1 < n) ∧ n ≤ 1000 ∧ ws.length ≤ 1000 ∧
  (∃ ρ : Nat → Nat, ∀ x ∈ ws, x.2.2 = [] → ρ x.1 < ρ x.2.1) ∧ ∀ H', Same H H' → Q .non H'
/-! ### a net's object -/
def nf (lg lw : Addr) : List (Str × V) := putF "wires" (.ref lw) (putF "gates" (.ref lg) [])
theorem gw_ne : ¬ (("gates" : Str) = "wires") := by decide +kernel
theorem nf_eq (lg lw : Addr) : nf lg lw = ([("gates", V.ref lg), ("wires", V.ref lw)] : List (Str × V)) := by
  show (if ("gates" : Str) = "wires" then [(("gates" : Str), V.ref lw)] else (("gates" : Str), V.ref lg) :: putF "wires" (V.ref lw) []) = ([("gates", V.ref lg), ("wires", V.ref lw)] : List (Str × V))
  rw [if_neg gw_ne]
  all_goals rfl
theorem nf_gates (lg lw : Addr) : (nf lg lw).lookup ("gates" : Str) = some (.ref lg) := by
  unfold nf
  rw [lookup_putF, if_neg gw_ne, lookup_putF, if_pos rfl]
theorem nf_wires (lg lw : Addr) : (nf lg lw).lookup ("wires" : Str) = some (.ref lw) := by
  unfold nf
  rw [lookup_putF, if_pos rfl]
theorem nf_no (lg lw : Addr) {m : Str} (h1 : ¬ m = "wires") (h2 : ¬ m = "gates") : (nf lg lw).lookup m = none := by
  unfold nf
  rw [lookup_putF, if_neg h1, lookup_putF, if_neg h2]
  all_goals rfl
/-- the class as the top has made it -/
structure NT (K : PySem.W.Frag) (mg : Str → Option Value) (C : Addr) : Prop where
  cl : Cls K C
  nG : NoAttr K C "gates"
  nW : NoAttr K C "wires"
  mg : mg "Net" = some (.ref C)
/-- a net at p: its own lists at lg, lw -/
structure NetAt (K : PySem.W.Frag) (C : Addr) (H : Hp) (p lg lw : Addr) (gs : List Gt) (ws : List Wr) : Prop where
  ob : ∃ dx, H p = some (.ins C dx (nf lg lw))
  g : LG K H lg gs
  w : LW K H lw ws
  ne : lg ≠ lw
theorem LG.same {K : PySem.W.Frag} {H H' : Hp} {l : Addr} {gs : List Gt} (h : LG K H l gs) (s : Same H H') : LG K H' l gs := by
  obtain ⟨vs, q, a⟩ := h
  exact ⟨vs, s _ _ q, a.imp fun _ _ r => r.tk (TK.same s)⟩
theorem LW.same {K : PySem.W.Frag} {H H' : Hp} {l : Addr} {ws : List Wr} (h : LW K H l ws) (s : Same H H') : LW K H' l ws := by
  obtain ⟨vs, q, a⟩ := h
  exact ⟨vs, s _ _ q, a.imp fun _ _ r => r.tk (TK.same s)⟩
theorem LG.rg {K : PySem.W.Frag} {H : Hp} {l : Addr} {gs : List Gt} (h : LG K H l gs) : RG K H l gs := by
  obtain ⟨vs, q, a⟩ := h
  exact ⟨vs, SqL.of q, a⟩
theorem LW.rw {K : PySem.W.Frag} {H : Hp} {l : Addr} {ws : List Wr} (h : LW K H l ws) : RW K H l ws := by
  obtain ⟨vs, q, a⟩ := h
  exact ⟨vs, SqL.of q, a⟩
theorem NetAt.same {K : PySem.W.Frag} {C : Addr} {H H' : Hp} {p lg lw : Addr} {gs : List Gt} {ws : List Wr} (n : NetAt K C H p lg lw gs ws) (s : Same H H') : NetAt K C H' p lg lw gs ws := by
  obtain ⟨dx, h⟩ := n.ob
  exact ⟨⟨dx, s _ _ h⟩, n.g.same s, n.w.same s, n.ne⟩
def spInit (K : PySem.W.Frag) (C : Addr) : Sp := fun vs H Q _ => ∃ (p dx lg lw : Addr) (gs : List Gt) (ws : List Wr), vs = [.ref p, .ref lg, .ref lw] ∧ H p = some (.ins C dx []) ∧ RG K H lg gs ∧ RW K H lw ws ∧ NetOk gs ws ∧
  ∀ (H' : Hp) (lg' lw' : Addr), NetAt K C H' p lg' lw' gs ws → H lg' = none → H lw' = none → (∀ b o, H b = some o → b ≠ p → H' b = some o) → Q .non H'
section
variable {P : Program} {w : World} {K : PySem.W.Frag} {mg : Str → Option Value} {base : Heap}
theorem scChkRings : FnScope ["many_gates", "wires", "placed"] ["many_gates", "wires"] (defScope sChkRings) := ⟨rfl, rfl, rfl, by decide +kernel, rfl, by decide +kernel, by decide +kernel⟩
abbrev DChkRings (P : Program) (w : World) (K : PySem.W.Frag) (mg : Str → Option Value) (base : Heap) := Df P w K mg base 3 "check_rings" ["many_gates", "wires"] (spChkRings K)
theorem ok_chkRings {f fO : Addr} {fd fdO : FuncData} (F : Fun K "check_rings" "check_rings" sChkRings f fd) (hm : mg "check_rings" = some (.ref f)) (B : Bt mg) (DO : DOrder P w K mg base fO fdO) : DChkRings P w K mg base f fd := by
  refine ⟨?_, hm, F.kp, F.binds fun _ _ _ _ _ _ us hl => match us, hl with | [_, _], _ => rfl⟩
  refine F.ok scChkRings (fun vs H Q E h => ?_) (fun cdv A outer s H vs Q E hr h => ?_)
  · obtain ⟨n, lw, ws, rfl, _⟩ := h
    rfl
  · obtain ⟨n, lw, ws, rfl, R, hws, hn, hwl, rk, q⟩ := h
    have nd := scChkRings.nd
    refine ⟨_, pss_cons (ps_set (i := 2) nd rfl (Or.inl rfl) (pe_call DO.ok hr (by rfl) DO.mg DO.kp DO.bd .nil pass0 (pa_cons (pv 0) (pa_cons (pv 1) pa_nil)))) <|
      pss_one <| ps_if (pt_cmpR op_lt (pe_callB call_len_seq (by rfl) B.len PySem.boot_len (pa_cons (pv 2) pa_nil)) (pv 0) (nomark _)) (pss_one ps_never) pss_nil, ?_⟩
    refine ⟨_, rfl, _, rfl, n, lw, ws, rfl, R, hws, hn, hwl, fun ord p H1 ho sm hp h1 => ?_⟩
    have hpl : ord.length = n := by rw [(ho.full hws rk).length_eq, List.length_range]
    refine ⟨_, rfl, p, _, rfl, .inl (SqL.of h1), _, rfl, _, _, rfl, rfl, false, ?_, iteF (q H1 sm)⟩
    show V.bl (decide (((ord.map fun i => V.int (i : Nat)).length : Int) < (n : Int))) = V.bl false
    rw [decide_eq_false]
    rw [List.length_map, hpl]
    omega
theorem scInit : FnScope ["self", "gates", "wires"] ["self", "gates", "wires"] (defScope sInit) := ⟨rfl, rfl, rfl, by decide +kernel, rfl, by decide +kernel, by decide +kernel⟩
theorem ok_init {f fG fW fR C : Addr} {fd fdG fdW fdR : FuncData} (F : Fun K "__init__" "Net.__init__" sInit f fd) (T : NT K mg C) (B : Bt mg) (DG : DChkGates P w K mg base fG fdG) (DW : DChkWires P w K mg base fW fdW) (DR : DChkRings P w K mg base fR fdR) :
    FnOk P w K mg base CX0 6 f fd ["self", "gates", "wires"] (spInit K C) := by
  refine F.ok scInit (fun vs H Q E h => ?_) (fun cdv A outer s H vs Q E hr h => ?_)
  · obtain ⟨p, dx, lg, lw, gs, ws, rfl, _⟩ := h
    rfl
  · obtain ⟨p, dx, lg, lw, gs, ws, rfl, hp, RGs, RWs, N, q⟩ := h
    have hr4 : Room 4 _ := hr.mono (by decide)
    have hr2 : Room 3 _ := hr.mono (by decide)
    refine ⟨_, pss_cons (ps_expr (pe_call DG.ok hr4 (by rfl) DG.mg DG.kp DG.bd .nil pass0 (pa_cons (pv 1) pa_nil))) <|
      pss_cons (ps_expr (pe_call DW.ok hr (by rfl) DW.mg DW.kp DW.bd .nil pass0 (pa_cons (pv 1) (pa_cons (pv 2) pa_nil)))) <|
      pss_cons (ps_expr (pe_call DR.ok hr2 (by rfl) DR.mg DR.kp DR.bd .nil pass0 (pa_cons (pe_callB call_len_seq (by rfl) B.len PySem.boot_len (pa_cons (pv 1) pa_nil)) (pa_cons (pv 2) pa_nil)))) <|
      pss_cons (ps_fld (pv 0) (pe_callTy call_list_of (by rfl) B.list (by decide +kernel) (pa_cons (pv 1) pa_nil)) rfl) <|
      pss_one (ps_fld (pv 0) (pe_callTy call_list_of (by rfl) B.list (by decide +kernel) (pa_cons (pv 2) pa_nil)) rfl), ?_⟩
    refine ⟨_, rfl, lg, gs, rfl, RGs, N.ne, N.gok, fun H1 sm1 => ?_⟩
    refine ⟨_, rfl, _, rfl, lg, lw, gs, ws, rfl, RGs.same sm1, RWs.same sm1, N, fun H2 sm2 => ?_⟩
    have s2 := sm1.trans sm2
    obtain ⟨gv, sg, ga⟩ := RGs.same s2
    have hlg : gv.length = gs.length := ga.1
    refine ⟨_, rfl, lg, gv, rfl, .inl sg, _, rfl, gv.length, lw, ws, rfl, RWs.same s2, fun x hx => ?_, by have := N.gl; omega, N.wl, N.rank, fun H3 sm3 => ?_⟩
    · rw [hlg]
      exact ⟨(N.wok x hx).s, (N.wok x hx).e⟩
    have s3 := s2.trans sm3
    obtain ⟨gv3, sg3, ga3⟩ := RGs.same s3
    obtain ⟨wv3, sw3, wa3⟩ := RWs.same s3
    have hp3 := s3 _ _ hp
    refine ⟨_, rfl, lg, gv3, rfl, .inl sg3, fun l1 hl1 => ?_⟩
    have np1 : p ≠ l1 := ne_of_none hp3 hl1
    have sm4 : Same H3 (upd H3 l1 (.lst gv3)) := same_new hl1
    refine ⟨_, rfl, p, C, dx, [], rfl, sm4 _ _ hp3, T.cl, T.nG, (by show 0 < 1000; decide), ?_⟩
    have hw4 : SqL K (upd (upd H3 l1 (.lst gv3)) p (.ins C dx (putF "gates" (.ref l1) []))) lw wv3 := by
      rcases sm4.seq sw3 with (h | ⟨o, h⟩) | h
      · have n : lw ≠ p := fun z => by
          rw [z, sm4 _ _ hp3] at h
          cases h
        exact .inl (.inl (by rw [upd_ne n]; exact h))
      · have n : lw ≠ p := fun z => by
          rw [z, sm4 _ _ hp3] at h
          cases h
        exact .inl (.inr ⟨o, by rw [upd_ne n]; exact h⟩)
      · exact .inr h
    refine ⟨_, rfl, lw, wv3, rfl, .inl hw4, fun l2 hl2 => ?_⟩
    have np2 : p ≠ l2 := fun z => by
      rw [← z, upd_same] at hl2
      cases hl2
    have h11 : (upd (upd H3 l1 (.lst gv3)) p (.ins C dx (putF "gates" (.ref l1) []))) l1 = some (.lst gv3) := by
      rw [upd_ne np1.symm]
      exact upd_same
    have n12 : l1 ≠ l2 := ne_of_none h11 hl2
    have hl2' : H3 l2 = none := by
      rw [upd_ne np2.symm, upd_ne n12.symm] at hl2
      exact hl2
    refine ⟨_, rfl, p, C, dx, _, rfl, (by rw [upd_ne np2]; exact upd_same), T.cl, T.nW, (by show 1 < 1000; decide), ?_⟩
    have keep : ∀ b o, b ≠ p → H3 b = some o → (upd (upd (upd (upd H3 l1 (.lst gv3)) p (.ins C dx (putF "gates" (.ref l1) []))) l2 (.lst wv3)) p (.ins C dx (putF "wires" (.ref l2) (putF "gates" (.ref l1) [])))) b = some o := fun b o nb e => by
      rw [upd_ne nb, upd_ne (ne_of_none e hl2'), upd_ne nb, upd_ne (ne_of_none e hl1)]
      exact e
    have tk : TK H3 (upd (upd (upd (upd H3 l1 (.lst gv3)) p (.ins C dx (putF "gates" (.ref l1) []))) l2 (.lst wv3)) p (.ins C dx (putF "wires" (.ref l2) (putF "gates" (.ref l1) [])))) := fun b o t e => keep b o (fun z => by
      rw [z, hp3] at e
      cases e
      exact t) e
    refine q _ l1 l2 ⟨⟨dx, upd_same⟩, ⟨gv3, ?_, ga3.imp fun _ _ r => r.tk tk⟩, ⟨wv3, ?_, wa3.imp fun _ _ r => r.tk tk⟩, n12⟩ (s3.free hl1) (s3.free hl2') fun b o e nb => keep b o nb (s3 _ _ e)
    · rw [upd_ne np1.symm, upd_ne n12, upd_ne np1.symm]
      exact upd_same
    · rw [upd_ne np2.symm]
      exact upd_same
end
end Lag

set_option maxRecDepth 100000
set_option maxHeartbeats 4000000
namespace Lag
open PySem PySem.Spec PyProof.Rows L2
/-! ### == and != by an own __eq__, whatever the other thing is -/
section
variable {X : Cx} {pins : List (Addr × Obj)} {σ : L2.St} {H : Hp} {s : Shared}
/-- what typeOf says -/
def TyL (X : Cx) (s : Shared) (v tb : Value) : Prop := PySem.W.Looks (model X.prog X.w) s.heap (typeOf v) tb
theorem ty_looks {y : V} {v tb : Value} (I : Inv X pins σ H s) (r : RelV y v) (t : TyOf X.K H y tb) : TyL X s v tb := by
  cases t with
  | non => cases r; exact .of_pure rfl
  | bl b => cases r; exact .of_pure rfl
  | int i => obtain ⟨t, rfl⟩ := r; exact .of_pure rfl
  | str x => obtain ⟨t, rfl⟩ := r; exact .of_pure rfl
  | flt x => obtain ⟨t, rfl⟩ := r; exact .of_pure rfl
  | @lst a xs ea =>
    cases r
    obtain ⟨_, _, n, _, h1⟩ := (show ObjOk X.prog X.w H s.heap a (.lst xs) from I.hok a _ ea)
    exact (PySem.W.Looks.ld h1).andThen .now
  | @frz a ob xs ea =>
    cases r
    obtain ⟨_, _, _, n, _, h1⟩ := (show ObjOk X.prog X.w H s.heap a (.frz ob (.lst xs)) from I.hok a _ ea)
    exact (PySem.W.Looks.ld h1).andThen .now
  | @tup a xs ea =>
    cases r
    obtain ⟨_, _, _, o, h1, h2, _⟩ := (show ObjOk X.prog X.w H s.heap a (.tup xs) from I.hok a _ ea)
    exact h2 ▸ (PySem.W.Looks.ld h1).andThen .now
  | @dK a kvs ea =>
    cases r
    obtain ⟨_, _, vs, _, o, es, ep, h1, h2, _⟩ := (show ObjOk X.prog X.w H s.heap a (.dK kvs) from I.hok a _ ea)
    exact h2.1 ▸ (PySem.W.Looks.ld h1).andThen .now
  | @dT a kvs ea =>
    cases r
    obtain ⟨_, _, xs, _, o, es, ep, h1, h2, _⟩ := (show ObjOk X.prog X.w H s.heap a (.dT kvs) from I.hok a _ ea)
    exact h2.1 ▸ (PySem.W.Looks.ld h1).andThen .now
  | @ins a C dx fs ea cl ha hn htk hm =>
    cases r
    obtain ⟨mA, O, _⟩ := ins_get I.hok ea
    obtain ⟨od, J, _⟩ := O.look
    exact J.type
/-- a call of a def from within -/
theorem call_own {n : Nat} {f : Addr} {fd : FuncData} {ps : List Str} {sp : Sp} {xs : List V} {us : List Value} {Q : VK} {A : Around} (F : FnOk X.prog X.w X.K X.mg X.base CX0 n f fd ps sp) (hb : Binds X.K fd ps []) (sb : Sub X n A) (I : Inv X pins σ H s) (rx : Vals xs us)
    (h : sp xs H Q E0) : wpAny (model X.prog X.w) A (call (.ref f) us) (EP X pins σ Q) X.xe s := by
  have e0 : Env0 X.prog X.w X.K X.mg X.base A X.stack s H := by
    have e := I.env0
    exact ⟨by rw [sb.fr]; exact e.frames, e.mod, e.bs, e.bsz, e.funs, e.frf, e.hok, e.bare⟩
  have hl := F.len _ _ _ _ h
  have hl' : us.length = ps.length := by rw [← rx.length, hl]
  refine wpAny_call (codeAny_mono (F.run A X.stack s H ⟨us, []⟩ us xs _ E0 sb.room e0 (by
    have := hb s us I.kIn (by simpa using hl')
    simpa using this) rx h) fun r s' hq => ?_)
  cases r with
  | error e => exact False.elim hq
  | ok fl =>
    cases fl with
    | ret w => exact I.after hq
    | next => exact False.elim hq
    | brk => exact False.elim hq
    | cont => exact False.elim hq
/-- a special method that is a built-in -/
theorem ifBound_B {M : Model} {K : PySem.W.Frag} {A : Around} {E : Value → Shared → Prop} {s : Shared} {x C : Addr} {ox : Obj} {od : Option Obj} {name : Str} {id : String} {args : List Value} {Q : Option Value → Shared → Prop} (X : K.In s.heap) (I : PySem.W.InstAt s.heap x ox C od)
    (hs : PySem.W.findIn K (.ref C) name = some (some (.builtin id))) (hb : ∀ self, bindSpecial (.builtin id) self = pure (.builtin id, [self]))
    (h : wpAny M A (call (.builtin id) (.ref x :: args)) (fun v => Q (some v)) E s) : wpAny M A (callSpecialIfBound? (.ref x) name args) Q E s := by
  simp only [callSpecialIfBound?, bindSpecialIfBound?]
  refine wpAny_holding (wpAny_bind (wpAny_bind (wpAny_bind (I.type.here ((PySem.W.looks_findIn X hs).here ?_)))))
  refine wpAny_bind (wpAny_askSetting (wpAny_ite ?_))
  have fin : wpAny M A (call (.builtin id) ([.ref x] ++ args) >>= fun v => pure (some v)) Q E s := wpAny_bind (wpAny_mono h (fun v s' h' => wpAny_pure h') fun _ _ h' => h')
  split
  · exact wpAny_bind (wpAny_of_eq (hb _) (wpAny_pure (by exact fin)))
  · exact wpAny_tryCatch (wpAny_bind (wpAny_of_eq (hb _) (wpAny_pure (by exact fin))))
theorem bind_ne (self : Value) : bindSpecial (.builtin "object.__ne__") self = pure (.builtin "object.__ne__", [self]) := PySem.F.slot_tuple_iterator_ne.bind self
theorem ne_body {K : PySem.W.Frag} {prog : Program} {w : World} {A : Around} {E : Value → Shared → Prop} {s : Shared} {x C f : Addr} {ox : Obj} {od : Option Obj} {b : Value} {Q : Fin → Shared → Prop} (X : K.In s.heap) (I : PySem.W.InstAt s.heap x ox C od)
    (hs : PySem.W.findIn K (.ref C) "__eq__" = some (some (.ref f))) (hf : PySem.W.isFn K (.ref f) = true) (hu : A.units < cLine)
    (hcall : wpAny (model prog w) A (call (.ref f) [.ref x, b]) (fun v s' => ∃ c, v = .bool c ∧ Q (.done (.ret (.bool (!c)))) s') E s) :
    wpAny (model prog w) A (Builtin.«object.__ne__» ⟨[.ref x, b], []⟩) Q E s := by
  obtain ⟨h, g, d, t, os⟩ := s
  unfold Builtin.«object.__ne__»
  repeat (first
    | with_reducible refine wpAny_cRoomFor hu ?_
    | (refine wpAny_bind (m := callSpecialIfBound? (.ref x) (Str.ofString "__eq__") [b])
        (PySem.W.ifBound_K X I hs hf (wpAny_mono hcall (fun r s' hr => by
          obtain ⟨c, rfl, hq⟩ := hr
          repeat (first | exact hq | exact wpAny_pure hq | exact wpAny_truthy_bool hq | (refine wpAny_bind (m := truthy (.bool _)) (wpAny_truthy_bool ?_)) | wp_step)) fun _ _ e => e)))
    | wp_step)
theorem op_eqO {n : Nat} {C f : Addr} {fd : FuncData} {ps : List Str} {sp : Sp} (F : FnOk X.prog X.w X.K X.mg X.base CX0 n f fd ps sp) (hs : PySem.W.findIn X.K (.ref C) "__eq__" = some (some (.ref f))) (hf : PySem.W.isFn X.K (.ref f) = true) (hb : Binds X.K fd ps []) (hr : Room n X.A) :
    OpR X (compareOp .Eq) (fun x y H Q => ∃ a dx fs tb, x = .ref a ∧ H a = some (.ins C dx fs) ∧ TyOf X.K H y tb ∧ PySem.W.notFirst X.K C tb = true ∧ sp [x, y] H (fun v H' => ∃ c, v = .bl c ∧ Q v H') E0) := by
  intro pins s σ H x y u v Q I rx ry h
  obtain ⟨a, dx, fs, tb, rfl, ha, ty, nf, q⟩ := h
  cases rx
  obtain ⟨mA, J, _⟩ := ins_get I.hok ha
  obtain ⟨od, J, _⟩ := J.look
  obtain ⟨m, hF⟩ := I.fr
  show wpAny (model X.prog X.w) X.A (richCompare .Eq (.ref a) v) (EP X pins σ Q) X.xe s
  refine PySem.W.cmp_K (op := .Eq) (tb := tb) hr.units0 hF I.ok.mod.kin J (ty_looks I ry ty) nf hs hf ?_
  refine wpAny_mono (call_own F hb ⟨hr, rfl⟩ I (.cons (show RelV (V.ref a) (Value.ref a) from rfl) (.cons ry .nil)) q) (fun r s' z => ?_) fun _ _ x => x
  obtain ⟨z, H', I', rz, c, ez, q'⟩ := z
  subst ez
  cases rz
  exact ⟨.bl c, H', I', rfl, q'⟩
theorem op_neO {n : Nat} {C f : Addr} {fd : FuncData} {ps : List Str} {sp : Sp} (F : FnOk X.prog X.w X.K X.mg X.base CX0 n f fd ps sp) (hs : PySem.W.findIn X.K (.ref C) "__eq__" = some (some (.ref f))) (hn : PySem.W.findIn X.K (.ref C) "__ne__" = some (some (.builtin "object.__ne__")))
    (ho : PySem.W.mroIn X.K C (.type "object") = some true) (hf : PySem.W.isFn X.K (.ref f) = true) (hb : Binds X.K fd ps []) (hr : Room (n + 1) X.A) :
    OpR X (compareOp .NotEq) (fun x y H Q => ∃ a dx fs tb, x = .ref a ∧ H a = some (.ins C dx fs) ∧ TyOf X.K H y tb ∧ PySem.W.notFirst X.K C tb = true ∧ sp [x, y] H (fun v H' => ∃ c, v = .bl c ∧ Q (.bl (!c)) H') E0) := by
  intro pins s σ H x y u v Q I rx ry h
  obtain ⟨a, dx, fs, tb, rfl, ha, ty, nf, q⟩ := h
  cases rx
  obtain ⟨mA, J, _⟩ := ins_get I.hok ha
  obtain ⟨od, J, _⟩ := J.look
  have hb' := ty_looks I ry ty
  have sb : Sub X (n + 1) X.A := ⟨hr, rfl⟩
  show wpAny (model X.prog X.w) X.A (richCompare .NotEq (.ref a) v) (EP X pins σ Q) X.xe s
  have one : wpAny (model X.prog X.w) X.A (tryCompare (.ref a) "__ne__" v) (fun r s' => ∃ w, r = some w ∧ EP X pins σ Q w s') X.xe s := by
    unfold tryCompare
    refine wpAny_bind (ifBound_B I.kIn J hn bind_ne (wpAny_call (codeAny_call_builtin PySem.F.slot_tuple_iterator_ne.plain PySem.F.cmpEntry_ne
      (PySem.W.check_slot PySem.F.cmpKind_ne PySem.F.cmpSplit_ne (J.type.andThen (PySem.W.looks_mroIn I.kIn ho)) (PySem.F.cmpArgs_ne _ _)
        (ne_body I.kIn J hs hf sb.in1.room.units0 (wpAny_mono (call_own F hb sb.in1 I (.cons (show RelV (V.ref a) (Value.ref a) from rfl) (.cons ry .nil)) q) (fun r s' z => ?_) fun _ _ x => x))))))
    obtain ⟨z, H', I', rz, c, ez, q'⟩ := z
    subst ez
    cases rz
    have fin : EP X pins σ Q (.bool (!c)) s' := ⟨.bl (!c), H', I', rfl, q'⟩
    first | exact ⟨c, rfl, wpAny_pure ⟨_, rfl, fin⟩⟩ | exact ⟨c, rfl, wpAny_pure (wpAny_pure ⟨_, rfl, fin⟩)⟩ | exact ⟨c, rfl, ⟨_, rfl, fin⟩⟩
  unfold richCompare
  simp only [oneThing_ref]
  refine wpAny_holding (wpAny_bind (wpAny_cRoomFor hr.units0 ?_))
  refine wpAny_bind (J.type.here (wpAny_bind (hb'.here ?_)))
  split
  · rename_i q'
    have e : PySem.W.subIn X.K tb (.ref C) = some false := by
      rcases Bool.or_eq_true_iff.mp nf with e | e
      · rw [beq_iff_eq.mp e] at q'; simp at q'
      · exact beq_iff_eq.mp e
    refine wpAny_bind ((PySem.W.looks_subIn I.kIn e).here ?_)
    simp only [Bool.false_eq_true, if_false]
    refine wpAny_bind (wpAny_mono one (fun r s' z => ?_) fun _ _ e => e)
    obtain ⟨v, rfl, hq⟩ := z
    exact wpAny_pure hq
  · refine wpAny_bind (wpAny_pure ?_)
    simp only [Bool.false_eq_true, if_false]
    refine wpAny_bind (wpAny_mono one (fun r s' z => ?_) fun _ _ e => e)
    obtain ⟨v, rfl, hq⟩ := z
    exact wpAny_pure hq
end
end Lag

set_option maxRecDepth 100000
set_option maxHeartbeats 4000000
namespace Lag
open PySem PySem.Spec PyProof.Rows L2
/-! ### nets as data that is compared -/
def gateD (g : Gt) : PyData := .tuple [.str g.1, .int g.2]
def gatesD (gs : List Gt) : PyData := .list (gs.map gateD)
def wireD (x : Wr) : PyData := .tuple [.int (x.1 : Nat), .int (x.2.1 : Nat), .tuple (x.2.2.map PyData.int)]
def wiresD (ws : List Wr) : PyData := .list (ws.map wireD)
def intsD (l : List Nat) : PyData := .list (l.map fun i => .int (i : Nat))
theorem eqvAll_map {α : Type} [DecidableEq α] {f : α → PyData} (h : ∀ x y, PyData.eqv (f x) (f y) = decide (x = y)) : ∀ xs ys : List α, PyData.eqvAll (xs.map f) (ys.map f) = decide (xs = ys)
  | [], [] => rfl
  | [], _ :: _ => rfl
  | _ :: _, [] => rfl
  | x :: xs, y :: ys => by
    show (PyData.eqv (f x) (f y) && PyData.eqvAll (xs.map f) (ys.map f)) = _
    rw [h, eqvAll_map h xs ys, Bool.eq_iff_iff]
    simp
theorem gateD_eq (a b : Gt) : PyData.eqv (gateD a) (gateD b) = decide (a = b) := by
  show ((a.1 == b.1) && ((a.2 == b.2) && true)) = _
  rw [Bool.eq_iff_iff]
  simp [Prod.ext_iff]
theorem gatesD_eq (a b : List Gt) : PyData.eqv (gatesD a) (gatesD b) = decide (a = b) := eqvAll_map gateD_eq a b
theorem intD_eq (a b : Int) : PyData.eqv (.int a) (.int b) = decide (a = b) := rfl
theorem wireD_eq (a b : Wr) : PyData.eqv (wireD a) (wireD b) = decide (a = b) := by
  show ((((a.1 : Nat) : Int) == ((b.1 : Nat) : Int)) && ((((a.2.1 : Nat) : Int) == ((b.2.1 : Nat) : Int)) && (PyData.eqvAll (a.2.2.map PyData.int) (b.2.2.map PyData.int) && true))) = _
  rw [eqvAll_map intD_eq, Bool.eq_iff_iff]
  simp only [Bool.and_eq_true, beq_iff_eq, decide_eq_true_eq, and_true]
  constructor
  · rintro ⟨h1, h2, h3⟩
    exact Prod.ext (by omega) (Prod.ext (by show a.2.1 = b.2.1; omega) h3)
  · rintro rfl
    exact ⟨rfl, rfl, rfl⟩
theorem wiresD_eq (a b : List Wr) : PyData.eqv (wiresD a) (wiresD b) = decide (a = b) := eqvAll_map wireD_eq a b
theorem natD_eq (a b : Nat) : PyData.eqv (.int (a : Nat)) (.int (b : Nat)) = decide (a = b) := by
  show (((a : Nat) : Int) == ((b : Nat) : Int)) = _
  rw [Bool.eq_iff_iff]
  simp
  omega
theorem intsD_eq (a b : List Nat) : PyData.eqv (intsD a) (intsD b) = decide (a = b) := eqvAll_map natD_eq a b
theorem lay_all {ds : List PyData} : (∀ d ∈ ds, PyData.canLay0 d = true) → PyData.canLayAll0 ds = true := by
  induction ds with
  | nil => intro _; rfl
  | cons d ds ih =>
    intro h
    show (PyData.canLay0 d && PyData.canLayAll0 ds) = true
    rw [h d (List.mem_cons_self ..), ih fun x hx => h x (List.mem_cons_of_mem _ hx)]
    rfl
theorem depth_all {ds : List PyData} {k : Nat} : (∀ d ∈ ds, PyData.depth d ≤ k) → PyData.depthAll ds ≤ k := by
  induction ds with
  | nil => intro _; exact Nat.zero_le _
  | cons d ds ih =>
    intro h
    show max (PyData.depth d) (PyData.depthAll ds) ≤ k
    have h1 := h d (List.mem_cons_self ..)
    have h2 := ih fun x hx => h x (List.mem_cons_of_mem _ hx)
    omega
/-- such data may be compared, to the depth k -/
def Sh (k : Nat) (d : PyData) : Prop := PyData.canLay0 d = true ∧ PyData.depth d ≤ k
theorem Sh.ok {k : Nat} {d : PyData} (h : Sh k d) (hk : k ≤ 64) : SeqAt.shaped d = true := by
  show (PyData.canLay0 d && decide (PyData.depth d ≤ 64)) = true
  rw [h.1, decide_eq_true (Nat.le_trans h.2 hk)]
  rfl
theorem sh_list {k : Nat} {ds : List PyData} (h : ∀ d ∈ ds, Sh k d) : Sh (k + 1) (.list ds) := ⟨lay_all fun d hd => (h d hd).1, Nat.succ_le_succ (depth_all fun d hd => (h d hd).2)⟩
theorem sh_tuple {k : Nat} {ds : List PyData} (h : ∀ d ∈ ds, Sh k d) : Sh (k + 1) (.tuple ds) := ⟨lay_all fun d hd => (h d hd).1, Nat.succ_le_succ (depth_all fun d hd => (h d hd).2)⟩
theorem sh_int {k : Nat} (i : Int) : Sh k (.int i) := ⟨rfl, Nat.zero_le _⟩
theorem kinds_str : ∀ k ∈ kinds, PyData.canLay0 (.str k) = true := by decide +kernel
theorem sh_kind {k : Nat} {z : Str} (h : z ∈ kinds) : Sh k (.str z) := ⟨kinds_str z h, Nat.zero_le _⟩
theorem sh_gates {gs : List Gt} (h : ∀ g ∈ gs, GOk g) : Sh 2 (gatesD gs) := by
  refine sh_list fun d hd => ?_
  obtain ⟨g, hg, rfl⟩ := List.mem_map.mp hd
  refine sh_tuple fun d hd => ?_
  simp only [List.mem_cons, List.not_mem_nil, or_false] at hd
  rcases hd with rfl | rfl
  · exact sh_kind (h g hg).1
  · exact sh_int _
theorem sh_wires (ws : List Wr) : Sh 3 (wiresD ws) := by
  refine sh_list fun d hd => ?_
  obtain ⟨g, hg, rfl⟩ := List.mem_map.mp hd
  refine sh_tuple fun d hd => ?_
  simp only [List.mem_cons, List.not_mem_nil, or_false] at hd
  rcases hd with rfl | rfl | rfl
  · exact sh_int _
  · exact sh_int _
  · refine sh_tuple fun d hd => ?_
    obtain ⟨i, _, rfl⟩ := List.mem_map.mp hd
    exact sh_int _
theorem sh_ints (l : List Nat) : Sh 1 (intsD l) := by
  refine sh_list fun d hd => ?_
  obtain ⟨i, _, rfl⟩ := List.mem_map.mp hd
  exact sh_int _
section
variable {K : PySem.W.Frag} {H : Hp}
theorem dp_all {α : Type} {R : V → α → Prop} {f : α → PyData} (h : ∀ v x, R v x → Dp K H v (f x)) : ∀ {vs : List V} {xs : List α}, All2 R vs xs → DpAll K H vs (xs.map f)
  | [], [], _ => .nil
  | [], _ :: _, a => by have := a.1; simp at this
  | _ :: _, [], a => by have := a.1; simp at this
  | _ :: _, _ :: _, a => .cons (h _ _ a.head) (dp_all h a.tail)
theorem GateV.dp {v : V} {g : Gt} (h : GateV K H v g) : Dp K H v (gateD g) := by
  obtain ⟨a, rfl, s⟩ := h
  exact .tup s (.cons (.str _) (.cons (.int _) .nil))
theorem ints_dp : ∀ l : List Int, DpAll K H (l.map V.int) (l.map PyData.int)
  | [] => .nil
  | i :: l => .cons (.int i) (ints_dp l)
theorem nats_dp : ∀ l : List Nat, DpAll K H (l.map fun i => V.int (i : Nat)) (l.map fun i => PyData.int (i : Nat))
  | [] => .nil
  | i :: l => .cons (.int _) (nats_dp l)
theorem WireV.dp {v : V} {x : Wr} (h : WireV K H v x) : Dp K H v (wireD x) := by
  obtain ⟨a, b, rfl, s1, s2⟩ := h
  exact .tup s1 (.cons (.int _) (.cons (.int _) (.cons (.tup s2 (ints_dp _)) .nil)))
theorem RG.dp {l : Addr} {gs : List Gt} (h : RG K H l gs) : Dp K H (.ref l) (gatesD gs) := by
  obtain ⟨vs, s, a⟩ := h
  exact .lst s (dp_all (fun _ _ r => GateV.dp r) a)
theorem RW.dp {l : Addr} {ws : List Wr} (h : RW K H l ws) : Dp K H (.ref l) (wiresD ws) := by
  obtain ⟨vs, s, a⟩ := h
  exact .lst s (dp_all (fun _ _ r => WireV.dp r) a)
theorem dp_ints {l : Addr} {xs : List Nat} (h : SqL K H l (xs.map fun i => V.int (i : Nat))) : Dp K H (.ref l) (intsD xs) := .lst h (nats_dp xs)
end
/-! ### Net.__eq__ -/
structure NTy (K : PySem.W.Frag) (C : Addr) : Prop where
  ha : PySem.W.findIn K (.ref C) "__class__" = some (some (.builtin "object.__class__"))
  hn : PySem.W.specialIn K (.builtin "object.__class__") "__get__" = some (some (.builtin "getset_descriptor.__get__"))
  htk : PySem.W.takesIn K (.builtin "object.__class__") = some true
  hm : PySem.W.mroIn K C (.type "object") = some true
theorem ty_net {K : PySem.W.Frag} {mg : Str → Option Value} {C : Addr} {H : Hp} {p dx : Addr} {fs : List (Str × V)} (T : NT K mg C) (Y : NTy K C) (h : H p = some (.ins C dx fs)) : TyOf K H (.ref p) (.ref C) := .ins h T.cl Y.ha Y.hn Y.htk Y.hm
def spEqN (K : PySem.W.Frag) (C : Addr) : Sp := fun vs H Q _ => ∃ (p lg lw : Addr) (gs : List Gt) (ws : List Wr) (y : V), vs = [.ref p, y] ∧ NetAt K C H p lg lw gs ws ∧
  ((∃ (q lg' lw' : Addr) (gs' : List Gt) (ws' : List Wr), y = .ref q ∧ NetAt K C H q lg' lw' gs' ws' ∧ (∀ g ∈ gs, GOk g) ∧ (∀ g ∈ gs', GOk g) ∧ Q (.bl (decide (gs = gs') && decide (ws = ws'))) H) ∨
    (∃ t, TyX K H y t ∧ PySem.W.kitOne K t (.ref C) = some false ∧ Q (.bl false) H))
section
variable {P : Program} {w : World} {K : PySem.W.Frag} {mg : Str → Option Value} {base : Heap}
theorem scEq : FnScope ["self", "other"] ["self", "other"] (defScope sEq) := ⟨rfl, rfl, rfl, by decide +kernel, rfl, by decide +kernel, by decide +kernel⟩
theorem kit_self {K : PySem.W.Frag} (C : Addr) : PySem.W.kitOne K (.ref C) (.ref C) = some true := by
  unfold PySem.W.kitOne
  rw [if_pos (beq_self_eq_true _)]
theorem ok_eqN {f C : Addr} {fd : FuncData} (F : Fun K "__eq__" "Net.__eq__" sEq f fd) (T : NT K mg C) (Y : NTy K C) (B : Bt mg) : FnOk P w K mg base CX0 1 f fd ["self", "other"] (spEqN K C) := by
  refine F.ok scEq (fun vs H Q E h => ?_) (fun cdv A outer s H vs Q E hr h => ?_)
  · obtain ⟨p, lg, lw, gs, ws, y, rfl, _⟩ := h
    rfl
  · obtain ⟨p, lg, lw, gs, ws, y, rfl, N, h⟩ := h
    refine ⟨_, pss_one <| ps_ret <| pe_and (pe_callB call_isi (by rfl) B.isi (by decide +kernel) (pa_cons (pv 1) (pa_cons (pe_glob (v := .ref C) (by rfl) T.mg rfl) pa_nil))) <|
      pe_and (pe_cmpR (op_eqD hr.units) (pe_fld (pv 0) rfl) (pe_fld (pv 1) rfl) (nomark _)) <| pe_one <| pe_cmpR (op_eqD hr.units) (pe_fld (pv 0) rfl) (pe_fld (pv 1) rfl) (nomark _), ?_⟩
    obtain ⟨dx, hp⟩ := N.ob
    rcases h with ⟨q, lg', lw', gs', ws', rfl, N', gok, gok', k⟩ | ⟨t, ty, kt, k⟩
    · obtain ⟨dx', hq⟩ := N'.ob
      refine ⟨_, rfl, _, _, _, _, true, rfl, .own C, .base (ty_net T Y hq), kit_self C, true, rfl, iteT ?_⟩
      refine ⟨_, rfl, p, C, dx, _, _, rfl, hp, T.cl, T.nG, nf_gates _ _, _, rfl, q, C, dx', _, _, rfl, hq, T.cl, T.nG, nf_gates _ _, _, _, N.g.rg.dp, N'.g.rg.dp, (sh_gates gok).ok (by decide), (sh_gates gok').ok (by decide), _, rfl, ?_⟩
      rw [gatesD_eq]
      cases e : decide (gs = gs') with
      | false =>
        rw [e] at k
        exact iteF k
      | true =>
        rw [e] at k
        refine iteT ⟨_, rfl, p, C, dx, _, _, rfl, hp, T.cl, T.nW, nf_wires _ _, _, rfl, q, C, dx', _, _, rfl, hq, T.cl, T.nW, nf_wires _ _, _, _, N.w.rw.dp, N'.w.rw.dp, (sh_wires _).ok (by decide), (sh_wires _).ok (by decide), ?_⟩
        rw [wiresD_eq]
        exact k
    · exact ⟨_, rfl, _, _, _, _, false, rfl, .own C, ty, kt, false, rfl, iteF k⟩
end
end Lag

set_option maxRecDepth 100000
set_option maxHeartbeats 4000000
namespace Lag
open PySem PySem.Spec PyProof.Rows L2
/-! ### what keeps a net a net -/
theorem kindAt_set {gs : List Gt} {i j : Nat} {g : Gt} (h : i < gs.length) : kindAt (gs.set i g) j = if j = i then g.1 else kindAt gs j := by
  unfold kindAt
  rw [List.getD_eq_getElem?_getD, List.getD_eq_getElem?_getD, List.getElem?_set]
  by_cases e : i = j
  · subst e
    rw [if_pos rfl, if_pos h, if_pos rfl]
    rfl
  · rw [if_neg e, if_neg (fun z => e z.symm)]
/-- another gate at a place whose gate is no port: no port, and no first where it was none -/
theorem NetOk.setG {gs : List Gt} {ws : List Wr} (N : NetOk gs ws) {i : Nat} {g : Gt} (hi : i < gs.length) (hg : GOk g) (h1 : g.1 ≠ "out") (h2 : g.1 ≠ "in") (h3 : g.1 = "first" → kindAt gs i = "first") : NetOk (gs.set i g) ws := by
  have kk := @kindAt_set gs i
  refine ⟨?_, by rw [List.length_set]; exact N.gl, N.wl, ?_, fun x hx => ?_, fun e he hk => ?_, fun e he hk => ?_, N.rank⟩
  · intro z
    have := congrArg List.length z
    rw [List.length_set] at this
    exact N.ne (List.length_eq_zero_iff.mp this)
  · intro y hy
    rcases List.mem_or_eq_of_mem_set hy with hy | hy
    · exact N.gok y hy
    · rw [hy]
      exact hg
  · have W := N.wok x hx
    refine ⟨by rw [List.length_set]; exact W.s, by rw [List.length_set]; exact W.e, ?_, ?_, W.r, W.rl⟩
    · rw [kk hi]
      split
      · exact h1
      · exact W.ks
    · rw [kk hi]
      split
      · exact h2
      · exact W.ke
  · rw [List.length_set] at he
    rw [kk hi] at hk
    split at hk
    · exact absurd hk h1
    · exact N.one e he hk
  · rw [List.length_set] at he
    rw [kk hi] at hk
    split at hk
    · rename_i hei
      subst hei
      exact N.some _ he (h3 hk)
    · exact N.some e he hk
theorem kindAt_app {gs : List Gt} {g : Gt} {j : Nat} (h : j < gs.length) : kindAt (gs ++ [g]) j = kindAt gs j := by
  unfold kindAt
  rw [List.getD_eq_getElem?_getD, List.getD_eq_getElem?_getD, List.getElem?_append_left h]
theorem NetOk.addIn {gs : List Gt} {ws : List Wr} (N : NetOk gs ws) (hl : gs.length < 100) : NetOk (gs ++ [(("in" : Str), (0 : Int))]) ws := by
  have kl : kindAt (gs ++ [(("in" : Str), (0 : Int))]) gs.length = "in" := by
    unfold kindAt
    rw [List.getD_eq_getElem?_getD, List.getElem?_append_right (Nat.le_refl _), Nat.sub_self]
    rfl
  refine ⟨by simp, by simp; omega, N.wl, ?_, fun x hx => ?_, fun e he hk => ?_, fun e he hk => ?_, N.rank⟩
  · intro y hy
    rcases List.mem_append.mp hy with hy | hy
    · exact N.gok y hy
    · simp at hy
      subst hy
      exact ⟨by show ("in" : Str) ∈ kinds; decide +kernel, Int.le_refl 0, (by show (0 : Int) ≤ 100; decide), fun _ => rfl⟩
  · have W := N.wok x hx
    exact ⟨by have := W.s; simp; omega, by have := W.e; simp; omega, by rw [kindAt_app W.s]; exact W.ks, by rw [kindAt_app W.e]; exact W.ke, W.r, W.rl⟩
  · by_cases h : e < gs.length
    · rw [kindAt_app h] at hk
      exact N.one e h hk
    · have : e = gs.length := by simp at he; omega
      subst this
      rw [kl] at hk
      exact absurd hk (by decide +kernel)
  · by_cases h : e < gs.length
    · rw [kindAt_app h] at hk
      exact N.some e h hk
    · have : e = gs.length := by simp at he; omega
      subst this
      rw [kl] at hk
      exact absurd hk (by decide +kernel)
theorem cnt_set {ws : List Wr} {i : Nat} {x y : Wr} (h : ws[i]? = some x) (he : y.2.1 = x.2.1) (e : Nat) : cnt (ws.set i y) e = cnt ws e := by
  obtain ⟨hi, rfl⟩ := List.getElem?_eq_some_iff.mp h
  have h1 : ws.set i y = ws.take i ++ y :: ws.drop (i + 1) := List.set_eq_take_append_cons_drop .. |>.trans (by rw [if_pos hi])
  have h2 : ws = ws.take i ++ ws[i] :: ws.drop (i + 1) := by rw [List.getElem_cons_drop, List.take_append_drop]
  unfold cnt
  conv => rhs; rw [h2]
  rw [h1, List.countP_append, List.countP_append, List.countP_cons, List.countP_cons, he]
/-- a wire with other registers, one at least -/
theorem NetOk.setW {gs : List Gt} {ws : List Wr} (N : NetOk gs ws) {i : Nat} {x : Wr} {r : List Int} (h : ws[i]? = Option.some x) (hr : ROk r) (hl : r.length ≤ 100) (hne : r ≠ []) : NetOk gs (ws.set i (x.1, x.2.1, r)) := by
  have W := N.wok x (List.mem_of_getElem? h)
  obtain ⟨ρ, hρ⟩ := N.rank
  refine ⟨N.ne, N.gl, by rw [List.length_set]; exact N.wl, N.gok, fun y hy => ?_, fun e he hk => ?_, fun e he hk => ?_, ρ, fun y hy hyr => ?_⟩
  · rcases List.mem_or_eq_of_mem_set hy with hy | hy
    · exact N.wok y hy
    · rw [hy]
      exact ⟨W.s, W.e, W.ks, W.ke, hr, hl⟩
  · rw [cnt_set (y := (x.1, x.2.1, r)) h rfl]
    exact N.one e he hk
  · rw [cnt_set (y := (x.1, x.2.1, r)) h rfl]
    exact N.some e he hk
  · rcases List.mem_or_eq_of_mem_set hy with hy | hy
    · exact hρ y hy hyr
    · rw [hy] at hyr
      exact absurd hyr hne
theorem NetOk.perm {gs : List Gt} {ws ws' : List Wr} (N : NetOk gs ws) (p : ws'.Perm ws) : NetOk gs ws' := by
  obtain ⟨ρ, hρ⟩ := N.rank
  have c : ∀ e, cnt ws' e = cnt ws e := fun e => p.countP_eq _
  exact ⟨N.ne, N.gl, by rw [p.length_eq]; exact N.wl, N.gok, fun x hx => N.wok x (p.mem_iff.mp hx), fun e he hk => by rw [c]; exact N.one e he hk, fun e he hk => by rw [c]; exact N.some e he hk, ρ, fun x hx h => hρ x (p.mem_iff.mp hx) h⟩
/-! ### slices -/
theorem take_min {α : Type} (l : List α) (k : Nat) : l.take (min k l.length) = l.take k := by
  by_cases h : k ≤ l.length
  · rw [Nat.min_eq_left h]
  · rw [Nat.min_eq_right (by omega), List.take_length, List.take_of_length_le (by omega)]
theorem drop_min {α : Type} (l : List α) (k : Nat) : l.drop (min k l.length) = l.drop k := by
  by_cases h : k ≤ l.length
  · rw [Nat.min_eq_left h]
  · rw [Nat.min_eq_right (by omega), List.drop_length, List.drop_of_length_le (by omega)]
theorem cut_to {xs : List V} (k : Nat) : cutV xs none (some (k : Int)) = xs.take k := by
  unfold cutV
  rw [HT.sIx_none, HT.sIx_nat, List.drop_zero, Nat.sub_zero, take_min]
theorem cut_from {xs : List V} (k : Nat) : cutV xs (some (k : Int)) none = xs.drop k := by
  unfold cutV
  rw [HT.sIx_none, HT.sIx_nat, drop_min]
  exact List.take_of_length_le (by rw [List.length_drop]; omega)
theorem cut_mid {xs : List V} (j k : Nat) : cutV xs (some (j : Int)) (some (k : Int)) = (xs.take k).drop j := by
  unfold cutV
  rw [HT.sIx_nat, HT.sIx_nat, List.drop_take, drop_min]
  by_cases h : j ≤ xs.length
  · by_cases h2 : k ≤ xs.length
    · rw [Nat.min_eq_left h, Nat.min_eq_left h2]
    · rw [List.take_of_length_le (by rw [List.length_drop]; omega), List.take_of_length_le (by rw [List.length_drop]; omega)]
  · rw [List.drop_of_length_le (by omega)]
    simp
section
variable {α β : Type} {R : α → β → Prop} {xs xs' : List α} {ys ys' : List β}
theorem All2.take (h : All2 R xs ys) (k : Nat) : All2 R (xs.take k) (ys.take k) := by
  refine ⟨by rw [List.length_take, List.length_take, h.1], fun i x y hx hy => ?_⟩
  have hi : i < k := by
    have := (List.getElem?_eq_some_iff.mp hx).1
    rw [List.length_take] at this
    omega
  rw [List.getElem?_take_of_lt hi] at hx hy
  exact h.2 i x y hx hy
theorem All2.drop (h : All2 R xs ys) (k : Nat) : All2 R (xs.drop k) (ys.drop k) := by
  refine ⟨by rw [List.length_drop, List.length_drop, h.1], fun i x y hx hy => ?_⟩
  rw [List.getElem?_drop] at hx hy
  exact h.2 _ x y hx hy
theorem All2.append (h : All2 R xs ys) (h' : All2 R xs' ys') : All2 R (xs ++ xs') (ys ++ ys') := by
  induction xs generalizing ys with
  | nil =>
    cases ys with
    | nil => exact h'
    | cons _ _ => have := h.1; simp at this
  | cons x xs ih =>
    cases ys with
    | nil => have := h.1; simp at this
    | cons y ys => exact All2.cons h.head (ih h.tail)
theorem All2.reverse (h : All2 R xs ys) : All2 R xs.reverse ys.reverse := by
  induction xs generalizing ys with
  | nil =>
    cases ys with
    | nil => exact h
    | cons _ _ => have := h.1; simp at this
  | cons x xs ih =>
    cases ys with
    | nil => have := h.1; simp at this
    | cons y ys =>
      rw [List.reverse_cons, List.reverse_cons]
      exact (ih h.tail).snoc h.head
theorem All2.one {x : α} {y : β} (r : R x y) : All2 R [x] [y] := All2.cons r All2.nil
end
theorem set_cut {α : Type} {l : List α} {i : Nat} {y : α} (h : i < l.length) : l.take i ++ [y] ++ l.drop (i + 1) = l.set i y := by
  rw [List.set_eq_take_append_cons_drop, if_pos h, List.append_assoc]
  rfl
theorem swap_perm {α : Type} (l : List α) (i : Nat) : (l.take i ++ ((l.take (i + 2)).drop i).reverse ++ l.drop (i + 2)).Perm l := by
  have e : l = l.take i ++ (l.take (i + 2)).drop i ++ l.drop (i + 2) := by
    have h1 : l.take i = (l.take (i + 2)).take i := by rw [List.take_take, Nat.min_eq_left (by omega)]
    rw [h1, List.take_append_drop, List.take_append_drop]
  conv => rhs; rw [e]
  exact ((List.Perm.refl _).append (List.reverse_perm _)).append (List.Perm.refl _)
end Lag

set_option maxRecDepth 100000
set_option maxHeartbeats 8000000
namespace Lag
open PySem PySem.Spec PyProof.Rows L2
abbrev sDigit : Stmt := topS 48 -- @_law_digit
abbrev sGates : Stmt := topS 49 -- @_law_gates
abbrev sLWorths : Stmt := topS 50 -- @_law_worths
theorem st_norm {f : L2.St → Hp → Prop} {σ σ' : L2.St} {H : Hp} (e : σ = σ') (h : f σ' H) : f σ H := e ▸ h
theorem gn_norm {i : Nat} {x : V} {σ σ' : L2.St} {H : Hp} {N : L2.St → Hp → Prop} (e : σ.set i (some x) = σ') (h : N σ' H) : gName i x σ H N := by
  subst e
  exact h
theorem All2.pushT {α : Type} {R : Hp → V → α → Prop} {H H2 : Hp} {D : Addr} {acc : List V} {l : List α} {v : V} {x : α} {o : HO} (mono : ∀ {H H' : Hp} {v : V} {x : α}, TK H H' → R H v x → R H' v x) (h : All2 (R H) acc l) (hD : H2 D = some (.lst acc)) (t : TK H H2) (r : R H2 v x) : All2 (R (upd H2 D o)) (acc ++ [v]) (l ++ [x]) :=
  (h.imp fun _ _ r => mono (t.trans (TK.lst hD)) r).snoc (mono (TK.lst hD) r)
def rTupOf (K : PySem.W.Frag) : List V → Hp → VK → Prop := fun xs H Q => ∃ p ys, xs = [.ref p] ∧ ((SqL K H p ys ∧ ∀ l, H l = none → Q (.ref l) (upd H l (.tup ys))) ∨ (SqT K H p ys ∧ Q (.ref p) H))
theorem mod_b {x n : Int} (h : 0 < n) (hn : n ≤ 4294967296) : -(2 ^ 64) < x % n ∧ x % n < 2 ^ 64 := by
  have h1 := Int.emod_nonneg x (show n ≠ 0 by omega)
  have h2 := Int.emod_lt_of_pos x h
  constructor
  · have e : (-(2 ^ 64) : Int) = -18446744073709551616 := by decide
    omega
  · have e : (2 ^ 64 : Int) = 18446744073709551616 := by decide
    omega
/-! ### _law_digit -/
def spDraw : Sp := fun vs H Q _ => ∃ (w : Addr) (n : Int), vs = [.ref w, .int n] ∧ 0 < n ∧ n < 1000000 ∧ WellAt w H ∧ ∀ d H', 0 ≤ d → d < n → Dr w H H' → Q (.int d) H'
section
variable {P : Program} {w : World} {K : PySem.W.Frag} {mg : Str → Option Value} {base : Heap}
abbrev nDigit : List Str := ["_law_state", "_law_base", "_law_cell", "_law_found", "_law_number"]
theorem scDigit : FnScope nDigit ["_law_state", "_law_base"] (defScope sDigit) := ⟨rfl, rfl, rfl, by decide +kernel, rfl, by decide +kernel, by decide +kernel⟩
abbrev DDraw (P : Program) (w : World) (K : PySem.W.Frag) (mg : Str → Option Value) (base : Heap) := Df P w K mg base 1 "_law_digit" ["_law_state", "_law_base"] spDraw
theorem ok_digit {f : Addr} {fd : FuncData} (F : Fun K "_law_digit" "_law_digit" sDigit f fd) (hm : mg "_law_digit" = some (.ref f)) (B : Bt mg) : DDraw P w K mg base f fd := by
  refine ⟨?_, hm, F.kp, F.binds fun _ _ _ _ _ _ us hl => match us, hl with | [_, _], _ => rfl⟩
  refine F.ok scDigit (fun vs H Q E h => ?_) (fun cdv A outer s H vs Q E hr h => ?_)
  · obtain ⟨wl, n, rfl, _⟩ := h
    rfl
  · obtain ⟨wl, n, rfl, hn, hn2, ⟨xs, hw, hst⟩, q⟩ := h
    have nd := scDigit.nd
    refine ⟨_, Evl.pss_cut (ps_if (pt_cmpR op_eq (pe_callB call_len_seq (by rfl) B.len PySem.boot_len (pa_cons (pv 0) pa_nil)) pe_int (nomark _))
        (pss_cons (ps_set (i := 2) nd rfl (.inl rfl) (pe_ix ix_list (pv 0) pe_int (fun _ _ => rfl))) <|
          pss_cons (ps_asg (pe_ix ix_list (pe_lst (pa_cons pe_int (pa_cons (pv 2) pa_nil))) (pe_callTy call_int1 (by rfl) B.int (by decide +kernel) (pa_cons (pe_cmpR op_ge (pv 2) (pe_op op_pow pe_int pe_int) (nomark _)) pa_nil)) (fun _ _ => rfl)) (pg_sub (pv 0) pe_int set_list)) <|
          pss_one <| ps_expr <| pe_bm PySem.F.plainAttrs_list PySem.F.slot_list_extend PySem.F.type_list_extend mt_extend (pv 0) <| (pa_cons · pa_nil) <| pe_lst (pa_cons (pe_op op_mod (pv 2) pe_int) (pa_cons pe_int pa_nil))) pss_nil) <|
      pss_cons (ps_if (pt_cmpR op_gt (pe_ix ix_list (pv 0) pe_int (fun _ _ => rfl)) pe_int (nomark _))
        (pss_cons (ps_set (i := 3) nd rfl (Or.inl rfl) (pe_op op_mod (pe_ix ix_list (pv 0) pe_int (fun _ _ => rfl)) (pv 1)))
        (pss_cons (ps_asg (pe_op op_fdiv (pe_ix ix_list (pv 0) pe_int (fun _ _ => rfl)) (pv 1)) (pg_sub (pv 0) pe_int set_list))
        (pss_one (ps_ret (pv 3))))) pss_nil)
      (pss_cons (ps_asg (pe_op op_add (pe_ix ix_list (pv 0) pe_int (fun _ _ => rfl)) pe_int) (pg_sub (pv 0) pe_int set_list))
      (pss_cons (ps_set (i := 4) nd rfl (Or.inl rfl) (pe_op op_mod (pe_op op_mul (pe_op op_add (pe_op op_add (pe_ix ix_list (pv 0) pe_int (fun _ _ => rfl)) (pe_op op_mul pe_int (pe_ix ix_list (pv 0) pe_int (fun _ _ => rfl)))) pe_int) pe_int) pe_int))
      (pss_cons (ps_set (i := 4) nd rfl (Or.inl rfl) (pe_op op_mod (pe_op op_mul (pv 4) (pe_op op_add (pe_op op_fdiv (pv 4) pe_int) pe_int)) pe_int))
      (pss_one (ps_ret (pe_op op_mod (pe_op op_mod (pe_op op_mul (pv 4) (pe_op op_add (pe_op op_fdiv (pv 4) pe_int) pe_int)) pe_int) (pv 1))))))), ?_⟩
    refine ⟨fun σ H' => ∃ (a b c : Int) (s2 : Option V), σ = [some (.ref wl), some (.int n), s2, none, none] ∧ H' wl = some (.lst [.int a, .int b, .int c]) ∧ But wl H H', ?_, ?_⟩
    · refine ⟨_, rfl, wl, xs, rfl, .inl (SqL.of hw), rfl, _, rfl, ite2 (fun e => ?_) (fun e => ?_)⟩
      · have e' : ((xs.length : Nat) : Int) = 1 := V.int.inj (of_decide_eq_true e)
        rcases hst with ⟨a, rfl⟩ | ⟨a, b, c, rfl⟩
        · refine ⟨_, rfl, wl, _, 0, .int a, rfl, rfl, SqL.of hw, atI_nat (j := 0) rfl, ?_⟩
          refine ⟨_, rfl, (by show 2 ≤ sizeLine; decide), fun l hl => ?_⟩
          have nl : wl ≠ l := ne_of_none hw hl
          refine ⟨_, rfl, _, _, rfl, rfl, ⟨by decide, by decide, by decide⟩, _, _, rfl, rfl, .inr ⟨_, rfl, ?_⟩⟩
          refine ⟨l, _, _, .int (if decide (10 ^ (18 : Int).toNat ≤ a) = true then a else 0), rfl, rfl, SqL.of upd_same, ?_, ?_⟩
          · cases decide (10 ^ (18 : Int).toNat ≤ a) with
            | true => rfl
            | false => rfl
          generalize (if decide (10 ^ (18 : Int).toNat ≤ a) = true then a else 0) = a2
          have hw1 : (upd H l (.lst [.int 0, .int a])) wl = some (.lst [.int a]) := by
            rw [upd_ne nl]
            exact hw
          have b1 : But wl H (upd H l (.lst [.int 0, .int a])) := But.new hl
          generalize upd H l (.lst [.int 0, .int a]) = H1 at hw1 b1
          refine ⟨_, rfl, wl, _, 0, 0, rfl, rfl, hw1, rfl, ?_⟩
          have hw2 : (upd H1 wl (.lst [.int a2])) wl = some (.lst [.int a2]) := upd_same
          have b2 : But wl H (upd H1 wl (.lst [.int a2])) := b1.trans But.upd
          show _
          refine ⟨_, rfl, .inl ⟨rfl, _, SqL.of hw2⟩, _, rfl, _, _, rfl, rfl, (by show (0 : Int) < 2147483647; decide), (by show 2 ≤ sizeLine; decide), fun l2 hl2 => ?_⟩
          have nl2 : wl ≠ l2 := ne_of_none hw2 hl2
          refine ⟨wl, l2, [.int a2], _, rfl, rfl, by rw [upd_ne nl2]; exact hw2, upd_same, (by show 1 + 2 ≤ sizeLine; decide), ?_⟩
          exact ⟨_, _, _, _, rfl, upd_same, (b2.trans (But.new hl2)).trans But.upd⟩
        · exact absurd e' (by show ¬ ((3 : Nat) : Int) = 1; decide)
      · rcases hst with ⟨a, rfl⟩ | ⟨a, b, c, rfl⟩
        · exact absurd rfl e
        · exact ⟨a, b, c, _, rfl, hw, But.refl _ _⟩
    rintro σ H0 ⟨a, b, c, s2, rfl, hw0, b0⟩
    have dr : ∀ {a b c : Int} {H' : Hp}, But wl H H' → H' wl = some (.lst [.int a, .int b, .int c]) → Dr wl H H' := fun hb h => ⟨hb, _, h, .inr ⟨_, _, _, rfl⟩⟩
    refine ⟨_, rfl, wl, _, 0, .int a, rfl, rfl, SqL.of hw0, atI_nat (j := 0) rfl, _, _, rfl, rfl, _, rfl, ite2 (fun e => ?_) (fun e => ?_)⟩
    · refine ⟨_, rfl, wl, _, 0, .int a, rfl, rfl, SqL.of hw0, atI_nat (j := 0) rfl, _, rfl, _, _, rfl, rfl, hn, ?_⟩
      refine ⟨_, rfl, wl, _, 0, .int a, rfl, rfl, SqL.of hw0, atI_nat (j := 0) rfl, _, rfl, _, _, rfl, rfl, ⟨hn, by omega⟩, ?_⟩
      refine ⟨_, rfl, wl, _, 0, 0, rfl, rfl, hw0, rfl, ?_⟩
      refine ⟨_, rfl, ?_⟩
      exact q _ _ (Int.emod_nonneg _ (by omega)) (Int.emod_lt_of_pos _ hn) (dr (b0.trans But.upd) upd_same)
    · have h1 : (upd H0 wl (HO.lst [.int a, .int b, .int (c + 1)])) wl = some (.lst [.int a, .int b, .int (c + 1)]) := upd_same
      refine ⟨_, rfl, wl, _, 2, .int c, rfl, rfl, SqL.of hw0, atI_nat (j := 2) rfl, _, _, rfl, rfl, ?_⟩
      refine ⟨_, rfl, wl, _, 2, 2, rfl, rfl, hw0, rfl, ?_⟩
      refine ⟨_, rfl, wl, _, 1, .int b, rfl, rfl, SqL.of h1, atI_nat (j := 1) rfl, _, rfl, wl, _, 2, .int (c + 1), rfl, rfl, SqL.of h1, atI_nat (j := 2) rfl, _, _, rfl, rfl, .inl ⟨by decide, by decide⟩, _, _, rfl, rfl, _, _, rfl, rfl, _, _, rfl, rfl, .inr ⟨by decide, by decide⟩, _, _, rfl, rfl, (by show (0 : Int) < 2147483647; decide), ?_⟩
      refine ⟨_, rfl, _, rfl, _, _, rfl, rfl, ⟨by decide, by decide⟩, _, _, rfl, rfl, _, _, rfl, rfl, .inl (mod_b (by decide) (by decide)), _, _, rfl, rfl, (by show (0 : Int) < 2147483647; decide), ?_⟩
      refine ⟨_, rfl, _, rfl, _, _, rfl, rfl, ⟨by decide, by decide⟩, _, _, rfl, rfl, _, _, rfl, rfl, .inl (mod_b (by decide) (by decide)), _, _, rfl, rfl, (by show (0 : Int) < 2147483399; decide), _, rfl, _, _, rfl, rfl, hn, ?_⟩
      exact q _ _ (Int.emod_nonneg _ (by omega)) (Int.emod_lt_of_pos _ hn) (dr (b0.trans But.upd) h1)
end
/-! ### _law_gates -/
def inG : Gt := ("in", 0)
def outG : Gt := ("out", 0)
def innP (k : Str) : Bool := k != "in" && k != "out"
def nInn (gs : List Gt) : Nat := gs.countP fun g => innP g.1
structure GSh (gs : List Gt) (a b : Nat) : Prop where
  ex : ∃ mid c, gs = List.replicate a inG ++ mid ++ List.replicate c outG ∧ mid.length = b ∧ 1 ≤ c ∧ c ≤ 2 ∧ ∀ g ∈ mid, GOk g ∧ g.1 ≠ "in" ∧ g.1 ≠ "out"
  a2 : a ≤ 2
  b1 : 1 ≤ b
  b2 : b ≤ 20
def spGates (K : PySem.W.Frag) : Sp := fun vs H Q _ => ∃ (wl : Addr) (m : Int), vs = [.ref wl, .int m] ∧ 0 < m ∧ m ≤ 20 ∧ WellAt wl H ∧ ∀ t lg gs (a b : Nat) H', Dr wl H H' → H' t = some (.tup [.ref lg, .int (a : Nat), .int (b : Nat)]) → H lg = none → LG K H' lg gs → GSh gs a b → (b : Int) ≤ m → Q (.ref t) H'
def inner7 : List Str := ["sum", "times", "most", "least", "first", "one", "sum"]
theorem inner7_ok : ∀ k ∈ inner7, k ∈ kinds ∧ k ≠ "in" ∧ k ≠ "out" := by decide +kernel
theorem rep_flat {α : Type} (n : Nat) (x : α) : (List.replicate n [x]).flatten = List.replicate n x := by
  induction n with
  | zero => rfl
  | succ n ih => rw [List.replicate_succ, List.flatten_cons, ih, List.replicate_succ]; rfl
theorem all2_rep {α β : Type} {R : α → β → Prop} {x : α} {y : β} (h : R x y) : ∀ n, All2 R (List.replicate n x) (List.replicate n y)
  | 0 => All2.nil
  | n + 1 => All2.cons h (all2_rep h n)
section
variable {P : Program} {w : World} {K : PySem.W.Frag} {mg : Str → Option Value} {base : Heap}
abbrev nGates : List Str := ["_law_state", "_law_most", "_law_inner", "_law_ins", "_law_gates_here", "_law_k", "_law_kind"]
theorem scGates : FnScope nGates ["_law_state", "_law_most"] (defScope sGates) := ⟨rfl, rfl, rfl, by decide +kernel, rfl, by decide +kernel, by decide +kernel⟩
abbrev DGates (P : Program) (w : World) (K : PySem.W.Frag) (mg : Str → Option Value) (base : Heap) := Df P w K mg base 2 "_law_gates" ["_law_state", "_law_most"] (spGates K)
theorem ok_gates {f fD : Addr} {fd fdD : FuncData} (F : Fun K "_law_gates" "_law_gates" sGates f fd) (hm : mg "_law_gates" = some (.ref f)) (B : Bt mg) (DD : DDraw P w K mg base fD fdD) : DGates P w K mg base f fd := by
  refine ⟨?_, hm, F.kp, F.binds fun _ _ _ _ _ _ us hl => match us, hl with | [_, _], _ => rfl⟩
  refine F.ok scGates (fun vs H Q E h => ?_) (fun cdv A outer s H vs Q E hr h => ?_)
  · obtain ⟨wl, m, rfl, _⟩ := h
    rfl
  · obtain ⟨wl, m, rfl, hm0, hm1, hw, q⟩ := h
    have nd := scGates.nd
    refine ⟨_, pss_cons (ps_set (i := 2) nd rfl (.inl rfl) (pe_op op_add pe_int (pe_call DD.ok hr (by rfl) DD.mg DD.kp DD.bd .nil pass0 (pa_cons (pv 0) (pa_cons (pv 1) pa_nil))))) <|
      pss_cons (ps_set (i := 3) nd rfl (.inl rfl) (pe_call DD.ok hr (by rfl) DD.mg DD.kp DD.bd .nil pass0 (pa_cons (pv 0) (pa_cons pe_int pa_nil)))) <|
      pss_cons (ps_set (i := 4) nd rfl (.inl rfl) (pe_op op_rep (pe_lst (pa_cons (pe_tup (pa_cons pe_str (pa_cons pe_int pa_nil))) pa_nil)) (pv 3))) <|
      pss_cons (ps_for PassesOwn.never rfl (pi_range1 (by rfl) B.range (pa_cons (pv 2) pa_nil)) (pg_name (i := 5) nd rfl (.inl rfl)) <|
        pss_cons (ps_set (i := 6) nd rfl (.inl rfl) (pe_ix ix_list (pe_lst (pa_cons pe_str (pa_cons pe_str (pa_cons pe_str (pa_cons pe_str (pa_cons pe_str (pa_cons pe_str (pa_cons pe_str pa_nil)))))))) (pe_call DD.ok hr (by rfl) DD.mg DD.kp DD.bd .nil pass0 (pa_cons (pv 0) (pa_cons pe_int pa_nil))) (fun _ _ => rfl))) <|
        pss_one <| ps_expr <| pe_bm PySem.F.plainAttrs_list PySem.F.slot_list_append PySem.F.type_list_append mt_append (pv 4) <| (pa_cons · pa_nil) <| pe_tup <| pa_cons (pv 6) <| (pa_cons · pa_nil) <|
          pe_ix ix_list (pe_lst (pa_cons (pe_call DD.ok hr (by rfl) DD.mg DD.kp DD.bd .nil pass0 (pa_cons (pv 0) (pa_cons pe_int pa_nil))) (pa_cons (pe_call DD.ok hr (by rfl) DD.mg DD.kp DD.bd .nil pass0 (pa_cons (pv 0) (pa_cons pe_int pa_nil))) (pa_cons pe_int (pa_cons pe_int pa_nil))))) (pe_call DD.ok hr (by rfl) DD.mg DD.kp DD.bd .nil pass0 (pa_cons (pv 0) (pa_cons pe_int pa_nil))) (fun _ _ => rfl)) <|
      pss_one <| ps_ret <| pe_tup <| pa_cons (pe_op op_cat (pv 4) (pe_op op_rep (pe_lst (pa_cons (pe_tup (pa_cons pe_str (pa_cons pe_int pa_nil))) pa_nil)) (pe_op op_add pe_int (pe_call DD.ok hr (by rfl) DD.mg DD.kp DD.bd .nil pass0 (pa_cons (pv 0) (pa_cons pe_int pa_nil)))))) <| pa_cons (pv 3) <| pa_cons (pv 2) pa_nil, ?_⟩
    refine ⟨_, rfl, _, rfl, wl, m, rfl, hm0, by omega, hw, fun d1 H1 d10 d11 E1 => ⟨_, _, rfl, rfl, ?_⟩⟩
    refine ⟨_, rfl, wl, 3, rfl, by decide, by decide, E1.well, fun d2 H2 d20 d21 E2 => ?_⟩
    obtain ⟨a, rfl⟩ : ∃ a : Nat, d2 = (a : Int) := ⟨d2.toNat, by omega⟩
    obtain ⟨b0, rfl⟩ : ∃ b : Nat, d1 = (b : Int) := ⟨d1.toNat, by omega⟩
    have D2 := E1.trans E2
    refine ⟨(by show 2 ≤ sizeLine; decide), fun t3 ht3 => ?_⟩
    have D3 := D2.trans (Dr.new (o := .tup [.str "in", .int 0]) D2.well ht3)
    have et3 : SqT K (upd H2 t3 (.tup [.str "in", .int 0])) t3 [.str "in", .int 0] := .inl (.inl upd_same)
    generalize upd H2 t3 (.tup [.str "in", .int 0]) = H3 at D3 et3
    refine ⟨(by show 1 ≤ sizeLine; decide), fun l4 hl4 => ?_⟩
    have D4 := D3.trans (Dr.new (o := .lst [.ref t3]) D3.well hl4)
    have et4 := (TK.new (o := .lst [.ref t3]) hl4).seq et3
    have el4 : (upd H3 l4 (.lst [.ref t3])) l4 = some (.lst [.ref t3]) := upd_same
    generalize upd H3 l4 (.lst [.ref t3]) = H4 at D4 et4 el4
    refine ⟨_, rfl, l4, _, _, rfl, rfl, el4, by omega, by omega, ?_, fun lg hlg => ?_⟩
    · show 1 * _ ≤ sizeLine
      exact Nat.le_of_lt (small1000 (by omega))
    rw [Int.toNat_natCast, rep_flat]
    have D5 := D4.trans (Dr.new (o := .lst (List.replicate a (V.ref t3))) D4.well hlg)
    have et5 := (TK.new (o := .lst (List.replicate a (V.ref t3))) hlg).seq et4
    have el5 : (upd H4 lg (.lst (List.replicate a (V.ref t3)))) lg = some (.lst (List.replicate a (V.ref t3))) := upd_same
    have nlg : lg ≠ wl := (D4.well.ne hlg).symm
    have hlg0 : H lg = none := D4.free hw hlg
    generalize upd H4 lg (.lst (List.replicate a (V.ref t3))) = H5 at D5 et5 el5
    refine gn_norm (σ' := [some (.ref wl), some (.int m), some (.int (1 + (b0 : Nat))), some (.int (a : Nat)), some (.ref lg), none, none]) rfl ?_
    refine ⟨_, rfl, _, rfl, by omega, by omega, for_range (lo := 0) (n := (1 + ((b0 : Nat) : Int)).toNat) (fun i σ H' => ∃ (s5 s6 : Option V) (acc : List V) (mid : List Gt), σ = [some (.ref wl), some (.int m), some (.int (1 + (b0 : Nat))), some (.int (a : Nat)), some (.ref lg), s5, s6] ∧ H' lg = some (.lst acc) ∧ All2 (GateV K H') acc (List.replicate a inG ++ mid) ∧ mid.length = i ∧ (∀ g ∈ mid, GOk g ∧ g.1 ≠ "in" ∧ g.1 ≠ "out") ∧ Dr wl H H')
      ⟨_, _, _, [], rfl, el5, by rw [List.append_nil]; exact all2_rep ⟨t3, rfl, et5⟩ a, rfl, by simp, D5⟩ ?_ ?_⟩
    · rintro i σ H6 hi ⟨s5, s6, acc, mid, rfl, hacc, haa, hml, hmid, D6⟩
      have hal : acc.length = a + i := by rw [haa.1, List.length_append, List.length_replicate, hml]
      refine ⟨(by show 7 ≤ sizeLine; decide), fun l7 hl7 => ?_⟩
      have D7 := D6.trans (Dr.new (o := .lst (inner7.map V.str)) D6.well hl7)
      have E67 := Dr.new (o := .lst (inner7.map V.str)) D6.well hl7
      refine ⟨_, rfl, wl, 7, rfl, by decide, by decide, D7.well, fun k8 H8 k80 k81 E8 => ?_⟩
      have el7 := E8.but _ _ (D6.well.ne hl7).symm (upd_same (H := H6) (a := l7) (o := .lst (inner7.map V.str)))
      have hk8 : k8.toNat < (inner7.map V.str).length := by show k8.toNat < 7; omega
      refine ⟨l7, inner7.map V.str, k8, (inner7.map V.str)[k8.toNat], rfl, rfl, SqL.of el7, at_of (j := k8.toNat) (by omega) (List.getElem?_eq_getElem hk8), ?_⟩
      obtain ⟨kd, hkd, ekd⟩ := List.mem_map.mp (List.getElem_mem hk8)
      rw [← ekd]
      have hk := inner7_ok kd hkd
      have E68 := E67.trans E8
      have D8 := D6.trans E68
      have hacc8 := E68.but _ _ nlg hacc
      refine gn_norm (σ' := [some (.ref wl), some (.int m), some (.int (1 + (b0 : Nat))), some (.int (a : Nat)), some (.ref lg), some (.int (0 + (i : Nat))), some (.str kd)]) rfl ?_
      refine ⟨_, rfl, .inl ⟨rfl, _, SqL.of hacc8⟩, _, rfl, _, rfl, wl, 10, rfl, by decide, by decide, D8.well, fun z1 H9 z10 z11 E9 => ?_⟩
      refine ⟨_, rfl, wl, 4, rfl, by decide, by decide, E9.well, fun z2 H10 z20 z21 E10 => ?_⟩
      refine ⟨(by show 4 ≤ sizeLine; decide), fun l10 hl10 => ?_⟩
      have E11 := (E9.trans E10).trans (Dr.new (o := .lst [.int z1, .int z2, .int 0, .int 100]) E10.well hl10)
      refine ⟨_, rfl, wl, 4, rfl, by decide, by decide, E11.well, fun j H12 j0 j1 E12 => ?_⟩
      have el10 := E12.but _ _ (E10.well.ne hl10).symm (upd_same (H := H10) (a := l10) (o := .lst [.int z1, .int z2, .int 0, .int 100]))
      obtain ⟨wt, hwt, w0, w1⟩ : ∃ wt : Int, ([.int z1, .int z2, .int 0, .int 100] : List V)[j.toNat]? = some (.int wt) ∧ 0 ≤ wt ∧ wt ≤ 100 := by
        rcases (by omega : j.toNat = 0 ∨ j.toNat = 1 ∨ j.toNat = 2 ∨ j.toNat = 3) with h | h | h | h <;> rw [h]
        · exact ⟨z1, rfl, z10, by omega⟩
        · exact ⟨z2, rfl, z20, by omega⟩
        · exact ⟨0, rfl, by decide, by decide⟩
        · exact ⟨100, rfl, by decide, by decide⟩
      refine ⟨l10, _, j, .int wt, rfl, rfl, SqL.of el10, at_of (j := j.toNat) (by omega) hwt, (by show 2 ≤ sizeLine; decide), fun p hp => ?_⟩
      have E13 := (E68.trans (E11.trans E12)).trans (Dr.new (o := .tup [.str kd, .int wt]) E12.well hp)
      have hacc13 := E13.but _ _ nlg hacc
      refine ⟨lg, acc, _, rfl, rfl, hacc13, small1000 (by omega), ?_⟩
      refine ⟨_, _, acc ++ [.ref p], mid ++ [(kd, wt)], rfl, upd_same, ?_, by simp [hml], fun g hg => ?_, set_well (D6.trans E13) hlg0 nlg⟩
      · rw [← List.append_assoc]
        exact All2.pushT (fun t r => GateV.tk t r) haa hacc13 (TK.dr D6.well E13.but) ⟨p, rfl, .inl (.inl upd_same)⟩
      · rcases List.mem_append.mp hg with hg | hg
        · exact hmid g hg
        · simp at hg
          subst hg
          exact ⟨⟨hk.1, w0, w1, fun hp => by
            rcases hp with z | z
            · exact absurd z hk.2.1
            · exact absurd z hk.2.2⟩, hk.2.1, hk.2.2⟩
    · rintro σ H6 ⟨s5, s6, acc, mid, rfl, hacc, haa, hml, hmid, D6⟩
      have hal : acc.length = a + mid.length := by rw [haa.1, List.length_append, List.length_replicate]
      have hml' : mid.length = 1 + b0 := by omega
      refine ⟨_, rfl, (by show 2 ≤ sizeLine; decide), fun t7 ht7 => ?_⟩
      have E7 := Dr.new (o := .tup [.str "out", .int 0]) D6.well ht7
      have et7 : SqT K (upd H6 t7 (.tup [.str "out", .int 0])) t7 [.str "out", .int 0] := .inl (.inl upd_same)
      generalize upd H6 t7 (.tup [.str "out", .int 0]) = H7 at E7 et7
      refine ⟨(by show 1 ≤ sizeLine; decide), fun l8 hl8 => ?_⟩
      have E8 := E7.trans (Dr.new (o := .lst [.ref t7]) E7.well hl8)
      have et8 := (TK.new (o := .lst [.ref t7]) hl8).seq et7
      have el8 : (upd H7 l8 (.lst [.ref t7])) l8 = some (.lst [.ref t7]) := upd_same
      have nl8 : l8 ≠ wl := (E7.well.ne hl8).symm
      generalize upd H7 l8 (.lst [.ref t7]) = H8 at E8 et8 el8
      refine ⟨_, rfl, wl, 2, rfl, by decide, by decide, E8.well, fun d9 H9 d90 d91 E9 => ⟨_, _, rfl, rfl, ?_⟩⟩
      obtain ⟨c0, rfl⟩ : ∃ c : Nat, d9 = (c : Int) := ⟨d9.toNat, by omega⟩
      have et9 := (TK.dr E8.well E9.but).seq et8
      have el9 := E9.but _ _ nl8 el8
      refine ⟨l8, _, _, rfl, rfl, el9, by omega, by omega, ?_, fun l10 hl10 => ?_⟩
      · show 1 * _ ≤ sizeLine
        exact Nat.le_of_lt (small1000 (by omega))
      have ec : (1 + ((c0 : Nat) : Int)).toNat = 1 + c0 := by omega
      rw [ec, rep_flat]
      have E10 := (E8.trans E9).trans (Dr.new (o := .lst (List.replicate (1 + c0) (V.ref t7))) E9.well hl10)
      have et10 := (TK.new (o := .lst (List.replicate (1 + c0) (V.ref t7))) hl10).seq et9
      have el10 : (upd H9 l10 (.lst (List.replicate (1 + c0) (V.ref t7)))) l10 = some (.lst (List.replicate (1 + c0) (V.ref t7))) := upd_same
      generalize upd H9 l10 (.lst (List.replicate (1 + c0) (V.ref t7))) = H10 at E10 et10 el10
      refine ⟨lg, l10, _, _, rfl, rfl, E10.but _ _ nlg hacc, el10, ?_, fun l11 hl11 => ?_⟩
      · rw [List.length_replicate, hal]
        exact Nat.le_of_lt (small1000 (by omega))
      have E11 := E10.trans (Dr.new (o := .lst (acc ++ List.replicate (1 + c0) (V.ref t7))) E10.well hl11)
      have et11 := (TK.new (o := .lst (acc ++ List.replicate (1 + c0) (V.ref t7))) hl11).seq et10
      have el11 : (upd H10 l11 (.lst (acc ++ List.replicate (1 + c0) (V.ref t7)))) l11 = some (.lst (acc ++ List.replicate (1 + c0) (V.ref t7))) := upd_same
      have hl110 : H l11 = none := (D6.trans E10).free hw hl11
      generalize upd H10 l11 (.lst (acc ++ List.replicate (1 + c0) (V.ref t7))) = H11 at E11 et11 el11
      have G11 : LG K H11 l11 (List.replicate a inG ++ mid ++ List.replicate (1 + c0) outG) := ⟨_, el11, (haa.imp fun _ _ r => r.tk (TK.dr D6.well E11.but)).append (all2_rep ⟨t7, rfl, et11⟩ _)⟩
      refine ⟨_, rfl, _, rfl, (by show 3 ≤ sizeLine; decide), fun t12 ht12 => ?_⟩
      have st : Same H11 (upd H11 t12 (.tup [.ref l11, .int (a : Nat), .int (1 + (b0 : Nat))])) := same_new ht12
      refine q t12 l11 _ a (1 + b0) _ ((D6.trans E11).trans ⟨But.same st, E11.well.same st⟩) ?_ hl110 (G11.same st) ⟨⟨mid, 1 + c0, rfl, hml', by omega, by omega, hmid⟩, by omega, by omega, by omega⟩ (by omega)
      rw [upd_same]
      rfl
end
/-! ### _law_worths -/
def spLWorths (K : PySem.W.Frag) : Sp := fun vs H Q _ => ∃ (wl : Addr) (m : Nat), vs = [.ref wl, .int (m : Nat)] ∧ m ≤ 100 ∧ WellAt wl H ∧ ∀ p rs H', Dr wl H H' → H' p = some (.tup (rs.map V.int)) → rs.length = m → ROk rs → Q (.ref p) H'
section
variable {P : Program} {w : World} {K : PySem.W.Frag} {mg : Str → Option Value} {base : Heap}
abbrev nLWorths : List Str := ["_law_state", "_law_many", "_law_k"]
theorem scLWorths : FnScope nLWorths ["_law_state", "_law_many"] (defScope sLWorths) := ⟨rfl, rfl, rfl, by decide +kernel, rfl, by decide +kernel, by decide +kernel⟩
abbrev DLWorths (P : Program) (w : World) (K : PySem.W.Frag) (mg : Str → Option Value) (base : Heap) := Df P w K mg base 2 "_law_worths" ["_law_state", "_law_many"] (spLWorths K)
theorem ok_lworths {f fD : Addr} {fd fdD : FuncData} (F : Fun K "_law_worths" "_law_worths" sLWorths f fd) (hm : mg "_law_worths" = some (.ref f)) (B : Bt mg) (DD : DDraw P w K mg base fD fdD) : DLWorths P w K mg base f fd := by
  refine ⟨?_, hm, F.kp, F.binds fun _ _ _ _ _ _ us hl => match us, hl with | [_, _], _ => rfl⟩
  refine F.ok scLWorths (fun vs H Q E h => ?_) (fun cdv A outer s H vs Q E hr h => ?_)
  · obtain ⟨wl, m, rfl, _⟩ := h
    rfl
  · obtain ⟨wl, m, rfl, hm1, hw, q⟩ := h
    have nd := scLWorths.nd
    refine ⟨_, pss_one <| ps_ret <| pe_callTy call_tuple_of (by rfl) B.tuple (by decide +kernel) <| (pa_cons · pa_nil) <| pe_lc (own := [("_law_k", 2)]) (g := gName 2) (tt := tYes) (te := tCall spDraw [] E0 (tCons (tVar 0) (tCons (tC (.int 97)) tNil))) rfl nd (pi_range1 (by rfl) B.range (pa_cons (pv 1) pa_nil)) (blkOk_by (N := nLWorths) (sc := defScope sLWorths) (own := [("_law_k", 2)]) (by decide +kernel))
      (fun _ _ _ _ _ => pg_name (i := 2) nd rfl (.inl rfl)) (fun _ _ _ _ _ => pts_nil) (fun _ _ _ _ _ => pe_call DD.ok hr (by rfl) DD.mg DD.kp DD.bd .nil pass0 (pa_cons (pv 0) (pa_cons pe_int pa_nil))), ?_⟩
    refine ⟨_, rfl, _, rfl, by omega, by omega, fun R hR => ?_⟩
    have nRw : R ≠ wl := (hw.ne hR).symm
    refine lc_range (lo := 0) (n := ((m : Int)).toNat) (fun i Hc => ∃ rs : List Int, rs.length = i ∧ ROk rs ∧ Hc R = some (.lst (rs.map V.int)) ∧ Dr wl H Hc) ⟨[], rfl, by simp [ROk], upd_same, Dr.new hw hR⟩ ?_ ?_
    · rintro i Hc hi ⟨rs, hl, hr', hc, d⟩
      refine ⟨rfl, tyes ?_⟩
      refine ⟨_, rfl, wl, 97, rfl, by decide, by decide, d.well, fun z H2 z0 z1 E => ?_⟩
      refine ⟨_, E.but _ _ nRw hc, by rw [List.length_map]; exact small1000 (by omega), rs ++ [z], by simp [hl], ?_, ?_, set_well (d.trans E) hR nRw⟩
      · intro y hy
        rcases List.mem_append.mp hy with hy | hy
        · exact hr' y hy
        · simp at hy
          subst hy
          exact ⟨z0, by omega⟩
      · rw [upd_same, List.map_append]
        rfl
    · rintro Hc ⟨rs, hl, hr', hc, d⟩
      refine ⟨R, _, rfl, .inl ⟨SqL.of hc, fun p hp => ?_⟩⟩
      exact q p rs _ (d.trans (Dr.new d.well hp)) upd_same (by omega) hr'
end
end Lag

set_option maxRecDepth 100000
set_option maxHeartbeats 8000000
namespace Lag
open PySem PySem.Spec PyProof.Rows L2
abbrev sLWires : Stmt := topS 51 -- @_law_wires
abbrev sLParts : Stmt := topS 52 -- @_law_parts
abbrev sLLags : Stmt := topS 53 -- @_law_lags
theorem kindAt_i {gs : List Gt} {i : Nat} (h : i < gs.length) : kindAt gs i = gs[i].1 := kindAt_get (List.getElem?_eq_getElem h)
theorem GSh.len {gs : List Gt} {a b : Nat} (h : GSh gs a b) : a + b + 1 ≤ gs.length ∧ gs.length ≤ a + b + 2 := by
  obtain ⟨mid, c, rfl, hm, c1, c2, _⟩ := h.ex
  rw [List.length_append, List.length_append, List.length_replicate, List.length_replicate, hm]
  omega
theorem GSh.kind {gs : List Gt} {a b i : Nat} (h : GSh gs a b) (hi : i < gs.length) : (i < a → kindAt gs i = "in") ∧ (a ≤ i → i < a + b → kindAt gs i ≠ "in" ∧ kindAt gs i ≠ "out") ∧ (a + b ≤ i → kindAt gs i = "out") := by
  obtain ⟨mid, c, rfl, hm, c1, c2, hk⟩ := h.ex
  rw [List.length_append, List.length_append, List.length_replicate, List.length_replicate, hm] at hi
  refine ⟨fun h1 => ?_, fun h1 h2 => ?_, fun h1 => ?_⟩
  · refine kindAt_get (g := inG) ?_
    rw [List.getElem?_append_left (by rw [List.length_append, List.length_replicate]; omega), List.getElem?_append_left (by rw [List.length_replicate]; exact h1), List.getElem?_replicate, if_pos h1]
  · have e : (List.replicate a inG ++ mid ++ List.replicate c outG)[i]? = some (mid[i - a]'(by omega)) := by
      rw [List.getElem?_append_left (by rw [List.length_append, List.length_replicate]; omega), List.getElem?_append_right (by rw [List.length_replicate]; exact h1), List.length_replicate, List.getElem?_eq_getElem]
    rw [kindAt_get e]
    exact (hk _ (List.getElem_mem _)).2
  · refine kindAt_get (g := outG) ?_
    rw [List.getElem?_append_right (by rw [List.length_append, List.length_replicate]; omega), List.length_append, List.length_replicate, List.getElem?_replicate, if_pos (by omega)]
theorem GSh.gok {gs : List Gt} {a b : Nat} (h : GSh gs a b) : ∀ g ∈ gs, GOk g := by
  obtain ⟨mid, c, rfl, hm, c1, c2, hk⟩ := h.ex
  intro g hg
  rcases List.mem_append.mp hg with hg | hg
  · rcases List.mem_append.mp hg with hg | hg
    · rw [List.eq_of_mem_replicate hg]
      exact ⟨by show ("in" : Str) ∈ kinds; decide +kernel, Int.le_refl 0, (by show (0 : Int) ≤ 100; decide), fun _ => rfl⟩
    · exact (hk g hg).1
  · rw [List.eq_of_mem_replicate hg]
    exact ⟨by show ("out" : Str) ∈ kinds; decide +kernel, Int.le_refl 0, (by show (0 : Int) ≤ 100; decide), fun _ => rfl⟩
def spLWires (K : PySem.W.Frag) : Sp := fun vs H Q _ => ∃ (wl lg : Addr) (gs : List Gt) (a b : Nat), vs = [.ref wl, .ref lg, .int (a : Nat), .int (b : Nat)] ∧ WellAt wl H ∧ lg ≠ wl ∧ LG K H lg gs ∧ GSh gs a b ∧ ∀ l ws H', Dr wl H H' → H l = none → LW K H' l ws → WInv gs ws gs.length → Q (.ref l) H'
section
variable {P : Program} {w : World} {K : PySem.W.Frag} {mg : Str → Option Value} {base : Heap}
abbrev nLWires : List Str := ["_law_state", "_law_gates_here", "_law_ins", "_law_inner", "_law_wires_here", "_law_end", "_law_k", "_law_start"]
theorem scLWires : FnScope nLWires ["_law_state", "_law_gates_here", "_law_ins", "_law_inner"] (defScope sLWires) := ⟨rfl, rfl, rfl, by decide +kernel, rfl, by decide +kernel, by decide +kernel⟩
abbrev DLWires (P : Program) (w : World) (K : PySem.W.Frag) (mg : Str → Option Value) (base : Heap) := Df P w K mg base 3 "_law_wires" ["_law_state", "_law_gates_here", "_law_ins", "_law_inner"] (spLWires K)
theorem ok_lwires {f fD fW : Addr} {fd fdD fdW : FuncData} (F : Fun K "_law_wires" "_law_wires" sLWires f fd) (hm : mg "_law_wires" = some (.ref f)) (B : Bt mg) (DD : DDraw P w K mg base fD fdD) (DW : DLWorths P w K mg base fW fdW) : DLWires P w K mg base f fd := by
  refine ⟨?_, hm, F.kp, F.binds fun _ _ _ _ _ _ us hl => match us, hl with | [_, _, _, _], _ => rfl⟩
  refine F.ok scLWires (fun vs H Q E h => ?_) (fun cdv A outer s H vs Q E hr h => ?_)
  · obtain ⟨wl, lg, gs, a, b, rfl, _⟩ := h
    rfl
  · obtain ⟨wl, lg, gs, a, b, rfl, hw, nlg, G, gsh, q⟩ := h
    have nd := scLWires.nd
    have hr1 : Room 1 _ := hr.mono (by decide)
    refine ⟨_, pss_cons (ps_set (i := 4) nd rfl (.inl rfl) (pe_lst pa_nil)) <|
      pss_cons (ps_for PassesOwn.never rfl (pi_range2 (by rfl) B.range (pa_cons (pv 2) (pa_cons (pe_callB call_len_seq (by rfl) B.len PySem.boot_len (pa_cons (pv 1) pa_nil)) pa_nil))) (pg_name (i := 5) nd rfl (.inl rfl)) <|
        pss_one <| ps_for PassesOwn.never rfl (pi_range1 (by rfl) B.range (pa_cons (pe_op op_add pe_int (pe_op op_mul (pe_call DD.ok hr1 (by rfl) DD.mg DD.kp DD.bd .nil pass0 (pa_cons (pv 0) (pa_cons pe_int pa_nil))) (pe_callTy call_int1 (by rfl) B.int (by decide +kernel) (pa_cons (pe_cmpR op_lt (pv 5) (pe_op op_add (pv 2) (pv 3)) (nomark _)) pa_nil)))) pa_nil)) (pg_name (i := 6) nd rfl (.inl rfl)) <|
          pss_cons (ps_set (i := 7) nd rfl (.inl rfl) (pe_call DD.ok hr1 (by rfl) DD.mg DD.kp DD.bd .nil pass0 (pa_cons (pv 0) (pa_cons (pe_op op_add (pv 2) (pv 3)) pa_nil)))) <|
          pss_one <| ps_expr <| pe_bm PySem.F.plainAttrs_list PySem.F.slot_list_append PySem.F.type_list_append mt_append (pv 4) <| (pa_cons · pa_nil) <| pe_tup <| pa_cons (pv 7) <| pa_cons (pv 5) <| (pa_cons · pa_nil) <|
            pe_call DW.ok hr (by rfl) DW.mg DW.kp DW.bd .nil pass0 (pa_cons (pv 0) (pa_cons (pe_op op_add (pe_call DD.ok hr1 (by rfl) DD.mg DD.kp DD.bd .nil pass0 (pa_cons (pv 0) (pa_cons pe_int pa_nil))) (pe_callTy call_int1 (by rfl) B.int (by decide +kernel) (pa_cons (pe_cmpR op_ge (pv 7) (pv 5) (nomark _)) pa_nil))) pa_nil))) <|
      pss_one <| ps_ret (pv 4), ?_⟩
    obtain ⟨gl1, gl2⟩ := gsh.len
    have ha2 := gsh.a2
    have hb1 := gsh.b1
    have hb2 := gsh.b2
    obtain ⟨gv, hgv, ga⟩ := id G
    have hlg : gv.length = gs.length := ga.1
    refine ⟨Nat.zero_le _, fun D hD => ?_⟩
    have nDw : D ≠ wl := (hw.ne hD).symm
    have s0 : Same H (upd H D (.lst [])) := same_new hD
    have D0 : Dr wl H (upd H D (.lst [])) := Dr.new hw hD
    refine ⟨_, rfl, _, rfl, lg, gv, rfl, .inl (s0.seq (SqL.of hgv)), _, _, rfl, ⟨by omega, by omega, by omega, by omega⟩, ?_⟩
    refine for_range (fun i σ H' => ∃ (s5 s6 s7 : Option V) (acc : List V) (ws : List Wr), σ = [some (.ref wl), some (.ref lg), some (.int (a : Nat)), some (.int (b : Nat)), some (.ref D), s5, s6, s7] ∧ H' D = some (.lst acc) ∧ All2 (WireV K H') acc ws ∧ WInv gs ws (a + i) ∧ Dr wl H H')
      ⟨_, _, _, [], [], rfl, upd_same, All2.nil, ⟨by simp, fun e he hk => ?_, fun e he hk => ?_, by simp, by simp⟩, D0⟩ ?_ ?_
    · have h1 := (gsh.kind (i := e) (by omega)).1 he
      rw [h1] at hk
      exact absurd hk (by decide +kernel)
    · have h1 := (gsh.kind (i := e) (by omega)).1 he
      rw [h1] at hk
      exact absurd hk (by decide +kernel)
    · rintro i σ H1 hi ⟨s5, s6, s7, acc, ws, rfl, hacc, haa, wi, D1⟩
      rw [hlg] at hi
      have hie : a + i < gs.length := by omega
      have ee : ((a : Nat) : Int) + ((i : Nat) : Int) = ((a + i : Nat) : Int) := by omega
      rw [ee]
      generalize he : a + i = e at hie wi
      obtain ⟨k1, k2, k3⟩ := gsh.kind hie
      refine ⟨_, rfl, wl, 3, rfl, by decide, by decide, D1.well, fun d H2 d0 d1 E2 => ?_⟩
      refine ⟨_, rfl, _, rfl, _, rfl, _, _, rfl, rfl, _, _, rfl, rfl, .inr ⟨_, rfl, _, _, rfl, rfl, .inl ?_, _, _, rfl, rfl, _, rfl, ?_⟩⟩
      · have e64 : (2 ^ 64 : Int) = 18446744073709551616 := by decide
        exact ⟨by omega, by omega⟩
      have hmany : ∃ mm : Nat, (1 : Int) + d * (if decide (((e : Nat) : Int) < ((a : Nat) : Int) + ((b : Nat) : Int)) = true then 1 else 0) = (mm : Int) ∧ 1 ≤ mm ∧ mm ≤ 3 ∧ (a + b ≤ e → mm = 1) := by
        by_cases hlt : e < a + b
        · refine ⟨1 + d.toNat, ?_, by omega, by omega, fun h => by omega⟩
          rw [if_pos (decide_eq_true (by omega))]
          omega
        · refine ⟨1, ?_, by omega, by omega, fun _ => rfl⟩
          rw [if_neg (by rw [decide_eq_true_eq]; omega)]
          omega
      obtain ⟨mm, hmm, mm1, mm3, mmo⟩ := hmany
      rw [hmm]
      have D2 := D1.trans E2
      refine ⟨by omega, by omega, for_range (lo := 0) (n := ((mm : Nat) : Int).toNat) (fun j σ H' => ∃ (s6 s7 : Option V) (acc : List V) (ws : List Wr), σ = [some (.ref wl), some (.ref lg), some (.int (a : Nat)), some (.int (b : Nat)), some (.ref D), some (.int (e : Nat)), s6, s7] ∧ H' D = some (.lst acc) ∧ All2 (WireV K H') acc ws ∧ WInv2 gs ws e j ∧ Dr wl H H')
        ⟨_, _, acc, ws, rfl, E2.but _ _ nDw hacc, haa.imp fun _ _ r => r.tk (TK.dr D1.well E2.but), wi.go, D2⟩ ?_ ?_⟩
      · rintro j σ H3 hj ⟨s6', s7', acc3, ws3, rfl, hacc3, haa3, wi3, D3⟩
        have hal3 : acc3.length ≤ 200 := by
          rw [haa3.1]
          have := wi3.len
          omega
        refine ⟨_, rfl, _, rfl, _, rfl, _, _, rfl, rfl, wl, _, rfl, by omega, by omega, D3.well, fun st H4 st0 st1 E4 => ?_⟩
        obtain ⟨sx, rfl⟩ : ∃ sx : Nat, st = (sx : Int) := ⟨st.toNat, by omega⟩
        have hsx : sx < a + b := by omega
        have hacc4 := E4.but _ _ nDw hacc3
        refine ⟨_, rfl, .inl ⟨rfl, _, SqL.of hacc4⟩, _, rfl, _, rfl, _, rfl, _, rfl, wl, 3, rfl, by decide, by decide, E4.well, fun r0 H5 r00 r01 E5 => ?_⟩
        refine ⟨_, rfl, _, rfl, _, _, rfl, rfl, .inr ⟨_, rfl, _, _, rfl, rfl, ?_⟩⟩
        obtain ⟨rl, hrl, rl3, rlp⟩ : ∃ rl : Nat, r0 + (if decide (((e : Nat) : Int) ≤ ((sx : Nat) : Int)) = true then 1 else 0) = (rl : Int) ∧ rl ≤ 3 ∧ (e ≤ sx → 1 ≤ rl) := by
          by_cases hle : e ≤ sx
          · refine ⟨r0.toNat + 1, ?_, by omega, fun _ => by omega⟩
            rw [if_pos (decide_eq_true (by omega))]
            omega
          · refine ⟨r0.toNat, ?_, by omega, fun h => absurd h hle⟩
            rw [if_neg (by rw [decide_eq_true_eq]; omega)]
            omega
        refine ⟨wl, rl, congrArg (fun z => [V.ref wl, V.int z]) hrl, by omega, E5.well, fun p6 rs H6 E6 ep6 hrs hrok => ?_⟩
        refine ⟨(by show 3 ≤ sizeLine; decide), fun p hp => ?_⟩
        have E36 := E4.trans (E5.trans E6)
        have E7 := E36.trans (Dr.new (o := .tup [.int (sx : Nat), .int (e : Nat), .ref p6]) E36.well hp)
        have hacc7 := E7.but _ _ nDw hacc3
        refine ⟨D, acc3, _, rfl, rfl, hacc7, small1000 (by omega), ?_⟩
        refine ⟨_, _, acc3 ++ [.ref p], ws3 ++ [(sx, e, rs)], rfl, upd_same, All2.pushT (fun t r => WireV.tk t r) haa3 hacc7 (TK.dr D3.well E7.but) ⟨p, p6, rfl, .inl (.inl upd_same), (TK.new hp).seq (.inl (.inl ep6))⟩, wi3.app ⟨by show sx < gs.length; omega, hie, ?_, ?_, hrok, by show rs.length ≤ 100; omega⟩ (fun h => ?_) rfl (by show rs.length ≤ 3; omega), set_well (D3.trans E7) hD nDw⟩
        · show kindAt gs sx ≠ "out"
          rcases Nat.lt_or_ge sx a with h | h
          · rw [(gsh.kind (i := sx) (by omega)).1 h]
            decide +kernel
          · exact ((gsh.kind (i := sx) (by omega)).2.1 h hsx).2
        · show kindAt gs e ≠ "in"
          rcases Nat.lt_or_ge e (a + b) with h | h
          · exact (k2 (by omega) h).1
          · rw [k3 h]
            decide +kernel
        · have h : rs = [] := h
          show sx < e
          rcases Nat.lt_or_ge sx e with h2 | h2
          · exact h2
          · have := rlp h2
            rw [h] at hrs
            simp at hrs
            omega
      · rintro σ H3 ⟨s6', s7', acc3, ws3, rfl, hacc3, haa3, wi3, D3⟩
        rw [Int.toNat_natCast] at wi3
        refine ⟨_, _, _, acc3, ws3, rfl, hacc3, haa3, ?_, D3⟩
        have e2 : a + (i + 1) = e + 1 := by omega
        rw [e2]
        refine wi3.done (fun hk => mmo ?_) (fun _ => mm1) mm3
        rcases Nat.lt_or_ge e (a + b) with h | h
        · exact absurd hk (k2 (by omega) h).2
        · exact h
    · rintro σ H1 ⟨s5, s6, s7, acc, ws, rfl, hacc, haa, wi, D1⟩
      have e2 : a + (((gv.length : Nat) : Int) - ((a : Nat) : Int)).toNat = gs.length := by omega
      rw [e2] at wi
      exact ⟨_, rfl, q D ws H1 D1 hD ⟨acc, hacc, haa⟩ wi⟩
end
end Lag

set_option maxRecDepth 100000
set_option maxHeartbeats 8000000
namespace Lag
open PySem PySem.Spec PyProof.Rows L2
theorem LG.dr {K : PySem.W.Frag} {wl l : Addr} {H H' : Hp} {gs : List Gt} (h : LG K H l gs) (n : l ≠ wl) (W : WellAt wl H) (d : Dr wl H H') : LG K H' l gs := by
  obtain ⟨vs, q, a⟩ := h
  exact ⟨vs, d.but _ _ n q, a.imp fun _ _ r => r.tk (TK.dr W d.but)⟩
theorem LW.dr {K : PySem.W.Frag} {wl l : Addr} {H H' : Hp} {ws : List Wr} (h : LW K H l ws) (n : l ≠ wl) (W : WellAt wl H) (d : Dr wl H H') : LW K H' l ws := by
  obtain ⟨vs, q, a⟩ := h
  exact ⟨vs, d.but _ _ n q, a.imp fun _ _ r => r.tk (TK.dr W d.but)⟩
/-! ### numbered on from t -/
def rotL (n t : Nat) : List Nat := (List.range n).drop t ++ (List.range n).take t
theorem rot_perm (n t : Nat) : (rotL n t).Perm (List.range n) := by
  unfold rotL
  refine List.perm_append_comm.trans ?_
  rw [List.take_append_drop]
theorem rot_map {gs : List Gt} (t : Nat) : ((rotL gs.length t).map fun k => gs.getD k ("", 0)) = gs.drop t ++ gs.take t := by
  have e : (List.range gs.length).map (fun k => gs.getD k ("", 0)) = gs := by
    refine List.ext_getElem? fun i => ?_
    rw [List.getElem?_map]
    by_cases h : i < gs.length
    · rw [List.getElem?_range h, List.getElem?_eq_getElem h]
      show some (gs.getD i ("", 0)) = _
      rw [List.getD_eq_getElem?_getD, List.getElem?_eq_getElem h]
      rfl
    · rw [List.getElem?_eq_none (by rw [List.length_range]; omega), List.getElem?_eq_none (by omega)]
      rfl
  unfold rotL
  rw [List.map_append, List.map_drop, List.map_take, e]
theorem rot_idx {n t i : Nat} (ht : t < n) (hi : i < n) : (((rotL n t).idxOf i : Nat) : Int) = ((i : Int) - (t : Int)) % (n : Int) := by
  have nd : (rotL n t).Nodup := (rot_perm n t).nodup_iff.mpr List.nodup_range
  have key : ∀ j, (rotL n t)[j]? = some i → (rotL n t).idxOf i = j := fun j hj => by
    obtain ⟨hjl, e⟩ := List.getElem?_eq_some_iff.mp hj
    rw [← e]
    exact List.Nodup.idxOf_getElem nd j hjl
  rcases Nat.lt_or_ge i t with h | h
  · have hj : (rotL n t)[n - t + i]? = some i := by
      unfold rotL
      rw [List.getElem?_append_right (by rw [List.length_drop, List.length_range]; omega), List.length_drop, List.length_range, List.getElem?_take_of_lt (by omega), List.getElem?_range (by omega)]
      congr 1
      omega
    rw [key _ hj]
    have : ((i : Int) - (t : Int)) % (n : Int) = ((i : Int) - (t : Int) + (n : Int)) % (n : Int) := by rw [Int.add_emod_right]
    rw [this, Int.emod_eq_of_lt (by omega) (by omega)]
    omega
  · have hj : (rotL n t)[i - t]? = some i := by
      unfold rotL
      rw [List.getElem?_append_left (by rw [List.length_drop, List.length_range]; omega), List.getElem?_drop, List.getElem?_range (by omega)]
      congr 1
      omega
    rw [key _ hj, Int.emod_eq_of_lt (by omega) (by omega)]
    omega
theorem nInn_rot (gs : List Gt) (t : Nat) : nInn (gs.drop t ++ gs.take t) = nInn gs := by
  unfold nInn
  rw [List.countP_append, Nat.add_comm, ← List.countP_append, List.take_append_drop]
theorem GSh.inn {gs : List Gt} {a b : Nat} (h : GSh gs a b) : nInn gs ≤ b := by
  obtain ⟨mid, c, e, hm, _⟩ := h.ex
  have h1 : (List.replicate a inG).countP (fun g => innP g.1) = 0 := List.countP_eq_zero.mpr fun g hg => by
    rw [List.eq_of_mem_replicate hg]
    decide +kernel
  have h2 : (List.replicate c outG).countP (fun g => innP g.1) = 0 := List.countP_eq_zero.mpr fun g hg => by
    rw [List.eq_of_mem_replicate hg]
    decide +kernel
  have h3 : mid.countP (fun g => innP g.1) ≤ mid.length := List.countP_le_length
  unfold nInn
  rw [e, List.countP_append, List.countP_append, h1, h2]
  omega
def spLParts (K : PySem.W.Frag) : Sp := fun vs H Q _ => ∃ (wl : Addr) (m : Int), vs = [.ref wl, .int m] ∧ 0 < m ∧ m ≤ 20 ∧ WellAt wl H ∧
  ∀ (gs : List Gt) (ws : List Wr) (lg lw p : Addr) (H' : Hp), NetOk gs ws → gs.length ≤ 24 → (gs.length : Int) ≤ m + 4 → (nInn gs : Int) ≤ m → ws.length ≤ 3 * gs.length → (∀ x ∈ ws, x.2.2.length ≤ 3) → ws.length ≤ 72 → ws ≠ [] → (∃ i, i < gs.length ∧ kindAt gs i ≠ "in" ∧ kindAt gs i ≠ "out") → Dr wl H H' → H lg = none → H lw = none → lg ≠ lw → LG K H' lg gs → LW K H' lw ws → H' p = some (.tup [.ref lg, .ref lw]) → Q (.ref p) H'
section
variable {P : Program} {w : World} {K : PySem.W.Frag} {mg : Str → Option Value} {base : Heap}
abbrev nLParts : List Str := ["_law_state", "_law_most", "_law_gates_here", "_law_ins", "_law_inner", "_law_wires_here", "_law_many", "_law_turn", "_law_start", "_law_end", "_law_stock"]
theorem scLParts : FnScope nLParts ["_law_state", "_law_most"] (defScope sLParts) := ⟨rfl, rfl, rfl, by decide +kernel, rfl, by decide +kernel, by decide +kernel⟩
abbrev DLParts (P : Program) (w : World) (K : PySem.W.Frag) (mg : Str → Option Value) (base : Heap) := Df P w K mg base 4 "_law_parts" ["_law_state", "_law_most"] (spLParts K)
def rotE : TE := tTup (tCons (tOp (rI (fun _ j => 0 < j) fun i j => .int (i % j)) (tOp (rI0 fun i j => .int (i - j)) (tVar 8) (tVar 7)) (tVar 6)) (tCons (tOp (rI (fun _ j => 0 < j) fun i j => .int (i % j)) (tOp (rI0 fun i j => .int (i - j)) (tVar 9) (tVar 7)) (tVar 6)) (tCons (tVar 10) tNil)))
theorem ok_lparts {f fD fG fW : Addr} {fd fdD fdG fdW : FuncData} (F : Fun K "_law_parts" "_law_parts" sLParts f fd) (hm : mg "_law_parts" = some (.ref f)) (B : Bt mg) (DD : DDraw P w K mg base fD fdD) (DG : DGates P w K mg base fG fdG) (DW : DLWires P w K mg base fW fdW) : DLParts P w K mg base f fd := by
  refine ⟨?_, hm, F.kp, F.binds fun _ _ _ _ _ _ us hl => match us, hl with | [_, _], _ => rfl⟩
  refine F.ok scLParts (fun vs H Q E h => ?_) (fun cdv A outer s H vs Q E hr h => ?_)
  · obtain ⟨wl, m, rfl, _⟩ := h
    rfl
  · obtain ⟨wl, m, rfl, hm0, hm1, hw, q⟩ := h
    have nd := scLParts.nd
    have hr2 : Room 2 _ := hr.mono (by decide)
    have hr1 : Room 1 _ := hr.mono (by decide)
    refine ⟨_, pss_cons (ps_asg (pe_call DG.ok hr2 (by rfl) DG.mg DG.kp DG.bd .nil pass0 (pa_cons (pv 0) (pa_cons (pv 1) pa_nil))) (pg_tup (by rfl) (pgs_cons (pg_name (i := 2) nd rfl (.inl rfl)) (pgs_cons (pg_name (i := 3) nd rfl (.inl rfl)) (pgs_cons (pg_name (i := 4) nd rfl (.inl rfl)) pgs_nil))))) <|
      pss_cons (ps_set (i := 5) nd rfl (.inl rfl) (pe_call DW.ok hr (by rfl) DW.mg DW.kp DW.bd .nil pass0 (pa_cons (pv 0) (pa_cons (pv 2) (pa_cons (pv 3) (pa_cons (pv 4) pa_nil)))))) <|
      pss_cons (ps_set (i := 6) nd rfl (.inr rfl) (pe_callB call_len_seq (by rfl) B.len PySem.boot_len (pa_cons (pv 2) pa_nil))) <|
      pss_cons (ps_set (i := 7) nd rfl (.inr rfl) (pe_call DD.ok hr1 (by rfl) DD.mg DD.kp DD.bd .nil pass0 (pa_cons (pv 0) (pa_cons (pv 6) pa_nil)))) <|
      pss_cons (ps_setLc (i := 5) (own := [("_law_start", 8), ("_law_end", 9), ("_law_stock", 10)]) (g := gTup K 3 (gCons (gName 8) (gCons (gName 9) (gCons (gName 10) gNil)))) (tt := tYes) (te := rotE) rfl nd rfl rfl (sw_true rfl rfl rfl (by decide +kernel)) (pi_list (pv 5)) (blkOk_by (N := nLParts) (sc := defScope sLParts) (own := [("_law_start", 8), ("_law_end", 9), ("_law_stock", 10)]) (by decide +kernel))
          (fun _ _ _ _ _ => pg_tup rfl (pgs_cons (pg_name (i := 8) nd rfl (.inl rfl)) (pgs_cons (pg_name (i := 9) nd rfl (.inl rfl)) (pgs_cons (pg_name (i := 10) nd rfl (.inl rfl)) pgs_nil)))) (fun _ _ _ _ _ => pts_nil)
          (fun _ _ _ _ _ => pe_tup (pa_cons (pe_op op_mod (pe_op op_sub (pv 8) (pv 7)) (pv 6)) (pa_cons (pe_op op_mod (pe_op op_sub (pv 9) (pv 7)) (pv 6)) (pa_cons (pv 10) pa_nil))))) <|
      Evl.pss_cut (ps_if (pt_cmpR op_eq (pe_call DD.ok hr1 (by rfl) DD.mg DD.kp DD.bd .nil pass0 (pa_cons (pv 0) (pa_cons pe_int pa_nil))) pe_int (nomark _)) (pss_one (ps_expr (pe_bm0 PySem.F.plainAttrs_list PySem.F.slot_list_reverse PySem.F.type_list_reverse mt_reverse (pv 5)))) pss_nil) <|
      pss_one <| ps_ret <| pe_tup <| pa_cons (pe_op op_cat (pe_slice sl_list (pv 2) (po_some (pv 7)) po_none) (pe_slice sl_list (pv 2) po_none (po_some (pv 7)))) <| pa_cons (pv 5) pa_nil, ?_⟩
    refine ⟨_, rfl, _, rfl, wl, m, rfl, hm0, hm1, hw, fun t1 lg0 gs a b H1 E1 et1 hlg0 G1 gsh hbm => ?_⟩
    refine ⟨t1, _, rfl, .inl (.inl et1), rfl, _, _, rfl, _, _, rfl, _, _, rfl, rfl, ?_⟩
    obtain ⟨gl1, gl2⟩ := gsh.len
    have ha2 := gsh.a2
    have hb1 := gsh.b1
    have hb2 := gsh.b2
    have nlg0 : lg0 ≠ wl := (hw.ne hlg0).symm
    refine ⟨_, rfl, _, rfl, _, rfl, _, rfl, wl, lg0, gs, a, b, rfl, E1.well, nlg0, G1, gsh, fun lw0 ws H2 E2 hlw0 W2 wi => ?_⟩
    have nlw0 : lw0 ≠ wl := (E1.well.ne hlw0).symm
    have D2 := E1.trans E2
    have G2 := G1.dr nlg0 E1.well E2
    have gne : gs ≠ [] := fun z => by
      rw [z] at gl1
      simp at gl1
    have N := wi.net gne (by omega) gsh.gok
    have hwl := wi.len
    obtain ⟨gv, hgv, ga⟩ := id G2
    have hlg : gv.length = gs.length := ga.1
    refine ⟨_, rfl, lg0, gv, rfl, .inl (SqL.of hgv), ?_⟩
    refine ⟨_, rfl, _, rfl, wl, _, rfl, by omega, by omega, E2.well, fun d H3 d0 d1 E3 => ?_⟩
    obtain ⟨t, rfl⟩ : ∃ t : Nat, d = (t : Int) := ⟨d.toNat, by omega⟩
    have ht : t < gs.length := by omega
    have D3 := D2.trans E3
    have hgv3 := E3.but _ _ nlg0 hgv
    have ga3 := ga.imp fun _ _ r => r.tk (TK.dr E2.well E3.but)
    obtain ⟨wv, hwv, wa⟩ := W2.dr nlw0 E2.well E3
    have hlw : wv.length = ws.length := wa.1
    refine gn_norm (σ' := [some (.ref wl), some (.int m), some (.ref lg0), some (.int (a : Nat)), some (.int (b : Nat)), some (.ref lw0), some (.int (gv.length : Nat)), some (.int (t : Nat)), none, none, none]) rfl ?_
    -- numbered anew
    refine ⟨_, rfl, lw0, rfl, ⟨_, SqL.of hwv⟩, fun lw hlw' => ?_⟩
    have nlw : lw ≠ wl := (E3.well.ne hlw').symm
    have hlwH : H lw = none := D3.free hw hlw'
    refine lc_list (K := K) (a := lw0) (xs := wv) (fun i Hc => ∃ acc, Hc lw = some (.lst acc) ∧ acc.length = i ∧ All2 (WireV K Hc) acc ((ws.take i).map fun x => ((rotL gs.length t).idxOf x.1, (rotL gs.length t).idxOf x.2.1, x.2.2)) ∧ Same H3 Hc) ⟨[], upd_same, rfl, by simpa using All2.nil, same_new hlw'⟩ (fun i Hc _ ⟨_, _, _, _, sm⟩ => SqL.of (sm _ _ hwv)) ?_ ?_
    · rintro i v Hc hv ⟨acc, hacc, hal, haa, sm⟩
      obtain ⟨x, hx, a', b', rfl, sq1, sq2⟩ := wa.get hv
      have hi : i < ws.length := (List.getElem?_eq_some_iff.mp hx).1
      have WX := N.wok x (List.mem_of_getElem? hx)
      have tk := TK.same sm
      refine ⟨a', _, rfl, tk.seq sq1, rfl, _, _, rfl, _, _, rfl, _, _, rfl, rfl, rfl, tyes ?_⟩
      refine ⟨_, rfl, _, rfl, _, _, rfl, rfl, _, rfl, _, _, rfl, rfl, (by show (0 : Int) < ((gv.length : Nat) : Int); omega), ?_⟩
      refine ⟨_, rfl, _, rfl, _, _, rfl, rfl, _, rfl, _, _, rfl, rfl, (by show (0 : Int) < ((gv.length : Nat) : Int); omega), _, rfl, (by show 3 ≤ sizeLine; decide), fun p hp => ?_⟩
      have sp : Same Hc (upd Hc p (.tup [.int ((((x.1 : Nat) : Int) - ((t : Nat) : Int)) % ((gv.length : Nat) : Int)), .int ((((x.2.1 : Nat) : Int) - ((t : Nat) : Int)) % ((gv.length : Nat) : Int)), .ref b'])) := same_new hp
      refine ⟨acc, sp _ _ hacc, small1000 (by omega), acc ++ [.ref p], upd_same, by simp [hal], ?_, same_mut (sm.trans sp) hlw'⟩
      rw [List.take_add_one, hx, List.map_append]
      refine All2.pushT (fun t r => WireV.tk t r) haa (sp _ _ hacc) (TK.same sp) ⟨p, b', rfl, .inl (.inl ?_), (TK.same (sm.trans sp)).seq sq2⟩
      rw [upd_same]
      show some (HO.tup [V.int _, V.int _, V.ref b']) = some (HO.tup [V.int _, V.int _, V.ref b'])
      rw [rot_idx ht WX.s, rot_idx ht WX.e, hlg]
    rintro H4 ⟨acc, hacc, hal, haa, s4⟩
    rw [hlw, List.take_length] at haa
    have D4 : Dr wl H H4 := D3.trans ⟨But.same s4, D3.well.same s4⟩
    have hne : ws ≠ [] := fun z => by
      have hk := (gsh.kind (i := a + b) (by omega)).2.2 (Nat.le_refl _)
      have := N.one (a + b) (by omega) hk
      rw [z] at this
      cases this
    have hinner : ∃ i, i < (gs.drop t ++ gs.take t).length ∧ kindAt (gs.drop t ++ gs.take t) i ≠ "in" ∧ kindAt (gs.drop t ++ gs.take t) i ≠ "out" := by
      have hk := (gsh.kind (i := a) (by omega)).2.1 (Nat.le_refl _) (by omega)
      have hmem : gs[a]'(by omega) ∈ gs.drop t ++ gs.take t := by
        have : gs[a]'(by omega) ∈ gs.take t ++ gs.drop t := by
          rw [List.take_append_drop]
          exact List.getElem_mem _
        rcases List.mem_append.mp this with h | h
        · exact List.mem_append.mpr (.inr h)
        · exact List.mem_append.mpr (.inl h)
      obtain ⟨i, hi⟩ := List.getElem?_of_mem hmem
      refine ⟨i, (List.getElem?_eq_some_iff.mp hi).1, ?_⟩
      rw [kindAt_get hi, ← kindAt_i]
      exact hk
    refine gn_norm (σ' := [some (.ref wl), some (.int m), some (.ref lg0), some (.int (a : Nat)), some (.int (b : Nat)), some (.ref lw), some (.int (gv.length : Nat)), some (.int (t : Nat)), none, none, none]) rfl ?_
    -- turned about, perhaps
    refine ⟨fun σ H' => ∃ (acc : List V) (us : List Wr), σ = [some (.ref wl), some (.int m), some (.ref lg0), some (.int (a : Nat)), some (.int (b : Nat)), some (.ref lw), some (.int (gv.length : Nat)), some (.int (t : Nat)), none, none, none] ∧ us.Perm ws ∧ H' lw = some (.lst acc) ∧ All2 (WireV K H') acc (us.map fun x => ((rotL gs.length t).idxOf x.1, (rotL gs.length t).idxOf x.2.1, x.2.2)) ∧ Dr wl H H' ∧ H' lg0 = some (.lst gv) ∧ All2 (GateV K H') gv gs, ?_, ?_⟩
    · refine ⟨_, rfl, wl, 2, rfl, by decide, by decide, D4.well, fun z H5 z0 z1 E5 => ?_⟩
      have D5 := D4.trans E5
      have h5 := E5.but _ _ nlw hacc
      have a5 := haa.imp fun _ _ r => r.tk (TK.dr D4.well E5.but)
      have g5 := E5.but _ _ nlg0 (s4 _ _ hgv3)
      have ga5 := (ga3.imp fun _ _ r => r.tk (TK.same s4)).imp fun _ _ r => r.tk (TK.dr D4.well E5.but)
      refine ⟨rfl, _, rfl, ite2 (fun e => ?_) (fun e => ⟨acc, ws, rfl, .refl _, h5, a5, D5, g5, ga5⟩)⟩
      have ngw : lg0 ≠ lw := ne_of_none hgv3 hlw'
      refine ⟨_, rfl, .inl ⟨rfl, _, SqL.of h5⟩, lw, _, rfl, rfl, h5, acc.reverse, ws.reverse, rfl, List.reverse_perm _, upd_same, ?_, set_well D5 hlwH nlw, by rw [upd_ne ngw]; exact g5, ga5.imp fun _ _ r => r.tk (TK.lst h5)⟩
      rw [List.map_reverse]
      exact (a5.imp fun _ _ r => r.tk (TK.lst h5)).reverse
    rintro σ H5 ⟨acc5, us, rfl, hp, hacc5, haa5, D5, hgv5, ga5⟩
    have NA := N.anew (rot_perm gs.length t) hp
    rw [rot_map] at NA
    refine ⟨_, rfl, _, rfl, _, rfl, lg0, gv, rfl, SqL.of hgv5, fun l6 hl6 => ?_⟩
    have s6 : Same H5 (upd H5 l6 (.lst (cutV gv (some ((t : Nat) : Int)) none))) := same_new hl6
    have el6 : (upd H5 l6 (.lst (cutV gv (some ((t : Nat) : Int)) none))) l6 = some (.lst (gv.drop t)) := by rw [upd_same, cut_from]
    generalize upd H5 l6 (.lst (cutV gv (some ((t : Nat) : Int)) none)) = H6 at s6 el6
    refine ⟨_, rfl, _, rfl, _, rfl, lg0, gv, rfl, SqL.of (s6 _ _ hgv5), fun l7 hl7 => ?_⟩
    have s7 : Same H6 (upd H6 l7 (.lst (cutV gv none (some ((t : Nat) : Int))))) := same_new hl7
    have el7 : (upd H6 l7 (.lst (cutV gv none (some ((t : Nat) : Int))))) l7 = some (.lst (gv.take t)) := by rw [upd_same, cut_to]
    generalize upd H6 l7 (.lst (cutV gv none (some ((t : Nat) : Int)))) = H7 at s7 el7
    refine ⟨l6, l7, _, _, rfl, rfl, s7 _ _ el6, el7, ?_, fun l8 hl8 => ?_⟩
    · rw [List.length_drop, List.length_take]
      exact Nat.le_of_lt (small1000 (by omega))
    have s8 : Same H7 (upd H7 l8 (.lst (gv.drop t ++ gv.take t))) := same_new hl8
    have el8 : (upd H7 l8 (.lst (gv.drop t ++ gv.take t))) l8 = some (.lst (gv.drop t ++ gv.take t)) := upd_same
    generalize upd H7 l8 (.lst (gv.drop t ++ gv.take t)) = H8 at s8 el8
    have t8 := s6.trans (s7.trans s8)
    have hl8H : H l8 = none := D5.free hw ((s6.trans s7).free hl8)
    have nl8 : l8 ≠ lw := fun z => by
      rw [z, (s6.trans s7) _ _ hacc5] at hl8
      cases hl8
    refine ⟨_, rfl, (by show 2 ≤ sizeLine; decide), fun p hp' => ?_⟩
    have s9 := t8.trans (same_new (o := .tup [.ref l8, .ref lw]) hp')
    have ga9 := ga5.imp fun _ _ r => r.tk (TK.same s9)
    have rl : ∀ x ∈ us.map (fun x : Wr => ((rotL gs.length t).idxOf x.1, (rotL gs.length t).idxOf x.2.1, x.2.2)), x.2.2.length ≤ 3 := fun y hy => by
      obtain ⟨x, hx, rfl⟩ := List.mem_map.mp hy
      exact wi.r2 x (hp.mem_iff.mp hx)
    refine q _ _ l8 lw p _ NA ?_ ?_ ?_ ?_ rl ?_ ?_ hinner (D5.trans ⟨But.same s9, D5.well.same s9⟩) hl8H hlwH nl8 ⟨_, same_new hp' _ _ el8, (ga9.drop t).append (ga9.take t)⟩ ⟨acc5, s9 _ _ hacc5, haa5.imp fun _ _ r => r.tk (TK.same s9)⟩ upd_same
    · rw [List.length_append, List.length_drop, List.length_take]
      omega
    · rw [List.length_append, List.length_drop, List.length_take]
      omega
    · have := nInn_rot gs t
      have := gsh.inn
      omega
    · rw [List.length_map, hp.length_eq, List.length_append, List.length_drop, List.length_take]
      omega
    · rw [List.length_map, hp.length_eq]
      omega
    · intro z
      have := List.map_eq_nil_iff.mp z
      rw [this] at hp
      exact hne hp.nil_eq.symm
end
end Lag

set_option maxRecDepth 100000
set_option maxHeartbeats 4000000
namespace Lag
open PySem PySem.Spec PyProof.Rows L2
theorem ints_get : ∀ {its : List Value} {ns : List Int}, IntsAre its ns → ∀ {i : Nat} {v : Value}, its[i]? = some v → ∃ (z : Int) (t : Tok), v = .int z t ∧ ns[i]? = some z := by
  intro its ns h
  induction h with
  | nil => intro i v e; simp at e
  | cons n t _ ih =>
    intro i v e
    cases i with
    | zero =>
      simp at e
      exact ⟨n, t, e.symm, rfl⟩
    | succ i => exact ih (by simpa using e)
/-! ### max(xs, default=d) of whole numbers -/
section
variable {prog : Program} {w : World} {A : Around} {E : Value → Shared → Prop}
theorem dargs_max (a d : Value) : argsOk "max" ⟨[a], [(Str.ofString "default", d)]⟩ := by
  unfold argsOk
  kernel_rfl
/-- what is held while it goes on: nothing as yet, or the best of those that came -/
def Held_max (ns : List Int) (j : Nat) (its : Array Value) : Prop := (j = 0 ∧ its = #[]) ∨ (0 < j ∧ ∃ (m : Int) (t : Tok), its = #[.int m t, .int m t] ∧ m ∈ ns.take j ∧ ∀ y ∈ ns.take j, y ≤ m)
theorem dloop_max {R : Result → Shared → Prop} {I S : Addr} {fp wr : List Addr} {n : Nat} {Pv : Nat → Value → Prop} {St : Nat → Heap → Prop} {ns : List Int} {d : Value} (W : Walks prog w A.in1 I fp wr n Pv St) (hSf : S ∉ fp) (hn : ns.length = n)
    (hP : ∀ i v, Pv i v → ∃ (z : Int) (t : Tok), v = .int z t ∧ ns[i]? = some z) :
    ∀ (k j : Nat) (s : Shared) (its : Array Value) (c : Nat), n - j = k → j ≤ n → St j s.heap → s.heap.get? S = some { cls := .type "list", data := .seq its c } → Held_max ns j its →
    (∀ h' tk, (∀ b o, b ∉ wr → b ≠ S → s.heap.get? b = some o → h'.get? b = some o) → (ns = [] → R (.ok (.ret d)) { s with heap := h', toks := tk }) ∧ ∀ m t, m ∈ ns → (∀ y ∈ ns, y ≤ m) → R (.ok (.ret (.int m t))) { s with heap := h', toks := tk }) →
    codeAny (model prog w) A (.builtin "max.loop" ⟨[.ref I, .none, .ref S], [(Str.ofString "default", d)]⟩) R s := by
  have nSw : S ∉ wr := fun z => hSf (W.sub S z)
  have hnm : (toString "max" ++ toString ".loop" : String) = "max.loop" := by decide
  intro k
  induction k with
  | zero =>
    intro j s its c hk hj st hS hh hR
    have ej : j = n := by omega
    subst ej
    refine codeAny_builtin PySem.F.entry_max_loop ?_
    rw [Around.under_plainId PySem.F.plain_max_loop _]
    show wpAny _ A.in1 (seqItems? (.ref S) >>= _) _ _ s
    refine wpAny_bind (wpAny_seqItems hS rfl ?_)
    show wpAny _ A.in1 (tryCatch (pyNext (.ref I)) _ >>= _) _ _ s
    refine wpAny_bind (wpAny_tryCatch (W.done s _ _ st fun h' tk kp => ?_))
    have hS' := kp S _ nSw hS
    rcases hh with ⟨h0, rfl⟩ | ⟨h0, m, t, rfl, hm, hb⟩
    · refine wpAny_bind (wpAny_rule (wpAny_pure ?_))
      exact (hR h' tk fun b o nb _ e => kp b o nb e).1 (List.length_eq_zero_iff.mp (by omega))
    · show wpAny _ A.in1 (updateSeq S (fun _ => #[]) >>= _) _ _ _
      refine wpAny_bind ?_
      refine wpAny_updateSeq hS' rfl (wpAny_bind (wpAny_letGo (wpAny_pure ?_)))
      rw [List.take_of_length_le (by omega)] at hm hb
      exact (hR _ tk fun b o nb nS e => (Heap.get?_update_other _ _ (Ne.symm nS)).trans (kp b o nb e)).2 m t hm hb
  | succ k ih =>
    intro j s its c hk hj st hS hh hR
    have lt : j < n := by omega
    refine codeAny_builtin PySem.F.entry_max_loop ?_
    rw [Around.under_plainId PySem.F.plain_max_loop _]
    show wpAny _ A.in1 (seqItems? (.ref S) >>= _) _ _ s
    refine wpAny_bind (wpAny_seqItems hS rfl ?_)
    show wpAny _ A.in1 (tryCatch (pyNext (.ref I)) _ >>= _) _ _ s
    refine wpAny_bind (wpAny_tryCatch (W.item j s _ _ lt st fun v h' tk pv st' kp => ?_))
    have hS' := kp S _ nSw hS
    obtain ⟨z, tz, rfl, hz⟩ := hP j v pv
    have et : ns.take (j + 1) = ns.take j ++ [z] := by rw [List.take_add_one, hz]; rfl
    rcases hh with ⟨h0, rfl⟩ | ⟨h0, m, t, rfl, hm, hb⟩
    · show wpAny _ A.in1 (updateSeq S (fun _ => #[.int z tz, .int z tz]) >>= _) _ _ _
      refine wpAny_bind ?_
      refine wpAny_updateSeq hS' rfl ?_
      rw [hnm]
      refine wpAny_pure ⟨plainId_quiet PySem.F.plain_max_loop _, ih (j + 1) _ _ _ (by omega) lt (W.frame _ _ _ st' fun b hbf o e => (Heap.get?_update_other _ _ (fun q : S = b => hSf (by rw [q]; exact hbf))).trans e) (Heap.get?_update_self _ hS' rfl) (.inr ⟨by omega, z, tz, rfl, ?_, ?_⟩) fun h'' tk'' kp'' => ?_⟩
      · rw [et]; simp
      · subst h0
        rw [et]
        intro y hy
        simp at hy
        subst hy
        exact Int.le_refl _
      · exact hR h'' tk'' fun b o nb nS e => kp'' b o nb nS ((Heap.get?_update_other _ _ (Ne.symm nS)).trans (kp b o nb e))
    · show wpAny _ A.in1 (tryCatch (holding [.int z tz, .int z tz] (richCompare .Gt (.int z tz) (.int m t) >>= _)) _ >>= _) _ _ _
      refine wpAny_bind (wpAny_tryCatch (wpAny_holding (wpAny_bind (CmpOf.ints_gt (P := fun i v => ∃ t, v = Value.int (if i = 0 then z else m) t) (fun i => if i = 0 then z else m) (fun _ _ h => h) 0 1 _ _ _ _ _ ⟨tz, rfl⟩ ⟨t, rfl⟩ ?_))))
      refine wpAny_bind (wpAny_holding (wpAny_truthy_bool ?_))
      refine wpAny_bind (wpAny_letGo (wpAny_pure ?_))
      show wpAny _ A.in1 (if decide (z > m) = true then _ else _) _ _ _
      by_cases hzm : z > m
      · rw [if_pos (decide_eq_true hzm)]
        refine wpAny_bind ?_
        refine wpAny_updateSeq hS' rfl (wpAny_bind (wpAny_letGo ?_))
        rw [hnm]
        refine wpAny_pure ⟨plainId_quiet PySem.F.plain_max_loop _, ih (j + 1) _ _ _ (by omega) lt (W.frame _ _ _ st' fun b hbf o e => (Heap.get?_update_other _ _ (fun q : S = b => hSf (by rw [q]; exact hbf))).trans e) (Heap.get?_update_self _ hS' rfl) (.inr ⟨by omega, z, tz, rfl, ?_, ?_⟩) fun h'' tk'' kp'' => ?_⟩
        · rw [et]; simp
        · rw [et]
          intro y hy
          rcases List.mem_append.mp hy with hy | hy
          · have := hb y hy
            omega
          · simp at hy
            omega
        · exact hR h'' tk'' fun b o nb nS e => kp'' b o nb nS ((Heap.get?_update_other _ _ (Ne.symm nS)).trans (kp b o nb e))
      · rw [if_neg (by rw [decide_eq_false hzm]; decide)]
        refine wpAny_bind (wpAny_letGo ?_)
        rw [hnm]
        refine wpAny_pure ⟨plainId_quiet PySem.F.plain_max_loop _, ih (j + 1) _ _ c (by omega) lt st' hS' (.inr ⟨by omega, m, t, rfl, ?_, ?_⟩) fun h'' tk'' kp'' => ?_⟩
        · rw [et]; exact List.mem_append_left _ hm
        · rw [et]
          intro y hy
          rcases List.mem_append.mp hy with hy | hy
          · exact hb y hy
          · simp at hy
            omega
        · exact hR h'' tk'' fun b o nb nS e => kp'' b o nb nS (kp b o nb e)
theorem dcall_max {s : Shared} {l : Addr} {items : Array Value} {ns : List Int} {d : Value} {Q : Value → Shared → Prop} (hh : A.handled = none) (hl : s.heap.IsList l items) (hi : IntsAre items.toList ns)
    (h : ∀ h' tk, (∀ b o, s.heap.get? b = some o → h'.get? b = some o) → (ns = [] → Q d { s with heap := h', toks := tk }) ∧ ∀ m t, m ∈ ns → (∀ y ∈ ns, y ≤ m) → Q (.int m t) { s with heap := h', toks := tk }) :
    wpAny (model prog w) A (call (.builtin "max") [.ref l] [(Str.ofString "default", d)]) Q E s := by
  have hnm : (toString "max" ++ toString ".loop" : String) = "max.loop" := by decide
  have hlt : l < s.heap.objs.size := by obtain ⟨_, e, _⟩ := hl; exact Heap.lt_size e
  refine PyProof.Rows.kmk_tree PySem.F.kind_max PySem.F.plain_max PySem.F.entry_max (dargs_max _ _) ?_
  show wpAny _ A.in1 (Builtin.Builtins.bindParams "max" ["key", "default"] 0 ⟨[], [(Str.ofString "default", d)]⟩ >>= _) _ _ s
  refine wpAny_bind (wpAny_of_eq (show Builtin.Builtins.bindParams "max" ["key", "default"] 0 ⟨[], [(Str.ofString "default", d)]⟩ = pure [none, some d] from rfl) ?_)
  refine wpAny_bind (wpAny_pure ?_)
  refine wpAny_bind (wpAny_pyIter_list hl ?_)
  refine wpAny_bind (wpAny_newList ?_ (Nat.zero_le _))
  rw [hnm]
  have W := Walks.list (prog := prog) (w := w) (A := A.in1) hh s.heap.objs.size l (Nat.ne_of_lt hlt) items
  have e1 : (s.heap.push { cls := .type "list_iterator", data := .fields #[.ref l, .int 0 0] }).objs.size = s.heap.objs.size + 1 := Heap.size_push ..
  refine wpAny_pure ⟨plainId_quiet PySem.F.plain_max_loop _, dloop_max (ns := ns) W (fun q => ?_) ?_ (fun i v hv => ?_) items.size 0 _ #[] _ (by omega) (Nat.zero_le _) ?_ (Heap.get?_push_size _ rfl) (.inl ⟨rfl, rfl⟩) fun h' tk kp => ?_⟩
  · rw [e1] at q
    rcases List.mem_cons.mp q with q | q
    · exact Nat.succ_ne_self _ q
    · have q := List.mem_singleton.mp q
      rw [← q] at hlt
      exact Nat.not_lt.mpr (Nat.le_succ _) hlt
  · rw [← hi.length]
    simp
  · obtain ⟨z, t, e2, e3⟩ := ints_get hi (show items.toList[i]? = some v by simpa using hv)
    exact ⟨z, t, e2, e3⟩
  · exact ⟨⟨_, Heap.get?_push_of_some _ (Heap.get?_push_size _ rfl), rfl, rfl⟩, (hl.push _).push _⟩
  · refine h h' tk fun b o e => ?_
    have hb := Heap.lt_size e
    refine kp b o (fun q => ?_) (fun q => ?_) (Heap.get?_push_of_some _ (Heap.get?_push_of_some _ e))
    · rw [List.mem_singleton.mp q] at hb
      exact Nat.lt_irrefl _ hb
    · rw [q, e1] at hb
      exact Nat.not_lt.mpr (Nat.le_succ _) hb
end
/-! ### min(xs, default=d) of whole numbers -/
section
variable {prog : Program} {w : World} {A : Around} {E : Value → Shared → Prop}
theorem dargs_min (a d : Value) : argsOk "min" ⟨[a], [(Str.ofString "default", d)]⟩ := by
  unfold argsOk
  kernel_rfl
/-- what is held while it goes on: nothing as yet, or the best of those that came -/
def Held_min (ns : List Int) (j : Nat) (its : Array Value) : Prop := (j = 0 ∧ its = #[]) ∨ (0 < j ∧ ∃ (m : Int) (t : Tok), its = #[.int m t, .int m t] ∧ m ∈ ns.take j ∧ ∀ y ∈ ns.take j, m ≤ y)
theorem dloop_min {R : Result → Shared → Prop} {I S : Addr} {fp wr : List Addr} {n : Nat} {Pv : Nat → Value → Prop} {St : Nat → Heap → Prop} {ns : List Int} {d : Value} (W : Walks prog w A.in1 I fp wr n Pv St) (hSf : S ∉ fp) (hn : ns.length = n)
    (hP : ∀ i v, Pv i v → ∃ (z : Int) (t : Tok), v = .int z t ∧ ns[i]? = some z) :
    ∀ (k j : Nat) (s : Shared) (its : Array Value) (c : Nat), n - j = k → j ≤ n → St j s.heap → s.heap.get? S = some { cls := .type "list", data := .seq its c } → Held_min ns j its →
    (∀ h' tk, (∀ b o, b ∉ wr → b ≠ S → s.heap.get? b = some o → h'.get? b = some o) → (ns = [] → R (.ok (.ret d)) { s with heap := h', toks := tk }) ∧ ∀ m t, m ∈ ns → (∀ y ∈ ns, m ≤ y) → R (.ok (.ret (.int m t))) { s with heap := h', toks := tk }) →
    codeAny (model prog w) A (.builtin "min.loop" ⟨[.ref I, .none, .ref S], [(Str.ofString "default", d)]⟩) R s := by
  have nSw : S ∉ wr := fun z => hSf (W.sub S z)
  have hnm : (toString "min" ++ toString ".loop" : String) = "min.loop" := by decide
  intro k
  induction k with
  | zero =>
    intro j s its c hk hj st hS hh hR
    have ej : j = n := by omega
    subst ej
    refine codeAny_builtin PySem.F.entry_min_loop ?_
    rw [Around.under_plainId PySem.F.plain_min_loop _]
    show wpAny _ A.in1 (seqItems? (.ref S) >>= _) _ _ s
    refine wpAny_bind (wpAny_seqItems hS rfl ?_)
    show wpAny _ A.in1 (tryCatch (pyNext (.ref I)) _ >>= _) _ _ s
    refine wpAny_bind (wpAny_tryCatch (W.done s _ _ st fun h' tk kp => ?_))
    have hS' := kp S _ nSw hS
    rcases hh with ⟨h0, rfl⟩ | ⟨h0, m, t, rfl, hm, hb⟩
    · refine wpAny_bind (wpAny_rule (wpAny_pure ?_))
      exact (hR h' tk fun b o nb _ e => kp b o nb e).1 (List.length_eq_zero_iff.mp (by omega))
    · show wpAny _ A.in1 (updateSeq S (fun _ => #[]) >>= _) _ _ _
      refine wpAny_bind ?_
      refine wpAny_updateSeq hS' rfl (wpAny_bind (wpAny_letGo (wpAny_pure ?_)))
      rw [List.take_of_length_le (by omega)] at hm hb
      exact (hR _ tk fun b o nb nS e => (Heap.get?_update_other _ _ (Ne.symm nS)).trans (kp b o nb e)).2 m t hm hb
  | succ k ih =>
    intro j s its c hk hj st hS hh hR
    have lt : j < n := by omega
    refine codeAny_builtin PySem.F.entry_min_loop ?_
    rw [Around.under_plainId PySem.F.plain_min_loop _]
    show wpAny _ A.in1 (seqItems? (.ref S) >>= _) _ _ s
    refine wpAny_bind (wpAny_seqItems hS rfl ?_)
    show wpAny _ A.in1 (tryCatch (pyNext (.ref I)) _ >>= _) _ _ s
    refine wpAny_bind (wpAny_tryCatch (W.item j s _ _ lt st fun v h' tk pv st' kp => ?_))
    have hS' := kp S _ nSw hS
    obtain ⟨z, tz, rfl, hz⟩ := hP j v pv
    have et : ns.take (j + 1) = ns.take j ++ [z] := by rw [List.take_add_one, hz]; rfl
    rcases hh with ⟨h0, rfl⟩ | ⟨h0, m, t, rfl, hm, hb⟩
    · show wpAny _ A.in1 (updateSeq S (fun _ => #[.int z tz, .int z tz]) >>= _) _ _ _
      refine wpAny_bind ?_
      refine wpAny_updateSeq hS' rfl ?_
      rw [hnm]
      refine wpAny_pure ⟨plainId_quiet PySem.F.plain_min_loop _, ih (j + 1) _ _ _ (by omega) lt (W.frame _ _ _ st' fun b hbf o e => (Heap.get?_update_other _ _ (fun q : S = b => hSf (by rw [q]; exact hbf))).trans e) (Heap.get?_update_self _ hS' rfl) (.inr ⟨by omega, z, tz, rfl, ?_, ?_⟩) fun h'' tk'' kp'' => ?_⟩
      · rw [et]; simp
      · subst h0
        rw [et]
        intro y hy
        simp at hy
        subst hy
        exact Int.le_refl _
      · exact hR h'' tk'' fun b o nb nS e => kp'' b o nb nS ((Heap.get?_update_other _ _ (Ne.symm nS)).trans (kp b o nb e))
    · show wpAny _ A.in1 (tryCatch (holding [.int z tz, .int z tz] (richCompare .Lt (.int z tz) (.int m t) >>= _)) _ >>= _) _ _ _
      refine wpAny_bind (wpAny_tryCatch (wpAny_holding (wpAny_bind (CmpOf.ints_lt (P := fun i v => ∃ t, v = Value.int (if i = 0 then z else m) t) (fun i => if i = 0 then z else m) (fun _ _ h => h) 0 1 _ _ _ _ _ ⟨tz, rfl⟩ ⟨t, rfl⟩ ?_))))
      refine wpAny_bind (wpAny_holding (wpAny_truthy_bool ?_))
      refine wpAny_bind (wpAny_letGo (wpAny_pure ?_))
      show wpAny _ A.in1 (if decide (z < m) = true then _ else _) _ _ _
      by_cases hzm : z < m
      · rw [if_pos (decide_eq_true hzm)]
        refine wpAny_bind ?_
        refine wpAny_updateSeq hS' rfl (wpAny_bind (wpAny_letGo ?_))
        rw [hnm]
        refine wpAny_pure ⟨plainId_quiet PySem.F.plain_min_loop _, ih (j + 1) _ _ _ (by omega) lt (W.frame _ _ _ st' fun b hbf o e => (Heap.get?_update_other _ _ (fun q : S = b => hSf (by rw [q]; exact hbf))).trans e) (Heap.get?_update_self _ hS' rfl) (.inr ⟨by omega, z, tz, rfl, ?_, ?_⟩) fun h'' tk'' kp'' => ?_⟩
        · rw [et]; simp
        · rw [et]
          intro y hy
          rcases List.mem_append.mp hy with hy | hy
          · have := hb y hy
            omega
          · simp at hy
            omega
        · exact hR h'' tk'' fun b o nb nS e => kp'' b o nb nS ((Heap.get?_update_other _ _ (Ne.symm nS)).trans (kp b o nb e))
      · rw [if_neg (by rw [decide_eq_false hzm]; decide)]
        refine wpAny_bind (wpAny_letGo ?_)
        rw [hnm]
        refine wpAny_pure ⟨plainId_quiet PySem.F.plain_min_loop _, ih (j + 1) _ _ c (by omega) lt st' hS' (.inr ⟨by omega, m, t, rfl, ?_, ?_⟩) fun h'' tk'' kp'' => ?_⟩
        · rw [et]; exact List.mem_append_left _ hm
        · rw [et]
          intro y hy
          rcases List.mem_append.mp hy with hy | hy
          · exact hb y hy
          · simp at hy
            omega
        · exact hR h'' tk'' fun b o nb nS e => kp'' b o nb nS (kp b o nb e)
theorem dcall_min {s : Shared} {l : Addr} {items : Array Value} {ns : List Int} {d : Value} {Q : Value → Shared → Prop} (hh : A.handled = none) (hl : s.heap.IsList l items) (hi : IntsAre items.toList ns)
    (h : ∀ h' tk, (∀ b o, s.heap.get? b = some o → h'.get? b = some o) → (ns = [] → Q d { s with heap := h', toks := tk }) ∧ ∀ m t, m ∈ ns → (∀ y ∈ ns, m ≤ y) → Q (.int m t) { s with heap := h', toks := tk }) :
    wpAny (model prog w) A (call (.builtin "min") [.ref l] [(Str.ofString "default", d)]) Q E s := by
  have hnm : (toString "min" ++ toString ".loop" : String) = "min.loop" := by decide
  have hlt : l < s.heap.objs.size := by obtain ⟨_, e, _⟩ := hl; exact Heap.lt_size e
  refine PyProof.Rows.kmk_tree PySem.F.kind_min PySem.F.plain_min PySem.F.entry_min (dargs_min _ _) ?_
  show wpAny _ A.in1 (Builtin.Builtins.bindParams "min" ["key", "default"] 0 ⟨[], [(Str.ofString "default", d)]⟩ >>= _) _ _ s
  refine wpAny_bind (wpAny_of_eq (show Builtin.Builtins.bindParams "min" ["key", "default"] 0 ⟨[], [(Str.ofString "default", d)]⟩ = pure [none, some d] from rfl) ?_)
  refine wpAny_bind (wpAny_pure ?_)
  refine wpAny_bind (wpAny_pyIter_list hl ?_)
  refine wpAny_bind (wpAny_newList ?_ (Nat.zero_le _))
  rw [hnm]
  have W := Walks.list (prog := prog) (w := w) (A := A.in1) hh s.heap.objs.size l (Nat.ne_of_lt hlt) items
  have e1 : (s.heap.push { cls := .type "list_iterator", data := .fields #[.ref l, .int 0 0] }).objs.size = s.heap.objs.size + 1 := Heap.size_push ..
  refine wpAny_pure ⟨plainId_quiet PySem.F.plain_min_loop _, dloop_min (ns := ns) W (fun q => ?_) ?_ (fun i v hv => ?_) items.size 0 _ #[] _ (by omega) (Nat.zero_le _) ?_ (Heap.get?_push_size _ rfl) (.inl ⟨rfl, rfl⟩) fun h' tk kp => ?_⟩
  · rw [e1] at q
    rcases List.mem_cons.mp q with q | q
    · exact Nat.succ_ne_self _ q
    · have q := List.mem_singleton.mp q
      rw [← q] at hlt
      exact Nat.not_lt.mpr (Nat.le_succ _) hlt
  · rw [← hi.length]
    simp
  · obtain ⟨z, t, e2, e3⟩ := ints_get hi (show items.toList[i]? = some v by simpa using hv)
    exact ⟨z, t, e2, e3⟩
  · exact ⟨⟨_, Heap.get?_push_of_some _ (Heap.get?_push_size _ rfl), rfl, rfl⟩, (hl.push _).push _⟩
  · refine h h' tk fun b o e => ?_
    have hb := Heap.lt_size e
    refine kp b o (fun q => ?_) (fun q => ?_) (Heap.get?_push_of_some _ (Heap.get?_push_of_some _ e))
    · rw [List.mem_singleton.mp q] at hb
      exact Nat.lt_irrefl _ hb
    · rw [q, e1] at hb
      exact Nat.not_lt.mpr (Nat.le_succ _) hb
end
/-! ### as rules -/
theorem fold_max : ∀ (ns : List Int) (d : Int), ns ≠ [] → (∀ y ∈ ns, d ≤ y) → ns.foldl max d ∈ ns ∧ ∀ y ∈ ns, y ≤ ns.foldl max d
  | [], _, h, _ => absurd rfl h
  | x :: r, d, _, hd => by
    rw [List.foldl_cons, Int.max_eq_right (hd x (List.mem_cons_self ..))]
    exact go r x
where
  go : ∀ (r : List Int) (x : Int), r.foldl max x ∈ x :: r ∧ ∀ y ∈ x :: r, y ≤ r.foldl max x
    | [], x => ⟨by simp, by simp⟩
    | z :: r, x => by
      obtain ⟨h1, h2⟩ := go r (max x z)
      rw [List.foldl_cons]
      constructor
      · rcases List.mem_cons.mp h1 with e | e
        · rw [e]
          by_cases hx : x ≤ z
          · rw [Int.max_eq_right hx]; simp
          · rw [Int.max_eq_left (by omega)]; simp
        · exact List.mem_cons_of_mem _ (List.mem_cons_of_mem _ e)
      · intro y hy
        have hm := h2 (max x z) (List.mem_cons_self ..)
        rcases List.mem_cons.mp hy with rfl | hy
        · omega
        · rcases List.mem_cons.mp hy with rfl | hy
          · omega
          · exact h2 y (List.mem_cons_of_mem _ hy)
theorem fold_min : ∀ (ns : List Int) (d : Int), ns ≠ [] → (∀ y ∈ ns, y ≤ d) → ns.foldl min d ∈ ns ∧ ∀ y ∈ ns, ns.foldl min d ≤ y
  | [], _, h, _ => absurd rfl h
  | x :: r, d, _, hd => by
    rw [List.foldl_cons, Int.min_eq_right (hd x (List.mem_cons_self ..))]
    exact go r x
where
  go : ∀ (r : List Int) (x : Int), r.foldl min x ∈ x :: r ∧ ∀ y ∈ x :: r, r.foldl min x ≤ y
    | [], x => ⟨by simp, by simp⟩
    | z :: r, x => by
      obtain ⟨h1, h2⟩ := go r (min x z)
      rw [List.foldl_cons]
      constructor
      · rcases List.mem_cons.mp h1 with e | e
        · rw [e]
          by_cases hx : x ≤ z
          · rw [Int.min_eq_left hx]; simp
          · rw [Int.min_eq_right (by omega)]; simp
        · exact List.mem_cons_of_mem _ (List.mem_cons_of_mem _ e)
      · intro y hy
        have hm := h2 (min x z) (List.mem_cons_self ..)
        rcases List.mem_cons.mp hy with rfl | hy
        · omega
        · rcases List.mem_cons.mp hy with rfl | hy
          · omega
          · exact h2 y (List.mem_cons_of_mem _ hy)
/-- max(xs, default=d), d no greater than any of xs -/
def rMaxW (K : PySem.W.Frag) : List V → List V → Hp → VK → Prop := fun vs zs H Q => ∃ (a : Addr) (ns : List Int) (d : Int), vs = [.ref a] ∧ zs = [.int d] ∧ SqL K H a (ns.map V.int) ∧ (∀ y ∈ ns, d ≤ y) ∧ Q (.int (ns.foldl max d)) H
def rMinW (K : PySem.W.Frag) : List V → List V → Hp → VK → Prop := fun vs zs H Q => ∃ (a : Addr) (ns : List Int) (d : Int), vs = [.ref a] ∧ zs = [.int d] ∧ SqL K H a (ns.map V.int) ∧ (∀ y ∈ ns, y ≤ d) ∧ Q (.int (ns.foldl min d)) H
theorem cr_maxW {X : Cx} (hc : X.calm = true) : CallRK X (.builtin "max") ["default"] (rMaxW X.K) := by
  intro pins s σ H vs zs us ws Q I r rz h
  obtain ⟨a, ns, d, rfl, rfl, hs, hd, q⟩ := h
  obtain ⟨its, rv, hl, _⟩ := I.list hs
  obtain ⟨u, rfl, ru⟩ := Vals.one rz
  obtain ⟨td, rfl⟩ := ru
  rw [Vals.ref1 r]
  refine dcall_max (I.ok.hd hc) hl.isList (by simpa using rv.ints) fun h' tk hk => ⟨fun e => ?_, fun m t hm hb => ?_⟩
  · subst e
    exact ⟨.int d, H, I.kept hk, ⟨_, rfl⟩, q⟩
  · have hne : ns ≠ [] := fun e => by rw [e] at hm; simp at hm
    obtain ⟨h1, h2⟩ := fold_max ns d hne hd
    have e : m = ns.foldl max d := Int.le_antisymm (h2 m hm) (hb _ h1)
    exact ⟨.int m, H, I.kept hk, ⟨_, rfl⟩, by rw [e]; exact q⟩
theorem cr_minW {X : Cx} (hc : X.calm = true) : CallRK X (.builtin "min") ["default"] (rMinW X.K) := by
  intro pins s σ H vs zs us ws Q I r rz h
  obtain ⟨a, ns, d, rfl, rfl, hs, hd, q⟩ := h
  obtain ⟨its, rv, hl, _⟩ := I.list hs
  obtain ⟨u, rfl, ru⟩ := Vals.one rz
  obtain ⟨td, rfl⟩ := ru
  rw [Vals.ref1 r]
  refine dcall_min (I.ok.hd hc) hl.isList (by simpa using rv.ints) fun h' tk hk => ⟨fun e => ?_, fun m t hm hb => ?_⟩
  · subst e
    exact ⟨.int d, H, I.kept hk, ⟨_, rfl⟩, q⟩
  · have hne : ns ≠ [] := fun e => by rw [e] at hm; simp at hm
    obtain ⟨h1, h2⟩ := fold_min ns d hne hd
    have e : m = ns.foldl min d := Int.le_antisymm (hb _ h1) (h2 m hm)
    exact ⟨.int m, H, I.kept hk, ⟨_, rfl⟩, by rw [e]; exact q⟩
end Lag

set_option maxRecDepth 100000
set_option maxHeartbeats 8000000
namespace Lag
open PySem PySem.Spec PyProof.Rows L2
abbrev sOuter : Stmt := topS 23 -- @is_outer
abbrev sCounts : Stmt := topS 34 -- @counts
abbrev sAreLet : Stmt := topS 36 -- @are_let
abbrev sCountsBy : Stmt := topS 35 -- @counts_by
abbrev sAreLetBy : Stmt := topS 37 -- @are_let_by
abbrev sChkLags : Stmt := topS 38 -- @check_lags
theorem int_at {l : List Int} {i : Nat} {x : V} (h : (l.map V.int)[i]? = some x) : ∃ z, l[i]? = some z ∧ x = V.int z := by
  rw [List.getElem?_map] at h
  cases e : l[i]? with
  | none =>
    rw [e] at h
    cases h
  | some z =>
    rw [e] at h
    cases h
    exact ⟨z, rfl, rfl⟩
theorem getD_at {ts : List Int} {g : Nat} (h : g < ts.length) : (ts.map V.int)[g]? = some (.int (ts.getD g 0)) := by
  rw [List.getElem?_map, List.getElem?_eq_getElem h, List.getD_eq_getElem?_getD, List.getElem?_eq_getElem h]
  rfl
/-! ### min with default, whatever the default is -/
def minG (ns : List Int) (d : Int) : Int := match ns with
  | [] => d
  | x :: l => l.foldl min x
theorem fmin_le : ∀ (l : List Int) (a : Int), l.foldl min a ≤ a ∧ (∀ y ∈ l, l.foldl min a ≤ y) ∧ (l.foldl min a = a ∨ l.foldl min a ∈ l)
  | [], a => ⟨Int.le_refl _, (fun y hy => (by simp at hy)), .inl rfl⟩
  | x :: l, a => by
    rw [List.foldl_cons]
    obtain ⟨h1, h2, h3⟩ := fmin_le l (min a x)
    refine ⟨by omega, fun y hy => ?_, ?_⟩
    · rcases List.mem_cons.mp hy with e | hy
      · rw [e]
        omega
      · exact h2 y hy
    · rcases h3 with h | h
      · rcases (by omega : min a x = a ∨ min a x = x) with e | e
        · exact .inl (h.trans e)
        · exact .inr (by rw [h, e]; exact List.mem_cons_self ..)
      · exact .inr (List.mem_cons_of_mem _ h)
theorem minG_spec {ns : List Int} {d : Int} (h : ns ≠ []) : minG ns d ∈ ns ∧ ∀ y ∈ ns, minG ns d ≤ y := by
  cases ns with
  | nil => exact absurd rfl h
  | cons x l =>
    obtain ⟨h1, h2, h3⟩ := fmin_le l x
    show l.foldl min x ∈ x :: l ∧ _
    refine ⟨?_, fun y hy => ?_⟩
    · rcases h3 with e | e
      · rw [e]
        exact List.mem_cons_self ..
      · exact List.mem_cons_of_mem _ e
    · rcases List.mem_cons.mp hy with e | hy
      · rw [e]
        exact h1
      · exact h2 y hy
def rMinG (K : PySem.W.Frag) : List V → List V → Hp → VK → Prop := fun vs zs H Q => ∃ (a : Addr) (ns : List Int) (d : Int), vs = [.ref a] ∧ zs = [.int d] ∧ SqL K H a (ns.map V.int) ∧ Q (.int (minG ns d)) H
theorem cr_minG {X : Cx} (hc : X.calm = true) : CallRK X (.builtin "min") ["default"] (rMinG X.K) := by
  intro pins s σ H vs zs us ws Q I r rz h
  obtain ⟨a, ns, d, rfl, rfl, hs, q⟩ := h
  obtain ⟨its, rv, hl, _⟩ := I.list hs
  obtain ⟨u, rfl, ru⟩ := Vals.one rz
  obtain ⟨td, rfl⟩ := ru
  rw [Vals.ref1 r]
  refine dcall_min (I.ok.hd hc) hl.isList (by simpa using rv.ints) fun h' tk hk => ⟨fun e => ?_, fun m t hm hb => ?_⟩
  · subst e
    exact ⟨.int d, H, I.kept hk, ⟨_, rfl⟩, q⟩
  · have hne : ns ≠ [] := fun e => by rw [e] at hm; simp at hm
    obtain ⟨h1, h2⟩ := minG_spec (d := d) hne
    have e : m = minG ns d := Int.le_antisymm (hb _ h1) (h2 m hm)
    exact ⟨.int m, H, I.kept hk, ⟨_, rfl⟩, by rw [e]; exact q⟩
theorem minG_nonneg (ns : List Int) : decide (0 ≤ minG ns 0) = decide (∀ y ∈ ns, 0 ≤ y) := by
  rw [decide_eq_decide]
  cases ns with
  | nil => exact ⟨(fun _ y hy => (by simp at hy)), fun _ => Int.le_refl _⟩
  | cons x l =>
    obtain ⟨h1, h2⟩ := minG_spec (ns := x :: l) (d := 0) (by simp)
    exact ⟨fun h y hy => Int.le_trans h (h2 y hy), fun h => h _ h1⟩
/-! ### lags -/
structure LagOk (gs : List Gt) (ls : List Int) : Prop where
  len : ls.length = gs.length
  ok : ∀ (i : Nat) (g : Gt) (l : Int), gs[i]? = some g → ls[i]? = some l → -500 ≤ l ∧ l ≤ 500 ∧ (portK g.1 → l = 0)
def cntsL (ws : List Wr) (ls : List Int) : List Int := ws.map fun x => ((x.2.2.length : Nat) : Int) + ls.getD x.2.1 0 - ls.getD x.1 0
def spOuter (K : PySem.W.Frag) : Sp := fun vs H Q _ => ∃ (v : V) (g : Gt), vs = [v] ∧ GateV K H v g ∧ ∀ b : Bool, (b = true ↔ portK g.1) → Q (.bl b) H
def spChkLags (K : PySem.W.Frag) (C : Addr) : Sp := fun vs H Q _ => ∃ (p ng nw ll : Addr) (gs : List Gt) (ws : List Wr) (ls : List Int), vs = [.ref p, .ref ll] ∧ NetAt K C H p ng nw gs ws ∧ gs.length ≤ 1000 ∧ SqL K H ll (ls.map V.int) ∧ LagOk gs ls ∧ ∀ H', Same H H' → Q .non H'
def spCounts (K : PySem.W.Frag) (C : Addr) : Sp := fun vs H Q _ => ∃ (p ng nw ll : Addr) (gs : List Gt) (ws : List Wr) (ls : List Int), vs = [.ref p, .ref ll] ∧ NetAt K C H p ng nw gs ws ∧ NetOk gs ws ∧ SqL K H ll (ls.map V.int) ∧ LagOk gs ls ∧ ∀ l H', Same H H' → H l = none → H' l = some (.lst ((cntsL ws ls).map V.int)) → Q (.ref l) H'
def spCountsBy (K : PySem.W.Frag) (C : Addr) : Sp := fun vs H Q _ => ∃ (p ng nw ll : Addr) (gs : List Gt) (ws : List Wr) (ls : List Int), vs = [.ref p, .ref ll] ∧ NetAt K C H p ng nw gs ws ∧ NetOk gs ws ∧ SqL K H ll (ls.map V.int) ∧ ls.length = gs.length ∧ ∀ l H', Same H H' → H l = none → H' l = some (.lst ((cntsL ws ls).map V.int)) → Q (.ref l) H'
def spAreLetBy (K : PySem.W.Frag) (C : Addr) : Sp := fun vs H Q _ => ∃ (p ng nw ll : Addr) (gs : List Gt) (ws : List Wr) (ls : List Int), vs = [.ref p, .ref ll] ∧ NetAt K C H p ng nw gs ws ∧ NetOk gs ws ∧ SqL K H ll (ls.map V.int) ∧ ls.length = gs.length ∧ ∀ H', Same H H' → Q (.bl (decide (∀ y ∈ cntsL ws ls, 0 ≤ y))) H'
def spAreLet (K : PySem.W.Frag) (C : Addr) : Sp := fun vs H Q _ => ∃ (p ng nw ll : Addr) (gs : List Gt) (ws : List Wr) (ls : List Int), vs = [.ref p, .ref ll] ∧ NetAt K C H p ng nw gs ws ∧ NetOk gs ws ∧ SqL K H ll (ls.map V.int) ∧ LagOk gs ls ∧ ∀ H', Same H H' → Q (.bl (decide (∀ y ∈ cntsL ws ls, 0 ≤ y))) H'
theorem port_in {k : Str} : inV (.str k) [.str "in", .str "out"] = true ↔ portK k := by
  unfold inV
  rw [List.any_eq_true]
  constructor
  · rintro ⟨v, hv, he⟩
    simp only [List.mem_cons, List.not_mem_nil, or_false] at hv
    rcases hv with rfl | rfl
    · exact .inl (eq_of_beq he).symm
    · exact .inr (eq_of_beq he).symm
  · rintro (rfl | rfl)
    · exact ⟨_, List.mem_cons_self .., beq_self_eq_true _⟩
    · exact ⟨_, List.mem_cons_of_mem _ (List.mem_cons_self ..), beq_self_eq_true _⟩
section
variable {P : Program} {w : World} {K : PySem.W.Frag} {mg : Str → Option Value} {base : Heap}
theorem scOuter : FnScope ["gate"] ["gate"] (defScope sOuter) := ⟨rfl, rfl, rfl, by decide +kernel, rfl, by decide +kernel, by decide +kernel⟩
abbrev DOuter (P : Program) (w : World) (K : PySem.W.Frag) (mg : Str → Option Value) (base : Heap) := Df P w K mg base 1 "is_outer" ["gate"] (spOuter K)
theorem ok_outer {f aK aW aF : Addr} {fd : FuncData} (F : Fun K "is_outer" "is_outer" sOuter f fd) (hm : mg "is_outer" = some (.ref f)) (C : Cns K mg aK aW aF) : DOuter P w K mg base f fd := by
  refine ⟨?_, hm, F.kp, F.binds fun _ _ _ _ _ _ us hl => match us, hl with | [_], _ => rfl⟩
  refine F.ok scOuter (fun vs H Q E h => ?_) (fun cdv A outer s H vs Q E hr h => ?_)
  · obtain ⟨v, g, rfl, _⟩ := h
    rfl
  · obtain ⟨v, g, rfl, ⟨a, rfl, sq⟩, q⟩ := h
    refine ⟨_, pss_one <| ps_ret <| pe_cmpR op_in_seq (pe_ix ix_tup (pv 0) pe_int (fun _ _ => rfl)) (pe_glob (v := .ref aW) (by rfl) C.mW rfl) (by rfl), ?_⟩
    exact ⟨_, rfl, a, _, 0, _, rfl, rfl, sq, atI_nat (j := 0) rfl, aW, _, rfl, .inr (C.sW H), rfl, rfl, q _ port_in⟩
theorem scChkLags : FnScope ["net", "lags", "gate", "lag", "greatest"] ["net", "lags"] (defScope sChkLags) := ⟨rfl, rfl, rfl, by decide +kernel, rfl, by decide +kernel, by decide +kernel⟩
abbrev DChkLags (P : Program) (w : World) (K : PySem.W.Frag) (mg : Str → Option Value) (base : Heap) (C : Addr) := Df P w K mg base 3 "check_lags" ["net", "lags"] (spChkLags K C)
theorem ok_chkLags {f fO fF C : Addr} {fd fdO fdF : FuncData} (F : Fun K "check_lags" "check_lags" sChkLags f fd) (hm : mg "check_lags" = some (.ref f)) (B : Bt mg) (T : NT K mg C) (gl : ∃ t, mg "GREATEST_LAG" = some (.int 500 t)) (DO : DOuter P w K mg base fO fdO) (DF : DFromTo P w K mg base fF fdF) : DChkLags P w K mg base C f fd := by
  obtain ⟨tg, hgl⟩ := gl
  refine ⟨?_, hm, F.kp, F.binds fun _ _ _ _ _ _ us hl => match us, hl with | [_, _], _ => rfl⟩
  refine F.ok scChkLags (fun vs H Q E h => ?_) (fun cdv A outer s H vs Q E hr h => ?_)
  · obtain ⟨p, ng, nw, ll, gs, ws, ls, rfl, _⟩ := h
    rfl
  · obtain ⟨p, ng, nw, ll, gs, ws, ls, rfl, NA, hgl1, sl, lok, q⟩ := h
    have nd := scChkLags.nd
    have hr1 : Room 1 _ := hr.mono (by decide)
    refine ⟨_, pss_cons (ps_if (PW.pt (pw_or (pt_not (pt_val (pe_callB call_isi (by rfl) B.isi (by decide +kernel) (pa_cons (pv 1) (pa_cons (pe_bltn (v := .ty "list") (by rfl) B.list (by decide +kernel) rfl) pa_nil)))))
          (pw_or1 (pt_cmpR op_ne (pe_callB call_len_seq (by rfl) B.len PySem.boot_len (pa_cons (pv 1) pa_nil)) (pe_callB call_len_seq (by rfl) B.len PySem.boot_len (pa_cons (pe_fld (pv 0) rfl) pa_nil)) (nomark _))))) (pss_one ps_never) pss_nil) <|
      pss_one <| ps_for PassesOwn.never rfl (pi_zip (by rfl) B.zip (pa_cons (pe_fld (pv 0) rfl) (pa_cons (pv 1) pa_nil))) (pg_tup rfl (pgs_cons (pg_name (i := 2) nd rfl (.inl rfl)) (pgs_cons (pg_name (i := 3) nd rfl (.inl rfl)) pgs_nil))) <|
        pss_cons (ps_set (i := 4) nd rfl (.inl rfl) (pe_ifExp (pt_val (pe_call DO.ok hr1 (by rfl) DO.mg DO.kp DO.bd .nil pass0 (pa_cons (pv 2) pa_nil))) pe_int (pe_glob (v := .int 500) (by rfl) hgl ⟨_, rfl⟩))) <|
        pss_one <| ps_if (pt_not (pt_val (pe_call DF.ok hr (by rfl) DF.mg DF.kp DF.bd .nil pass0 (pa_cons (pv 3) (pa_cons (pe_un un_neg (pv 4)) (pa_cons (pv 4) pa_nil)))))) (pss_one ps_never) pss_nil, ?_⟩
    obtain ⟨dx, ob⟩ := id NA.ob
    obtain ⟨gv, hgv, ga⟩ := id NA.g
    have hlg : gv.length = gs.length := ga.1
    have hll := lok.len
    refine ⟨_, rfl, _, _, _, _, true, rfl, .ty "list", ty_lst sl, kit_ty (by decide +kernel), true, rfl, iteF ?_⟩
    refine ⟨_, rfl, ll, _, rfl, .inl sl, _, rfl, p, C, dx, _, _, rfl, ob, T.cl, T.nG, nf_gates _ _, ng, gv, rfl, .inl (SqL.of hgv), rfl, false, ?_, iteF ?_⟩
    · rw [List.length_map, hlg, hll, decide_eq_true rfl]
      rfl
    refine ⟨_, rfl, p, C, dx, _, _, rfl, ob, T.cl, T.nG, nf_gates _ _, _, rfl, ng, ll, gv, _, rfl, SqL.of hgv, sl, RZ.for_zipL (K := K) (a := ng) (b := ll) (xs := gv) (ys := ls.map V.int) (by rw [List.length_map, hlg, hll]) (fun i σ H' => ∃ s2 s3 s4 : Option V, σ = [some (.ref p), some (.ref ll), s2, s3, s4] ∧ Same H H') ⟨_, _, _, rfl, Same.refl _⟩ (fun i σ H' ⟨_, _, _, _, sm⟩ => ⟨SqL.of (sm _ _ hgv), sm.seq sl⟩) ?_ ?_⟩
    · rintro i x y T' σ H1 hx hy ⟨s2, s3, s4, rfl, sm⟩ hT
      obtain ⟨g, hg, gv'⟩ := ga.get hx
      obtain ⟨l, hl, rfl⟩ := int_at hy
      obtain ⟨l0, l1, lp⟩ := lok.ok i g l hg hl
      have sT := sm.trans (same_new (o := .tup [x, .int l]) hT)
      refine ⟨T', _, rfl, .inl (.inl upd_same), rfl, _, _, rfl, _, _, rfl, rfl, ?_⟩
      refine ⟨_, rfl, x, g, rfl, gv'.tk (TK.same sT), fun b hb => ⟨b, rfl, ite2 (fun e => ?_) (fun e => ?_)⟩⟩
      · have h0 := lp (hb.mp e)
        refine ⟨_, rfl, _, rfl, _, rfl, _, rfl, l, 0, 0, rfl, true, ?_, iteF ⟨_, _, _, rfl, sT⟩⟩
        rw [h0]
        rfl
      · refine ⟨_, rfl, _, rfl, _, rfl, _, rfl, l, -500, 500, rfl, true, ?_, iteF ⟨_, _, _, rfl, sT⟩⟩
        rw [decide_eq_true l0, decide_eq_true l1]
        rfl
    · rintro σ H1 ⟨s2, s3, s4, rfl, sm⟩
      exact q H1 sm
abbrev nCountsBy : List Str := ["net", "numbers", "start", "end", "held"]
theorem scCountsBy : FnScope nCountsBy ["net", "numbers"] (defScope sCountsBy) := ⟨rfl, rfl, rfl, by decide +kernel, rfl, by decide +kernel, by decide +kernel⟩
abbrev DCountsBy (P : Program) (w : World) (K : PySem.W.Frag) (mg : Str → Option Value) (base : Heap) (C : Addr) := Df P w K mg base 1 "counts_by" ["net", "numbers"] (spCountsBy K C)
theorem ok_countsBy {f C : Addr} {fd : FuncData} (F : Fun K "counts_by" "counts_by" sCountsBy f fd) (hm : mg "counts_by" = some (.ref f)) (B : Bt mg) (T : NT K mg C) : DCountsBy P w K mg base C f fd := by
  refine ⟨?_, hm, F.kp, F.binds fun _ _ _ _ _ _ us hl => match us, hl with | [_, _], _ => rfl⟩
  refine F.ok scCountsBy (fun vs H Q E h => ?_) (fun cdv A outer s H vs Q E hr h => ?_)
  · obtain ⟨p, ng, nw, ll, gs, ws, ls, rfl, _⟩ := h
    rfl
  · obtain ⟨p, ng, nw, ll, gs, ws, ls, rfl, NA, N, sl, lok, q⟩ := h
    have nd := scCountsBy.nd
    refine ⟨_, pss_one <| ps_ret <| pe_lc (own := [("start", 2), ("end", 3), ("held", 4)]) (g := gTup K 3 (gCons (gName 2) (gCons (gName 3) (gCons (gName 4) gNil)))) (tt := tYes) (te := tOp (rI0 fun i j => .int (i - j)) (tOp (rI0 fun i j => .int (i + j)) (tCB (Evl.rLenS K) (tCons (tVar 4) tNil)) (tOp (rIxL K) (tVar 1) (tVar 3))) (tOp (rIxL K) (tVar 1) (tVar 2))) rfl nd
        (pi_list (pe_fld (pv 0) rfl)) (blkOk_by (N := nCountsBy) (sc := defScope sCountsBy) (own := [("start", 2), ("end", 3), ("held", 4)]) (by decide +kernel))
        (fun _ _ _ _ _ => pg_tup rfl (pgs_cons (pg_name (i := 2) nd rfl (.inl rfl)) (pgs_cons (pg_name (i := 3) nd rfl (.inl rfl)) (pgs_cons (pg_name (i := 4) nd rfl (.inl rfl)) pgs_nil)))) (fun _ _ _ _ _ => pts_nil)
        (fun _ _ _ _ _ => pe_op op_sub (pe_op op_add (pe_callB call_len_seq (by rfl) B.len PySem.boot_len (pa_cons (pv 4) pa_nil)) (pe_ix ix_list (pv 1) (pv 3) (fun _ _ => rfl))) (pe_ix ix_list (pv 1) (pv 2) (fun _ _ => rfl))), ?_⟩
    have hgl := N.gl
    have hwl := N.wl
    obtain ⟨dx, ob⟩ := id NA.ob
    obtain ⟨wv, hwv, wa⟩ := id NA.w
    have hlw : wv.length = ws.length := wa.1
    have hll := lok
    refine ⟨_, rfl, p, C, dx, _, _, rfl, ob, T.cl, T.nW, nf_wires _ _, nw, rfl, ⟨_, SqL.of hwv⟩, fun D hD => ?_⟩
    refine lc_list (K := K) (a := nw) (xs := wv) (fun i Hc => Hc D = some (.lst ((cntsL (ws.take i) ls).map V.int)) ∧ Same H Hc) ⟨by rw [upd_same]; rfl, same_new hD⟩ (fun i Hc _ ⟨_, sm⟩ => SqL.of (sm _ _ hwv)) ?_ ?_
    · rintro i v Hc hv ⟨hc, sm⟩
      obtain ⟨x, hx, a, b, rfl, sq1, sq2⟩ := wa.get hv
      have hi : i < ws.length := (List.getElem?_eq_some_iff.mp hx).1
      have WX := N.wok x (List.mem_of_getElem? hx)
      have tk := TK.same sm
      refine ⟨a, _, rfl, tk.seq sq1, rfl, _, _, rfl, _, _, rfl, _, _, rfl, rfl, rfl, tyes ?_⟩
      refine ⟨_, rfl, b, _, rfl, .inr (tk.seq sq2), _, rfl, _, rfl, ll, _, _, _, rfl, rfl, sm.seq sl, atI_nat (getD_at (by rw [hll]; exact WX.e)), _, _, rfl, rfl, ?_⟩
      refine ⟨_, rfl, _, rfl, ll, _, _, _, rfl, rfl, sm.seq sl, atI_nat (getD_at (by rw [hll]; exact WX.s)), _, _, rfl, rfl, _, hc, ?_, ?_, same_mut sm hD⟩
      · unfold cntsL
        rw [List.length_map, List.length_map, List.length_take]
        exact small1000 (by omega)
      · rw [upd_same, List.take_add_one, hx]
        unfold cntsL
        rw [List.map_append, List.map_append, List.length_map]
        rfl
    · rintro H2 ⟨hc, sm⟩
      rw [hlw, List.take_length] at hc
      exact q D H2 sm hD hc
theorem scCounts : FnScope ["net", "lags"] ["net", "lags"] (defScope sCounts) := ⟨rfl, rfl, rfl, by decide +kernel, rfl, by decide +kernel, by decide +kernel⟩
abbrev DCounts (P : Program) (w : World) (K : PySem.W.Frag) (mg : Str → Option Value) (base : Heap) (C : Addr) := Df P w K mg base 4 "counts" ["net", "lags"] (spCounts K C)
theorem ok_counts {f fC fB C : Addr} {fd fdC fdB : FuncData} (F : Fun K "counts" "counts" sCounts f fd) (hm : mg "counts" = some (.ref f)) (DC : DChkLags P w K mg base C fC fdC) (DB : DCountsBy P w K mg base C fB fdB) : DCounts P w K mg base C f fd := by
  refine ⟨?_, hm, F.kp, F.binds fun _ _ _ _ _ _ us hl => match us, hl with | [_, _], _ => rfl⟩
  refine F.ok scCounts (fun vs H Q E h => ?_) (fun cdv A outer s H vs Q E hr h => ?_)
  · obtain ⟨p, ng, nw, ll, gs, ws, ls, rfl, _⟩ := h
    rfl
  · obtain ⟨p, ng, nw, ll, gs, ws, ls, rfl, NA, N, sl, lok, q⟩ := h
    have hr1 : Room 1 _ := hr.mono (by decide)
    refine ⟨_, pss_cons (ps_expr (pe_call DC.ok hr (by rfl) DC.mg DC.kp DC.bd .nil pass0 (pa_cons (pv 0) (pa_cons (pv 1) pa_nil)))) <|
      pss_one <| ps_ret (pe_call DB.ok hr1 (by rfl) DB.mg DB.kp DB.bd .nil pass0 (pa_cons (pv 0) (pa_cons (pv 1) pa_nil))), ?_⟩
    have hgl := N.gl
    refine ⟨_, rfl, _, rfl, p, ng, nw, ll, gs, ws, ls, rfl, NA, by omega, sl, lok, fun H1 s1 => ?_⟩
    exact ⟨_, rfl, _, rfl, p, ng, nw, ll, gs, ws, ls, rfl, NA.same s1, N, s1.seq sl, lok.len, fun l H2 s2 hl el => q l H2 (s1.trans s2) (s1.free hl) el⟩
theorem scAreLetBy : FnScope ["net", "numbers"] ["net", "numbers"] (defScope sAreLetBy) := ⟨rfl, rfl, rfl, by decide +kernel, rfl, by decide +kernel, by decide +kernel⟩
abbrev DAreLetBy (P : Program) (w : World) (K : PySem.W.Frag) (mg : Str → Option Value) (base : Heap) (C : Addr) := Df P w K mg base 2 "are_let_by" ["net", "numbers"] (spAreLetBy K C)
theorem ok_areLetBy {f fC C : Addr} {fd fdC : FuncData} (F : Fun K "are_let_by" "are_let_by" sAreLetBy f fd) (hm : mg "are_let_by" = some (.ref f)) (mn : mg "min" = none) (DC : DCountsBy P w K mg base C fC fdC) : DAreLetBy P w K mg base C f fd := by
  refine ⟨?_, hm, F.kp, F.binds fun _ _ _ _ _ _ us hl => match us, hl with | [_, _], _ => rfl⟩
  refine F.ok scAreLetBy (fun vs H Q E h => ?_) (fun cdv A outer s H vs Q E hr h => ?_)
  · obtain ⟨p, ng, nw, ll, gs, ws, ls, rfl, _⟩ := h
    rfl
  · obtain ⟨p, ng, nw, ll, gs, ws, ls, rfl, NA, N, sl, lok, q⟩ := h
    refine ⟨_, pss_one <| ps_ret <| pe_cmpR op_ge (pe_callBK (cr_minG rfl) (by rfl) mn (by decide +kernel) (pa_cons (pe_call DC.ok hr (by rfl) DC.mg DC.kp DC.bd .nil pass0 (pa_cons (pv 0) (pa_cons (pv 1) pa_nil))) pa_nil) (pk_cons pe_int pk_nil)) pe_int (nomark _), ?_⟩
    refine ⟨_, rfl, _, rfl, p, ng, nw, ll, gs, ws, ls, rfl, NA, N, sl, lok, fun l H1 s1 hl el => ?_⟩
    refine ⟨l, _, 0, rfl, rfl, SqL.of el, _, _, rfl, rfl, ?_⟩
    show Q (V.bl (decide (0 ≤ minG (cntsL ws ls) 0))) H1
    rw [minG_nonneg]
    exact q H1 s1
theorem scAreLet : FnScope ["net", "lags"] ["net", "lags"] (defScope sAreLet) := ⟨rfl, rfl, rfl, by decide +kernel, rfl, by decide +kernel, by decide +kernel⟩
abbrev DAreLet (P : Program) (w : World) (K : PySem.W.Frag) (mg : Str → Option Value) (base : Heap) (C : Addr) := Df P w K mg base 4 "are_let" ["net", "lags"] (spAreLet K C)
theorem ok_areLet {f fC fB C : Addr} {fd fdC fdB : FuncData} (F : Fun K "are_let" "are_let" sAreLet f fd) (hm : mg "are_let" = some (.ref f)) (DC : DChkLags P w K mg base C fC fdC) (DB : DAreLetBy P w K mg base C fB fdB) : DAreLet P w K mg base C f fd := by
  refine ⟨?_, hm, F.kp, F.binds fun _ _ _ _ _ _ us hl => match us, hl with | [_, _], _ => rfl⟩
  refine F.ok scAreLet (fun vs H Q E h => ?_) (fun cdv A outer s H vs Q E hr h => ?_)
  · obtain ⟨p, ng, nw, ll, gs, ws, ls, rfl, _⟩ := h
    rfl
  · obtain ⟨p, ng, nw, ll, gs, ws, ls, rfl, NA, N, sl, lok, q⟩ := h
    have hr2 : Room 2 _ := hr.mono (by decide)
    refine ⟨_, pss_cons (ps_expr (pe_call DC.ok hr (by rfl) DC.mg DC.kp DC.bd .nil pass0 (pa_cons (pv 0) (pa_cons (pv 1) pa_nil)))) <|
      pss_one <| ps_ret (pe_call DB.ok hr2 (by rfl) DB.mg DB.kp DB.bd .nil pass0 (pa_cons (pv 0) (pa_cons (pv 1) pa_nil))), ?_⟩
    have hgl := N.gl
    refine ⟨_, rfl, _, rfl, p, ng, nw, ll, gs, ws, ls, rfl, NA, by omega, sl, lok, fun H1 s1 => ?_⟩
    exact ⟨_, rfl, _, rfl, p, ng, nw, ll, gs, ws, ls, rfl, NA.same s1, N, s1.seq sl, lok.len, fun H2 s2 => q H2 (s1.trans s2)⟩
end
end Lag

set_option maxRecDepth 100000
set_option maxHeartbeats 8000000
namespace Lag
open PySem PySem.Spec PyProof.Rows L2
theorem LagOk.snoc {gs : List Gt} {ls : List Int} {g : Gt} {l : Int} (h : LagOk gs ls) (l0 : -500 ≤ l) (l1 : l ≤ 500) (lp : portK g.1 → l = 0) : LagOk (gs ++ [g]) (ls ++ [l]) := by
  refine ⟨by simp [h.len], fun i g' l' hg hl => ?_⟩
  rcases Nat.lt_trichotomy i gs.length with hi | hi | hi
  · rw [List.getElem?_append_left hi] at hg
    rw [List.getElem?_append_left (by rw [h.len]; exact hi)] at hl
    exact h.ok i g' l' hg hl
  · rw [hi, List.getElem?_append_right (Nat.le_refl _), Nat.sub_self] at hg
    rw [hi, ← h.len, List.getElem?_append_right (Nat.le_refl _), Nat.sub_self] at hl
    cases hg
    cases hl
    exact ⟨l0, l1, lp⟩
  · rw [List.getElem?_eq_none (by rw [List.length_append]; simp; omega)] at hg
    cases hg
def spLLags (K : PySem.W.Frag) : Sp := fun vs H Q _ => ∃ (wl lg : Addr) (far : Int) (gv : List V) (gs : List Gt), vs = [.ref wl, .ref lg, .int far] ∧ 0 ≤ far ∧ far ≤ 500 ∧ WellAt wl H ∧ H lg = some (.lst gv) ∧ All2 (GateV K H) gv gs ∧ lg ≠ wl ∧ gs.length ≤ 1000 ∧ ∀ l ls H', Dr wl H H' → H l = none → H' l = some (.lst (ls.map V.int)) → LagOk gs ls → (∀ y ∈ ls, -far ≤ y ∧ y ≤ far) → Q (.ref l) H'
section
variable {P : Program} {w : World} {K : PySem.W.Frag} {mg : Str → Option Value} {base : Heap}
abbrev nLLags : List Str := ["_law_state", "_law_gates_here", "_law_far", "_law_found", "_law_kind", "_law_wait"]
theorem scLLags : FnScope nLLags ["_law_state", "_law_gates_here", "_law_far"] (defScope sLLags) := ⟨rfl, rfl, rfl, by decide +kernel, rfl, by decide +kernel, by decide +kernel⟩
abbrev DLLags (P : Program) (w : World) (K : PySem.W.Frag) (mg : Str → Option Value) (base : Heap) := Df P w K mg base 2 "_law_lags" ["_law_state", "_law_gates_here", "_law_far"] (spLLags K)
theorem ok_llags {f fD : Addr} {fd fdD : FuncData} (F : Fun K "_law_lags" "_law_lags" sLLags f fd) (hm : mg "_law_lags" = some (.ref f)) (B : Bt mg) (DD : DDraw P w K mg base fD fdD) : DLLags P w K mg base f fd := by
  refine ⟨?_, hm, F.kp, F.binds fun _ _ _ _ _ _ us hl => match us, hl with | [_, _, _], _ => rfl⟩
  refine F.ok scLLags (fun vs H Q E h => ?_) (fun cdv A outer s H vs Q E hr h => ?_)
  · obtain ⟨wl, lg, far, gv, gs, rfl, _⟩ := h
    rfl
  · obtain ⟨wl, lg, far, gv, gs, rfl, f0, f1, hw, hlg, ga, nlw, hgl, q⟩ := h
    have nd := scLLags.nd
    refine ⟨_, pss_cons (ps_set (i := 3) nd rfl (.inl rfl) (pe_lst pa_nil)) <|
      pss_cons (ps_for PassesOwn.never rfl (pi_list (pv 1)) (pg_tup rfl (pgs_cons (pg_name (i := 4) nd rfl (.inl rfl)) (pgs_cons (pg_name (i := 5) nd rfl (.inl rfl)) pgs_nil))) <|
        pss_one <| ps_expr <| pe_bm PySem.F.plainAttrs_list PySem.F.slot_list_append PySem.F.type_list_append mt_append (pv 3) <| (pa_cons · pa_nil) <|
          pe_ix ix_list (pe_lst (pa_cons (pe_op op_sub (pe_call DD.ok hr (by rfl) DD.mg DD.kp DD.bd .nil pass0 (pa_cons (pv 0) (pa_cons (pe_op op_add (pe_op op_mul pe_int (pv 2)) pe_int) pa_nil))) (pv 2)) (pa_cons pe_int pa_nil)))
            (pe_callTy call_int1 (by rfl) B.int (by decide +kernel) (pa_cons (pe_or (pe_cmpR op_eq (pv 4) pe_str (nomark _)) (pe_one (pe_cmpR op_eq (pv 4) pe_str (nomark _)))) pa_nil)) (fun _ _ => rfl)) <|
      pss_one <| ps_ret <| pv 3, ?_⟩
    refine ⟨(by show 0 ≤ sizeLine; decide), fun lf hlf => ?_⟩
    have nlf : lf ≠ wl := (hw.ne hlf).symm
    have D1 := Dr.new (o := .lst []) hw hlf
    have el1 : (upd H lf (.lst [])) lf = some (.lst []) := upd_same
    generalize upd H lf (.lst []) = H1 at D1 el1
    refine gn_norm (σ' := [some (.ref wl), some (.ref lg), some (.int far), some (.ref lf), none, none]) rfl ?_
    refine ⟨_, rfl, lg, rfl, ⟨_, SqL.of (D1.but _ _ nlw hlg)⟩, for_list (K := K) (a := lg) (xs := gv) (fun i σ H' => ∃ (s4 s5 : Option V) (ls : List Int), σ = [some (.ref wl), some (.ref lg), some (.int far), some (.ref lf), s4, s5] ∧ H' lf = some (.lst (ls.map V.int)) ∧ LagOk (gs.take i) ls ∧ (∀ y ∈ ls, -far ≤ y ∧ y ≤ far) ∧ Dr wl H H') ⟨_, _, [], rfl, el1, ⟨rfl, by simp⟩, (fun y hy => by simp at hy), D1⟩ (fun i σ H' _ ⟨_, _, _, _, _, _, _, d⟩ => SqL.of (d.but _ _ nlw hlg)) ?_ ?_⟩
    · rintro i x σ H2 hx ⟨s4, s5, ls, rfl, hls, lok, bd, D2⟩
      obtain ⟨g, hg, a, rfl, sq⟩ := ga.get hx
      have sq2 := (TK.dr hw D2.but).seq sq
      have hi : i < gs.length := (List.getElem?_eq_some_iff.mp hg).1
      have hll : ls.length = i := by
        rw [lok.len, List.length_take]
        omega
      have htk : gs.take (i + 1) = gs.take i ++ [g] := by
        rw [List.take_succ, hg]
        rfl
      refine ⟨a, _, rfl, sq2, rfl, _, _, rfl, _, _, rfl, rfl, ?_⟩
      refine ⟨_, rfl, .inl ⟨rfl, _, SqL.of hls⟩, _, rfl, _, rfl, _, _, rfl, rfl, (.inl ⟨by decide, by decide⟩), _, _, rfl, rfl, wl, _, rfl, by omega, by omega, D2.well, fun d H3 d0 d1 E3 => ?_⟩
      refine ⟨_, rfl, _, _, rfl, rfl, (by show 2 ≤ sizeLine; decide), fun l4 hl4 => ?_⟩
      have E4 := E3.trans (Dr.new (o := .lst [.int (d - far), .int 0]) E3.well hl4)
      have el4 : (upd H3 l4 (.lst [.int (d - far), .int 0])) l4 = some (.lst [.int (d - far), .int 0]) := upd_same
      generalize upd H3 l4 (.lst [.int (d - far), .int 0]) = H4 at E4 el4

      have hls4 := E4.but _ _ nlf hls
      have fin : ∀ (l : Int), -far ≤ l → l ≤ far → (portK g.1 → l = 0) → ∃ (s4 s5 : Option V) (ls' : List Int), [some (.ref wl), some (.ref lg), some (.int far), some (.ref lf), some (.str g.1), some (.int g.2)] = [some (.ref wl), some (.ref lg), some (.int far), some (.ref lf), s4, s5] ∧ (upd H4 lf (.lst (ls.map V.int ++ [.int l]))) lf = some (.lst (ls'.map V.int)) ∧ LagOk (gs.take (i + 1)) ls' ∧ (∀ y ∈ ls', -far ≤ y ∧ y ≤ far) ∧ Dr wl H (upd H4 lf (.lst (ls.map V.int ++ [.int l]))) := by
        intro l l0 l1 lp
        refine ⟨_, _, ls ++ [l], rfl, ?_, ?_, fun y hy => ?_, set_well (D2.trans E4) hlf nlf⟩
        · rw [upd_same, List.map_append]
          rfl
        · rw [htk]
          exact lok.snoc (by omega) (by omega) lp
        · rcases List.mem_append.mp hy with hy | hy
          · exact bd y hy
          · rw [List.mem_singleton.mp hy]
            exact ⟨l0, l1⟩
      have hlen : (ls.map V.int).length ≤ 1000 := by
        rw [List.length_map]
        omega
      refine ⟨_, rfl, rfl, _, rfl, ite2 (fun e => ?_) (fun e => ?_)⟩
      · refine .inr ⟨_, rfl, l4, _, _, .int 0, rfl, rfl, SqL.of el4, atI_nat (j := 1) rfl, lf, _, _, rfl, rfl, hls4, small1000 hlen, fin 0 (by omega) (by omega) fun _ => rfl⟩
      · refine ⟨_, rfl, rfl, .inr ⟨_, rfl, ?_⟩⟩
        by_cases ho : g.1 = "out"
        · rw [decide_eq_true (congrArg V.str ho)]
          exact ⟨l4, _, _, .int 0, rfl, rfl, SqL.of el4, atI_nat (j := 1) rfl, lf, _, _, rfl, rfl, hls4, small1000 hlen, fin 0 (by omega) (by omega) fun _ => rfl⟩
        · rw [decide_eq_false (fun z => ho (V.str.inj z))]
          refine ⟨l4, _, _, .int (d - far), rfl, rfl, SqL.of el4, atI_nat (j := 0) rfl, lf, _, _, rfl, rfl, hls4, small1000 hlen, fin (d - far) (by omega) (by omega) fun hp => ?_⟩
          rcases hp with z | z
          · exact absurd (decide_eq_true (congrArg V.str z)) e
          · exact absurd z ho
    · rintro σ H2 ⟨s4, s5, ls, rfl, hls, lok, bd, D2⟩
      rw [ga.1, List.take_length] at lok
      exact ⟨_, rfl, q lf ls H2 D2 hlf hls lok bd⟩
end
end Lag

set_option maxRecDepth 100000
set_option maxHeartbeats 8000000
namespace Lag
open PySem PySem.Spec PyProof.Rows L2
theorem exm_self {K : PySem.W.Frag} {S : Addr} (h1 : PySem.W.subIn K (.ref S) (.type "BaseException") = some true) (h2 : PySem.W.isClsIn K S = true) (h3 : PySem.W.typeIn K (.ref S) = some (.type "type")) (h4 : PySem.W.subIn K (.ref S) (.ref S) = some true) :
    PySem.W.exmOne K (.ref S) (.ref S) = some true := by
  have e1 : (PySem.W.subIn K (.ref S) (.type "BaseException") == some true) = true := by rw [h1] <;> rfl
  have e2 : ((PySem.W.clsIn K S).isSome && PySem.W.typeIn K (.ref S) == some (.type "type")) = true := by
    have h2' : (PySem.W.clsIn K S).isSome = true := h2
    rw [h2', h3] <;> rfl
  show (if (PySem.W.subIn K (.ref S) (.type "BaseException") == some true) = true then (if ((PySem.W.clsIn K S).isSome && PySem.W.typeIn K (.ref S) == some (.type "type")) = true then PySem.W.subIn K (.ref S) (.ref S) else none) else none) = some true
  rw [if_pos e1, if_pos e2]
  exact h4
/-- what the top tells of a class under LagError that has nothing of its own -/
structure PEx (K : PySem.W.Frag) (mg : Str → Option Value) (x : Str) (C : Addr) : Prop where
  g : mg x = some (.ref C)
  q : PySem.W.excIn K C [.type "ValueError", .type "Exception", .type "BaseException", .type "object"] "ValueError.__new__" = true
  k : PySem.W.keepIn K (.ref C) = true
  e : PySem.W.subIn K (.ref C) (.type "BaseException") = some true
  t : PySem.W.typeIn K (.ref C) = some (.type "type")
  te : PySem.W.exmOne K (.ref C) (.ref C) = some true
/-! ### things that may stand where a number is asked -/
inductive OdV (H : Hp) : V → Option Int → Prop where
  | int (n : Int) : OdV H (.int n) (some n)
  | bl (b : Bool) : OdV H (.bl b) none
  | non : OdV H .non none
  | str (x : Str) : OdV H (.str x) none
  | tup {a : Addr} {xs : List V} (e : H a = some (.tup xs)) : OdV H (.ref a) none
  | lst {a : Addr} {xs : List V} (e : H a = some (.lst xs)) : OdV H (.ref a) none
theorem OdV.same {H H' : Hp} {v : V} {o : Option Int} (h : OdV H v o) (s : Same H H') : OdV H' v o := by
  cases h with
  | int n => exact .int n
  | bl b => exact .bl b
  | non => exact .non
  | str x => exact .str x
  | tup e => exact .tup (s _ _ e)
  | lst e => exact .lst (s _ _ e)
theorem OdV.ty {K : PySem.W.Frag} {H : Hp} {v : V} {o : Option Int} (h : OdV H v o) : ∃ (t : String) (b1 b2 : Bool), TyX K H v (.type t) ∧ kitB t "int" = some b1 ∧ kitB t "bool" = some b2 ∧ (b1 && !b2) = o.isSome := by
  cases h with
  | int n => exact ⟨"int", true, false, .base (.int n), by decide +kernel, by decide +kernel, rfl⟩
  | bl b => exact ⟨"bool", true, true, .base (.bl b), by decide +kernel, by decide +kernel, rfl⟩
  | non => exact ⟨"NoneType", false, false, .base .non, by decide +kernel, by decide +kernel, rfl⟩
  | str x => exact ⟨"str", false, false, .base (.str x), by decide +kernel, by decide +kernel, rfl⟩
  | tup e => exact ⟨"tuple", false, false, .base (.tup e), by decide +kernel, by decide +kernel, rfl⟩
  | lst e => exact ⟨"list", false, false, .base (.lst e), by decide +kernel, by decide +kernel, rfl⟩
/-- from .. to .., of any thing -/
def fromO (o : Option Int) (a b : Int) : Bool := match o with
  | some n => decide (a ≤ n) && decide (n ≤ b)
  | none => false
def spWholeX : Sp := fun vs H Q _ => ∃ (v : V) (o : Option Int), vs = [v] ∧ OdV H v o ∧ Q (.bl o.isSome) H
def spFromToX : Sp := fun vs H Q _ => ∃ (v : V) (o : Option Int) (a b : Int), vs = [v, .int a, .int b] ∧ OdV H v o ∧ Q (.bl (fromO o a b)) H
/-- lags, or what else stands there -/
def GoodL (gs : List Gt) (os : List (Option Int)) : Prop := os.length = gs.length ∧ ∀ (i : Nat) (g : Gt) (o : Option Int), gs[i]? = some g → os[i]? = some o → ∃ n, o = some n ∧ -500 ≤ n ∧ n ≤ 500 ∧ (portK g.1 → n = 0)
theorem GoodL.ints {gs : List Gt} {os : List (Option Int)} (h : GoodL gs os) : ∃ ls : List Int, os = ls.map some ∧ LagOk gs ls := by
  have hs : ∀ o ∈ os, ∃ n, o = some n := fun o ho => by
    obtain ⟨i, hi⟩ := List.getElem?_of_mem ho
    have hl : i < gs.length := by
      rw [← h.1]
      exact (List.getElem?_eq_some_iff.mp hi).1
    obtain ⟨n, e, _⟩ := h.2 i _ o (List.getElem?_eq_getElem hl) hi
    exact ⟨n, e⟩
  have ex : os = (os.map fun o => o.getD 0).map some := by
    rw [List.map_map]
    refine (List.map_id' os).symm.trans (List.map_congr_left fun o ho => ?_)
    obtain ⟨n, rfl⟩ := hs o ho
    rfl
  refine ⟨_, ex, by rw [List.length_map]; exact h.1, fun i g l hg hl => ?_⟩
  have hl' : os[i]? = some (some l) := by
    rw [ex, List.getElem?_map, hl]
    rfl
  obtain ⟨n, e, h1, h2, h3⟩ := h.2 i g _ hg hl'
  cases e
  exact ⟨h1, h2, h3⟩
theorem LagOk.good {gs : List Gt} {ls : List Int} (h : LagOk gs ls) : GoodL gs (ls.map some) := by
  refine ⟨by rw [List.length_map]; exact h.len, fun i g o hg ho => ?_⟩
  rw [List.getElem?_map] at ho
  cases e : ls[i]? with
  | none =>
    rw [e] at ho
    cases ho
  | some l =>
    rw [e] at ho
    cases ho
    obtain ⟨h1, h2, h3⟩ := h.ok i g l hg e
    exact ⟨l, rfl, h1, h2, h3⟩
/-- what is handed in as lags: a list, or something else -/
inductive LagsV (K : PySem.W.Frag) (H : Hp) (gs : List Gt) : V → Option (List (Option Int)) → Prop where
  | lst {a : Addr} {vs : List V} {os : List (Option Int)} (e : H a = some (.lst vs)) (al : All2 (OdV H) vs os) : LagsV K H gs (.ref a) (some os)
  | odd {v : V} {t : String} (h : TyX K H v (.type t)) (n : kitB t "list" = some false) : LagsV K H gs v none
def GoodT (gs : List Gt) (t : Option (List (Option Int))) : Prop := ∃ os, t = some os ∧ GoodL gs os
def spChkX (K : PySem.W.Frag) (C CL : Addr) : Sp := fun vs H Q E => ∃ (p ng nw : Addr) (v : V) (gs : List Gt) (ws : List Wr) (t : Option (List (Option Int))), vs = [.ref p, v] ∧ NetAt K C H p ng nw gs ws ∧ gs.length ≤ 1000 ∧ LagsV K H gs v t ∧
  (∀ os, t = some os → os.length ≤ 1000) ∧ (GoodT gs t → ∀ H', Same H H' → Q .non H') ∧ (¬ GoodT gs t → ∀ H', Same H H' → E (.ref CL) none H')
section
variable {P : Program} {w : World} {K : PySem.W.Frag} {mg : Str → Option Value} {base : Heap}
theorem ok_wholeX {f : Addr} {fd : FuncData} (F : Fun K "is_whole" "is_whole" sWhole f fd) (B : Bt mg) : FnOk P w K mg base CX0 1 f fd ["thing"] spWholeX := by
  refine F.ok scWhole (fun vs H Q E h => ?_) (fun cdv A outer s H vs Q E hr h => ?_)
  · obtain ⟨v, o, rfl, _⟩ := h
    rfl
  · obtain ⟨v, o, rfl, ho, q⟩ := h
    refine ⟨_, pss_one <| ps_ret <| pe_and (pe_callB call_isi (by rfl) B.isi (by decide +kernel) (pa_cons (pv 0) (pa_cons (pe_bltn (v := .ty "int") (by rfl) B.int (by decide +kernel) rfl) pa_nil)))
      (pe_one (pe_not (pe_callB call_isi (by rfl) B.isi (by decide +kernel) (pa_cons (pv 0) (pa_cons (pe_bltn (v := .ty "bool") (by rfl) B.bool (by decide +kernel) rfl) pa_nil))))), ?_⟩
    obtain ⟨t, b1, b2, ty, k1, k2, e⟩ := ho.ty (K := K)
    refine ⟨_, rfl, _, _, _, _, b1, rfl, .ty "int", ty, kit_ty k1, b1, rfl, ite2 (fun e1 => ?_) (fun e1 => ?_)⟩
    · subst e1
      refine ⟨_, rfl, _, _, _, _, b2, rfl, .ty "bool", ty, kit_ty k2, b2, rfl, ?_⟩
      rw [← e] at q
      exact q
    · have e2 : b1 = false := by simpa using e1
      subst e2
      rw [← e] at q
      exact q
theorem ok_fromToX {f fW : Addr} {fd fdW : FuncData} (F : Fun K "is_whole_from_to" "is_whole_from_to" sFromTo f fd) (DW : DWhole P w K mg base fW fdW) (DX : FnOk P w K mg base CX0 1 fW fdW ["thing"] spWholeX) : FnOk P w K mg base CX0 2 f fd ["thing", "least", "greatest"] spFromToX := by
  refine F.ok scFromTo (fun vs H Q E h => ?_) (fun cdv A outer s H vs Q E hr h => ?_)
  · obtain ⟨v, o, a, b, rfl, _⟩ := h
    rfl
  · obtain ⟨v, o, a, b, rfl, ho, q⟩ := h
    have hr1 : Room 1 _ := hr.mono (by decide)
    refine ⟨_, pss_one <| ps_ret <| pe_and (pe_call DX hr1 (by rfl) DW.mg DW.kp DW.bd .nil pass0 (pa_cons (pv 0) pa_nil)) (pe_one (pe_chain op_le op_le (pv 1) (pv 0) (pv 2))), ?_⟩
    refine ⟨_, rfl, v, o, rfl, ho, o.isSome, rfl, ?_⟩
    cases ho with
    | int n =>
      refine iteT ?_
      refine ⟨_, rfl, _, rfl, _, _, rfl, rfl, _, rfl, ?_⟩
      have q : Q (.bl (decide (a ≤ n) && decide (n ≤ b))) H := q
      cases e : decide (a ≤ n) with
      | false =>
        rw [e] at q
        exact iteF q
      | true =>
        rw [e] at q
        exact iteT ⟨_, rfl, _, _, rfl, rfl, q⟩
    | bl b' => exact iteF q
    | non => exact iteF q
    | str x => exact iteF q
    | tup e => exact iteF q
    | lst e => exact iteF q
theorem ok_chkX {f fO fF C CL : Addr} {fd fdO fdF : FuncData} (F : Fun K "check_lags" "check_lags" sChkLags f fd) (B : Bt mg) (T : NT K mg C) (gl : ∃ t, mg "GREATEST_LAG" = some (.int 500 t)) (DO : DOuter P w K mg base fO fdO) (DF : DFromTo P w K mg base fF fdF) (DFX : FnOk P w K mg base CX0 2 fF fdF ["thing", "least", "greatest"] spFromToX) (NL : PEx K mg "NoLags" CL) : FnOk P w K mg base (L2.CX P w) 3 f fd ["net", "lags"] (spChkX K C CL) := by
  obtain ⟨tg, hgl⟩ := gl
  refine F.okX scChkLags (fun vs H Q E h => ?_) (fun cdv A outer s H vs Q E hr h => ?_)
  · obtain ⟨p, ng, nw, v, gs, ws, t, rfl, _⟩ := h
    rfl
  · obtain ⟨p, ng, nw, v, gs, ws, t, rfl, NA, hgl1, hv, hbig, qy, qn⟩ := h
    have nd := scChkLags.nd
    have hr1 : Room 1 _ := hr.mono (by decide)
    refine ⟨_, pss_cons (ps_if (PW.pt (pw_or (pt_not (pt_val (pe_callB call_isi (by rfl) B.isi (by decide +kernel) (pa_cons (pv 1) (pa_cons (pe_bltn (v := .ty "list") (by rfl) B.list (by decide +kernel) rfl) pa_nil)))))
          (pw_or1 (pt_cmpR op_ne (pe_callB call_len_seq (by rfl) B.len PySem.boot_len (pa_cons (pv 1) pa_nil)) (pe_callB call_len_seq (by rfl) B.len PySem.boot_len (pa_cons (pe_fld (pv 0) rfl) pa_nil)) (nomark _))))) (pss_one (ps_raise rfl (takes_of rfl rfl rfl rfl) (pmk_own PySem.F.excBase_ValueError NL.q NL.g NL.k (raises_own NL.e NL.t) (by rfl)))) pss_nil) <|
      pss_one <| ps_for (passes_of rfl) rfl (pi_zip (by rfl) B.zip (pa_cons (pe_fld (pv 0) rfl) (pa_cons (pv 1) pa_nil))) (pg_tup rfl (pgs_cons (pg_name (i := 2) nd rfl (.inl rfl)) (pgs_cons (pg_name (i := 3) nd rfl (.inl rfl)) pgs_nil))) <|
        pss_cons (ps_set (i := 4) nd rfl (.inl rfl) (pe_ifExp (pt_val (pe_call DO.ok hr1 (by rfl) DO.mg DO.kp DO.bd .nil pass0 (pa_cons (pv 2) pa_nil))) pe_int (pe_glob (v := .int 500) (by rfl) hgl ⟨_, rfl⟩))) <|
        pss_one <| ps_if (pt_not (pt_val (pe_call DFX hr (by rfl) DF.mg DF.kp DF.bd .nil pass0 (pa_cons (pv 3) (pa_cons (pe_un un_neg (pv 4)) (pa_cons (pv 4) pa_nil)))))) (pss_one (ps_raise rfl (takes_of rfl rfl rfl rfl) (pmk_own PySem.F.excBase_ValueError NL.q NL.g NL.k (raises_own NL.e NL.t) (by rfl)))) pss_nil, ?_⟩
    obtain ⟨dx, ob⟩ := id NA.ob
    obtain ⟨gv, hgv, ga⟩ := id NA.g
    have hlg : gv.length = gs.length := ga.1
    cases hv with
    | odd ty nl =>
      refine ⟨_, rfl, _, _, _, _, false, rfl, .ty "list", ty, kit_ty nl, false, rfl, iteT ?_⟩
      exact qn (fun ⟨os, e, _⟩ => by cases e) H (Same.refl H)
    | @lst ll vs os e al =>
      have hlo : vs.length = os.length := al.1
      have sl : SqL K H ll vs := SqL.of e
      refine ⟨_, rfl, _, _, _, _, true, rfl, .ty "list", ty_lst sl, kit_ty (by decide +kernel), true, rfl, iteF ?_⟩
      by_cases hne : os.length = gs.length
      · refine ⟨_, rfl, ll, _, rfl, .inl sl, _, rfl, p, C, dx, _, _, rfl, ob, T.cl, T.nG, nf_gates _ _, ng, gv, rfl, .inl (SqL.of hgv), rfl, false, ?_, iteF ?_⟩
        · rw [hlo, hlg, hne, decide_eq_true rfl]
          rfl
        refine ⟨_, rfl, p, C, dx, _, _, rfl, ob, T.cl, T.nG, nf_gates _ _, _, rfl, ng, ll, gv, _, rfl, SqL.of hgv, sl, RZ.for_zipL (K := K) (a := ng) (b := ll) (xs := gv) (ys := vs) (by rw [hlg, hlo, hne]) (fun i σ H' => ∃ s2 s3 s4 : Option V, σ = [some (.ref p), some (.ref ll), s2, s3, s4] ∧ Same H H' ∧ ∀ (j : Nat) (g : Gt) (o : Option Int), j < i → gs[j]? = some g → os[j]? = some o → ∃ n, o = some n ∧ -500 ≤ n ∧ n ≤ 500 ∧ (portK g.1 → n = 0)) ⟨_, _, _, rfl, Same.refl _, fun j g o h => absurd h (by omega)⟩ (fun i σ H' ⟨_, _, _, _, sm, _⟩ => ⟨SqL.of (sm _ _ hgv), sm.seq sl⟩) ?_ ?_⟩
        · rintro i x y T' σ H1 hx hy ⟨s2, s3, s4, rfl, sm, ok⟩ hT
          obtain ⟨g, hg, gv'⟩ := ga.get hx
          obtain ⟨o, ho, ov⟩ := al.get hy
          have sT := sm.trans (same_new (o := .tup [x, y]) hT)
          have ov' := ov.same sT
          refine ⟨T', _, rfl, .inl (.inl upd_same), rfl, _, _, rfl, _, _, rfl, rfl, ?_⟩
          have nx : ∀ n : Int, o = some n → -500 ≤ n → n ≤ 500 → (portK g.1 → n = 0) → ∀ (j : Nat) (g : Gt) (o : Option Int), j < i + 1 → gs[j]? = some g → os[j]? = some o → ∃ n, o = some n ∧ -500 ≤ n ∧ n ≤ 500 ∧ (portK g.1 → n = 0) := fun n e n0 n1 np j g' o' hj hg' ho' => by
            by_cases hji : j = i
            · subst hji
              rw [hg] at hg'
              rw [ho] at ho'
              cases hg'
              cases ho'
              exact ⟨n, e, n0, n1, np⟩
            · exact ok j g' o' (by omega) hg' ho'
          have bad : ∀ lo hi : Int, fromO o lo hi = false → (∀ n, o = some n → -500 ≤ n → n ≤ 500 → (portK g.1 → n = 0) → lo ≤ n ∧ n ≤ hi) → ¬ GoodT gs (some os) := fun lo hi hf hb ⟨os', e', hg'⟩ => by
            cases e'
            obtain ⟨n, e, n0, n1, np⟩ := hg'.2 i g o hg ho
            obtain ⟨k1, k2⟩ := hb n e n0 n1 np
            subst e
            have : (decide (lo ≤ n) && decide (n ≤ hi)) = false := hf
            rw [decide_eq_true k1, decide_eq_true k2] at this
            cases this
          have yes : ∀ lo hi : Int, fromO o lo hi = true → ∃ n, o = some n ∧ lo ≤ n ∧ n ≤ hi := fun lo hi hf => by
            cases o with
            | none => cases hf
            | some n =>
              have h : (decide (lo ≤ n) && decide (n ≤ hi)) = true := hf
              rw [Bool.and_eq_true, decide_eq_true_eq, decide_eq_true_eq] at h
              exact ⟨n, rfl, h.1, h.2⟩
          refine ⟨_, rfl, x, g, rfl, gv'.tk (TK.same sT), fun b hb => ⟨b, rfl, ite2 (fun e => ?_) (fun e => ?_)⟩⟩
          · refine ⟨_, rfl, _, rfl, _, rfl, _, rfl, y, o, 0, 0, rfl, ov', fromO o 0 0, rfl, ?_⟩
            cases ef : fromO o 0 0 with
            | false => exact iteT (qn (bad 0 0 ef fun n _ _ _ np => by have := np (hb.mp e); omega) _ sT)
            | true =>
              obtain ⟨n, e1, e2, e3⟩ := yes 0 0 ef
              exact iteF ⟨_, _, _, rfl, sT, nx n e1 (by omega) (by omega) fun _ => by omega⟩
          · refine ⟨_, rfl, _, rfl, _, rfl, _, rfl, y, o, -500, 500, rfl, ov', fromO o (-500) 500, rfl, ?_⟩
            cases ef : fromO o (-500) 500 with
            | false => exact iteT (qn (bad _ _ ef fun n _ n0 n1 _ => ⟨n0, n1⟩) _ sT)
            | true =>
              obtain ⟨n, e1, e2, e3⟩ := yes _ _ ef
              exact iteF ⟨_, _, _, rfl, sT, nx n e1 e2 e3 fun hp => absurd (hb.mpr hp) e⟩
        · rintro σ H1 ⟨s2, s3, s4, rfl, sm, ok⟩
          refine qy ⟨os, rfl, hne, fun i g o hg ho => ok i g o ?_ hg ho⟩ H1 sm
          rw [hlg]
          exact (List.getElem?_eq_some_iff.mp hg).1
      · refine ⟨_, rfl, ll, _, rfl, .inl sl, _, rfl, p, C, dx, _, _, rfl, ob, T.cl, T.nG, nf_gates _ _, ng, gv, rfl, .inl (SqL.of hgv), rfl, true, ?_, iteT ?_⟩
        · rw [hlo, hlg]
          show V.bl (!decide (V.int (os.length : Nat) = V.int (gs.length : Nat))) = V.bl true
          rw [decide_eq_false fun z => hne (by have := V.int.inj z; omega)]
          rfl
        exact qn (fun ⟨os', e', h⟩ => by cases e'; exact hne h.1) H (Same.refl H)
end
end Lag

set_option maxRecDepth 100000
set_option maxHeartbeats 8000000
namespace Lag
open PySem PySem.Spec PyProof.Rows L2
theorem OdV.num {H : Hp} {v : V} {n : Int} (h : OdV H v (some n)) : v = .int n := by
  cases h
  rfl
theorem odd_ints {H : Hp} {vs : List V} {ls : List Int} (h : All2 (OdV H) vs (ls.map some)) : vs = ls.map V.int := by
  have hl : vs.length = ls.length := by rw [h.1, List.length_map]
  refine List.ext_getElem? fun i => ?_
  by_cases hi : i < vs.length
  · obtain ⟨o, ho, ov⟩ := h.get (List.getElem?_eq_getElem hi)
    rw [List.getElem?_map, List.getElem?_eq_getElem (by omega)] at ho
    cases ho
    rw [List.getElem?_eq_getElem hi, List.getElem?_map, List.getElem?_eq_getElem (by omega), ov.num]
    rfl
  · rw [List.getElem?_eq_none (by omega), List.getElem?_eq_none (by rw [List.length_map]; omega)]
/-- asked with anything: told, or refused -/
def spAskX (K : PySem.W.Frag) (C CL : Addr) : Sp := fun vs H Q E => ∃ (p ng nw : Addr) (v : V) (gs : List Gt) (ws : List Wr) (t : Option (List (Option Int))), vs = [.ref p, v] ∧ NetAt K C H p ng nw gs ws ∧ NetOk gs ws ∧ LagsV K H gs v t ∧
  (∀ os, t = some os → os.length ≤ 1000) ∧ (GoodT gs t → ∀ y H', Same H H' → Q y H') ∧ (¬ GoodT gs t → ∀ H', Same H H' → E (.ref CL) none H')
theorem LagsV.good {K : PySem.W.Frag} {H : Hp} {gs : List Gt} {v : V} {t : Option (List (Option Int))} (h : LagsV K H gs v t) (g : GoodT gs t) : ∃ (a : Addr) (ls : List Int), v = .ref a ∧ H a = some (.lst (ls.map V.int)) ∧ LagOk gs ls := by
  obtain ⟨os, rfl, go⟩ := g
  obtain ⟨ls, rfl, lok⟩ := go.ints
  cases h with
  | lst e al =>
    rw [odd_ints al] at e
    exact ⟨_, ls, rfl, e, lok⟩
section
variable {P : Program} {w : World} {K : PySem.W.Frag} {mg : Str → Option Value} {base : Heap}
theorem ok_countsX {f fC fB C CL : Addr} {fd fdC fdB : FuncData} (F : Fun K "counts" "counts" sCounts f fd) (DX : FnOk P w K mg base (L2.CX P w) 3 fC fdC ["net", "lags"] (spChkX K C CL)) (DC : DChkLags P w K mg base C fC fdC) (DB : DCountsBy P w K mg base C fB fdB) : FnOk P w K mg base (L2.CX P w) 4 f fd ["net", "lags"] (spAskX K C CL) := by
  refine F.okX scCounts (fun vs H Q E h => ?_) (fun cdv A outer s H vs Q E hr h => ?_)
  · obtain ⟨p, ng, nw, v, gs, ws, t, rfl, _⟩ := h
    rfl
  · obtain ⟨p, ng, nw, v, gs, ws, t, rfl, NA, N, hv, hbig, qy, qn⟩ := h
    have hr1 : Room 1 _ := hr.mono (by decide)
    have hr3 : Room 3 _ := hr.mono (by decide)
    have hgl := N.gl
    refine ⟨_, pss_cons (ps_expr (pe_callS DX hr3 (by rfl) DC.mg DC.kp DC.bd (fun σ => passAt (takes_of rfl rfl rfl rfl) σ) (pa_cons (pv 0) (pa_cons (pv 1) pa_nil)))) <|
      pss_one <| ps_ret (pe_call DB.ok hr1 (by rfl) DB.mg DB.kp DB.bd .nil pass0 (pa_cons (pv 0) (pa_cons (pv 1) pa_nil))), ?_⟩
    refine ⟨_, rfl, _, rfl, p, ng, nw, v, gs, ws, t, rfl, NA, by omega, hv, hbig, fun g H1 s1 => ?_, fun b H1 s1 => qn b H1 s1⟩
    obtain ⟨a, ls, rfl, e, lok⟩ := hv.good g
    exact ⟨_, rfl, _, rfl, p, ng, nw, a, gs, ws, ls, rfl, NA.same s1, N, SqL.of (s1 _ _ e), lok.len, fun l H2 s2 _ _ => qy g _ H2 (s1.trans s2)⟩
theorem ok_areLetX {f fC fB C CL : Addr} {fd fdC fdB : FuncData} (F : Fun K "are_let" "are_let" sAreLet f fd) (DX : FnOk P w K mg base (L2.CX P w) 3 fC fdC ["net", "lags"] (spChkX K C CL)) (DC : DChkLags P w K mg base C fC fdC) (DB : DAreLetBy P w K mg base C fB fdB) : FnOk P w K mg base (L2.CX P w) 4 f fd ["net", "lags"] (spAskX K C CL) := by
  refine F.okX scAreLet (fun vs H Q E h => ?_) (fun cdv A outer s H vs Q E hr h => ?_)
  · obtain ⟨p, ng, nw, v, gs, ws, t, rfl, _⟩ := h
    rfl
  · obtain ⟨p, ng, nw, v, gs, ws, t, rfl, NA, N, hv, hbig, qy, qn⟩ := h
    have hr2 : Room 2 _ := hr.mono (by decide)
    have hr3 : Room 3 _ := hr.mono (by decide)
    have hgl := N.gl
    refine ⟨_, pss_cons (ps_expr (pe_callS DX hr3 (by rfl) DC.mg DC.kp DC.bd (fun σ => passAt (takes_of rfl rfl rfl rfl) σ) (pa_cons (pv 0) (pa_cons (pv 1) pa_nil)))) <|
      pss_one <| ps_ret (pe_call DB.ok hr2 (by rfl) DB.mg DB.kp DB.bd .nil pass0 (pa_cons (pv 0) (pa_cons (pv 1) pa_nil))), ?_⟩
    refine ⟨_, rfl, _, rfl, p, ng, nw, v, gs, ws, t, rfl, NA, by omega, hv, hbig, fun g H1 s1 => ?_, fun b H1 s1 => qn b H1 s1⟩
    obtain ⟨a, ls, rfl, e, lok⟩ := hv.good g
    exact ⟨_, rfl, _, rfl, p, ng, nw, a, gs, ws, ls, rfl, NA.same s1, N, SqL.of (s1 _ _ e), lok.len, fun H2 s2 => qy g _ H2 (s1.trans s2)⟩
end
end Lag

set_option maxRecDepth 100000
set_option maxHeartbeats 8000000
namespace Lag
open PySem PySem.Spec PyProof.Rows L2
abbrev sGCounts : Stmt := topS 54 -- @_law_counts
def Inner (gs : List Gt) (i : Nat) : Prop := i < gs.length ∧ kindAt gs i ≠ "in" ∧ kindAt gs i ≠ "out"
theorem port_notin {k : Str} : (!inV (.str k) [.str "in", .str "out"]) = innP k := by
  rw [Bool.eq_iff_iff]
  unfold inV innP
  simp only [List.any_cons, List.any_nil, Bool.or_false, Bool.not_or, Bool.and_eq_true, bne_iff_ne, ne_eq, Bool.not_eq_true']
  show ((("in" : Str) == k) = false ∧ (("out" : Str) == k) = false) ↔ _
  rw [beq_eq_false_iff_ne, beq_eq_false_iff_ne]
  exact ⟨fun h => ⟨fun z => h.1 z.symm, fun z => h.2 z.symm⟩, fun h => ⟨fun z => h.1 z.symm, fun z => h.2 z.symm⟩⟩
theorem inn_port {k : Str} : innP k = true ↔ ¬ portK k := by
  unfold innP portK
  simp only [Bool.and_eq_true, bne_iff_ne, ne_eq, not_or]
abbrev natV (r : List Nat) : List V := r.map fun i => V.int (i : Nat)
def spGCounts (K : PySem.W.Frag) : Sp := fun vs H Q _ => ∃ (lw ll : Addr) (wv : List V) (ws : List Wr) (ls : List Int), vs = [.ref lw, .ref ll] ∧ H lw = some (.lst wv) ∧ All2 (WireV K H) wv ws ∧ ws.length ≤ 1000 ∧ SqL K H ll (ls.map V.int) ∧ (∀ x ∈ ws, x.1 < ls.length ∧ x.2.1 < ls.length) ∧ ∀ l H', Same H H' → H l = none → H' l = some (.lst ((cntsL ws ls).map V.int)) → Q (.ref l) H'
theorem LagOk.set {gs : List Gt} {ls : List Int} {k : Nat} {v : Int} (h : LagOk gs ls) (hk : Inner gs k) (v0 : -500 ≤ v) (v1 : v ≤ 500) : LagOk gs (ls.set k v) := by
  refine ⟨by rw [List.length_set]; exact h.len, fun i g l hg hl => ?_⟩
  by_cases e : k = i
  · subst e
    rw [List.getElem?_set_self (by rw [h.len]; exact hk.1)] at hl
    cases hl
    refine ⟨v0, v1, fun hp => ?_⟩
    rw [← kindAt_get hg] at hp
    rcases hp with z | z
    · exact absurd z hk.2.1
    · exact absurd z hk.2.2
  · rw [List.getElem?_set_ne e] at hl
    exact h.ok i g l hg hl
theorem mem_setI {ls : List Int} {k : Nat} {v y : Int} (h : y ∈ ls.set k v) : y ∈ ls ∨ y = v := List.mem_or_eq_of_mem_set h
def regsL (ws : List Wr) : List Int := ws.map fun x => ((x.2.2.length : Nat) : Int)
section
variable {P : Program} {w : World} {K : PySem.W.Frag} {mg : Str → Option Value} {base : Heap}
abbrev nGCounts : List Str := ["_law_wires_here", "_law_lags_here", "_law_start", "_law_end", "_law_stock"]
theorem scGCounts : FnScope nGCounts ["_law_wires_here", "_law_lags_here"] (defScope sGCounts) := ⟨rfl, rfl, rfl, by decide +kernel, rfl, by decide +kernel, by decide +kernel⟩
abbrev DGCounts (P : Program) (w : World) (K : PySem.W.Frag) (mg : Str → Option Value) (base : Heap) := Df P w K mg base 1 "_law_counts" ["_law_wires_here", "_law_lags_here"] (spGCounts K)
theorem ok_gcounts {f : Addr} {fd : FuncData} (F : Fun K "_law_counts" "_law_counts" sGCounts f fd) (hm : mg "_law_counts" = some (.ref f)) (B : Bt mg) : DGCounts P w K mg base f fd := by
  refine ⟨?_, hm, F.kp, F.binds fun _ _ _ _ _ _ us hl => match us, hl with | [_, _], _ => rfl⟩
  refine F.ok scGCounts (fun vs H Q E h => ?_) (fun cdv A outer s H vs Q E hr h => ?_)
  · obtain ⟨lw, ll, wv, ws, ls, rfl, _⟩ := h
    rfl
  · obtain ⟨lw, ll, wv, ws, ls, rfl, hwv, wa, hwl, sl, hok, q⟩ := h
    have nd := scGCounts.nd
    refine ⟨_, pss_one <| ps_ret <| pe_lc (own := [("_law_start", 2), ("_law_end", 3), ("_law_stock", 4)]) (g := gTup K 3 (gCons (gName 2) (gCons (gName 3) (gCons (gName 4) gNil)))) (tt := tYes) (te := tOp (rI0 fun i j => .int (i - j)) (tOp (rI0 fun i j => .int (i + j)) (tCB (Evl.rLenS K) (tCons (tVar 4) tNil)) (tOp (rIxL K) (tVar 1) (tVar 3))) (tOp (rIxL K) (tVar 1) (tVar 2))) rfl nd
        (pi_list (pv 0)) (blkOk_by (N := nGCounts) (sc := defScope sGCounts) (own := [("_law_start", 2), ("_law_end", 3), ("_law_stock", 4)]) (by decide +kernel))
        (fun _ _ _ _ _ => pg_tup rfl (pgs_cons (pg_name (i := 2) nd rfl (.inl rfl)) (pgs_cons (pg_name (i := 3) nd rfl (.inl rfl)) (pgs_cons (pg_name (i := 4) nd rfl (.inl rfl)) pgs_nil)))) (fun _ _ _ _ _ => pts_nil)
        (fun _ _ _ _ _ => pe_op op_sub (pe_op op_add (pe_callB call_len_seq (by rfl) B.len PySem.boot_len (pa_cons (pv 4) pa_nil)) (pe_ix ix_list (pv 1) (pv 3) (fun _ _ => rfl))) (pe_ix ix_list (pv 1) (pv 2) (fun _ _ => rfl))), ?_⟩
    have hlw : wv.length = ws.length := wa.1
    refine ⟨_, rfl, lw, rfl, ⟨_, SqL.of hwv⟩, fun D hD => ?_⟩
    refine lc_list (K := K) (a := lw) (xs := wv) (fun i Hc => Hc D = some (.lst ((cntsL (ws.take i) ls).map V.int)) ∧ Same H Hc) ⟨by rw [upd_same]; rfl, same_new hD⟩ (fun i Hc _ ⟨_, sm⟩ => SqL.of (sm _ _ hwv)) ?_ ?_
    · rintro i v Hc hv ⟨hc, sm⟩
      obtain ⟨x, hx, a, b, rfl, sq1, sq2⟩ := wa.get hv
      have hi : i < ws.length := (List.getElem?_eq_some_iff.mp hx).1
      have WX := hok x (List.mem_of_getElem? hx)
      have tk := TK.same sm
      refine ⟨a, _, rfl, tk.seq sq1, rfl, _, _, rfl, _, _, rfl, _, _, rfl, rfl, rfl, tyes ?_⟩
      refine ⟨_, rfl, b, _, rfl, .inr (tk.seq sq2), _, rfl, _, rfl, ll, _, _, _, rfl, rfl, sm.seq sl, atI_nat (getD_at WX.2), _, _, rfl, rfl, ?_⟩
      refine ⟨_, rfl, _, rfl, ll, _, _, _, rfl, rfl, sm.seq sl, atI_nat (getD_at WX.1), _, _, rfl, rfl, _, hc, ?_, ?_, same_mut sm hD⟩
      · unfold cntsL
        rw [List.length_map, List.length_map, List.length_take]
        exact small1000 (by omega)
      · rw [upd_same, List.take_add_one, hx]
        unfold cntsL
        rw [List.map_append, List.map_append, List.length_map]
        rfl
    · rintro H2 ⟨hc, sm⟩
      rw [hlw, List.take_length] at hc
      exact q D H2 sm hD hc
end
end Lag

set_option maxRecDepth 100000
set_option maxHeartbeats 8000000
namespace Lag
open PySem PySem.Spec PyProof.Rows L2
/-! ### all but the tables of code objects stand as they stood -/
abbrev ExN := LamX.ExtN
theorem TK.ext {H H' : Hp} (e : ExN H H') : TK H H' := fun a o t h => e a o h fun ps z => by
  subst z
  exact t
theorem ext_lst {H H' : Hp} {a : Addr} {xs : List V} (e : ExN H H') (h : H a = some (.lst xs)) : H' a = some (.lst xs) := e _ _ h fun ps z => by cases z
theorem LG.ext {K : PySem.W.Frag} {H H' : Hp} {l : Addr} {gs : List Gt} (h : LG K H l gs) (e : ExN H H') : LG K H' l gs := by
  obtain ⟨vs, q, a⟩ := h
  exact ⟨vs, ext_lst e q, a.imp fun _ _ r => r.tk (TK.ext e)⟩
theorem LW.ext {K : PySem.W.Frag} {H H' : Hp} {l : Addr} {ws : List Wr} (h : LW K H l ws) (e : ExN H H') : LW K H' l ws := by
  obtain ⟨vs, q, a⟩ := h
  exact ⟨vs, ext_lst e q, a.imp fun _ _ r => r.tk (TK.ext e)⟩
theorem NetAt.ext {K : PySem.W.Frag} {C : Addr} {H H' : Hp} {p lg lw : Addr} {gs : List Gt} {ws : List Wr} (n : NetAt K C H p lg lw gs ws) (e : ExN H H') : NetAt K C H' p lg lw gs ws := by
  obtain ⟨dx, h⟩ := n.ob
  exact ⟨⟨dx, e _ _ h fun ps z => by cases z⟩, n.g.ext e, n.w.ext e, n.ne⟩
theorem OdV.ext {H H' : Hp} {v : V} {o : Option Int} (h : OdV H v o) (e : ExN H H') : OdV H' v o := by
  cases h with
  | int n => exact .int n
  | bl b => exact .bl b
  | non => exact .non
  | str x => exact .str x
  | tup h => exact .tup (e _ _ h fun ps z => by cases z)
  | lst h => exact .lst (e _ _ h fun ps z => by cases z)
theorem TyX.ext {K : PySem.W.Frag} {H H' : Hp} {v : V} {t : Value} (h : TyX K H v t) (e : ExN H H') : TyX K H' v t := by
  cases h with
  | base h =>
    refine .base ?_
    cases h with
    | non => exact .non
    | bl x => exact .bl x
    | int i => exact .int i
    | str x => exact .str x
    | flt x => exact .flt x
    | lst h => exact .lst (e _ _ h fun ps z => by cases z)
    | frz h => exact .frz (e _ _ h fun ps z => by cases z)
    | tup h => exact .tup (e _ _ h fun ps z => by cases z)
    | dK h => exact .dK (e _ _ h fun ps z => by cases z)
    | dT h => exact .dT (e _ _ h fun ps z => by cases z)
    | ins h cl ha hn htk hm => exact .ins (e _ _ h fun ps z => by cases z) cl ha hn htk hm
  | byt b => exact .byt b
  | set h => exact .set (e _ _ h fun ps z => by cases z)
  | kList h c => exact .kList h c
  | kTuple h c => exact .kTuple h c
  | kDict h c => exact .kDict h c
  | fTuple h => exact .fTuple (e _ _ h fun ps z => by cases z)
  | fDict h => exact .fDict (e _ _ h fun ps z => by cases z)
theorem LagsV.ext {K : PySem.W.Frag} {H H' : Hp} {gs : List Gt} {v : V} {t : Option (List (Option Int))} (h : LagsV K H gs v t) (e : ExN H H') : LagsV K H' gs v t := by
  cases h with
  | lst h al => exact .lst (ext_lst e h) (al.imp fun _ _ r => r.ext e)
  | odd h n => exact .odd (TyX.ext h e) n
theorem WellAt.ext {w : Addr} {H H' : Hp} (W : WellAt w H) (e : ExN H H') : WellAt w H' := by
  obtain ⟨xs, h, k⟩ := W
  exact ⟨xs, ext_lst e h, k⟩
end Lag

set_option maxRecDepth 100000
set_option maxHeartbeats 8000000
namespace Lag
open PySem PySem.Spec PyProof.Rows L2
/-! ### ways along wires, and their waits -/
inductive Way (R : Nat → Nat → Prop) (w : Nat → Int) (s : Nat) : Nat → Nat → Int → Prop
  | one : Way R w s s 0 (w s)
  | snoc {g e k : Nat} {t : Int} : Way R w s g k t → R g e → Way R w s e (k + 1) (t + w e)
theorem Way.cons {R : Nat → Nat → Prop} {w : Nat → Int} {s g e k : Nat} {t : Int} (r : R s g) (h : Way R w g e k t) : Way R w s e (k + 1) (w s + t) := by
  induction h with
  | one => exact .snoc .one r
  | snoc _ r' ih =>
    rw [← Int.add_assoc]
    exact .snoc ih r'
/-- a way read from its start -/
theorem Way.head {R : Nat → Nat → Prop} {w : Nat → Int} {s e k : Nat} {t : Int} (h : Way R w s e (k + 1) t) : ∃ g t', R s g ∧ Way R w g e k t' ∧ t = w s + t' := by
  generalize hm : k + 1 = m at h
  induction h generalizing k with
  | one => omega
  | @snoc g e j t h r ih =>
    have hj : j = k := by omega
    subst hj
    cases j with
    | zero =>
      cases h
      exact ⟨e, w e, r, .one, rfl⟩
    | succ j =>
      obtain ⟨g', t', r1, h1, e1⟩ := ih rfl
      exact ⟨g', t' + w e, r1, .snoc h1 r, by omega⟩
theorem Way.rank {R : Nat → Nat → Prop} {w : Nat → Int} {ρ : Nat → Nat} (hρ : ∀ a b, R a b → ρ a < ρ b) {s e k : Nat} {t : Int} (h : Way R w s e k t) : ρ s + k ≤ ρ e := by
  induction h with
  | one => omega
  | snoc _ r ih =>
    have := hρ _ _ r
    omega
theorem Way.lt {R : Nat → Nat → Prop} {w : Nat → Int} {n : Nat} (hR : ∀ a b, R a b → a < n ∧ b < n) {s e k : Nat} {t : Int} (h : Way R w s e k t) (hs : s < n) : e < n := by
  cases h with
  | one => exact hs
  | snoc _ r => exact (hR _ _ r).2
structure MaxW (R : Nat → Nat → Prop) (w : Nat → Int) (n : Nat) (M : Int) : Prop where
  is : ∃ s e k, s < n ∧ Way R w s e k M
  le : ∀ s e k t, s < n → Way R w s e k t → t ≤ M
theorem MaxW.eq {R : Nat → Nat → Prop} {w : Nat → Int} {n : Nat} {M M' : Int} (h : MaxW R w n M) (h' : MaxW R w n M') : M = M' := by
  obtain ⟨s, e, k, hs, h1⟩ := h.is
  obtain ⟨s', e', k', hs', h1'⟩ := h'.is
  exact Int.le_antisymm (h'.le _ _ _ _ hs h1) (h.le _ _ _ _ hs' h1')
/-- a rank below n: there are no longer ways than n - 1 wires -/
theorem rank_below {R : Nat → Nat → Prop} {n : Nat} (hR : ∀ a b, R a b → a < n ∧ b < n) {ρ : Nat → Nat} (hρ : ∀ a b, R a b → ρ a < ρ b) : ∃ r : Nat → Nat, (∀ a b, R a b → r a < r b) ∧ ∀ a, a < n → r a < n := by
  refine ⟨fun a => ((List.range n).filter fun b => decide (ρ b < ρ a)).length, fun a b r => ?_, fun a ha => ?_⟩
  · obtain ⟨ha, hb⟩ := hR a b r
    have hlt := hρ a b r
    have sub : ∀ l : List Nat, (l.filter fun c => decide (ρ c < ρ a)).length ≤ (l.filter fun c => decide (ρ c < ρ b)).length := fun l => by
      induction l with
      | nil => simp
      | cons c l ih =>
        rw [List.filter_cons, List.filter_cons]
        by_cases h1 : ρ c < ρ a
        · rw [if_pos (decide_eq_true h1), if_pos (decide_eq_true (by omega))]
          simp
          exact ih
        · rw [if_neg (by simpa using h1)]
          split
          · simp
            omega
          · exact ih
    have str : ∀ l : List Nat, a ∈ l → (l.filter fun c => decide (ρ c < ρ a)).length < (l.filter fun c => decide (ρ c < ρ b)).length := fun l => by
      induction l with
      | nil => intro h; simp at h
      | cons c l ih =>
        intro h
        rw [List.filter_cons, List.filter_cons]
        by_cases h1 : ρ c < ρ a
        · rw [if_pos (decide_eq_true h1), if_pos (decide_eq_true (by omega))]
          rcases List.mem_cons.mp h with e | h
          · subst e
            omega
          · have := ih h
            simp
            exact this
        · rw [if_neg (by simpa using h1)]
          rcases List.mem_cons.mp h with e | h
          · subst e
            rw [if_pos (decide_eq_true hlt)]
            have := sub l
            simp
            omega
          · have := ih h
            split
            · simp
              omega
            · exact this
    exact str _ (List.mem_range.mpr ha)
  · have h1 : ∀ l : List Nat, a ∈ l → (l.filter fun b => decide (ρ b < ρ a)).length < l.length := fun l => by
      induction l with
      | nil => intro h; simp at h
      | cons c l ih =>
        intro h
        rw [List.filter_cons]
        have := List.length_filter_le (fun b => decide (ρ b < ρ a)) l
        rcases List.mem_cons.mp h with e | h
        · subst e
          rw [if_neg (by simp), List.length_cons]
          omega
        · have := ih h
          split
          · rw [List.length_cons, List.length_cons]
            omega
          · rw [List.length_cons]
            omega
    have := h1 _ (List.mem_range.mpr ha)
    rwa [List.length_range] at this
/-! ### wires that have no registers, by counts of them -/
def BareR (ws : List Wr) (cs : List Int) (a b : Nat) : Prop := ∃ (p : Nat) (x : Wr), ws[p]? = some x ∧ cs[p]? = some 0 ∧ x.1 = a ∧ x.2.1 = b
def waitF (gs : List Gt) (g : Nat) : Int := (gs.getD g ("", 0)).2
theorem BareR.lt {gs : List Gt} {ws : List Wr} {cs : List Int} (N : NetOk gs ws) : ∀ a b, BareR ws cs a b → a < gs.length ∧ b < gs.length := fun a b ⟨p, x, hx, _, e1, e2⟩ => by
  have W := N.wok x (List.mem_of_getElem? hx)
  rw [← e1, ← e2]
  exact ⟨W.s, W.e⟩
def regsL' (ws : List Wr) : List Int := ws.map fun x => ((x.2.2.length : Nat) : Int)
theorem le_sum : ∀ (l : List Nat) (a : Nat), a ∈ l → a ≤ l.sum
  | [], a, h => by simp at h
  | b :: l, a, h => by
    rw [List.sum_cons]
    rcases List.mem_cons.mp h with e | e
    · omega
    · have := le_sum l a e
      omega
/-- with lags that are let there is a rank of the wires that have no registers then -/
theorem NetOk.rank_cnts {gs : List Gt} {ws : List Wr} {ls : List Int} (N : NetOk gs ws) (hl : ∀ y ∈ cntsL ws ls, 0 ≤ y) : ∃ r : Nat → Nat, (∀ a b, BareR ws (cntsL ws ls) a b → r a < r b) ∧ ∀ a, a < gs.length → r a < gs.length := by
  obtain ⟨ρ, hρ⟩ := N.rank
  have hM : ∀ x ∈ ws, ρ x.1 < 1 + (ws.map fun x => ρ x.1).sum := fun x hx => by
    have := le_sum (ws.map fun x => ρ x.1) (ρ x.1) (List.mem_map.mpr ⟨x, hx, rfl⟩)
    omega
  have hT : ∃ T : Nat, ∀ g, -(T : Int) ≤ ls.getD g 0 := by
    refine ⟨(ls.map Int.natAbs).sum, fun g => ?_⟩
    by_cases hg : g < ls.length
    · have h1 : ls.getD g 0 ∈ ls := by
        rw [List.getD_eq_getElem?_getD, List.getElem?_eq_getElem hg]
        exact List.getElem_mem hg
      have := le_sum (ls.map Int.natAbs) (ls.getD g 0).natAbs (List.mem_map.mpr ⟨_, h1, rfl⟩)
      omega
    · rw [List.getD_eq_getElem?_getD, List.getElem?_eq_none (by omega)]
      show -((_ : Nat) : Int) ≤ (0 : Int)
      omega
  generalize 1 + (ws.map fun x => ρ x.1).sum = M at hM
  have hT2 : ∃ T : Nat, ∀ g, ls.getD g 0 ≤ (T : Int) := by
    refine ⟨(ls.map Int.natAbs).sum, fun g => ?_⟩
    by_cases hg : g < ls.length
    · have h1 : ls.getD g 0 ∈ ls := by
        rw [List.getD_eq_getElem?_getD, List.getElem?_eq_getElem hg]
        exact List.getElem_mem hg
      have := le_sum (ls.map Int.natAbs) (ls.getD g 0).natAbs (List.mem_map.mpr ⟨_, h1, rfl⟩)
      omega
    · rw [List.getD_eq_getElem?_getD, List.getElem?_eq_none (by omega)]
      show (0 : Int) ≤ ((_ : Nat) : Int)
      omega
  obtain ⟨T, hT⟩ := hT2
  refine rank_below (BareR.lt N) (ρ := fun g => ((T : Int) - ls.getD g 0).toNat * M + ρ g) fun a b ⟨p, x, hx, hc, e1, e2⟩ => ?_
  subst e1 e2
  have hm := List.mem_of_getElem? hx
  unfold cntsL at hc
  rw [List.getElem?_map, hx] at hc
  have hc' : ((x.2.2.length : Nat) : Int) + ls.getD x.2.1 0 - ls.getD x.1 0 = 0 := Option.some.inj hc
  have t1 := hT x.1
  have t2 := hT x.2.1
  have m1 := hM x hm
  by_cases h0 : x.2.2 = []
  · have := hρ x hm h0
    rw [h0] at hc'
    have e : ls.getD x.2.1 0 = ls.getD x.1 0 := by
      have : ((([] : List Int).length : Nat) : Int) = 0 := rfl
      omega
    show _ * M + ρ x.1 < _ * M + ρ x.2.1
    rw [e]
    omega
  · have hp : 0 < x.2.2.length := List.length_pos_iff.mpr h0
    have e : ((T : Int) - ls.getD x.1 0).toNat + 1 ≤ ((T : Int) - ls.getD x.2.1 0).toNat := by omega
    have := Nat.mul_le_mul_right M e
    rw [Nat.add_mul, Nat.one_mul] at this
    show _ * M + ρ x.1 < _ * M + ρ x.2.1
    omega
theorem NetOk.rank_regs {gs : List Gt} {ws : List Wr} (N : NetOk gs ws) : ∃ r : Nat → Nat, (∀ a b, BareR ws (regsL' ws) a b → r a < r b) ∧ ∀ a, a < gs.length → r a < gs.length := by
  obtain ⟨ρ, hρ⟩ := N.rank
  refine rank_below (BareR.lt N) (ρ := ρ) fun a b ⟨p, x, hx, hc, e1, e2⟩ => ?_
  subst e1 e2
  unfold regsL' at hc
  rw [List.getElem?_map, hx] at hc
  have hc' : ((x.2.2.length : Nat) : Int) = 0 := Option.some.inj hc
  exact hρ x (List.mem_of_getElem? hx) (List.eq_nil_of_length_eq_zero (by omega))
/-! ### what arrivals tells -/
structure ArrOk (gs : List Gt) (ws : List Wr) (cs : List Int) (W : List Int) (La : List (Option Nat)) : Prop where
  wl : W.length = gs.length
  ll : La.length = gs.length
  ge : ∀ g, g < gs.length → waitF gs g ≤ W.getD g 0
  non : ∀ g, g < gs.length → La.getD g none = none → W.getD g 0 = waitF gs g
  som : ∀ (g p : Nat), g < gs.length → La.getD g none = some p → ∃ x : Wr, ws[p]? = some x ∧ cs[p]? = some 0 ∧ x.2.1 = g ∧ W.getD g 0 = W.getD x.1 0 + waitF gs g
  up : ∀ (p : Nat) (x : Wr), ws[p]? = some x → cs[p]? = some 0 → W.getD x.1 0 + waitF gs x.2.1 ≤ W.getD x.2.1 0
theorem ArrOk.le {gs : List Gt} {ws : List Wr} {cs : List Int} {W : List Int} {La : List (Option Nat)} (N : NetOk gs ws) (h : ArrOk gs ws cs W La) {s e k : Nat} {t : Int} (hs : s < gs.length) (hw : Way (BareR ws cs) (waitF gs) s e k t) : t ≤ W.getD e 0 := by
  induction hw with
  | one => exact h.ge _ hs
  | snoc h1 r ih =>
    have := ih
    obtain ⟨p, x, hx, hc, e1, e2⟩ := r
    subst e1 e2
    have := h.up p x hx hc
    omega
theorem ArrOk.way {gs : List Gt} {ws : List Wr} {cs : List Int} {W : List Int} {La : List (Option Nat)} (N : NetOk gs ws) (h : ArrOk gs ws cs W La) {r : Nat → Nat} (hr : ∀ a b, BareR ws cs a b → r a < r b) : ∀ (m g : Nat), r g = m → g < gs.length → ∃ s k, s < gs.length ∧ Way (BareR ws cs) (waitF gs) s g k (W.getD g 0) := by
  intro m
  induction m using Nat.strongRecOn with
  | ind m ih =>
    intro g hm hg
    cases e : La.getD g none with
    | none =>
      rw [h.non g hg e]
      exact ⟨g, 0, hg, .one⟩
    | some p =>
      obtain ⟨x, hx, hc, e1, e2⟩ := h.som g p hg e
      have R : BareR ws cs x.1 g := ⟨p, x, hx, hc, rfl, e1⟩
      have W1 := N.wok x (List.mem_of_getElem? hx)
      obtain ⟨s, k, hs, hw⟩ := ih (r x.1) (by have := hr _ _ R; omega) x.1 rfl W1.s
      rw [e2]
      exact ⟨s, k + 1, hs, .snoc hw R⟩
theorem ArrOk.max {gs : List Gt} {ws : List Wr} {cs : List Int} {W : List Int} {La : List (Option Nat)} (N : NetOk gs ws) (h : ArrOk gs ws cs W La) {r : Nat → Nat} (hr : ∀ a b, BareR ws cs a b → r a < r b) {m : Int} (hm : m ∈ W) (hle : ∀ y ∈ W, y ≤ m) : MaxW (BareR ws cs) (waitF gs) gs.length m := by
  obtain ⟨g, hg, eg⟩ := List.getElem_of_mem hm
  have hg' : g < gs.length := by rw [← h.wl]; exact hg
  have eg' : W.getD g 0 = m := by rw [List.getD_eq_getElem?_getD, List.getElem?_eq_getElem hg, eg]; rfl
  refine ⟨?_, fun s e k t hs hw => ?_⟩
  · obtain ⟨s, k, hs, hw⟩ := h.way N hr _ g rfl hg'
    rw [eg'] at hw
    exact ⟨s, g, k, hs, hw⟩
  · have he := hw.lt (BareR.lt N) hs
    have h1 := h.le N hs hw
    have : W.getD e 0 ∈ W := by
      rw [List.getD_eq_getElem?_getD, List.getElem?_eq_getElem (by rw [h.wl]; exact he)]
      exact List.getElem_mem _
    exact Int.le_trans h1 (hle _ this)
/-- a row of wires that leads on from s to e -/
def Chain (ws : List Wr) (cs : List Int) : Nat → List Nat → Nat → Prop
  | s, [], e => s = e
  | s, p :: r, e => ∃ x, ws[p]? = some x ∧ cs[p]? = some 0 ∧ x.1 = s ∧ Chain ws cs x.2.1 r e
def endOf (ws : List Wr) (p : Nat) : Nat := (ws.getD p (0, 0, [])).2.1
end Lag

set_option maxRecDepth 100000
set_option maxHeartbeats 8000000
namespace Lag
open PySem PySem.Spec PyProof.Rows L2
abbrev sHeld : Stmt := topS 43 -- @held_by_wire
abbrev sArr : Stmt := topS 44 -- @arrivals
def lastV : Option Nat → V
  | none => .non
  | some p => .int (p : Nat)
def bareTo (cs : List Int) (i : Nat) : List Nat := (List.range i).filter fun p => cs.getD p 1 == 0
theorem bareTo_succ (cs : List Int) (i : Nat) : bareTo cs (i + 1) = if cs.getD i 1 = 0 then bareTo cs i ++ [i] else bareTo cs i := by
  unfold bareTo
  rw [List.range_succ, List.filter_append]
  split
  · rename_i e
    rw [List.filter_cons_of_pos (by rw [e]; rfl)]
    rfl
  · rename_i e
    rw [List.filter_cons_of_neg (by simpa using e)]
    simp
theorem mem_bareTo {cs : List Int} {p : Nat} : p ∈ bareTo cs cs.length ↔ cs[p]? = some 0 := by
  unfold bareTo
  rw [List.mem_filter, List.mem_range]
  constructor
  · rintro ⟨h, e⟩
    rw [List.getD_eq_getElem?_getD, List.getElem?_eq_getElem h] at e
    rw [List.getElem?_eq_getElem h]
    exact congrArg some (eq_of_beq e)
  · intro e
    refine ⟨(List.getElem?_eq_some_iff.mp e).1, ?_⟩
    rw [List.getD_eq_getElem?_getD, e]
    rfl
theorem getD_setI {l : List Int} {e g : Nat} {v d : Int} (h : e < l.length) : (l.set e v).getD g d = if g = e then v else l.getD g d := by
  rw [List.getD_eq_getElem?_getD, List.getElem?_set]
  by_cases he : e = g
  · subst he
    rw [if_pos rfl, if_pos rfl, if_pos h]
    rfl
  · rw [if_neg he, if_neg (fun z => he z.symm), List.getD_eq_getElem?_getD]
theorem getD_setO {l : List (Option Nat)} {e g : Nat} {v d : Option Nat} (h : e < l.length) : (l.set e v).getD g d = if g = e then v else l.getD g d := by
  rw [List.getD_eq_getElem?_getD, List.getElem?_set]
  by_cases he : e = g
  · subst he
    rw [if_pos rfl, if_pos rfl, if_pos h]
    rfl
  · rw [if_neg he, if_neg (fun z => he z.symm), List.getD_eq_getElem?_getD]
/-! ### the loop's invariant: ord.take i and the first j bare wires out of ord[i] are done -/
structure AI (gs : List Gt) (ws : List Wr) (cs : List Int) (ord : List Nat) (i j : Nat) (W : List Int) (La : List (Option Nat)) : Prop where
  wl : W.length = gs.length
  ll : La.length = gs.length
  ge : ∀ g, g < gs.length → waitF gs g ≤ W.getD g 0
  non : ∀ g, g < gs.length → La.getD g none = none → W.getD g 0 = waitF gs g
  som : ∀ (g p : Nat), g < gs.length → La.getD g none = some p → ∃ x : Wr, ws[p]? = some x ∧ cs[p]? = some 0 ∧ x.2.1 = g ∧ x.1 ∈ ord.take (i + 1) ∧ W.getD g 0 = W.getD x.1 0 + waitF gs g
  up : ∀ (b p : Nat) (x : Wr), (bareTo cs cs.length)[b]? = some p → ws[p]? = some x → (x.1 ∈ ord.take i ∨ (ord[i]? = some x.1 ∧ b < j)) → W.getD x.1 0 + waitF gs x.2.1 ≤ W.getD x.2.1 0
def pairsL (ws : List Wr) (l : List Nat) : List (Nat × Nat) := l.map fun p => ((ws.getD p (0, 0, [])).1, (ws.getD p (0, 0, [])).2.1)
theorem AI.start {gs : List Gt} {ws : List Wr} {cs : List Int} {ord : List Nat} : AI gs ws cs ord 0 0 (gs.map fun g => g.2) (List.replicate gs.length none) := by
  have w : ∀ g, g < gs.length → (gs.map fun g => g.2).getD g 0 = waitF gs g := fun g hg => by
    unfold waitF
    rw [List.getD_eq_getElem?_getD, List.getElem?_map, List.getElem?_eq_getElem hg, List.getD_eq_getElem?_getD, List.getElem?_eq_getElem hg]
    rfl
  have nn : ∀ g, (List.replicate gs.length (none : Option Nat)).getD g none = none := fun g => by
    rw [List.getD_eq_getElem?_getD, List.getElem?_replicate]
    split <;> rfl
  refine ⟨by simp, by simp, fun g hg => by rw [w g hg]; exact Int.le_refl _, fun g hg _ => w g hg, fun g p hg e => (by rw [nn] at e; cases e), fun b p x _ _ h => ?_⟩
  rcases h with h | h
  · simp at h
  · omega
theorem AI.keep {gs : List Gt} {ws : List Wr} {cs : List Int} {ord : List Nat} {i j p : Nat} {W : List Int} {La : List (Option Nat)} {x : Wr} (h : AI gs ws cs ord i j W La) (hb : (bareTo cs cs.length)[j]? = some p) (hx : ws[p]? = some x)
    (hn : ord[i]? = some x.1 → W.getD x.1 0 + waitF gs x.2.1 ≤ W.getD x.2.1 0) : AI gs ws cs ord i (j + 1) W La := by
  refine ⟨h.wl, h.ll, h.ge, h.non, h.som, fun b p' x' hb' hx' hc => ?_⟩
  rcases hc with hc | ⟨e, hlt⟩
  · exact h.up b p' x' hb' hx' (.inl hc)
  · by_cases hbj : b = j
    · subst hbj
      rw [hb] at hb'
      cases hb'
      rw [hx] at hx'
      cases hx'
      exact hn e
    · exact h.up b p' x' hb' hx' (.inr ⟨e, by omega⟩)
theorem AI.nxt {gs : List Gt} {ws : List Wr} {cs : List Int} {ord : List Nat} {i : Nat} {W : List Int} {La : List (Option Nat)} (h : AI gs ws cs ord i (bareTo cs cs.length).length W La) : AI gs ws cs ord (i + 1) 0 W La := by
  refine ⟨h.wl, h.ll, h.ge, h.non, fun g p hg e => ?_, fun b p x hb hx hc => ?_⟩
  · obtain ⟨x, h1, h2, h3, h4, h5⟩ := h.som g p hg e
    refine ⟨x, h1, h2, h3, ?_, h5⟩
    have : ord.take (i + 1) <+: ord.take (i + 1 + 1) := List.take_prefix_take_left (by omega)
    exact this.subset h4
  · rcases hc with hc | ⟨_, hlt⟩
    · rw [List.take_add_one] at hc
      rcases List.mem_append.mp hc with hc | hc
      · exact h.up b p x hb hx (.inl hc)
      · refine h.up b p x hb hx (.inr ⟨?_, (List.getElem?_eq_some_iff.mp hb).1⟩)
        cases e : ord[i]? with
        | none =>
          rw [e] at hc
          simp at hc
        | some y =>
          rw [e] at hc
          simp at hc
          rw [hc]
    · omega
theorem AI.fin {gs : List Gt} {ws : List Wr} {cs : List Int} {ord : List Nat} {W : List Int} {La : List (Option Nat)} (N : NetOk gs ws) (all : ∀ g, g < gs.length → g ∈ ord) (h : AI gs ws cs ord ord.length 0 W La) : ArrOk gs ws cs W La := by
  refine ⟨h.wl, h.ll, h.ge, h.non, fun g p hg e => ?_, fun p x hx hc => ?_⟩
  · obtain ⟨x, h1, h2, h3, _, h5⟩ := h.som g p hg e
    exact ⟨x, h1, h2, h3, h5⟩
  · obtain ⟨b, hb, eb⟩ := List.getElem_of_mem (mem_bareTo.mpr hc)
    refine h.up b p x (by rw [List.getElem?_eq_getElem hb, eb]) hx (.inl ?_)
    rw [List.take_length]
    exact all _ (N.wok x (List.mem_of_getElem? hx)).s
theorem AI.upd {gs : List Gt} {ws : List Wr} {cs : List Int} {ord : List Nat} {i j p : Nat} {W : List Int} {La : List (Option Nat)} {x : Wr} (N : NetOk gs ws) (KI0 : KI (pairsL ws (bareTo cs cs.length)) gs.length ord ord.length) (h : AI gs ws cs ord i j W La) (hb : (bareTo cs cs.length)[j]? = some p) (hx : ws[p]? = some x)
    (hi : ord[i]? = some x.1) (hlt : W.getD x.2.1 0 < W.getD x.1 0 + waitF gs x.2.1) : AI gs ws cs ord i (j + 1) (W.set x.2.1 (W.getD x.1 0 + waitF gs x.2.1)) (La.set x.2.1 (some p)) := by
  have WX := N.wok x (List.mem_of_getElem? hx)
  have hcp : cs[p]? = some 0 := mem_bareTo.mp (List.mem_of_getElem? hb)
  have pm : (x.1, x.2.1) ∈ pairsL ws (bareTo cs cs.length) := by
    refine List.mem_map.mpr ⟨p, List.mem_of_getElem? hb, ?_⟩
    rw [List.getD_eq_getElem?_getD, hx]
    rfl
  -- the end is not done yet
  have later : x.2.1 ∉ ord.take (i + 1) := fun hm => by
    obtain ⟨k, hk, ek⟩ := List.getElem_of_mem hm
    have hk' : k < i + 1 := by
      rw [List.length_take] at hk
      omega
    have ek' : ord[k]? = some x.2.1 := by
      rw [← ek, List.getElem_take, List.getElem?_eq_getElem]
    have hm2 := KI0.top k x.2.1 ek' _ pm rfl
    obtain ⟨k2, hk2, ek2⟩ := List.getElem_of_mem hm2
    have hk2' : k2 < k := by
      rw [List.length_take] at hk2
      omega
    have ek2' : ord[k2]? = some x.1 := by
      have e2 : ord[k2]'(by rw [List.length_take] at hk2; omega) = x.1 := by
        rw [← ek2, List.getElem_take]
      rw [← e2, List.getElem?_eq_getElem]
    have hl2 : k2 < ord.length := (List.getElem?_eq_some_iff.mp ek2').1
    have hli : i < ord.length := (List.getElem?_eq_some_iff.mp hi).1
    have := (List.getElem?_inj hl2 KI0.nd).mp (ek2'.trans hi.symm)
    omega
  have xi : x.1 ∈ ord.take (i + 1) := by
    rw [List.take_add_one, hi]
    exact List.mem_append_right _ (by simp)
  have ne : x.1 ≠ x.2.1 := fun z => later (by rw [← z]; exact xi)
  have we : x.2.1 < W.length := by rw [h.wl]; exact WX.e
  have le : x.2.1 < La.length := by rw [h.ll]; exact WX.e
  have g1 : ∀ g, (W.set x.2.1 (W.getD x.1 0 + waitF gs x.2.1)).getD g 0 = if g = x.2.1 then W.getD x.1 0 + waitF gs x.2.1 else W.getD g 0 := fun g => getD_setI we
  have g2 : ∀ g, (La.set x.2.1 (some p)).getD g none = if g = x.2.1 then some p else La.getD g none := fun g => getD_setO le
  refine ⟨by rw [List.length_set]; exact h.wl, by rw [List.length_set]; exact h.ll, fun g hg => ?_, fun g hg e => ?_, fun g p' hg e => ?_, fun b p' x' hb' hx' hc => ?_⟩
  · rw [g1]
    split
    · rename_i e
      subst e
      have := h.ge x.2.1 hg
      omega
    · exact h.ge g hg
  · rw [g2] at e
    rw [g1]
    split at e
    · cases e
    · rename_i z
      rw [if_neg z]
      exact h.non g hg e
  · rw [g2] at e
    split at e
    · rename_i z
      subst z
      cases e
      refine ⟨x, hx, hcp, rfl, xi, ?_⟩
      rw [g1, g1, if_pos rfl, if_neg ne]
    · rename_i z
      obtain ⟨x', h1, h2, h3, h4, h5⟩ := h.som g p' hg e
      refine ⟨x', h1, h2, h3, h4, ?_⟩
      have n' : x'.1 ≠ x.2.1 := fun q => later (by rw [← q]; exact h4)
      rw [g1, g1, if_neg z, if_neg n']
      exact h5
  · have n' : x'.1 ≠ x.2.1 := fun q => later (by
      rw [← q]
      rcases hc with hc | ⟨e, _⟩
      · have : ord.take i <+: ord.take (i + 1) := List.take_prefix_take_left (by omega)
        exact this.subset hc
      · rw [List.take_add_one, e]
        exact List.mem_append_right _ (by simp))
    rw [g1, g1, if_neg n']
    have old : (x'.1 ∈ ord.take i ∨ (ord[i]? = some x'.1 ∧ b < j)) → W.getD x'.1 0 + waitF gs x'.2.1 ≤ W.getD x'.2.1 0 := h.up b p' x' hb' hx'
    split
    · rename_i z
      by_cases hbj : b = j
      · subst hbj
        rw [hb] at hb'
        cases hb'
        rw [hx] at hx'
        cases hx'
        exact Int.le_refl _
      · have := old (hc.imp id fun ⟨e, hl⟩ => ⟨e, by omega⟩)
        rw [z] at this ⊢
        omega
    · rename_i z
      by_cases hbj : b = j
      · subst hbj
        rw [hb] at hb'
        cases hb'
        rw [hx] at hx'
        cases hx'
        exact absurd rfl z
      · exact old (hc.imp id fun ⟨e, hl⟩ => ⟨e, by omega⟩)
end Lag

set_option maxRecDepth 100000
set_option maxHeartbeats 8000000
namespace Lag
open PySem PySem.Spec PyProof.Rows L2
def spHeld (K : PySem.W.Frag) (C : Addr) : Sp := fun vs H Q _ => ∃ (p ng nw : Addr) (gs : List Gt) (ws : List Wr), vs = [.ref p] ∧ NetAt K C H p ng nw gs ws ∧ NetOk gs ws ∧ ∀ l H', Same H H' → H l = none → H' l = some (.lst ((regsL' ws).map V.int)) → Q (.ref l) H'
def spArr (K : PySem.W.Frag) (C : Addr) : Sp := fun vs H Q _ => ∃ (p ng nw lm : Addr) (gs : List Gt) (ws : List Wr) (cs : List Int), vs = [.ref p, .ref lm] ∧ NetAt K C H p ng nw gs ws ∧ NetOk gs ws ∧ SqL K H lm (cs.map V.int) ∧ cs.length = ws.length ∧ (∃ r : Nat → Nat, ∀ a b, BareR ws cs a b → r a < r b) ∧
  ∀ (t lW lL : Addr) (W : List Int) (La : List (Option Nat)) (H' : Hp), Same H H' → H' t = some (.tup [.ref lW, .ref lL]) → H' lW = some (.lst (W.map V.int)) → H' lL = some (.lst (La.map lastV)) → ArrOk gs ws cs W La → Q (.ref t) H'
theorem pairsL_get {ws : List Wr} {l : List Nat} {j k : Nat} {x : Wr} (h : l[j]? = some k) (hx : ws[k]? = some x) : (pairsL ws l)[j]? = some (x.1, x.2.1) := by
  unfold pairsL
  rw [List.getElem?_map, h]
  show some ((ws.getD k (0, 0, [])).1, (ws.getD k (0, 0, [])).2.1) = _
  rw [List.getD_eq_getElem?_getD, hx]
  rfl
theorem KI.all {B : List (Nat × Nat)} {n : Nat} {ord : List Nat} (h : KI B n ord ord.length) (hB : ∀ b ∈ B, b.1 < n) {ρ : Nat → Nat} (hρ : ∀ b ∈ B, ρ b.1 < ρ b.2) : ∀ g, g < n → g ∈ ord := by
  have all : ∀ r e, e < n → ρ e = r → e ∈ ord := by
    intro r
    induction r using Nat.strongRecOn with
    | ind r ih =>
      intro e he hr
      rw [h.iff e he, List.take_length]
      unfold mis
      rw [List.countP_eq_zero]
      intro b hb
      simp
      intro z
      exact ih (ρ b.1) (by rw [← hr, ← z]; exact hρ b hb) b.1 (hB b hb) rfl
  exact fun g hg => all _ g hg rfl
section
variable {P : Program} {w : World} {K : PySem.W.Frag} {mg : Str → Option Value} {base : Heap}
abbrev nHeld : List Str := ["net", "start", "end", "held"]
theorem scHeld : FnScope nHeld ["net"] (defScope sHeld) := ⟨rfl, rfl, rfl, by decide +kernel, rfl, by decide +kernel, by decide +kernel⟩
abbrev DHeld (P : Program) (w : World) (K : PySem.W.Frag) (mg : Str → Option Value) (base : Heap) (C : Addr) := Df P w K mg base 1 "held_by_wire" ["net"] (spHeld K C)
theorem ok_held {f C : Addr} {fd : FuncData} (F : Fun K "held_by_wire" "held_by_wire" sHeld f fd) (hm : mg "held_by_wire" = some (.ref f)) (B : Bt mg) (T : NT K mg C) : DHeld P w K mg base C f fd := by
  refine ⟨?_, hm, F.kp, F.binds fun _ _ _ _ _ _ us hl => match us, hl with | [_], _ => rfl⟩
  refine F.ok scHeld (fun vs H Q E h => ?_) (fun cdv A outer s H vs Q E hr h => ?_)
  · obtain ⟨p, ng, nw, gs, ws, rfl, _⟩ := h
    rfl
  · obtain ⟨p, ng, nw, gs, ws, rfl, NA, N, q⟩ := h
    have nd := scHeld.nd
    refine ⟨_, pss_one (ps_ret (pe_lc (own := [("start", 1), ("end", 2), ("held", 3)]) (g := (gTup K 3 (gCons (gName 1) (gCons (gName 2) (gCons (gName 3) gNil))))) (tt := tYes) (te := (tCB (Evl.rLenS K) (tCons (tVar 3) tNil))) rfl nd (pi_list (pe_fld (pv 0) rfl)) (blkOk_by (N := nHeld) (sc := defScope sHeld) (own := [("start", 1), ("end", 2), ("held", 3)]) (by decide +kernel)) (fun _ _ _ _ _ => (pg_tup rfl (pgs_cons (pg_name (i := 1) nd rfl (.inl rfl)) (pgs_cons (pg_name (i := 2) nd rfl (.inl rfl)) (pgs_cons (pg_name (i := 3) nd rfl (.inl rfl)) pgs_nil))))) (fun _ _ _ _ _ => pts_nil) (fun _ _ _ _ _ => (pe_callB call_len_seq (by rfl) B.len PySem.boot_len (pa_cons (pv 3) pa_nil))))), ?_⟩
    have hwl := N.wl
    obtain ⟨dx, ob⟩ := id NA.ob
    obtain ⟨wv, hwv, wa⟩ := id NA.w
    have hlw : wv.length = ws.length := wa.1
    refine ⟨_, rfl, p, C, dx, _, _, rfl, ob, T.cl, T.nW, nf_wires _ _, nw, rfl, ⟨_, SqL.of hwv⟩, fun D hD => ?_⟩
    refine lc_list (K := K) (a := nw) (xs := wv) (fun i Hc => Hc D = some (.lst ((regsL' (ws.take i)).map V.int)) ∧ Same H Hc) ⟨by rw [upd_same]; rfl, same_new hD⟩ (fun i Hc _ ⟨_, sm⟩ => SqL.of (sm _ _ hwv)) ?_ ?_
    · rintro i v Hc hv ⟨hc, sm⟩
      obtain ⟨x, hx, a, b, rfl, sq1, sq2⟩ := wa.get hv
      have hi : i < ws.length := (List.getElem?_eq_some_iff.mp hx).1
      have tk := TK.same sm
      refine ⟨a, _, rfl, tk.seq sq1, rfl, _, _, rfl, _, _, rfl, _, _, rfl, rfl, rfl, tyes ?_⟩
      refine ⟨_, rfl, b, _, rfl, .inr (tk.seq sq2), _, hc, ?_, ?_, same_mut sm hD⟩
      · unfold regsL'
        rw [List.length_map, List.length_map, List.length_take]
        exact small1000 (by omega)
      · rw [upd_same, List.take_add_one, hx]
        unfold regsL'
        rw [List.map_append, List.map_append, List.length_map]
        rfl
    · rintro H2 ⟨hc, sm⟩
      rw [hlw, List.take_length] at hc
      exact q D H2 sm hD hc
abbrev nArr : List Str := ["net", "many", "place", "here", "bare", "pairs", "kind", "wait", "waits", "last", "gate", "start", "end", "come"]
theorem scArr : FnScope nArr ["net", "many"] (defScope sArr) := ⟨rfl, rfl, rfl, by decide +kernel, rfl, by decide +kernel, by decide +kernel⟩
abbrev DArr (P : Program) (w : World) (K : PySem.W.Frag) (mg : Str → Option Value) (base : Heap) (C : Addr) := Df P w K mg base 2 "arrivals" ["net", "many"] (spArr K C)
theorem ok_arr {f fO C : Addr} {fd fdO : FuncData} (F : Fun K "arrivals" "arrivals" sArr f fd) (hm : mg "arrivals" = some (.ref f)) (B : Bt mg) (T : NT K mg C) (DO : DAlong P w K mg base fO fdO) : DArr P w K mg base C f fd := by
  refine ⟨?_, hm, F.kp, F.binds fun _ _ _ _ _ _ us hl => match us, hl with | [_, _], _ => rfl⟩
  refine F.ok scArr (fun vs H Q E h => ?_) (fun cdv A outer s H vs Q E hr h => ?_)
  · obtain ⟨p, ng, nw, lm, gs, ws, cs, rfl, _⟩ := h
    rfl
  · obtain ⟨p, ng, nw, lm, gs, ws, cs, rfl, NA, N, sm0, hcl, rk, q⟩ := h
    have nd := scArr.nd
    refine ⟨_, pss_cons (ps_setLc (i := 4) (own := [("place", 2), ("here", 3)]) (g := (gTup K 2 (gCons (gName 2) (gCons (gName 3) gNil)))) (tt := (tTest (tOp rEq (tVar 3) (tC (.int 0))))) (te := (tVar 2)) rfl nd rfl rfl (sw_true rfl rfl rfl (by decide +kernel)) (pi_enum (by rfl) B.enum (pa_cons (pv 1) pa_nil)) (blkOk_by (N := nArr) (sc := defScope sArr) (own := [("place", 2), ("here", 3)]) (by decide +kernel)) (fun _ _ _ _ _ => (pg_tup rfl (pgs_cons (pg_name (i := 2) nd rfl (.inl rfl)) (pgs_cons (pg_name (i := 3) nd rfl (.inl rfl)) pgs_nil)))) (fun _ _ _ _ _ => pts_one (pt_cmpR op_eq (pv 3) pe_int (nomark _))) (fun _ _ _ _ _ => (pv 2))) <|
        pss_cons (ps_setLc (i := 5) (own := [("place", 2)]) (g := (gName 2)) (tt := tYes) (te := (tTup (tCons (tOp (rIxT K) (tOp (rIxL K) (tFld K (tVar 0) "wires") (tVar 2)) (tC (.int 0))) (tCons (tOp (rIxT K) (tOp (rIxL K) (tFld K (tVar 0) "wires") (tVar 2)) (tC (.int 1))) tNil)))) rfl nd rfl rfl (sw_true rfl rfl rfl (by decide +kernel)) (pi_list (pv 4)) (blkOk_by (N := nArr) (sc := defScope sArr) (own := [("place", 2)]) (by decide +kernel)) (fun _ _ _ _ _ => (pg_name (i := 2) nd rfl (.inl rfl))) (fun _ _ _ _ _ => pts_nil) (fun _ _ _ _ _ => (pe_tup (pa_cons (pe_ix ix_tup (pe_ix ix_list (pe_fld (pv 0) rfl) (pv 2) (fun _ _ => rfl)) pe_int (fun _ _ => rfl)) (pa_cons (pe_ix ix_tup (pe_ix ix_list (pe_fld (pv 0) rfl) (pv 2) (fun _ _ => rfl)) pe_int (fun _ _ => rfl)) pa_nil))))) <|
        pss_cons (ps_setLc (i := 8) (own := [("kind", 6), ("wait", 7)]) (g := (gTup K 2 (gCons (gName 6) (gCons (gName 7) gNil)))) (tt := tYes) (te := (tVar 7)) rfl nd rfl rfl (sw_true rfl rfl rfl (by decide +kernel)) (pi_list (pe_fld (pv 0) rfl)) (blkOk_by (N := nArr) (sc := defScope sArr) (own := [("kind", 6), ("wait", 7)]) (by decide +kernel)) (fun _ _ _ _ _ => (pg_tup rfl (pgs_cons (pg_name (i := 6) nd rfl (.inl rfl)) (pgs_cons (pg_name (i := 7) nd rfl (.inl rfl)) pgs_nil)))) (fun _ _ _ _ _ => pts_nil) (fun _ _ _ _ _ => (pv 7))) <|
        pss_cons (ps_set (i := 9) nd rfl (.inl rfl) (pe_op op_rep (pe_lst (pa_cons pe_non pa_nil)) (pe_callB call_len_seq (by rfl) B.len PySem.boot_len (pa_cons (pe_fld (pv 0) rfl) pa_nil)))) <|
        pss_cons (ps_for PassesOwn.never rfl (pi_list (pe_call DO.ok (hr.mono (by decide)) (by rfl) DO.mg DO.kp DO.bd .nil pass0 (pa_cons (pe_callB call_len_seq (by rfl) B.len PySem.boot_len (pa_cons (pe_fld (pv 0) rfl) pa_nil)) (pa_cons (pv 5) pa_nil)))) (pg_name (i := 10) nd rfl (.inl rfl)) (pss_one (ps_for PassesOwn.never rfl (pi_zip (by rfl) B.zip (pa_cons (pv 4) (pa_cons (pv 5) pa_nil))) (pg_tup rfl (pgs_cons (pg_name (i := 2) nd rfl (.inl rfl)) (pgs_cons (pg_tup rfl (pgs_cons (pg_name (i := 11) nd rfl (.inl rfl)) (pgs_cons (pg_name (i := 12) nd rfl (.inl rfl)) pgs_nil))) pgs_nil))) (pss_cons (ps_set (i := 13) nd rfl (.inl rfl) (pe_op op_add (pe_ix ix_list (pv 8) (pv 10) (fun _ _ => rfl)) (pe_ix ix_tup (pe_ix ix_list (pe_fld (pv 0) rfl) (pv 12) (fun _ _ => rfl)) pe_int (fun _ _ => rfl)))) <|
        pss_one (ps_if (PW.pt (pw_and (pt_cmpR op_eq (pv 11) (pv 10) (nomark _)) (pw_and1 (pt_cmpR op_gt (pv 13) (pe_ix ix_list (pv 8) (pv 12) (fun _ _ => rfl)) (nomark _))))) (pss_cons (ps_asg (pv 13) (pg_sub (pv 8) (pv 12) set_list)) <|
        pss_one (ps_asg (pv 2) (pg_sub (pv 9) (pv 12) set_list))) pss_nil))))) <|
        pss_one (ps_ret (pe_tup (pa_cons (pv 8) (pa_cons (pv 9) pa_nil)))), ?_⟩
    have hwl := N.wl
    have hgl := N.gl
    obtain ⟨dx, ob⟩ := id NA.ob
    obtain ⟨gv, hgv, ga⟩ := id NA.g
    obtain ⟨wv, hwv, wa⟩ := id NA.w
    have hlw : wv.length = ws.length := wa.1
    have hlg : gv.length = gs.length := ga.1
    -- bare
    refine ⟨_, rfl, lm, _, rfl, sm0, fun lb hlb => ?_⟩
    have hbl : ∀ i, i ≤ cs.length → (bareTo cs i).length ≤ 1000 := fun i hi => by
      unfold bareTo
      have := List.length_filter_le (fun p => cs.getD p 1 == 0) (List.range i)
      rw [List.length_range] at this
      omega
    refine lc_it (walk_enum (K := K) (a := lm) (xs := cs.map V.int)) (fun i Hc => Hc lb = some (.lst ((bareTo cs i).map fun i => V.int (i : Nat))) ∧ Same H Hc) ⟨by rw [upd_same]; rfl, same_new hlb⟩ (fun i Hc _ ⟨_, sm⟩ => sm.seq sm0) ?_ ?_
    · rintro i v Hc Hc' hi ⟨hc, sm⟩ ⟨T', x1, y, rfl, hT, rfl, ex, ey⟩
      cases ex
      obtain ⟨z, hz, rfl⟩ := int_at ey
      have hi' : i < cs.length := (List.getElem?_eq_some_iff.mp hz).1
      have hzd : cs.getD i 1 = z := by rw [List.getD_eq_getElem?_getD, hz]; rfl
      have smT : Same Hc (upd Hc T' (.tup [.int (i : Nat), .int z])) := same_new hT
      have hsT := smT _ _ hc
      refine ⟨T', _, rfl, .inl (.inl upd_same), rfl, _, _, rfl, _, _, rfl, rfl, rfl, ?_⟩
      refine ⟨_, rfl, rfl, _, rfl, ite2 (fun e => ?_) (fun e => ?_)⟩
      · have e0 : z = 0 := by simpa using e
        refine ⟨_, rfl, _, hsT, by rw [List.length_map]; exact small1000 (hbl i (by omega)), ?_, same_mut (sm.trans smT) hlb⟩
        rw [upd_same, bareTo_succ, hzd, if_pos e0, List.map_append]
        rfl
      · have e0 : ¬ z = 0 := by simpa using e
        refine ⟨?_, sm.trans smT⟩
        rw [bareTo_succ, hzd, if_neg e0]
        exact hsT
    rintro H1 ⟨hb1, s1⟩
    rw [List.length_map] at hb1
    have hml := hbl cs.length (Nat.le_refl _)
    have hbm : ∀ p ∈ bareTo cs cs.length, p < ws.length := fun p hp => by
      rw [← hcl]
      exact (List.getElem?_eq_some_iff.mp (mem_bareTo.mp hp)).1
    generalize hbb : bareTo cs cs.length = bb at hb1 hml hbm
    -- pairs
    refine ⟨_, rfl, lb, rfl, ⟨_, SqL.of hb1⟩, fun lp hlp => ?_⟩
    refine lc_list (K := K) (a := lb) (xs := bb.map fun i => V.int (i : Nat)) (fun i Hc => ∃ pv : List V, Hc lp = some (.lst pv) ∧ pv.length = i ∧ All2 (PairV K Hc) pv (pairsL ws (bb.take i)) ∧ Same H1 Hc) ⟨[], by rw [upd_same], rfl, All2.nil, same_new hlp⟩ (fun i Hc _ ⟨_, _, _, _, sm⟩ => SqL.of (sm _ _ hb1)) ?_ ?_
    · rintro i v Hc hv ⟨pv, hc, hpl, pa, sm⟩
      rw [List.getElem?_map] at hv
      cases hbi : bb[i]? with
      | none =>
        rw [hbi] at hv
        cases hv
      | some pl =>
        rw [hbi] at hv
        cases hv
        have hpw : pl < ws.length := hbm _ (List.mem_of_getElem? hbi)
        have hx : ws[pl]? = some ws[pl] := List.getElem?_eq_getElem hpw
        obtain ⟨_, hv', a, b, rfl, sq1, sq2⟩ := wa.getR hx
        have smH := s1.trans sm
        have tk := TK.same smH
        have obc := smH _ _ ob
        have wsc := SqL.of (K := K) (smH _ _ hwv)
        refine ⟨rfl, ?_⟩
        refine tyes ?_
        refine ⟨_, rfl, p, C, dx, _, _, rfl, obc, T.cl, T.nW, nf_wires _ _, _, rfl, nw, _, pl, _, rfl, rfl, wsc, atI_nat hv', a, _, 0, _, rfl, rfl, tk.seq sq1, atI_nat (j := 0) rfl, ?_⟩
        refine ⟨_, rfl, p, C, dx, _, _, rfl, obc, T.cl, T.nW, nf_wires _ _, _, rfl, nw, _, pl, _, rfl, rfl, wsc, atI_nat hv', a, _, 1, _, rfl, rfl, tk.seq sq1, atI_nat (j := 1) rfl, ?_⟩
        refine ⟨(by show 2 ≤ sizeLine; decide), fun t ht => ?_⟩
        have st := same_new (o := .tup [.int (ws[pl].1 : Nat), .int (ws[pl].2.1 : Nat)]) ht
        refine ⟨pv, st _ _ hc, by rw [hpl]; exact small1000 (by have := (List.getElem?_eq_some_iff.mp hbi).1; omega), pv ++ [.ref t], upd_same, by rw [List.length_append, hpl]; rfl, ?_, same_mut (sm.trans st) hlp⟩
        have e1 : pairsL ws (bb.take (i + 1)) = pairsL ws (bb.take i) ++ [(ws[pl].1, ws[pl].2.1)] := by
          unfold pairsL
          rw [List.take_add_one, hbi, List.map_append]
          show _ ++ [((ws.getD pl (0, 0, [])).1, (ws.getD pl (0, 0, [])).2.1)] = _
          rw [List.getD_eq_getElem?_getD, hx]
          rfl
        rw [e1]
        exact All2.pushT (fun t r => PairV.tk t r) pa (st _ _ hc) (TK.same st) ⟨t, rfl, .inl (.inl upd_same)⟩
    rintro H2 ⟨pv, hp2, hpl, pa, s2⟩
    rw [List.length_map] at hpl
    have hbt : bb.take (bb.map fun i => V.int (i : Nat)).length = bb := by rw [List.length_map, List.take_length]
    rw [hbt] at pa
    have s12 := s1.trans s2
    have hb2 := s2 _ _ hb1
    -- waits
    refine ⟨_, rfl, p, C, dx, _, _, rfl, s12 _ _ ob, T.cl, T.nG, nf_gates _ _, ng, rfl, ⟨_, SqL.of (s12 _ _ hgv)⟩, fun lW hlW => ?_⟩
    refine lc_list (K := K) (a := ng) (xs := gv) (fun i Hc => Hc lW = some (.lst (((gs.take i).map fun g => g.2).map V.int)) ∧ Same H2 Hc) ⟨by rw [upd_same]; rfl, same_new hlW⟩ (fun i Hc _ ⟨_, sm⟩ => SqL.of ((s12.trans sm) _ _ hgv)) ?_ ?_
    · rintro i v Hc hv ⟨hc, sm⟩
      obtain ⟨g, hg, a, rfl, sq⟩ := ga.get hv
      have hi : i < gs.length := (List.getElem?_eq_some_iff.mp hg).1
      refine ⟨a, _, rfl, (TK.same (s12.trans sm)).seq sq, rfl, _, _, rfl, _, _, rfl, rfl, rfl, tyes ?_⟩
      refine ⟨_, rfl, _, hc, ?_, ?_, same_mut sm hlW⟩
      · rw [List.length_map, List.length_map, List.length_take]
        exact small1000 (by omega)
      · rw [upd_same, List.take_add_one, hg, List.map_append, List.map_append]
        rfl
    rintro H3 ⟨hw3, s3⟩
    rw [hlg, List.take_length] at hw3
    have s13 := s12.trans s3
    -- last
    refine ⟨(by show 1 ≤ sizeLine; decide), fun l0 hl0 => ?_⟩
    have t0 := same_new (o := .lst [.non]) hl0
    have e0 : (upd H3 l0 (.lst [.non])) l0 = some (.lst [.non]) := upd_same
    generalize upd H3 l0 (.lst [.non]) = H4 at t0 e0
    have s14 := s13.trans t0
    refine ⟨_, rfl, p, C, dx, _, _, rfl, s14 _ _ ob, T.cl, T.nG, nf_gates _ _, ng, gv, rfl, .inl (SqL.of (s14 _ _ hgv)), l0, _, _, rfl, rfl, e0, by omega, by omega, ?_, fun lL hlL => ?_⟩
    · show 1 * _ ≤ sizeLine
      exact Nat.le_of_lt (small1000 (by omega))
    have eL : (List.replicate ((gv.length : Nat) : Int).toNat [V.non]).flatten = (List.replicate gs.length (none : Option Nat)).map lastV := by
      rw [Int.toNat_natCast, hlg]
      have : ∀ n : Nat, (List.replicate n [V.non]).flatten = (List.replicate n (none : Option Nat)).map lastV := fun n => by
        induction n with
        | zero => rfl
        | succ n ih =>
          rw [List.replicate_succ, List.flatten_cons, ih, List.replicate_succ]
          rfl
      exact this _
    rw [eL]
    have t5 := same_new (o := .lst ((List.replicate gs.length (none : Option Nat)).map lastV)) hlL
    have e5 : (upd H4 lL (.lst ((List.replicate gs.length (none : Option Nat)).map lastV))) lL = some (.lst ((List.replicate gs.length (none : Option Nat)).map lastV)) := upd_same
    generalize upd H4 lL (.lst ((List.replicate gs.length (none : Option Nat)).map lastV)) = H5 at t5 e5
    have s15 := s14.trans t5
    have s35 := t0.trans t5
    have s25 := s3.trans s35
    refine gn_norm (σ' := [some (.ref p), some (.ref lm), none, none, some (.ref lb), some (.ref lp), none, none, some (.ref lW), some (.ref lL), none, none, none, none]) rfl ?_
    -- the order
    refine ⟨_, rfl, p, C, dx, _, _, rfl, s15 _ _ ob, T.cl, T.nG, nf_gates _ _, ng, gv, rfl, .inl (SqL.of (s15 _ _ hgv)), _, rfl, gs.length, lp, pv, pairsL ws bb, by rw [hlg]; rfl, SqL.of (s25 _ _ hp2), pa.imp fun _ _ r => r.tk (TK.same s25), ?_, by omega, ?_, fun ord lo H6 K6 s6 hlo eo => ?_⟩
    · intro b hb
      obtain ⟨k, hk, rfl⟩ := List.mem_map.mp hb
      obtain ⟨x, hx⟩ : ∃ x, ws[k]? = some x := ⟨_, List.getElem?_eq_getElem (hbm k hk)⟩
      have W := N.wok _ (List.mem_of_getElem? hx)
      rw [List.getD_eq_getElem?_getD, hx]
      exact ⟨W.s, W.e⟩
    · unfold pairsL
      rw [List.length_map]
      exact hml
    subst hbb
    have all : ∀ g, g < gs.length → g ∈ ord := fun g hg => by
      obtain ⟨r, hr⟩ := rk
      refine KI.all K6 (fun b hb => ?_) (ρ := r) (fun b hb => ?_) g hg
      · obtain ⟨k, hk, rfl⟩ := List.mem_map.mp hb
        obtain ⟨x, hx⟩ : ∃ x, ws[k]? = some x := ⟨_, List.getElem?_eq_getElem (hbm k hk)⟩
        rw [List.getD_eq_getElem?_getD, hx]
        exact (N.wok _ (List.mem_of_getElem? hx)).s
      · obtain ⟨k, hk, rfl⟩ := List.mem_map.mp hb
        obtain ⟨x, hx⟩ : ∃ x, ws[k]? = some x := ⟨_, List.getElem?_eq_getElem (hbm k hk)⟩
        rw [List.getD_eq_getElem?_getD, hx]
        exact hr _ _ ⟨k, _, hx, mem_bareTo.mp hk, rfl, rfl⟩
    have s26 := s25.trans s6
    have hL2 : H2 lL = none := (s3.trans t0).free hlL
    have nWo : lW ≠ lo := ne_of_none (s35 _ _ hw3) hlo
    have nLo : lL ≠ lo := ne_of_none e5 hlo
    have nWL : lW ≠ lL := ne_of_none (t0 _ _ hw3) hlL
    refine ⟨lo, rfl, ⟨_, SqL.of eo⟩, for_list (K := K) (a := lo) (xs := ord.map fun i => V.int (i : Nat)) (fun i σ H' => ∃ (u2 u3 u6 u7 u10 u11 u12 u13 : Option V) (W : List Int) (La : List (Option Nat)), σ = [some (.ref p), some (.ref lm), u2, u3, some (.ref lb), some (.ref lp), u6, u7, some (.ref lW), some (.ref lL), u10, u11, u12, u13] ∧
        Same H2 H' ∧ H' lo = some (.lst (ord.map fun i => V.int (i : Nat))) ∧ H' lW = some (.lst (W.map V.int)) ∧ H' lL = some (.lst (La.map lastV)) ∧ AI gs ws cs ord i 0 W La) ⟨_, _, _, _, _, _, _, _, _, _, rfl, s26, eo, s6 _ _ (s35 _ _ hw3), s6 _ _ e5, AI.start⟩ (fun i σ H' _ ⟨_, _, _, _, _, _, _, _, _, _, _, _, e, _⟩ => SqL.of e) ?_ ?_⟩
    · rintro i v σ H7 hv ⟨u2, u3, u6, u7, u10, u11, u12, u13, W, La, rfl, sm, ho, hW, hL, ai⟩
      rw [List.getElem?_map] at hv
      cases hoi : ord[i]? with
      | none =>
        rw [hoi] at hv
        cases hv
      | some g =>
        rw [hoi] at hv
        cases hv
        have hgn : g < gs.length := K6.lt g (List.mem_of_getElem? hoi)
        refine ⟨_, rfl, _, rfl, lb, lp, _, pv, rfl, SqL.of (sm _ _ hb2), SqL.of (sm _ _ hp2), RZ.for_zipL (K := K) (a := lb) (b := lp) (xs := (bareTo cs cs.length).map fun i => V.int (i : Nat)) (ys := pv) (by rw [List.length_map, hpl]) (fun j σ H' => ∃ (u2 u3 u6 u7 u11 u12 u13 : Option V) (W : List Int) (La : List (Option Nat)), σ = [some (.ref p), some (.ref lm), u2, u3, some (.ref lb), some (.ref lp), u6, u7, some (.ref lW), some (.ref lL), some (.int (g : Nat)), u11, u12, u13] ∧
          Same H2 H' ∧ H' lo = some (.lst (ord.map fun i => V.int (i : Nat))) ∧ H' lW = some (.lst (W.map V.int)) ∧ H' lL = some (.lst (La.map lastV)) ∧ AI gs ws cs ord i j W La) ⟨_, _, _, _, _, _, _, _, _, rfl, sm, ho, hW, hL, ai⟩ (fun j σ H' ⟨_, _, _, _, _, _, _, _, _, _, sm', _⟩ => ⟨SqL.of (sm' _ _ hb2), SqL.of (sm' _ _ hp2)⟩) ?_ ?_⟩
        · rintro j x y T' σ H8 hx hy ⟨u2, u3, u6, u7, u11, u12, u13, W, La, rfl, sm8, ho8, hW8, hL8, ai8⟩ hT
          rw [List.getElem?_map] at hx
          cases hbj : (bareTo cs cs.length)[j]? with
          | none =>
            rw [hbj] at hx
            cases hx
          | some k =>
            rw [hbj] at hx
            cases hx
            obtain ⟨b, hb, a, rfl, sqp⟩ := pa.get hy
            have hkw : k < ws.length := hbm k (List.mem_of_getElem? hbj)
            obtain ⟨x, hwk⟩ : ∃ x, ws[k]? = some x := ⟨_, List.getElem?_eq_getElem hkw⟩
            have WX := N.wok x (List.mem_of_getElem? hwk)
            have eb : b = (x.1, x.2.1) := by
              rw [pairsL_get hbj hwk] at hb
              exact (Option.some.inj hb).symm
            subst eb
            have sT := same_new (o := .tup [.int (k : Nat), .ref a]) hT
            have sm9 := sm8.trans sT
            have tk9 := TK.same sm9
            have sq9 := tk9.seq sqp
            have s19 := s12.trans sm9
            have hWT := sT _ _ hW8
            have hLT := sT _ _ hL8
            obtain ⟨_, hvg, ag, rfl, sqg⟩ := ga.getR (List.getElem?_eq_getElem WX.e)
            have ew : ∀ (h : x.2.1 < gs.length), (gs[x.2.1]'h).2 = waitF gs x.2.1 := fun h => by
              unfold waitF
              rw [List.getD_eq_getElem?_getD, List.getElem?_eq_getElem h]
              rfl
            refine ⟨T', _, rfl, .inl (.inl upd_same), rfl, _, _, rfl, _, _, rfl, a, _, rfl, sq9, rfl, _, _, rfl, _, _, rfl, rfl, rfl, ?_⟩
            have hgW : g < W.length := by rw [ai8.wl]; exact hgn
            have heW : x.2.1 < W.length := by rw [ai8.wl]; exact WX.e
            have heL : x.2.1 < La.length := by rw [ai8.ll]; exact WX.e
            refine ⟨_, rfl, _, rfl, lW, _, g, _, rfl, rfl, SqL.of hWT, atI_nat (getD_at hgW), _, rfl, p, C, dx, _, _, rfl, s19 _ _ ob, T.cl, T.nG, nf_gates _ _, _, rfl, ng, _, x.2.1, _, rfl, rfl, SqL.of (s19 _ _ hgv), atI_nat hvg, ag, _, 1, _, rfl, rfl, (TK.same s19).seq sqg, atI_nat (j := 1) rfl, _, _, rfl, rfl, ?_⟩
            rw [ew]
            refine ⟨_, rfl, _, rfl, rfl, _, rfl, ite2 (fun e => ?_) (fun e => ?_)⟩
            · have ex : x.1 = g := by
                have := of_decide_eq_true e
                have := V.int.inj this
                omega
              refine ⟨_, rfl, _, rfl, _, rfl, lW, _, x.2.1, _, rfl, rfl, SqL.of hWT, atI_nat (getD_at heW), _, _, rfl, rfl, _, rfl, ite2 (fun e2 => ?_) (fun e2 => ?_)⟩
              · have hlt : W.getD x.2.1 0 < W.getD x.1 0 + waitF gs x.2.1 := by
                  rw [ex]
                  exact of_decide_eq_true e2
                have nLT : lL ≠ lW := nWL.symm
                refine ⟨_, rfl, _, rfl, _, rfl, lW, _, _, x.2.1, rfl, rfl, hWT, Evl.ixN_nat (by rw [List.length_map]; exact heW), ?_⟩
                refine ⟨_, rfl, _, rfl, _, rfl, lL, _, _, x.2.1, rfl, rfl, (upd_ne nLT).trans hLT, Evl.ixN_nat (by rw [List.length_map]; exact heL), ?_⟩
                have up := ai8.upd N K6 hbj hwk (by rw [hoi, ex]) hlt
                rw [ex] at up
                refine ⟨_, _, _, _, _, _, _, _, _, rfl, same_mut (same_mut sm9 hlW) hL2, ?_, ?_, ?_, up⟩
                · rw [upd_ne nLo.symm, upd_ne nWo.symm]
                  exact sT _ _ ho8
                · rw [upd_ne nWL, upd_same, List.map_set]
                · rw [upd_same, List.map_set]
                  rfl
              · refine ⟨_, _, _, _, _, _, _, W, La, rfl, sm9, sT _ _ ho8, hWT, hLT, ai8.keep hbj hwk fun _ => ?_⟩
                have : ¬ (W.getD x.2.1 0 < W.getD g 0 + waitF gs x.2.1) := fun z => e2 (decide_eq_true z)
                rw [ex]
                omega
            · refine ⟨_, _, _, _, _, _, _, W, La, rfl, sm9, sT _ _ ho8, hWT, hLT, ai8.keep hbj hwk fun q => ?_⟩
              rw [hoi] at q
              have q' := Option.some.inj q
              exact absurd (decide_eq_true (by rw [q'])) e
        · rintro σ H8 ⟨u2, u3, u6, u7, u11, u12, u13, W, La, rfl, sm8, ho8, hW8, hL8, ai8⟩
          rw [List.length_map] at ai8
          exact ⟨_, _, _, _, _, _, _, _, _, _, rfl, sm8, ho8, hW8, hL8, ai8.nxt⟩
    · rintro σ H7 ⟨u2, u3, u6, u7, u10, u11, u12, u13, W, La, rfl, sm, ho, hW, hL, ai⟩
      rw [List.length_map] at ai
      refine ⟨_, rfl, _, rfl, (by show 2 ≤ sizeLine; decide), fun t ht => ?_⟩
      have st := same_new (o := .tup [.ref lW, .ref lL]) ht
      exact q t lW lL W La _ ((s12.trans sm).trans st) upd_same (st _ _ hW) (st _ _ hL) (ai.fin N all)
end
end Lag

set_option maxRecDepth 100000
set_option maxHeartbeats 8000000
namespace Lag
open PySem PySem.Spec PyProof.Rows L2
/-! ### xs[::-1] of a list -/
theorem rev_range : ∀ (xs : List Value), (List.range xs.length).filterMap (fun k => xs[xs.length - 1 - k]?) = xs.reverse := fun xs => by
  refine List.ext_getElem? fun i => ?_
  have h0 : ((List.range xs.length).filterMap fun k => xs[xs.length - 1 - k]?) = (List.range xs.length).map fun k => xs.getD (xs.length - 1 - k) .none := by
    have : ∀ l : List Nat, (∀ k ∈ l, k < xs.length) → (l.filterMap fun k => xs[xs.length - 1 - k]?) = l.map fun k => xs.getD (xs.length - 1 - k) .none := fun l hl => by
      induction l with
      | nil => rfl
      | cons k l ih =>
        have hk := hl k (by simp)
        rw [List.filterMap_cons, List.map_cons, ih fun j hj => hl j (List.mem_cons_of_mem _ hj), List.getElem?_eq_getElem (by omega), List.getD_eq_getElem?_getD, List.getElem?_eq_getElem (by omega)]
        rfl
    exact this _ fun k hk => List.mem_range.mp hk
  rw [h0, List.getElem?_map]
  by_cases hi : i < xs.length
  · rw [List.getElem?_eq_getElem (by simpa using hi), List.getElem_range, List.getElem?_reverse hi, List.getElem?_eq_getElem (by omega)]
    show some (xs.getD _ _) = _
    rw [List.getD_eq_getElem?_getD, List.getElem?_eq_getElem (by omega)]
    rfl
  · rw [List.getElem?_eq_none (by simpa using hi), List.getElem?_eq_none (by simpa using hi)]
    rfl
theorem slicePick_rev (its : List Value) : slicePick its.toArray none none (some (-1)) = its.reverse.toArray := by
  have hb : sliceBounds none none (some (-1)) its.toArray.size = ((its.length : Int) - 1, -1, -1) := by
    rw [List.size_toArray]
    rfl
  unfold slicePick
  rw [hb]
  have hr : PySem.sliceRange ((its.length : Int) - 1) (-1) (-1) = (List.range its.length).map fun k => its.length - 1 - k := by
    unfold PySem.sliceRange
    have hc : (if (-1 : Int) > 0 then (if (its.length : Int) - 1 < -1 then (-1 - ((its.length : Int) - 1) + -1 - 1) / -1 else 0) else (if (its.length : Int) - 1 > -1 then ((its.length : Int) - 1 - -1 - -1 - 1) / -(-1) else 0)).toNat = its.length := by
      rw [if_neg (by decide)]
      split
      · have : ((its.length : Int) - 1 - -1 - -1 - 1) / -(-1) = its.length := by
          rw [show (-(-1) : Int) = 1 from rfl, Int.ediv_one]
          omega
        rw [this, Int.toNat_natCast]
      · omega
    show (List.range (if (-1 : Int) > 0 then (if (its.length : Int) - 1 < -1 then (-1 - ((its.length : Int) - 1) + -1 - 1) / -1 else 0) else (if (its.length : Int) - 1 > -1 then ((its.length : Int) - 1 - -1 - -1 - 1) / -(-1) else 0)).toNat).map _ = _
    rw [hc]
    refine List.map_congr_left fun k hk => ?_
    have := List.mem_range.mp hk
    omega
  show ((PySem.sliceRange ((its.length : Int) - 1) (-1) (-1)).filterMap (its.toArray[·]?)).toArray = _
  rw [hr, List.filterMap_map]
  congr 1
  refine Eq.trans ?_ (rev_range its)
  congr 1
  funext k
  show its.toArray[its.length - 1 - k]? = its[its.length - 1 - k]?
  simp
section
variable {X : Cx} {e : Expr} {te ts : TE} {p1 p2 p3 pos : Pos}
/-- xs[::-1] -/
def tRevL (K : PySem.W.Frag) (te ts : TE) : TE := fun σ H Q => te σ H fun x H1 => ts σ H1 fun y H2 => ∃ (a : Addr) (xs : List V), x = .ref a ∧ y = .int (-1) ∧ SqL K H2 a xs ∧ ∀ b, H2 b = none → Q (.ref b) (upd H2 b (.lst xs.reverse))
theorem pe_revL {st : Expr} (he : PE X e te) (hs : PE X st ts) : PE X (.Subscript e (.Slice none none (some st) p2) pos) (tRevL X.K te ts) := by
  refine ⟨fun pins s σ H Q I h => ?_⟩
  refine Subscript_ (thn (he.run pins s σ H _ I h) fun v s1 ⟨x, H1, I1, r1, q1⟩ => ?_)
  refine wpAny_Slice (thn (po_none.run pins s1 σ H1 (fun o H3 => o = none ∧ H3 = H1) I1 ⟨rfl, rfl⟩) fun vl s2 ⟨u, H2, I2, pl, eu, e2⟩ => ?_)
  subst eu e2
  refine thn (po_none.run pins s2 σ H2 (fun o H3 => o = none ∧ H3 = H2) I2 ⟨rfl, rfl⟩) fun vu s3 ⟨u, H3, I3, pu, eu, e3⟩ => ?_
  subst eu e3
  refine thn (hs.run pins s3 σ H3 _ I3 q1) fun vs s4 ⟨z, H4, I4, r4, q4⟩ => ?_
  obtain ⟨a, xs, rfl, rfl, hx, q⟩ := q4
  have e1 : v = Value.ref a := r1
  obtain ⟨t4, e4⟩ : ∃ t, vs = Value.int (-1) t := r4
  subst e1 e4
  cases pl
  cases pu
  have I5 : Inv X pins σ H4 { s4 with heap := s4.heap.push { cls := .type "slice", data := .fields #[.none, .none, .int (-1) t4] } } := I4.kept (t' := s4.toks) fun b ob q => Heap.get?_push_of_some _ q
  obtain ⟨its, r, ht, hz⟩ := I5.list hx
  have hlen := r.length
  show wpAny (model X.prog X.w) X.A (subscriptTail e (.Slice none none (some st) p2) (.ref a) (.ref s4.heap.objs.size)) (EP X pins σ Q) X.xe { s4 with heap := s4.heap.push { cls := .type "slice", data := .fields #[.none, .none, .int (-1) t4] } }
  refine tail_any (ops := [.ref a, .ref s4.heap.objs.size]) ht.isList.typeIs slot_list_getitem.lookup ?_ (by with_unfolding_all rfl)
  refine wpAny_getItem_list_slice ht.isList (Heap.IsSliceOf.new ..) .none .none (.int _ _) (by decide) ?_ (by rw [List.size_toArray]; omega)
  rw [slicePick_rev]
  have rr : Vals xs.reverse its.reverse := r.reverse
  refine ⟨.ref _, _, I5.laid (t' := s4.toks) (o := .lst xs.reverse) (fun b ob q => Heap.get?_push_of_some _ q) (Nat.le_refl _) ?_, rfl, q _ (I5.hok.fresh (Nat.le_refl _))⟩
  exact ⟨by rw [List.length_reverse]; omega, _, 0, rr, Heap.get?_push_size _ rfl⟩
end
end Lag

set_option maxRecDepth 100000
set_option maxHeartbeats 8000000
namespace Lag
open PySem PySem.Spec PyProof.Rows L2
abbrev sWayTo : Stmt := topS 45 -- @way_to
abbrev sBeatOf : Stmt := topS 40 -- @beat_of
abbrev sLongest : Stmt := topS 41 -- @longest
def natVs (r : List Nat) : List V := r.map fun i => V.int (i : Nat)
def endsSum (gs : List Gt) (ws : List Wr) (row : List Nat) : Int := (row.map fun p => waitF gs (endOf ws p)).sum
def spWay (K : PySem.W.Frag) (C : Addr) : Sp := fun vs H Q _ => ∃ (p ng nw lL : Addr) (gs : List Gt) (ws : List Wr) (cs W : List Int) (La : List (Option Nat)) (g : Nat), vs = [.ref p, .int (g : Nat), .ref lL] ∧ NetAt K C H p ng nw gs ws ∧ NetOk gs ws ∧ H lL = some (.lst (La.map lastV)) ∧ ArrOk gs ws cs W La ∧ g < gs.length ∧ (∃ r : Nat → Nat, (∀ a b, BareR ws cs a b → r a < r b) ∧ ∀ a, a < gs.length → r a < gs.length) ∧
  ∀ (t lr : Addr) (s : Nat) (row : List Nat) (H' : Hp), Same H H' → H t = none → H lr = none → H' t = some (.tup [.int (s : Nat), .ref lr]) → H' lr = some (.lst (natVs row)) → s < gs.length → Chain ws cs s row g → W.getD g 0 = waitF gs s + endsSum gs ws row → row.length ≤ 1000 → Q (.ref t) H'
def spBeatOf (K : PySem.W.Frag) (C : Addr) : Sp := fun vs H Q _ => ∃ (p ng nw : Addr) (gs : List Gt) (ws : List Wr), vs = [.ref p] ∧ NetAt K C H p ng nw gs ws ∧ NetOk gs ws ∧ ∀ (M : Int) (H' : Hp), Same H H' → MaxW (BareR ws (regsL' ws)) (waitF gs) gs.length M → Q (.int M) H'
def spLongest (K : PySem.W.Frag) (C : Addr) : Sp := fun vs H Q _ => ∃ (p ng nw : Addr) (gs : List Gt) (ws : List Wr), vs = [.ref p] ∧ NetAt K C H p ng nw gs ws ∧ NetOk gs ws ∧
  ∀ (M : Int) (t lr : Addr) (s : Nat) (row : List Nat) (H' : Hp), Same H H' → H t = none → H lr = none → MaxW (BareR ws (regsL' ws)) (waitF gs) gs.length M → H' t = some (.tup [.int (s : Nat), .ref lr]) → H' lr = some (.lst (natVs row)) → s < gs.length → (∃ g, Chain ws (regsL' ws) s row g) → M = waitF gs s + endsSum gs ws row → row.length ≤ 1000 → Q (.ref t) H'
theorem last_at {La : List (Option Nat)} {g : Nat} (h : g < La.length) : (La.map lastV)[g]? = some (lastV (La.getD g none)) := by
  rw [List.getElem?_map, List.getElem?_eq_getElem h, List.getD_eq_getElem?_getD, List.getElem?_eq_getElem h]
  rfl
theorem eqV_selfI (m : Int) : eqV (.int m) (.int m) = true := by
  show (m == m) = true
  simp
theorem flat_intsI (W : List Int) : (W.map V.int).all flatV = true := by
  rw [List.all_eq_true]
  intro v hv
  obtain ⟨i, _, rfl⟩ := List.mem_map.mp hv
  rfl
theorem first_at {W : List Int} {m : Int} (h : m ∈ W) : ∃ j, j < W.length ∧ (W.map V.int)[j]? = some (.int m) ∧ ∀ (k : Nat) (z : V), k < j → (W.map V.int)[k]? = some z → eqV z (.int m) = false := by
  have hi : W.idxOf m < W.length := List.idxOf_lt_length_iff.mpr h
  refine ⟨W.idxOf m, hi, ?_, fun k z hk hz => ?_⟩
  · rw [List.getElem?_map, List.getElem?_eq_getElem hi, List.getElem_idxOf]
    rfl
  · obtain ⟨y, hy, rfl⟩ := int_at hz
    have hkl : k < W.length := by omega
    rw [List.getElem?_eq_getElem hkl] at hy
    have hne : y ≠ m := fun e => by
      have h2 : W[k]'hkl = m := by rw [← e]; exact Option.some.inj hy
      have := List.not_of_lt_findIdx (p := (· == m)) (xs := W) (i := k) (by show k < W.idxOf m; exact hk)
      rw [h2] at this
      simp at this
    show (y == m) = false
    simpa using hne
section
variable {P : Program} {w : World} {K : PySem.W.Frag} {mg : Str → Option Value} {base : Heap}
abbrev nWayTo : List Str := ["net", "gate", "last", "wires"]
theorem scWayTo : FnScope nWayTo ["net", "gate", "last"] (defScope sWayTo) := ⟨rfl, rfl, rfl, by decide +kernel, rfl, by decide +kernel, by decide +kernel⟩
abbrev DWayTo (P : Program) (w : World) (K : PySem.W.Frag) (mg : Str → Option Value) (base : Heap) (C : Addr) := Df P w K mg base 1 "way_to" ["net", "gate", "last"] (spWay K C)
theorem ok_wayTo {f C : Addr} {fd : FuncData} (F : Fun K "way_to" "way_to" sWayTo f fd) (hm : mg "way_to" = some (.ref f)) (B : Bt mg) (T : NT K mg C) : DWayTo P w K mg base C f fd := by
  refine ⟨?_, hm, F.kp, F.binds fun _ _ _ _ _ _ us hl => match us, hl with | [_, _, _], _ => rfl⟩
  refine F.ok scWayTo (fun vs H Q E h => ?_) (fun cdv A outer s H vs Q E hr h => ?_)
  · obtain ⟨p, ng, nw, lL, gs, ws, cs, W, La, g, rfl, _⟩ := h
    rfl
  · obtain ⟨p, ng, nw, lL, gs, ws, cs, W, La, g0, rfl, NA, N, hL, ao, hg0, ⟨r, hr1, hr2⟩, q⟩ := h
    have nd := scWayTo.nd
    refine ⟨_, pss_cons (ps_set (i := 3) nd rfl (.inl rfl) (pe_lst pa_nil)) <|
        pss_cons (ps_while PassesOwn.never (pt_cmpR op_notN (pe_ix ix_list (pv 2) (pv 1) (fun _ _ => rfl)) pe_non (nomark _)) (pss_cons (ps_expr (pe_bm PySem.F.plainAttrs_list PySem.F.slot_list_append PySem.F.type_list_append mt_append (pv 3) (pa_cons (pe_ix ix_list (pv 2) (pv 1) (fun _ _ => rfl)) pa_nil))) <|
        pss_one (ps_set (i := 1) nd rfl (.inl rfl) (pe_ix ix_tup (pe_ix ix_list (pe_fld (pv 0) rfl) (pe_ix ix_list (pv 2) (pv 1) (fun _ _ => rfl)) (fun _ _ => rfl)) pe_int (fun _ _ => rfl))))) <|
        pss_one (ps_ret (pe_tup (pa_cons (pv 1) (pa_cons (pe_revL (pv 3) (pe_un un_neg pe_int)) pa_nil)))), ?_⟩
    have hwl := N.wl
    have hgl := N.gl
    obtain ⟨dx, ob⟩ := id NA.ob
    obtain ⟨wv, hwv, wa⟩ := id NA.w
    refine ⟨(by show 0 ≤ sizeLine; decide), fun lx hlx => ?_⟩
    have s1 := same_new (o := .lst []) hlx
    have e1 : (upd H lx (.lst [])) lx = some (.lst []) := upd_same
    generalize upd H lx (.lst []) = H1 at s1 e1
    refine gn_norm (σ' := [some (.ref p), some (.int (g0 : Nat)), some (.ref lL), some (.ref lx)]) rfl ?_
    refine ⟨fun m σ H' => ∃ (c : Nat) (acc : List Nat), σ = [some (.ref p), some (.int (c : Nat)), some (.ref lL), some (.ref lx)] ∧ m = r c ∧ c < gs.length ∧ Same H H' ∧ H' lx = some (.lst (natVs acc)) ∧ Chain ws cs c acc.reverse g0 ∧ W.getD g0 0 = W.getD c 0 + endsSum gs ws acc.reverse ∧ acc.length + r c < gs.length + 1, ⟨r g0, g0, [], rfl, rfl, hg0, s1, e1, rfl, ?_, by have := hr2 g0 hg0; simp; omega⟩, ?_⟩
    · show _ = _ + (0 : Int)
      omega
    rintro m σ H2 ⟨c, acc, rfl, rfl, hc, s2, ex, ch, es, hlen⟩
    have hcL : c < La.length := by rw [ao.ll]; exact hc
    have eL := s2 _ _ hL
    refine ⟨_, rfl, _, rfl, lL, _, c, _, rfl, rfl, SqL.of eL, atI_nat (last_at hcL), rfl, _, rfl, ?_⟩
    cases ela : La.getD c none with
    | none =>
      refine iteF ?_
      refine ⟨_, rfl, ?_⟩
      refine ⟨_, rfl, _, rfl, lx, _, rfl, rfl, SqL.of ex, fun lr hlr => ?_⟩
      have s3 := same_new (o := .lst (natVs acc).reverse) hlr
      have e3 : (upd H2 lr (.lst (natVs acc).reverse)) lr = some (.lst (natVs acc).reverse) := upd_same
      generalize upd H2 lr (.lst (natVs acc).reverse) = H3 at s3 e3
      refine ⟨(by show 2 ≤ sizeLine; decide), fun t ht => ?_⟩
      have s4 := same_new (o := .tup [.int (c : Nat), .ref lr]) ht
      have e0 := ao.non c hc ela
      refine q t lr c acc.reverse _ ((s2.trans s3).trans s4) ((s2.trans s3).free ht) (s2.free hlr) upd_same ?_ hc ch ?_ ?_
      · rw [s4 _ _ e3]
        unfold natVs
        rw [List.map_reverse]
      · rw [es, e0]
      · rw [List.length_reverse]
        omega
    | some k =>
      refine iteT ?_
      obtain ⟨x, hx, hcs, hxe, hW⟩ := ao.som c k hc ela
      have WX := N.wok x (List.mem_of_getElem? hx)
      have hrk := hr1 x.1 c ⟨k, x, hx, hcs, rfl, hxe⟩
      refine ⟨fun σ H' => ∃ (c' : Nat) (acc : List Nat), σ = [some (.ref p), some (.int (c' : Nat)), some (.ref lL), some (.ref lx)] ∧ r c' < r c ∧ c' < gs.length ∧ Same H H' ∧ H' lx = some (.lst (natVs acc)) ∧ Chain ws cs c' acc.reverse g0 ∧ W.getD g0 0 = W.getD c' 0 + endsSum gs ws acc.reverse ∧ acc.length + r c' < gs.length + 1, fun σ' H' ⟨c', acc', e, hlt, rest⟩ => ⟨r c', hlt, c', acc', e, rfl, rest⟩, ?_⟩
      have hla : (La.map lastV)[c]? = some (.int (k : Nat)) := by rw [last_at hcL, ela]; rfl
      refine ⟨_, rfl, .inl ⟨rfl, _, SqL.of ex⟩, _, rfl, _, rfl, lL, _, c, _, rfl, rfl, SqL.of eL, atI_nat hla, lx, _, _, rfl, rfl, ex, ?_, ?_⟩
      · unfold natVs
        rw [List.length_map]
        exact small1000 (by omega)
      have s5 : Same H (upd H2 lx (.lst (natVs acc ++ [.int (k : Nat)]))) := same_mut s2 hlx
      obtain ⟨_, hv, a, b, rfl, sq1, sq2⟩ := wa.getR hx
      have nLx : lL ≠ lx := ne_of_none hL hlx
      refine ⟨_, rfl, p, C, dx, _, _, rfl, s5 _ _ ob, T.cl, T.nW, nf_wires _ _, _, rfl, _, rfl, lL, _, c, _, rfl, rfl, SqL.of (s5 _ _ hL), atI_nat hla, nw, _, k, _, rfl, rfl, SqL.of (s5 _ _ hwv), atI_nat hv, a, _, 0, _, rfl, rfl, (TK.same s5).seq sq1, atI_nat (j := 0) rfl, ?_⟩
      refine ⟨x.1, acc ++ [k], rfl, hrk, WX.s, s5, ?_, ?_, ?_, ?_⟩
      · rw [upd_same]
        unfold natVs
        rw [List.map_append]
        rfl
      · rw [List.reverse_append]
        exact ⟨x, hx, hcs, rfl, by rw [hxe]; exact ch⟩
      · rw [es, List.reverse_append]
        unfold endsSum
        show W.getD c 0 + (acc.reverse.map fun p => waitF gs (endOf ws p)).sum = W.getD x.1 0 + (waitF gs (endOf ws k) + (acc.reverse.map fun p => waitF gs (endOf ws p)).sum)
        rw [hW]
        have : endOf ws k = c := by
          unfold endOf
          rw [List.getD_eq_getElem?_getD, hx]
          exact hxe
        rw [this]
        omega
      · rw [List.length_append]
        show acc.length + 1 + _ < _
        omega
abbrev nBeatOf : List Str := ["net", "waits", "last"]
theorem scBeatOf : FnScope nBeatOf ["net"] (defScope sBeatOf) := ⟨rfl, rfl, rfl, by decide +kernel, rfl, by decide +kernel, by decide +kernel⟩
abbrev DBeatOf (P : Program) (w : World) (K : PySem.W.Frag) (mg : Str → Option Value) (base : Heap) (C : Addr) := Df P w K mg base 3 "beat_of" ["net"] (spBeatOf K C)
theorem ok_beatOf {f fH fA C : Addr} {fd fdH fdA : FuncData} (F : Fun K "beat_of" "beat_of" sBeatOf f fd) (hm : mg "beat_of" = some (.ref f)) (B : Bt mg) (DH : DHeld P w K mg base C fH fdH) (DA : DArr P w K mg base C fA fdA) : DBeatOf P w K mg base C f fd := by
  refine ⟨?_, hm, F.kp, F.binds fun _ _ _ _ _ _ us hl => match us, hl with | [_], _ => rfl⟩
  refine F.ok scBeatOf (fun vs H Q E h => ?_) (fun cdv A outer s H vs Q E hr h => ?_)
  · obtain ⟨p, ng, nw, gs, ws, rfl, _⟩ := h
    rfl
  · obtain ⟨p, ng, nw, gs, ws, rfl, NA, N, q⟩ := h
    have nd := scBeatOf.nd
    refine ⟨_, pss_cons (ps_asg (pe_call DA.ok (hr.mono (by decide)) (by rfl) DA.mg DA.kp DA.bd .nil pass0 (pa_cons (pv 0) (pa_cons (pe_call DH.ok (hr.mono (by decide)) (by rfl) DH.mg DH.kp DH.bd .nil pass0 (pa_cons (pv 0) pa_nil)) pa_nil))) (pg_tup rfl (pgs_cons (pg_name (i := 1) nd rfl (.inl rfl)) (pgs_cons (pg_name (i := 2) nd rfl (.inl rfl)) pgs_nil)))) <|
        pss_one (ps_ret (pe_callB (cr_max rfl) (by rfl) B.max (by decide +kernel) (pa_cons (pv 1) pa_nil))), ?_⟩
    obtain ⟨r, hr1, hr2⟩ := N.rank_regs
    refine ⟨_, rfl, _, rfl, p, ng, nw, gs, ws, rfl, NA, N, fun l H1 s1 hl el => ?_⟩
    refine ⟨p, ng, nw, l, gs, ws, regsL' ws, rfl, NA.same s1, N, SqL.of el, by unfold regsL'; rw [List.length_map], ⟨r, hr1⟩, fun t lW lL W La H2 s2 et eW eL ao => ?_⟩
    refine ⟨t, _, rfl, .inl (.inl et), rfl, _, _, rfl, _, _, rfl, rfl, ?_⟩
    refine ⟨_, rfl, lW, W, rfl, SqL.of eW, ?_, fun m hm hle => q m H2 (s1.trans s2) (ao.max N hr1 hm hle)⟩
    rw [ao.wl]
    exact List.length_pos_iff.mpr N.ne
abbrev nLongest : List Str := ["net", "waits", "last"]
theorem scLongest : FnScope nLongest ["net"] (defScope sLongest) := ⟨rfl, rfl, rfl, by decide +kernel, rfl, by decide +kernel, by decide +kernel⟩
abbrev DLongest (P : Program) (w : World) (K : PySem.W.Frag) (mg : Str → Option Value) (base : Heap) (C : Addr) := Df P w K mg base 3 "longest" ["net"] (spLongest K C)
theorem ok_longest {f fH fA fW C : Addr} {fd fdH fdA fdW : FuncData} (F : Fun K "longest" "longest" sLongest f fd) (hm : mg "longest" = some (.ref f)) (B : Bt mg) (DH : DHeld P w K mg base C fH fdH) (DA : DArr P w K mg base C fA fdA) (DW : DWayTo P w K mg base C fW fdW) : DLongest P w K mg base C f fd := by
  refine ⟨?_, hm, F.kp, F.binds fun _ _ _ _ _ _ us hl => match us, hl with | [_], _ => rfl⟩
  refine F.ok scLongest (fun vs H Q E h => ?_) (fun cdv A outer s H vs Q E hr h => ?_)
  · obtain ⟨p, ng, nw, gs, ws, rfl, _⟩ := h
    rfl
  · obtain ⟨p, ng, nw, gs, ws, rfl, NA, N, q⟩ := h
    have nd := scLongest.nd
    refine ⟨_, pss_cons (ps_asg (pe_call DA.ok (hr.mono (by decide)) (by rfl) DA.mg DA.kp DA.bd .nil pass0 (pa_cons (pv 0) (pa_cons (pe_call DH.ok (hr.mono (by decide)) (by rfl) DH.mg DH.kp DH.bd .nil pass0 (pa_cons (pv 0) pa_nil)) pa_nil))) (pg_tup rfl (pgs_cons (pg_name (i := 1) nd rfl (.inl rfl)) (pgs_cons (pg_name (i := 2) nd rfl (.inl rfl)) pgs_nil)))) <|
        pss_one (ps_ret (pe_call DW.ok (hr.mono (by decide)) (by rfl) DW.mg DW.kp DW.bd .nil pass0 (pa_cons (pv 0) (pa_cons (pe_bm PySem.F.plainAttrs_list PySem.F.slot_list_index PySem.F.type_list_index mt_index (pv 1) (pa_cons (pe_callB (cr_max rfl) (by rfl) B.max (by decide +kernel) (pa_cons (pv 1) pa_nil)) pa_nil)) (pa_cons (pv 2) pa_nil))))), ?_⟩
    obtain ⟨r, hr1, hr2⟩ := N.rank_regs
    refine ⟨_, rfl, _, rfl, p, ng, nw, gs, ws, rfl, NA, N, fun l H1 s1 hl el => ?_⟩
    refine ⟨p, ng, nw, l, gs, ws, regsL' ws, rfl, NA.same s1, N, SqL.of el, by unfold regsL'; rw [List.length_map], ⟨r, hr1⟩, fun t lW lL W La H2 s2 et eW eL ao => ?_⟩
    refine ⟨t, _, rfl, .inl (.inl et), rfl, _, _, rfl, _, _, rfl, rfl, ?_⟩
    have s12 := s1.trans s2
    refine ⟨_, rfl, _, rfl, .inl ⟨rfl, _, SqL.of eW⟩, _, rfl, lW, W, rfl, SqL.of eW, ?_, fun m hm hle => ?_⟩
    · rw [ao.wl]
      exact List.length_pos_iff.mpr N.ne
    have mx := ao.max N hr1 hm hle
    obtain ⟨j, hj, ej, fst⟩ := first_at hm
    have hjn : j < gs.length := by rw [← ao.wl]; exact hj
    refine ⟨lW, _, .int m, j, .int m, rfl, rfl, SqL.of eW, rfl, flat_intsI W, ej, eqV_selfI m, fst, ?_⟩
    refine ⟨_, rfl, p, ng, nw, lL, gs, ws, regsL' ws, W, La, j, rfl, NA.same s12, N, eL, ao, hjn, ⟨r, hr1, hr2⟩, fun t2 lr s row H3 s3 ht hlr e1 e2 hs ch es hl => ?_⟩
    have : W.getD j 0 = m := by
      rw [List.getElem?_map] at ej
      rw [List.getD_eq_getElem?_getD]
      cases e : W[j]? with
      | none =>
        rw [e] at ej
        cases ej
      | some z =>
        rw [e] at ej
        cases ej
        rfl
    exact q m t2 lr s row H3 (s12.trans s3) (s12.free ht) (s12.free hlr) mx e1 e2 hs ⟨j, ch⟩ (by rw [← this]; exact es) hl
end
end Lag

set_option maxRecDepth 100000
set_option maxHeartbeats 8000000
namespace Lag
open PySem PySem.Spec PyProof.Rows L2
abbrev sChkBeat : Stmt := topS 13 -- @check_beat
abbrev sWith : Stmt := topS 42 -- @with_lags
def spBeat : Sp := fun vs H Q _ => ∃ b : Int, vs = [.int b] ∧ 0 ≤ b ∧ Q .non H
def spBeatX (CB : Addr) : Sp := fun vs H Q E => ∃ (v : V) (o : Option Int), vs = [v] ∧ OdV H v o ∧ (∀ b, o = some b → b < 0) ∧ E (.ref CB) none H
def spWith (K : PySem.W.Frag) (C : Addr) : Sp := fun vs H Q _ => ∃ (p ng nw ll : Addr) (gs : List Gt) (ws : List Wr) (ls : List Int) (b : Int), vs = [.ref p, .ref ll, .int b] ∧ NetAt K C H p ng nw gs ws ∧ NetOk gs ws ∧ SqL K H ll (ls.map V.int) ∧ LagOk gs ls ∧ 0 ≤ b ∧
  ∀ (k : Bool) (H' : Hp), Same H H' → ((∀ y ∈ cntsL ws ls, 0 ≤ y) → ∃ M, MaxW (BareR ws (cntsL ws ls)) (waitF gs) gs.length M ∧ k = decide (M ≤ b)) → (¬ (∀ y ∈ cntsL ws ls, 0 ≤ y) → k = false) → Q (.bl k) H'
def spWithX (K : PySem.W.Frag) (C CL CB : Addr) : Sp := fun vs H Q E => ∃ (p ng nw : Addr) (v u : V) (gs : List Gt) (ws : List Wr) (t : Option (List (Option Int))) (o : Option Int), vs = [.ref p, v, u] ∧ NetAt K C H p ng nw gs ws ∧ NetOk gs ws ∧ LagsV K H gs v t ∧ (∀ os, t = some os → os.length ≤ 1000) ∧
  OdV H u o ∧ (¬ GoodT gs t → ∀ H', Same H H' → E (.ref CL) none H') ∧ (GoodT gs t → (∀ b, o = some b → b < 0) ∧ ∀ H', Same H H' → E (.ref CB) none H')
section
variable {P : Program} {w : World} {K : PySem.W.Frag} {mg : Str → Option Value} {base : Heap}
abbrev nChkBeat : List Str := ["thing"]
theorem scChkBeat : FnScope nChkBeat ["thing"] (defScope sChkBeat) := ⟨rfl, rfl, rfl, by decide +kernel, rfl, by decide +kernel, by decide +kernel⟩
abbrev DBeatC (P : Program) (w : World) (K : PySem.W.Frag) (mg : Str → Option Value) (base : Heap) := Df P w K mg base 2 "check_beat" ["thing"] spBeat
theorem ok_chkBeat {f fW : Addr} {fd fdW : FuncData} (F : Fun K "check_beat" "check_beat" sChkBeat f fd) (hm : mg "check_beat" = some (.ref f)) (DW : DWhole P w K mg base fW fdW) (DX : FnOk P w K mg base CX0 1 fW fdW ["thing"] spWholeX) : DBeatC P w K mg base f fd := by
  refine ⟨?_, hm, F.kp, F.binds fun _ _ _ _ _ _ us hl => match us, hl with | [_], _ => rfl⟩
  refine F.ok scChkBeat (fun vs H Q E h => ?_) (fun cdv A outer s H vs Q E hr h => ?_)
  · obtain ⟨b, rfl, _⟩ := h
    rfl
  · obtain ⟨b, rfl, hb, q⟩ := h
    refine ⟨_, pss_one (ps_if (PW.pt (pw_or (pt_not (pt_val (pe_call DX (hr.mono (by decide)) (by rfl) DW.mg DW.kp DW.bd .nil pass0 (pa_cons (pv 0) pa_nil)))) (pw_or1 (pt_cmpR op_lt (pv 0) pe_int (nomark _))))) (pss_one (ps_never)) pss_nil), ?_⟩
    refine ⟨_, rfl, _, some b, rfl, .int b, true, rfl, iteF ⟨_, rfl, _, _, rfl, rfl, _, rfl, ite2 (fun e => absurd (of_decide_eq_true e) (by omega)) (fun _ => q)⟩⟩
theorem ok_chkBeatX {f fW CB : Addr} {fd fdW : FuncData} (F : Fun K "check_beat" "check_beat" sChkBeat f fd) (DW : DWhole P w K mg base fW fdW) (DX : FnOk P w K mg base CX0 1 fW fdW ["thing"] spWholeX) (NB : PEx K mg "NoBeat" CB) : FnOk P w K mg base (L2.CX P w) 2 f fd ["thing"] (spBeatX CB) := by
  refine F.okX scChkBeat (fun vs H Q E h => ?_) (fun cdv A outer s H vs Q E hr h => ?_)
  · obtain ⟨v, o, rfl, _⟩ := h
    rfl
  · obtain ⟨v, o, rfl, ov, hb, q⟩ := h
    refine ⟨_, pss_one (ps_if (PW.pt (pw_or (pt_not (pt_val (pe_call DX (hr.mono (by decide)) (by rfl) DW.mg DW.kp DW.bd .nil pass0 (pa_cons (pv 0) pa_nil)))) (pw_or1 (pt_cmpR op_lt (pv 0) pe_int (nomark _))))) (pss_one ((ps_raise rfl (takes_of rfl rfl rfl rfl) (pmk_own PySem.F.excBase_ValueError NB.q NB.g NB.k (raises_own NB.e NB.t) (by rfl))))) pss_nil), ?_⟩
    refine ⟨_, rfl, _, o, rfl, ov, ?_⟩
    cases o with
    | none => exact ⟨false, rfl, iteT q⟩
    | some b =>
      have ev := ov.num
      subst ev
      have := hb b rfl
      exact ⟨true, rfl, iteF ⟨_, rfl, _, _, rfl, rfl, _, rfl, ite2 (fun _ => q) (fun e => absurd (decide_eq_true this) e)⟩⟩
abbrev nWith : List Str := ["net", "lags", "beat", "many", "waits", "last"]
theorem scWith : FnScope nWith ["net", "lags", "beat"] (defScope sWith) := ⟨rfl, rfl, rfl, by decide +kernel, rfl, by decide +kernel, by decide +kernel⟩
abbrev DWith (P : Program) (w : World) (K : PySem.W.Frag) (mg : Str → Option Value) (base : Heap) (C : Addr) := Df P w K mg base 5 "with_lags" ["net", "lags", "beat"] (spWith K C)
theorem ok_with {f fC fB fL fA C : Addr} {fd fdC fdB fdL fdA : FuncData} (F : Fun K "with_lags" "with_lags" sWith f fd) (hm : mg "with_lags" = some (.ref f)) (B : Bt mg) (DC : DCounts P w K mg base C fC fdC) (DB : DBeatC P w K mg base fB fdB) (DL : DAreLet P w K mg base C fL fdL) (DA : DArr P w K mg base C fA fdA) : DWith P w K mg base C f fd := by
  refine ⟨?_, hm, F.kp, F.binds fun _ _ _ _ _ _ us hl => match us, hl with | [_, _, _], _ => rfl⟩
  refine F.ok scWith (fun vs H Q E h => ?_) (fun cdv A outer s H vs Q E hr h => ?_)
  · obtain ⟨p, ng, nw, ll, gs, ws, ls, b, rfl, _⟩ := h
    rfl
  · obtain ⟨p, ng, nw, ll, gs, ws, ls, b, rfl, NA, N, sl, lok, hb, q⟩ := h
    have nd := scWith.nd
    refine ⟨_, pss_cons (ps_set (i := 3) nd rfl (.inl rfl) (pe_call DC.ok (hr.mono (by decide)) (by rfl) DC.mg DC.kp DC.bd .nil pass0 (pa_cons (pv 0) (pa_cons (pv 1) pa_nil)))) <|
        pss_cons (ps_expr (pe_call DB.ok (hr.mono (by decide)) (by rfl) DB.mg DB.kp DB.bd .nil pass0 (pa_cons (pv 2) pa_nil))) <|
        pss_cons (ps_if (pt_not (pt_val (pe_call DL.ok (hr.mono (by decide)) (by rfl) DL.mg DL.kp DL.bd .nil pass0 (pa_cons (pv 0) (pa_cons (pv 1) pa_nil))))) (pss_one (ps_ret pe_bl)) pss_nil) <|
        pss_cons (ps_asg (pe_call DA.ok (hr.mono (by decide)) (by rfl) DA.mg DA.kp DA.bd .nil pass0 (pa_cons (pv 0) (pa_cons (pv 3) pa_nil))) (pg_tup rfl (pgs_cons (pg_name (i := 4) nd rfl (.inl rfl)) (pgs_cons (pg_name (i := 5) nd rfl (.inl rfl)) pgs_nil)))) <|
        pss_one (ps_ret (pe_cmpR op_le (pe_callB (cr_max rfl) (by rfl) B.max (by decide +kernel) (pa_cons (pv 4) pa_nil)) (pv 2) (nomark _))), ?_⟩
    refine ⟨_, rfl, _, rfl, p, ng, nw, ll, gs, ws, ls, rfl, NA, N, sl, lok, fun l H1 s1 hl el => ?_⟩
    refine ⟨_, rfl, b, rfl, hb, ?_⟩
    refine ⟨_, rfl, _, rfl, p, ng, nw, ll, gs, ws, ls, rfl, NA.same s1, N, s1.seq sl, lok, fun H2 s2 => ?_⟩
    have s12 := s1.trans s2
    refine ⟨_, rfl, ?_⟩
    by_cases hlet : ∀ y ∈ cntsL ws ls, 0 ≤ y
    · rw [decide_eq_true hlet]
      refine iteF ?_
      obtain ⟨r, hr1, hr2⟩ := N.rank_cnts hlet
      refine ⟨_, rfl, _, rfl, p, ng, nw, l, gs, ws, cntsL ws ls, rfl, NA.same s12, N, SqL.of (s2 _ _ el), by unfold cntsL; rw [List.length_map], ⟨r, hr1⟩, fun t lW lL W La H3 s3 et eW eL ao => ?_⟩
      refine ⟨t, _, rfl, .inl (.inl et), rfl, _, _, rfl, _, _, rfl, rfl, ?_⟩
      refine ⟨_, rfl, lW, W, rfl, SqL.of eW, ?_, fun m hm hle => ⟨_, rfl, _, _, rfl, rfl, q _ H3 (s12.trans s3) (fun _ => ⟨m, ao.max N hr1 hm hle, rfl⟩) (fun h => absurd hlet h)⟩⟩
      rw [ao.wl]
      exact List.length_pos_iff.mpr N.ne
    · rw [decide_eq_false hlet]
      exact iteT (q false H2 s12 (fun h => absurd h hlet) fun _ => rfl)
theorem ok_withX {f fC fB C CL CB : Addr} {fd fdC fdB : FuncData} (F : Fun K "with_lags" "with_lags" sWith f fd) (DC : DCounts P w K mg base C fC fdC) (DB : DBeatC P w K mg base fB fdB) (DCX : FnOk P w K mg base (L2.CX P w) 4 fC fdC ["net", "lags"] (spAskX K C CL)) (DBX : FnOk P w K mg base (L2.CX P w) 2 fB fdB ["thing"] (spBeatX CB)) : FnOk P w K mg base (L2.CX P w) 5 f fd ["net", "lags", "beat"] (spWithX K C CL CB) := by
  refine F.okX scWith (fun vs H Q E h => ?_) (fun cdv A outer s H vs Q E hr h => ?_)
  · obtain ⟨p, ng, nw, v, u, gs, ws, t, o, rfl, _⟩ := h
    rfl
  · obtain ⟨p, ng, nw, v, u, gs, ws, t, o, rfl, NA, N, hv, hbig, ou, qn, qy⟩ := h
    have nd := scWith.nd
    refine ⟨_, pss_cons (ps_set (i := 3) nd rfl (.inl rfl) (pe_callS DCX (hr.mono (by decide)) (by rfl) DC.mg DC.kp DC.bd (fun σ => passAt (takes_of rfl rfl rfl rfl) σ) (pa_cons (pv 0) (pa_cons (pv 1) pa_nil)))) <|
        pss_cons (ps_expr (pe_callS DBX (hr.mono (by decide)) (by rfl) DB.mg DB.kp DB.bd (fun σ => passAt (takes_of rfl rfl rfl rfl) σ) (pa_cons (pv 2) pa_nil))) <|
        pss_cons (ps_never) <|
        pss_cons (ps_never) <|
        pss_one (ps_never), ?_⟩
    refine ⟨_, rfl, _, rfl, p, ng, nw, v, gs, ws, t, rfl, NA, N, hv, hbig, fun g y H1 s1 => ?_, fun g H1 s1 => qn g H1 s1⟩
    obtain ⟨hb, q⟩ := qy g
    exact ⟨_, rfl, u, o, rfl, ou.same s1, hb, q H1 s1⟩
end
end Lag

set_option maxRecDepth 100000
set_option maxHeartbeats 8000000
namespace Lag
open PySem PySem.Spec PyProof.Rows L2
abbrev sGreat : Stmt := topS 55 -- @_law_greatest
abbrev sIsWay : Stmt := topS 56 -- @_law_is_way
structure BI (gs : List Gt) (ws : List Wr) (cs : List Int) (i j : Nat) (bs : List Int) : Prop where
  len : bs.length = gs.length
  is : ∀ s, s < gs.length → ∃ e k, Way (BareR ws cs) (waitF gs) s e k (bs.getD s 0)
  up : ∀ s e k t, s < gs.length → k ≤ i → Way (BareR ws cs) (waitF gs) s e k t → t ≤ bs.getD s 0
  row : ∀ (p : Nat) (x : Wr), p < j → ws[p]? = some x → cs[p]? = some 0 → ∀ e k t, k ≤ i → Way (BareR ws cs) (waitF gs) x.2.1 e k t → waitF gs x.1 + t ≤ bs.getD x.1 0
theorem BI.start {gs : List Gt} {ws : List Wr} {cs : List Int} : BI gs ws cs 0 0 (gs.map fun g => g.2) := by
  have w : ∀ g, g < gs.length → (gs.map fun g => g.2).getD g 0 = waitF gs g := fun g hg => by
    unfold waitF
    rw [List.getD_eq_getElem?_getD, List.getElem?_map, List.getElem?_eq_getElem hg, List.getD_eq_getElem?_getD, List.getElem?_eq_getElem hg]
    rfl
  refine ⟨by simp, fun s hs => ⟨s, 0, by rw [w s hs]; exact .one⟩, fun s e k t hs hk h => ?_, fun p x hp => absurd hp (by omega)⟩
  have hk0 : k = 0 := by omega
  subst hk0
  cases h
  rw [w s hs]
  exact Int.le_refl _
theorem BI.nxt {gs : List Gt} {ws : List Wr} {cs : List Int} {i : Nat} {bs : List Int} (N : NetOk gs ws) (h : BI gs ws cs i ws.length bs) : BI gs ws cs (i + 1) 0 bs := by
  refine ⟨h.len, h.is, fun s e k t hs hk hw => ?_, fun p x hp => absurd hp (by omega)⟩
  cases k with
  | zero => exact h.up s e 0 t hs (by omega) hw
  | succ k =>
    obtain ⟨g, t', ⟨p, x, hx, hc, e1, e2⟩, h2, e3⟩ := hw.head
    subst e1 e2 e3
    exact h.row p x (List.getElem?_eq_some_iff.mp hx).1 hx hc e k t' (by omega) h2
theorem BI.keep {gs : List Gt} {ws : List Wr} {cs : List Int} {i j : Nat} {bs : List Int} (h : BI gs ws cs i j bs) (hc : cs[j]? ≠ some 0) : BI gs ws cs i (j + 1) bs :=
  ⟨h.len, h.is, h.up, fun p x hp hx hcp => by
    by_cases e : p = j
    · subst e
      exact absurd hcp hc
    · exact h.row p x (by omega) hx hcp⟩
theorem BI.put {gs : List Gt} {ws : List Wr} {cs : List Int} {i j : Nat} {bs : List Int} {x : Wr} (N : NetOk gs ws) (h : BI gs ws cs i j bs) (hx : ws[j]? = some x) (hc : cs[j]? = some 0) {z : Int} (hz : z = if waitF gs x.1 + bs.getD x.2.1 0 > bs.getD x.1 0 then waitF gs x.1 + bs.getD x.2.1 0 else bs.getD x.1 0) : BI gs ws cs i (j + 1) (bs.set x.1 z) := by
  have WX := N.wok x (List.mem_of_getElem? hx)
  have hb : x.1 < bs.length := by rw [h.len]; exact WX.s
  have g1 : ∀ g, (bs.set x.1 z).getD g 0 = if g = x.1 then z else bs.getD g 0 := fun g => getD_setI hb
  have ge1 : bs.getD x.1 0 ≤ z := by
    rw [hz]
    split <;> omega
  have ge2 : waitF gs x.1 + bs.getD x.2.1 0 ≤ z := by
    rw [hz]
    split <;> omega
  have ge : ∀ g, bs.getD g 0 ≤ (bs.set x.1 z).getD g 0 := fun g => by
    rw [g1]
    split
    · rename_i e
      rw [e]
      exact ge1
    · exact Int.le_refl _
  refine ⟨by rw [List.length_set]; exact h.len, fun s hs => ?_, fun s e k t hs hk hw => Int.le_trans (h.up s e k t hs hk hw) (ge s), fun p y hp hy hcp e k t hk hw => ?_⟩
  · rw [g1]
    split
    · rename_i e
      subst e
      rw [hz]
      split
      · obtain ⟨e, k, hw⟩ := h.is x.2.1 WX.e
        exact ⟨e, k + 1, .cons ⟨j, x, hx, hc, rfl, rfl⟩ hw⟩
      · exact h.is x.1 hs
    · exact h.is s hs
  · by_cases e0 : p = j
    · subst e0
      rw [hx] at hy
      cases hy
      rw [g1, if_pos rfl]
      have := h.up x.2.1 e k t WX.e hk hw
      omega
    · exact Int.le_trans (h.row p y (by omega) hy hcp e k t hk hw) (ge y.1)
theorem BI.max {gs : List Gt} {ws : List Wr} {cs : List Int} {bs : List Int} {r : Nat → Nat} (hr1 : ∀ a b, BareR ws cs a b → r a < r b) (hr2 : ∀ a, a < gs.length → r a < gs.length) (N : NetOk gs ws) (h : BI gs ws cs gs.length 0 bs) {m : Int} (hm : m ∈ bs) (hle : ∀ y ∈ bs, y ≤ m) : MaxW (BareR ws cs) (waitF gs) gs.length m := by
  obtain ⟨s, hs, es⟩ := List.getElem_of_mem hm
  have hs' : s < gs.length := by rw [← h.len]; exact hs
  have es' : bs.getD s 0 = m := by rw [List.getD_eq_getElem?_getD, List.getElem?_eq_getElem hs, es]; rfl
  refine ⟨?_, fun s e k t hs hw => ?_⟩
  · obtain ⟨e, k, hw⟩ := h.is s hs'
    rw [es'] at hw
    exact ⟨s, e, k, hs', hw⟩
  · have h1 := hw.rank hr1
    have h2 := hr2 e (hw.lt (BareR.lt N) hs)
    have h3 := h.up s e k t hs (by omega) hw
    have : bs.getD s 0 ∈ bs := by
      rw [List.getD_eq_getElem?_getD, List.getElem?_eq_getElem (by rw [h.len]; exact hs)]
      exact List.getElem_mem _
    exact Int.le_trans h3 (hle _ this)
def spGreat (K : PySem.W.Frag) : Sp := fun vs H Q _ => ∃ (lg lw lc : Addr) (gs : List Gt) (ws : List Wr) (cs : List Int), vs = [.ref lg, .ref lw, .ref lc] ∧ LG K H lg gs ∧ LW K H lw ws ∧ NetOk gs ws ∧ SqL K H lc (cs.map V.int) ∧ cs.length = ws.length ∧ (∃ r : Nat → Nat, (∀ a b, BareR ws cs a b → r a < r b) ∧ ∀ a, a < gs.length → r a < gs.length) ∧
  ∀ (M : Int) (H' : Hp), Same H H' → MaxW (BareR ws cs) (waitF gs) gs.length M → Q (.int M) H'
def spIsWay (K : PySem.W.Frag) : Sp := fun vs H Q _ => ∃ (lg lw lr : Addr) (s : Nat) (ws : List Wr) (row : List Nat) (e : Nat), vs = [.ref lg, .ref lw, .int (s : Nat), .ref lr] ∧ LW K H lw ws ∧ ws.length ≤ 1000 ∧ H lr = some (.lst (natVs row)) ∧ Chain ws (regsL' ws) s row e ∧ ∀ H', Same H H' → Q (.bl true) H'
theorem Chain.cut {ws : List Wr} {cs : List Int} : ∀ {row : List Nat} {s e i p : Nat}, Chain ws cs s row e → row[i]? = some p → ∃ (x : Wr) (c : Nat), ws[p]? = some x ∧ cs[p]? = some 0 ∧ Chain ws cs s (row.take i) c ∧ x.1 = c
  | [], _, _, i, _, _, h => by simp at h
  | q :: r, s, e, 0, p, ⟨x, h1, h2, h3, h4⟩, h => by
    cases h
    exact ⟨x, s, h1, h2, rfl, h3⟩
  | q :: r, s, e, i + 1, p, ⟨x, h1, h2, h3, h4⟩, h => by
    obtain ⟨y, c, a, b, d, f⟩ := Chain.cut h4 (i := i) (p := p) h
    exact ⟨y, c, a, b, ⟨x, h1, h2, h3, d⟩, f⟩
theorem Chain.eq {ws : List Wr} {cs : List Int} : ∀ {row : List Nat} {s e e' : Nat}, Chain ws cs s row e → Chain ws cs s row e' → e = e'
  | [], _, _, _, h, h' => h.symm.trans h'
  | q :: r, s, e, e', ⟨x, h1, _, _, h4⟩, ⟨x', h1', _, _, h4'⟩ => by
    rw [h1] at h1'
    cases h1'
    exact Chain.eq h4 h4'
theorem Chain.snoc {ws : List Wr} {cs : List Int} : ∀ {row : List Nat} {s c p : Nat} {x : Wr}, Chain ws cs s row c → ws[p]? = some x → cs[p]? = some 0 → x.1 = c → Chain ws cs s (row ++ [p]) x.2.1
  | [], s, c, p, x, h, h1, h2, h3 => ⟨x, h1, h2, by rw [h3]; exact h.symm, rfl⟩
  | q :: r, s, c, p, x, ⟨y, a, b, d, f⟩, h1, h2, h3 => ⟨y, a, b, d, Chain.snoc f h1 h2 h3⟩
theorem flat_rg (a b : Int) : (rgV a b).all flatV = true := by
  rw [List.all_eq_true]
  intro v hv
  obtain ⟨i, _, rfl⟩ := List.mem_map.mp hv
  rfl
theorem in_rg {p n : Nat} (h : p < n) : inV (.int (p : Nat)) (rgV 0 (n : Nat)) = true := by
  unfold inV
  rw [List.any_eq_true]
  refine ⟨.int (p : Nat), List.mem_map.mpr ⟨p, List.mem_range.mpr (by omega), by rw [Int.zero_add]⟩, ?_⟩
  show ((p : Int) == (p : Int)) = true
  simp
section
variable {P : Program} {w : World} {K : PySem.W.Frag} {mg : Str → Option Value} {base : Heap}
abbrev nGreat : List Str := ["_law_gates_here", "_law_wires_here", "_law_some", "_law_kind", "_law_wait", "_law_best", "_law_turn", "_law_place", "_law_start", "_law_end", "_law_stock"]
theorem scGreat : FnScope nGreat ["_law_gates_here", "_law_wires_here", "_law_some"] (defScope sGreat) := ⟨rfl, rfl, rfl, by decide +kernel, rfl, by decide +kernel, by decide +kernel⟩
abbrev DGreat (P : Program) (w : World) (K : PySem.W.Frag) (mg : Str → Option Value) (base : Heap) := Df P w K mg base 1 "_law_greatest" ["_law_gates_here", "_law_wires_here", "_law_some"] (spGreat K)
theorem ok_great {f : Addr} {fd : FuncData} (F : Fun K "_law_greatest" "_law_greatest" sGreat f fd) (hm : mg "_law_greatest" = some (.ref f)) (B : Bt mg) : DGreat P w K mg base f fd := by
  refine ⟨?_, hm, F.kp, F.binds fun _ _ _ _ _ _ us hl => match us, hl with | [_, _, _], _ => rfl⟩
  refine F.ok scGreat (fun vs H Q E h => ?_) (fun cdv A outer s H vs Q E hr h => ?_)
  · obtain ⟨lg, lw, lc, gs, ws, cs, rfl, _⟩ := h
    rfl
  · obtain ⟨lg, lw, lc, gs, ws, cs, rfl, ⟨gv, hgv, ga⟩, ⟨wv, hwv, wa⟩, N, sc, hcl, ⟨r, hr1, hr2⟩, q⟩ := h
    have nd := scGreat.nd
    refine ⟨_, pss_cons (ps_setLc (i := 5) (own := [("_law_kind", 3), ("_law_wait", 4)]) (g := (gTup K 2 (gCons (gName 3) (gCons (gName 4) gNil)))) (tt := tYes) (te := (tVar 4)) rfl nd rfl rfl (sw_true rfl rfl rfl (by decide +kernel)) (pi_list (pv 0)) (blkOk_by (N := nGreat) (sc := defScope sGreat) (own := [("_law_kind", 3), ("_law_wait", 4)]) (by decide +kernel)) (fun _ _ _ _ _ => (pg_tup rfl (pgs_cons (pg_name (i := 3) nd rfl (.inl rfl)) (pgs_cons (pg_name (i := 4) nd rfl (.inl rfl)) pgs_nil)))) (fun _ _ _ _ _ => pts_nil) (fun _ _ _ _ _ => (pv 4))) <|
        pss_cons (ps_for PassesOwn.never rfl (pi_list (pv 0)) (pg_name (i := 6) nd rfl (.inl rfl)) (pss_one (ps_for PassesOwn.never rfl (pi_enum (by rfl) B.enum (pa_cons (pv 1) pa_nil)) (pg_tup rfl (pgs_cons (pg_name (i := 7) nd rfl (.inl rfl)) (pgs_cons (pg_tup rfl (pgs_cons (pg_name (i := 8) nd rfl (.inl rfl)) (pgs_cons (pg_name (i := 9) nd rfl (.inl rfl)) (pgs_cons (pg_name (i := 10) nd rfl (.inl rfl)) pgs_nil)))) pgs_nil))) (pss_one (ps_if (pt_cmpR op_eq (pe_ix ix_list (pv 2) (pv 7) (fun _ _ => rfl)) pe_int (nomark _)) (pss_one (ps_asg (pe_callB (call_max2 rfl) (by rfl) B.max (by decide +kernel) (pa_cons (pe_ix ix_list (pv 5) (pv 8) (fun _ _ => rfl)) (pa_cons (pe_op op_add (pe_ix ix_tup (pe_ix ix_list (pv 0) (pv 8) (fun _ _ => rfl)) pe_int (fun _ _ => rfl)) (pe_ix ix_list (pv 5) (pv 9) (fun _ _ => rfl))) pa_nil))) (pg_sub (pv 5) (pv 8) set_list))) pss_nil))))) <|
        pss_one (ps_ret (pe_callB (cr_max rfl) (by rfl) B.max (by decide +kernel) (pa_cons (pv 5) pa_nil))), ?_⟩
    have hwl := N.wl
    have hgl := N.gl
    have hlw : wv.length = ws.length := wa.1
    have hlg : gv.length = gs.length := ga.1
    refine ⟨_, rfl, lg, rfl, ⟨_, SqL.of hgv⟩, fun lb hlb => ?_⟩
    refine lc_list (K := K) (a := lg) (xs := gv) (fun i Hc => Hc lb = some (.lst (((gs.take i).map fun g => g.2).map V.int)) ∧ Same H Hc) ⟨by rw [upd_same]; rfl, same_new hlb⟩ (fun i Hc _ ⟨_, sm⟩ => SqL.of (sm _ _ hgv)) ?_ ?_
    · rintro i v Hc hv ⟨hc, sm⟩
      obtain ⟨g, hg, a, rfl, sq⟩ := ga.get hv
      have hi : i < gs.length := (List.getElem?_eq_some_iff.mp hg).1
      refine ⟨a, _, rfl, (TK.same sm).seq sq, rfl, _, _, rfl, _, _, rfl, rfl, rfl, tyes ?_⟩
      refine ⟨_, rfl, _, hc, ?_, ?_, same_mut sm hlb⟩
      · rw [List.length_map, List.length_map, List.length_take]
        exact small1000 (by omega)
      · rw [upd_same, List.take_add_one, hg, List.map_append, List.map_append]
        rfl
    rintro H1 ⟨hb1, s1⟩
    rw [hlg, List.take_length] at hb1
    refine gn_norm (σ' := [some (.ref lg), some (.ref lw), some (.ref lc), none, none, some (.ref lb), none, none, none, none, none]) rfl ?_
    refine ⟨_, rfl, lg, rfl, ⟨_, SqL.of (s1 _ _ hgv)⟩, for_list (K := K) (a := lg) (xs := gv) (fun i σ H' => ∃ (u6 u7 u8 u9 u10 : Option V) (bs : List Int), σ = [some (.ref lg), some (.ref lw), some (.ref lc), none, none, some (.ref lb), u6, u7, u8, u9, u10] ∧ Same H H' ∧ H' lb = some (.lst (bs.map V.int)) ∧ BI gs ws cs i 0 bs) ⟨_, _, _, _, _, _, rfl, s1, hb1, BI.start⟩ (fun i σ H' _ ⟨_, _, _, _, _, _, _, sm, _⟩ => SqL.of (sm _ _ hgv)) ?_ ?_⟩
    · rintro i v σ H2 hv ⟨u6, u7, u8, u9, u10, bs, rfl, s2, hb2, bi⟩
      refine ⟨_, rfl, lw, wv, rfl, SqL.of (s2 _ _ hwv), for_it (walk_enum (K := K) (a := lw) (xs := wv)) (fun j σ H' => ∃ (u7 u8 u9 u10 : Option V) (bs : List Int), σ = [some (.ref lg), some (.ref lw), some (.ref lc), none, none, some (.ref lb), some v, u7, u8, u9, u10] ∧ Same H H' ∧ H' lb = some (.lst (bs.map V.int)) ∧ BI gs ws cs i j bs) ⟨_, _, _, _, _, rfl, s2, hb2, bi⟩ (fun j σ H' _ ⟨_, _, _, _, _, _, sm, _⟩ => SqL.of (sm _ _ hwv)) ?_ ?_⟩
      · rintro j v' σ H3 H3' hj ⟨u7, u8, u9, u10, bs, rfl, s3, hb3, bi3⟩ ⟨T', x1, y, rfl, hT, rfl, ex, ey⟩
        cases ex
        obtain ⟨x, hx, a, b, rfl, sq1, sq2⟩ := wa.get ey
        have WX := N.wok x (List.mem_of_getElem? hx)
        have sT := same_new (o := .tup [.int (j : Nat), .ref a]) hT
        have s4 := s3.trans sT
        have hbT := sT _ _ hb3
        have hjc : j < cs.length := by rw [hcl]; exact (List.getElem?_eq_some_iff.mp hx).1
        have hbs : x.1 < bs.length := by rw [bi3.len]; exact WX.s
        have hbe : x.2.1 < bs.length := by rw [bi3.len]; exact WX.e
        refine ⟨T', _, rfl, .inl (.inl upd_same), rfl, _, _, rfl, _, _, rfl, a, _, rfl, (TK.same s4).seq sq1, rfl, _, _, rfl, _, _, rfl, _, _, rfl, rfl, rfl, ?_⟩
        refine ⟨_, rfl, _, rfl, lc, _, j, _, rfl, rfl, s4.seq sc, atI_nat (getD_at hjc), rfl, _, rfl, ite2 (fun e => ?_) (fun e => ?_)⟩
        · have hc0 : cs[j]? = some 0 := by
            have e1 := V.int.inj (of_decide_eq_true e)
            rw [List.getD_eq_getElem?_getD, List.getElem?_eq_getElem hjc] at e1
            rw [List.getElem?_eq_getElem hjc]
            exact congrArg some e1
          obtain ⟨_, hvg, ag, rfl, sqg⟩ := ga.getR (List.getElem?_eq_getElem WX.s)
          have ew : ∀ (h : x.1 < gs.length), (gs[x.1]'h).2 = waitF gs x.1 := fun h => by
            unfold waitF
            rw [List.getD_eq_getElem?_getD, List.getElem?_eq_getElem h]
            rfl
          refine ⟨_, rfl, _, rfl, lb, _, x.1, _, rfl, rfl, SqL.of hbT, atI_nat (getD_at hbs), _, rfl, _, rfl, lg, _, x.1, _, rfl, rfl, SqL.of (s4 _ _ hgv), atI_nat hvg, ag, _, 1, _, rfl, rfl, (TK.same s4).seq sqg, atI_nat (j := 1) rfl, _, rfl, _, rfl, lb, _, x.2.1, _, rfl, rfl, SqL.of hbT, atI_nat (getD_at hbe), _, _, rfl, rfl, _, _, rfl, ?_⟩
          rw [ew]
          refine ⟨_, rfl, _, rfl, lb, _, _, x.1, rfl, rfl, hbT, Evl.ixN_nat (by rw [List.length_map]; exact hbs), ?_⟩
          refine ⟨_, _, _, _, _, rfl, same_mut s4 hlb, ?_, bi3.put N hx hc0 rfl⟩
          rw [upd_same, List.map_set]
        · refine ⟨_, _, _, _, bs, rfl, s4, hbT, bi3.keep fun z => e ?_⟩
          rw [List.getD_eq_getElem?_getD, z]
          rfl
      · rintro σ H3 ⟨u7, u8, u9, u10, bs, rfl, s3, hb3, bi3⟩
        rw [hlw] at bi3
        exact ⟨_, _, _, _, _, bs, rfl, s3, hb3, bi3.nxt N⟩
    · rintro σ H2 ⟨u6, u7, u8, u9, u10, bs, rfl, s2, hb2, bi⟩
      rw [hlg] at bi
      refine ⟨_, rfl, lb, bs, rfl, SqL.of hb2, ?_, fun m hm hle => q m H2 s2 (bi.max hr1 hr2 N hm hle)⟩
      rw [bi.len]
      exact List.length_pos_iff.mpr N.ne
abbrev nIsWay : List Str := ["_law_gates_here", "_law_wires_here", "_law_gate", "_law_row", "_law_here", "_law_place"]
theorem scIsWay : FnScope nIsWay ["_law_gates_here", "_law_wires_here", "_law_gate", "_law_row"] (defScope sIsWay) := ⟨rfl, rfl, rfl, by decide +kernel, rfl, by decide +kernel, by decide +kernel⟩
abbrev DIsWay (P : Program) (w : World) (K : PySem.W.Frag) (mg : Str → Option Value) (base : Heap) := Df P w K mg base 1 "_law_is_way" ["_law_gates_here", "_law_wires_here", "_law_gate", "_law_row"] (spIsWay K)
theorem ok_isWay {f : Addr} {fd : FuncData} (F : Fun K "_law_is_way" "_law_is_way" sIsWay f fd) (hm : mg "_law_is_way" = some (.ref f)) (B : Bt mg) : DIsWay P w K mg base f fd := by
  refine ⟨?_, hm, F.kp, F.binds fun _ _ _ _ _ _ us hl => match us, hl with | [_, _, _, _], _ => rfl⟩
  refine F.ok scIsWay (fun vs H Q E h => ?_) (fun cdv A outer s H vs Q E hr h => ?_)
  · obtain ⟨lg, lw, lr, s, ws, row, e, rfl, _⟩ := h
    rfl
  · obtain ⟨lg, lw, lr, s, ws, row, e, rfl, ⟨wv, hwv, wa⟩, hwl, hrow, ch, q⟩ := h
    have nd := scIsWay.nd
    refine ⟨_, pss_cons (ps_set (i := 4) nd rfl (.inl rfl) (pv 2)) <|
        pss_cons (ps_for PassesOwn.never rfl (pi_list (pv 3)) (pg_name (i := 5) nd rfl (.inl rfl)) (pss_cons (ps_if (PW.pt (pw_or (pt_cmpR op_notIn_seq (pv 5) (pe_listRg rfl (by rfl) B.list (prg_1 (by rfl) B.range (pe_callB call_len_seq (by rfl) B.len PySem.boot_len (pa_cons (pv 1) pa_nil)))) (by rfl)) (pw_or (pt_cmpR op_ne (pe_ix ix_tup (pe_ix ix_list (pv 1) (pv 5) (fun _ _ => rfl)) pe_int (fun _ _ => rfl)) (pv 4) (nomark _)) (pw_or1 (pt_cmpR (op_neD hr.units) (pe_ix ix_tup (pe_ix ix_list (pv 1) (pv 5) (fun _ _ => rfl)) pe_int (fun _ _ => rfl)) (pe_tup pa_nil) (nomark _)))))) (pss_one (ps_ret pe_bl)) pss_nil) <|
        pss_one (ps_set (i := 4) nd rfl (.inl rfl) (pe_ix ix_tup (pe_ix ix_list (pv 1) (pv 5) (fun _ _ => rfl)) pe_int (fun _ _ => rfl))))) <|
        pss_one (ps_ret pe_bl), ?_⟩
    have hlw : wv.length = ws.length := wa.1
    refine ⟨_, rfl, ?_⟩
    refine gn_norm (σ' := [some (.ref lg), some (.ref lw), some (.int (s : Nat)), some (.ref lr), some (.int (s : Nat)), none]) rfl ?_
    refine ⟨_, rfl, lr, rfl, ⟨_, SqL.of hrow⟩, for_list (K := K) (a := lr) (xs := natVs row) (fun i σ H' => ∃ (c : Nat) (u5 : Option V), σ = [some (.ref lg), some (.ref lw), some (.int (s : Nat)), some (.ref lr), some (.int (c : Nat)), u5] ∧ Same H H' ∧ Chain ws (regsL' ws) s (row.take i) c) ⟨s, _, rfl, Same.refl H, rfl⟩ (fun i σ H' _ ⟨_, _, _, sm, _⟩ => SqL.of (sm _ _ hrow)) ?_ ?_⟩
    · rintro i v σ H1 hv ⟨c, u5, rfl, s1, chi⟩
      unfold natVs at hv
      rw [List.getElem?_map] at hv
      cases ep : row[i]? with
      | none =>
        rw [ep] at hv
        cases hv
      | some p =>
        rw [ep] at hv
        cases hv
        obtain ⟨x, c', hx, hc, ch2, exc⟩ := ch.cut ep
        have ecc := chi.eq ch2
        subst ecc
        have hp : p < ws.length := (List.getElem?_eq_some_iff.mp hx).1
        have x0 : x.2.2 = [] := by
          unfold regsL' at hc
          rw [List.getElem?_map, hx] at hc
          have hc' : ((x.2.2.length : Nat) : Int) = 0 := Option.some.inj hc
          exact List.eq_nil_of_length_eq_zero (by omega)
        obtain ⟨_, hv, a, b, rfl, sq1, sq2⟩ := wa.getR hx
        refine ⟨_, rfl, _, rfl, lw, wv, rfl, .inl (SqL.of (s1 _ _ hwv)), _, rfl, RgOk.of_le (by omega) (by rw [hlw]; omega) (by omega) (by omega), fun l1 hl1 => ?_⟩
        have s2 := s1.trans (same_new (o := .lst (rgV 0 (wv.length : Nat))) hl1)
        have tk := TK.same s2
        rw [x0] at sq2
        refine ⟨l1, _, rfl, .inl (SqL.of upd_same), rfl, flat_rg _ _, false, by rw [in_rg (by rw [hlw]; exact hp)]; rfl, iteF ?_⟩
        refine ⟨_, rfl, _, rfl, lw, _, p, _, rfl, rfl, SqL.of (s2 _ _ hwv), atI_nat hv, a, _, 0, _, rfl, rfl, tk.seq sq1, atI_nat (j := 0) rfl, _, rfl, rfl, _, rfl, iteNS (by rw [exc]) ?_⟩
        refine ⟨_, rfl, _, rfl, lw, _, p, _, rfl, rfl, SqL.of (s2 _ _ hwv), atI_nat hv, a, _, 2, _, rfl, rfl, tk.seq sq1, atI_nat (j := 2) rfl, (by show 0 ≤ sizeLine; decide), fun t ht => ?_⟩
        have s3 := s2.trans (same_new (o := .tup []) ht)
        refine ⟨.tuple [], .tuple [], .tup ((TK.same s3).seq sq2) .nil, .tup (.inl (.inl upd_same)) .nil, rfl, rfl, false, rfl, iteF ?_⟩
        refine ⟨_, rfl, _, rfl, lw, _, p, _, rfl, rfl, SqL.of (s3 _ _ hwv), atI_nat hv, a, _, 1, _, rfl, rfl, (TK.same s3).seq sq1, atI_nat (j := 1) rfl, ?_⟩
        refine ⟨x.2.1, _, rfl, s3, ?_⟩
        rw [List.take_add_one, ep]
        exact chi.snoc hx hc exc
    · rintro σ H1 ⟨c, u5, rfl, s1, chi⟩
      exact q H1 s1
end
end Lag

set_option maxRecDepth 100000
set_option maxHeartbeats 8000000
namespace Lag
open PySem PySem.Spec PyProof.Rows L2
abbrev sWord : Stmt := topS 57 -- @_law_word
/-! ### xs.count(y), flat items -/
def rCntF (K : PySem.W.Frag) : V → List V → Hp → VK → Prop := fun x xs H Q => ∃ (p : Addr) (ys : List V) (y : V), x = .ref p ∧ xs = [y] ∧ SqL K H p ys ∧ flatV y = true ∧ ys.all flatV = true ∧ Q (.int ((ys.countP fun z => eqV z y) : Nat)) H
theorem count_eqU {y : V} : ∀ {ys : List V} {us : List Value}, Vals ys us → ys.all flatV = true → us.countP (eqU y) = ys.countP fun z => eqV z y
  | [], [], .nil, _ => rfl
  | z :: ys, u :: us, .cons r rr, f => by
    rw [List.all_cons, Bool.and_eq_true] at f
    rw [List.countP_cons, List.countP_cons, count_eqU rr f.2, eqU_of r f.1]
theorem mt_cntF {X : Cx} : MtR X "list.count" (rCntF X.K) := by
  intro pins s σ H x xs v us Q I rx rxs h
  obtain ⟨p, ys, y, rfl, rfl, hs, fy, fys, q⟩ := h
  cases rx
  obtain ⟨u, rfl, ru⟩ := rxs.one
  obtain ⟨its, rv, ⟨⟨cls, dd, data, sl⟩, n, ho, hc, hdn, hd⟩, hlen⟩ := I.list hs
  simp only at hc hd
  subst hc hd
  refine call_meets PySem.F.slot_list_count ⟨_, ho, rfl⟩ PySem.F.entry_list_count (PySem.F.args_list_count_2 _ _)
    (SeqAt.list_countAt p its.toArray n dd sl u (eqU y)) ⟨ho, fun u' hu' => mem_eqAt ru fy rv fys u' (by simpa using hu'), ?_⟩
  refine ⟨.int ((ys.countP fun z => eqV z y) : Nat), H, I.tok _, ⟨s.toks, ?_⟩, q⟩
  show Value.int ((its.toArray.toList.countP (eqU y) : Nat) : Int) s.toks = Value.int (((ys.countP fun z => eqV z y) : Nat) : Int) s.toks
  have e : its.toArray.toList = its := rfl
  rw [e, count_eqU rv fys]
/-! ### a lambda handed in: asked, and which of two classes refused it -/
theorem pss_if {X : Cx} {ss : List Stmt} {p : Prop} {t : TS} (h : p → PSs X ss t) : PSs X ss (fun D σ H => p ∧ (σ.length = X.N.length → t D σ H)) := ⟨fun pins s σ H D I hh => (h hh.1).run pins s σ H D I (hh.2 I.len)⟩
def TWord (CL CB : Addr) : (XK → Hp → VK → Prop) → Hp → VK → Prop := fun tl H Q => tl (fun cls d H' => d = none ∧ ((cls = .ref CL ∧ ∀ H2, Same H' H2 → Q (.str "lags") H2) ∨ (cls = .ref CB ∧ ∀ H2, Same H' H2 → Q (.str "beat") H2))) H (fun _ H' => ∃ v : V, ([none, some (.str "told")] : List (Option V))[1]? = some (some v) ∧ Q v H')
structure WordC (K : PySem.W.Frag) (mg : Str → Option Value) (C0 CL CB : Addr) : Prop where
  g0 : mg "LagError" = some (.ref C0)
  gL : mg "NoLags" = some (.ref CL)
  gB : mg "NoBeat" = some (.ref CB)
  mI : mg "isinstance" = none
  eL : PySem.W.exmOne K (.ref CL) (.ref C0) = some true
  eB : PySem.W.exmOne K (.ref CB) (.ref C0) = some true
  kLL : PySem.W.kitOne K (.ref CL) (.ref CL) = some true
  kLB : PySem.W.kitOne K (.ref CL) (.ref CB) = some false
  kBL : PySem.W.kitOne K (.ref CB) (.ref CL) = some false
  kBB : PySem.W.kitOne K (.ref CB) (.ref CB) = some true
  xL : ExcC K CL
  xB : ExcC K CB
abbrev nWord : List Str := ["_law_ask", "_law_found", "e", "_law_kinds"]
theorem scWord : FnScope nWord ["_law_ask"] (defScope sWord) := ⟨rfl, rfl, rfl, by decide +kernel, rfl, by decide +kernel, by decide +kernel⟩
def adrOf : Value → Addr
  | .ref a => a
  | _ => 0
abbrev tsWord (X : Cx) (CL CB D a : Addr) : TS := tSeq (tAsg (tLst (tCons (tCB (rIsE X.K D a) (tCons (tVar 2) (tCons (tC (.ref CL)) tNil))) (tCons (tCB (rIsE X.K D a) (tCons (tVar 2) (tCons (tC (.ref CB)) tNil))) tNil))) (gName 3)) (tAsg (tOp (rIxL X.K) (tLst (tCons (tC (.str "other")) (tCons (tC (.str "lags")) (tCons (tC (.str "beat")) tNil)))) (tOp (rI CMul fun i j => .int (i * j)) (tBM X.K "list" (rCntF X.K) (tVar 3) (tCons (tC (.bl true)) tNil)) (tIf (tTest (tOp (rIn X.K false) (tC (.bl true)) (tVar 3))) (tOp (rI0 fun i j => .int (i + j)) (tC (.int 1)) (tBM X.K "list" (rIndex X.K) (tVar 3) (tCons (tC (.bl true)) tNil))) (tC (.int 0))))) (gName 1))
theorem word_gives {X : Cx} {g C0 CL CB : Addr} {cdg : Value} {q : Str} (R : WordC X.K X.mg C0 CL CB) : LamX.GivesTo X nWord "_law_word" (defScope sWord) g cdg (defBody sWord) "_law_ask" q (TWord CL CB) := by
  intro f c' s H Q tl act hc h
  have nd := scWord.nd
  refine ⟨_, pss_cons (ps_set (i := 1) nd rfl (.inl rfl) pe_str) <|
    pss_cons (ps_try_as (i := 2) (c := .ref C0) (tb := fun W D σ H => ∃ Ech : XK, (∀ cls d σ' H', Ech cls d H' → W cls d σ' H') ∧ σ[0]? = some (some (.ref f)) ∧ H c' = some (LamX.CodeO c' q) ∧ tl Ech H fun _ H' => D.nx σ H')
      (ts := fun a cls d D σ H => ((cls = .ref CL ∨ cls = .ref CB) ∧ d = none) ∧ (σ.length = 4 → tsWord X CL CB (adrOf cls) a D σ H)) (Wout := fun _ _ _ _ => False)
      rfl rfl nd rfl rfl ⟨rfl, by decide, .inl R.g0⟩ takes0 (fun W pn xe tk _ => ?_)
      (fun a oe cls d pn hz hf => pss_if fun ⟨e1, e2⟩ => ?_)) <|
    pss_one (ps_ret (pv 1)), ?_⟩
  · refine ⟨fun pins s' σ H' D I h' => ?_⟩
    obtain ⟨Ech, hW, h1, h2, h3⟩ := h'
    exact (pss_one (ps_expr (act W pn xe Ech _ _ tk hW))).run pins s' σ H' D I ⟨h1, h2, h3⟩
  · subst e2
    rcases e1 with rfl | rfl
    · have EX := R.xL
      exact pss_cons (ps_set (i := 3) nd rfl (.inl rfl) (pe_lst (pa_cons (pe_callB (call_isE EX hz hf) (by rfl) R.mI (by decide +kernel) (pa_cons (pv 2) (pa_cons (pe_glob (v := .ref CL) (by rfl) R.gL rfl) pa_nil))) (pa_cons (pe_callB (call_isE EX hz hf) (by rfl) R.mI (by decide +kernel) (pa_cons (pv 2) (pa_cons (pe_glob (v := .ref CB) (by rfl) R.gB rfl) pa_nil))) pa_nil)))) <| pss_one (ps_set (i := 1) nd rfl (.inl rfl) (pe_ix ix_list (pe_lst (pa_cons pe_str (pa_cons pe_str (pa_cons pe_str pa_nil)))) (pe_op op_mul (pe_bm PySem.F.plainAttrs_list PySem.F.slot_list_count PySem.F.type_list_count mt_cntF (pv 3) (pa_cons pe_bl pa_nil)) (pe_ifExp (pt_cmpR op_in_seq pe_bl (pv 3) (by rfl)) (pe_op op_add pe_int (pe_bm PySem.F.plainAttrs_list PySem.F.slot_list_index PySem.F.type_list_index mt_index (pv 3) (pa_cons pe_bl pa_nil))) pe_int)) (fun _ _ => rfl)))
    · have EX := R.xB
      exact pss_cons (ps_set (i := 3) nd rfl (.inl rfl) (pe_lst (pa_cons (pe_callB (call_isE EX hz hf) (by rfl) R.mI (by decide +kernel) (pa_cons (pv 2) (pa_cons (pe_glob (v := .ref CL) (by rfl) R.gL rfl) pa_nil))) (pa_cons (pe_callB (call_isE EX hz hf) (by rfl) R.mI (by decide +kernel) (pa_cons (pv 2) (pa_cons (pe_glob (v := .ref CB) (by rfl) R.gB rfl) pa_nil))) pa_nil)))) <| pss_one (ps_set (i := 1) nd rfl (.inl rfl) (pe_ix ix_list (pe_lst (pa_cons pe_str (pa_cons pe_str (pa_cons pe_str pa_nil)))) (pe_op op_mul (pe_bm PySem.F.plainAttrs_list PySem.F.slot_list_count PySem.F.type_list_count mt_cntF (pv 3) (pa_cons pe_bl pa_nil)) (pe_ifExp (pt_cmpR op_in_seq pe_bl (pv 3) (by rfl)) (pe_op op_add pe_int (pe_bm PySem.F.plainAttrs_list PySem.F.slot_list_index PySem.F.type_list_index mt_index (pv 3) (pa_cons pe_bl pa_nil))) pe_int)) (fun _ _ => rfl)))
  · refine gn_norm (σ' := [some (.ref f), some (.str "told"), none, none]) rfl ?_
    refine ⟨fun cls d H' => d = none ∧ ((cls = .ref CL ∧ ∀ H2, Same H' H2 → Q (.str "lags") H2) ∨ (cls = .ref CB ∧ ∀ H2, Same H' H2 → Q (.str "beat") H2)), fun cls d σ' H' he => ?_, rfl, hc, ?_⟩
    · obtain ⟨rfl, he⟩ := he
      rcases he with ⟨rfl, hq⟩ | ⟨rfl, hq⟩
      · refine ⟨true, R.eL, fun _ a ha => ⟨⟨.inl rfl, rfl⟩, fun hl => ?_⟩, fun z => by cases z⟩
        match σ', hl with
        | [x, y, z, u], _ =>
          refine ⟨_, rfl, .ref CL, .ref CL, true, rfl, (fun u hu => hu), R.kLL, _, rfl, .ref CB, .ref CB, false, rfl, (fun u hu => hu), R.kLB, (by show 2 ≤ sizeLine; decide), fun lk hlk => ?_⟩
          have s1 := same_new (o := .lst [.bl true, .bl false]) hlk
          have e1 : (upd H' lk (.lst [.bl true, .bl false])) lk = some (.lst [.bl true, .bl false]) := upd_same
          generalize upd H' lk (.lst [.bl true, .bl false]) = H1 at s1 e1
          refine ⟨(by show 3 ≤ sizeLine; decide), fun l2 hl2 => ?_⟩
          have s2 := same_new (o := .lst [.str "other", .str "lags", .str "beat"]) hl2
          have e2 : (upd H1 l2 (.lst [.str "other", .str "lags", .str "beat"])) l2 = some (.lst [.str "other", .str "lags", .str "beat"]) := upd_same
          have e12 := s2 _ _ e1
          generalize upd H1 l2 (.lst [.str "other", .str "lags", .str "beat"]) = H2 at s2 e2 e12
          refine ⟨_, rfl, .inl ⟨rfl, _, SqL.of e12⟩, lk, _, .bl true, rfl, rfl, SqL.of e12, rfl, rfl, ?_⟩
          refine ⟨_, rfl, lk, _, rfl, .inl (SqL.of e12), rfl, rfl, true, rfl, iteT ?_⟩
          refine ⟨_, rfl, .inl ⟨rfl, _, SqL.of e12⟩, lk, _, .bl true, 0, .bl true, rfl, rfl, SqL.of e12, rfl, rfl, rfl, rfl, ?_, _, _, rfl, rfl, _, _, rfl, rfl, .inl ⟨by decide, by decide⟩, l2, _, _, .str "lags", rfl, rfl, SqL.of e2, rfl, ?_⟩
          · intro m z' hm hz
            match m, hm with
            | 0, hm => exact absurd hm (by decide)
          exact ⟨_, rfl, hq H2 (s1.trans s2)⟩
      · refine ⟨true, R.eB, fun _ a ha => ⟨⟨.inr rfl, rfl⟩, fun hl => ?_⟩, fun z => by cases z⟩
        match σ', hl with
        | [x, y, z, u], _ =>
          refine ⟨_, rfl, .ref CL, .ref CL, false, rfl, (fun u hu => hu), R.kBL, _, rfl, .ref CB, .ref CB, true, rfl, (fun u hu => hu), R.kBB, (by show 2 ≤ sizeLine; decide), fun lk hlk => ?_⟩
          have s1 := same_new (o := .lst [.bl false, .bl true]) hlk
          have e1 : (upd H' lk (.lst [.bl false, .bl true])) lk = some (.lst [.bl false, .bl true]) := upd_same
          generalize upd H' lk (.lst [.bl false, .bl true]) = H1 at s1 e1
          refine ⟨(by show 3 ≤ sizeLine; decide), fun l2 hl2 => ?_⟩
          have s2 := same_new (o := .lst [.str "other", .str "lags", .str "beat"]) hl2
          have e2 : (upd H1 l2 (.lst [.str "other", .str "lags", .str "beat"])) l2 = some (.lst [.str "other", .str "lags", .str "beat"]) := upd_same
          have e12 := s2 _ _ e1
          generalize upd H1 l2 (.lst [.str "other", .str "lags", .str "beat"]) = H2 at s2 e2 e12
          refine ⟨_, rfl, .inl ⟨rfl, _, SqL.of e12⟩, lk, _, .bl true, rfl, rfl, SqL.of e12, rfl, rfl, ?_⟩
          refine ⟨_, rfl, lk, _, rfl, .inl (SqL.of e12), rfl, rfl, true, rfl, iteT ?_⟩
          refine ⟨_, rfl, .inl ⟨rfl, _, SqL.of e12⟩, lk, _, .bl true, 1, .bl true, rfl, rfl, SqL.of e12, rfl, rfl, rfl, rfl, ?_, _, _, rfl, rfl, _, _, rfl, rfl, .inl ⟨by decide, by decide⟩, l2, _, _, .str "beat", rfl, rfl, SqL.of e2, rfl, ?_⟩
          · intro m z' hm hz
            match m, hm with
            | 0, _ =>
              cases hz
              rfl
          exact ⟨_, rfl, hq H2 (s1.trans s2)⟩
    · exact h
end Lag

set_option maxRecDepth 100000
set_option maxHeartbeats 8000000
namespace Lag
open PySem PySem.Spec PyProof.Rows L2
abbrev sLaw : Stmt := topS 58 -- @law
section
variable {K : PySem.W.Frag} {C : Addr} {H : Hp}
theorem net_in {Q : Addr → Hp → Prop} {lg lw : Addr} {gs : List Gt} {ws : List Wr} (R : RG K H lg gs) (R2 : RW K H lw ws) (N : NetOk gs ws)
    (q : ∀ p ng nw H', NetAt K C H' p ng nw gs ws → Same H H' → H p = none → H ng = none → H nw = none → Q p H') :
    ∀ x dx, H x = none → H dx = none → dx ≠ x → spInit K C (.ref x :: ([.ref lg, .ref lw] ++ [])) (upd (upd H dx (.own x)) x (.ins C dx [])) (fun v H' => v = .non ∧ Q x H') E0 := by
  intro x dx hx hdx ne
  have s0 : Same H (upd (upd H dx (.own x)) x (.ins C dx [])) := fun b o e => by
    rw [upd_ne (ne_of_none e hx), upd_ne (ne_of_none e hdx)]
    exact e
  refine ⟨x, dx, lg, lw, gs, ws, rfl, upd_same, R.same s0, R2.same s0, N, fun H' ng nw A h1 h2 k => ⟨rfl, ?_⟩⟩
  exact q x ng nw H' A (Same.made hx hdx k) hx (s0.free h1) (s0.free h2)
end
def numsD (l : List Int) : PyData := .list (l.map PyData.int)
theorem numsD_eq (a b : List Int) : PyData.eqv (numsD a) (numsD b) = decide (a = b) := eqvAll_map (fun x y => intD_eq x y) a b
theorem sh_nums (l : List Int) : Sh 1 (numsD l) := by
  refine sh_list fun d hd => ?_
  obtain ⟨i, _, rfl⟩ := List.mem_map.mp hd
  exact sh_int _
theorem dp_nums {K : PySem.W.Frag} {H : Hp} {l : Addr} {xs : List Int} (h : SqL K H l (xs.map V.int)) : Dp K H (.ref l) (numsD xs) := .lst h (ints_dp xs)
theorem LG.dr' {K : PySem.W.Frag} {wl l : Addr} {H H' : Hp} {gs : List Gt} (h : LG K H l gs) (n : l ≠ wl) (W : WellAt wl H) (d : Dr wl H H') : LG K H' l gs := by
  obtain ⟨vs, q, a⟩ := h
  exact ⟨vs, d.but _ _ n q, a.imp fun _ _ r => r.tk (TK.dr W d.but)⟩
theorem LW.dr' {K : PySem.W.Frag} {wl l : Addr} {H H' : Hp} {ws : List Wr} (h : LW K H l ws) (n : l ≠ wl) (W : WellAt wl H) (d : Dr wl H H') : LW K H' l ws := by
  obtain ⟨vs, q, a⟩ := h
  exact ⟨vs, d.but _ _ n q, a.imp fun _ _ r => r.tk (TK.dr W d.but)⟩
theorem NetAt.dr' {K : PySem.W.Frag} {C wl p ng nw : Addr} {H H' : Hp} {gs : List Gt} {ws : List Wr} (n : NetAt K C H p ng nw gs ws) (W : WellAt wl H) (n3 : p ≠ wl) (n4 : ng ≠ wl) (n5 : nw ≠ wl) (d : Dr wl H H') : NetAt K C H' p ng nw gs ws := by
  obtain ⟨dx, h⟩ := n.ob
  exact ⟨⟨dx, d.but _ _ n3 h⟩, n.g.dr' n4 W d, n.w.dr' n5 W d, n.ne⟩
theorem Tabs.lst {T : List (Addr × Str)} {H H' : Hp} (t : LamX.Tabs T H) (e : ∀ b o, H b = some o → (∀ xs, o ≠ .lst xs) → H' b = some o) : LamX.Tabs T H' := fun p hp => by
  obtain ⟨ps, h1, h2, h3⟩ := t p hp
  refine ⟨ps, e _ _ h1 (fun xs z => by cases z), h2, fun pos cv hc => ?_⟩
  obtain ⟨c, e1, e2⟩ := h3 pos cv hc
  exact ⟨c, e1, e _ _ e2 (fun xs z => by unfold LamX.CodeO at z; cases z)⟩
theorem Tabs.dr {T : List (Addr × Str)} {wl : Addr} {H H' : Hp} (t : LamX.Tabs T H) (W : WellAt wl H) (d : Dr wl H H') : LamX.Tabs T H' := Tabs.lst t fun b o h n => d.but b o (fun z => by
  obtain ⟨xs, e, _⟩ := W
  rw [z, e] at h
  exact n xs (Option.some.inj h).symm) h
theorem Tabs.put {T : List (Addr × Str)} {p : Addr} {xs : List V} {o' : HO} {H : Hp} (t : LamX.Tabs T H) (hp : H p = some (.lst xs)) : LamX.Tabs T (upd H p o') := Tabs.lst t fun b o h n => by
  rw [upd_ne]
  · exact h
  · intro z
    rw [z, hp] at h
    exact n xs (Option.some.inj h).symm
theorem odd3 {d : Int} (h0 : 0 ≤ d) (h1 : d < 3) : ∃ far : Int, atI [V.int 2, V.int 1, V.int 500] d = some (.int far) ∧ 0 ≤ far ∧ far ≤ 500 := by
  have : d = 0 ∨ d = 1 ∨ d = 2 := by omega
  rcases this with rfl | rfl | rfl
  · exact ⟨2, rfl, by decide, by decide⟩
  · exact ⟨1, rfl, by decide, by decide⟩
  · exact ⟨500, rfl, by decide, by decide⟩
theorem min_let {cs : List Int} {m : Int} (hm : m ∈ cs) (hm2 : ∀ y ∈ cs, m ≤ y) : decide (∀ y ∈ cs, 0 ≤ y) = decide (0 ≤ m) := by
  rw [decide_eq_decide]
  exact ⟨fun h => h m hm, fun h y hy => Int.le_trans h (hm2 y hy)⟩
theorem TK.put {H : Hp} {p : Addr} {xs : List V} {o : HO} (h : H p = some (.lst xs)) : TK H (upd H p o) := fun a o' t ha => by
  rw [upd_ne]
  · exact ha
  · intro z
    rw [z, h] at ha
    cases ha
    exact t.elim
theorem LG.put {K : PySem.W.Frag} {H : Hp} {p l : Addr} {xs : List V} {o : HO} {gs : List Gt} (q : LG K H l gs) (h : H p = some (.lst xs)) (n : l ≠ p) : LG K (upd H p o) l gs := by
  obtain ⟨vs, e, a⟩ := q
  exact ⟨vs, by rw [upd_ne n]; exact e, a.imp fun _ _ r => r.tk (TK.put h)⟩
theorem LW.put {K : PySem.W.Frag} {H : Hp} {p l : Addr} {xs : List V} {o : HO} {ws : List Wr} (q : LW K H l ws) (h : H p = some (.lst xs)) (n : l ≠ p) : LW K (upd H p o) l ws := by
  obtain ⟨vs, e, a⟩ := q
  exact ⟨vs, by rw [upd_ne n]; exact e, a.imp fun _ _ r => r.tk (TK.put h)⟩
theorem NetAt.put {K : PySem.W.Frag} {C : Addr} {H : Hp} {p l ng nw : Addr} {xs : List V} {o : HO} {gs : List Gt} {ws : List Wr} (q : NetAt K C H l ng nw gs ws) (h : H p = some (.lst xs)) (n1 : l ≠ p) (n2 : ng ≠ p) (n3 : nw ≠ p) : NetAt K C (upd H p o) l ng nw gs ws := by
  obtain ⟨dx, e⟩ := q.ob
  exact ⟨⟨dx, by rw [upd_ne n1]; exact e⟩, q.g.put h n2, q.w.put h n3, q.ne⟩
theorem ext_seq {K : PySem.W.Frag} {H H' : Hp} {a : Addr} {xs : List V} (e : ExN H H') (h : SqL K H a xs) : SqL K H' a xs := by
  rcases h with (h | ⟨o, h⟩) | h
  · exact .inl (.inl (ext_lst e h))
  · exact .inl (.inr ⟨o, e _ _ h fun ps z => by cases z⟩)
  · exact .inr h
def spLaw (K : PySem.W.Frag) (Pt : Addr) : Sp := fun vs H Q _ => ∃ (a : Addr) (ns : List Int), vs = [.ref a] ∧ H Pt = some (.tbl #[]) ∧ SqL K H a (ns.map V.int) ∧ ns.length ≤ 63 ∧ ∀ H', Q (.bl true) H'
theorem waitF_bd {gs : List Gt} (gok : ∀ g ∈ gs, GOk g) {g : Nat} (h : g < gs.length) : 0 ≤ waitF gs g ∧ waitF gs g ≤ 100 := by
  have e : waitF gs g = (gs[g]'h).2 := by
    unfold waitF
    rw [List.getD_eq_getElem?_getD, List.getElem?_eq_getElem h]
    rfl
  rw [e]
  have := gok _ (List.getElem_mem h)
  exact ⟨this.2.1, this.2.2.1⟩
theorem MaxW.bd {gs : List Gt} {ws : List Wr} {cs : List Int} {M : Int} {r : Nat → Nat} (N : NetOk gs ws) (hr1 : ∀ a b, BareR ws cs a b → r a < r b) (hr2 : ∀ a, a < gs.length → r a < gs.length) (h : MaxW (BareR ws cs) (waitF gs) gs.length M) : 0 ≤ M ∧ M ≤ 1000000 := by
  obtain ⟨s, e, k, hs, hw⟩ := h.is
  have h0 := h.le s s 0 _ hs .one
  have hb := waitF_bd N.gok hs
  have up : ∀ {e k : Nat} {t : Int}, Way (BareR ws cs) (waitF gs) s e k t → t ≤ 100 * ((k : Int) + 1) := fun {e k t} w => by
    induction w with
    | one => omega
    | snoc _ r ih =>
      have := waitF_bd N.gok (BareR.lt N _ _ r).2
      push_cast
      omega
  have h1 := up hw
  have h2 := hw.rank hr1
  have h3 := hr2 e (hw.lt (BareR.lt N) hs)
  have := N.gl
  omega
theorem ints_odd (H : Hp) (ls : List Int) : All2 (OdV H) (ls.map V.int) (ls.map some) := by
  refine ⟨by rw [List.length_map, List.length_map], fun i x y hx hy => ?_⟩
  rw [List.getElem?_map] at hx hy
  cases e : ls[i]? with
  | none =>
    rw [e] at hx
    cases hx
  | some n =>
    rw [e] at hx hy
    cases hx
    cases hy
    exact .int n
theorem with_big {gs : List Gt} {ws : List Wr} {ls : List Int} {k : Bool} {b : Int} (N : NetOk gs ws) (hb : 1000000 ≤ b) (hyes : (∀ y ∈ cntsL ws ls, 0 ≤ y) → ∃ M, MaxW (BareR ws (cntsL ws ls)) (waitF gs) gs.length M ∧ k = decide (M ≤ b)) (hno : ¬ (∀ y ∈ cntsL ws ls, 0 ≤ y) → k = false) :
    k = decide (∀ y ∈ cntsL ws ls, 0 ≤ y) := by
  by_cases h : ∀ y ∈ cntsL ws ls, 0 ≤ y
  · obtain ⟨r, hr1, hr2⟩ := N.rank_cnts h
    obtain ⟨M, mx, e⟩ := hyes h
    have hM := (mx.bd N hr1 hr2).2
    rw [e, decide_eq_true h, decide_eq_true (by omega)]
  · rw [hno h, decide_eq_false h]
theorem Chain.mem {ws : List Wr} {cs : List Int} : ∀ {row : List Nat} {s e : Nat}, Chain ws cs s row e → ∀ p ∈ row, ∃ x, ws[p]? = some x
  | q :: r, s, e, ⟨x, h1, _, _, h4⟩, p, hp => by
    rcases List.mem_cons.mp hp with e | hp
    · rw [e]
      exact ⟨x, h1⟩
    · exact Chain.mem h4 p hp
section
variable {P : Program} {w : World} {K : PySem.W.Frag} {mg : Str → Option Value} {base : Heap}
abbrev nLaw : List Str := ["_law_script", "_law_k", "_law_state", "_law_gates_here", "_law_wires_here", "_law_start", "_law_end", "_law_stock", "_law_due", "_law_gate", "_law_row", "_law_place", "_law_some", "_law_most", "_law_need", "_law_found", "_law_j", "_law_spot", "_law_lags_here", "_law_net", "_law_odd"]
theorem scLaw : FnScope nLaw ["_law_script"] (defScope sLaw) := ⟨rfl, rfl, rfl, by decide +kernel, rfl, by decide +kernel, by decide +kernel⟩
theorem ok_law {f C C0 CL CB c Pt fC fD fP fI fL fG fR fGr fBo fLo fIw fW : Addr} {fdC fdD fdP fdI fdL fdG fdGr fdBo fdLo fdIw fdW : FuncData} {oc kV doc pm ct : Value} {od an : Option Addr} {osl : Array (Option Value)} {ocR kVR docR pmR cdvR ctR : Value} {odR anR : Option Addr} {oslR : Array (Option Value)}
    (lk : K.lookup f = some ⟨oc, od, .func (PySem.W.fnOf "law" "law" (defArgs sLaw) (defBody sLaw) (defScope sLaw) .none kV doc pm an (.ref c) ct), osl⟩) (hcd : PySem.W.codeIn K (.ref c) "law" = true) (TB : LamX.TabB base mg c Pt)
    (lkR : K.lookup fR = some ⟨ocR, odR, .func (PySem.W.fnOf "_law_word" "_law_word" (defArgs sWord) (defBody sWord) (defScope sWord) .none kVR docR pmR anR cdvR ctR), oslR⟩) (cdR : PySem.W.codeIn K cdvR "_law_word" = true) (mR : mg "_law_word" = some (.ref fR)) (kR : PySem.W.keepIn K (.ref fR) = true) (bR : Binds K (PySem.W.fnOf "_law_word" "_law_word" (defArgs sWord) (defBody sWord) (defScope sWord) .none kVR docR pmR anR cdvR ctR) ["_law_ask"] []) (R : WordC K mg C0 CL CB)
    (B : Bt mg) (T0 : NT K mg C) (ms : mg "sum" = none) (mn : mg "min" = none) (DC : DCellAt P w K mg base fC fdC) (DD : DDraw P w K mg base fD fdD) (DP : DLParts P w K mg base fP fdP) (MK : Mk K C fI) (init : FnOk P w K mg base CX0 6 fI fdI ["self", "gates", "wires"] (spInit K C)) (bI : Binds K fdI ["self", "gates", "wires"] []) (DL : DLLags P w K mg base fL fdL) (DG : DGCounts P w K mg base fG fdG)
    (DGr : DGreat P w K mg base fGr fdGr) (DBo : DBeatOf P w K mg base C fBo fdBo) (DLo : DLongest P w K mg base C fLo fdLo) (DIw : DIsWay P w K mg base fIw fdIw) (DW : DWith P w K mg base C fW fdW) (DWX : FnOk P w K mg base (L2.CX P w) 5 fW fdW ["net", "lags", "beat"] (spWithX K C CL CB)) :
    FnOk P w K mg base CX0 9 f (PySem.W.fnOf "law" "law" (defArgs sLaw) (defBody sLaw) (defScope sLaw) .none kV doc pm an (.ref c) ct) ["_law_script"] (spLaw K Pt) := by
  refine fn_of lk hcd scLaw (fun vs H Q E h => ?_) (fun A outer s H vs Q E hr h => ?_)
  · obtain ⟨a, ns, rfl, _⟩ := h
    rfl
  · obtain ⟨a, ns, rfl, hPt, hS, hlen, q⟩ := h
    suffices hh : ∃ t, PSs (cxOf CX0 P w K mg base nLaw "law" (defScope sLaw) f (.ref c) A outer s H E).nox (defBody sLaw) t ∧ t { nx := fun _ H' => Q .non H', rt := Q } (L2.start nLaw [.ref a]) H by
      obtain ⟨t, h, q⟩ := hh
      exact ⟨t, h.nox, q⟩
    have nd := scLaw.nd
    let T : List (Addr × Str) := [(Pt, (cxOf CX0 P w K mg base nLaw "law" (defScope sLaw) f (.ref c) A outer s H E).nox.env.qual ++ "<lambda>")]
    have hmT : (Pt, (cxOf CX0 P w K mg base nLaw "law" (defScope sLaw) f (.ref c) A outer s H E).nox.env.qual ++ "<lambda>") ∈ T := List.mem_singleton.mpr rfl
    have hu : ∀ p ∈ T, p.1 = Pt → p.2 = (cxOf CX0 P w K mg base nLaw "law" (defScope sLaw) f (.ref c) A outer s H E).nox.env.qual ++ "<lambda>" := fun p hp _ => by rw [List.mem_singleton.mp hp]
    refine ⟨_, pss_cons (ps_for PassesOwn.never rfl (pi_range1 (by rfl) B.range (pa_cons (pe_callB (call_max2 rfl) (by rfl) B.max (by decide +kernel) (pa_cons pe_int (pa_cons (pe_callB (call_min2 rfl) (by rfl) mn (by decide +kernel) (pa_cons pe_int (pa_cons (pe_callB call_len_seq (by rfl) B.len PySem.boot_len (pa_cons (pv 0) pa_nil)) pa_nil))) pa_nil))) pa_nil)) (pg_name (i := 1) nd rfl (.inl rfl)) (pss_cons (ps_set (i := 2) nd rfl (.inl rfl) (pe_lst (pa_cons (pe_op op_add (pe_call DC.ok (hr.mono (by decide)) (by rfl) DC.mg DC.kp DC.bd .nil pass0 (pa_cons (pv 0) (pa_cons (pv 1) pa_nil))) (pe_op op_mul pe_int (pv 1))) pa_nil))) <|
        pss_cons (ps_asg (pe_call DP.ok (hr.mono (by decide)) (by rfl) DP.mg DP.kp DP.bd .nil pass0 (pa_cons (pv 2) (pa_cons pe_int pa_nil))) (pg_tup rfl (pgs_cons (pg_name (i := 3) nd rfl (.inr rfl)) (pgs_cons (pg_name (i := 4) nd rfl (.inr rfl)) pgs_nil)))) <|
        pss_cons (ps_set (i := 19) nd rfl (.inr rfl) (pe_make MK init (hr.mono (by decide)) (by rfl) T0.mg bI .nil pass0 (pa_cons (pv 3) (pa_cons (pv 4) pa_nil)))) <|
        pss_cons (ps_set (i := 18) nd rfl (.inr rfl) (pe_call DL.ok (hr.mono (by decide)) (by rfl) DL.mg DL.kp DL.bd .nil pass0 (pa_cons (pv 2) (pa_cons (pv 3) (pa_cons (pe_call DD.ok (hr.mono (by decide)) (by rfl) DD.mg DD.kp DD.bd .nil pass0 (pa_cons (pv 2) (pa_cons pe_int pa_nil))) pa_nil))))) <|
        pss_cons (ps_set (i := 8) nd rfl (.inl rfl) (pe_call DGr.ok (hr.mono (by decide)) (by rfl) DGr.mg DGr.kp DGr.bd .nil pass0 (pa_cons (pv 3) (pa_cons (pv 4) (pa_cons (pe_lc (own := [("_law_start", 5), ("_law_end", 6), ("_law_stock", 7)]) (g := (gTup K 3 (gCons (gName 5) (gCons (gName 6) (gCons (gName 7) gNil))))) (tt := tYes) (te := (tCB (Evl.rLenS K) (tCons (tVar 7) tNil))) rfl nd (pi_list (pv 4)) (blkOk_by (N := nLaw) (sc := defScope sLaw) (own := [("_law_start", 5), ("_law_end", 6), ("_law_stock", 7)]) (by decide +kernel)) (fun _ _ _ _ _ => (pg_tup rfl (pgs_cons (pg_name (i := 5) nd rfl (.inl rfl)) (pgs_cons (pg_name (i := 6) nd rfl (.inl rfl)) (pgs_cons (pg_name (i := 7) nd rfl (.inl rfl)) pgs_nil))))) (fun _ _ _ _ _ => pts_nil) (fun _ _ _ _ _ => (pe_callB call_len_seq (by rfl) B.len PySem.boot_len (pa_cons (pv 7) pa_nil)))) pa_nil))))) <|
        pss_cons (ps_if (pt_cmpR op_ne (pe_call DBo.ok (hr.mono (by decide)) (by rfl) DBo.mg DBo.kp DBo.bd .nil pass0 (pa_cons (pv 19) pa_nil)) (pv 8) (nomark _)) (pss_one (ps_ret pe_bl)) pss_nil) <|
        pss_cons (ps_expr (pe_bm PySem.F.plainAttrs_list PySem.F.slot_list_append PySem.F.type_list_append mt_append (pe_ix ix_tup (pe_call DLo.ok (hr.mono (by decide)) (by rfl) DLo.mg DLo.kp DLo.bd .nil pass0 (pa_cons (pv 19) pa_nil)) pe_int (fun _ _ => rfl)) (pa_cons pe_int pa_nil))) <|
        pss_cons (ps_asg (pe_call DLo.ok (hr.mono (by decide)) (by rfl) DLo.mg DLo.kp DLo.bd .nil pass0 (pa_cons (pv 19) pa_nil)) (pg_tup rfl (pgs_cons (pg_name (i := 9) nd rfl (.inl rfl)) (pgs_cons (pg_name (i := 10) nd rfl (.inl rfl)) pgs_nil)))) <|
        pss_cons (ps_if (PW.pt (pw_or (pt_cmpR op_notIn_seq (pv 9) (pe_listRg rfl (by rfl) B.list (prg_1 (by rfl) B.range (pe_callB call_len_seq (by rfl) B.len PySem.boot_len (pa_cons (pv 3) pa_nil)))) (by rfl)) (pw_or (pt_not (pt_val (pe_callB call_isi (by rfl) B.isi (by decide +kernel) (pa_cons (pv 10) (pa_cons (pe_bltn (v := .ty "list") (by rfl) B.list (by decide +kernel) rfl) pa_nil))))) (pw_or1 (pt_not (pt_val (pe_call DIw.ok (hr.mono (by decide)) (by rfl) DIw.mg DIw.kp DIw.bd .nil pass0 (pa_cons (pv 3) (pa_cons (pv 4) (pa_cons (pv 9) (pa_cons (pv 10) pa_nil))))))))))) (pss_one (ps_ret pe_bl)) pss_nil) <|
        pss_cons (ps_if (pt_cmpR op_ne (pe_op op_add (pe_ix ix_tup (pe_ix ix_list (pv 3) (pv 9) (fun _ _ => rfl)) pe_int (fun _ _ => rfl)) (pe_callB (cr_sum rfl) (by rfl) ms (by decide +kernel) (pa_cons (pe_lc (own := [("_law_place", 11)]) (g := (gName 11)) (tt := tYes) (te := (tOp (rIxT K) (tOp (rIxL K) (tVar 3) (tOp (rIxT K) (tOp (rIxL K) (tVar 4) (tVar 11)) (tC (.int 1)))) (tC (.int 1)))) rfl nd (pi_list (pv 10)) (blkOk_by (N := nLaw) (sc := defScope sLaw) (own := [("_law_place", 11)]) (by decide +kernel)) (fun _ _ _ _ _ => (pg_name (i := 11) nd rfl (.inl rfl))) (fun _ _ _ _ _ => pts_nil) (fun _ _ _ _ _ => (pe_ix ix_tup (pe_ix ix_list (pv 3) (pe_ix ix_tup (pe_ix ix_list (pv 4) (pv 11) (fun _ _ => rfl)) pe_int (fun _ _ => rfl)) (fun _ _ => rfl)) pe_int (fun _ _ => rfl)))) pa_nil))) (pv 8) (nomark _)) (pss_one (ps_ret pe_bl)) pss_nil) <|
        pss_cons (ps_set (i := 12) nd rfl (.inl rfl) (pe_call DG.ok (hr.mono (by decide)) (by rfl) DG.mg DG.kp DG.bd .nil pass0 (pa_cons (pv 4) (pa_cons (pv 18) pa_nil)))) <|
        pss_cons (ps_set (i := 13) nd rfl (.inl rfl) (pe_op op_pow pe_int pe_int)) <|
        Evl.pss_cut (ps_if (pt_cmpR op_ge (pe_callB (cr_min rfl) (by rfl) mn (by decide +kernel) (pa_cons (pv 12) pa_nil)) pe_int (nomark _)) (pss_one (ps_set (i := 13) nd rfl (.inl rfl) (pe_call DGr.ok (hr.mono (by decide)) (by rfl) DGr.mg DGr.kp DGr.bd .nil pass0 (pa_cons (pv 3) (pa_cons (pv 4) (pa_cons (pv 12) pa_nil)))))) pss_nil) <|
        pss_cons (ps_for PassesOwn.never rfl (pi_list (pe_lst (pa_cons (pv 13) (pa_cons (pe_callB (call_max2 rfl) (by rfl) B.max (by decide +kernel) (pa_cons pe_int (pa_cons (pe_op op_sub (pv 13) pe_int) pa_nil))) (pa_cons (pe_op op_add (pv 13) pe_int) (pa_cons pe_int (pa_cons (pv 8) (pa_cons (pe_call DD.ok (hr.mono (by decide)) (by rfl) DD.mg DD.kp DD.bd .nil pass0 (pa_cons (pv 2) (pa_cons pe_int pa_nil))) pa_nil)))))))) (pg_name (i := 14) nd rfl (.inl rfl)) (pss_cons (ps_set (i := 15) nd rfl (.inl rfl) (pe_call DW.ok (hr.mono (by decide)) (by rfl) DW.mg DW.kp DW.bd .nil pass0 (pa_cons (pv 19) (pa_cons (pv 18) (pa_cons (pv 14) pa_nil))))) <|
        pss_one (ps_if (PW.pt (pw_or (pt_not (pt_val (pe_callB call_isi (by rfl) B.isi (by decide +kernel) (pa_cons (pv 15) (pa_cons (pe_bltn (v := .ty "bool") (by rfl) B.bool (by decide +kernel) rfl) pa_nil))))) (pw_or1 (pt_cmpR op_ne (pv 15) (pe_and (pe_cmpR op_ge (pe_callB (cr_min rfl) (by rfl) mn (by decide +kernel) (pa_cons (pv 12) pa_nil)) pe_int (nomark _)) (pe_one (pe_cmpR op_ge (pv 14) (pv 13) (nomark _)))) (nomark _))))) (pss_one (ps_ret pe_bl)) pss_nil))) <|
        pss_cons (ps_set (i := 17) nd rfl (.inl rfl) (pe_ix ix_list (pe_lc (own := [("_law_j", 16)]) (g := (gName 16)) (tt := (tTest (tOp (rIn K true) (tOp (rIxT K) (tOp (rIxL K) (tVar 3) (tVar 16)) (tC (.int 0))) (tLst (tCons (tC (.str "in")) (tCons (tC (.str "out")) tNil)))))) (te := (tVar 16)) rfl nd (pi_range1 (by rfl) B.range (pa_cons (pe_callB call_len_seq (by rfl) B.len PySem.boot_len (pa_cons (pv 3) pa_nil)) pa_nil)) (blkOk_by (N := nLaw) (sc := defScope sLaw) (own := [("_law_j", 16)]) (by decide +kernel)) (fun _ _ _ _ _ => (pg_name (i := 16) nd rfl (.inl rfl))) (fun _ _ _ _ _ => pts_one (pt_cmpR op_notIn_seq (pe_ix ix_tup (pe_ix ix_list (pv 3) (pv 16) (fun _ _ => rfl)) pe_int (fun _ _ => rfl)) (pe_lst (pa_cons pe_str (pa_cons pe_str pa_nil))) (by rfl))) (fun _ _ _ _ _ => (pv 16))) (pe_un un_neg pe_int) (fun _ _ => rfl))) <|
        pss_cons (ps_asg (pe_op op_add (pe_ix ix_list (pv 18) (pv 17) (fun _ _ => rfl)) pe_int) (pg_sub (pv 18) (pv 17) set_list)) <|
        pss_cons (ps_if (pt_cmpR op_ne (pe_call DW.ok (hr.mono (by decide)) (by rfl) DW.mg DW.kp DW.bd .nil pass0 (pa_cons (pv 19) (pa_cons (pv 18) (pa_cons (pe_op op_pow pe_int pe_int) pa_nil)))) (pe_cmpR op_ge (pe_callB (cr_min rfl) (by rfl) mn (by decide +kernel) (pa_cons (pe_call DG.ok (hr.mono (by decide)) (by rfl) DG.mg DG.kp DG.bd .nil pass0 (pa_cons (pv 4) (pa_cons (pv 18) pa_nil))) pa_nil)) pe_int (nomark _)) (nomark _)) (pss_one (ps_ret pe_bl)) pss_nil) <|
        pss_cons (ps_set (i := 20) nd rfl (.inr rfl) (pe_ix ix_list (pe_lst (pa_cons (pe_un un_neg pe_int) (pa_cons pe_bl (pa_cons pe_non (pa_cons pe_str (pa_cons (pe_tup (pa_cons pe_int pa_nil)) (pa_cons (pe_un un_neg (pe_op op_pow pe_int pe_int)) pa_nil))))))) (pe_call DD.ok (hr.mono (by decide)) (by rfl) DD.mg DD.kp DD.bd .nil pass0 (pa_cons (pv 2) (pa_cons pe_int pa_nil))) (fun _ _ => rfl))) <|
        pss_cons (ps_if (pt_cmpR op_ne (LamX.pe_lamcall (T := T) (TT := TWord CL CB) (k := 5) (t := fun E => tCallS (spWithX K C CL CB) (fun _ => E) (tCons (tVar 19) (tCons (tVar 18) (tCons (tVar 20) tNil)))) (by rfl) mR kR lkR cdR bR scWord rfl (.inl rfl) (word_gives R) TB rfl hmT hu (hr.mono (by decide)) (LamX.lamS_by (sc := defScope sLaw) (by decide +kernel)) rfl (fun _ _ _ _ _ => rfl) (fun A outer s H E f c' hr' => pe_callS DWX (hr'.mono (by decide)) (by rfl) DW.mg DW.kp DW.bd (fun σ => passAt (W := fun cls d _ H => E cls d H) (takes_of rfl rfl rfl rfl) σ) (pa_cons (pv 19) (pa_cons (pv 18) (pa_cons (pv 20) pa_nil))))) pe_str (nomark _)) (pss_one (ps_ret pe_bl)) pss_nil) <|
        pss_one (ps_if (pt_cmpR op_ne (LamX.pe_lamcall (T := T) (TT := TWord CL CB) (k := 5) (t := fun E => tCallS (spWithX K C CL CB) (fun _ => E) (tCons (tVar 19) (tCons (tOp rCat (tVar 18) (tLst (tCons (tC (.int 0)) tNil))) (tCons (tVar 20) tNil)))) (by rfl) mR kR lkR cdR bR scWord rfl (.inl rfl) (word_gives R) TB rfl hmT hu (hr.mono (by decide)) (LamX.lamS_by (sc := defScope sLaw) (by decide +kernel)) rfl (fun _ _ _ _ _ => rfl) (fun A outer s H E f c' hr' => pe_callS DWX (hr'.mono (by decide)) (by rfl) DW.mg DW.kp DW.bd (fun σ => passAt (W := fun cls d _ H => E cls d H) (takes_of rfl rfl rfl rfl) σ) (pa_cons (pv 19) (pa_cons (pe_op op_cat (pv 18) (pe_lst (pa_cons pe_int pa_nil))) (pa_cons (pv 20) pa_nil))))) pe_str (nomark _)) (pss_one (ps_ret pe_bl)) pss_nil))) <|
        pss_one (ps_ret pe_bl), ?_⟩
    have T0' : LamX.Tabs T H := fun p hp => by
      rw [List.mem_singleton.mp hp]
      exact LamX.TabS.nil hPt
    refine ⟨_, rfl, a, _, rfl, .inl hS, 10, _, rfl, 1, _, rfl, _, rfl, ?_, ?_, ?_⟩
    · split <;> split <;> omega
    · split <;> split <;> omega
    refine for_range (lo := 0) (fun i σ H' => ∃ t1 t2 t3 t4 t5 t6 t7 t8 t9 t10 t11 t12 t13 t14 t15 t16 t17 t18 t19 t20 : Option V, σ = [some (.ref a), t1, t2, t3, t4, t5, t6, t7, t8, t9, t10, t11, t12, t13, t14, t15, t16, t17, t18, t19, t20] ∧ ExN H H' ∧ LamX.Tabs T H') ⟨_, _, _, _, _, _, _, _, _, _, _, _, _, _, _, _, _, _, _, _, rfl, LamX.ExtN.refl _, T0'⟩ ?_ (fun σ H' ⟨_, _, _, _, _, _, _, _, _, _, _, _, _, _, _, _, _, _, _, _, e, _, _⟩ => by subst e; exact q H')
    rintro i σ H0 hi ⟨t1, t2, t3, t4, t5, t6, t7, t8, t9, t10, t11, t12, t13, t14, t15, t16, t17, t18, t19, t20, rfl, x0, T00⟩
    have ek : (0 : Int) + (i : Nat) = ((i : Nat) : Int) := Int.zero_add _
    rw [ek]
    refine ⟨_, rfl, _, rfl, a, ns, _, rfl, by omega, ext_seq x0 hS, fun z => ?_⟩
    refine ⟨_, rfl, _, _, rfl, rfl, .inl ⟨by decide, by decide⟩, _, _, rfl, rfl, (by show 1 ≤ sizeLine; decide), fun wl hwl => ?_⟩
    have s1 : Same H0 (upd H0 wl (.lst [.int (z + 23 * (i : Nat))])) := same_new hwl
    have W1 : WellAt wl (upd H0 wl (.lst [.int (z + 23 * (i : Nat))])) := ⟨_, upd_same, .inl ⟨_, rfl⟩⟩
    generalize upd H0 wl (.lst [.int (z + 23 * (i : Nat))]) = H1 at s1 W1
    refine gn_norm (σ' := [some (.ref a), some (.int (i : Nat)), some (.ref wl), t3, t4, t5, t6, t7, t8, t9, t10, t11, t12, t13, t14, t15, t16, t17, t18, t19, t20]) rfl ?_
    refine ⟨_, rfl, wl, 5, rfl, by decide, by decide, W1, fun gs ws lg lw p H2 N gl24 glm hnI hwg rl3 hw72 wne inner D2 hlg hlw nlgw LG2 LW2 ep => ?_⟩
    refine ⟨p, _, rfl, .inl (.inl ep), rfl, _, _, rfl, _, _, rfl, rfl, ?_⟩
    have nlg : lg ≠ wl := (W1.ne hlg).symm
    have nlw : lw ≠ wl := (W1.ne hlw).symm
    refine gn_norm (σ' := [some (.ref a), some (.int (i : Nat)), some (.ref wl), some (.ref lg), some (.ref lw), t5, t6, t7, t8, t9, t10, t11, t12, t13, t14, t15, t16, t17, t18, t19, t20]) rfl ?_
    refine ⟨_, rfl, _, rfl, ?_⟩
    refine net_in LG2.rg LW2.rw N fun p1 ng nw H3 NA3 s3 hp1 hng hnw => ?_
    have W3 := D2.well.same s3
    have np1 : p1 ≠ wl := (D2.well.ne hp1).symm
    have nng : ng ≠ wl := (D2.well.ne hng).symm
    have nnw : nw ≠ wl := (D2.well.ne hnw).symm
    have LG3 := LG2.same s3
    have LW3 := LW2.same s3
    refine gn_norm (σ' := [some (.ref a), some (.int (i : Nat)), some (.ref wl), some (.ref lg), some (.ref lw), t5, t6, t7, t8, t9, t10, t11, t12, t13, t14, t15, t16, t17, t18, some (.ref p1), t20]) rfl ?_
    have T3 := (Tabs.dr (T00.ext s1) W1 D2).ext s3
    have sF : ∀ b o, H0 b = some o → b ≠ wl ∧ H3 b = some o := fun b o h => ⟨ne_of_none h hwl, s3 _ _ (D2.but _ _ (ne_of_none h hwl) (s1 _ _ h))⟩
    clear LG2 LW2 D2 T00 T0'
    -- lags
    refine ⟨_, rfl, _, rfl, _, rfl, wl, 3, rfl, by decide, by decide, W3, fun far H5 f0 f1 D5 => ?_⟩
    have LG5 := LG3.dr' nlg W3 D5
    obtain ⟨gv5, hgv5, ga5⟩ := id LG5
    refine ⟨wl, lg, far, gv5, gs, rfl, f0, by omega, D5.well, hgv5, ga5, nlg, by omega, fun ll ls H6 D6 hll ell lok bd => ?_⟩
    have D36 := D5.trans D6
    have NA6 := NA3.dr' W3 np1 nng nnw D36
    have LG6 := LG3.dr' nlg W3 D36
    have LW6 := LW3.dr' nlw W3 D36
    have T6 := Tabs.dr T3 W3 D36
    have W6 := D6.well
    have hll3 : H3 ll = none := D5.free W3 hll
    have nll : ll ≠ wl := (W3.ne hll3).symm
    have sF6 : ∀ b o, H0 b = some o → b ≠ wl ∧ b ≠ ll ∧ H6 b = some o := fun b o h => ⟨(sF b o h).1, ne_of_none (sF b o h).2 hll3, D36.but _ _ (sF b o h).1 (sF b o h).2⟩
    have nlgl : lg ≠ ll := by
      obtain ⟨_, h, _⟩ := LG3
      exact ne_of_none h hll3
    have nlwl : lw ≠ ll := by
      obtain ⟨_, h, _⟩ := LW3
      exact ne_of_none h hll3
    have npl : p1 ≠ ll := by
      obtain ⟨_, h⟩ := NA3.ob
      exact ne_of_none h hll3
    have nngl : ng ≠ ll := by
      obtain ⟨_, h, _⟩ := NA3.g
      exact ne_of_none h hll3
    have nnwl : nw ≠ ll := by
      obtain ⟨_, h, _⟩ := NA3.w
      exact ne_of_none h hll3
    clear LG5 LG3 LW3 NA3 T3 D5 D6 D36 ga5 hgv5 sF
    have hlls := lok.len
    have hgl := N.gl
    have hwl' := N.wl
    have hwok : ∀ x ∈ ws, x.1 < gs.length ∧ x.2.1 < gs.length := fun x hx => ⟨(N.wok x hx).s, (N.wok x hx).e⟩
    have hcl : ∀ l : List Int, (cntsL ws l).length = ws.length := fun l => List.length_map ..
    have hws0 : 0 < ws.length := List.length_pos_iff.mpr wne
    obtain ⟨r, hr1, hr2⟩ := N.rank_regs
    refine gn_norm (σ' := [some (.ref a), some (.int (i : Nat)), some (.ref wl), some (.ref lg), some (.ref lw), t5, t6, t7, t8, t9, t10, t11, t12, t13, t14, t15, t16, t17, some (.ref ll), some (.ref p1), t20]) rfl ?_
    -- due
    obtain ⟨wv, hwv, wa⟩ := id LW6
    have hlw7 : wv.length = ws.length := wa.1
    refine ⟨_, rfl, _, rfl, _, rfl, lw, rfl, ⟨_, SqL.of hwv⟩, fun D hD => ?_⟩
    refine lc_list (K := K) (a := lw) (xs := wv) (fun i Hc => Hc D = some (.lst ((regsL' (ws.take i)).map V.int)) ∧ Same H6 Hc) ⟨by rw [upd_same]; rfl, same_new hD⟩ (fun i Hc _ ⟨_, sm⟩ => SqL.of (sm _ _ hwv)) ?_ ?_
    · rintro i v Hc hv ⟨hc, sm⟩
      obtain ⟨x, hx, a, b, rfl, sq1, sq2⟩ := wa.get hv
      have hi : i < ws.length := (List.getElem?_eq_some_iff.mp hx).1
      have tk := TK.same sm
      refine ⟨a, _, rfl, tk.seq sq1, rfl, _, _, rfl, _, _, rfl, _, _, rfl, rfl, rfl, tyes ?_⟩
      refine ⟨_, rfl, b, _, rfl, .inr (tk.seq sq2), _, hc, ?_, ?_, same_mut sm hD⟩
      · unfold regsL'
        rw [List.length_map, List.length_map, List.length_take]
        exact small1000 (by omega)
      · rw [upd_same, List.take_add_one, hx]
        unfold regsL'
        rw [List.map_append, List.map_append, List.length_map]
        rfl
    rintro H7 ⟨hD7, s7⟩
    rw [hlw7, List.take_length] at hD7
    refine ⟨lg, lw, D, gs, ws, regsL' ws, rfl, LG6.same s7, LW6.same s7, N, SqL.of hD7, by unfold regsL'; rw [List.length_map], ⟨r, hr1, hr2⟩, fun M0 H8 s8 mx0 => ?_⟩
    have s68 := s7.trans s8
    refine gn_norm (σ' := [some (.ref a), some (.int (i : Nat)), some (.ref wl), some (.ref lg), some (.ref lw), t5, t6, t7, some (.int M0), t9, t10, t11, t12, t13, t14, t15, t16, t17, some (.ref ll), some (.ref p1), t20]) rfl ?_
    -- beat_of
    refine ⟨_, rfl, p1, ng, nw, gs, ws, rfl, NA6.same s68, N, fun M1 H9 s9 mx1 => ?_⟩
    have s69 := s68.trans s9
    obtain rfl := mx0.eq mx1
    refine ⟨_, rfl, rfl, _, rfl, iteNS rfl ?_⟩
    -- longest, told and changed
    refine ⟨_, rfl, p1, ng, nw, gs, ws, rfl, NA6.same s69, N, fun M2 t1' lr1 g1 row1 H10 s10 ht1 hlr1 _ et1 er1 _ _ _ hl1 => ?_⟩
    refine ⟨t1', _, 1, _, rfl, rfl, .inl (.inl et1), atI_nat (j := 1) rfl, .inl ⟨rfl, _, SqL.of er1⟩, lr1, _, _, rfl, rfl, er1, by unfold natVs; rw [List.length_map]; exact small1000 hl1, ?_⟩
    have s611 : Same H6 (upd H10 lr1 (.lst (natVs row1 ++ [.int 0]))) := s69.trans (same_mut s10 hlr1)
    generalize upd H10 lr1 (.lst (natVs row1 ++ [.int 0])) = H11 at s611
    -- longest
    refine ⟨_, rfl, p1, ng, nw, gs, ws, rfl, NA6.same s611, N, fun M2 t2' lr g2 row H12 s12 ht2 hlr mx2 et2 er hg2 hch eM hl2 => ?_⟩
    obtain rfl := mx0.eq mx2
    obtain ⟨ge, ch⟩ := hch
    have s612 := s611.trans s12
    refine ⟨t2', _, rfl, .inl (.inl et2), rfl, _, _, rfl, _, _, rfl, rfl, ?_⟩
    refine gn_norm (σ' := [some (.ref a), some (.int (i : Nat)), some (.ref wl), some (.ref lg), some (.ref lw), t5, t6, t7, some (.int M0), some (.int (g2 : Nat)), some (.ref lr), t11, t12, t13, t14, t15, t16, t17, some (.ref ll), some (.ref p1), t20]) rfl ?_
    obtain ⟨gv, hgv, ga⟩ := id LG6
    have hlg7 : gv.length = gs.length := ga.1
    refine ⟨_, rfl, _, rfl, lg, gv, rfl, .inl (SqL.of (s612 _ _ hgv)), _, rfl, RgOk.of_le (by omega) (by rw [hlg7]; omega) (by omega) (by omega), fun l13 hl13 => ?_⟩
    have s13 := s612.trans (same_new (o := .lst (rgV 0 (gv.length : Nat))) hl13)
    have er13 := same_new (o := .lst (rgV 0 (gv.length : Nat))) hl13 _ _ er
    have e13 : (upd H12 l13 (.lst (rgV 0 (gv.length : Nat)))) l13 = some (.lst (rgV 0 (gv.length : Nat))) := upd_same
    generalize upd H12 l13 (.lst (rgV 0 (gv.length : Nat))) = H13 at s13 er13 e13
    refine ⟨l13, _, rfl, .inl (SqL.of e13), rfl, flat_rg _ _, false, by rw [in_rg (by rw [hlg7]; exact hg2)]; rfl, iteF ?_⟩
    refine ⟨_, rfl, _, _, _, _, true, rfl, .ty "list", ty_lst (SqL.of er13), kit_ty (by decide +kernel), true, rfl, iteF ?_⟩
    refine ⟨_, rfl, _, rfl, _, rfl, _, rfl, lg, lw, lr, g2, ws, row, ge, rfl, LW6.same s13, by omega, er13, ch, fun H14 s14 => ⟨true, rfl, iteF ?_⟩⟩
    have s614 := s13.trans s14
    have er14 := s14 _ _ er13
    -- its wait
    obtain ⟨_, hvg2, ag2, rfl, sqg2⟩ := ga.getR (List.getElem?_eq_getElem hg2)
    have ew : ∀ (g : Nat) (h : g < gs.length), (gs[g]'h).2 = waitF gs g := fun g h => by
      unfold waitF
      rw [List.getD_eq_getElem?_getD, List.getElem?_eq_getElem h]
      rfl
    refine ⟨_, rfl, _, rfl, lg, _, g2, _, rfl, rfl, SqL.of (s614 _ _ hgv), atI_nat hvg2, ag2, _, 1, _, rfl, rfl, (TK.same s614).seq sqg2, atI_nat (j := 1) rfl, ?_⟩
    rw [ew]
    refine ⟨_, rfl, lr, rfl, ⟨_, SqL.of er14⟩, fun D2 hD2 => ?_⟩
    refine lc_list (K := K) (a := lr) (xs := natVs row) (fun i Hc => Hc D2 = some (.lst (((row.take i).map fun p => waitF gs (endOf ws p)).map V.int)) ∧ Same H14 Hc) ⟨by rw [upd_same]; rfl, same_new hD2⟩ (fun i Hc _ ⟨_, sm⟩ => SqL.of (sm _ _ er14)) ?_ ?_
    · rintro i v Hc hv ⟨hc, sm⟩
      unfold natVs at hv
      rw [List.getElem?_map] at hv
      cases ep : row[i]? with
      | none =>
        rw [ep] at hv
        cases hv
      | some p =>
        rw [ep] at hv
        cases hv
        obtain ⟨x, hx⟩ := ch.mem p (List.mem_of_getElem? ep)
        have WX := N.wok x (List.mem_of_getElem? hx)
        have hil : i < row.length := (List.getElem?_eq_some_iff.mp ep).1
        have sH := s614.trans sm
        obtain ⟨_, hvw, a', b', rfl, sq1, sq2⟩ := wa.getR hx
        obtain ⟨_, hvg, ag, rfl, sqg⟩ := ga.getR (List.getElem?_eq_getElem WX.e)
        refine ⟨rfl, tyes ?_⟩
        refine ⟨_, rfl, _, rfl, _, rfl, lw, wv, p, _, rfl, rfl, SqL.of (sH _ _ hwv), atI_nat hvw, a', _, 1, _, rfl, rfl, (TK.same sH).seq sq1, atI_nat (j := 1) rfl, lg, gv, x.2.1, _, rfl, rfl, SqL.of (sH _ _ hgv), atI_nat hvg, ag, _, 1, _, rfl, rfl, (TK.same sH).seq sqg, atI_nat (j := 1) rfl, ?_⟩
        refine ⟨_, hc, ?_, ?_, same_mut sm hD2⟩
        · rw [List.length_map, List.length_map, List.length_take]
          exact small1000 (by omega)
        · have ee : endOf ws p = x.2.1 := by
            unfold endOf
            rw [List.getD_eq_getElem?_getD, hx]
            rfl
          rw [upd_same, List.take_add_one, ep, List.map_append, List.map_append, ew]
          show _ = some (HO.lst (_ ++ [V.int (waitF gs (endOf ws p))]))
          rw [ee]
    rintro H15 ⟨hD15, s15⟩
    have hrt : row.take (natVs row).length = row := by unfold natVs; rw [List.length_map, List.take_length]
    rw [hrt] at hD15
    have s615 := s614.trans s15
    refine ⟨D2, _, rfl, SqL.of hD15, _, _, rfl, rfl, _, rfl, rfl, _, rfl, iteNS (congrArg V.int eM.symm) ?_⟩
    -- some
    refine ⟨_, rfl, _, rfl, lw, ll, wv, ws, ls, rfl, s615 _ _ hwv, wa.imp fun _ _ r => r.tk (TK.same s615), by omega, SqL.of (s615 _ _ ell), fun x hx => by rw [hlls]; exact hwok x hx, fun lc H16 s16 hlc elc => ?_⟩
    have s616 := s615.trans s16
    refine gn_norm (σ' := [some (.ref a), some (.int (i : Nat)), some (.ref wl), some (.ref lg), some (.ref lw), t5, t6, t7, some (.int M0), some (.int (g2 : Nat)), some (.ref lr), t11, some (.ref lc), t13, t14, t15, t16, t17, some (.ref ll), some (.ref p1), t20]) rfl ?_
    have nlc : lc ≠ wl := ((W6.same s615).ne hlc).symm
    have LG16 := LG6.same s616
    have LW16 := LW6.same s616
    have NA16 := NA6.same s616
    have T16 := T6.ext s616
    have W16 := W6.same s616
    have ell16 := s616 _ _ ell
    have sF16 : ∀ b o, H0 b = some o → b ≠ wl ∧ b ≠ ll ∧ H16 b = some o := fun b o h => ⟨(sF6 b o h).1, (sF6 b o h).2.1, s616 _ _ (sF6 b o h).2.2⟩
    clear NA6 LG6 LW6 T6 W6 sF6 hD15 hD7 er14 er13 e13 er et2 s13 s614 s615 s611 s612 s69 s68
    -- most
    refine ⟨_, _, rfl, rfl, ⟨by decide, by decide, by decide⟩, ?_⟩
    refine gn_norm (σ' := [some (.ref a), some (.int (i : Nat)), some (.ref wl), some (.ref lg), some (.ref lw), t5, t6, t7, some (.int M0), some (.int (g2 : Nat)), some (.ref lr), t11, some (.ref lc), some (.int 1000000000), t14, t15, t16, t17, some (.ref ll), some (.ref p1), t20]) rfl ?_
    refine ⟨fun σ H' => ∃ y : Int, σ = [some (.ref a), some (.int (i : Nat)), some (.ref wl), some (.ref lg), some (.ref lw), t5, t6, t7, some (.int M0), some (.int (g2 : Nat)), some (.ref lr), t11, some (.ref lc), some (.int y), t14, t15, t16, t17, some (.ref ll), some (.ref p1), t20] ∧ Same H16 H' ∧ 0 ≤ y ∧ ((∀ y ∈ cntsL ws ls, 0 ≤ y) → MaxW (BareR ws (cntsL ws ls)) (waitF gs) gs.length y), ?_, ?_⟩
    · refine ⟨_, rfl, lc, _, rfl, SqL.of elc, by rw [hcl]; exact hws0, fun m hm hm2 => ⟨_, _, rfl, rfl, _, rfl, ite2 (fun e => ?_) (fun e => ?_)⟩⟩
      · have hlet : ∀ y ∈ cntsL ws ls, 0 ≤ y := fun y hy => Int.le_trans (of_decide_eq_true e) (hm2 y hy)
        obtain ⟨r', hr1', hr2'⟩ := N.rank_cnts hlet
        exact ⟨_, rfl, _, rfl, _, rfl, lg, lw, lc, gs, ws, cntsL ws ls, rfl, LG16, LW16, N, SqL.of elc, hcl ls, ⟨r', hr1', hr2'⟩, fun M H' s mx => ⟨M, rfl, s, (mx.bd N hr1' hr2').1, fun _ => mx⟩⟩
      · exact ⟨1000000000, rfl, Same.refl _, by decide, fun hl => absurd (decide_eq_true (hl m hm)) e⟩
    rintro σ H17 ⟨y, rfl, s17, hy0, hyM⟩
    have W17 := W16.same s17
    -- the beats asked
    refine ⟨_, rfl, _, rfl, _, _, rfl, rfl, _, _, rfl, _, rfl, _, _, rfl, rfl, _, rfl, _, rfl, wl, 30, rfl, by decide, by decide, W17, fun d H18 d0 d1 D18 => ⟨(by show 6 ≤ sizeLine; decide), fun ln hln => ?_⟩⟩
    obtain ⟨xs, hxs, hxv⟩ : ∃ xs : List V, xs = [V.int y, .int (if y - 1 > 0 then y - 1 else 0), .int (y + 1), .int 0, .int M0, .int d] ∧ ∀ x ∈ xs, ∃ b : Int, x = .int b ∧ 0 ≤ b := ⟨_, rfl, fun x hx => by
      have hM0 := (mx0.bd N hr1 hr2).1
      simp only [List.mem_cons, List.not_mem_nil, or_false] at hx
      rcases hx with rfl | rfl | rfl | rfl | rfl | rfl
      · exact ⟨_, rfl, hy0⟩
      · exact ⟨_, rfl, by split <;> omega⟩
      · exact ⟨_, rfl, by omega⟩
      · exact ⟨_, rfl, by decide⟩
      · exact ⟨_, rfl, hM0⟩
      · exact ⟨_, rfl, d0⟩⟩
    rw [← hxs]
    have s19 := same_new (o := .lst xs) hln
    have eln : (upd H18 ln (.lst xs)) ln = some (.lst xs) := upd_same
    generalize upd H18 ln (.lst xs) = H19 at s19 eln
    have D19 : Dr wl H16 H19 := ⟨((But.same s17).trans D18.but).trans (But.same s19), D18.well.same s19⟩
    have NA19 := NA16.dr' W16 np1 nng nnw D19
    have LG19 := LG16.dr' nlg W16 D19
    have LW19 := LW16.dr' nlw W16 D19
    have T19 := Tabs.dr T16 W16 D19
    have W19 := D19.well
    have ell19 := D19.but _ _ nll ell16
    have elc19 := D19.but _ _ nlc elc
    have sF19 : ∀ b o, H0 b = some o → b ≠ wl ∧ b ≠ ll ∧ H19 b = some o := fun b o h => ⟨(sF16 b o h).1, (sF16 b o h).2.1, D19.but _ _ (sF16 b o h).1 (sF16 b o h).2.2⟩
    clear NA16 LG16 LW16 T16 W16 sF16 W17 D18 D19 s19 s17
    refine ⟨ln, rfl, ⟨_, SqL.of eln⟩, for_list (K := K) (a := ln) (xs := xs) (fun _ σ H' => ∃ u14 u15 : Option V, σ = [some (.ref a), some (.int (i : Nat)), some (.ref wl), some (.ref lg), some (.ref lw), t5, t6, t7, some (.int M0), some (.int (g2 : Nat)), some (.ref lr), t11, some (.ref lc), some (.int y), u14, u15, t16, t17, some (.ref ll), some (.ref p1), t20] ∧ Same H19 H') ⟨_, _, rfl, Same.refl _⟩ (fun i σ H' _ ⟨_, _, _, sm⟩ => SqL.of (sm _ _ eln)) ?_ ?_⟩
    · rintro j x σ H20 hx ⟨u14, u15, rfl, s20⟩
      obtain ⟨b, rfl, hb⟩ := hxv x (List.mem_of_getElem? hx)
      refine ⟨_, rfl, _, rfl, _, rfl, p1, ng, nw, ll, gs, ws, ls, b, rfl, NA19.same s20, N, SqL.of (s20 _ _ ell19), lok, hb, fun kk H21 s21 hyes hno => ?_⟩
      have sA := s20.trans s21
      refine ⟨_, rfl, _, _, _, _, true, rfl, .ty "bool", .base (.bl _), kit_ty (by decide +kernel), true, rfl, iteF ?_⟩
      refine ⟨_, rfl, _, rfl, lc, _, rfl, SqL.of (sA _ _ elc19), by rw [hcl]; exact hws0, fun m hm hm2 => ⟨_, _, rfl, rfl, _, rfl, ite2 (fun e => ?_) (fun e => ?_)⟩⟩
      · have hlet : ∀ y ∈ cntsL ws ls, 0 ≤ y := fun y hy => Int.le_trans (of_decide_eq_true e) (hm2 y hy)
        obtain ⟨M, mx, ek⟩ := hyes hlet
        have eMy := mx.eq (hyM hlet)
        exact ⟨_, rfl, _, rfl, _, _, rfl, rfl, rfl, _, rfl, iteNS (by rw [ek, eMy]) ⟨_, _, rfl, sA⟩⟩
      · have ek := hno fun hl => e (decide_eq_true (hl m hm))
        exact ⟨rfl, _, rfl, iteNS (by rw [ek]) ⟨_, _, rfl, sA⟩⟩
    rintro σ H20 ⟨u14, u15, rfl, s20⟩
    have s1920 := s20
    -- spot
    obtain ⟨gv, hgv, ga⟩ := LG19.same s20
    have hlg7 : gv.length = gs.length := ga.1
    obtain ⟨i0, hi0⟩ := inner
    refine ⟨_, rfl, lg, gv, rfl, .inl (SqL.of hgv), _, rfl, by rw [hlg7]; omega, by rw [hlg7]; omega, fun l3 hl3 => ?_⟩
    rw [hlg7, Int.toNat_natCast]
    refine lc_range (lo := 0) (n := gs.length) (fun i Hc => ∃ en : List Nat, Hc l3 = some (.lst (natV en)) ∧ (∀ k ∈ en, Inner gs k) ∧ (i0 < i → i0 ∈ en) ∧ en.length ≤ i ∧ Same H20 Hc) ⟨[], upd_same, fun k hk => by simp at hk, fun h => absurd h (by omega), by simp, same_new hl3⟩ ?_ ?_
    · rintro i Hc hi ⟨st, hc, hok, hin, hln, sm⟩
      have ei : (0 : Int) + (i : Nat) = ((i : Nat) : Int) := Int.zero_add _
      rw [ei]
      obtain ⟨g, hg⟩ : ∃ g, gs[i]? = some g := ⟨_, List.getElem?_eq_getElem hi⟩
      obtain ⟨v, hv, a, rfl, sq⟩ := ga.getR hg
      have hk := kindAt_get hg
      refine ⟨rfl, ?_⟩
      refine ⟨_, rfl, _, rfl, lg, gv, _, _, rfl, rfl, SqL.of (sm _ _ hgv), atI_nat hv, a, _, _, .str g.1, rfl, rfl, (TK.same sm).seq sq, atI_nat (j := 0) rfl, (by show 2 ≤ sizeLine; decide), fun l4 hl4 => ?_⟩
      have s4 : Same Hc (upd Hc l4 (.lst [.str "in", .str "out"])) := same_new hl4
      have e4 : (upd Hc l4 (.lst [.str "in", .str "out"])) l4 = some (.lst [.str "in", .str "out"]) := upd_same
      generalize upd Hc l4 (.lst [.str "in", .str "out"]) = H4 at s4 e4
      refine ⟨l4, _, rfl, .inl (SqL.of e4), rfl, rfl, _, rfl, ?_⟩
      rw [show (if true = true then !inV (V.str g.1) [V.str "in", V.str "out"] else inV (V.str g.1) [V.str "in", V.str "out"]) = innP g.1 from port_notin]
      have hc4 := s4 _ _ hc
      refine ite2 (fun e => ?_) (fun e => ?_)
      · have hko := inn_port.mp e
        refine ⟨_, rfl, _, hc4, by rw [List.length_map]; exact small1000 (by omega), st ++ [i], ?_, fun k hk' => ?_, fun h => ?_, by rw [List.length_append]; show _ + 1 ≤ _; omega, same_mut (sm.trans s4) hl3⟩
        · rw [upd_same]
          show _ = some (HO.lst (List.map _ (_ ++ _)))
          rw [List.map_append]
          rfl
        · rcases List.mem_append.mp hk' with z | z
          · exact hok k z
          · rw [List.mem_singleton] at z
            rw [z]
            exact ⟨hi, by rw [hk]; exact fun z => hko (.inl z), by rw [hk]; exact fun z => hko (.inr z)⟩
        · rcases Nat.lt_or_eq_of_le (Nat.le_of_lt_succ h) with z | z
          · exact List.mem_append.mpr (.inl (hin z))
          · exact List.mem_append.mpr (.inr (by rw [z]; simp))
      · refine ⟨st, hc4, hok, fun h => ?_, by omega, sm.trans s4⟩
        rcases Nat.lt_or_eq_of_le (Nat.le_of_lt_succ h) with z | z
        · exact hin z
        · exfalso
          apply e
          rw [inn_port]
          rintro (y | y)
          · exact hi0.2.1 (by rw [z, hk, y])
          · exact hi0.2.2 (by rw [z, hk, y])
    rintro H21 ⟨en, e12, eok, ein, eln', s21⟩
    have hen : i0 ∈ en := ein hi0.1
    obtain ⟨en0, sp, rfl⟩ : ∃ en0 sp, en = en0 ++ [sp] := ⟨_, _, (List.dropLast_concat_getLast (List.ne_nil_of_mem hen)).symm⟩
    have hsp : Inner gs sp := eok sp (by simp)
    have s1921 := s1920.trans s21
    have e12' : H21 l3 = some (.lst (natV en0 ++ [.int (sp : Nat)])) := by rw [e12]; show some (HO.lst (List.map _ (_ ++ _))) = _; rw [List.map_append]; rfl
    refine ⟨1, rfl, l3, _, _, .int (sp : Nat), rfl, rfl, SqL.of e12', atI_last _ _, ?_⟩
    refine gn_norm (σ' := [some (.ref a), some (.int (i : Nat)), some (.ref wl), some (.ref lg), some (.ref lw), t5, t6, t7, some (.int M0), some (.int (g2 : Nat)), some (.ref lr), t11, some (.ref lc), some (.int y), u14, u15, t16, some (.int (sp : Nat)), some (.ref ll), some (.ref p1), t20]) rfl ?_
    -- one lag otherwise
    have hspl : sp < ls.length := by rw [hlls]; exact hsp.1
    obtain ⟨lv, hlv⟩ : ∃ lv, ls[sp]? = some lv := ⟨_, List.getElem?_eq_getElem hspl⟩
    have hlvb := bd lv (List.mem_of_getElem? hlv)
    have ell21 := s1921 _ _ ell19
    have hat : atI (ls.map V.int) (sp : Nat) = some (.int lv) := atI_nat (by rw [List.getElem?_map, hlv]; rfl)
    refine ⟨_, rfl, _, rfl, ll, _, _, _, rfl, rfl, SqL.of ell21, hat, _, _, rfl, rfl, ?_⟩
    refine ⟨_, rfl, _, rfl, ll, _, _, sp, rfl, rfl, ell21, Evl.ixN_nat (by rw [List.length_map]; exact hspl), ?_⟩
    have lok2 := lok.set hsp (v := lv + 1) (by omega) (by omega)
    have ell22 : (upd H21 ll (.lst ((ls.map V.int).set sp (.int (lv + 1))))) ll = some (.lst ((ls.set sp (lv + 1)).map V.int)) := by
      rw [upd_same, List.map_set]
    have T22 : LamX.Tabs T (upd H21 ll (.lst ((ls.map V.int).set sp (.int (lv + 1))))) := Tabs.put (T19.ext s1921) ell21
    have NA22 : NetAt K C (upd H21 ll (.lst ((ls.map V.int).set sp (.int (lv + 1))))) p1 ng nw gs ws := (NA19.same s1921).put ell21 npl nngl nnwl
    have LW22 : LW K (upd H21 ll (.lst ((ls.map V.int).set sp (.int (lv + 1))))) lw ws := (LW19.same s1921).put ell21 nlwl
    have W22 : WellAt wl (upd H21 ll (.lst ((ls.map V.int).set sp (.int (lv + 1))))) := by
      obtain ⟨xs, h, k⟩ := W19.same s1921
      exact ⟨xs, by rw [upd_ne nll.symm]; exact h, k⟩
    have sF22 : ∀ b o, H0 b = some o → b ≠ wl ∧ (upd H21 ll (.lst ((ls.map V.int).set sp (.int (lv + 1))))) b = some o := fun b o h => ⟨(sF19 b o h).1, by rw [upd_ne (sF19 b o h).2.1]; exact s1921 _ _ (sF19 b o h).2.2⟩
    generalize upd H21 ll (.lst ((ls.map V.int).set sp (.int (lv + 1)))) = H22 at ell22 T22 NA22 LW22 W22 sF22
    generalize hls2 : ls.set sp (lv + 1) = ls2 at lok2 ell22
    have hlls2 := lok2.len
    clear NA19 LG19 LW19 T19 W19 sF19 wa ga hwv hgv ell21 ell19 hat e12 e12' s1921 s1920 s20 s21 eok ein hen eln eln' ell elc elc19 ell16
    -- a beat that is great
    obtain ⟨wv22, hwv22, wa22⟩ := id LW22
    refine ⟨_, rfl, _, rfl, _, _, rfl, rfl, ⟨by decide, by decide, by decide⟩, p1, ng, nw, ll, gs, ws, ls2, 10 ^ (9 : Int).toNat, rfl, NA22, N, SqL.of ell22, lok2, by decide, fun kk H23 s23 hyes hno => ?_⟩
    have ekk : kk = decide (∀ y ∈ cntsL ws ls2, 0 ≤ y) := with_big N (by decide) hyes hno
    refine ⟨_, rfl, _, rfl, lw, ll, wv22, ws, ls2, rfl, s23 _ _ hwv22, wa22.imp fun _ _ r => r.tk (TK.same s23), by omega, SqL.of (s23 _ _ ell22), fun x hx => by rw [hlls2]; exact hwok x hx, fun l24 H24 s24 hl24 e24 => ⟨l24, _, rfl, SqL.of e24, by rw [hcl]; exact hws0, fun m hm hm2 => ⟨_, _, rfl, rfl, rfl, _, rfl, iteNS (by rw [ekk, min_let hm hm2]) ?_⟩⟩⟩
    have s2224 := s23.trans s24
    have W24 := W22.same s2224
    -- a thing that is no beat
    refine ⟨1, rfl, (by show 1 ≤ sizeLine; decide), fun tt htt => ?_⟩
    have s25 := same_new (o := .tup [.int 3]) htt
    have e25 : (upd H24 tt (.tup [.int 3])) tt = some (.tup [.int 3]) := upd_same
    generalize upd H24 tt (.tup [.int 3]) = H25 at s25 e25
    refine ⟨_, _, rfl, rfl, ⟨by decide, by decide, by decide⟩, _, rfl, (by show 6 ≤ sizeLine; decide), fun lo hlo => ?_⟩
    have s26 := same_new (o := .lst [.int (-1), .bl true, .non, .str "3", .ref tt, .int (-(10 ^ (50 : Int).toNat))]) hlo
    have e26 : (upd H25 lo (.lst [.int (-1), .bl true, .non, .str "3", .ref tt, .int (-(10 ^ (50 : Int).toNat))])) lo = some (.lst [.int (-1), .bl true, .non, .str "3", .ref tt, .int (-(10 ^ (50 : Int).toNat))]) := upd_same
    have W25 := W24.same s25
    have nlo : lo ≠ wl := (W25.ne hlo).symm
    have ntt : tt ≠ wl := (W24.ne htt).symm
    have W26 := W25.same s26
    have s2226 := s2224.trans (s25.trans s26)
    have t26 := s26 _ _ e25
    refine ⟨_, rfl, wl, 6, rfl, by decide, by decide, W26, fun d6 H27 d60 d61 D27 => ?_⟩
    generalize upd H25 lo (.lst [.int (-1), .bl true, .non, .str "3", .ref tt, .int (-(10 ^ (50 : Int).toNat))]) = H26 at s26 e26 W26 s2226 t26 D27
    obtain ⟨m6, rfl⟩ : ∃ m : Nat, d6 = (m : Int) := ⟨d6.toNat, by omega⟩
    have D22 : Dr wl H22 H27 := ⟨(But.same s2226).trans D27.but, D27.well⟩
    have NA27 := NA22.dr' W22 np1 nng nnw D22
    have T27 := Tabs.dr T22 W22 D22
    have ell27 := D22.but _ _ nll ell22
    have x27 : ExN H H27 := x0.trans (.of fun b o h => D22.but _ _ (sF22 b o h).1 (sF22 b o h).2)
    obtain ⟨v, o, hv6, ov, hneg⟩ : ∃ (v : V) (o : Option Int), ([.int (-1), .bl true, .non, .str "3", .ref tt, .int (-(10 ^ (50 : Int).toNat))] : List V)[m6]? = some v ∧ OdV H27 v o ∧ ∀ b, o = some b → b < 0 := by
      have hm' : m6 < 6 := by omega
      rcases (by omega : m6 = 0 ∨ m6 = 1 ∨ m6 = 2 ∨ m6 = 3 ∨ m6 = 4 ∨ m6 = 5) with rfl | rfl | rfl | rfl | rfl | rfl
      · exact ⟨_, _, rfl, .int _, fun b e => by cases e; decide⟩
      · exact ⟨_, _, rfl, .bl _, fun b e => by cases e⟩
      · exact ⟨_, _, rfl, .non, fun b e => by cases e⟩
      · exact ⟨_, _, rfl, .str _, fun b e => by cases e⟩
      · exact ⟨_, _, rfl, .tup (D27.but _ _ ntt t26), fun b e => by cases e⟩
      · exact ⟨_, _, rfl, .int _, fun b e => by cases e; decide⟩
    refine ⟨lo, _, _, v, rfl, rfl, SqL.of (D27.but _ _ nlo e26), atI_nat hv6, ?_⟩
    clear NA22 T22 W22 sF22 D22 D27 W26 W25 W24 wa22 hwv22 LW22
    refine gn_norm (σ' := [some (.ref a), some (.int (i : Nat)), some (.ref wl), some (.ref lg), some (.ref lw), t5, t6, t7, some (.int M0), some (.int (g2 : Nat)), some (.ref lr), t11, some (.ref lc), some (.int y), u14, u15, t16, some (.int (sp : Nat)), some (.ref ll), some (.ref p1), some v]) rfl ?_
    refine ⟨T27, fun H28 eN28 T28 => ?_⟩
    have good : GoodT gs (some (ls2.map some)) := ⟨_, rfl, lok2.good⟩
    have hbig : ∀ os, some (ls2.map some) = some os → os.length ≤ 1000 := fun os e => by
      cases e
      rw [List.length_map]
      omega
    have ell28 := ext_lst eN28 ell27
    have NA28 := NA27.ext eN28
    have ov28 := ov.ext eN28
    refine ⟨_, rfl, _, rfl, _, rfl, p1, ng, nw, .ref ll, v, gs, ws, _, o, rfl, NA28, N, .lst ell28 (ints_odd _ _), hbig, ov28, fun z => absurd good z, fun _ => ⟨hneg, fun H29 s29 => ⟨rfl, .inr ⟨rfl, fun H30 s30 => ?_⟩⟩⟩⟩
    have s2830 := s29.trans s30
    refine ⟨rfl, _, rfl, iteNS rfl ?_⟩
    refine ⟨T28.ext s2830, fun H31 eN31 T31 => ?_⟩
    have x2831 := LamX.ExtN.trans (LamX.ExtN.of s2830) eN31
    have ell31 := ext_lst x2831 ell28
    have NA31 := NA28.ext x2831
    have ov31 := ov28.ext x2831
    refine ⟨_, rfl, _, rfl, (by show 1 ≤ sizeLine; decide), fun l0 hl0 => ?_⟩
    have s32 := same_new (o := .lst [.int 0]) hl0
    have e32 : (upd H31 l0 (.lst [.int 0])) l0 = some (.lst [.int 0]) := upd_same
    generalize upd H31 l0 (.lst [.int 0]) = H32 at s32 e32
    refine ⟨ll, l0, _, _, rfl, rfl, s32 _ _ ell31, e32, ?_, fun lp hlp => ?_⟩
    · rw [List.length_map]
      show _ + 1 ≤ sizeLine
      exact Nat.le_of_lt (small1000 (by omega))
    have s33 := s32.trans (same_new (o := .lst (ls2.map V.int ++ [.int 0])) hlp)
    have e33 : (upd H32 lp (.lst (ls2.map V.int ++ [.int 0]))) lp = some (.lst ((ls2 ++ [0]).map V.int)) := by
      rw [upd_same, List.map_append]
      rfl
    generalize upd H32 lp (.lst (ls2.map V.int ++ [.int 0])) = H33 at s33 e33
    have bad : ¬ GoodT gs (some ((ls2 ++ [0]).map some)) := fun ⟨os, e, g⟩ => by
      cases e
      have := g.1
      rw [List.length_map, List.length_append] at this
      have : ls2.length + 1 = gs.length := this
      omega
    refine ⟨_, rfl, p1, ng, nw, .ref lp, v, gs, ws, _, o, rfl, NA31.same s33, N, .lst e33 (ints_odd _ _), fun os e => ?_, ov31.same s33, fun _ H34 s34 => ⟨rfl, .inl ⟨rfl, fun H35 s35 => ?_⟩⟩, fun z => absurd z bad⟩
    · cases e
      rw [List.length_map, List.length_append]
      show _ + 1 ≤ _
      omega
    have s3135 := s33.trans (s34.trans s35)
    refine ⟨rfl, _, rfl, iteNS rfl ?_⟩
    exact ⟨_, _, _, _, _, _, _, _, _, _, _, _, _, _, _, _, _, _, _, _, rfl, x27.trans (eN28.trans (x2831.trans (.of s3135))), T31.ext s3135⟩
end
end Lag

set_option maxRecDepth 100000
set_option maxHeartbeats 8000000
namespace Lag
open PySem PySem.Spec PyProof.Rows L2
theorem exm_of {K : PySem.W.Frag} {S C : Addr} (h1 : PySem.W.subIn K (.ref C) (.type "BaseException") = some true) (h2 : PySem.W.isClsIn K C = true) (h3 : PySem.W.typeIn K (.ref C) = some (.type "type")) (h4 : PySem.W.subIn K (.ref S) (.ref C) = some true) :
    PySem.W.exmOne K (.ref S) (.ref C) = some true := by
  have e1 : (PySem.W.subIn K (.ref C) (.type "BaseException") == some true) = true := by rw [h1] <;> rfl
  have e2 : ((PySem.W.clsIn K C).isSome && PySem.W.typeIn K (.ref C) == some (.type "type")) = true := by
    have h2' : (PySem.W.clsIn K C).isSome = true := h2
    rw [h2', h3] <;> rfl
  show (if (PySem.W.subIn K (.ref C) (.type "BaseException") == some true) = true then (if ((PySem.W.clsIn K C).isSome && PySem.W.typeIn K (.ref C) == some (.type "type")) = true then PySem.W.subIn K (.ref S) (.ref C) else none) else none) = some true
  rw [if_pos e1, if_pos e2]
  exact h4
theorem kit_type {K : PySem.W.Frag} {S : Addr} {T : String} {b : Bool} (h1 : PySem.W.kitMeta T = true) (h2 : PySem.W.subIn K (.ref S) (.type T) = some b) : PySem.W.kitOne K (.ref S) (.type T) = some b := by
  have e0 : ((Value.ref S) == (Value.type T)) = false := rfl
  show (if ((Value.ref S) == (Value.type T)) = true then some true else (if PySem.W.kitMeta T = true then PySem.W.subIn K (.ref S) (.type T) else none)) = some b
  rw [e0, if_neg (by decide), if_pos h1]
  exact h2
theorem kit_not {K : PySem.W.Frag} {S C : Addr} (h2 : PySem.W.isClsIn K C = true) (h3 : PySem.W.typeIn K (.ref C) = some (.type "type")) (h4 : PySem.W.subIn K (.ref S) (.ref S) = some true) (h5 : PySem.W.subIn K (.ref S) (.ref C) = some false) :
    PySem.W.kitOne K (.ref S) (.ref C) = some false := by
  have ne : ¬ (((Value.ref S) == (Value.ref C)) = true) := fun z => by
    have z' : S = C := by
      have z2 := beq_iff_eq.mp z
      cases z2
      rfl
    rw [z'] at h4 h5
    rw [h4] at h5
    cases h5
  have e2 : ((PySem.W.clsIn K C).isSome && PySem.W.typeIn K (.ref C) == some (.type "type")) = true := by
    have h2' : (PySem.W.clsIn K C).isSome = true := h2
    rw [h2', h3] <;> rfl
  show (if ((Value.ref S) == (Value.ref C)) = true then some true else (if ((PySem.W.clsIn K C).isSome && PySem.W.typeIn K (.ref C) == some (.type "type")) = true then PySem.W.subIn K (.ref S) (.ref C) else none)) = some false
  rw [if_neg ne, if_pos e2]
  exact h5
theorem all_mk {l : PySem.W.OpenLaw} {w : World} {K : PySem.W.Frag} {h : Heap} {mg : Str → Option Value} {fa C : Addr} (X : K.In h) (G : h.Ns mainGlobals mg) (hfa : mg "law" = some (.ref fa)) (own : LamX.OwnTab K fa h)
    {C0 CL CB cL Pt : Addr} {eL : Value} {ddL : Option Addr} {vsL : Array Value} {sxL : Array (Option Value)}
    {fd0 : Addr} {odd0 and0 : Option Addr} {sld0 : Array (Option Value)} {ocd0 kVd0 dcd0 pmd0 cdd0 ctd0 : Value}
    {fd1 : Addr} {odd1 and1 : Option Addr} {sld1 : Array (Option Value)} {ocd1 kVd1 dcd1 pmd1 cdd1 ctd1 : Value}
    {fd2 : Addr} {odd2 and2 : Option Addr} {sld2 : Array (Option Value)} {ocd2 kVd2 dcd2 pmd2 cdd2 ctd2 : Value}
    {fd3 : Addr} {odd3 and3 : Option Addr} {sld3 : Array (Option Value)} {ocd3 kVd3 dcd3 pmd3 cdd3 ctd3 : Value}
    {fd4 : Addr} {odd4 and4 : Option Addr} {sld4 : Array (Option Value)} {ocd4 kVd4 dcd4 pmd4 cdd4 ctd4 : Value}
    {fd5 : Addr} {odd5 and5 : Option Addr} {sld5 : Array (Option Value)} {ocd5 kVd5 dcd5 pmd5 cdd5 ctd5 : Value}
    {fd6 : Addr} {odd6 and6 : Option Addr} {sld6 : Array (Option Value)} {ocd6 kVd6 dcd6 pmd6 cdd6 ctd6 : Value}
    {fd7 : Addr} {odd7 and7 : Option Addr} {sld7 : Array (Option Value)} {ocd7 kVd7 dcd7 pmd7 cdd7 ctd7 : Value}
    {fd8 : Addr} {odd8 and8 : Option Addr} {sld8 : Array (Option Value)} {ocd8 kVd8 dcd8 pmd8 cdd8 ctd8 : Value}
    {fd9 : Addr} {odd9 and9 : Option Addr} {sld9 : Array (Option Value)} {ocd9 kVd9 dcd9 pmd9 cdd9 ctd9 : Value}
    {fd10 : Addr} {odd10 and10 : Option Addr} {sld10 : Array (Option Value)} {ocd10 kVd10 dcd10 pmd10 cdd10 ctd10 : Value}
    {fd11 : Addr} {odd11 and11 : Option Addr} {sld11 : Array (Option Value)} {ocd11 kVd11 dcd11 pmd11 cdd11 ctd11 : Value}
    {fd12 : Addr} {odd12 and12 : Option Addr} {sld12 : Array (Option Value)} {ocd12 kVd12 dcd12 pmd12 cdd12 ctd12 : Value}
    {fd13 : Addr} {odd13 and13 : Option Addr} {sld13 : Array (Option Value)} {ocd13 kVd13 dcd13 pmd13 cdd13 ctd13 : Value}
    {fd14 : Addr} {odd14 and14 : Option Addr} {sld14 : Array (Option Value)} {ocd14 kVd14 dcd14 pmd14 cdd14 ctd14 : Value}
    {fd15 : Addr} {odd15 and15 : Option Addr} {sld15 : Array (Option Value)} {ocd15 kVd15 dcd15 pmd15 cdd15 ctd15 : Value}
    {fd16 : Addr} {odd16 and16 : Option Addr} {sld16 : Array (Option Value)} {ocd16 kVd16 dcd16 pmd16 cdd16 ctd16 : Value}
    {fd17 : Addr} {odd17 and17 : Option Addr} {sld17 : Array (Option Value)} {ocd17 kVd17 dcd17 pmd17 cdd17 ctd17 : Value}
    {fd18 : Addr} {odd18 and18 : Option Addr} {sld18 : Array (Option Value)} {ocd18 kVd18 dcd18 pmd18 cdd18 ctd18 : Value}
    {fd19 : Addr} {odd19 and19 : Option Addr} {sld19 : Array (Option Value)} {ocd19 kVd19 dcd19 pmd19 cdd19 ctd19 : Value}
    {fd20 : Addr} {odd20 and20 : Option Addr} {sld20 : Array (Option Value)} {ocd20 kVd20 dcd20 pmd20 cdd20 ctd20 : Value}
    {fd21 : Addr} {odd21 and21 : Option Addr} {sld21 : Array (Option Value)} {ocd21 kVd21 dcd21 pmd21 cdd21 ctd21 : Value}
    {fd22 : Addr} {odd22 and22 : Option Addr} {sld22 : Array (Option Value)} {ocd22 kVd22 dcd22 pmd22 cdd22 ctd22 : Value}
    {fd23 : Addr} {odd23 and23 : Option Addr} {sld23 : Array (Option Value)} {ocd23 kVd23 dcd23 pmd23 cdd23 ctd23 : Value}
    {fd24 : Addr} {odd24 and24 : Option Addr} {sld24 : Array (Option Value)} {ocd24 kVd24 dcd24 pmd24 cdd24 ctd24 : Value}
    {fd25 : Addr} {odd25 and25 : Option Addr} {sld25 : Array (Option Value)} {ocd25 kVd25 dcd25 pmd25 cdd25 ctd25 : Value}
    {fd26 : Addr} {odd26 and26 : Option Addr} {sld26 : Array (Option Value)} {ocd26 kVd26 dcd26 pmd26 cdd26 ctd26 : Value}
    {fd27 : Addr} {odd27 and27 : Option Addr} {sld27 : Array (Option Value)} {ocd27 kVd27 dcd27 pmd27 cdd27 ctd27 : Value}
    {fd28 : Addr} {odd28 and28 : Option Addr} {sld28 : Array (Option Value)} {ocd28 kVd28 dcd28 pmd28 cdd28 ctd28 : Value}
    {fd29 : Addr} {odd29 and29 : Option Addr} {sld29 : Array (Option Value)} {ocd29 kVd29 dcd29 pmd29 cdd29 ctd29 : Value}
    {fd30 : Addr} {odd30 and30 : Option Addr} {sld30 : Array (Option Value)} {ocd30 kVd30 dcd30 pmd30 cdd30 ctd30 : Value}
    {fd31 : Addr} {odd31 and31 : Option Addr} {sld31 : Array (Option Value)} {ocd31 kVd31 dcd31 pmd31 cdd31 ctd31 : Value}
    {fd32 : Addr} {odd32 and32 : Option Addr} {sld32 : Array (Option Value)} {ocd32 kVd32 dcd32 pmd32 cdd32 ctd32 : Value}
    {fd33 : Addr} {odd33 and33 : Option Addr} {sld33 : Array (Option Value)} {ocd33 kVd33 dcd33 pmd33 cdd33 ctd33 : Value}
    {fd34 : Addr} {odd34 and34 : Option Addr} {sld34 : Array (Option Value)} {ocd34 kVd34 dcd34 pmd34 cdd34 ctd34 : Value}
    {fd35 : Addr} {odd35 and35 : Option Addr} {sld35 : Array (Option Value)} {ocd35 kVd35 dcd35 pmd35 ctd35 : Value}
    {fm0 : Addr} {odm0 anm0 : Option Addr} {slm0 : Array (Option Value)} {ocm0 kVm0 dcm0 pmm0 cdm0 ctm0 : Value}
    {tGW tGA tGL : Tok}
    {aK nnK : Nat} {ddK : Option Addr} {ssK : Array (Option Value)} {tK0 tK1 tK2 tK3 tK4 tK5 tK6 tK7 : Tok}
    {aW nnW : Nat} {ddW : Option Addr} {ssW : Array (Option Value)} {tW0 tW1 : Tok}
    {aF nnF : Nat} {ddF : Option Addr} {ssF : Array (Option Value)} {tF0 tF1 : Tok}
    (aC : PySem.W.nsIn K mainGlobals "Net" = some (some (.ref C)))
    (ad0 : PySem.W.nsIn K mainGlobals "is_whole" = some (some (.ref fd0)))
    (ld0 : K.lookup fd0 = some ⟨ocd0, odd0, .func (PySem.W.fnOf "is_whole" "is_whole" (defArgs sWhole) (defBody sWhole) (defScope sWhole) .none kVd0 dcd0 pmd0 and0 cdd0 ctd0), sld0⟩)
    (cd0 : PySem.W.codeIn K cdd0 "is_whole" = true)
    (kd0 : PySem.W.keepIn K (.ref fd0) = true)
    (ad1 : PySem.W.nsIn K mainGlobals "is_whole_from_to" = some (some (.ref fd1)))
    (ld1 : K.lookup fd1 = some ⟨ocd1, odd1, .func (PySem.W.fnOf "is_whole_from_to" "is_whole_from_to" (defArgs sFromTo) (defBody sFromTo) (defScope sFromTo) .none kVd1 dcd1 pmd1 and1 cdd1 ctd1), sld1⟩)
    (cd1 : PySem.W.codeIn K cdd1 "is_whole_from_to" = true)
    (kd1 : PySem.W.keepIn K (.ref fd1) = true)
    (ad2 : PySem.W.nsIn K mainGlobals "is_worth" = some (some (.ref fd2)))
    (ld2 : K.lookup fd2 = some ⟨ocd2, odd2, .func (PySem.W.fnOf "is_worth" "is_worth" (defArgs sWorth) (defBody sWorth) (defScope sWorth) .none kVd2 dcd2 pmd2 and2 cdd2 ctd2), sld2⟩)
    (cd2 : PySem.W.codeIn K cdd2 "is_worth" = true)
    (kd2 : PySem.W.keepIn K (.ref fd2) = true)
    (ad3 : PySem.W.nsIn K mainGlobals "is_gate" = some (some (.ref fd3)))
    (ld3 : K.lookup fd3 = some ⟨ocd3, odd3, .func (PySem.W.fnOf "is_gate" "is_gate" (defArgs sIsGate) (defBody sIsGate) (defScope sIsGate) .none kVd3 dcd3 pmd3 and3 cdd3 ctd3), sld3⟩)
    (cd3 : PySem.W.codeIn K cdd3 "is_gate" = true)
    (kd3 : PySem.W.keepIn K (.ref fd3) = true)
    (ad4 : PySem.W.nsIn K mainGlobals "check_gates" = some (some (.ref fd4)))
    (ld4 : K.lookup fd4 = some ⟨ocd4, odd4, .func (PySem.W.fnOf "check_gates" "check_gates" (defArgs sChkGates) (defBody sChkGates) (defScope sChkGates) .none kVd4 dcd4 pmd4 and4 cdd4 ctd4), sld4⟩)
    (cd4 : PySem.W.codeIn K cdd4 "check_gates" = true)
    (kd4 : PySem.W.keepIn K (.ref fd4) = true)
    (ad5 : PySem.W.nsIn K mainGlobals "is_wire" = some (some (.ref fd5)))
    (ld5 : K.lookup fd5 = some ⟨ocd5, odd5, .func (PySem.W.fnOf "is_wire" "is_wire" (defArgs sIsWire) (defBody sIsWire) (defScope sIsWire) .none kVd5 dcd5 pmd5 and5 cdd5 ctd5), sld5⟩)
    (cd5 : PySem.W.codeIn K cdd5 "is_wire" = true)
    (kd5 : PySem.W.keepIn K (.ref fd5) = true)
    (ad6 : PySem.W.nsIn K mainGlobals "is_taken" = some (some (.ref fd6)))
    (ld6 : K.lookup fd6 = some ⟨ocd6, odd6, .func (PySem.W.fnOf "is_taken" "is_taken" (defArgs sTaken) (defBody sTaken) (defScope sTaken) .none kVd6 dcd6 pmd6 and6 cdd6 ctd6), sld6⟩)
    (cd6 : PySem.W.codeIn K cdd6 "is_taken" = true)
    (kd6 : PySem.W.keepIn K (.ref fd6) = true)
    (ad7 : PySem.W.nsIn K mainGlobals "check_wires" = some (some (.ref fd7)))
    (ld7 : K.lookup fd7 = some ⟨ocd7, odd7, .func (PySem.W.fnOf "check_wires" "check_wires" (defArgs sChkWires) (defBody sChkWires) (defScope sChkWires) .none kVd7 dcd7 pmd7 and7 cdd7 ctd7), sld7⟩)
    (cd7 : PySem.W.codeIn K cdd7 "check_wires" = true)
    (kd7 : PySem.W.keepIn K (.ref fd7) = true)
    (ad8 : PySem.W.nsIn K mainGlobals "order_along" = some (some (.ref fd8)))
    (ld8 : K.lookup fd8 = some ⟨ocd8, odd8, .func (PySem.W.fnOf "order_along" "order_along" (defArgs sAlong) (defBody sAlong) (defScope sAlong) .none kVd8 dcd8 pmd8 and8 cdd8 ctd8), sld8⟩)
    (cd8 : PySem.W.codeIn K cdd8 "order_along" = true)
    (kd8 : PySem.W.keepIn K (.ref fd8) = true)
    (ad9 : PySem.W.nsIn K mainGlobals "bare_order" = some (some (.ref fd9)))
    (ld9 : K.lookup fd9 = some ⟨ocd9, odd9, .func (PySem.W.fnOf "bare_order" "bare_order" (defArgs sOrder) (defBody sOrder) (defScope sOrder) .none kVd9 dcd9 pmd9 and9 cdd9 ctd9), sld9⟩)
    (cd9 : PySem.W.codeIn K cdd9 "bare_order" = true)
    (kd9 : PySem.W.keepIn K (.ref fd9) = true)
    (ad10 : PySem.W.nsIn K mainGlobals "check_rings" = some (some (.ref fd10)))
    (ld10 : K.lookup fd10 = some ⟨ocd10, odd10, .func (PySem.W.fnOf "check_rings" "check_rings" (defArgs sChkRings) (defBody sChkRings) (defScope sChkRings) .none kVd10 dcd10 pmd10 and10 cdd10 ctd10), sld10⟩)
    (cd10 : PySem.W.codeIn K cdd10 "check_rings" = true)
    (kd10 : PySem.W.keepIn K (.ref fd10) = true)
    (ad11 : PySem.W.nsIn K mainGlobals "is_outer" = some (some (.ref fd11)))
    (ld11 : K.lookup fd11 = some ⟨ocd11, odd11, .func (PySem.W.fnOf "is_outer" "is_outer" (defArgs sOuter) (defBody sOuter) (defScope sOuter) .none kVd11 dcd11 pmd11 and11 cdd11 ctd11), sld11⟩)
    (cd11 : PySem.W.codeIn K cdd11 "is_outer" = true)
    (kd11 : PySem.W.keepIn K (.ref fd11) = true)
    (ad12 : PySem.W.nsIn K mainGlobals "check_lags" = some (some (.ref fd12)))
    (ld12 : K.lookup fd12 = some ⟨ocd12, odd12, .func (PySem.W.fnOf "check_lags" "check_lags" (defArgs sChkLags) (defBody sChkLags) (defScope sChkLags) .none kVd12 dcd12 pmd12 and12 cdd12 ctd12), sld12⟩)
    (cd12 : PySem.W.codeIn K cdd12 "check_lags" = true)
    (kd12 : PySem.W.keepIn K (.ref fd12) = true)
    (ad13 : PySem.W.nsIn K mainGlobals "counts_by" = some (some (.ref fd13)))
    (ld13 : K.lookup fd13 = some ⟨ocd13, odd13, .func (PySem.W.fnOf "counts_by" "counts_by" (defArgs sCountsBy) (defBody sCountsBy) (defScope sCountsBy) .none kVd13 dcd13 pmd13 and13 cdd13 ctd13), sld13⟩)
    (cd13 : PySem.W.codeIn K cdd13 "counts_by" = true)
    (kd13 : PySem.W.keepIn K (.ref fd13) = true)
    (ad14 : PySem.W.nsIn K mainGlobals "counts" = some (some (.ref fd14)))
    (ld14 : K.lookup fd14 = some ⟨ocd14, odd14, .func (PySem.W.fnOf "counts" "counts" (defArgs sCounts) (defBody sCounts) (defScope sCounts) .none kVd14 dcd14 pmd14 and14 cdd14 ctd14), sld14⟩)
    (cd14 : PySem.W.codeIn K cdd14 "counts" = true)
    (kd14 : PySem.W.keepIn K (.ref fd14) = true)
    (ad15 : PySem.W.nsIn K mainGlobals "are_let_by" = some (some (.ref fd15)))
    (ld15 : K.lookup fd15 = some ⟨ocd15, odd15, .func (PySem.W.fnOf "are_let_by" "are_let_by" (defArgs sAreLetBy) (defBody sAreLetBy) (defScope sAreLetBy) .none kVd15 dcd15 pmd15 and15 cdd15 ctd15), sld15⟩)
    (cd15 : PySem.W.codeIn K cdd15 "are_let_by" = true)
    (kd15 : PySem.W.keepIn K (.ref fd15) = true)
    (ad16 : PySem.W.nsIn K mainGlobals "are_let" = some (some (.ref fd16)))
    (ld16 : K.lookup fd16 = some ⟨ocd16, odd16, .func (PySem.W.fnOf "are_let" "are_let" (defArgs sAreLet) (defBody sAreLet) (defScope sAreLet) .none kVd16 dcd16 pmd16 and16 cdd16 ctd16), sld16⟩)
    (cd16 : PySem.W.codeIn K cdd16 "are_let" = true)
    (kd16 : PySem.W.keepIn K (.ref fd16) = true)
    (ad17 : PySem.W.nsIn K mainGlobals "held_by_wire" = some (some (.ref fd17)))
    (ld17 : K.lookup fd17 = some ⟨ocd17, odd17, .func (PySem.W.fnOf "held_by_wire" "held_by_wire" (defArgs sHeld) (defBody sHeld) (defScope sHeld) .none kVd17 dcd17 pmd17 and17 cdd17 ctd17), sld17⟩)
    (cd17 : PySem.W.codeIn K cdd17 "held_by_wire" = true)
    (kd17 : PySem.W.keepIn K (.ref fd17) = true)
    (ad18 : PySem.W.nsIn K mainGlobals "arrivals" = some (some (.ref fd18)))
    (ld18 : K.lookup fd18 = some ⟨ocd18, odd18, .func (PySem.W.fnOf "arrivals" "arrivals" (defArgs sArr) (defBody sArr) (defScope sArr) .none kVd18 dcd18 pmd18 and18 cdd18 ctd18), sld18⟩)
    (cd18 : PySem.W.codeIn K cdd18 "arrivals" = true)
    (kd18 : PySem.W.keepIn K (.ref fd18) = true)
    (ad19 : PySem.W.nsIn K mainGlobals "way_to" = some (some (.ref fd19)))
    (ld19 : K.lookup fd19 = some ⟨ocd19, odd19, .func (PySem.W.fnOf "way_to" "way_to" (defArgs sWayTo) (defBody sWayTo) (defScope sWayTo) .none kVd19 dcd19 pmd19 and19 cdd19 ctd19), sld19⟩)
    (cd19 : PySem.W.codeIn K cdd19 "way_to" = true)
    (kd19 : PySem.W.keepIn K (.ref fd19) = true)
    (ad20 : PySem.W.nsIn K mainGlobals "beat_of" = some (some (.ref fd20)))
    (ld20 : K.lookup fd20 = some ⟨ocd20, odd20, .func (PySem.W.fnOf "beat_of" "beat_of" (defArgs sBeatOf) (defBody sBeatOf) (defScope sBeatOf) .none kVd20 dcd20 pmd20 and20 cdd20 ctd20), sld20⟩)
    (cd20 : PySem.W.codeIn K cdd20 "beat_of" = true)
    (kd20 : PySem.W.keepIn K (.ref fd20) = true)
    (ad21 : PySem.W.nsIn K mainGlobals "longest" = some (some (.ref fd21)))
    (ld21 : K.lookup fd21 = some ⟨ocd21, odd21, .func (PySem.W.fnOf "longest" "longest" (defArgs sLongest) (defBody sLongest) (defScope sLongest) .none kVd21 dcd21 pmd21 and21 cdd21 ctd21), sld21⟩)
    (cd21 : PySem.W.codeIn K cdd21 "longest" = true)
    (kd21 : PySem.W.keepIn K (.ref fd21) = true)
    (ad22 : PySem.W.nsIn K mainGlobals "check_beat" = some (some (.ref fd22)))
    (ld22 : K.lookup fd22 = some ⟨ocd22, odd22, .func (PySem.W.fnOf "check_beat" "check_beat" (defArgs sChkBeat) (defBody sChkBeat) (defScope sChkBeat) .none kVd22 dcd22 pmd22 and22 cdd22 ctd22), sld22⟩)
    (cd22 : PySem.W.codeIn K cdd22 "check_beat" = true)
    (kd22 : PySem.W.keepIn K (.ref fd22) = true)
    (ad23 : PySem.W.nsIn K mainGlobals "with_lags" = some (some (.ref fd23)))
    (ld23 : K.lookup fd23 = some ⟨ocd23, odd23, .func (PySem.W.fnOf "with_lags" "with_lags" (defArgs sWith) (defBody sWith) (defScope sWith) .none kVd23 dcd23 pmd23 and23 cdd23 ctd23), sld23⟩)
    (cd23 : PySem.W.codeIn K cdd23 "with_lags" = true)
    (kd23 : PySem.W.keepIn K (.ref fd23) = true)
    (ad24 : PySem.W.nsIn K mainGlobals "_law_cell_at" = some (some (.ref fd24)))
    (ld24 : K.lookup fd24 = some ⟨ocd24, odd24, .func (PySem.W.fnOf "_law_cell_at" "_law_cell_at" (defArgs sCellAt) (defBody sCellAt) (defScope sCellAt) .none kVd24 dcd24 pmd24 and24 cdd24 ctd24), sld24⟩)
    (cd24 : PySem.W.codeIn K cdd24 "_law_cell_at" = true)
    (kd24 : PySem.W.keepIn K (.ref fd24) = true)
    (ad25 : PySem.W.nsIn K mainGlobals "_law_digit" = some (some (.ref fd25)))
    (ld25 : K.lookup fd25 = some ⟨ocd25, odd25, .func (PySem.W.fnOf "_law_digit" "_law_digit" (defArgs sDigit) (defBody sDigit) (defScope sDigit) .none kVd25 dcd25 pmd25 and25 cdd25 ctd25), sld25⟩)
    (cd25 : PySem.W.codeIn K cdd25 "_law_digit" = true)
    (kd25 : PySem.W.keepIn K (.ref fd25) = true)
    (ad26 : PySem.W.nsIn K mainGlobals "_law_gates" = some (some (.ref fd26)))
    (ld26 : K.lookup fd26 = some ⟨ocd26, odd26, .func (PySem.W.fnOf "_law_gates" "_law_gates" (defArgs sGates) (defBody sGates) (defScope sGates) .none kVd26 dcd26 pmd26 and26 cdd26 ctd26), sld26⟩)
    (cd26 : PySem.W.codeIn K cdd26 "_law_gates" = true)
    (kd26 : PySem.W.keepIn K (.ref fd26) = true)
    (ad27 : PySem.W.nsIn K mainGlobals "_law_worths" = some (some (.ref fd27)))
    (ld27 : K.lookup fd27 = some ⟨ocd27, odd27, .func (PySem.W.fnOf "_law_worths" "_law_worths" (defArgs sLWorths) (defBody sLWorths) (defScope sLWorths) .none kVd27 dcd27 pmd27 and27 cdd27 ctd27), sld27⟩)
    (cd27 : PySem.W.codeIn K cdd27 "_law_worths" = true)
    (kd27 : PySem.W.keepIn K (.ref fd27) = true)
    (ad28 : PySem.W.nsIn K mainGlobals "_law_wires" = some (some (.ref fd28)))
    (ld28 : K.lookup fd28 = some ⟨ocd28, odd28, .func (PySem.W.fnOf "_law_wires" "_law_wires" (defArgs sLWires) (defBody sLWires) (defScope sLWires) .none kVd28 dcd28 pmd28 and28 cdd28 ctd28), sld28⟩)
    (cd28 : PySem.W.codeIn K cdd28 "_law_wires" = true)
    (kd28 : PySem.W.keepIn K (.ref fd28) = true)
    (ad29 : PySem.W.nsIn K mainGlobals "_law_parts" = some (some (.ref fd29)))
    (ld29 : K.lookup fd29 = some ⟨ocd29, odd29, .func (PySem.W.fnOf "_law_parts" "_law_parts" (defArgs sLParts) (defBody sLParts) (defScope sLParts) .none kVd29 dcd29 pmd29 and29 cdd29 ctd29), sld29⟩)
    (cd29 : PySem.W.codeIn K cdd29 "_law_parts" = true)
    (kd29 : PySem.W.keepIn K (.ref fd29) = true)
    (ad30 : PySem.W.nsIn K mainGlobals "_law_lags" = some (some (.ref fd30)))
    (ld30 : K.lookup fd30 = some ⟨ocd30, odd30, .func (PySem.W.fnOf "_law_lags" "_law_lags" (defArgs sLLags) (defBody sLLags) (defScope sLLags) .none kVd30 dcd30 pmd30 and30 cdd30 ctd30), sld30⟩)
    (cd30 : PySem.W.codeIn K cdd30 "_law_lags" = true)
    (kd30 : PySem.W.keepIn K (.ref fd30) = true)
    (ad31 : PySem.W.nsIn K mainGlobals "_law_counts" = some (some (.ref fd31)))
    (ld31 : K.lookup fd31 = some ⟨ocd31, odd31, .func (PySem.W.fnOf "_law_counts" "_law_counts" (defArgs sGCounts) (defBody sGCounts) (defScope sGCounts) .none kVd31 dcd31 pmd31 and31 cdd31 ctd31), sld31⟩)
    (cd31 : PySem.W.codeIn K cdd31 "_law_counts" = true)
    (kd31 : PySem.W.keepIn K (.ref fd31) = true)
    (ad32 : PySem.W.nsIn K mainGlobals "_law_greatest" = some (some (.ref fd32)))
    (ld32 : K.lookup fd32 = some ⟨ocd32, odd32, .func (PySem.W.fnOf "_law_greatest" "_law_greatest" (defArgs sGreat) (defBody sGreat) (defScope sGreat) .none kVd32 dcd32 pmd32 and32 cdd32 ctd32), sld32⟩)
    (cd32 : PySem.W.codeIn K cdd32 "_law_greatest" = true)
    (kd32 : PySem.W.keepIn K (.ref fd32) = true)
    (ad33 : PySem.W.nsIn K mainGlobals "_law_is_way" = some (some (.ref fd33)))
    (ld33 : K.lookup fd33 = some ⟨ocd33, odd33, .func (PySem.W.fnOf "_law_is_way" "_law_is_way" (defArgs sIsWay) (defBody sIsWay) (defScope sIsWay) .none kVd33 dcd33 pmd33 and33 cdd33 ctd33), sld33⟩)
    (cd33 : PySem.W.codeIn K cdd33 "_law_is_way" = true)
    (kd33 : PySem.W.keepIn K (.ref fd33) = true)
    (ad34 : PySem.W.nsIn K mainGlobals "_law_word" = some (some (.ref fd34)))
    (ld34 : K.lookup fd34 = some ⟨ocd34, odd34, .func (PySem.W.fnOf "_law_word" "_law_word" (defArgs sWord) (defBody sWord) (defScope sWord) .none kVd34 dcd34 pmd34 and34 cdd34 ctd34), sld34⟩)
    (cd34 : PySem.W.codeIn K cdd34 "_law_word" = true)
    (kd34 : PySem.W.keepIn K (.ref fd34) = true)
    (ad35 : PySem.W.nsIn K mainGlobals "law" = some (some (.ref fd35)))
    (ld35 : K.lookup fd35 = some ⟨ocd35, odd35, .func (PySem.W.fnOf "law" "law" (defArgs sLaw) (defBody sLaw) (defScope sLaw) .none kVd35 dcd35 pmd35 and35 (.ref cL) ctd35), sld35⟩)
    (cd35 : PySem.W.codeIn K (.ref cL) "law" = true)
    (kd35 : PySem.W.keepIn K (.ref fd35) = true)
    (am0 : PySem.W.findIn K (.ref C) "__init__" = some (some (.ref fm0)))
    (im0 : PySem.W.isFn K (.ref fm0) = true)
    (lm0 : K.lookup fm0 = some ⟨ocm0, odm0, .func (PySem.W.fnOf "__init__" "Net.__init__" (defArgs sInit) (defBody sInit) (defScope sInit) .none kVm0 dcm0 pmm0 anm0 cdm0 ctm0), slm0⟩)
    (cm0 : PySem.W.codeIn K cdm0 "Net.__init__" = true)
    (km0 : PySem.W.keepIn K (.ref fm0) = true)
    (pgC : PySem.W.plainGet K C Str.empty = true)
    (hdC : PySem.W.hasDictIn K C = true)
    (poC : PySem.W.plainOver K C = true)
    (saC : PySem.W.findIn K (.ref C) "__setattr__" = some (some (.builtin "object.__setattr__")))
    (mkC : PySem.W.makesIn K C = true)
    (kcC : PySem.W.keepIn K (.ref C) = true)
    (nG : PySem.W.findIn K (.ref C) "gates" = some none)
    (nW : PySem.W.findIn K (.ref C) "wires" = some none)
    (aL0 : PySem.W.nsIn K mainGlobals "LagError" = some (some (.ref C0)))
    (aNL : PySem.W.nsIn K mainGlobals "NoLags" = some (some (.ref CL)))
    (qNL : PySem.W.excIn K CL [.type "ValueError", .type "Exception", .type "BaseException", .type "object"] "ValueError.__new__" = true)
    (kkNL : PySem.W.keepIn K (.ref CL) = true)
    (eNL : PySem.W.subIn K (.ref CL) (.type "BaseException") = some true)
    (ttNL : PySem.W.typeIn K (.ref CL) = some (.type "type"))
    (ciNL : PySem.W.isClsIn K CL = true)
    (sNL : PySem.W.subIn K (.ref CL) (.ref CL) = some true)
    (xgNL : PySem.W.findIn K (.ref CL) "__getattribute__" = some (some (.builtin "BaseException.__getattribute__")))
    (xkNL : PySem.W.findIn K (.ref CL) "__getattr__" = some none)
    (xdNL : PySem.W.hasDictIn K CL = true)
    (xaNL : PySem.W.findIn K (.ref CL) "__class__" = some (some (.builtin "object.__class__")))
    (xmNL : PySem.W.mroIn K CL (.type "object") = some true)
    (s0NL : PySem.W.subIn K (.ref CL) (.ref C0) = some true)
    (aNB : PySem.W.nsIn K mainGlobals "NoBeat" = some (some (.ref CB)))
    (qNB : PySem.W.excIn K CB [.type "ValueError", .type "Exception", .type "BaseException", .type "object"] "ValueError.__new__" = true)
    (kkNB : PySem.W.keepIn K (.ref CB) = true)
    (eNB : PySem.W.subIn K (.ref CB) (.type "BaseException") = some true)
    (ttNB : PySem.W.typeIn K (.ref CB) = some (.type "type"))
    (ciNB : PySem.W.isClsIn K CB = true)
    (sNB : PySem.W.subIn K (.ref CB) (.ref CB) = some true)
    (xgNB : PySem.W.findIn K (.ref CB) "__getattribute__" = some (some (.builtin "BaseException.__getattribute__")))
    (xkNB : PySem.W.findIn K (.ref CB) "__getattr__" = some none)
    (xdNB : PySem.W.hasDictIn K CB = true)
    (xaNB : PySem.W.findIn K (.ref CB) "__class__" = some (some (.builtin "object.__class__")))
    (xmNB : PySem.W.mroIn K CB (.type "object") = some true)
    (s0NB : PySem.W.subIn K (.ref CB) (.ref C0) = some true)
    (eC0 : PySem.W.subIn K (.ref C0) (.type "BaseException") = some true)
    (iC0 : PySem.W.isClsIn K C0 = true)
    (tC0 : PySem.W.typeIn K (.ref C0) = some (.type "type"))
    (sLB : PySem.W.subIn K (.ref CL) (.ref CB) = some false)
    (sBL : PySem.W.subIn K (.ref CB) (.ref CL) = some false)
    (xn : PySem.W.specialIn K (.builtin "object.__class__") "__get__" = some (some (.builtin "getset_descriptor.__get__")))
    (xt : PySem.W.takesIn K (.builtin "object.__class__") = some true)
    (ccL : K.lookup cL = some ⟨eL, ddL, .fields vsL, sxL⟩)
    (h11 : vsL[11]? = some (.ref Pt))
    (hPt : K.lookup Pt = none)
    (hch : PySem.W.codeHdIn K cL Pt = true)
    (zisi : PySem.W.nsIn K mainGlobals "isinstance" = some none)
    (zint : PySem.W.nsIn K mainGlobals "int" = some none)
    (zbool : PySem.W.nsIn K mainGlobals "bool" = some none)
    (zlen : PySem.W.nsIn K mainGlobals "len" = some none)
    (ztuple : PySem.W.nsIn K mainGlobals "tuple" = some none)
    (zstr : PySem.W.nsIn K mainGlobals "str" = some none)
    (zlist : PySem.W.nsIn K mainGlobals "list" = some none)
    (zall : PySem.W.nsIn K mainGlobals "all" = some none)
    (zenum : PySem.W.nsIn K mainGlobals "enumerate" = some none)
    (zzip : PySem.W.nsIn K mainGlobals "zip" = some none)
    (zrange : PySem.W.nsIn K mainGlobals "range" = some none)
    (zmax : PySem.W.nsIn K mainGlobals "max" = some none)
    (zsum : PySem.W.nsIn K mainGlobals "sum" = some none)
    (zmin : PySem.W.nsIn K mainGlobals "min" = some none)
    (gGW : PySem.W.nsIn K mainGlobals "GREATEST_WORTH" = some (some (.int 96 tGW)))
    (gGA : PySem.W.nsIn K mainGlobals "GREATEST_WAIT" = some (some (.int 100 tGA)))
    (gGL : PySem.W.nsIn K mainGlobals "GREATEST_LAG" = some (some (.int 500 tGL)))
    (gK : PySem.W.nsIn K mainGlobals "KINDS" = some (some (.ref aK)))
    (oK : K.lookup aK = some ⟨.type "tuple", ddK, .seq #[.str "in" tK0, .str "out" tK1, .str "sum" tK2, .str "times" tK3, .str "most" tK4, .str "least" tK5, .str "first" tK6, .str "one" tK7] nnK, ssK⟩)
    (gW : PySem.W.nsIn K mainGlobals "OUTER_KINDS" = some (some (.ref aW)))
    (oW : K.lookup aW = some ⟨.type "tuple", ddW, .seq #[.str "in" tW0, .str "out" tW1] nnW, ssW⟩)
    (gF : PySem.W.nsIn K mainGlobals "KINDS_WITH_A_WIRE" = some (some (.ref aF)))
    (oF : K.lookup aF = some ⟨.type "tuple", ddF, .seq #[.str "out" tF0, .str "first" tF1] nnF, ssF⟩) :
    LamX.LawAtS l w K CX0 9 63 "_law_script" mg fa h := by
  have e := hfa.symm.trans (PySem.W.mg_of X G ad35)
  cases e
  have Fd0 := fun_mk (st := sWhole) ld0 cd0 kd0
  have Fd1 := fun_mk (st := sFromTo) ld1 cd1 kd1
  have Fd2 := fun_mk (st := sWorth) ld2 cd2 kd2
  have Fd3 := fun_mk (st := sIsGate) ld3 cd3 kd3
  have Fd4 := fun_mk (st := sChkGates) ld4 cd4 kd4
  have Fd5 := fun_mk (st := sIsWire) ld5 cd5 kd5
  have Fd6 := fun_mk (st := sTaken) ld6 cd6 kd6
  have Fd7 := fun_mk (st := sChkWires) ld7 cd7 kd7
  have Fd8 := fun_mk (st := sAlong) ld8 cd8 kd8
  have Fd9 := fun_mk (st := sOrder) ld9 cd9 kd9
  have Fd10 := fun_mk (st := sChkRings) ld10 cd10 kd10
  have Fd11 := fun_mk (st := sOuter) ld11 cd11 kd11
  have Fd12 := fun_mk (st := sChkLags) ld12 cd12 kd12
  have Fd13 := fun_mk (st := sCountsBy) ld13 cd13 kd13
  have Fd14 := fun_mk (st := sCounts) ld14 cd14 kd14
  have Fd15 := fun_mk (st := sAreLetBy) ld15 cd15 kd15
  have Fd16 := fun_mk (st := sAreLet) ld16 cd16 kd16
  have Fd17 := fun_mk (st := sHeld) ld17 cd17 kd17
  have Fd18 := fun_mk (st := sArr) ld18 cd18 kd18
  have Fd19 := fun_mk (st := sWayTo) ld19 cd19 kd19
  have Fd20 := fun_mk (st := sBeatOf) ld20 cd20 kd20
  have Fd21 := fun_mk (st := sLongest) ld21 cd21 kd21
  have Fd22 := fun_mk (st := sChkBeat) ld22 cd22 kd22
  have Fd23 := fun_mk (st := sWith) ld23 cd23 kd23
  have Fd24 := fun_mk (st := sCellAt) ld24 cd24 kd24
  have Fd25 := fun_mk (st := sDigit) ld25 cd25 kd25
  have Fd26 := fun_mk (st := sGates) ld26 cd26 kd26
  have Fd27 := fun_mk (st := sLWorths) ld27 cd27 kd27
  have Fd28 := fun_mk (st := sLWires) ld28 cd28 kd28
  have Fd29 := fun_mk (st := sLParts) ld29 cd29 kd29
  have Fd30 := fun_mk (st := sLLags) ld30 cd30 kd30
  have Fd31 := fun_mk (st := sGCounts) ld31 cd31 kd31
  have Fd32 := fun_mk (st := sGreat) ld32 cd32 kd32
  have Fd33 := fun_mk (st := sIsWay) ld33 cd33 kd33
  have Fd34 := fun_mk (st := sWord) ld34 cd34 kd34
  have Fd35 := fun_mk (st := sLaw) ld35 cd35 kd35
  have Fm0 := fun_mk (st := sInit) lm0 cm0 km0
  have B : Bt mg := ⟨PySem.W.mg_none_of X G zisi, PySem.W.mg_none_of X G zint, PySem.W.mg_none_of X G zbool, PySem.W.mg_none_of X G zlen, PySem.W.mg_none_of X G ztuple, PySem.W.mg_none_of X G zstr, PySem.W.mg_none_of X G zlist, PySem.W.mg_none_of X G zall, PySem.W.mg_none_of X G zenum, PySem.W.mg_none_of X G zzip, PySem.W.mg_none_of X G zrange, PySem.W.mg_none_of X G zmax⟩
  have b_sum := PySem.W.mg_none_of X G zsum
  have b_min := PySem.W.mg_none_of X G zmin
  have Cn : Cns K mg aK aW aF := ⟨⟨_, PySem.W.mg_of X G gGW⟩, ⟨_, PySem.W.mg_of X G gGA⟩, PySem.W.mg_of X G gK, fun _ => .inr ⟨_, _, _, oK, rfl, rfl, (by show 8 ≤ sizeLine; decide), .cons ⟨_, rfl⟩ (.cons ⟨_, rfl⟩ (.cons ⟨_, rfl⟩ (.cons ⟨_, rfl⟩ (.cons ⟨_, rfl⟩ (.cons ⟨_, rfl⟩ (.cons ⟨_, rfl⟩ (.cons ⟨_, rfl⟩ (.nil))))))))⟩, PySem.W.mg_of X G gW, fun _ => .inr ⟨_, _, _, oW, rfl, rfl, (by show 2 ≤ sizeLine; decide), .cons ⟨_, rfl⟩ (.cons ⟨_, rfl⟩ (.nil))⟩, PySem.W.mg_of X G gF, fun _ => .inr ⟨_, _, _, oF, rfl, rfl, (by show 2 ≤ sizeLine; decide), .cons ⟨_, rfl⟩ (.cons ⟨_, rfl⟩ (.nil))⟩⟩
  have i_GL : ∃ t, mg "GREATEST_LAG" = some (.int 500 t) := ⟨_, PySem.W.mg_of X G gGL⟩
  have T : NT K mg C := ⟨⟨pgC, hdC, poC, saC⟩, nG, nW, PySem.W.mg_of X G aC⟩
  have bm0 := Fm0.binds (ps := ["self", "gates", "wires"]) fun _ _ _ _ _ _ us hl => match us, hl with | [_, _, _], _ => rfl
  refine ⟨PySem.W.fnOf "law" "law" (defArgs sLaw) (defBody sLaw) (defScope sLaw) .none kVd35 dcd35 pmd35 and35 (.ref cL) ctd35, [(cL, Pt)], spLaw K Pt, fun p hp => ?_, fun p hp => ?_, fun p hp => ?_, fun s v => .of_eq rfl, fun H a ns hl _ hH hS => ⟨a, ns, rfl, hH _ (List.mem_singleton.mpr rfl), hS, hl, fun _ => rfl⟩, fun base _ _ TB => ?_⟩
  · rw [List.mem_singleton.mp hp]
    exact own cL Pt _ _ _ _ _ _ ld35 rfl rfl ccL h11
  · rw [List.mem_singleton.mp hp]
    exact hPt
  · rw [List.mem_singleton.mp hp]
    exact PySem.W.codeHd_of_K X hch
  have whole := ok_whole (P := l.prog) (w := w) (base := base) Fd0 (PySem.W.mg_of X G ad0) B
  have ft := ok_fromTo (P := l.prog) (w := w) (base := base) Fd1 (PySem.W.mg_of X G ad1) whole
  have wo := ok_worth (P := l.prog) (w := w) (base := base) Fd2 (PySem.W.mg_of X G ad2) Cn ft
  have ig := ok_isGate (P := l.prog) (w := w) (base := base) Fd3 (PySem.W.mg_of X G ad3) B Cn ft
  have cg := ok_chkGates (P := l.prog) (w := w) (base := base) Fd4 (PySem.W.mg_of X G ad4) B ig
  have iw := ok_isWire (P := l.prog) (w := w) (base := base) Fd5 (PySem.W.mg_of X G ad5) B ft wo
  have tk := ok_taken (P := l.prog) (w := w) (base := base) Fd6 (PySem.W.mg_of X G ad6)
  have cw := ok_chkWires (P := l.prog) (w := w) (base := base) Fd7 (PySem.W.mg_of X G ad7) B Cn iw tk
  have al := ok_along (P := l.prog) (w := w) (base := base) Fd8 (PySem.W.mg_of X G ad8) B
  have od := ok_order (P := l.prog) (w := w) (base := base) Fd9 (PySem.W.mg_of X G ad9) B al
  have cr := ok_chkRings (P := l.prog) (w := w) (base := base) Fd10 (PySem.W.mg_of X G ad10) B od
  have init := ok_init (P := l.prog) (w := w) (base := base) Fm0 T B cg cw cr
  have MK : Mk K C fm0 := ⟨mkC, am0, im0, kcC⟩
  have ou := ok_outer (P := l.prog) (w := w) (base := base) Fd11 (PySem.W.mg_of X G ad11) Cn
  have cl := ok_chkLags (P := l.prog) (w := w) (base := base) Fd12 (PySem.W.mg_of X G ad12) B T i_GL ou ft
  have cb := ok_countsBy (P := l.prog) (w := w) (base := base) Fd13 (PySem.W.mg_of X G ad13) B T
  have cn := ok_counts (P := l.prog) (w := w) (base := base) Fd14 (PySem.W.mg_of X G ad14) cl cb
  have ab := ok_areLetBy (P := l.prog) (w := w) (base := base) Fd15 (PySem.W.mg_of X G ad15) b_min cb
  have ar := ok_areLet (P := l.prog) (w := w) (base := base) Fd16 (PySem.W.mg_of X G ad16) cl ab
  have hd := ok_held (P := l.prog) (w := w) (base := base) Fd17 (PySem.W.mg_of X G ad17) B T
  have av := ok_arr (P := l.prog) (w := w) (base := base) Fd18 (PySem.W.mg_of X G ad18) B T al
  have wt := ok_wayTo (P := l.prog) (w := w) (base := base) Fd19 (PySem.W.mg_of X G ad19) B T
  have bo := ok_beatOf (P := l.prog) (w := w) (base := base) Fd20 (PySem.W.mg_of X G ad20) B hd av
  have lo := ok_longest (P := l.prog) (w := w) (base := base) Fd21 (PySem.W.mg_of X G ad21) B hd av wt
  have whX := ok_wholeX (P := l.prog) (w := w) (base := base) Fd0 B
  have cbt := ok_chkBeat (P := l.prog) (w := w) (base := base) Fd22 (PySem.W.mg_of X G ad22) whole whX
  have wl := ok_with (P := l.prog) (w := w) (base := base) Fd23 (PySem.W.mg_of X G ad23) B cn cbt ar av
  have ca := ok_cellAt (P := l.prog) (w := w) (base := base) Fd24 (PySem.W.mg_of X G ad24) B.len
  have dg := ok_digit (P := l.prog) (w := w) (base := base) Fd25 (PySem.W.mg_of X G ad25) B
  have ga := ok_gates (P := l.prog) (w := w) (base := base) Fd26 (PySem.W.mg_of X G ad26) B dg
  have lw := ok_lworths (P := l.prog) (w := w) (base := base) Fd27 (PySem.W.mg_of X G ad27) B dg
  have wi := ok_lwires (P := l.prog) (w := w) (base := base) Fd28 (PySem.W.mg_of X G ad28) B dg lw
  have pa := ok_lparts (P := l.prog) (w := w) (base := base) Fd29 (PySem.W.mg_of X G ad29) B dg ga wi
  have la := ok_llags (P := l.prog) (w := w) (base := base) Fd30 (PySem.W.mg_of X G ad30) B dg
  have gc := ok_gcounts (P := l.prog) (w := w) (base := base) Fd31 (PySem.W.mg_of X G ad31) B
  have gr := ok_great (P := l.prog) (w := w) (base := base) Fd32 (PySem.W.mg_of X G ad32) B
  have iwy := ok_isWay (P := l.prog) (w := w) (base := base) Fd33 (PySem.W.mg_of X G ad33) B
  have NL : PEx K mg "NoLags" CL := ⟨PySem.W.mg_of X G aNL, qNL, kkNL, eNL, ttNL, exm_self eNL ciNL ttNL sNL⟩
  have NB : PEx K mg "NoBeat" CB := ⟨PySem.W.mg_of X G aNB, qNB, kkNB, eNB, ttNB, exm_self eNB ciNB ttNB sNB⟩
  have ftX := ok_fromToX (P := l.prog) (w := w) (base := base) Fd1 whole whX
  have clX := ok_chkX (P := l.prog) (w := w) (base := base) Fd12 B T i_GL ou ft ftX NL
  have cnX := ok_countsX (P := l.prog) (w := w) (base := base) Fd14 clX cl cb
  have cbX := ok_chkBeatX (P := l.prog) (w := w) (base := base) Fd22 whole whX NB
  have wlX := ok_withX (P := l.prog) (w := w) (base := base) Fd23 cn cbt cnX cbX
  have bR := Fd34.binds (ps := ["_law_ask"]) fun _ _ _ _ _ _ us hl => match us, hl with | [_], _ => rfl
  have kLB : PySem.W.kitOne K (.ref CL) (.ref CB) = some false := kit_not ciNB ttNB sNL sLB
  have kBL : PySem.W.kitOne K (.ref CB) (.ref CL) = some false := kit_not ciNL ttNL sNB sBL
  have R : WordC K mg C0 CL CB := ⟨PySem.W.mg_of X G aL0, PySem.W.mg_of X G aNL, PySem.W.mg_of X G aNB, B.isi, exm_of eC0 iC0 tC0 s0NL, exm_of eC0 iC0 tC0 s0NB, if_pos (beq_self_eq_true _), kLB, kBL, if_pos (beq_self_eq_true _), ⟨xgNL, xkNL, eNL, xdNL, xaNL, xn, xt, xmNL⟩, ⟨xgNB, xkNB, eNB, xdNB, xaNB, xn, xt, xmNB⟩⟩
  exact ok_law ld35 cd35 (TB _ (List.mem_singleton.mpr rfl)) ld34 cd34 (PySem.W.mg_of X G ad34) kd34 bR R B T b_sum b_min ca dg pa MK init bm0 la gc gr bo lo iwy wl wlX
end Lag

set_option maxRecDepth 100000
open PySem PySem.W PyProof.Rows
set_option maxRecDepth 100000 in
set_option maxHeartbeats 0 in
theorem PySem.Challenge.cw_lagshift_k23_the_beat_of_a_net_holds : PySem.Challenge.rw_lagshift_k23_the_beat_of_a_net.Holds := by
  w_on; o_law; k_head; (case hw => w_witness2)
  k_fill
  refine LamX.walk_ofOwn (l := PySem.Challenge.rw_lagshift_k23_the_beat_of_a_net) (n := 63) (k := 9) (x := "_law_script") (CX := fun _ => L2.CX0) rfl (by decide) rfl ⟨rfl, by decide, by decide⟩ (by decide +kernel) (fun w h Y => PySem.W.km_in_of Y) ?F (fun _ _ _ _ _ h => h)
  case F =>
    intro w mg fa h Y KX G hmg own
    refine' Lag.all_mk KX G hmg own ?aC ?ad0 ?ld0 ?cd0 ?kd0 ?ad1 ?ld1 ?cd1 ?kd1 ?ad2 ?ld2 ?cd2 ?kd2 ?ad3 ?ld3 ?cd3 ?kd3 ?ad4 ?ld4 ?cd4 ?kd4 ?ad5 ?ld5 ?cd5 ?kd5 ?ad6 ?ld6 ?cd6 ?kd6 ?ad7 ?ld7 ?cd7 ?kd7 ?ad8 ?ld8 ?cd8 ?kd8 ?ad9 ?ld9 ?cd9 ?kd9 ?ad10 ?ld10 ?cd10 ?kd10 ?ad11 ?ld11 ?cd11 ?kd11 ?ad12 ?ld12 ?cd12 ?kd12 ?ad13 ?ld13 ?cd13 ?kd13 ?ad14 ?ld14 ?cd14 ?kd14 ?ad15 ?ld15 ?cd15 ?kd15 ?ad16 ?ld16 ?cd16 ?kd16 ?ad17 ?ld17 ?cd17 ?kd17 ?ad18 ?ld18 ?cd18 ?kd18 ?ad19 ?ld19 ?cd19 ?kd19 ?ad20 ?ld20 ?cd20 ?kd20 ?ad21 ?ld21 ?cd21 ?kd21 ?ad22 ?ld22 ?cd22 ?kd22 ?ad23 ?ld23 ?cd23 ?kd23 ?ad24 ?ld24 ?cd24 ?kd24 ?ad25 ?ld25 ?cd25 ?kd25 ?ad26 ?ld26 ?cd26 ?kd26 ?ad27 ?ld27 ?cd27 ?kd27 ?ad28 ?ld28 ?cd28 ?kd28 ?ad29 ?ld29 ?cd29 ?kd29 ?ad30 ?ld30 ?cd30 ?kd30 ?ad31 ?ld31 ?cd31 ?kd31 ?ad32 ?ld32 ?cd32 ?kd32 ?ad33 ?ld33 ?cd33 ?kd33 ?ad34 ?ld34 ?cd34 ?kd34 ?ad35 ?ld35 ?cd35 ?kd35 ?am0 ?im0 ?lm0 ?cm0 ?km0 ?pgC ?hdC ?poC ?saC ?mkC ?kcC ?nG ?nW ?aL0 ?aNL ?qNL ?kkNL ?eNL ?ttNL ?ciNL ?sNL ?xgNL ?xkNL ?xdNL ?xaNL ?xmNL ?s0NL ?aNB ?qNB ?kkNB ?eNB ?ttNB ?ciNB ?sNB ?xgNB ?xkNB ?xdNB ?xaNB ?xmNB ?s0NB ?eC0 ?iC0 ?tC0 ?sLB ?sBL ?xn ?xt ?ccL ?h11 ?hPt ?hch ?zisi ?zint ?zbool ?zlen ?ztuple ?zstr ?zlist ?zall ?zenum ?zzip ?zrange ?zmax ?zsum ?zmin ?gGW ?gGA ?gGL ?gK ?oK ?gW ?oW ?gF ?oF
    (case aC => k_is)
    (case ad0 => k_is)
    (case ld0 => k_is)
    (case cd0 => k_is)
    (case kd0 => k_is)
    (case ad1 => k_is)
    (case ld1 => k_is)
    (case cd1 => k_is)
    (case kd1 => k_is)
    (case ad2 => k_is)
    (case ld2 => k_is)
    (case cd2 => k_is)
    (case kd2 => k_is)
    (case ad3 => k_is)
    (case ld3 => k_is)
    (case cd3 => k_is)
    (case kd3 => k_is)
    (case ad4 => k_is)
    (case ld4 => k_is)
    (case cd4 => k_is)
    (case kd4 => k_is)
    (case ad5 => k_is)
    (case ld5 => k_is)
    (case cd5 => k_is)
    (case kd5 => k_is)
    (case ad6 => k_is)
    (case ld6 => k_is)
    (case cd6 => k_is)
    (case kd6 => k_is)
    (case ad7 => k_is)
    (case ld7 => k_is)
    (case cd7 => k_is)
    (case kd7 => k_is)
    (case ad8 => k_is)
    (case ld8 => k_is)
    (case cd8 => k_is)
    (case kd8 => k_is)
    (case ad9 => k_is)
    (case ld9 => k_is)
    (case cd9 => k_is)
    (case kd9 => k_is)
    (case ad10 => k_is)
    (case ld10 => k_is)
    (case cd10 => k_is)
    (case kd10 => k_is)
    (case ad11 => k_is)
    (case ld11 => k_is)
    (case cd11 => k_is)
    (case kd11 => k_is)
    (case ad12 => k_is)
    (case ld12 => k_is)
    (case cd12 => k_is)
    (case kd12 => k_is)
    (case ad13 => k_is)
    (case ld13 => k_is)
    (case cd13 => k_is)
    (case kd13 => k_is)
    (case ad14 => k_is)
    (case ld14 => k_is)
    (case cd14 => k_is)
    (case kd14 => k_is)
    (case ad15 => k_is)
    (case ld15 => k_is)
    (case cd15 => k_is)
    (case kd15 => k_is)
    (case ad16 => k_is)
    (case ld16 => k_is)
    (case cd16 => k_is)
    (case kd16 => k_is)
    (case ad17 => k_is)
    (case ld17 => k_is)
    (case cd17 => k_is)
    (case kd17 => k_is)
    (case ad18 => k_is)
    (case ld18 => k_is)
    (case cd18 => k_is)
    (case kd18 => k_is)
    (case ad19 => k_is)
    (case ld19 => k_is)
    (case cd19 => k_is)
    (case kd19 => k_is)
    (case ad20 => k_is)
    (case ld20 => k_is)
    (case cd20 => k_is)
    (case kd20 => k_is)
    (case ad21 => k_is)
    (case ld21 => k_is)
    (case cd21 => k_is)
    (case kd21 => k_is)
    (case ad22 => k_is)
    (case ld22 => k_is)
    (case cd22 => k_is)
    (case kd22 => k_is)
    (case ad23 => k_is)
    (case ld23 => k_is)
    (case cd23 => k_is)
    (case kd23 => k_is)
    (case ad24 => k_is)
    (case ld24 => k_is)
    (case cd24 => k_is)
    (case kd24 => k_is)
    (case ad25 => k_is)
    (case ld25 => k_is)
    (case cd25 => k_is)
    (case kd25 => k_is)
    (case ad26 => k_is)
    (case ld26 => k_is)
    (case cd26 => k_is)
    (case kd26 => k_is)
    (case ad27 => k_is)
    (case ld27 => k_is)
    (case cd27 => k_is)
    (case kd27 => k_is)
    (case ad28 => k_is)
    (case ld28 => k_is)
    (case cd28 => k_is)
    (case kd28 => k_is)
    (case ad29 => k_is)
    (case ld29 => k_is)
    (case cd29 => k_is)
    (case kd29 => k_is)
    (case ad30 => k_is)
    (case ld30 => k_is)
    (case cd30 => k_is)
    (case kd30 => k_is)
    (case ad31 => k_is)
    (case ld31 => k_is)
    (case cd31 => k_is)
    (case kd31 => k_is)
    (case ad32 => k_is)
    (case ld32 => k_is)
    (case cd32 => k_is)
    (case kd32 => k_is)
    (case ad33 => k_is)
    (case ld33 => k_is)
    (case cd33 => k_is)
    (case kd33 => k_is)
    (case ad34 => k_is)
    (case ld34 => k_is)
    (case cd34 => k_is)
    (case kd34 => k_is)
    (case ad35 => k_is)
    (case ld35 => k_is)
    (case cd35 => k_is)
    (case kd35 => k_is)
    (case am0 => k_is)
    (case im0 => k_is)
    (case lm0 => k_is)
    (case cm0 => k_is)
    (case km0 => k_is)
    (case pgC => k_is)
    (case hdC => k_is)
    (case poC => k_is)
    (case saC => k_is)
    (case mkC => k_is)
    (case kcC => k_is)
    (case nG => k_is)
    (case nW => k_is)
    (case aL0 => k_is)
    (case aNL => k_is)
    (case qNL => k_exc)
    (case kkNL => k_is)
    (case eNL => k_is)
    (case ttNL => k_is)
    (case ciNL => k_is)
    (case sNL => k_is)
    (case xgNL => k_is)
    (case xkNL => k_is)
    (case xdNL => k_is)
    (case xaNL => k_is)
    (case xmNL => k_is)
    (case s0NL => k_is)
    (case aNB => k_is)
    (case qNB => k_exc)
    (case kkNB => k_is)
    (case eNB => k_is)
    (case ttNB => k_is)
    (case ciNB => k_is)
    (case sNB => k_is)
    (case xgNB => k_is)
    (case xkNB => k_is)
    (case xdNB => k_is)
    (case xaNB => k_is)
    (case xmNB => k_is)
    (case s0NB => k_is)
    (case eC0 => k_is)
    (case iC0 => k_is)
    (case tC0 => k_is)
    (case sLB => k_is)
    (case sBL => k_is)
    (case xn => k_is)
    (case xt => k_is)
    (case ccL => k_is)
    (case h11 => rfl)
    (case hPt => first | kernel_rfl | rfl)
    (case hch => first | kernel_rfl | rfl)
    (case zisi => k_is)
    (case zint => k_is)
    (case zbool => k_is)
    (case zlen => k_is)
    (case ztuple => k_is)
    (case zstr => k_is)
    (case zlist => k_is)
    (case zall => k_is)
    (case zenum => k_is)
    (case zzip => k_is)
    (case zrange => k_is)
    (case zmax => k_is)
    (case zsum => k_is)
    (case zmin => k_is)
    (case gGW => k_is)
    (case gGA => k_is)
    (case gGL => k_is)
    (case gK => k_is)
    (case oK => k_is)
    (case gW => k_is)
    (case oW => k_is)
    (case gF => k_is)
    (case oF => k_is)

