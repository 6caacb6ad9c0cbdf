import PyProof.Rows.All
import Wide.All
import OpenK.AllK
import Wide.FinOn
import HandS.ForMost
import HandS.IsInst
import HandS.Evl
import HandS.Flow
import HandS.Conv
import HandS.Wide
import HandS.Walk
import HandS.Zip
import HandS.OwnEq
import HandS.Style
import HandS.TupAny
import KE.KMinKey
import HandS.SortKw
import HandS.SortInts
import HandS.SetFor
import HandS.TupSets
import HandS.Deep
import HandS.HotCalls
import HandS.IterVal
import HandS.Iter
import PyProof.CompFree
import HandS.Comp
import HandS.TryMany
import HandS.ExcOwn
import HandS.Words
import HandS.WordsExc
import KE.KTryMore
import HandS.ExcCtx
import HandS.Hot
import HandS.SuiteRaise
import HandS.RaiseFrom
import HandS.ExcInit
import HandS.ExcField
import HandS.TryOnly
import HandS.ExcIs
import KE.KNestM
import PySem.Challenge.RW_lagshift_k54_whole_fewest_registers
set_option Elab.async false
set_option linter.all false
set_option maxRecDepth 100000
set_option maxHeartbeats 4000000
namespace Lag
open PySem PySem.Spec PyProof.Rows L2
/-! ### the text by its places -/
def topS (i : Nat) : Stmt := PySem.Challenge.pw_lagshift_k54_whole_fewest_registers.main.body.getD i (.Pass ⟨0, 0, 0, 0⟩)
abbrev sCellAt : Stmt := topS 75 -- @_law_cell_at
/-! ### heaps -/
/-- all stands as it stood but at w -/
def But (w : Addr) (H H' : Hp) : Prop := ∀ b o, b ≠ w → H b = some o → H' b = some o
theorem But.refl (w : Addr) (H : Hp) : But w H H := fun _ _ _ h => h
theorem But.trans {w : Addr} {H H1 H2 : Hp} (a : But w H H1) (b : But w H1 H2) : But w H H2 := fun c o n h => b c o n (a c o n h)
theorem But.same {w : Addr} {H H1 : Hp} (a : Same H H1) : But w H H1 := fun c o _ h => a c o h
theorem But.upd {w : Addr} {H : Hp} {o : HO} : But w H (upd H w o) := fun c u n h => by rw [upd_ne n]; exact h
theorem But.new {w p : Addr} {H : Hp} {o : HO} (h : H p = none) : But w H (L2.upd H p o) := fun c u n e => by rw [upd_ne (ne_of_none e h)]; exact e
theorem same_new {H : Hp} {p : Addr} {o : HO} (h : H p = none) : Same H (upd H p o) := fun b x e => by rw [upd_ne (ne_of_none e h)]; exact e
/-- an object that H does not know may be changed -/
theorem same_mut {H H' : Hp} {p : Addr} {o : HO} (e : Same H H') (h : H p = none) : Same H (upd H' p o) := fun a u ha => by rw [upd_ne (ne_of_none ha h)]; exact e a u ha
theorem But.mut {w p : Addr} {H H' : Hp} {o : HO} (e : But w H H') (h : H p = none) : But w H (L2.upd H' p o) := fun a u n ha => by rw [upd_ne (ne_of_none ha h)]; exact e a u n ha
theorem But.seq {K : PySem.W.Frag} {w a : Addr} {H H' : Hp} {xs : List V} (e : But w H H') (n : a ≠ w) (h : SqL K H a xs) : SqL K H' a xs := by
  rcases h with (h | ⟨o, h⟩) | h
  · exact .inl (.inl (e _ _ n h))
  · exact .inl (.inr ⟨o, e _ _ n h⟩)
  · exact .inr h
/-- at w the state: one number, or three -/
def StOk (xs : List V) : Prop := (∃ a : Int, xs = [.int a]) ∨ ∃ a b c : Int, xs = [.int a, .int b, .int c]
def WellAt (w : Addr) (H : Hp) : Prop := ∃ xs : List V, H w = some (.lst xs) ∧ StOk xs
theorem WellAt.new {w p : Addr} {H : Hp} {o : HO} (W : WellAt w H) (h : H p = none) : WellAt w (upd H p o) := by
  obtain ⟨xs, e, k⟩ := W
  exact ⟨xs, by rw [upd_ne (ne_of_none e h)]; exact e, k⟩
theorem WellAt.same {w : Addr} {H H' : Hp} (W : WellAt w H) (s : Same H H') : WellAt w H' := by
  obtain ⟨xs, e, k⟩ := W
  exact ⟨xs, s _ _ e, k⟩
theorem WellAt.ne {w p : Addr} {H : Hp} (W : WellAt w H) (h : H p = none) : w ≠ p := by
  obtain ⟨xs, e, k⟩ := W
  exact ne_of_none e h
/-- a draw of the well: what stood stands, the well is one -/
structure Dr (w : Addr) (H H' : Hp) : Prop where
  but : But w H H'
  well : WellAt w H'
theorem Dr.trans {w : Addr} {H H1 H2 : Hp} (a : Dr w H H1) (b : Dr w H1 H2) : Dr w H H2 := ⟨a.but.trans b.but, b.well⟩
theorem Dr.free {w p : Addr} {H H' : Hp} (d : Dr w H H') (W : WellAt w H) (h : H' p = none) : H p = none := by
  cases q : H p with
  | none => rfl
  | some o =>
    have n : p ≠ w := (d.well.ne h).symm
    rw [d.but _ _ n q] at h
    cases h
/-! ### the promises of the draws -/
def spCellAt (K : PySem.W.Frag) : Sp := fun vs H Q _ => ∃ (a : Addr) (ns : List Int) (k : Int), vs = [.ref a, .int k] ∧ 0 ≤ k ∧ SqL K H a (ns.map V.int) ∧ ∀ z : Int, Q (.int z) H
section
variable {P : Program} {w : World} {K : PySem.W.Frag} {mg : Str → Option Value} {base : Heap}
/-- a def at its name: it keeps its promise, its name holds it, its arguments bind -/
structure Df (P : Program) (w : World) (K : PySem.W.Frag) (mg : Str → Option Value) (base : Heap) (k : Nat) (name : Str) (ps : List Str) (sp : Sp) (f : Addr) (fd : FuncData) : Prop where
  ok : FnOk P w K mg base CX0 k f fd ps sp
  mg : mg name = some (.ref f)
  kp : PySem.W.keepIn K (.ref f) = true
  bd : Binds K fd ps []
/-! ### _law_cell_at -/
theorem scCellAt : FnScope ["_law_script", "_law_k"] ["_law_script", "_law_k"] (defScope sCellAt) := ⟨rfl, rfl, rfl, by decide +kernel, rfl, by decide +kernel, by decide +kernel⟩
abbrev DCellAt (P : Program) (w : World) (K : PySem.W.Frag) (mg : Str → Option Value) (base : Heap) := Df P w K mg base 1 "_law_cell_at" ["_law_script", "_law_k"] (spCellAt K)
theorem ok_cellAt {f : Addr} {fd : FuncData} (F : Fun K "_law_cell_at" "_law_cell_at" sCellAt f fd) (hm : mg "_law_cell_at" = some (.ref f)) (ml : mg "len" = none) : DCellAt P w K mg base f fd := by
  refine ⟨?_, hm, F.kp, F.binds fun _ _ _ _ _ _ us hl => match us, hl with | [_, _], _ => rfl⟩
  refine F.ok scCellAt (fun vs H Q E h => ?_) (fun cdv A outer s H vs Q E hr h => ?_)
  · obtain ⟨a, ns, k, rfl, _⟩ := h
    rfl
  · obtain ⟨a, ns, k, rfl, hk, hS, q⟩ := h
    refine ⟨_, pss_cons (ps_if (pt_cmpR op_lt (pv 1) (pe_callB call_len_seq (by rfl) ml PySem.boot_len (pa_cons (pv 0) pa_nil)) (nomark _))
        (pss_one (ps_ret (pe_ix ix_list (pv 0) (pv 1) (fun _ _ => rfl)))) pss_nil)
      (pss_one (ps_ret pe_int)), ?_⟩
    refine ⟨_, rfl, .ref a, rfl, a, _, rfl, .inl hS, _, _, rfl, rfl, _, rfl, ite2 (fun e => ?_) (fun e => ?_)⟩
    · have e1 : k < ((ns.map V.int).length : Int) := of_decide_eq_true e
      rw [List.length_map] at e1
      have hj : k.toNat < ns.length := by omega
      refine ⟨_, rfl, _, rfl, a, _, k, .int (ns[k.toNat]), rfl, rfl, hS, at_of (j := k.toNat) (by omega) ?_, q _⟩
      rw [List.getElem?_map, List.getElem?_eq_getElem hj]
      rfl
    · exact q 0
end
/-! ### what is kept of tuples -/
def isT : HO → Prop
  | .tup _ => True
  | .frz _ _ => True
  | _ => False
/-- tuples, and what is locked, stand as they stood -/
def TK (H H' : Hp) : Prop := ∀ a o, isT o → H a = some o → H' a = some o
theorem TK.refl (H : Hp) : TK H H := fun _ _ _ h => h
theorem TK.trans {H H1 H2 : Hp} (a : TK H H1) (b : TK H1 H2) : TK H H2 := fun c o t h => b c o t (a c o t h)
theorem TK.same {H H1 : Hp} (a : Same H H1) : TK H H1 := fun c o _ h => a c o h
theorem TK.new {p : Addr} {H : Hp} {o : HO} (h : H p = none) : TK H (upd H p o) := TK.same (same_new h)
theorem TK.lst {l : Addr} {H : Hp} {xs : List V} {o : HO} (h : H l = some (.lst xs)) : TK H (upd H l o) := fun c u t e => by
  have n : c ≠ l := fun z => by
    rw [z, h] at e
    cases e
    exact t
  rw [upd_ne n]
  exact e
theorem TK.dr {w : Addr} {H H' : Hp} (W : WellAt w H) (d : But w H H') : TK H H' := fun c u t e => by
  obtain ⟨xs, h, _⟩ := W
  have n : c ≠ w := fun z => by
    rw [z, h] at e
    cases e
    exact t
  exact d _ _ n e
theorem TK.seq {K : PySem.W.Frag} {H H' : Hp} {a : Addr} {xs : List V} (t : TK H H') (h : SqT K H a xs) : SqT K H' a xs := by
  rcases h with (h | ⟨o, h⟩) | h
  · exact .inl (.inl (t _ _ trivial h))
  · exact .inl (.inr ⟨o, t _ _ trivial h⟩)
  · exact .inr h
/-! ### gates and wires as data -/
abbrev Gt := Str × Int
abbrev Wr := Nat × Nat × List Int
def kinds : List Str := ["in", "out", "sum", "times", "most", "least", "first", "one"]
def portK (k : Str) : Prop := k = "in" ∨ k = "out"
/-- a gate -/
def GOk (g : Gt) : Prop := g.1 ∈ kinds ∧ 0 ≤ g.2 ∧ g.2 ≤ 100 ∧ (portK g.1 → g.2 = 0)
def GateV (K : PySem.W.Frag) (H : Hp) (v : V) (g : Gt) : Prop := ∃ a, v = .ref a ∧ SqT K H a [.str g.1, .int g.2]
def WireV (K : PySem.W.Frag) (H : Hp) (v : V) (x : Wr) : Prop := ∃ a b, v = .ref a ∧ SqT K H a [.int x.1, .int x.2.1, .ref b] ∧ SqT K H b (x.2.2.map V.int)
theorem GateV.tk {K : PySem.W.Frag} {H H' : Hp} {v : V} {g : Gt} (t : TK H H') (h : GateV K H v g) : GateV K H' v g := by
  obtain ⟨a, e, s⟩ := h
  exact ⟨a, e, t.seq s⟩
theorem WireV.tk {K : PySem.W.Frag} {H H' : Hp} {v : V} {x : Wr} (t : TK H H') (h : WireV K H v x) : WireV K H' v x := by
  obtain ⟨a, b, e, s, s2⟩ := h
  exact ⟨a, b, e, t.seq s, t.seq s2⟩
theorem Dr.new {wl p : Addr} {H : Hp} {o : HO} (W : WellAt wl H) (h : H p = none) : Dr wl H (upd H p o) := ⟨But.new h, W.new h⟩
def ROk (r : List Int) : Prop := ∀ x ∈ r, 0 ≤ x ∧ x ≤ 96
theorem tyes {σ : L2.St} {H : Hp} {A B : Hp → Prop} (h : A H) : tYes σ H (fun b H3 => if b = true then A H3 else B H3) := by
  show if true = true then A H else B H
  rw [if_pos rfl]
  exact h
/-! ### two lists, place by place -/
def All2 {α β : Type} (R : α → β → Prop) (xs : List α) (ys : List β) : Prop := xs.length = ys.length ∧ ∀ (i : Nat) (x : α) (y : β), xs[i]? = some x → ys[i]? = some y → R x y
section
variable {α β : Type} {R S : α → β → Prop} {xs : List α} {ys : List β} {x : α} {y : β}
theorem All2.nil : All2 R [] [] := ⟨rfl, fun i x y h => by simp at h⟩
theorem All2.imp (h : All2 R xs ys) (f : ∀ x y, R x y → S x y) : All2 S xs ys := ⟨h.1, fun i x y a b => f x y (h.2 i x y a b)⟩
theorem All2.snoc (h : All2 R xs ys) (r : R x y) : All2 R (xs ++ [x]) (ys ++ [y]) := by
  refine ⟨by simp [h.1], fun i a b ha hb => ?_⟩
  by_cases hi : i < xs.length
  · rw [List.getElem?_append_left hi] at ha
    rw [List.getElem?_append_left (by rw [← h.1]; exact hi)] at hb
    exact h.2 i a b ha hb
  · rw [List.getElem?_append_right (by omega)] at ha
    rw [List.getElem?_append_right (by rw [← h.1]; omega), ← h.1] at hb
    cases e : i - xs.length with
    | zero =>
      rw [e] at ha hb
      simp at ha hb
      subst ha hb
      exact r
    | succ n =>
      rw [e] at ha
      simp at ha
theorem All2.cons (r : R x y) (h : All2 R xs ys) : All2 R (x :: xs) (y :: ys) := by
  refine ⟨by simp [h.1], fun i a b ha hb => ?_⟩
  cases i with
  | zero =>
    simp at ha hb
    subst ha hb
    exact r
  | succ n => exact h.2 n a b (by simpa using ha) (by simpa using hb)
theorem All2.head {x : α} {y : β} (h : All2 R (x :: xs) (y :: ys)) : R x y := h.2 0 x y rfl rfl
theorem All2.tail {x : α} {y : β} (h : All2 R (x :: xs) (y :: ys)) : All2 R xs ys := ⟨by have := h.1; simp at this; exact this, fun i a b ha hb => h.2 (i + 1) a b (by simpa using ha) (by simpa using hb)⟩
theorem All2.get (h : All2 R xs ys) {i : Nat} {x : α} (e : xs[i]? = some x) : ∃ y, ys[i]? = some y ∧ R x y := by
  have hi := (List.getElem?_eq_some_iff.mp e).1
  have hj : i < ys.length := by rw [← h.1]; exact hi
  exact ⟨ys[i], List.getElem?_eq_getElem hj, h.2 i x _ e (List.getElem?_eq_getElem hj)⟩
theorem All2.getR (h : All2 R xs ys) {i : Nat} {y : β} (e : ys[i]? = some y) : ∃ x, xs[i]? = some x ∧ R x y := by
  have hi := (List.getElem?_eq_some_iff.mp e).1
  have hj : i < xs.length := by rw [h.1]; exact hi
  exact ⟨xs[i], List.getElem?_eq_getElem hj, h.2 i _ y (List.getElem?_eq_getElem hj) e⟩
theorem All2.perm {xs' : List α} (p : xs'.Perm xs) : ∀ {ys : List β}, All2 R xs ys → ∃ ys', ys'.Perm ys ∧ All2 R xs' ys' := by
  induction p with
  | nil => intro ys h; exact ⟨ys, .refl _, h⟩
  | @cons a l1 l2 p ih =>
    intro ys h
    cases ys with
    | nil => have := h.1; simp at this
    | cons y ys =>
      obtain ⟨ys', p', h'⟩ := ih h.tail
      exact ⟨y :: ys', p'.cons y, h'.cons h.head⟩
  | swap a b l =>
    intro ys h
    match ys, h with
    | [], h => have := h.1; simp at this
    | [_], h => have := h.1; simp at this
    | y :: z :: ys, h => exact ⟨z :: y :: ys, .swap _ _ _, All2.cons h.tail.head (All2.cons h.head h.tail.tail)⟩
  | trans p1 p2 ih1 ih2 =>
    intro ys h
    obtain ⟨ys1, q1, h1⟩ := ih2 h
    obtain ⟨ys2, q2, h2⟩ := ih1 h1
    exact ⟨ys2, q2.trans q1, h2⟩
end
/-! ### nets as data -/
def kindAt (gs : List Gt) (i : Nat) : Str := (gs.getD i ("", 0)).1
def cnt (ws : List Wr) (e : Nat) : Nat := ws.countP (fun x => x.2.1 == e)
/-- a wire between these gates -/
structure WOk (gs : List Gt) (x : Wr) : Prop where
  s : x.1 < gs.length
  e : x.2.1 < gs.length
  ks : kindAt gs x.1 ≠ "out"
  ke : kindAt gs x.2.1 ≠ "in"
  r : ROk x.2.2
  rl : x.2.2.length ≤ 100
structure NetOk (gs : List Gt) (ws : List Wr) : Prop where
  ne : gs ≠ []
  gl : gs.length ≤ 100
  wl : ws.length ≤ 1000
  gok : ∀ g ∈ gs, GOk g
  wok : ∀ x ∈ ws, WOk gs x
  one : ∀ e, e < gs.length → kindAt gs e = "out" → cnt ws e = 1
  some : ∀ e, e < gs.length → kindAt gs e = "first" → 1 ≤ cnt ws e
  rank : ∃ ρ : Nat → Nat, ∀ x ∈ ws, x.2.2 = [] → ρ x.1 < ρ x.2.1
/-- numbered anew: the gate k is the old gate at left's place k -/
theorem NetOk.anew {gs : List Gt} {ws : List Wr} {left : List Nat} (N : NetOk gs ws) (p : left.Perm (List.range gs.length)) {ws' : List Wr} (pw : ws'.Perm ws) :
    NetOk (left.map fun k => gs.getD k ("", 0)) (ws'.map fun x => (left.idxOf x.1, left.idxOf x.2.1, x.2.2)) := by
  have hl : left.length = gs.length := by rw [p.length_eq, List.length_range]
  have nd : left.Nodup := p.nodup_iff.mpr List.nodup_range
  have mem : ∀ i, i < gs.length → i ∈ left := fun i hi => p.mem_iff.mpr (List.mem_range.mpr hi)
  have memb : ∀ i, i ∈ left → i < gs.length := fun i hi => List.mem_range.mp (p.mem_iff.mp hi)
  have il : ∀ i, i < gs.length → left.idxOf i < left.length := fun i hi => List.idxOf_lt_length_iff.mpr (mem i hi)
  have ge : ∀ i (h : i < gs.length), left[left.idxOf i]? = Option.some i := fun i h => by
    rw [List.getElem?_eq_getElem (il i h), List.getElem_idxOf]
  have kk : ∀ i, i < gs.length → kindAt (left.map fun k => gs.getD k ("", 0)) (left.idxOf i) = kindAt gs i := fun i h => by
    unfold kindAt
    rw [List.getD_eq_getElem?_getD, List.getElem?_map, ge i h]
    rfl
  have inj : ∀ i j, i < gs.length → j < gs.length → left.idxOf i = left.idxOf j → i = j := fun i j hi hj e => by
    have h1 := ge i hi
    rw [e, ge j hj] at h1
    exact (Option.some.inj h1).symm
  have cc : ∀ e, e < gs.length → cnt (ws'.map fun x => (left.idxOf x.1, left.idxOf x.2.1, x.2.2)) (left.idxOf e) = cnt ws e := fun e he => by
    unfold cnt
    rw [List.countP_map, ← pw.countP_eq]
    refine List.countP_congr fun x hx => ?_
    have := (N.wok x (pw.mem_iff.mp hx)).e
    simp only [Function.comp, beq_iff_eq]
    exact ⟨fun z => inj _ _ this he z, fun z => by rw [z]⟩
  have back : ∀ e, e < left.length → ∃ i, i < gs.length ∧ left.idxOf i = e := fun e he => by
    refine ⟨left[e], memb _ (List.getElem_mem he), ?_⟩
    exact List.Nodup.idxOf_getElem nd e he
  obtain ⟨ρ, hρ⟩ := N.rank
  refine ⟨?_, by simpa [hl] using N.gl, by simpa [pw.length_eq] using N.wl, ?_, ?_, ?_, ?_, ?_⟩
  · intro z
    have := congrArg List.length z
    simp [hl] at this
    exact N.ne this
  · intro g hg
    obtain ⟨k, hk, rfl⟩ := List.mem_map.mp hg
    refine N.gok _ ?_
    rw [List.getD_eq_getElem?_getD, List.getElem?_eq_getElem (memb k hk)]
    exact List.getElem_mem _
  · intro y hy
    obtain ⟨x, hx, rfl⟩ := List.mem_map.mp hy
    have W := N.wok x (pw.mem_iff.mp hx)
    refine ⟨by simpa using il _ W.s, by simpa using il _ W.e, ?_, ?_, W.r, W.rl⟩
    · show kindAt _ (left.idxOf x.1) ≠ _
      rw [kk _ W.s]
      exact W.ks
    · show kindAt _ (left.idxOf x.2.1) ≠ _
      rw [kk _ W.e]
      exact W.ke
  · intro e he hk
    obtain ⟨i, hi, rfl⟩ := back e (by simpa using he)
    rw [kk i hi] at hk
    rw [cc i hi]
    exact N.one i hi hk
  · intro e he hk
    obtain ⟨i, hi, rfl⟩ := back e (by simpa using he)
    rw [kk i hi] at hk
    rw [cc i hi]
    exact N.some i hi hk
  · refine ⟨fun k => ρ (left.getD k 0), fun y hy h => ?_⟩
    obtain ⟨x, hx, rfl⟩ := List.mem_map.mp hy
    have W := N.wok x (pw.mem_iff.mp hx)
    have := hρ x (pw.mem_iff.mp hx) h
    simp only [List.getD_eq_getElem?_getD, ge _ W.s, ge _ W.e, Option.getD_some]
    exact this
theorem set_well {wl D : Addr} {H0 H : Hp} {o : HO} (d : Dr wl H0 H) (h0 : H0 D = none) (n : D ≠ wl) : Dr wl H0 (upd H D o) := by
  refine ⟨fun c u nc e => ?_, ?_⟩
  · rw [upd_ne (ne_of_none e h0)]
    exact d.but c u nc e
  · obtain ⟨xs, hx, k⟩ := d.well
    exact ⟨xs, by rw [upd_ne n.symm]; exact hx, k⟩
def tLen (K : PySem.W.Frag) (i : Nat) : TE := tCB (Evl.rLenS K) (tCons (tVar i) tNil)
/-- the wires into the gates ahead of i -/
structure WInv (gs : List Gt) (ws : List Wr) (i : Nat) : Prop where
  ok : ∀ x ∈ ws, WOk gs x ∧ (x.2.2 = [] → x.1 < x.2.1) ∧ x.2.1 < i
  one : ∀ e, e < i → kindAt gs e = "out" → cnt ws e = 1
  some : ∀ e, e < i → kindAt gs e = "first" → 1 ≤ cnt ws e
  len : ws.length ≤ 3 * i
  r2 : ∀ x ∈ ws, x.2.2.length ≤ 3
/-- .. and j wires into the gate i -/
structure WInv2 (gs : List Gt) (ws : List Wr) (i j : Nat) : Prop where
  ok : ∀ x ∈ ws, WOk gs x ∧ (x.2.2 = [] → x.1 < x.2.1) ∧ x.2.1 < i + 1
  one : ∀ e, e < i → kindAt gs e = "out" → cnt ws e = 1
  some : ∀ e, e < i → kindAt gs e = "first" → 1 ≤ cnt ws e
  here : cnt ws i = j
  len : ws.length ≤ 3 * i + j
  r2 : ∀ x ∈ ws, x.2.2.length ≤ 3
theorem WInv.go {gs : List Gt} {ws : List Wr} {i : Nat} (h : WInv gs ws i) : WInv2 gs ws i 0 := by
  refine ⟨fun x hx => ⟨(h.ok x hx).1, (h.ok x hx).2.1, by have := (h.ok x hx).2.2; omega⟩, h.one, h.some, ?_, h.len, h.r2⟩
  unfold cnt
  rw [List.countP_eq_zero]
  intro x hx z
  have := (h.ok x hx).2.2
  simp at z
  omega
theorem WInv2.app {gs : List Gt} {ws : List Wr} {i j : Nat} {x : Wr} (h : WInv2 gs ws i j) (hx : WOk gs x) (hr : x.2.2 = [] → x.1 < x.2.1) (he : x.2.1 = i) (h2 : x.2.2.length ≤ 3) : WInv2 gs (ws ++ [x]) i (j + 1) := by
  have c : ∀ e, e < i → cnt (ws ++ [x]) e = cnt ws e := fun e he' => by
    unfold cnt
    rw [List.countP_append]
    have : (x.2.1 == e) = false := by simp; omega
    simp [List.countP_cons, this]
  refine ⟨fun y hy => ?_, fun e h1 h2 => by rw [c e h1]; exact h.one e h1 h2, fun e h1 h2 => by rw [c e h1]; exact h.some e h1 h2, ?_, by have := h.len; simp; omega, fun y hy => ?_⟩
  · rcases List.mem_append.mp hy with hy | hy
    · exact h.ok y hy
    · simp at hy
      subst hy
      exact ⟨hx, hr, by omega⟩
  · have := h.here
    unfold cnt at this ⊢
    rw [List.countP_append, this]
    simp [List.countP_cons, he]
  · rcases List.mem_append.mp hy with hy | hy
    · exact h.r2 y hy
    · simp at hy
      subst hy
      exact h2
theorem WInv2.done {gs : List Gt} {ws : List Wr} {i j : Nat} (h : WInv2 gs ws i j) (h1 : kindAt gs i = "out" → j = 1) (h2 : kindAt gs i = "first" → 1 ≤ j) (hj : j ≤ 3) : WInv gs ws (i + 1) := by
  refine ⟨fun x hx => h.ok x hx, fun e he hk => ?_, fun e he hk => ?_, by have := h.len; omega, h.r2⟩
  · by_cases hi : e = i
    · subst hi
      rw [h.here]
      exact h1 hk
    · exact h.one e (by omega) hk
  · by_cases hi : e = i
    · subst hi
      rw [h.here]
      exact h2 hk
    · exact h.some e (by omega) hk
theorem WInv.net {gs : List Gt} {ws : List Wr} (h : WInv gs ws gs.length) (ne : gs ≠ []) (gl : gs.length ≤ 100) (gok : ∀ g ∈ gs, GOk g) : NetOk gs ws :=
  ⟨ne, gl, by have := h.len; omega, gok, fun x hx => (h.ok x hx).1, h.one, h.some, id, fun x hx hr => (h.ok x hx).2.1 hr⟩
/-- lists of gates, of wires, that stand tracked -/
def LG (K : PySem.W.Frag) (H : Hp) (l : Addr) (gs : List Gt) : Prop := ∃ vs, H l = some (.lst vs) ∧ All2 (GateV K H) vs gs
def LW (K : PySem.W.Frag) (H : Hp) (l : Addr) (ws : List Wr) : Prop := ∃ vs, H l = some (.lst vs) ∧ All2 (WireV K H) vs ws
theorem kindAt_get {gs : List Gt} {i : Nat} {g : Gt} (h : gs[i]? = some g) : kindAt gs i = g.1 := by
  unfold kindAt
  rw [List.getD_eq_getElem?_getD, h]
  rfl
theorem all2_eq {α β : Type} {f : β → α} : ∀ {xs : List α} {ys : List β}, All2 (fun x y => x = f y) xs ys → xs = ys.map f
  | [], [], _ => rfl
  | [], _ :: _, h => by have := h.1; simp at this
  | _ :: _, [], h => by have := h.1; simp at this
  | x :: xs, y :: ys, h => by rw [List.map_cons, ← all2_eq h.tail, ← h.head]
theorem eq_all2 {α β : Type} {f : β → α} (ys : List β) : All2 (fun x y => x = f y) (ys.map f) ys := ⟨by simp, fun i x y h1 h2 => by
  rw [List.getElem?_map, h2] at h1
  exact (Option.some.inj h1).symm⟩
theorem rgV_nat (n : Nat) : rgV 0 (n : Int) = (List.range n).map fun i => V.int (i : Nat) := by
  unfold rgV
  have : ((n : Int) - 0).toNat = n := by omega
  rw [this]
  refine List.map_congr_left fun i _ => ?_
  rw [Int.zero_add]
theorem flat_ints (l : List Nat) : (l.map fun i => V.int (i : Nat)).all flatV = true := by
  rw [List.all_eq_true]
  intro x hx
  obtain ⟨i, _, rfl⟩ := List.mem_map.mp hx
  rfl
/-- where a number stands among numbers without two alike -/
theorem idx_at {left : List Nat} {a : Nat} (h : a ∈ left) : (left.map fun i => V.int (i : Nat))[left.idxOf a]? = some (V.int (a : Nat)) := by
  rw [List.getElem?_map, List.getElem?_eq_getElem (List.idxOf_lt_length_iff.mpr h), List.getElem_idxOf]
  rfl
theorem eqV_int (a b : Int) : eqV (V.int a) (V.int b) = decide (a = b) := rfl
theorem idx_no {left : List Nat} {a m : Nat} {z : V} (nd : left.Nodup) (hm : m < left.idxOf a) (h : (left.map fun i => V.int (i : Nat))[m]? = some z) : eqV z (V.int (a : Nat)) = false := by
  rw [List.getElem?_map] at h
  cases e : left[m]? with
  | none =>
    rw [e] at h
    cases h
  | some b =>
    rw [e] at h
    cases h
    rw [eqV_int]
    refine decide_eq_false fun z => ?_
    have z : b = a := by omega
    obtain ⟨hm', eb⟩ := List.getElem?_eq_some_iff.mp e
    have := List.Nodup.idxOf_getElem nd m hm'
    rw [eb, z] at this
    omega
end Lag

set_option maxRecDepth 100000
set_option maxHeartbeats 4000000
namespace Lag
open PySem PySem.Spec PyProof.Rows L2
abbrev sWhole : Stmt := topS 11
abbrev sFromTo : Stmt := topS 12
abbrev sWorth : Stmt := topS 13
abbrev sIsGate : Stmt := topS 33
abbrev sChkGates : Stmt := topS 32
/-! ### o[i] of a list, by values -/
def rGetL (K : PySem.W.Frag) : V → V → Hp → VK → Prop := fun o i H Q => ∃ (p : Addr) (xs : List V) (j : Nat) (v : V), o = .ref p ∧ i = .int (j : Nat) ∧ SqL K H p xs ∧ xs[j]? = some v ∧ Q v H
theorem get_list {X : Cx} : PGet X (rGetL X.K) := by
  intro pins s σ H o i ov iv Q I ro ri h
  obtain ⟨p, xs, j, v, rfl, rfl, hq, he, q⟩ := h
  cases ro
  obtain ⟨t, rfl⟩ := ri
  obtain ⟨its, r, pl, hz⟩ := I.list hq
  obtain ⟨w, ew, rw'⟩ := r.get he
  have hl := r.length
  have hn := line63
  have hj : j < its.length := (List.getElem?_eq_some_iff.mp ew).1
  exact wpAny_getItem_list pl.isList (by omega) (by omega) (by simpa using ew) ⟨v, H, I, rw', q⟩
/-! ### names of built-ins, constants of the text -/
structure Bt (mg : Str → Option Value) : Prop where
  isi : mg "isinstance" = none
  int : mg "int" = none
  bool : mg "bool" = none
  len : mg "len" = none
  tuple : mg "tuple" = none
  str : mg "str" = none
  list : mg "list" = none
  all : mg "all" = none
  enum : mg "enumerate" = none
  zip : mg "zip" = none
  range : mg "range" = none
  max : mg "max" = none
structure Cns (K : PySem.W.Frag) (mg : Str → Option Value) (aK aW aF : Addr) : Prop where
  gw : ∃ t, mg "GREATEST_WORTH" = some (.int 96 t)
  ga : ∃ t, mg "GREATEST_WAIT" = some (.int 100 t)
  mK : mg "KINDS" = some (.ref aK)
  sK : ∀ H, SqT K H aK (kinds.map V.str)
  mW : mg "OUTER_KINDS" = some (.ref aW)
  sW : ∀ H, SqT K H aW [.str "in", .str "out"]
  mF : mg "KINDS_WITH_A_WIRE" = some (.ref aF)
  sF : ∀ H, SqT K H aF [.str "out", .str "first"]
theorem ty_tup {K : PySem.W.Frag} {H : Hp} {a : Addr} {xs : List V} (h : SqT K H a xs) : TyX K H (.ref a) (.type "tuple") := by
  rcases h with (h | ⟨o, h⟩) | ⟨o, its, n, hk, hc, _⟩
  · exact .base (.tup h)
  · exact .fTuple h
  · exact .kTuple hk hc
theorem ty_lst {K : PySem.W.Frag} {H : Hp} {a : Addr} {xs : List V} (h : SqL K H a xs) : TyX K H (.ref a) (.type "list") := by
  rcases h with (h | ⟨o, h⟩) | ⟨o, its, n, hk, hc, _⟩
  · exact .base (.lst h)
  · exact .base (.frz h)
  · exact .kList hk hc
/-! ### promises -/
def spWhole : Sp := fun vs H Q _ => ∃ n : Int, vs = [.int n] ∧ Q (.bl true) H
def spFromTo : Sp := fun vs H Q _ => ∃ n a b : Int, vs = [.int n, .int a, .int b] ∧ Q (.bl (decide (a ≤ n) && decide (n ≤ b))) H
def spWorth : Sp := fun vs H Q _ => ∃ n : Int, vs = [.int n] ∧ Q (.bl (decide (0 ≤ n) && decide (n ≤ 96))) H
def spIsGate (K : PySem.W.Frag) : Sp := fun vs H Q _ => ∃ (v : V) (g : Gt), vs = [v] ∧ GateV K H v g ∧ GOk g ∧ ∀ H', Same H H' → Q (.bl true) H'
/-- lists that are read -/
def RG (K : PySem.W.Frag) (H : Hp) (l : Addr) (gs : List Gt) : Prop := ∃ vs, SqL K H l vs ∧ All2 (GateV K H) vs gs
def RW (K : PySem.W.Frag) (H : Hp) (l : Addr) (ws : List Wr) : Prop := ∃ vs, SqL K H l vs ∧ All2 (WireV K H) vs ws
theorem RG.same {K : PySem.W.Frag} {H H' : Hp} {l : Addr} {gs : List Gt} (h : RG K H l gs) (s : Same H H') : RG K H' l gs := by
  obtain ⟨vs, q, a⟩ := h
  exact ⟨vs, s.seq q, a.imp fun _ _ r => r.tk (TK.same s)⟩
theorem RW.same {K : PySem.W.Frag} {H H' : Hp} {l : Addr} {ws : List Wr} (h : RW K H l ws) (s : Same H H') : RW K H' l ws := by
  obtain ⟨vs, q, a⟩ := h
  exact ⟨vs, s.seq q, a.imp fun _ _ r => r.tk (TK.same s)⟩
def spChkGates (K : PySem.W.Frag) : Sp := fun vs H Q _ => ∃ (l : Addr) (gs : List Gt), vs = [.ref l] ∧ RG K H l gs ∧ gs ≠ [] ∧ (∀ g ∈ gs, GOk g) ∧ ∀ H', Same H H' → Q .non H'
section
variable {P : Program} {w : World} {K : PySem.W.Frag} {mg : Str → Option Value} {base : Heap}
/-! ### is_whole, is_whole_from_to, is_worth -/
theorem scWhole : FnScope ["thing"] ["thing"] (defScope sWhole) := ⟨rfl, rfl, rfl, by decide +kernel, rfl, by decide +kernel, by decide +kernel⟩
abbrev DWhole (P : Program) (w : World) (K : PySem.W.Frag) (mg : Str → Option Value) (base : Heap) := Df P w K mg base 1 "is_whole" ["thing"] spWhole
theorem ok_whole {f : Addr} {fd : FuncData} (F : Fun K "is_whole" "is_whole" sWhole f fd) (hm : mg "is_whole" = some (.ref f)) (B : Bt mg) : DWhole P w K mg base f fd := by
  refine ⟨?_, hm, F.kp, F.binds fun _ _ _ _ _ _ us hl => match us, hl with | [_], _ => rfl⟩
  refine F.ok scWhole (fun vs H Q E h => ?_) (fun cdv A outer s H vs Q E hr h => ?_)
  · obtain ⟨n, rfl, _⟩ := h
    rfl
  · obtain ⟨n, rfl, q⟩ := h
    refine ⟨_, pss_one <| ps_ret <| pe_and (pe_callB call_isi (by rfl) B.isi (by decide +kernel) (pa_cons (pv 0) (pa_cons (pe_bltn (v := .ty "int") (by rfl) B.int (by decide +kernel) rfl) pa_nil)))
      (pe_one (pe_not (pe_callB call_isi (by rfl) B.isi (by decide +kernel) (pa_cons (pv 0) (pa_cons (pe_bltn (v := .ty "bool") (by rfl) B.bool (by decide +kernel) rfl) pa_nil))))), ?_⟩
    refine ⟨_, rfl, _, _, _, _, true, rfl, .ty "int", .base (.int n), kit_ty (by decide +kernel), true, rfl, iteT ?_⟩
    exact ⟨_, rfl, _, _, _, _, false, rfl, .ty "bool", .base (.int n), kit_ty (by decide +kernel), false, rfl, q⟩
theorem scFromTo : FnScope ["thing", "least", "greatest"] ["thing", "least", "greatest"] (defScope sFromTo) := ⟨rfl, rfl, rfl, by decide +kernel, rfl, by decide +kernel, by decide +kernel⟩
abbrev DFromTo (P : Program) (w : World) (K : PySem.W.Frag) (mg : Str → Option Value) (base : Heap) := Df P w K mg base 2 "is_whole_from_to" ["thing", "least", "greatest"] spFromTo
theorem ok_fromTo {f fW : Addr} {fd fdW : FuncData} (F : Fun K "is_whole_from_to" "is_whole_from_to" sFromTo f fd) (hm : mg "is_whole_from_to" = some (.ref f)) (DW : DWhole P w K mg base fW fdW) : DFromTo P w K mg base f fd := by
  refine ⟨?_, hm, F.kp, F.binds fun _ _ _ _ _ _ us hl => match us, hl with | [_, _, _], _ => rfl⟩
  refine F.ok scFromTo (fun vs H Q E h => ?_) (fun cdv A outer s H vs Q E hr h => ?_)
  · obtain ⟨n, a, b, rfl, _⟩ := h
    rfl
  · obtain ⟨n, a, b, rfl, q⟩ := h
    refine ⟨_, pss_one <| ps_ret <| pe_and (pe_call DW.ok hr (by rfl) DW.mg DW.kp DW.bd .nil pass0 (pa_cons (pv 0) pa_nil)) (pe_one (pe_chain op_le op_le (pv 1) (pv 0) (pv 2))), ?_⟩
    refine ⟨_, rfl, n, rfl, true, rfl, iteT ?_⟩
    refine ⟨_, rfl, _, rfl, _, _, rfl, rfl, _, rfl, ?_⟩
    cases e : decide (a ≤ n) with
    | false =>
      rw [e] at q
      exact iteF q
    | true =>
      rw [e] at q
      exact iteT ⟨_, rfl, _, _, rfl, rfl, q⟩
theorem scWorth : FnScope ["thing"] ["thing"] (defScope sWorth) := ⟨rfl, rfl, rfl, by decide +kernel, rfl, by decide +kernel, by decide +kernel⟩
abbrev DWorth (P : Program) (w : World) (K : PySem.W.Frag) (mg : Str → Option Value) (base : Heap) := Df P w K mg base 3 "is_worth" ["thing"] spWorth
theorem ok_worth {f fF aK aW aF : Addr} {fd fdF : FuncData} (F : Fun K "is_worth" "is_worth" sWorth f fd) (hm : mg "is_worth" = some (.ref f)) (C : Cns K mg aK aW aF) (DF : DFromTo P w K mg base fF fdF) : DWorth P w K mg base f fd := by
  obtain ⟨tg, hgw⟩ := C.gw
  refine ⟨?_, hm, F.kp, F.binds fun _ _ _ _ _ _ us hl => match us, hl with | [_], _ => rfl⟩
  refine F.ok scWorth (fun vs H Q E h => ?_) (fun cdv A outer s H vs Q E hr h => ?_)
  · obtain ⟨n, rfl, _⟩ := h
    rfl
  · obtain ⟨n, rfl, q⟩ := h
    refine ⟨_, pss_one <| ps_ret <| pe_call DF.ok hr (by rfl) DF.mg DF.kp DF.bd .nil pass0 <| pa_cons (pv 0) <| pa_cons pe_int <| pa_cons (pe_glob (v := .int 96) (by rfl) hgw ⟨_, rfl⟩) pa_nil, ?_⟩
    exact ⟨_, rfl, n, 0, 96, rfl, q⟩
/-! ### is_gate -/
theorem scIsGate : FnScope ["thing", "kind", "wait"] ["thing"] (defScope sIsGate) := ⟨rfl, rfl, rfl, by decide +kernel, rfl, by decide +kernel, by decide +kernel⟩
abbrev DIsGate (P : Program) (w : World) (K : PySem.W.Frag) (mg : Str → Option Value) (base : Heap) := Df P w K mg base 3 "is_gate" ["thing"] (spIsGate K)
theorem kinds_in {k : Str} (h : k ∈ kinds) : inV (.str k) (kinds.map V.str) = true := by
  unfold inV
  rw [List.any_eq_true]
  exact ⟨.str k, List.mem_map.mpr ⟨k, h, rfl⟩, beq_self_eq_true k⟩
theorem flat_strs (l : List Str) : (l.map V.str).all flatV = true := by
  rw [List.all_eq_true]
  intro x hx
  obtain ⟨i, _, rfl⟩ := List.mem_map.mp hx
  rfl
theorem ok_isGate {f fF aK aW aF : Addr} {fd fdF : FuncData} (F : Fun K "is_gate" "is_gate" sIsGate f fd) (hm : mg "is_gate" = some (.ref f)) (B : Bt mg) (C : Cns K mg aK aW aF) (DF : DFromTo P w K mg base fF fdF) : DIsGate P w K mg base f fd := by
  obtain ⟨tg, hga⟩ := C.ga
  refine ⟨?_, hm, F.kp, F.binds fun _ _ _ _ _ _ us hl => match us, hl with | [_], _ => rfl⟩
  refine F.ok scIsGate (fun vs H Q E h => ?_) (fun cdv A outer s H vs Q E hr h => ?_)
  · obtain ⟨v, g, rfl, _⟩ := h
    rfl
  · obtain ⟨v, g, rfl, ⟨a, rfl, sq⟩, gok, q⟩ := h
    have nd := scIsGate.nd
    refine ⟨_, pss_cons (ps_if (PW.pt (pw_or (pt_not (pt_val (pe_callB call_isi (by rfl) B.isi (by decide +kernel) (pa_cons (pv 0) (pa_cons (pe_bltn (v := .ty "tuple") (by rfl) B.tuple (by decide +kernel) rfl) pa_nil)))))
          (pw_or1 (pt_cmpR op_ne (pe_callB call_len_seq (by rfl) B.len PySem.boot_len (pa_cons (pv 0) pa_nil)) pe_int (nomark _))))) (pss_one (ps_ret pe_bl)) pss_nil) <|
      pss_cons (ps_asg (pv 0) (pg_tup (by rfl) (pgs_cons (pg_name (i := 1) nd rfl (.inl rfl)) (pgs_cons (pg_name (i := 2) nd rfl (.inl rfl)) pgs_nil)))) <|
      pss_cons (ps_if (PW.pt (pw_or (pt_not (pt_val (pe_callB call_isi (by rfl) B.isi (by decide +kernel) (pa_cons (pv 1) (pa_cons (pe_bltn (v := .ty "str") (by rfl) B.str (by decide +kernel) rfl) pa_nil)))))
          (pw_or1 (pt_cmpR op_notIn_seq (pv 1) (pe_glob (v := .ref aK) (by rfl) C.mK rfl) (by rfl))))) (pss_one (ps_ret pe_bl)) pss_nil) <|
      pss_one <| ps_ret <| pe_call DF.ok hr (by rfl) DF.mg DF.kp DF.bd .nil pass0 <| pa_cons (pv 2) <| pa_cons pe_int <| (pa_cons · pa_nil) <|
        pe_ifExp (pt_cmpR op_in_seq (pv 1) (pe_glob (v := .ref aW) (by rfl) C.mW rfl) (by rfl)) pe_int (pe_glob (v := .int 100) (by rfl) hga ⟨_, rfl⟩), ?_⟩
    refine ⟨_, rfl, _, _, _, _, true, rfl, .ty "tuple", ty_tup sq, kit_ty (by decide +kernel), true, rfl, ?_⟩
    refine iteF ⟨_, rfl, a, _, rfl, .inr sq, rfl, _, rfl, iteF ?_⟩
    refine ⟨_, rfl, a, _, rfl, sq, rfl, _, _, rfl, _, _, rfl, rfl, ?_⟩
    refine ⟨_, rfl, _, _, _, _, true, rfl, .ty "str", .base (.str g.1), kit_ty (by decide +kernel), true, rfl, ?_⟩
    refine iteF ⟨_, rfl, aK, _, rfl, .inr (C.sK H), rfl, flat_strs _, false, ?_, iteF ?_⟩
    · show V.bl (!inV (V.str g.1) (kinds.map V.str)) = V.bl false
      rw [kinds_in gok.1]
      rfl
    refine ⟨_, rfl, _, rfl, aW, _, rfl, .inr (C.sW H), rfl, rfl, _, rfl, ite2 (fun e => ?_) (fun e => ?_)⟩
    · have hp : portK g.1 := by
        have e' : inV (V.str g.1) [V.str "in", V.str "out"] = true := e
        unfold inV at e'
        rw [List.any_eq_true] at e'
        obtain ⟨x, hx, hxe⟩ := e'
        simp only [List.mem_cons, List.not_mem_nil, or_false] at hx
        rcases hx with rfl | rfl
        · exact .inl (eq_of_beq hxe).symm
        · exact .inr (eq_of_beq hxe).symm
      have h0 := gok.2.2.2 hp
      refine ⟨g.2, 0, 0, rfl, ?_⟩
      rw [h0]
      exact q H (Same.refl H)
    · refine ⟨g.2, 0, 100, rfl, ?_⟩
      rw [decide_eq_true gok.2.1, decide_eq_true gok.2.2.1]
      exact q H (Same.refl H)
end
end Lag

set_option maxRecDepth 100000
set_option maxHeartbeats 4000000
namespace Lag
open PySem PySem.Spec PyProof.Rows L2
abbrev sIsWire : Stmt := topS 35
abbrev sTaken : Stmt := topS 36
def spIsWire (K : PySem.W.Frag) : Sp := fun vs H Q _ => ∃ (v : V) (x : Wr) (n : Nat), vs = [v, .int (n : Nat)] ∧ WireV K H v x ∧ x.1 < n ∧ x.2.1 < n ∧ ROk x.2.2 ∧ x.2.2.length ≤ 1000 ∧ ∀ H', Same H H' → Q (.bl true) H'
def spTaken (K : PySem.W.Frag) : Sp := fun vs H Q _ => ∃ (v : V) (x : Wr) (lg lc : Addr) (gs : List Gt) (cs : List Nat), vs = [v, .ref lg, .ref lc] ∧ WireV K H v x ∧ RG K H lg gs ∧ SqL K H lc (cs.map fun i => V.int (i : Nat)) ∧ WOk gs x ∧ cs.length = gs.length ∧
  (kindAt gs x.2.1 = "out" → cs[x.2.1]? = some 0) ∧ Q (.bl true) H
section
variable {P : Program} {w : World} {K : PySem.W.Frag} {mg : Str → Option Value} {base : Heap}
/-! ### check_gates -/
theorem scChkGates : FnScope ["gates", "thing"] ["gates"] (defScope sChkGates) := ⟨rfl, rfl, rfl, by decide +kernel, rfl, by decide +kernel, by decide +kernel⟩
abbrev DChkGates (P : Program) (w : World) (K : PySem.W.Frag) (mg : Str → Option Value) (base : Heap) := Df P w K mg base 4 "check_gates" ["gates"] (spChkGates K)
theorem ok_chkGates {f fG : Addr} {fd fdG : FuncData} (F : Fun K "check_gates" "check_gates" sChkGates f fd) (hm : mg "check_gates" = some (.ref f)) (B : Bt mg) (DG : DIsGate P w K mg base fG fdG) : DChkGates P w K mg base f fd := by
  refine ⟨?_, hm, F.kp, F.binds fun _ _ _ _ _ _ us hl => match us, hl with | [_], _ => rfl⟩
  refine F.ok scChkGates (fun vs H Q E h => ?_) (fun cdv A outer s H vs Q E hr h => ?_)
  · obtain ⟨l, gs, rfl, _⟩ := h
    rfl
  · obtain ⟨l, gs, rfl, R, hne, gok, q⟩ := h
    have nd := scChkGates.nd
    refine ⟨_, pss_cons (ps_if (PW.pt (pw_or (pt_not (pt_val (pe_callB call_isi (by rfl) B.isi (by decide +kernel) (pa_cons (pv 0) (pa_cons (pe_bltn (v := .ty "list") (by rfl) B.list (by decide +kernel) rfl) pa_nil)))))
          (pw_or1 (pt_cmpR op_eq (pe_callB call_len_seq (by rfl) B.len PySem.boot_len (pa_cons (pv 0) pa_nil)) pe_int (nomark _))))) (pss_one ps_never) pss_nil) <|
      pss_one <| ps_for PassesOwn.never rfl (pi_list (pv 0)) (pg_name (i := 1) nd rfl (.inl rfl)) <|
        pss_one <| ps_if (pt_not (pt_val (pe_call DG.ok hr (by rfl) DG.mg DG.kp DG.bd .nil pass0 (pa_cons (pv 1) pa_nil)))) (pss_one ps_never) pss_nil, ?_⟩
    obtain ⟨gv, sg, ga⟩ := R
    have hl : gv.length = gs.length := ga.1
    have hpos : 0 < gs.length := by
      cases gs with
      | nil => exact absurd rfl hne
      | cons _ _ => simp
    refine ⟨_, rfl, _, _, _, _, true, rfl, .ty "list", ty_lst sg, kit_ty (by decide +kernel), true, rfl, ?_⟩
    refine iteF ⟨_, rfl, l, gv, rfl, .inl sg, rfl, false, ?_, iteF ?_⟩
    · show V.bl (decide (V.int (gv.length : Int) = V.int 0)) = V.bl false
      rw [decide_eq_false]
      intro z
      have := V.int.inj z
      omega
    refine ⟨_, rfl, l, rfl, ⟨_, sg⟩, for_list (K := K) (a := l) (xs := gv) (fun i σ H2 => ∃ y, σ = [some (.ref l), y] ∧ Same H H2) ⟨_, rfl, Same.refl H⟩ (fun i σ H2 _ ⟨_, _, sm⟩ => sm.seq sg) ?_ ?_⟩
    · rintro i x σ H2 hx ⟨y, rfl, sm⟩
      obtain ⟨g, hg, gv⟩ := ga.get hx
      refine ⟨_, rfl, x, g, rfl, gv.tk (TK.same sm), gok g (List.mem_of_getElem? hg), fun H3 sm3 => ⟨true, rfl, iteF ⟨_, rfl, sm.trans sm3⟩⟩⟩
    · rintro σ H2 ⟨y, rfl, sm⟩
      exact q H2 sm
/-! ### is_wire -/
abbrev nIsWire : List Str := ["thing", "many_gates", "start", "end", "held", "worth"]
theorem scIsWire : FnScope nIsWire ["thing", "many_gates"] (defScope sIsWire) := ⟨rfl, rfl, rfl, by decide +kernel, rfl, by decide +kernel, by decide +kernel⟩
abbrev DIsWire (P : Program) (w : World) (K : PySem.W.Frag) (mg : Str → Option Value) (base : Heap) := Df P w K mg base 4 "is_wire" ["thing", "many_gates"] (spIsWire K)
theorem ok_isWire {f fF fW : Addr} {fd fdF fdW : FuncData} (F : Fun K "is_wire" "is_wire" sIsWire f fd) (hm : mg "is_wire" = some (.ref f)) (B : Bt mg) (DF : DFromTo P w K mg base fF fdF) (DW : DWorth P w K mg base fW fdW) : DIsWire P w K mg base f fd := by
  refine ⟨?_, hm, F.kp, F.binds fun _ _ _ _ _ _ us hl => match us, hl with | [_, _], _ => rfl⟩
  refine F.ok scIsWire (fun vs H Q E h => ?_) (fun cdv A outer s H vs Q E hr h => ?_)
  · obtain ⟨v, x, n, rfl, _⟩ := h
    rfl
  · obtain ⟨v, x, n, rfl, ⟨a, b, rfl, sq1, sq2⟩, hs, he, rok, rl, q⟩ := h
    have nd := scIsWire.nd
    have hr2 : Room 2 _ := hr.mono (by decide)
    refine ⟨_, pss_cons (ps_if (PW.pt (pw_or (pt_not (pt_val (pe_callB call_isi (by rfl) B.isi (by decide +kernel) (pa_cons (pv 0) (pa_cons (pe_bltn (v := .ty "tuple") (by rfl) B.tuple (by decide +kernel) rfl) pa_nil)))))
          (pw_or1 (pt_cmpR op_ne (pe_callB call_len_seq (by rfl) B.len PySem.boot_len (pa_cons (pv 0) pa_nil)) pe_int (nomark _))))) (pss_one (ps_ret pe_bl)) pss_nil) <|
      pss_cons (ps_asg (pv 0) (pg_tup (by rfl) (pgs_cons (pg_name (i := 2) nd rfl (.inl rfl)) (pgs_cons (pg_name (i := 3) nd rfl (.inl rfl)) (pgs_cons (pg_name (i := 4) nd rfl (.inl rfl)) pgs_nil))))) <|
      pss_cons (ps_if (PW.pt (pw_or (pt_not (pt_val (pe_call DF.ok hr2 (by rfl) DF.mg DF.kp DF.bd .nil pass0 (pa_cons (pv 2) (pa_cons pe_int (pa_cons (pe_op op_sub (pv 1) pe_int) pa_nil))))))
          (pw_or1 (pt_not (pt_val (pe_call DF.ok hr2 (by rfl) DF.mg DF.kp DF.bd .nil pass0 (pa_cons (pv 3) (pa_cons pe_int (pa_cons (pe_op op_sub (pv 1) pe_int) pa_nil))))))))) (pss_one (ps_ret pe_bl)) pss_nil) <|
      pss_one <| ps_ret <| pe_and (pe_callB call_isi (by rfl) B.isi (by decide +kernel) (pa_cons (pv 4) (pa_cons (pe_bltn (v := .ty "tuple") (by rfl) B.tuple (by decide +kernel) rfl) pa_nil))) <| pe_one <|
        pe_callB (cr_all rfl) (by rfl) B.all (by decide +kernel) <| (pa_cons · pa_nil) <| pe_lc (own := [("worth", 5)]) (g := gName 5) (tt := tYes) (te := tCall spWorth [] E0 (tCons (tVar 5) tNil)) rfl nd (pi_tup (pv 4)) (blkOk_by (N := nIsWire) (sc := defScope sIsWire) (own := [("worth", 5)]) (by decide +kernel))
          (fun _ _ _ _ _ => pg_name (i := 5) nd rfl (.inl rfl)) (fun _ _ _ _ _ => pts_nil) (fun _ _ _ _ _ => pe_call DW.ok hr (by rfl) DW.mg DW.kp DW.bd .nil pass0 (pa_cons (pv 5) pa_nil)), ?_⟩
    refine ⟨_, rfl, _, _, _, _, true, rfl, .ty "tuple", ty_tup sq1, kit_ty (by decide +kernel), true, rfl, ?_⟩
    refine iteF ⟨_, rfl, a, _, rfl, .inr sq1, rfl, _, rfl, iteF ?_⟩
    refine ⟨_, rfl, a, _, rfl, sq1, rfl, _, _, rfl, _, _, rfl, _, _, rfl, rfl, ?_⟩
    refine ⟨_, rfl, _, rfl, _, _, rfl, rfl, _, _, _, rfl, true, ?_, iteF ?_⟩
    · rw [decide_eq_true (by omega), decide_eq_true (by omega)]
      rfl
    refine ⟨_, rfl, _, rfl, _, _, rfl, rfl, _, _, _, rfl, true, ?_, iteF ?_⟩
    · rw [decide_eq_true (by omega), decide_eq_true (by omega)]
      rfl
    refine ⟨_, rfl, _, _, _, _, true, rfl, .ty "tuple", ty_tup sq2, kit_ty (by decide +kernel), true, rfl, iteT ?_⟩
    refine ⟨_, rfl, b, rfl, ⟨_, sq2⟩, fun D hD => ?_⟩
    refine lc_tup (K := K) (a := b) (xs := x.2.2.map V.int) (fun i Hc => Hc D = some (.lst ((List.replicate i true).map V.bl)) ∧ Same H Hc) ⟨upd_same, same_new hD⟩ (fun i Hc _ ⟨_, sm⟩ => (TK.same sm).seq sq2) ?_ ?_
    · rintro i y Hc hy ⟨hc, sm⟩
      rw [List.getElem?_map] at hy
      cases ey : x.2.2[i]? with
      | none =>
        rw [ey] at hy
        cases hy
      | some z =>
      rw [ey] at hy
      cases hy
      have hz := rok z (List.mem_of_getElem? ey)
      have hi : i < x.2.2.length := (List.getElem?_eq_some_iff.mp ey).1
      refine ⟨rfl, tyes ?_⟩
      refine ⟨_, rfl, z, rfl, _, hc, by rw [List.length_map, List.length_replicate]; exact small1000 (by omega), ?_, same_mut sm hD⟩
      rw [upd_same, decide_eq_true hz.1, decide_eq_true hz.2, List.replicate_succ', List.map_append]
      rfl
    · rintro Hc ⟨hc, sm⟩
      refine ⟨D, _, rfl, SqL.of hc, ?_⟩
      have e : (List.replicate (x.2.2.map V.int).length true).all id = true := by
        rw [List.all_eq_true]
        intro y hy
        rw [List.mem_replicate] at hy
        rw [hy.2]
        rfl
      rw [e]
      exact q Hc sm
/-! ### is_taken -/
theorem scTaken : FnScope ["wire", "gates", "come", "start", "end"] ["wire", "gates", "come"] (defScope sTaken) := ⟨rfl, rfl, rfl, by decide +kernel, rfl, by decide +kernel, by decide +kernel⟩
abbrev DTaken (P : Program) (w : World) (K : PySem.W.Frag) (mg : Str → Option Value) (base : Heap) := Df P w K mg base 1 "is_taken" ["wire", "gates", "come"] (spTaken K)
theorem ok_taken {f : Addr} {fd : FuncData} (F : Fun K "is_taken" "is_taken" sTaken f fd) (hm : mg "is_taken" = some (.ref f)) : DTaken P w K mg base f fd := by
  refine ⟨?_, hm, F.kp, F.binds fun _ _ _ _ _ _ us hl => match us, hl with | [_, _, _], _ => rfl⟩
  refine F.ok scTaken (fun vs H Q E h => ?_) (fun cdv A outer s H vs Q E hr h => ?_)
  · obtain ⟨v, x, lg, lc, gs, cs, rfl, _⟩ := h
    rfl
  · obtain ⟨v, x, lg, lc, gs, cs, rfl, ⟨a, b, rfl, sq1, sq2⟩, ⟨gv, sg, ga⟩, sc, W, hcl, h0, q⟩ := h
    have nd := scTaken.nd
    refine ⟨_, pss_cons (ps_par (i := 3) (j := 4) (by rfl) nd rfl rfl (by decide) rfl rfl (pa_cons (pe_ix ix_tup (pv 0) pe_int (fun _ _ => rfl)) (pa_cons (pe_ix ix_tup (pv 0) pe_int (fun _ _ => rfl)) pa_nil)) (by rfl)) <|
      pss_cons (ps_if (PW.pt (pw_or (pt_cmpR op_eq (pe_ix ix_tup (pe_ix ix_list (pv 1) (pv 3) (fun _ _ => rfl)) pe_int (fun _ _ => rfl)) pe_str (nomark _)) (pw_or1 (pt_cmpR op_eq (pe_ix ix_tup (pe_ix ix_list (pv 1) (pv 4) (fun _ _ => rfl)) pe_int (fun _ _ => rfl)) pe_str (nomark _))))) (pss_one (ps_ret pe_bl)) pss_nil) <|
      pss_one <| ps_ret <| pe_or (pe_cmpR op_ne (pe_ix ix_tup (pe_ix ix_list (pv 1) (pv 4) (fun _ _ => rfl)) pe_int (fun _ _ => rfl)) pe_str (nomark _)) (pe_one (pe_cmpR op_eq (pe_ix ix_list (pv 2) (pv 4) (fun _ _ => rfl)) pe_int (nomark _))), ?_⟩
    have hl : gv.length = gs.length := ga.1
    obtain ⟨vs1, g1, e1, f1, a1, rfl, s1⟩ : ∃ vs1 g1, gv[x.1]? = some vs1 ∧ gs[x.1]? = some g1 ∧ GateV K H vs1 g1 := by
      have e1 : gs[x.1]? = some (gs[x.1]'W.s) := List.getElem?_eq_getElem W.s
      obtain ⟨y, hy, r⟩ := ga.getR e1
      exact ⟨y, _, hy, e1, r⟩
    obtain ⟨vs2, g2, e2, f2, a2, rfl, s2⟩ : ∃ vs2 g2, gv[x.2.1]? = some vs2 ∧ gs[x.2.1]? = some g2 ∧ GateV K H vs2 g2 := by
      have e1 : gs[x.2.1]? = some (gs[x.2.1]'W.e) := List.getElem?_eq_getElem W.e
      obtain ⟨y, hy, r⟩ := ga.getR e1
      exact ⟨y, _, hy, e1, r⟩
    have k1 := kindAt_get f1
    have k2 := kindAt_get f2
    refine ⟨_, rfl, a, _, 0, _, rfl, rfl, sq1, atI_nat (j := 0) rfl, _, rfl, a, _, 1, _, rfl, rfl, sq1, atI_nat (j := 1) rfl, _, _, rfl, ?_⟩
    refine ⟨_, rfl, _, rfl, lg, gv, _, _, rfl, rfl, sg, atI_nat e1, a1, _, 0, _, rfl, rfl, s1, atI_nat (j := 0) rfl, rfl, false, ?_, iteF ?_⟩
    · show V.bl (decide (V.str g1.1 = V.str "out")) = V.bl false
      rw [decide_eq_false]
      intro z
      exact W.ks (by rw [k1]; exact V.str.inj z)
    refine ⟨_, rfl, _, rfl, lg, gv, _, _, rfl, rfl, sg, atI_nat e2, a2, _, 0, _, rfl, rfl, s2, atI_nat (j := 0) rfl, rfl, false, ?_, iteF ?_⟩
    · show V.bl (decide (V.str g2.1 = V.str "in")) = V.bl false
      rw [decide_eq_false]
      intro z
      exact W.ke (by rw [k2]; exact V.str.inj z)
    refine ⟨_, rfl, _, rfl, lg, gv, _, _, rfl, rfl, sg, atI_nat e2, a2, _, 0, _, rfl, rfl, s2, atI_nat (j := 0) rfl, rfl, _, rfl, ite2 (fun e => ?_) (fun e => ?_)⟩
    · exact q
    · have hk : kindAt gs x.2.1 = "out" := by
        rw [k2]
        refine Classical.byContradiction fun z => e ?_
        show (!decide (V.str g2.1 = V.str "out")) = true
        rw [decide_eq_false (fun y => z (V.str.inj y))]
        rfl
      have hc := h0 hk
      refine ⟨_, rfl, _, rfl, lc, _, _, .int 0, rfl, rfl, sc, atI_nat (by rw [List.getElem?_map, hc]; rfl), rfl, q⟩
end
end Lag

set_option maxRecDepth 100000
set_option maxHeartbeats 4000000
namespace Lag
open PySem PySem.Spec PyProof.Rows L2
abbrev sChkWires : Stmt := topS 34
def cntL (n : Nat) (ws : List Wr) : List Nat := (List.range n).map (cnt ws)
theorem cntL_len (n : Nat) (ws : List Wr) : (cntL n ws).length = n := by simp [cntL]
theorem cntL_get {n e : Nat} {ws : List Wr} (h : e < n) : (cntL n ws)[e]? = some (cnt ws e) := by
  unfold cntL
  rw [List.getElem?_map, List.getElem?_range h]
  rfl
theorem cntL_nil (n : Nat) : cntL n [] = List.replicate n 0 := by
  refine List.ext_getElem? fun i => ?_
  by_cases h : i < n
  · rw [cntL_get h, List.getElem?_replicate, if_pos h]
    rfl
  · rw [List.getElem?_eq_none (by rw [cntL_len]; omega), List.getElem?_eq_none (by simp; omega)]
theorem cnt_app (ws : List Wr) (x : Wr) (e : Nat) : cnt (ws ++ [x]) e = cnt ws e + if x.2.1 = e then 1 else 0 := by
  unfold cnt
  rw [List.countP_append, List.countP_cons, List.countP_nil]
  by_cases h : x.2.1 = e <;> simp [h]
theorem cntL_app {n : Nat} {ws : List Wr} {x : Wr} (h : x.2.1 < n) : (cntL n ws).set x.2.1 (cnt ws x.2.1 + 1) = cntL n (ws ++ [x]) := by
  refine List.ext_getElem? fun i => ?_
  by_cases hi : i < n
  · rw [cntL_get hi, cnt_app, List.getElem?_set]
    by_cases e : x.2.1 = i
    · rw [if_pos e, if_pos e, if_pos (by rw [cntL_len]; exact h), e]
    · rw [if_neg e, if_neg e, cntL_get hi]
      rfl
  · rw [List.getElem?_eq_none (by rw [List.length_set, cntL_len]; omega), List.getElem?_eq_none (by rw [cntL_len]; omega)]
theorem cnt_take_lt {ws : List Wr} {i : Nat} {x : Wr} (h : ws[i]? = some x) : cnt (ws.take i) x.2.1 + 1 ≤ cnt ws x.2.1 := by
  have e : ws.take (i + 1) = ws.take i ++ [x] := by rw [List.take_add_one, h]; rfl
  have h1 : cnt (ws.take (i + 1)) x.2.1 ≤ cnt ws x.2.1 := by
    unfold cnt
    exact List.Sublist.countP_le (List.take_sublist _ _)
  rw [e, cnt_app, if_pos rfl] at h1
  exact h1
def spChkWires (K : PySem.W.Frag) : Sp := fun vs H Q _ => ∃ (lg lw : Addr) (gs : List Gt) (ws : List Wr), vs = [.ref lg, .ref lw] ∧ RG K H lg gs ∧ RW K H lw ws ∧ NetOk gs ws ∧ ∀ H', Same H H' → Q .non H'
theorem map_set' {α β : Type} (f : α → β) (l : List α) (i : Nat) (a : α) : (l.map f).set i (f a) = (l.set i a).map f := by simp [List.map_set]
section
variable {P : Program} {w : World} {K : PySem.W.Frag} {mg : Str → Option Value} {base : Heap}
theorem scChkWires : FnScope ["gates", "wires", "come", "place", "thing", "gate", "many"] ["gates", "wires"] (defScope sChkWires) := ⟨rfl, rfl, rfl, by decide +kernel, rfl, by decide +kernel, by decide +kernel⟩
abbrev DChkWires (P : Program) (w : World) (K : PySem.W.Frag) (mg : Str → Option Value) (base : Heap) := Df P w K mg base 5 "check_wires" ["gates", "wires"] (spChkWires K)
theorem ok_chkWires {f fW fT aK aW aF : Addr} {fd fdW fdT : FuncData} (F : Fun K "check_wires" "check_wires" sChkWires f fd) (hm : mg "check_wires" = some (.ref f)) (B : Bt mg) (C : Cns K mg aK aW aF) (DW : DIsWire P w K mg base fW fdW) (DT : DTaken P w K mg base fT fdT) : DChkWires P w K mg base f fd := by
  refine ⟨?_, hm, F.kp, F.binds fun _ _ _ _ _ _ us hl => match us, hl with | [_, _], _ => rfl⟩
  refine F.ok scChkWires (fun vs H Q E h => ?_) (fun cdv A outer s H vs Q E hr h => ?_)
  · obtain ⟨lg, lw, gs, ws, rfl, _⟩ := h
    rfl
  · obtain ⟨lg, lw, gs, ws, rfl, RGs, ⟨wv, sw, wa⟩, N, q⟩ := h
    have nd := scChkWires.nd
    have hr1 : Room 1 _ := hr.mono (by decide)
    refine ⟨_, pss_cons (ps_if (pt_not (pt_val (pe_callB call_isi (by rfl) B.isi (by decide +kernel) (pa_cons (pv 1) (pa_cons (pe_bltn (v := .ty "list") (by rfl) B.list (by decide +kernel) rfl) pa_nil))))) (pss_one ps_never) pss_nil) <|
      pss_cons (ps_set (i := 2) nd rfl (Or.inl rfl) (pe_op op_rep (pe_lst (pa_cons pe_int pa_nil)) (pe_callB call_len_seq (by rfl) B.len PySem.boot_len (pa_cons (pv 0) pa_nil)))) <|
      pss_cons (ps_for PassesOwn.never rfl (pi_enum (by rfl) B.enum (pa_cons (pv 1) pa_nil)) (pg_tup rfl (pgs_cons (pg_name (i := 3) nd rfl (Or.inl rfl)) (pgs_cons (pg_name (i := 4) nd rfl (Or.inl rfl)) pgs_nil))) <|
        pss_cons (ps_if (PW.pt (pw_or (pt_not (pt_val (pe_call DW.ok hr (by rfl) DW.mg DW.kp DW.bd .nil pass0 (pa_cons (pv 4) (pa_cons (pe_callB call_len_seq (by rfl) B.len PySem.boot_len (pa_cons (pv 0) pa_nil)) pa_nil)))))
            (pw_or1 (pt_not (pt_val (pe_call DT.ok hr1 (by rfl) DT.mg DT.kp DT.bd .nil pass0 (pa_cons (pv 4) (pa_cons (pv 0) (pa_cons (pv 2) pa_nil))))))))) (pss_one ps_never) pss_nil) <|
        pss_one <| ps_augS (pv 2) (pe_ix ix_tup (pv 4) pe_int (fun _ _ => rfl)) get_list pe_int ip_add set_list) <|
      pss_one <| ps_for PassesOwn.never rfl (pi_zip (by rfl) B.zip (pa_cons (pv 0) (pa_cons (pv 2) pa_nil))) (pg_tup rfl (pgs_cons (pg_name (i := 5) nd rfl (Or.inl rfl)) (pgs_cons (pg_name (i := 6) nd rfl (Or.inl rfl)) pgs_nil))) <|
        pss_one <| ps_if (PW.pt (pw_and (pt_cmpR op_in_seq (pe_ix ix_tup (pv 5) pe_int (fun _ _ => rfl)) (pe_glob (v := .ref aF) (by rfl) C.mF rfl) (by rfl)) (pw_and1 (pt_cmpR op_eq (pv 6) pe_int (nomark _))))) (pss_one ps_never) pss_nil, ?_⟩
    obtain ⟨gv, sg, ga⟩ := id RGs
    have hlg : gv.length = gs.length := ga.1
    have hlw : wv.length = ws.length := wa.1
    have hgl := N.gl
    refine ⟨_, rfl, _, _, _, _, true, rfl, .ty "list", ty_lst sw, kit_ty (by decide +kernel), true, rfl, iteF ?_⟩
    refine ⟨(by show 1 ≤ sizeLine; decide), fun l0 hl0 => ?_⟩
    refine ⟨_, rfl, lg, gv, rfl, .inl ((same_new hl0).seq sg), ?_⟩
    refine ⟨l0, _, _, rfl, rfl, upd_same, by omega, by omega, ?_, fun lc hlc => ?_⟩
    · show 1 * _ ≤ sizeLine
      have : 1 * ((gv.length : Int)).toNat ≤ 1000 := by omega
      exact Nat.le_of_lt (small1000 this)
    have sm0 : Same H (upd H l0 (.lst [.int 0])) := same_new hl0
    have hlc0 : H lc = none := sm0.free hlc
    have e0 : (List.replicate ((gv.length : Int)).toNat [V.int 0]).flatten = (cntL gs.length (ws.take 0)).map fun i => V.int (i : Nat) := by
      rw [List.take_zero, cntL_nil, List.map_replicate, ← hlg, Int.toNat_natCast]
      generalize gv.length = n
      induction n with
      | zero => rfl
      | succ n ih =>
        rw [List.replicate_succ, List.flatten_cons, ih, List.replicate_succ]
        rfl
    rw [e0]
    -- for place, thing in enumerate(wires)
    refine ⟨_, rfl, lw, wv, rfl, (sm0.trans (same_new hlc)).seq sw, for_it (walk_enum (K := K) (a := lw) (xs := wv)) (fun i σ H2 => ∃ s3 s4 : Option V, σ = [some (.ref lg), some (.ref lw), some (.ref lc), s3, s4, none, none] ∧
        H2 lc = some (.lst ((cntL gs.length (ws.take i)).map fun i => V.int (i : Nat))) ∧ Same H H2)
      ⟨_, _, rfl, upd_same, sm0.trans (same_new hlc)⟩ (fun i σ H2 _ ⟨_, _, _, _, sm⟩ => sm.seq sw) ?_ ?_⟩
    · rintro i v σ H2 H2' hi ⟨s3, s4, rfl, hc, sm⟩ ⟨T, x1, y, rfl, hT, rfl, ex, ey⟩
      cases ex
      obtain ⟨x, hx, wx⟩ := wa.get ey
      have W := N.wok x (List.mem_of_getElem? hx)
      have hxi : i < ws.length := (List.getElem?_eq_some_iff.mp hx).1
      have smT : Same H2 (upd H2 T (.tup [.int (i : Nat), y])) := same_new hT
      have sm2 := sm.trans smT
      refine ⟨T, _, rfl, .inl (.inl upd_same), rfl, _, _, rfl, _, _, rfl, rfl, ?_⟩
      refine ⟨_, rfl, _, rfl, lg, gv, rfl, .inl (sm2.seq sg), y, x, gv.length, rfl, wx.tk (TK.same sm2), by rw [hlg]; exact W.s, by rw [hlg]; exact W.e, W.r, by have := W.rl; omega, fun H3 sm3 => ⟨true, rfl, iteF ?_⟩⟩
      have sm4 := sm2.trans sm3
      have hc3 := sm3 _ _ (smT _ _ hc)
      refine ⟨_, rfl, _, rfl, _, rfl, y, x, lg, lc, gs, cntL gs.length (ws.take i), rfl, wx.tk (TK.same sm4), RGs.same sm4, SqL.of hc3, W, cntL_len _ _, fun hk => ?_, true, rfl, iteF ?_⟩
      · rw [cntL_get W.e]
        have h1 := N.one _ W.e hk
        have h2 := cnt_take_lt hx
        congr 1
        omega
      obtain ⟨a, b, rfl, sq1, sq2⟩ := wx
      have hlen : x.2.1 < (cntL gs.length (ws.take i)).length := by rw [cntL_len]; exact W.e
      refine ⟨_, rfl, _, rfl, a, _, 1, _, rfl, rfl, (TK.same sm4).seq sq1, atI_nat (j := 1) rfl, lc, _, x.2.1, .int (cnt (ws.take i) x.2.1 : Nat), rfl, rfl, SqL.of hc3, by rw [List.getElem?_map, cntL_get W.e]; rfl, _, _, rfl, rfl, lc, _, _, x.2.1, rfl, rfl, hc3, Evl.ixN_nat (by rw [List.length_map]; exact hlen), ?_⟩
      refine ⟨_, _, rfl, ?_, same_mut sm4 hlc0⟩
      have et : ws.take (i + 1) = ws.take i ++ [x] := by rw [List.take_add_one, hx]; rfl
      rw [upd_same, et, ← cntL_app W.e, ← map_set']
      rfl
    · rintro σ H2 ⟨s3, s4, rfl, hc, sm⟩
      rw [hlw, List.take_length] at hc
      -- for gate, many in zip(gates, come)
      refine ⟨_, rfl, _, rfl, lg, lc, gv, _, rfl, sm.seq sg, SqL.of hc, RZ.for_zipL (K := K) (a := lg) (b := lc) (xs := gv) (by rw [List.length_map, cntL_len]; exact hlg) (fun i σ H3 => ∃ s5 s6 : Option V, σ = [some (.ref lg), some (.ref lw), some (.ref lc), s3, s4, s5, s6] ∧ Same H2 H3)
        ⟨_, _, rfl, Same.refl H2⟩ (fun i σ H3 ⟨_, _, _, sm3⟩ => ⟨(sm.trans sm3).seq sg, SqL.of (sm3 _ _ hc)⟩) ?_ ?_⟩
      · rintro i x y T σ H3 hx hy ⟨s5, s6, rfl, sm3⟩ hT
        obtain ⟨g, hg, a, rfl, sq⟩ := ga.get hx
        have hgi : i < gs.length := (List.getElem?_eq_some_iff.mp hg).1
        rw [List.getElem?_map, cntL_get hgi] at hy
        cases hy
        have sm4 : Same H (upd H3 T (.tup [.ref a, .int (cnt ws i : Nat)])) := (sm.trans sm3).trans (same_new hT)
        refine ⟨T, _, rfl, .inl (.inl upd_same), rfl, _, _, rfl, _, _, rfl, rfl, ?_⟩
        refine ⟨_, rfl, a, _, 0, _, rfl, rfl, (TK.same sm4).seq sq, atI_nat (j := 0) rfl, aF, _, rfl, .inr (C.sF _), rfl, rfl, _, rfl, ite2 (fun e => ?_) (fun e => ?_)⟩
        · have e' : inV (V.str g.1) [V.str "out", V.str "first"] = true := e
          have hpos : 1 ≤ cnt ws i := by
            unfold inV at e'
            rw [List.any_eq_true] at e'
            obtain ⟨x, hx, hxe⟩ := e'
            simp only [List.mem_cons, List.not_mem_nil, or_false] at hx
            rcases hx with rfl | rfl
            · have := N.one i hgi (by rw [kindAt_get hg]; exact (eq_of_beq hxe).symm)
              omega
            · exact N.some i hgi (by rw [kindAt_get hg]; exact (eq_of_beq hxe).symm)
          refine ⟨_, rfl, rfl, false, ?_, iteF ⟨_, _, rfl, sm3.trans (same_new hT)⟩⟩
          show V.bl (decide (V.int (cnt ws i : Int) = V.int 0)) = V.bl false
          rw [decide_eq_false]
          intro z
          have := V.int.inj z
          omega
        · exact iteF ⟨_, _, rfl, sm3.trans (same_new hT)⟩
      · rintro σ H3 ⟨s5, s6, rfl, sm3⟩
        exact q H3 (sm.trans sm3)
end
end Lag

set_option maxRecDepth 100000
set_option maxHeartbeats 4000000
namespace Lag
open PySem PySem.Spec PyProof.Rows L2
/-! ### the order of gates along wires without registers: the mathematics -/
def bare (ws : List Wr) : List (Nat × Nat) := (ws.filter fun x => x.2.2.isEmpty).map fun x => (x.1, x.2.1)
/-- how many wires of B lead into e from gates that are not in dn -/
def mis (B : List (Nat × Nat)) (dn : List Nat) (e : Nat) : Nat := B.countP fun b => b.2 == e && !dn.contains b.1
def frm (B : List (Nat × Nat)) (g e : Nat) : Nat := B.countP fun b => b.1 == g && b.2 == e
theorem mis_split {B : List (Nat × Nat)} {dn : List Nat} {g : Nat} (h : g ∉ dn) (e : Nat) : mis B dn e = mis B (dn ++ [g]) e + frm B g e := by
  unfold mis frm
  induction B with
  | nil => rfl
  | cons b B ih =>
    rw [List.countP_cons, List.countP_cons, List.countP_cons, ih]
    by_cases h1 : b.2 = e
    · by_cases h2 : b.1 = g
      · have : b.1 ∉ dn := by rw [h2]; exact h
        simp [h1, h2, h]
        omega
      · by_cases h3 : b.1 ∈ dn
        · simp [h1, h2, h3]
        · simp [h1, h2, h3]
          omega
    · simp [h1]
theorem mis_zero {B : List (Nat × Nat)} {dn : List Nat} {e : Nat} (h : mis B dn e = 0) {b : Nat × Nat} (hb : b ∈ B) (he : b.2 = e) : b.1 ∈ dn := by
  unfold mis at h
  rw [List.countP_eq_zero] at h
  have := h b hb
  simp [he] at this
  exact this
theorem frm_drop {B : List (Nat × Nat)} {j : Nat} {b : Nat × Nat} (h : B[j]? = some b) (g e : Nat) : frm (B.drop j) g e = frm (B.drop (j + 1)) g e + if b.1 = g ∧ b.2 = e then 1 else 0 := by
  obtain ⟨hj, rfl⟩ := List.getElem?_eq_some_iff.mp h
  rw [List.drop_eq_getElem_cons hj]
  unfold frm
  rw [List.countP_cons]
  by_cases h1 : B[j].1 = g <;> by_cases h2 : B[j].2 = e <;> simp [h1, h2]
structure KI (B : List (Nat × Nat)) (n : Nat) (placed : List Nat) (d : Nat) : Prop where
  nd : placed.Nodup
  lt : ∀ e ∈ placed, e < n
  le : d ≤ placed.length
  iff : ∀ e, e < n → (e ∈ placed ↔ mis B (placed.take d) e = 0)
  top : ∀ (j e : Nat), placed[j]? = some e → ∀ b ∈ B, b.2 = e → b.1 ∈ placed.take j
structure KJ (B : List (Nat × Nat)) (n : Nat) (placed : List Nat) (d g j : Nat) : Prop where
  nd : placed.Nodup
  lt : ∀ e ∈ placed, e < n
  at_ : placed[d]? = some g
  iff : ∀ e, e < n → (e ∈ placed ↔ mis B (placed.take (d + 1)) e + frm (B.drop j) g e = 0)
  top : ∀ (j e : Nat), placed[j]? = some e → ∀ b ∈ B, b.2 = e → b.1 ∈ placed.take j
theorem take_add {l : List Nat} {d g : Nat} (h : l[d]? = some g) : l.take (d + 1) = l.take d ++ [g] := by rw [List.take_add_one, h]; rfl
theorem nodup_take {l : List Nat} {d g : Nat} (nd : l.Nodup) (h : l[d]? = some g) : g ∉ l.take d := by
  intro hm
  obtain ⟨i, hi⟩ := List.getElem?_of_mem hm
  have h1 : i < d := by
    have := (List.getElem?_eq_some_iff.mp hi).1
    rw [List.length_take] at this
    omega
  rw [List.getElem?_take_of_lt h1] at hi
  have := nd_ix nd hi h
  omega
theorem KI.go {B : List (Nat × Nat)} {n : Nat} {placed : List Nat} {d g : Nat} (h : KI B n placed d) (hg : placed[d]? = some g) : KJ B n placed d g 0 :=
  ⟨h.nd, h.lt, hg, fun e he => by rw [h.iff e he, take_add hg, mis_split (nodup_take h.nd hg), List.drop_zero], h.top⟩
theorem KJ.done {B : List (Nat × Nat)} {n : Nat} {placed : List Nat} {d g : Nat} (h : KJ B n placed d g B.length) : KI B n placed (d + 1) := by
  have hd : d < placed.length := (List.getElem?_eq_some_iff.mp h.at_).1
  refine ⟨h.nd, h.lt, hd, fun e he => ?_, h.top⟩
  rw [h.iff e he, List.drop_length]
  rfl
theorem KJ.skip {B : List (Nat × Nat)} {n : Nat} {placed : List Nat} {d g j : Nat} {b : Nat × Nat} (h : KJ B n placed d g j) (hb : B[j]? = some b) (hg : b.1 ≠ g) : KJ B n placed d g (j + 1) :=
  ⟨h.nd, h.lt, h.at_, fun e he => by rw [h.iff e he, frm_drop hb, if_neg (fun z => hg z.1)]; rfl, h.top⟩
theorem KJ.not {B : List (Nat × Nat)} {n : Nat} {placed : List Nat} {d g j : Nat} {b : Nat × Nat} (h : KJ B n placed d g j) (hb : B[j]? = some b) (hg : b.1 = g) (hn : mis B (placed.take (d + 1)) b.2 + frm (B.drop (j + 1)) g b.2 ≠ 0) : KJ B n placed d g (j + 1) := by
  refine ⟨h.nd, h.lt, h.at_, fun e he => ?_, h.top⟩
  rw [h.iff e he, frm_drop hb]
  by_cases h2 : b.2 = e
  · subst h2
    rw [if_pos ⟨hg, rfl⟩]
    omega
  · rw [if_neg (fun z => h2 z.2)]
    rfl
theorem KJ.put {B : List (Nat × Nat)} {n : Nat} {placed : List Nat} {d g j : Nat} {b : Nat × Nat} (h : KJ B n placed d g j) (hb : B[j]? = some b) (hg : b.1 = g) (hlt : b.2 < n) (hn : mis B (placed.take (d + 1)) b.2 + frm (B.drop (j + 1)) g b.2 = 0) : KJ B n (placed ++ [b.2]) d g (j + 1) := by
  have hd : d < placed.length := (List.getElem?_eq_some_iff.mp h.at_).1
  have hnot : b.2 ∉ placed := fun z => by
    have := (h.iff _ hlt).mp z
    rw [frm_drop hb, if_pos ⟨hg, rfl⟩] at this
    omega
  have et : (placed ++ [b.2]).take (d + 1) = placed.take (d + 1) := List.take_append_of_le_length (by omega)
  refine ⟨?_, ?_, ?_, ?_, ?_⟩
  · rw [List.nodup_append]
    refine ⟨h.nd, by simp, fun a ha c hc => ?_⟩
    simp at hc
    subst hc
    intro z
    exact hnot (by rw [← z]; exact ha)
  · intro e he
    rcases List.mem_append.mp he with he | he
    · exact h.lt e he
    · simp at he
      subst he
      exact hlt
  · rw [List.getElem?_append_left hd]
    exact h.at_
  · intro e he
    rw [et, List.mem_append]
    by_cases h2 : b.2 = e
    · subst h2
      simp [hn]
    · have := h.iff e he
      rw [frm_drop hb, if_neg (fun z => h2 z.2)] at this
      rw [this]
      simp
      intro z
      exact absurd z.symm h2
  · intro k e hk c hc hce
    by_cases hk' : k < placed.length
    · rw [List.getElem?_append_left hk'] at hk
      rw [List.take_append_of_le_length (by omega)]
      exact h.top k e hk c hc hce
    · have hkl : k = placed.length := by
        have := (List.getElem?_eq_some_iff.mp hk).1
        simp at this
        omega
      subst hkl
      rw [List.getElem?_append_right (by omega)] at hk
      simp at hk
      subst hk
      rw [List.take_left']
      · have := mis_zero (show mis B (placed.take (d + 1)) b.2 = 0 by omega) hc hce
        exact List.mem_of_mem_take this
      · rfl
/-- what the order is: gates without two alike, each behind those it hangs on; all whose wires come from such -/
def Ord (n : Nat) (ws : List Wr) (ord : List Nat) : Prop := KI (bare ws) n ord ord.length
theorem Ord.full {n : Nat} {ws : List Wr} {ord : List Nat} (h : Ord n ws ord) (hw : ∀ x ∈ ws, x.1 < n ∧ x.2.1 < n) (rk : ∃ ρ : Nat → Nat, ∀ x ∈ ws, x.2.2 = [] → ρ x.1 < ρ x.2.1) : ord.Perm (List.range n) := by
  obtain ⟨ρ, hρ⟩ := rk
  have all : ∀ r e, e < n → ρ e = r → e ∈ ord := by
    intro r
    induction r using Nat.strongRecOn with
    | ind r ih =>
      intro e he hr
      rw [h.iff e he, List.take_length]
      unfold mis
      rw [List.countP_eq_zero]
      intro b hb
      obtain ⟨x, hx, rfl⟩ := List.mem_map.mp hb
      rw [List.mem_filter] at hx
      have hr0 : x.2.2 = [] := by simpa using hx.2
      have := hρ x hx.1 hr0
      simp
      intro z
      exact ih (ρ x.1) (by rw [← hr, ← z]; exact this) x.1 (hw x hx.1).1 rfl
  rw [List.perm_iff_count]
  intro a
  rw [h.nd.count, List.nodup_range.count]
  by_cases ha : a < n
  · rw [if_pos (all _ a ha rfl), if_pos (List.mem_range.mpr ha)]
  · rw [if_neg (fun z => ha (h.lt a z)), if_neg (fun z => ha (List.mem_range.mp z))]
end Lag

set_option maxRecDepth 100000
set_option maxHeartbeats 8000000
namespace Lag
open PySem PySem.Spec PyProof.Rows L2
abbrev sAlong : Stmt := topS 16
abbrev sOrder : Stmt := topS 38
def PairV (K : PySem.W.Frag) (H : Hp) (v : V) (b : Nat × Nat) : Prop := ∃ a, v = .ref a ∧ SqT K H a [.int (b.1 : Nat), .int (b.2 : Nat)]
theorem PairV.tk {K : PySem.W.Frag} {H H' : Hp} {v : V} {b : Nat × Nat} (t : TK H H') (h : PairV K H v b) : PairV K H' v b := by
  obtain ⟨a, e, s⟩ := h
  exact ⟨a, e, t.seq s⟩
/-- numbers by a function of the place -/
def fnL (n : Nat) (f : Nat → Nat) : List V := (List.range n).map fun e => V.int (f e : Nat)
theorem fnL_len (n : Nat) (f : Nat → Nat) : (fnL n f).length = n := by simp [fnL]
theorem fnL_get {n e : Nat} {f : Nat → Nat} (h : e < n) : (fnL n f)[e]? = some (V.int (f e : Nat)) := by
  unfold fnL
  rw [List.getElem?_map, List.getElem?_range h]
  rfl
theorem fnL_set {n e : Nat} {f f' : Nat → Nat} {z : Int} (h : e < n) (he : (f' e : Int) = z) (ho : ∀ i, i ≠ e → f' i = f i) : (fnL n f).set e (V.int z) = fnL n f' := by
  refine List.ext_getElem? fun i => ?_
  by_cases hi : i < n
  · rw [fnL_get hi, List.getElem?_set]
    by_cases ei : e = i
    · subst ei
      rw [if_pos rfl, if_pos (by rw [fnL_len]; exact h), he]
    · rw [if_neg ei, fnL_get hi, ho i (fun z => ei z.symm)]
  · rw [List.getElem?_eq_none (by rw [List.length_set, fnL_len]; omega), List.getElem?_eq_none (by rw [fnL_len]; omega)]
theorem fnL_zero (n : Nat) (f : Nat → Nat) (h : ∀ e, f e = 0) : (List.replicate n [V.int 0]).flatten = fnL n f := by
  have e : f = fun _ => 0 := funext h
  subst e
  unfold fnL
  induction n with
  | zero => rfl
  | succ n ih =>
    rw [List.replicate_succ', List.flatten_append, ih, List.range_succ, List.map_append]
    rfl
def spOrder (K : PySem.W.Frag) : Sp := fun vs H Q _ => ∃ (n : Nat) (lw : Addr) (ws : List Wr), vs = [.int (n : Nat), .ref lw] ∧ RW K H lw ws ∧ (∀ x ∈ ws, x.1 < n ∧ x.2.1 < n) ∧ n ≤ 1000 ∧ ws.length ≤ 1000 ∧
  ∀ (ord : List Nat) (p : Addr) (H' : Hp), Ord n ws ord → Same H H' → H p = none → H' p = some (.lst (ord.map fun i => V.int (i : Nat))) → Q (.ref p) H'
def spAlong (K : PySem.W.Frag) : Sp := fun vs H Q _ => ∃ (n : Nat) (lb : Addr) (bv : List V) (B : List (Nat × Nat)), vs = [.int (n : Nat), .ref lb] ∧ SqL K H lb bv ∧ All2 (PairV K H) bv B ∧ (∀ b ∈ B, b.1 < n ∧ b.2 < n) ∧ n ≤ 1000 ∧ B.length ≤ 1000 ∧
  ∀ (ord : List Nat) (p : Addr) (H' : Hp), KI B n ord ord.length → Same H H' → H p = none → H' p = some (.lst (ord.map fun i => V.int (i : Nat))) → Q (.ref p) H'
abbrev nAlong : List Str := ["many", "pairs", "missing", "start", "end", "placed", "done", "place"]
theorem scAlong : FnScope nAlong ["many", "pairs"] (defScope sAlong) := ⟨rfl, rfl, rfl, by decide +kernel, rfl, by decide +kernel, by decide +kernel⟩
abbrev nOrder : List Str := ["many_gates", "wires", "start", "end", "held"]
theorem scOrder : FnScope nOrder ["many_gates", "wires"] (defScope sOrder) := ⟨rfl, rfl, rfl, by decide +kernel, rfl, by decide +kernel, by decide +kernel⟩
theorem bare_take {ws : List Wr} {i : Nat} {x : Wr} (h : ws[i]? = some x) : bare (ws.take (i + 1)) = if x.2.2.isEmpty then bare (ws.take i) ++ [(x.1, x.2.1)] else bare (ws.take i) := by
  unfold bare
  rw [List.take_add_one, h]
  show ((ws.take i ++ [x]).filter _).map _ = _
  rw [List.filter_append]
  by_cases e : x.2.2.isEmpty
  · rw [if_pos e, List.filter_cons, if_pos e, List.map_append]
    rfl
  · rw [if_neg e, List.filter_cons, if_neg e, List.filter_nil, List.append_nil]
theorem bare_len (ws : List Wr) : (bare ws).length ≤ ws.length := by
  unfold bare
  rw [List.length_map]
  exact List.length_filter_le _ _
theorem mis_take {B : List (Nat × Nat)} {i : Nat} {b : Nat × Nat} (h : B[i]? = some b) (e : Nat) : mis (B.take (i + 1)) [] e = mis (B.take i) [] e + if b.2 = e then 1 else 0 := by
  unfold mis
  rw [List.take_add_one, h]
  show (B.take i ++ [b]).countP _ = _
  rw [List.countP_append, List.countP_cons, List.countP_nil]
  by_cases h1 : b.2 = e <;> simp [h1]
section
variable {P : Program} {w : World} {K : PySem.W.Frag} {mg : Str → Option Value} {base : Heap}
abbrev DAlong (P : Program) (w : World) (K : PySem.W.Frag) (mg : Str → Option Value) (base : Heap) := Df P w K mg base 1 "order_along" ["many", "pairs"] (spAlong K)
theorem ok_along {f : Addr} {fd : FuncData} (F : Fun K "order_along" "order_along" sAlong f fd) (hm : mg "order_along" = some (.ref f)) (Bb : Bt mg) : DAlong P w K mg base f fd := by
  refine ⟨?_, hm, F.kp, F.binds fun _ _ _ _ _ _ us hl => match us, hl with | [_, _], _ => rfl⟩
  refine F.ok scAlong (fun vs H Q E h => ?_) (fun cdv A outer s H vs Q E hr h => ?_)
  · obtain ⟨n, lb, bv, B, rfl, _⟩ := h
    rfl
  · obtain ⟨n, lb, bv, B, rfl, sb, ba1, hBlt, hn, hwl, q⟩ := h
    have nd := scAlong.nd
    refine ⟨_, pss_cons (ps_set (i := 2) nd rfl (Or.inr rfl) (pe_op op_rep (pe_lst (pa_cons pe_int pa_nil)) (pv 0))) <|
      pss_cons (ps_for PassesOwn.never rfl (pi_list (pv 1)) (pg_tup rfl (pgs_cons (pg_name (i := 3) nd rfl (Or.inl rfl)) (pgs_cons (pg_name (i := 4) nd rfl (Or.inl rfl)) pgs_nil)))
        (pss_one (ps_augS (pv 2) (pv 4) get_list pe_int ip_add set_list))) <|
      pss_cons (ps_setLc (i := 5) (own := [("place", 7)]) (g := gName 7) (tt := tTest (tOp rEq (tOp (rIxL K) (tVar 2) (tVar 7)) (tC (.int 0)))) (te := tVar 7) rfl nd rfl rfl (sw_true rfl rfl rfl (by decide +kernel))
          (pi_range1 (by rfl) Bb.range (pa_cons (pv 0) pa_nil)) (blkOk_by (N := nAlong) (sc := defScope sAlong) (own := [("place", 7)]) (by decide +kernel)) (fun _ _ _ _ _ => pg_name (i := 7) nd rfl (Or.inl rfl))
          (fun _ _ _ _ _ => pts_one (pt_cmpR op_eq (pe_ix ix_list (pv 2) (pv 7) (fun _ _ => rfl)) pe_int (nomark _))) (fun _ _ _ _ _ => pv 7)) <|
      pss_cons (ps_set (i := 6) nd rfl (Or.inl rfl) pe_int) <|
      pss_cons (ps_while PassesOwn.never (pt_cmpR op_lt (pv 6) (pe_callB call_len_seq (by rfl) Bb.len PySem.boot_len (pa_cons (pv 5) pa_nil)) (nomark _)) <|
        pss_cons (ps_for PassesOwn.never rfl (pi_list (pv 1)) (pg_tup rfl (pgs_cons (pg_name (i := 3) nd rfl (Or.inl rfl)) (pgs_cons (pg_name (i := 4) nd rfl (Or.inl rfl)) pgs_nil))) <|
          pss_one <| ps_if (pt_cmpR op_eq (pv 3) (pe_ix ix_list (pv 5) (pv 6) (fun _ _ => rfl)) (nomark _))
            (pss_cons (ps_augS (pv 2) (pv 4) get_list pe_int ip_sub set_list) <| pss_one <| ps_if (pt_cmpR op_eq (pe_ix ix_list (pv 2) (pv 4) (fun _ _ => rfl)) pe_int (nomark _))
              (pss_one (ps_expr (pe_bm PySem.F.plainAttrs_list PySem.F.slot_list_append PySem.F.type_list_append mt_append (pv 5) (pa_cons (pv 4) pa_nil)))) pss_nil) pss_nil) <|
        pss_one <| ps_aug (i := 6) nd rfl (Or.inl rfl) pe_int ip_add) <|
      pss_one <| ps_ret (pv 5), ?_⟩
    have hbl : bv.length ≤ 1000 := by
      rw [ba1.1]
      omega
    -- missing = [0] * many_gates
    refine ⟨(by show 1 ≤ sizeLine; decide), fun l0 hl0 => ?_⟩
    have sm2 : Same H (upd H l0 (.lst [.int 0])) := same_new hl0
    refine ⟨_, rfl, l0, _, _, rfl, rfl, upd_same, by omega, by omega, ?_, fun lm hlm => ?_⟩
    · show 1 * _ ≤ sizeLine
      have : 1 * ((n : Int)).toNat ≤ 1000 := by omega
      exact Nat.le_of_lt (small1000 this)
    rw [Int.toNat_natCast, fnL_zero n (mis (B.take 0) []) (fun e => by simp [mis])]
    have sm3 : Same H (upd (upd H l0 (.lst [.int 0])) lm (.lst (fnL n (mis (B.take 0) [])))) := sm2.trans (same_new hlm)
    have hm1 : H lm = none := sm2.free hlm
    -- for start, end in bare: missing[end] += 1
    refine ⟨_, rfl, lb, rfl, ⟨_, sm3.seq sb⟩, for_list (K := K) (a := lb) (xs := bv) (fun i σ H4 => ∃ s4 s5 : Option V, σ = [some (.int (n : Nat)), some (.ref lb), some (.ref lm), s4, s5, none, none, none] ∧
        H4 lm = some (.lst (fnL n (mis (B.take i) []))) ∧ Same H H4) ⟨_, _, rfl, upd_same, sm3⟩ (fun i σ H4 _ ⟨_, _, _, _, sm⟩ => sm.seq sb) ?_ ?_⟩
    · rintro i x σ H4 hx ⟨s4, s5, rfl, hml, sm4⟩
      obtain ⟨b, hbb, a, rfl, sq⟩ := ba1.get hx
      have hlt := hBlt b (List.mem_of_getElem? hbb)
      refine ⟨a, _, rfl, (TK.same sm4).seq sq, rfl, _, _, rfl, _, _, rfl, rfl, ?_⟩
      refine ⟨_, rfl, _, rfl, lm, _, b.2, _, rfl, rfl, SqL.of hml, fnL_get hlt.2, _, _, rfl, rfl, lm, _, _, b.2, rfl, rfl, hml, Evl.ixN_nat (by rw [fnL_len]; exact hlt.2), ?_⟩
      refine ⟨_, _, rfl, ?_, same_mut sm4 hm1⟩
      rw [upd_same]
      refine congrArg (fun z => some (HO.lst z)) (fnL_set hlt.2 ?_ ?_)
      · rw [mis_take hbb, if_pos rfl]
        show ((mis (B.take i) [] b.2 + 1 : Nat) : Int) = ((mis (B.take i) [] b.2 : Nat) : Int) + 1
        omega
      · intro j hj
        rw [mis_take hbb, if_neg (fun z => hj z.symm)]
        rfl
    · rintro σ H4 ⟨s4, s5, rfl, hml, sm4⟩
      rw [ba1.1, List.take_length] at hml
      -- placed = [gate for gate in range(many_gates) if missing[gate] == 0]
      refine ⟨_, rfl, _, rfl, by omega, by omega, fun lp hlp => ?_⟩
      refine lc_range (lo := 0) (n := ((n : Int)).toNat) (fun i Hc => Hc lp = some (.lst (((List.range i).filter fun e => mis B [] e == 0).map fun i => V.int (i : Nat))) ∧ Same H4 Hc) ⟨upd_same, same_new hlp⟩ ?_ ?_
      · rintro i Hc hi ⟨hc, sm⟩
        have hi' : i < n := by omega
        have hlen : (((List.range i).filter fun e => mis B [] e == 0).map fun i => V.int (i : Nat)).length ≤ 1000 := by
          rw [List.length_map]
          have := List.length_filter_le (fun e => mis B [] e == 0) (List.range i)
          rw [List.length_range] at this
          omega
        have e0 : (0 : Int) + (i : Int) = (i : Int) := Int.zero_add _
        rw [e0]
        refine ⟨rfl, ?_⟩
        refine ⟨_, rfl, _, rfl, lm, _, _, _, rfl, rfl, SqL.of (sm _ _ hml), atI_nat (fnL_get hi'), rfl, _, rfl, ite2 (fun e => ?_) (fun e => ?_)⟩
        · have hz : mis B [] i = 0 := by
            have := V.int.inj (of_decide_eq_true e)
            omega
          refine ⟨_, rfl, _, hc, Nat.lt_of_le_of_lt hlen (small1000 (Nat.le_refl _)), ?_, same_mut sm hlp⟩
          rw [upd_same, List.range_succ, List.filter_append, List.map_append, List.filter_cons, if_pos (by rw [hz]; rfl)]
          rfl
        · have hz : ¬ (mis B [] i == 0) = true := fun z => by
            apply e
            rw [beq_iff_eq] at z
            rw [z]
            rfl
          refine ⟨?_, sm⟩
          rw [List.range_succ, List.filter_append, List.filter_cons, if_neg hz, List.filter_nil, List.append_nil]
          exact hc
      · rintro H5 ⟨hp5, sm5⟩
        rw [Int.toNat_natCast] at hp5
        have k0 : KI B n ((List.range n).filter fun e => mis B [] e == 0) 0 := by
          refine ⟨List.nodup_range.sublist List.filter_sublist, fun e he => List.mem_range.mp (List.mem_filter.mp he).1, Nat.zero_le _, fun e he => ?_, fun j e hj b hb hbe => ?_⟩
          · rw [List.mem_filter, List.take_zero]
            simp [he]
          · have hm0 := (List.mem_filter.mp (List.mem_of_getElem? hj)).2
            rw [beq_iff_eq] at hm0
            have := mis_zero hm0 hb hbe
            simp at this
        -- the while
        have hp0 : H lp = none := sm4.free hlp
        refine ⟨fun m σ H6 => ∃ (placed : List Nat) (d : Nat) (s4 s5 : Option V), σ = [some (.int (n : Nat)), some (.ref lb), some (.ref lm), s4, s5, some (.ref lp), some (.int (d : Nat)), none] ∧
          KI B n placed d ∧ H6 lp = some (.lst (placed.map fun i => V.int (i : Nat))) ∧ H6 lm = some (.lst (fnL n (mis B (placed.take d)))) ∧ Same H H6 ∧ m = n - d, ?_, ?_⟩
        · have h5m := sm5 _ _ hml
          have e0 : mis B [] = mis B (((List.range n).filter fun e => mis B [] e == 0).take 0) := by rw [List.take_zero]
          rw [e0] at h5m
          exact ⟨n, _, 0, _, _, rfl, k0, hp5, h5m, sm4.trans sm5, rfl⟩
        · rintro m σ H6 ⟨placed, d, s4, s5, rfl, ki, hp6, hm6, sm6, rfl⟩
          have hp1 : H lp = none := sm4.free hlp
          have npm : lp ≠ lm := fun z => by
            rw [z, hml] at hlp
            cases hlp
          refine ⟨_, rfl, _, rfl, lp, _, rfl, .inl (SqL.of hp6), _, _, rfl, rfl, _, rfl, ite2 (fun e => ?_) (fun e => ?_)⟩
          · have hd : d < placed.length := by
              have e' : (d : Int) < ((placed.map fun i => V.int (i : Nat)).length : Int) := of_decide_eq_true e
              rw [List.length_map] at e'
              omega
            have hpl : ∀ placed : List Nat, placed.Nodup → (∀ e ∈ placed, e < n) → placed.length ≤ n := fun l hnd hlt => by
              have h1 : l.length = (l.filter fun e => decide (e < n)).length := by
                rw [List.filter_eq_self.mpr]
                intro a ha
                exact decide_eq_true (hlt a ha)
              have h2 := List.Nodup.length_le_of_subset hnd (l₂ := List.range n) (fun a ha => List.mem_range.mpr (hlt a ha))
              rw [List.length_range] at h2
              exact h2
            have hdn := hpl placed ki.nd ki.lt
            have hg : placed[d]? = some placed[d] := List.getElem?_eq_getElem hd
            refine ⟨fun σ H7 => ∃ (placed : List Nat) (s4 s5 : Option V), σ = [some (.int (n : Nat)), some (.ref lb), some (.ref lm), s4, s5, some (.ref lp), some (.int ((d : Nat) + 1)), none] ∧
              KI B n placed (d + 1) ∧ H7 lp = some (.lst (placed.map fun i => V.int (i : Nat))) ∧ H7 lm = some (.lst (fnL n (mis B (placed.take (d + 1))))) ∧ Same H H7, ?_, ?_⟩
            · rintro σ' H' ⟨placed', t4, t5, rfl, ki', hp', hm', sm'⟩
              exact ⟨n - (d + 1), by omega, placed', d + 1, t4, t5, rfl, ki', hp', hm', sm', rfl⟩
            · have e1 : mis B (placed.take d) = fun e => mis B (placed.take (d + 1)) e + frm (B.drop 0) placed[d] e := funext fun e => by
                rw [take_add hg, List.drop_zero]
                exact mis_split (nodup_take ki.nd hg) e
              rw [e1] at hm6
              generalize placed[d] = g at hg hm6
              refine ⟨_, rfl, lb, rfl, ⟨_, sm6.seq sb⟩, for_list (K := K) (a := lb) (xs := bv) (fun j σ H7 => ∃ (placed : List Nat) (s4 s5 : Option V), σ = [some (.int (n : Nat)), some (.ref lb), some (.ref lm), s4, s5, some (.ref lp), some (.int (d : Nat)), none] ∧
                  KJ B n placed d g j ∧ H7 lp = some (.lst (placed.map fun i => V.int (i : Nat))) ∧ H7 lm = some (.lst (fnL n fun e => mis B (placed.take (d + 1)) e + frm (B.drop j) g e)) ∧ Same H H7)
                ⟨placed, _, _, rfl, ki.go hg, hp6, hm6, sm6⟩ (fun i σ H4 _ ⟨_, _, _, _, _, _, _, sm⟩ => sm.seq sb) ?_ ?_⟩
              · rintro j x σ H7 hx ⟨placed, s4, s5, rfl, kj, hp7, hm7, sm7⟩
                obtain ⟨b, hbb, a, rfl, sq⟩ := ba1.get hx
                have hlt := hBlt b (List.mem_of_getElem? hbb)
                refine ⟨a, _, rfl, (TK.same sm7).seq sq, rfl, _, _, rfl, _, _, rfl, rfl, ?_⟩
                refine ⟨_, rfl, _, rfl, _, rfl, lp, _, _, _, rfl, rfl, SqL.of hp7, atI_nat (j := d) (by rw [List.getElem?_map, kj.at_]; rfl), rfl, _, rfl, ite2 (fun e => ?_) (fun e => ?_)⟩
                · have hbg : b.1 = g := by
                    have := V.int.inj (of_decide_eq_true e)
                    omega
                  have hfd : ∀ e, frm (B.drop j) g e = frm (B.drop (j + 1)) g e + if b.1 = g ∧ b.2 = e then 1 else 0 := fun e => frm_drop hbb g e
                  refine ⟨_, rfl, _, rfl, lm, _, b.2, _, rfl, rfl, SqL.of hm7, fnL_get hlt.2, _, _, rfl, rfl, lm, _, _, b.2, rfl, rfl, hm7, Evl.ixN_nat (by rw [fnL_len]; exact hlt.2), ?_⟩
                  have e2 : (fnL n fun e => mis B (placed.take (d + 1)) e + frm (B.drop j) g e).set b.2 (V.int (((mis B (placed.take (d + 1)) b.2 + frm (B.drop j) g b.2 : Nat) : Int) - 1)) = fnL n fun e => mis B (placed.take (d + 1)) e + frm (B.drop (j + 1)) g e := by
                    refine fnL_set hlt.2 ?_ ?_
                    · rw [hfd, if_pos ⟨hbg, rfl⟩]
                      omega
                    · intro i hi
                      rw [hfd, if_neg (fun z => hi z.2.symm)]
                      rfl
                  have hm8 : (upd H7 lm (.lst (fnL n fun e => mis B (placed.take (d + 1)) e + frm (B.drop (j + 1)) g e))) lm = some (.lst (fnL n fun e => mis B (placed.take (d + 1)) e + frm (B.drop (j + 1)) g e)) := upd_same
                  rw [← e2] at hm8
                  have hp8 : (upd H7 lm (.lst ((fnL n fun e => mis B (placed.take (d + 1)) e + frm (B.drop j) g e).set b.2 (V.int (((mis B (placed.take (d + 1)) b.2 + frm (B.drop j) g b.2 : Nat) : Int) - 1))))) lp = some (.lst (placed.map fun i => V.int (i : Nat))) := by
                    rw [upd_ne npm]
                    exact hp7
                  have sm8 := same_mut (p := lm) (o := .lst ((fnL n fun e => mis B (placed.take (d + 1)) e + frm (B.drop j) g e).set b.2 (V.int (((mis B (placed.take (d + 1)) b.2 + frm (B.drop j) g b.2 : Nat) : Int) - 1)))) sm7 hm1
                  have hg8 : ((fnL n fun e => mis B (placed.take (d + 1)) e + frm (B.drop j) g e).set b.2 (V.int (((mis B (placed.take (d + 1)) b.2 + frm (B.drop j) g b.2 : Nat) : Int) - 1)))[b.2]? = some (V.int ((mis B (placed.take (d + 1)) b.2 + frm (B.drop (j + 1)) g b.2 : Nat) : Int)) := by
                    rw [e2]
                    exact fnL_get hlt.2
                  have hm9 := hm8
                  rw [e2] at hm9
                  refine ⟨_, rfl, _, rfl, lm, _, _, _, rfl, rfl, SqL.of upd_same, atI_nat hg8, rfl, _, rfl, ite2 (fun e3 => ?_) (fun e3 => ?_)⟩
                  · have hz : mis B (placed.take (d + 1)) b.2 + frm (B.drop (j + 1)) g b.2 = 0 := by
                      have := V.int.inj (of_decide_eq_true e3)
                      omega
                    have hlp1 := hpl placed kj.nd kj.lt
                    have hdl : d < placed.length := (List.getElem?_eq_some_iff.mp kj.at_).1
                    refine ⟨_, rfl, .inl ⟨rfl, _, SqL.of hp8⟩, _, rfl, lp, _, _, rfl, rfl, hp8, by rw [List.length_map]; exact small1000 (by omega), ?_⟩
                    refine ⟨placed ++ [b.2], _, _, rfl, kj.put hbb hbg hlt.2 hz, ?_, ?_, same_mut sm8 hp1⟩
                    · rw [upd_same, List.map_append]
                      rfl
                    · rw [upd_ne npm.symm, List.take_append_of_le_length (by omega), ← e2]
                      exact upd_same
                  · have hz : mis B (placed.take (d + 1)) b.2 + frm (B.drop (j + 1)) g b.2 ≠ 0 := fun z => by
                      apply e3
                      rw [z]
                      rfl
                    refine ⟨placed, _, _, rfl, kj.not hbb hbg hz, hp8, ?_, sm8⟩
                    rw [← e2]
                    exact upd_same
                · have hbg : b.1 ≠ g := fun z => by
                    apply e
                    rw [z]
                    exact decide_eq_true rfl
                  refine ⟨placed, _, _, rfl, kj.skip hbb hbg, hp7, ?_, sm7⟩
                  have : (fun e => mis B (placed.take (d + 1)) e + frm (B.drop (j + 1)) g e) = fun e => mis B (placed.take (d + 1)) e + frm (B.drop j) g e := funext fun e => by
                    rw [frm_drop hbb, if_neg (fun z => hbg z.1)]
                    rfl
                  rw [this]
                  exact hm7
              · rintro σ H7 ⟨placed, s4, s5, rfl, kj, hp7, hm7, sm7⟩
                rw [ba1.1] at kj hm7
                refine ⟨_, rfl, _, _, rfl, rfl, placed, _, _, rfl, kj.done, hp7, ?_, sm7⟩
                rw [List.drop_length] at hm7
                exact hm7
          · have hd : d = placed.length := by
              have e' : ¬ (d : Int) < ((placed.map fun i => V.int (i : Nat)).length : Int) := fun z => e (decide_eq_true z)
              rw [List.length_map] at e'
              have := ki.le
              omega
            subst hd
            exact ⟨_, rfl, q placed lp H6 ki sm6 hp0 hp6⟩
abbrev DOrder (P : Program) (w : World) (K : PySem.W.Frag) (mg : Str → Option Value) (base : Heap) := Df P w K mg base 2 "bare_order" ["many_gates", "wires"] (spOrder K)
theorem ok_order {f fA : Addr} {fd fdA : FuncData} (F : Fun K "bare_order" "bare_order" sOrder f fd) (hm : mg "bare_order" = some (.ref f)) (B : Bt mg) (DA : DAlong P w K mg base fA fdA) : DOrder P w K mg base f fd := by
  refine ⟨?_, hm, F.kp, F.binds fun _ _ _ _ _ _ us hl => match us, hl with | [_, _], _ => rfl⟩
  refine F.ok scOrder (fun vs H Q E h => ?_) (fun cdv A outer s H vs Q E hr h => ?_)
  · obtain ⟨n, lw, ws, rfl, _⟩ := h
    rfl
  · obtain ⟨n, lw, ws, rfl, ⟨wv, sw, wa⟩, hws, hn, hwl, q⟩ := h
    have nd := scOrder.nd
    refine ⟨_, pss_one <| ps_ret <| pe_call DA.ok hr (by rfl) DA.mg DA.kp DA.bd .nil pass0 <| pa_cons (pv 0) <| (pa_cons · pa_nil) <|
      pe_lc (own := [("start", 2), ("end", 3), ("held", 4)]) (g := gTup K 3 (gCons (gName 2) (gCons (gName 3) (gCons (gName 4) gNil)))) (tt := tTest (tOp rEq (tCB (Evl.rLenS K) (tCons (tVar 4) tNil)) (tC (.int 0)))) (te := tTup (tCons (tVar 2) (tCons (tVar 3) tNil))) rfl nd
        (pi_list (pv 1)) (blkOk_by (N := nOrder) (sc := defScope sOrder) (own := [("start", 2), ("end", 3), ("held", 4)]) (by decide +kernel))
        (fun _ _ _ _ _ => pg_tup rfl (pgs_cons (pg_name (i := 2) nd rfl (Or.inl rfl)) (pgs_cons (pg_name (i := 3) nd rfl (Or.inl rfl)) (pgs_cons (pg_name (i := 4) nd rfl (Or.inl rfl)) pgs_nil))))
        (fun _ _ _ _ _ => pts_one (pt_cmpR op_eq (pe_callB call_len_seq (by rfl) B.len PySem.boot_len (pa_cons (pv 4) pa_nil)) pe_int (nomark _)))
        (fun _ _ _ _ _ => pe_tup (pa_cons (pv 2) (pa_cons (pv 3) pa_nil))), ?_⟩
    have hlw : wv.length = ws.length := wa.1
    -- bare = [..]
    refine ⟨_, rfl, _, rfl, lw, rfl, ⟨_, sw⟩, fun lb hlb => ?_⟩
    refine lc_list (K := K) (a := lw) (xs := wv) (fun i Hc => ∃ bv, Hc lb = some (.lst bv) ∧ All2 (PairV K Hc) bv (bare (ws.take i)) ∧ Same H Hc) ⟨[], upd_same, by simpa [bare] using All2.nil, same_new hlb⟩ (fun i Hc _ ⟨_, _, _, sm⟩ => sm.seq sw) ?_ ?_
    · rintro i x Hc hx ⟨bv, hb, ba, sm⟩
      obtain ⟨y, hy, a, b, rfl, sq1, sq2⟩ := wa.get hx
      have hyi : i < ws.length := (List.getElem?_eq_some_iff.mp hy).1
      have t := TK.same sm
      have hbl : bv.length ≤ 1000 := by
        rw [ba.1]
        have := bare_len (ws.take i)
        rw [List.length_take] at this
        omega
      refine ⟨a, _, rfl, t.seq sq1, rfl, _, _, rfl, _, _, rfl, _, _, rfl, rfl, rfl, ?_⟩
      refine ⟨_, rfl, b, _, rfl, .inr (t.seq sq2), rfl, _, rfl, ite2 (fun e => ?_) (fun e => ?_)⟩
      · have he : y.2.2.isEmpty = true := by
          have e' : (((y.2.2.map V.int).length : Nat) : Int) = 0 := V.int.inj (of_decide_eq_true e)
          rw [List.length_map] at e'
          rw [List.isEmpty_iff, ← List.length_eq_zero_iff]
          omega
        refine ⟨_, rfl, _, rfl, (by show 2 ≤ sizeLine; decide), fun p hp => ?_⟩
        have smp : Same Hc (upd Hc p (.tup [.int (y.1 : Nat), .int (y.2.1 : Nat)])) := same_new hp
        have npb : p ≠ lb := fun z => by
          rw [z, hb] at hp
          cases hp
        have t2 : TK Hc (upd (upd Hc p (.tup [.int (y.1 : Nat), .int (y.2.1 : Nat)])) lb (.lst (bv ++ [.ref p]))) := (TK.new hp).trans (TK.lst (smp _ _ hb))
        refine ⟨bv, smp _ _ hb, Nat.lt_of_le_of_lt hbl (small1000 (Nat.le_refl _)), bv ++ [.ref p], upd_same, ?_, same_mut (sm.trans smp) hlb⟩
        rw [bare_take hy, if_pos he]
        exact (ba.imp fun _ _ r => r.tk t2).snoc ⟨p, rfl, .inl (.inl (by rw [upd_ne npb]; exact upd_same))⟩
      · have he : ¬ y.2.2.isEmpty = true := fun z => by
          apply e
          rw [List.isEmpty_iff] at z
          rw [z]
          rfl
        exact ⟨bv, hb, by rw [bare_take hy, if_neg he]; exact ba, sm⟩
    · rintro H1 ⟨bv, hb1, ba1, sm1⟩
      rw [hlw, List.take_length] at ba1
      have hbl : bv.length ≤ 1000 := by
        rw [ba1.1]
        have := bare_len ws
        omega
      have hBlt : ∀ b ∈ bare ws, b.1 < n ∧ b.2 < n := by
        intro b hb
        obtain ⟨x, hx, rfl⟩ := List.mem_map.mp hb
        rw [List.mem_filter] at hx
        exact hws x hx.1
      exact ⟨n, lb, bv, bare ws, rfl, SqL.of hb1, ba1, hBlt, hn, by have := bare_len ws; omega, fun ord p H2 ki s2 hp h2 => q ord p H2 ki (sm1.trans s2) (sm1.free hp) h2⟩
end
end Lag

set_option maxRecDepth 100000
set_option maxHeartbeats 4000000
namespace Lag
open PySem PySem.Spec PyProof.Rows L2
abbrev sChkRings : Stmt := topS 37
abbrev sInit : Stmt := inClass (topS 30) 0
abbrev sEq : Stmt := inClass (topS 30) 1
def spChkRings (K : PySem.W.Frag) : Sp := fun vs H Q _ => ∃ (n : Nat) (lw : Addr) (ws : List Wr), vs = [.int (n : Nat), .ref lw] ∧ RW K H lw ws ∧ (∀ x ∈ ws, x.1 < n ∧ x.2.1 < n) ∧ n ≤ 1000 ∧ ws.length ≤ 1000 ∧
  (∃ ρ : Nat → Nat, ∀ x ∈ ws, x.2.2 = [] → ρ x.1 < ρ x.2.1) ∧ ∀ H', Same H H' → Q .non H'
/-! ### a net's object -/
def nf (lg lw : Addr) : List (Str × V) := putF "wires" (.ref lw) (putF "gates" (.ref lg) [])
theorem gw_ne : ¬ (("gates" : Str) = "wires") := by decide +kernel
theorem nf_eq (lg lw : Addr) : nf lg lw = ([("gates", V.ref lg), ("wires", V.ref lw)] : List (Str × V)) := by
  show (if ("gates" : Str) = "wires" then [(("gates" : Str), V.ref lw)] else (("gates" : Str), V.ref lg) :: putF "wires" (V.ref lw) []) = ([("gates", V.ref lg), ("wires", V.ref lw)] : List (Str × V))
  rw [if_neg gw_ne]
  all_goals rfl
theorem nf_gates (lg lw : Addr) : (nf lg lw).lookup ("gates" : Str) = some (.ref lg) := by
  unfold nf
  rw [lookup_putF, if_neg gw_ne, lookup_putF, if_pos rfl]
theorem nf_wires (lg lw : Addr) : (nf lg lw).lookup ("wires" : Str) = some (.ref lw) := by
  unfold nf
  rw [lookup_putF, if_pos rfl]
theorem nf_no (lg lw : Addr) {m : Str} (h1 : ¬ m = "wires") (h2 : ¬ m = "gates") : (nf lg lw).lookup m = none := by
  unfold nf
  rw [lookup_putF, if_neg h1, lookup_putF, if_neg h2]
  all_goals rfl
/-- the class as the top has made it -/
structure NT (K : PySem.W.Frag) (mg : Str → Option Value) (C : Addr) : Prop where
  cl : Cls K C
  nG : NoAttr K C "gates"
  nW : NoAttr K C "wires"
  mg : mg "Net" = some (.ref C)
/-- a net at p: its own lists at lg, lw -/
structure NetAt (K : PySem.W.Frag) (C : Addr) (H : Hp) (p lg lw : Addr) (gs : List Gt) (ws : List Wr) : Prop where
  ob : ∃ dx, H p = some (.ins C dx (nf lg lw))
  g : LG K H lg gs
  w : LW K H lw ws
  ne : lg ≠ lw
theorem LG.same {K : PySem.W.Frag} {H H' : Hp} {l : Addr} {gs : List Gt} (h : LG K H l gs) (s : Same H H') : LG K H' l gs := by
  obtain ⟨vs, q, a⟩ := h
  exact ⟨vs, s _ _ q, a.imp fun _ _ r => r.tk (TK.same s)⟩
theorem LW.same {K : PySem.W.Frag} {H H' : Hp} {l : Addr} {ws : List Wr} (h : LW K H l ws) (s : Same H H') : LW K H' l ws := by
  obtain ⟨vs, q, a⟩ := h
  exact ⟨vs, s _ _ q, a.imp fun _ _ r => r.tk (TK.same s)⟩
theorem LG.rg {K : PySem.W.Frag} {H : Hp} {l : Addr} {gs : List Gt} (h : LG K H l gs) : RG K H l gs := by
  obtain ⟨vs, q, a⟩ := h
  exact ⟨vs, SqL.of q, a⟩
theorem LW.rw {K : PySem.W.Frag} {H : Hp} {l : Addr} {ws : List Wr} (h : LW K H l ws) : RW K H l ws := by
  obtain ⟨vs, q, a⟩ := h
  exact ⟨vs, SqL.of q, a⟩
theorem NetAt.same {K : PySem.W.Frag} {C : Addr} {H H' : Hp} {p lg lw : Addr} {gs : List Gt} {ws : List Wr} (n : NetAt K C H p lg lw gs ws) (s : Same H H') : NetAt K C H' p lg lw gs ws := by
  obtain ⟨dx, h⟩ := n.ob
  exact ⟨⟨dx, s _ _ h⟩, n.g.same s, n.w.same s, n.ne⟩
def spInit (K : PySem.W.Frag) (C : Addr) : Sp := fun vs H Q _ => ∃ (p dx lg lw : Addr) (gs : List Gt) (ws : List Wr), vs = [.ref p, .ref lg, .ref lw] ∧ H p = some (.ins C dx []) ∧ RG K H lg gs ∧ RW K H lw ws ∧ NetOk gs ws ∧
  ∀ (H' : Hp) (lg' lw' : Addr), NetAt K C H' p lg' lw' gs ws → H lg' = none → H lw' = none → (∀ b o, H b = some o → b ≠ p → H' b = some o) → Q .non H'
section
variable {P : Program} {w : World} {K : PySem.W.Frag} {mg : Str → Option Value} {base : Heap}
theorem scChkRings : FnScope ["many_gates", "wires", "placed"] ["many_gates", "wires"] (defScope sChkRings) := ⟨rfl, rfl, rfl, by decide +kernel, rfl, by decide +kernel, by decide +kernel⟩
abbrev DChkRings (P : Program) (w : World) (K : PySem.W.Frag) (mg : Str → Option Value) (base : Heap) := Df P w K mg base 3 "check_rings" ["many_gates", "wires"] (spChkRings K)
theorem ok_chkRings {f fO : Addr} {fd fdO : FuncData} (F : Fun K "check_rings" "check_rings" sChkRings f fd) (hm : mg "check_rings" = some (.ref f)) (B : Bt mg) (DO : DOrder P w K mg base fO fdO) : DChkRings P w K mg base f fd := by
  refine ⟨?_, hm, F.kp, F.binds fun _ _ _ _ _ _ us hl => match us, hl with | [_, _], _ => rfl⟩
  refine F.ok scChkRings (fun vs H Q E h => ?_) (fun cdv A outer s H vs Q E hr h => ?_)
  · obtain ⟨n, lw, ws, rfl, _⟩ := h
    rfl
  · obtain ⟨n, lw, ws, rfl, R, hws, hn, hwl, rk, q⟩ := h
    have nd := scChkRings.nd
    refine ⟨_, pss_cons (ps_set (i := 2) nd rfl (Or.inl rfl) (pe_call DO.ok hr (by rfl) DO.mg DO.kp DO.bd .nil pass0 (pa_cons (pv 0) (pa_cons (pv 1) pa_nil)))) <|
      pss_one <| ps_if (pt_cmpR op_lt (pe_callB call_len_seq (by rfl) B.len PySem.boot_len (pa_cons (pv 2) pa_nil)) (pv 0) (nomark _)) (pss_one ps_never) pss_nil, ?_⟩
    refine ⟨_, rfl, _, rfl, n, lw, ws, rfl, R, hws, hn, hwl, fun ord p H1 ho sm hp h1 => ?_⟩
    have hpl : ord.length = n := by rw [(ho.full hws rk).length_eq, List.length_range]
    refine ⟨_, rfl, p, _, rfl, .inl (SqL.of h1), _, rfl, _, _, rfl, rfl, false, ?_, iteF (q H1 sm)⟩
    show V.bl (decide (((ord.map fun i => V.int (i : Nat)).length : Int) < (n : Int))) = V.bl false
    rw [decide_eq_false]
    rw [List.length_map, hpl]
    omega
theorem scInit : FnScope ["self", "gates", "wires"] ["self", "gates", "wires"] (defScope sInit) := ⟨rfl, rfl, rfl, by decide +kernel, rfl, by decide +kernel, by decide +kernel⟩
theorem ok_init {f fG fW fR C : Addr} {fd fdG fdW fdR : FuncData} (F : Fun K "__init__" "Net.__init__" sInit f fd) (T : NT K mg C) (B : Bt mg) (DG : DChkGates P w K mg base fG fdG) (DW : DChkWires P w K mg base fW fdW) (DR : DChkRings P w K mg base fR fdR) :
    FnOk P w K mg base CX0 6 f fd ["self", "gates", "wires"] (spInit K C) := by
  refine F.ok scInit (fun vs H Q E h => ?_) (fun cdv A outer s H vs Q E hr h => ?_)
  · obtain ⟨p, dx, lg, lw, gs, ws, rfl, _⟩ := h
    rfl
  · obtain ⟨p, dx, lg, lw, gs, ws, rfl, hp, RGs, RWs, N, q⟩ := h
    have hr4 : Room 4 _ := hr.mono (by decide)
    have hr2 : Room 3 _ := hr.mono (by decide)
    refine ⟨_, pss_cons (ps_expr (pe_call DG.ok hr4 (by rfl) DG.mg DG.kp DG.bd .nil pass0 (pa_cons (pv 1) pa_nil))) <|
      pss_cons (ps_expr (pe_call DW.ok hr (by rfl) DW.mg DW.kp DW.bd .nil pass0 (pa_cons (pv 1) (pa_cons (pv 2) pa_nil)))) <|
      pss_cons (ps_expr (pe_call DR.ok hr2 (by rfl) DR.mg DR.kp DR.bd .nil pass0 (pa_cons (pe_callB call_len_seq (by rfl) B.len PySem.boot_len (pa_cons (pv 1) pa_nil)) (pa_cons (pv 2) pa_nil)))) <|
      pss_cons (ps_fld (pv 0) (pe_callTy call_list_of (by rfl) B.list (by decide +kernel) (pa_cons (pv 1) pa_nil)) rfl) <|
      pss_one (ps_fld (pv 0) (pe_callTy call_list_of (by rfl) B.list (by decide +kernel) (pa_cons (pv 2) pa_nil)) rfl), ?_⟩
    refine ⟨_, rfl, lg, gs, rfl, RGs, N.ne, N.gok, fun H1 sm1 => ?_⟩
    refine ⟨_, rfl, _, rfl, lg, lw, gs, ws, rfl, RGs.same sm1, RWs.same sm1, N, fun H2 sm2 => ?_⟩
    have s2 := sm1.trans sm2
    obtain ⟨gv, sg, ga⟩ := RGs.same s2
    have hlg : gv.length = gs.length := ga.1
    refine ⟨_, rfl, lg, gv, rfl, .inl sg, _, rfl, gv.length, lw, ws, rfl, RWs.same s2, fun x hx => ?_, by have := N.gl; omega, N.wl, N.rank, fun H3 sm3 => ?_⟩
    · rw [hlg]
      exact ⟨(N.wok x hx).s, (N.wok x hx).e⟩
    have s3 := s2.trans sm3
    obtain ⟨gv3, sg3, ga3⟩ := RGs.same s3
    obtain ⟨wv3, sw3, wa3⟩ := RWs.same s3
    have hp3 := s3 _ _ hp
    refine ⟨_, rfl, lg, gv3, rfl, .inl sg3, fun l1 hl1 => ?_⟩
    have np1 : p ≠ l1 := ne_of_none hp3 hl1
    have sm4 : Same H3 (upd H3 l1 (.lst gv3)) := same_new hl1
    refine ⟨_, rfl, p, C, dx, [], rfl, sm4 _ _ hp3, T.cl, T.nG, (by show 0 < 1000; decide), ?_⟩
    have hw4 : SqL K (upd (upd H3 l1 (.lst gv3)) p (.ins C dx (putF "gates" (.ref l1) []))) lw wv3 := by
      rcases sm4.seq sw3 with (h | ⟨o, h⟩) | h
      · have n : lw ≠ p := fun z => by
          rw [z, sm4 _ _ hp3] at h
          cases h
        exact .inl (.inl (by rw [upd_ne n]; exact h))
      · have n : lw ≠ p := fun z => by
          rw [z, sm4 _ _ hp3] at h
          cases h
        exact .inl (.inr ⟨o, by rw [upd_ne n]; exact h⟩)
      · exact .inr h
    refine ⟨_, rfl, lw, wv3, rfl, .inl hw4, fun l2 hl2 => ?_⟩
    have np2 : p ≠ l2 := fun z => by
      rw [← z, upd_same] at hl2
      cases hl2
    have h11 : (upd (upd H3 l1 (.lst gv3)) p (.ins C dx (putF "gates" (.ref l1) []))) l1 = some (.lst gv3) := by
      rw [upd_ne np1.symm]
      exact upd_same
    have n12 : l1 ≠ l2 := ne_of_none h11 hl2
    have hl2' : H3 l2 = none := by
      rw [upd_ne np2.symm, upd_ne n12.symm] at hl2
      exact hl2
    refine ⟨_, rfl, p, C, dx, _, rfl, (by rw [upd_ne np2]; exact upd_same), T.cl, T.nW, (by show 1 < 1000; decide), ?_⟩
    have keep : ∀ b o, b ≠ p → H3 b = some o → (upd (upd (upd (upd H3 l1 (.lst gv3)) p (.ins C dx (putF "gates" (.ref l1) []))) l2 (.lst wv3)) p (.ins C dx (putF "wires" (.ref l2) (putF "gates" (.ref l1) [])))) b = some o := fun b o nb e => by
      rw [upd_ne nb, upd_ne (ne_of_none e hl2'), upd_ne nb, upd_ne (ne_of_none e hl1)]
      exact e
    have tk : TK H3 (upd (upd (upd (upd H3 l1 (.lst gv3)) p (.ins C dx (putF "gates" (.ref l1) []))) l2 (.lst wv3)) p (.ins C dx (putF "wires" (.ref l2) (putF "gates" (.ref l1) [])))) := fun b o t e => keep b o (fun z => by
      rw [z, hp3] at e
      cases e
      exact t) e
    refine q _ l1 l2 ⟨⟨dx, upd_same⟩, ⟨gv3, ?_, ga3.imp fun _ _ r => r.tk tk⟩, ⟨wv3, ?_, wa3.imp fun _ _ r => r.tk tk⟩, n12⟩ (s3.free hl1) (s3.free hl2') fun b o e nb => keep b o nb (s3 _ _ e)
    · rw [upd_ne np1.symm, upd_ne n12, upd_ne np1.symm]
      exact upd_same
    · rw [upd_ne np2.symm]
      exact upd_same
end
end Lag

set_option maxRecDepth 100000
set_option maxHeartbeats 4000000
namespace Lag
open PySem PySem.Spec PyProof.Rows L2
/-! ### == and != by an own __eq__, whatever the other thing is -/
section
variable {X : Cx} {pins : List (Addr × Obj)} {σ : L2.St} {H : Hp} {s : Shared}
/-- what typeOf says -/
def TyL (X : Cx) (s : Shared) (v tb : Value) : Prop := PySem.W.Looks (model X.prog X.w) s.heap (typeOf v) tb
theorem ty_looks {y : V} {v tb : Value} (I : Inv X pins σ H s) (r : RelV y v) (t : TyOf X.K H y tb) : TyL X s v tb := by
  cases t with
  | non => cases r; exact .of_pure rfl
  | bl b => cases r; exact .of_pure rfl
  | int i => obtain ⟨t, rfl⟩ := r; exact .of_pure rfl
  | str x => obtain ⟨t, rfl⟩ := r; exact .of_pure rfl
  | flt x => obtain ⟨t, rfl⟩ := r; exact .of_pure rfl
  | @lst a xs ea =>
    cases r
    obtain ⟨_, _, n, _, h1⟩ := (show ObjOk X.prog X.w H s.heap a (.lst xs) from I.hok a _ ea)
    exact (PySem.W.Looks.ld h1).andThen .now
  | @frz a ob xs ea =>
    cases r
    obtain ⟨_, _, _, n, _, h1⟩ := (show ObjOk X.prog X.w H s.heap a (.frz ob (.lst xs)) from I.hok a _ ea)
    exact (PySem.W.Looks.ld h1).andThen .now
  | @tup a xs ea =>
    cases r
    obtain ⟨_, _, _, o, h1, h2, _⟩ := (show ObjOk X.prog X.w H s.heap a (.tup xs) from I.hok a _ ea)
    exact h2 ▸ (PySem.W.Looks.ld h1).andThen .now
  | @dK a kvs ea =>
    cases r
    obtain ⟨_, _, vs, _, o, es, ep, h1, h2, _⟩ := (show ObjOk X.prog X.w H s.heap a (.dK kvs) from I.hok a _ ea)
    exact h2.1 ▸ (PySem.W.Looks.ld h1).andThen .now
  | @dT a kvs ea =>
    cases r
    obtain ⟨_, _, xs, _, o, es, ep, h1, h2, _⟩ := (show ObjOk X.prog X.w H s.heap a (.dT kvs) from I.hok a _ ea)
    exact h2.1 ▸ (PySem.W.Looks.ld h1).andThen .now
  | @ins a C dx fs ea cl ha hn htk hm =>
    cases r
    obtain ⟨mA, O, _⟩ := ins_get I.hok ea
    obtain ⟨od, J, _⟩ := O.look
    exact J.type
/-- a call of a def from within -/
theorem call_own {n : Nat} {f : Addr} {fd : FuncData} {ps : List Str} {sp : Sp} {xs : List V} {us : List Value} {Q : VK} {A : Around} (F : FnOk X.prog X.w X.K X.mg X.base CX0 n f fd ps sp) (hb : Binds X.K fd ps []) (sb : Sub X n A) (I : Inv X pins σ H s) (rx : Vals xs us)
    (h : sp xs H Q E0) : wpAny (model X.prog X.w) A (call (.ref f) us) (EP X pins σ Q) X.xe s := by
  have e0 : Env0 X.prog X.w X.K X.mg X.base A X.stack s H := by
    have e := I.env0
    exact ⟨by rw [sb.fr]; exact e.frames, e.mod, e.bs, e.bsz, e.funs, e.frf, e.hok, e.bare⟩
  have hl := F.len _ _ _ _ h
  have hl' : us.length = ps.length := by rw [← rx.length, hl]
  refine wpAny_call (codeAny_mono (F.run A X.stack s H ⟨us, []⟩ us xs _ E0 sb.room e0 (by
    have := hb s us I.kIn (by simpa using hl')
    simpa using this) rx h) fun r s' hq => ?_)
  cases r with
  | error e => exact False.elim hq
  | ok fl =>
    cases fl with
    | ret w => exact I.after hq
    | next => exact False.elim hq
    | brk => exact False.elim hq
    | cont => exact False.elim hq
/-- a special method that is a built-in -/
theorem ifBound_B {M : Model} {K : PySem.W.Frag} {A : Around} {E : Value → Shared → Prop} {s : Shared} {x C : Addr} {ox : Obj} {od : Option Obj} {name : Str} {id : String} {args : List Value} {Q : Option Value → Shared → Prop} (X : K.In s.heap) (I : PySem.W.InstAt s.heap x ox C od)
    (hs : PySem.W.findIn K (.ref C) name = some (some (.builtin id))) (hb : ∀ self, bindSpecial (.builtin id) self = pure (.builtin id, [self]))
    (h : wpAny M A (call (.builtin id) (.ref x :: args)) (fun v => Q (some v)) E s) : wpAny M A (callSpecialIfBound? (.ref x) name args) Q E s := by
  simp only [callSpecialIfBound?, bindSpecialIfBound?]
  refine wpAny_holding (wpAny_bind (wpAny_bind (wpAny_bind (I.type.here ((PySem.W.looks_findIn X hs).here ?_)))))
  refine wpAny_bind (wpAny_askSetting (wpAny_ite ?_))
  have fin : wpAny M A (call (.builtin id) ([.ref x] ++ args) >>= fun v => pure (some v)) Q E s := wpAny_bind (wpAny_mono h (fun v s' h' => wpAny_pure h') fun _ _ h' => h')
  split
  · exact wpAny_bind (wpAny_of_eq (hb _) (wpAny_pure (by exact fin)))
  · exact wpAny_tryCatch (wpAny_bind (wpAny_of_eq (hb _) (wpAny_pure (by exact fin))))
theorem bind_ne (self : Value) : bindSpecial (.builtin "object.__ne__") self = pure (.builtin "object.__ne__", [self]) := PySem.F.slot_tuple_iterator_ne.bind self
theorem ne_body {K : PySem.W.Frag} {prog : Program} {w : World} {A : Around} {E : Value → Shared → Prop} {s : Shared} {x C f : Addr} {ox : Obj} {od : Option Obj} {b : Value} {Q : Fin → Shared → Prop} (X : K.In s.heap) (I : PySem.W.InstAt s.heap x ox C od)
    (hs : PySem.W.findIn K (.ref C) "__eq__" = some (some (.ref f))) (hf : PySem.W.isFn K (.ref f) = true) (hu : A.units < cLine)
    (hcall : wpAny (model prog w) A (call (.ref f) [.ref x, b]) (fun v s' => ∃ c, v = .bool c ∧ Q (.done (.ret (.bool (!c)))) s') E s) :
    wpAny (model prog w) A (Builtin.«object.__ne__» ⟨[.ref x, b], []⟩) Q E s := by
  obtain ⟨h, g, d, t, os⟩ := s
  unfold Builtin.«object.__ne__»
  repeat (first
    | with_reducible refine wpAny_cRoomFor hu ?_
    | (refine wpAny_bind (m := callSpecialIfBound? (.ref x) (Str.ofString "__eq__") [b])
        (PySem.W.ifBound_K X I hs hf (wpAny_mono hcall (fun r s' hr => by
          obtain ⟨c, rfl, hq⟩ := hr
          repeat (first | exact hq | exact wpAny_pure hq | exact wpAny_truthy_bool hq | (refine wpAny_bind (m := truthy (.bool _)) (wpAny_truthy_bool ?_)) | wp_step)) fun _ _ e => e)))
    | wp_step)
theorem op_eqO {n : Nat} {C f : Addr} {fd : FuncData} {ps : List Str} {sp : Sp} (F : FnOk X.prog X.w X.K X.mg X.base CX0 n f fd ps sp) (hs : PySem.W.findIn X.K (.ref C) "__eq__" = some (some (.ref f))) (hf : PySem.W.isFn X.K (.ref f) = true) (hb : Binds X.K fd ps []) (hr : Room n X.A) :
    OpR X (compareOp .Eq) (fun x y H Q => ∃ a dx fs tb, x = .ref a ∧ H a = some (.ins C dx fs) ∧ TyOf X.K H y tb ∧ PySem.W.notFirst X.K C tb = true ∧ sp [x, y] H (fun v H' => ∃ c, v = .bl c ∧ Q v H') E0) := by
  intro pins s σ H x y u v Q I rx ry h
  obtain ⟨a, dx, fs, tb, rfl, ha, ty, nf, q⟩ := h
  cases rx
  obtain ⟨mA, J, _⟩ := ins_get I.hok ha
  obtain ⟨od, J, _⟩ := J.look
  obtain ⟨m, hF⟩ := I.fr
  show wpAny (model X.prog X.w) X.A (richCompare .Eq (.ref a) v) (EP X pins σ Q) X.xe s
  refine PySem.W.cmp_K (op := .Eq) (tb := tb) hr.units0 hF I.ok.mod.kin J (ty_looks I ry ty) nf hs hf ?_
  refine wpAny_mono (call_own F hb ⟨hr, rfl⟩ I (.cons (show RelV (V.ref a) (Value.ref a) from rfl) (.cons ry .nil)) q) (fun r s' z => ?_) fun _ _ x => x
  obtain ⟨z, H', I', rz, c, ez, q'⟩ := z
  subst ez
  cases rz
  exact ⟨.bl c, H', I', rfl, q'⟩
theorem op_neO {n : Nat} {C f : Addr} {fd : FuncData} {ps : List Str} {sp : Sp} (F : FnOk X.prog X.w X.K X.mg X.base CX0 n f fd ps sp) (hs : PySem.W.findIn X.K (.ref C) "__eq__" = some (some (.ref f))) (hn : PySem.W.findIn X.K (.ref C) "__ne__" = some (some (.builtin "object.__ne__")))
    (ho : PySem.W.mroIn X.K C (.type "object") = some true) (hf : PySem.W.isFn X.K (.ref f) = true) (hb : Binds X.K fd ps []) (hr : Room (n + 1) X.A) :
    OpR X (compareOp .NotEq) (fun x y H Q => ∃ a dx fs tb, x = .ref a ∧ H a = some (.ins C dx fs) ∧ TyOf X.K H y tb ∧ PySem.W.notFirst X.K C tb = true ∧ sp [x, y] H (fun v H' => ∃ c, v = .bl c ∧ Q (.bl (!c)) H') E0) := by
  intro pins s σ H x y u v Q I rx ry h
  obtain ⟨a, dx, fs, tb, rfl, ha, ty, nf, q⟩ := h
  cases rx
  obtain ⟨mA, J, _⟩ := ins_get I.hok ha
  obtain ⟨od, J, _⟩ := J.look
  have hb' := ty_looks I ry ty
  have sb : Sub X (n + 1) X.A := ⟨hr, rfl⟩
  show wpAny (model X.prog X.w) X.A (richCompare .NotEq (.ref a) v) (EP X pins σ Q) X.xe s
  have one : wpAny (model X.prog X.w) X.A (tryCompare (.ref a) "__ne__" v) (fun r s' => ∃ w, r = some w ∧ EP X pins σ Q w s') X.xe s := by
    unfold tryCompare
    refine wpAny_bind (ifBound_B I.kIn J hn bind_ne (wpAny_call (codeAny_call_builtin PySem.F.slot_tuple_iterator_ne.plain PySem.F.cmpEntry_ne
      (PySem.W.check_slot PySem.F.cmpKind_ne PySem.F.cmpSplit_ne (J.type.andThen (PySem.W.looks_mroIn I.kIn ho)) (PySem.F.cmpArgs_ne _ _)
        (ne_body I.kIn J hs hf sb.in1.room.units0 (wpAny_mono (call_own F hb sb.in1 I (.cons (show RelV (V.ref a) (Value.ref a) from rfl) (.cons ry .nil)) q) (fun r s' z => ?_) fun _ _ x => x))))))
    obtain ⟨z, H', I', rz, c, ez, q'⟩ := z
    subst ez
    cases rz
    have fin : EP X pins σ Q (.bool (!c)) s' := ⟨.bl (!c), H', I', rfl, q'⟩
    first | exact ⟨c, rfl, wpAny_pure ⟨_, rfl, fin⟩⟩ | exact ⟨c, rfl, wpAny_pure (wpAny_pure ⟨_, rfl, fin⟩)⟩ | exact ⟨c, rfl, ⟨_, rfl, fin⟩⟩
  unfold richCompare
  simp only [oneThing_ref]
  refine wpAny_holding (wpAny_bind (wpAny_cRoomFor hr.units0 ?_))
  refine wpAny_bind (J.type.here (wpAny_bind (hb'.here ?_)))
  split
  · rename_i q'
    have e : PySem.W.subIn X.K tb (.ref C) = some false := by
      rcases Bool.or_eq_true_iff.mp nf with e | e
      · rw [beq_iff_eq.mp e] at q'; simp at q'
      · exact beq_iff_eq.mp e
    refine wpAny_bind ((PySem.W.looks_subIn I.kIn e).here ?_)
    simp only [Bool.false_eq_true, if_false]
    refine wpAny_bind (wpAny_mono one (fun r s' z => ?_) fun _ _ e => e)
    obtain ⟨v, rfl, hq⟩ := z
    exact wpAny_pure hq
  · refine wpAny_bind (wpAny_pure ?_)
    simp only [Bool.false_eq_true, if_false]
    refine wpAny_bind (wpAny_mono one (fun r s' z => ?_) fun _ _ e => e)
    obtain ⟨v, rfl, hq⟩ := z
    exact wpAny_pure hq
end
end Lag

set_option maxRecDepth 100000
set_option maxHeartbeats 4000000
namespace Lag
open PySem PySem.Spec PyProof.Rows L2
/-! ### nets as data that is compared -/
def gateD (g : Gt) : PyData := .tuple [.str g.1, .int g.2]
def gatesD (gs : List Gt) : PyData := .list (gs.map gateD)
def wireD (x : Wr) : PyData := .tuple [.int (x.1 : Nat), .int (x.2.1 : Nat), .tuple (x.2.2.map PyData.int)]
def wiresD (ws : List Wr) : PyData := .list (ws.map wireD)
def intsD (l : List Nat) : PyData := .list (l.map fun i => .int (i : Nat))
theorem eqvAll_map {α : Type} [DecidableEq α] {f : α → PyData} (h : ∀ x y, PyData.eqv (f x) (f y) = decide (x = y)) : ∀ xs ys : List α, PyData.eqvAll (xs.map f) (ys.map f) = decide (xs = ys)
  | [], [] => rfl
  | [], _ :: _ => rfl
  | _ :: _, [] => rfl
  | x :: xs, y :: ys => by
    show (PyData.eqv (f x) (f y) && PyData.eqvAll (xs.map f) (ys.map f)) = _
    rw [h, eqvAll_map h xs ys, Bool.eq_iff_iff]
    simp
theorem gateD_eq (a b : Gt) : PyData.eqv (gateD a) (gateD b) = decide (a = b) := by
  show ((a.1 == b.1) && ((a.2 == b.2) && true)) = _
  rw [Bool.eq_iff_iff]
  simp [Prod.ext_iff]
theorem gatesD_eq (a b : List Gt) : PyData.eqv (gatesD a) (gatesD b) = decide (a = b) := eqvAll_map gateD_eq a b
theorem intD_eq (a b : Int) : PyData.eqv (.int a) (.int b) = decide (a = b) := rfl
theorem wireD_eq (a b : Wr) : PyData.eqv (wireD a) (wireD b) = decide (a = b) := by
  show ((((a.1 : Nat) : Int) == ((b.1 : Nat) : Int)) && ((((a.2.1 : Nat) : Int) == ((b.2.1 : Nat) : Int)) && (PyData.eqvAll (a.2.2.map PyData.int) (b.2.2.map PyData.int) && true))) = _
  rw [eqvAll_map intD_eq, Bool.eq_iff_iff]
  simp only [Bool.and_eq_true, beq_iff_eq, decide_eq_true_eq, and_true]
  constructor
  · rintro ⟨h1, h2, h3⟩
    exact Prod.ext (by omega) (Prod.ext (by show a.2.1 = b.2.1; omega) h3)
  · rintro rfl
    exact ⟨rfl, rfl, rfl⟩
theorem wiresD_eq (a b : List Wr) : PyData.eqv (wiresD a) (wiresD b) = decide (a = b) := eqvAll_map wireD_eq a b
theorem natD_eq (a b : Nat) : PyData.eqv (.int (a : Nat)) (.int (b : Nat)) = decide (a = b) := by
  show (((a : Nat) : Int) == ((b : Nat) : Int)) = _
  rw [Bool.eq_iff_iff]
  simp
  omega
theorem intsD_eq (a b : List Nat) : PyData.eqv (intsD a) (intsD b) = decide (a = b) := eqvAll_map natD_eq a b
theorem lay_all {ds : List PyData} : (∀ d ∈ ds, PyData.canLay0 d = true) → PyData.canLayAll0 ds = true := by
  induction ds with
  | nil => intro _; rfl
  | cons d ds ih =>
    intro h
    show (PyData.canLay0 d && PyData.canLayAll0 ds) = true
    rw [h d (List.mem_cons_self ..), ih fun x hx => h x (List.mem_cons_of_mem _ hx)]
    rfl
theorem depth_all {ds : List PyData} {k : Nat} : (∀ d ∈ ds, PyData.depth d ≤ k) → PyData.depthAll ds ≤ k := by
  induction ds with
  | nil => intro _; exact Nat.zero_le _
  | cons d ds ih =>
    intro h
    show max (PyData.depth d) (PyData.depthAll ds) ≤ k
    have h1 := h d (List.mem_cons_self ..)
    have h2 := ih fun x hx => h x (List.mem_cons_of_mem _ hx)
    omega
/-- such data may be compared, to the depth k -/
def Sh (k : Nat) (d : PyData) : Prop := PyData.canLay0 d = true ∧ PyData.depth d ≤ k
theorem Sh.ok {k : Nat} {d : PyData} (h : Sh k d) (hk : k ≤ 64) : SeqAt.shaped d = true := by
  show (PyData.canLay0 d && decide (PyData.depth d ≤ 64)) = true
  rw [h.1, decide_eq_true (Nat.le_trans h.2 hk)]
  rfl
theorem sh_list {k : Nat} {ds : List PyData} (h : ∀ d ∈ ds, Sh k d) : Sh (k + 1) (.list ds) := ⟨lay_all fun d hd => (h d hd).1, Nat.succ_le_succ (depth_all fun d hd => (h d hd).2)⟩
theorem sh_tuple {k : Nat} {ds : List PyData} (h : ∀ d ∈ ds, Sh k d) : Sh (k + 1) (.tuple ds) := ⟨lay_all fun d hd => (h d hd).1, Nat.succ_le_succ (depth_all fun d hd => (h d hd).2)⟩
theorem sh_int {k : Nat} (i : Int) : Sh k (.int i) := ⟨rfl, Nat.zero_le _⟩
theorem kinds_str : ∀ k ∈ kinds, PyData.canLay0 (.str k) = true := by decide +kernel
theorem sh_kind {k : Nat} {z : Str} (h : z ∈ kinds) : Sh k (.str z) := ⟨kinds_str z h, Nat.zero_le _⟩
theorem sh_gates {gs : List Gt} (h : ∀ g ∈ gs, GOk g) : Sh 2 (gatesD gs) := by
  refine sh_list fun d hd => ?_
  obtain ⟨g, hg, rfl⟩ := List.mem_map.mp hd
  refine sh_tuple fun d hd => ?_
  simp only [List.mem_cons, List.not_mem_nil, or_false] at hd
  rcases hd with rfl | rfl
  · exact sh_kind (h g hg).1
  · exact sh_int _
theorem sh_wires (ws : List Wr) : Sh 3 (wiresD ws) := by
  refine sh_list fun d hd => ?_
  obtain ⟨g, hg, rfl⟩ := List.mem_map.mp hd
  refine sh_tuple fun d hd => ?_
  simp only [List.mem_cons, List.not_mem_nil, or_false] at hd
  rcases hd with rfl | rfl | rfl
  · exact sh_int _
  · exact sh_int _
  · refine sh_tuple fun d hd => ?_
    obtain ⟨i, _, rfl⟩ := List.mem_map.mp hd
    exact sh_int _
theorem sh_ints (l : List Nat) : Sh 1 (intsD l) := by
  refine sh_list fun d hd => ?_
  obtain ⟨i, _, rfl⟩ := List.mem_map.mp hd
  exact sh_int _
section
variable {K : PySem.W.Frag} {H : Hp}
theorem dp_all {α : Type} {R : V → α → Prop} {f : α → PyData} (h : ∀ v x, R v x → Dp K H v (f x)) : ∀ {vs : List V} {xs : List α}, All2 R vs xs → DpAll K H vs (xs.map f)
  | [], [], _ => .nil
  | [], _ :: _, a => by have := a.1; simp at this
  | _ :: _, [], a => by have := a.1; simp at this
  | _ :: _, _ :: _, a => .cons (h _ _ a.head) (dp_all h a.tail)
theorem GateV.dp {v : V} {g : Gt} (h : GateV K H v g) : Dp K H v (gateD g) := by
  obtain ⟨a, rfl, s⟩ := h
  exact .tup s (.cons (.str _) (.cons (.int _) .nil))
theorem ints_dp : ∀ l : List Int, DpAll K H (l.map V.int) (l.map PyData.int)
  | [] => .nil
  | i :: l => .cons (.int i) (ints_dp l)
theorem nats_dp : ∀ l : List Nat, DpAll K H (l.map fun i => V.int (i : Nat)) (l.map fun i => PyData.int (i : Nat))
  | [] => .nil
  | i :: l => .cons (.int _) (nats_dp l)
theorem WireV.dp {v : V} {x : Wr} (h : WireV K H v x) : Dp K H v (wireD x) := by
  obtain ⟨a, b, rfl, s1, s2⟩ := h
  exact .tup s1 (.cons (.int _) (.cons (.int _) (.cons (.tup s2 (ints_dp _)) .nil)))
theorem RG.dp {l : Addr} {gs : List Gt} (h : RG K H l gs) : Dp K H (.ref l) (gatesD gs) := by
  obtain ⟨vs, s, a⟩ := h
  exact .lst s (dp_all (fun _ _ r => GateV.dp r) a)
theorem RW.dp {l : Addr} {ws : List Wr} (h : RW K H l ws) : Dp K H (.ref l) (wiresD ws) := by
  obtain ⟨vs, s, a⟩ := h
  exact .lst s (dp_all (fun _ _ r => WireV.dp r) a)
theorem dp_ints {l : Addr} {xs : List Nat} (h : SqL K H l (xs.map fun i => V.int (i : Nat))) : Dp K H (.ref l) (intsD xs) := .lst h (nats_dp xs)
end
/-! ### Net.__eq__ -/
structure NTy (K : PySem.W.Frag) (C : Addr) : Prop where
  ha : PySem.W.findIn K (.ref C) "__class__" = some (some (.builtin "object.__class__"))
  hn : PySem.W.specialIn K (.builtin "object.__class__") "__get__" = some (some (.builtin "getset_descriptor.__get__"))
  htk : PySem.W.takesIn K (.builtin "object.__class__") = some true
  hm : PySem.W.mroIn K C (.type "object") = some true
theorem ty_net {K : PySem.W.Frag} {mg : Str → Option Value} {C : Addr} {H : Hp} {p dx : Addr} {fs : List (Str × V)} (T : NT K mg C) (Y : NTy K C) (h : H p = some (.ins C dx fs)) : TyOf K H (.ref p) (.ref C) := .ins h T.cl Y.ha Y.hn Y.htk Y.hm
def spEqN (K : PySem.W.Frag) (C : Addr) : Sp := fun vs H Q _ => ∃ (p lg lw : Addr) (gs : List Gt) (ws : List Wr) (y : V), vs = [.ref p, y] ∧ NetAt K C H p lg lw gs ws ∧
  ((∃ (q lg' lw' : Addr) (gs' : List Gt) (ws' : List Wr), y = .ref q ∧ NetAt K C H q lg' lw' gs' ws' ∧ (∀ g ∈ gs, GOk g) ∧ (∀ g ∈ gs', GOk g) ∧ Q (.bl (decide (gs = gs') && decide (ws = ws'))) H) ∨
    (∃ t, TyX K H y t ∧ PySem.W.kitOne K t (.ref C) = some false ∧ Q (.bl false) H))
section
variable {P : Program} {w : World} {K : PySem.W.Frag} {mg : Str → Option Value} {base : Heap}
theorem scEq : FnScope ["self", "other"] ["self", "other"] (defScope sEq) := ⟨rfl, rfl, rfl, by decide +kernel, rfl, by decide +kernel, by decide +kernel⟩
theorem kit_self {K : PySem.W.Frag} (C : Addr) : PySem.W.kitOne K (.ref C) (.ref C) = some true := by
  unfold PySem.W.kitOne
  rw [if_pos (beq_self_eq_true _)]
theorem ok_eqN {f C : Addr} {fd : FuncData} (F : Fun K "__eq__" "Net.__eq__" sEq f fd) (T : NT K mg C) (Y : NTy K C) (B : Bt mg) : FnOk P w K mg base CX0 1 f fd ["self", "other"] (spEqN K C) := by
  refine F.ok scEq (fun vs H Q E h => ?_) (fun cdv A outer s H vs Q E hr h => ?_)
  · obtain ⟨p, lg, lw, gs, ws, y, rfl, _⟩ := h
    rfl
  · obtain ⟨p, lg, lw, gs, ws, y, rfl, N, h⟩ := h
    refine ⟨_, pss_one <| ps_ret <| pe_and (pe_callB call_isi (by rfl) B.isi (by decide +kernel) (pa_cons (pv 1) (pa_cons (pe_glob (v := .ref C) (by rfl) T.mg rfl) pa_nil))) <|
      pe_and (pe_cmpR (op_eqD hr.units) (pe_fld (pv 0) rfl) (pe_fld (pv 1) rfl) (nomark _)) <| pe_one <| pe_cmpR (op_eqD hr.units) (pe_fld (pv 0) rfl) (pe_fld (pv 1) rfl) (nomark _), ?_⟩
    obtain ⟨dx, hp⟩ := N.ob
    rcases h with ⟨q, lg', lw', gs', ws', rfl, N', gok, gok', k⟩ | ⟨t, ty, kt, k⟩
    · obtain ⟨dx', hq⟩ := N'.ob
      refine ⟨_, rfl, _, _, _, _, true, rfl, .own C, .base (ty_net T Y hq), kit_self C, true, rfl, iteT ?_⟩
      refine ⟨_, rfl, p, C, dx, _, _, rfl, hp, T.cl, T.nG, nf_gates _ _, _, rfl, q, C, dx', _, _, rfl, hq, T.cl, T.nG, nf_gates _ _, _, _, N.g.rg.dp, N'.g.rg.dp, (sh_gates gok).ok (by decide), (sh_gates gok').ok (by decide), _, rfl, ?_⟩
      rw [gatesD_eq]
      cases e : decide (gs = gs') with
      | false =>
        rw [e] at k
        exact iteF k
      | true =>
        rw [e] at k
        refine iteT ⟨_, rfl, p, C, dx, _, _, rfl, hp, T.cl, T.nW, nf_wires _ _, _, rfl, q, C, dx', _, _, rfl, hq, T.cl, T.nW, nf_wires _ _, _, _, N.w.rw.dp, N'.w.rw.dp, (sh_wires _).ok (by decide), (sh_wires _).ok (by decide), ?_⟩
        rw [wiresD_eq]
        exact k
    · exact ⟨_, rfl, _, _, _, _, false, rfl, .own C, ty, kt, false, rfl, iteF k⟩
end
end Lag

set_option maxRecDepth 100000
set_option maxHeartbeats 4000000
namespace Lag
open PySem PySem.Spec PyProof.Rows L2
/-! ### what keeps a net a net -/
theorem kindAt_set {gs : List Gt} {i j : Nat} {g : Gt} (h : i < gs.length) : kindAt (gs.set i g) j = if j = i then g.1 else kindAt gs j := by
  unfold kindAt
  rw [List.getD_eq_getElem?_getD, List.getD_eq_getElem?_getD, List.getElem?_set]
  by_cases e : i = j
  · subst e
    rw [if_pos rfl, if_pos h, if_pos rfl]
    rfl
  · rw [if_neg e, if_neg (fun z => e z.symm)]
/-- another gate at a place whose gate is no port: no port, and no first where it was none -/
theorem NetOk.setG {gs : List Gt} {ws : List Wr} (N : NetOk gs ws) {i : Nat} {g : Gt} (hi : i < gs.length) (hg : GOk g) (h1 : g.1 ≠ "out") (h2 : g.1 ≠ "in") (h3 : g.1 = "first" → kindAt gs i = "first") : NetOk (gs.set i g) ws := by
  have kk := @kindAt_set gs i
  refine ⟨?_, by rw [List.length_set]; exact N.gl, N.wl, ?_, fun x hx => ?_, fun e he hk => ?_, fun e he hk => ?_, N.rank⟩
  · intro z
    have := congrArg List.length z
    rw [List.length_set] at this
    exact N.ne (List.length_eq_zero_iff.mp this)
  · intro y hy
    rcases List.mem_or_eq_of_mem_set hy with hy | hy
    · exact N.gok y hy
    · rw [hy]
      exact hg
  · have W := N.wok x hx
    refine ⟨by rw [List.length_set]; exact W.s, by rw [List.length_set]; exact W.e, ?_, ?_, W.r, W.rl⟩
    · rw [kk hi]
      split
      · exact h1
      · exact W.ks
    · rw [kk hi]
      split
      · exact h2
      · exact W.ke
  · rw [List.length_set] at he
    rw [kk hi] at hk
    split at hk
    · exact absurd hk h1
    · exact N.one e he hk
  · rw [List.length_set] at he
    rw [kk hi] at hk
    split at hk
    · rename_i hei
      subst hei
      exact N.some _ he (h3 hk)
    · exact N.some e he hk
theorem kindAt_app {gs : List Gt} {g : Gt} {j : Nat} (h : j < gs.length) : kindAt (gs ++ [g]) j = kindAt gs j := by
  unfold kindAt
  rw [List.getD_eq_getElem?_getD, List.getD_eq_getElem?_getD, List.getElem?_append_left h]
theorem NetOk.addIn {gs : List Gt} {ws : List Wr} (N : NetOk gs ws) (hl : gs.length < 100) : NetOk (gs ++ [(("in" : Str), (0 : Int))]) ws := by
  have kl : kindAt (gs ++ [(("in" : Str), (0 : Int))]) gs.length = "in" := by
    unfold kindAt
    rw [List.getD_eq_getElem?_getD, List.getElem?_append_right (Nat.le_refl _), Nat.sub_self]
    rfl
  refine ⟨by simp, by simp; omega, N.wl, ?_, fun x hx => ?_, fun e he hk => ?_, fun e he hk => ?_, N.rank⟩
  · intro y hy
    rcases List.mem_append.mp hy with hy | hy
    · exact N.gok y hy
    · simp at hy
      subst hy
      exact ⟨by show ("in" : Str) ∈ kinds; decide +kernel, Int.le_refl 0, (by show (0 : Int) ≤ 100; decide), fun _ => rfl⟩
  · have W := N.wok x hx
    exact ⟨by have := W.s; simp; omega, by have := W.e; simp; omega, by rw [kindAt_app W.s]; exact W.ks, by rw [kindAt_app W.e]; exact W.ke, W.r, W.rl⟩
  · by_cases h : e < gs.length
    · rw [kindAt_app h] at hk
      exact N.one e h hk
    · have : e = gs.length := by simp at he; omega
      subst this
      rw [kl] at hk
      exact absurd hk (by decide +kernel)
  · by_cases h : e < gs.length
    · rw [kindAt_app h] at hk
      exact N.some e h hk
    · have : e = gs.length := by simp at he; omega
      subst this
      rw [kl] at hk
      exact absurd hk (by decide +kernel)
theorem cnt_set {ws : List Wr} {i : Nat} {x y : Wr} (h : ws[i]? = some x) (he : y.2.1 = x.2.1) (e : Nat) : cnt (ws.set i y) e = cnt ws e := by
  obtain ⟨hi, rfl⟩ := List.getElem?_eq_some_iff.mp h
  have h1 : ws.set i y = ws.take i ++ y :: ws.drop (i + 1) := List.set_eq_take_append_cons_drop .. |>.trans (by rw [if_pos hi])
  have h2 : ws = ws.take i ++ ws[i] :: ws.drop (i + 1) := by rw [List.getElem_cons_drop, List.take_append_drop]
  unfold cnt
  conv => rhs; rw [h2]
  rw [h1, List.countP_append, List.countP_append, List.countP_cons, List.countP_cons, he]
/-- a wire with other registers, one at least -/
theorem NetOk.setW {gs : List Gt} {ws : List Wr} (N : NetOk gs ws) {i : Nat} {x : Wr} {r : List Int} (h : ws[i]? = Option.some x) (hr : ROk r) (hl : r.length ≤ 100) (hne : r ≠ []) : NetOk gs (ws.set i (x.1, x.2.1, r)) := by
  have W := N.wok x (List.mem_of_getElem? h)
  obtain ⟨ρ, hρ⟩ := N.rank
  refine ⟨N.ne, N.gl, by rw [List.length_set]; exact N.wl, N.gok, fun y hy => ?_, fun e he hk => ?_, fun e he hk => ?_, ρ, fun y hy hyr => ?_⟩
  · rcases List.mem_or_eq_of_mem_set hy with hy | hy
    · exact N.wok y hy
    · rw [hy]
      exact ⟨W.s, W.e, W.ks, W.ke, hr, hl⟩
  · rw [cnt_set (y := (x.1, x.2.1, r)) h rfl]
    exact N.one e he hk
  · rw [cnt_set (y := (x.1, x.2.1, r)) h rfl]
    exact N.some e he hk
  · rcases List.mem_or_eq_of_mem_set hy with hy | hy
    · exact hρ y hy hyr
    · rw [hy] at hyr
      exact absurd hyr hne
theorem NetOk.perm {gs : List Gt} {ws ws' : List Wr} (N : NetOk gs ws) (p : ws'.Perm ws) : NetOk gs ws' := by
  obtain ⟨ρ, hρ⟩ := N.rank
  have c : ∀ e, cnt ws' e = cnt ws e := fun e => p.countP_eq _
  exact ⟨N.ne, N.gl, by rw [p.length_eq]; exact N.wl, N.gok, fun x hx => N.wok x (p.mem_iff.mp hx), fun e he hk => by rw [c]; exact N.one e he hk, fun e he hk => by rw [c]; exact N.some e he hk, ρ, fun x hx h => hρ x (p.mem_iff.mp hx) h⟩
/-! ### slices -/
theorem take_min {α : Type} (l : List α) (k : Nat) : l.take (min k l.length) = l.take k := by
  by_cases h : k ≤ l.length
  · rw [Nat.min_eq_left h]
  · rw [Nat.min_eq_right (by omega), List.take_length, List.take_of_length_le (by omega)]
theorem drop_min {α : Type} (l : List α) (k : Nat) : l.drop (min k l.length) = l.drop k := by
  by_cases h : k ≤ l.length
  · rw [Nat.min_eq_left h]
  · rw [Nat.min_eq_right (by omega), List.drop_length, List.drop_of_length_le (by omega)]
theorem cut_to {xs : List V} (k : Nat) : cutV xs none (some (k : Int)) = xs.take k := by
  unfold cutV
  rw [HT.sIx_none, HT.sIx_nat, List.drop_zero, Nat.sub_zero, take_min]
theorem cut_from {xs : List V} (k : Nat) : cutV xs (some (k : Int)) none = xs.drop k := by
  unfold cutV
  rw [HT.sIx_none, HT.sIx_nat, drop_min]
  exact List.take_of_length_le (by rw [List.length_drop]; omega)
theorem cut_mid {xs : List V} (j k : Nat) : cutV xs (some (j : Int)) (some (k : Int)) = (xs.take k).drop j := by
  unfold cutV
  rw [HT.sIx_nat, HT.sIx_nat, List.drop_take, drop_min]
  by_cases h : j ≤ xs.length
  · by_cases h2 : k ≤ xs.length
    · rw [Nat.min_eq_left h, Nat.min_eq_left h2]
    · rw [List.take_of_length_le (by rw [List.length_drop]; omega), List.take_of_length_le (by rw [List.length_drop]; omega)]
  · rw [List.drop_of_length_le (by omega)]
    simp
section
variable {α β : Type} {R : α → β → Prop} {xs xs' : List α} {ys ys' : List β}
theorem All2.take (h : All2 R xs ys) (k : Nat) : All2 R (xs.take k) (ys.take k) := by
  refine ⟨by rw [List.length_take, List.length_take, h.1], fun i x y hx hy => ?_⟩
  have hi : i < k := by
    have := (List.getElem?_eq_some_iff.mp hx).1
    rw [List.length_take] at this
    omega
  rw [List.getElem?_take_of_lt hi] at hx hy
  exact h.2 i x y hx hy
theorem All2.drop (h : All2 R xs ys) (k : Nat) : All2 R (xs.drop k) (ys.drop k) := by
  refine ⟨by rw [List.length_drop, List.length_drop, h.1], fun i x y hx hy => ?_⟩
  rw [List.getElem?_drop] at hx hy
  exact h.2 _ x y hx hy
theorem All2.append (h : All2 R xs ys) (h' : All2 R xs' ys') : All2 R (xs ++ xs') (ys ++ ys') := by
  induction xs generalizing ys with
  | nil =>
    cases ys with
    | nil => exact h'
    | cons _ _ => have := h.1; simp at this
  | cons x xs ih =>
    cases ys with
    | nil => have := h.1; simp at this
    | cons y ys => exact All2.cons h.head (ih h.tail)
theorem All2.reverse (h : All2 R xs ys) : All2 R xs.reverse ys.reverse := by
  induction xs generalizing ys with
  | nil =>
    cases ys with
    | nil => exact h
    | cons _ _ => have := h.1; simp at this
  | cons x xs ih =>
    cases ys with
    | nil => have := h.1; simp at this
    | cons y ys =>
      rw [List.reverse_cons, List.reverse_cons]
      exact (ih h.tail).snoc h.head
theorem All2.one {x : α} {y : β} (r : R x y) : All2 R [x] [y] := All2.cons r All2.nil
end
theorem set_cut {α : Type} {l : List α} {i : Nat} {y : α} (h : i < l.length) : l.take i ++ [y] ++ l.drop (i + 1) = l.set i y := by
  rw [List.set_eq_take_append_cons_drop, if_pos h, List.append_assoc]
  rfl
theorem swap_perm {α : Type} (l : List α) (i : Nat) : (l.take i ++ ((l.take (i + 2)).drop i).reverse ++ l.drop (i + 2)).Perm l := by
  have e : l = l.take i ++ (l.take (i + 2)).drop i ++ l.drop (i + 2) := by
    have h1 : l.take i = (l.take (i + 2)).take i := by rw [List.take_take, Nat.min_eq_left (by omega)]
    rw [h1, List.take_append_drop, List.take_append_drop]
  conv => rhs; rw [e]
  exact ((List.Perm.refl _).append (List.reverse_perm _)).append (List.Perm.refl _)
end Lag

set_option maxRecDepth 100000
set_option maxHeartbeats 8000000
namespace Lag
open PySem PySem.Spec PyProof.Rows L2
abbrev sDigit : Stmt := topS 76 -- @_law_digit
abbrev sGates : Stmt := topS 77 -- @_law_gates
abbrev sLWorths : Stmt := topS 78 -- @_law_worths
theorem st_norm {f : L2.St → Hp → Prop} {σ σ' : L2.St} {H : Hp} (e : σ = σ') (h : f σ' H) : f σ H := e ▸ h
theorem gn_norm {i : Nat} {x : V} {σ σ' : L2.St} {H : Hp} {N : L2.St → Hp → Prop} (e : σ.set i (some x) = σ') (h : N σ' H) : gName i x σ H N := by
  subst e
  exact h
theorem All2.pushT {α : Type} {R : Hp → V → α → Prop} {H H2 : Hp} {D : Addr} {acc : List V} {l : List α} {v : V} {x : α} {o : HO} (mono : ∀ {H H' : Hp} {v : V} {x : α}, TK H H' → R H v x → R H' v x) (h : All2 (R H) acc l) (hD : H2 D = some (.lst acc)) (t : TK H H2) (r : R H2 v x) : All2 (R (upd H2 D o)) (acc ++ [v]) (l ++ [x]) :=
  (h.imp fun _ _ r => mono (t.trans (TK.lst hD)) r).snoc (mono (TK.lst hD) r)
def rTupOf (K : PySem.W.Frag) : List V → Hp → VK → Prop := fun xs H Q => ∃ p ys, xs = [.ref p] ∧ ((SqL K H p ys ∧ ∀ l, H l = none → Q (.ref l) (upd H l (.tup ys))) ∨ (SqT K H p ys ∧ Q (.ref p) H))
theorem mod_b {x n : Int} (h : 0 < n) (hn : n ≤ 4294967296) : -(2 ^ 64) < x % n ∧ x % n < 2 ^ 64 := by
  have h1 := Int.emod_nonneg x (show n ≠ 0 by omega)
  have h2 := Int.emod_lt_of_pos x h
  constructor
  · have e : (-(2 ^ 64) : Int) = -18446744073709551616 := by decide
    omega
  · have e : (2 ^ 64 : Int) = 18446744073709551616 := by decide
    omega
/-! ### _law_digit -/
def spDraw : Sp := fun vs H Q _ => ∃ (w : Addr) (n : Int), vs = [.ref w, .int n] ∧ 0 < n ∧ n < 1000000 ∧ WellAt w H ∧ ∀ d H', 0 ≤ d → d < n → Dr w H H' → Q (.int d) H'
section
variable {P : Program} {w : World} {K : PySem.W.Frag} {mg : Str → Option Value} {base : Heap}
abbrev nDigit : List Str := ["_law_state", "_law_base", "_law_cell", "_law_found", "_law_number"]
theorem scDigit : FnScope nDigit ["_law_state", "_law_base"] (defScope sDigit) := ⟨rfl, rfl, rfl, by decide +kernel, rfl, by decide +kernel, by decide +kernel⟩
abbrev DDraw (P : Program) (w : World) (K : PySem.W.Frag) (mg : Str → Option Value) (base : Heap) := Df P w K mg base 1 "_law_digit" ["_law_state", "_law_base"] spDraw
theorem ok_digit {f : Addr} {fd : FuncData} (F : Fun K "_law_digit" "_law_digit" sDigit f fd) (hm : mg "_law_digit" = some (.ref f)) (B : Bt mg) : DDraw P w K mg base f fd := by
  refine ⟨?_, hm, F.kp, F.binds fun _ _ _ _ _ _ us hl => match us, hl with | [_, _], _ => rfl⟩
  refine F.ok scDigit (fun vs H Q E h => ?_) (fun cdv A outer s H vs Q E hr h => ?_)
  · obtain ⟨wl, n, rfl, _⟩ := h
    rfl
  · obtain ⟨wl, n, rfl, hn, hn2, ⟨xs, hw, hst⟩, q⟩ := h
    have nd := scDigit.nd
    refine ⟨_, Evl.pss_cut (ps_if (pt_cmpR op_eq (pe_callB call_len_seq (by rfl) B.len PySem.boot_len (pa_cons (pv 0) pa_nil)) pe_int (nomark _))
        (pss_cons (ps_set (i := 2) nd rfl (.inl rfl) (pe_ix ix_list (pv 0) pe_int (fun _ _ => rfl))) <|
          pss_cons (ps_asg (pe_ix ix_list (pe_lst (pa_cons pe_int (pa_cons (pv 2) pa_nil))) (pe_callTy call_int1 (by rfl) B.int (by decide +kernel) (pa_cons (pe_cmpR op_ge (pv 2) (pe_op op_pow pe_int pe_int) (nomark _)) pa_nil)) (fun _ _ => rfl)) (pg_sub (pv 0) pe_int set_list)) <|
          pss_one <| ps_expr <| pe_bm PySem.F.plainAttrs_list PySem.F.slot_list_extend PySem.F.type_list_extend mt_extend (pv 0) <| (pa_cons · pa_nil) <| pe_lst (pa_cons (pe_op op_mod (pv 2) pe_int) (pa_cons pe_int pa_nil))) pss_nil) <|
      pss_cons (ps_if (pt_cmpR op_gt (pe_ix ix_list (pv 0) pe_int (fun _ _ => rfl)) pe_int (nomark _))
        (pss_cons (ps_set (i := 3) nd rfl (Or.inl rfl) (pe_op op_mod (pe_ix ix_list (pv 0) pe_int (fun _ _ => rfl)) (pv 1)))
        (pss_cons (ps_asg (pe_op op_fdiv (pe_ix ix_list (pv 0) pe_int (fun _ _ => rfl)) (pv 1)) (pg_sub (pv 0) pe_int set_list))
        (pss_one (ps_ret (pv 3))))) pss_nil)
      (pss_cons (ps_asg (pe_op op_add (pe_ix ix_list (pv 0) pe_int (fun _ _ => rfl)) pe_int) (pg_sub (pv 0) pe_int set_list))
      (pss_cons (ps_set (i := 4) nd rfl (Or.inl rfl) (pe_op op_mod (pe_op op_mul (pe_op op_add (pe_op op_add (pe_ix ix_list (pv 0) pe_int (fun _ _ => rfl)) (pe_op op_mul pe_int (pe_ix ix_list (pv 0) pe_int (fun _ _ => rfl)))) pe_int) pe_int) pe_int))
      (pss_cons (ps_set (i := 4) nd rfl (Or.inl rfl) (pe_op op_mod (pe_op op_mul (pv 4) (pe_op op_add (pe_op op_fdiv (pv 4) pe_int) pe_int)) pe_int))
      (pss_one (ps_ret (pe_op op_mod (pe_op op_mod (pe_op op_mul (pv 4) (pe_op op_add (pe_op op_fdiv (pv 4) pe_int) pe_int)) pe_int) (pv 1))))))), ?_⟩
    refine ⟨fun σ H' => ∃ (a b c : Int) (s2 : Option V), σ = [some (.ref wl), some (.int n), s2, none, none] ∧ H' wl = some (.lst [.int a, .int b, .int c]) ∧ But wl H H', ?_, ?_⟩
    · refine ⟨_, rfl, wl, xs, rfl, .inl (SqL.of hw), rfl, _, rfl, ite2 (fun e => ?_) (fun e => ?_)⟩
      · have e' : ((xs.length : Nat) : Int) = 1 := V.int.inj (of_decide_eq_true e)
        rcases hst with ⟨a, rfl⟩ | ⟨a, b, c, rfl⟩
        · refine ⟨_, rfl, wl, _, 0, .int a, rfl, rfl, SqL.of hw, atI_nat (j := 0) rfl, ?_⟩
          refine ⟨_, rfl, (by show 2 ≤ sizeLine; decide), fun l hl => ?_⟩
          have nl : wl ≠ l := ne_of_none hw hl
          refine ⟨_, rfl, _, _, rfl, rfl, ⟨by decide, by decide, by decide⟩, _, _, rfl, rfl, .inr ⟨_, rfl, ?_⟩⟩
          refine ⟨l, _, _, .int (if decide (10 ^ (18 : Int).toNat ≤ a) = true then a else 0), rfl, rfl, SqL.of upd_same, ?_, ?_⟩
          · cases decide (10 ^ (18 : Int).toNat ≤ a) with
            | true => rfl
            | false => rfl
          generalize (if decide (10 ^ (18 : Int).toNat ≤ a) = true then a else 0) = a2
          have hw1 : (upd H l (.lst [.int 0, .int a])) wl = some (.lst [.int a]) := by
            rw [upd_ne nl]
            exact hw
          have b1 : But wl H (upd H l (.lst [.int 0, .int a])) := But.new hl
          generalize upd H l (.lst [.int 0, .int a]) = H1 at hw1 b1
          refine ⟨_, rfl, wl, _, 0, 0, rfl, rfl, hw1, rfl, ?_⟩
          have hw2 : (upd H1 wl (.lst [.int a2])) wl = some (.lst [.int a2]) := upd_same
          have b2 : But wl H (upd H1 wl (.lst [.int a2])) := b1.trans But.upd
          show _
          refine ⟨_, rfl, .inl ⟨rfl, _, SqL.of hw2⟩, _, rfl, _, _, rfl, rfl, (by show (0 : Int) < 2147483647; decide), (by show 2 ≤ sizeLine; decide), fun l2 hl2 => ?_⟩
          have nl2 : wl ≠ l2 := ne_of_none hw2 hl2
          refine ⟨wl, l2, [.int a2], _, rfl, rfl, by rw [upd_ne nl2]; exact hw2, upd_same, (by show 1 + 2 ≤ sizeLine; decide), ?_⟩
          exact ⟨_, _, _, _, rfl, upd_same, (b2.trans (But.new hl2)).trans But.upd⟩
        · exact absurd e' (by show ¬ ((3 : Nat) : Int) = 1; decide)
      · rcases hst with ⟨a, rfl⟩ | ⟨a, b, c, rfl⟩
        · exact absurd rfl e
        · exact ⟨a, b, c, _, rfl, hw, But.refl _ _⟩
    rintro σ H0 ⟨a, b, c, s2, rfl, hw0, b0⟩
    have dr : ∀ {a b c : Int} {H' : Hp}, But wl H H' → H' wl = some (.lst [.int a, .int b, .int c]) → Dr wl H H' := fun hb h => ⟨hb, _, h, .inr ⟨_, _, _, rfl⟩⟩
    refine ⟨_, rfl, wl, _, 0, .int a, rfl, rfl, SqL.of hw0, atI_nat (j := 0) rfl, _, _, rfl, rfl, _, rfl, ite2 (fun e => ?_) (fun e => ?_)⟩
    · refine ⟨_, rfl, wl, _, 0, .int a, rfl, rfl, SqL.of hw0, atI_nat (j := 0) rfl, _, rfl, _, _, rfl, rfl, hn, ?_⟩
      refine ⟨_, rfl, wl, _, 0, .int a, rfl, rfl, SqL.of hw0, atI_nat (j := 0) rfl, _, rfl, _, _, rfl, rfl, ⟨hn, by omega⟩, ?_⟩
      refine ⟨_, rfl, wl, _, 0, 0, rfl, rfl, hw0, rfl, ?_⟩
      refine ⟨_, rfl, ?_⟩
      exact q _ _ (Int.emod_nonneg _ (by omega)) (Int.emod_lt_of_pos _ hn) (dr (b0.trans But.upd) upd_same)
    · have h1 : (upd H0 wl (HO.lst [.int a, .int b, .int (c + 1)])) wl = some (.lst [.int a, .int b, .int (c + 1)]) := upd_same
      refine ⟨_, rfl, wl, _, 2, .int c, rfl, rfl, SqL.of hw0, atI_nat (j := 2) rfl, _, _, rfl, rfl, ?_⟩
      refine ⟨_, rfl, wl, _, 2, 2, rfl, rfl, hw0, rfl, ?_⟩
      refine ⟨_, rfl, wl, _, 1, .int b, rfl, rfl, SqL.of h1, atI_nat (j := 1) rfl, _, rfl, wl, _, 2, .int (c + 1), rfl, rfl, SqL.of h1, atI_nat (j := 2) rfl, _, _, rfl, rfl, .inl ⟨by decide, by decide⟩, _, _, rfl, rfl, _, _, rfl, rfl, _, _, rfl, rfl, .inr ⟨by decide, by decide⟩, _, _, rfl, rfl, (by show (0 : Int) < 2147483647; decide), ?_⟩
      refine ⟨_, rfl, _, rfl, _, _, rfl, rfl, ⟨by decide, by decide⟩, _, _, rfl, rfl, _, _, rfl, rfl, .inl (mod_b (by decide) (by decide)), _, _, rfl, rfl, (by show (0 : Int) < 2147483647; decide), ?_⟩
      refine ⟨_, rfl, _, rfl, _, _, rfl, rfl, ⟨by decide, by decide⟩, _, _, rfl, rfl, _, _, rfl, rfl, .inl (mod_b (by decide) (by decide)), _, _, rfl, rfl, (by show (0 : Int) < 2147483399; decide), _, rfl, _, _, rfl, rfl, hn, ?_⟩
      exact q _ _ (Int.emod_nonneg _ (by omega)) (Int.emod_lt_of_pos _ hn) (dr (b0.trans But.upd) h1)
end
/-! ### _law_gates -/
def inG : Gt := ("in", 0)
def outG : Gt := ("out", 0)
def innP (k : Str) : Bool := k != "in" && k != "out"
def nInn (gs : List Gt) : Nat := gs.countP fun g => innP g.1
structure GSh (gs : List Gt) (a b : Nat) : Prop where
  ex : ∃ mid c, gs = List.replicate a inG ++ mid ++ List.replicate c outG ∧ mid.length = b ∧ 1 ≤ c ∧ c ≤ 2 ∧ ∀ g ∈ mid, GOk g ∧ g.1 ≠ "in" ∧ g.1 ≠ "out"
  a2 : a ≤ 2
  b1 : 1 ≤ b
  b2 : b ≤ 20
def spGates (K : PySem.W.Frag) : Sp := fun vs H Q _ => ∃ (wl : Addr) (m : Int), vs = [.ref wl, .int m] ∧ 0 < m ∧ m ≤ 20 ∧ WellAt wl H ∧ ∀ t lg gs (a b : Nat) H', Dr wl H H' → H' t = some (.tup [.ref lg, .int (a : Nat), .int (b : Nat)]) → H lg = none → LG K H' lg gs → GSh gs a b → (b : Int) ≤ m → Q (.ref t) H'
def inner7 : List Str := ["sum", "times", "most", "least", "first", "one", "sum"]
theorem inner7_ok : ∀ k ∈ inner7, k ∈ kinds ∧ k ≠ "in" ∧ k ≠ "out" := by decide +kernel
theorem rep_flat {α : Type} (n : Nat) (x : α) : (List.replicate n [x]).flatten = List.replicate n x := by
  induction n with
  | zero => rfl
  | succ n ih => rw [List.replicate_succ, List.flatten_cons, ih, List.replicate_succ]; rfl
theorem all2_rep {α β : Type} {R : α → β → Prop} {x : α} {y : β} (h : R x y) : ∀ n, All2 R (List.replicate n x) (List.replicate n y)
  | 0 => All2.nil
  | n + 1 => All2.cons h (all2_rep h n)
section
variable {P : Program} {w : World} {K : PySem.W.Frag} {mg : Str → Option Value} {base : Heap}
abbrev nGates : List Str := ["_law_state", "_law_most", "_law_inner", "_law_ins", "_law_gates_here", "_law_k", "_law_kind"]
theorem scGates : FnScope nGates ["_law_state", "_law_most"] (defScope sGates) := ⟨rfl, rfl, rfl, by decide +kernel, rfl, by decide +kernel, by decide +kernel⟩
abbrev DGates (P : Program) (w : World) (K : PySem.W.Frag) (mg : Str → Option Value) (base : Heap) := Df P w K mg base 2 "_law_gates" ["_law_state", "_law_most"] (spGates K)
theorem ok_gates {f fD : Addr} {fd fdD : FuncData} (F : Fun K "_law_gates" "_law_gates" sGates f fd) (hm : mg "_law_gates" = some (.ref f)) (B : Bt mg) (DD : DDraw P w K mg base fD fdD) : DGates P w K mg base f fd := by
  refine ⟨?_, hm, F.kp, F.binds fun _ _ _ _ _ _ us hl => match us, hl with | [_, _], _ => rfl⟩
  refine F.ok scGates (fun vs H Q E h => ?_) (fun cdv A outer s H vs Q E hr h => ?_)
  · obtain ⟨wl, m, rfl, _⟩ := h
    rfl
  · obtain ⟨wl, m, rfl, hm0, hm1, hw, q⟩ := h
    have nd := scGates.nd
    refine ⟨_, pss_cons (ps_set (i := 2) nd rfl (.inl rfl) (pe_op op_add pe_int (pe_call DD.ok hr (by rfl) DD.mg DD.kp DD.bd .nil pass0 (pa_cons (pv 0) (pa_cons (pv 1) pa_nil))))) <|
      pss_cons (ps_set (i := 3) nd rfl (.inl rfl) (pe_call DD.ok hr (by rfl) DD.mg DD.kp DD.bd .nil pass0 (pa_cons (pv 0) (pa_cons pe_int pa_nil)))) <|
      pss_cons (ps_set (i := 4) nd rfl (.inl rfl) (pe_op op_rep (pe_lst (pa_cons (pe_tup (pa_cons pe_str (pa_cons pe_int pa_nil))) pa_nil)) (pv 3))) <|
      pss_cons (ps_for PassesOwn.never rfl (pi_range1 (by rfl) B.range (pa_cons (pv 2) pa_nil)) (pg_name (i := 5) nd rfl (.inl rfl)) <|
        pss_cons (ps_set (i := 6) nd rfl (.inl rfl) (pe_ix ix_list (pe_lst (pa_cons pe_str (pa_cons pe_str (pa_cons pe_str (pa_cons pe_str (pa_cons pe_str (pa_cons pe_str (pa_cons pe_str pa_nil)))))))) (pe_call DD.ok hr (by rfl) DD.mg DD.kp DD.bd .nil pass0 (pa_cons (pv 0) (pa_cons pe_int pa_nil))) (fun _ _ => rfl))) <|
        pss_one <| ps_expr <| pe_bm PySem.F.plainAttrs_list PySem.F.slot_list_append PySem.F.type_list_append mt_append (pv 4) <| (pa_cons · pa_nil) <| pe_tup <| pa_cons (pv 6) <| (pa_cons · pa_nil) <|
          pe_ix ix_list (pe_lst (pa_cons (pe_call DD.ok hr (by rfl) DD.mg DD.kp DD.bd .nil pass0 (pa_cons (pv 0) (pa_cons pe_int pa_nil))) (pa_cons (pe_call DD.ok hr (by rfl) DD.mg DD.kp DD.bd .nil pass0 (pa_cons (pv 0) (pa_cons pe_int pa_nil))) (pa_cons pe_int (pa_cons pe_int pa_nil))))) (pe_call DD.ok hr (by rfl) DD.mg DD.kp DD.bd .nil pass0 (pa_cons (pv 0) (pa_cons pe_int pa_nil))) (fun _ _ => rfl)) <|
      pss_one <| ps_ret <| pe_tup <| pa_cons (pe_op op_cat (pv 4) (pe_op op_rep (pe_lst (pa_cons (pe_tup (pa_cons pe_str (pa_cons pe_int pa_nil))) pa_nil)) (pe_op op_add pe_int (pe_call DD.ok hr (by rfl) DD.mg DD.kp DD.bd .nil pass0 (pa_cons (pv 0) (pa_cons pe_int pa_nil)))))) <| pa_cons (pv 3) <| pa_cons (pv 2) pa_nil, ?_⟩
    refine ⟨_, rfl, _, rfl, wl, m, rfl, hm0, by omega, hw, fun d1 H1 d10 d11 E1 => ⟨_, _, rfl, rfl, ?_⟩⟩
    refine ⟨_, rfl, wl, 3, rfl, by decide, by decide, E1.well, fun d2 H2 d20 d21 E2 => ?_⟩
    obtain ⟨a, rfl⟩ : ∃ a : Nat, d2 = (a : Int) := ⟨d2.toNat, by omega⟩
    obtain ⟨b0, rfl⟩ : ∃ b : Nat, d1 = (b : Int) := ⟨d1.toNat, by omega⟩
    have D2 := E1.trans E2
    refine ⟨(by show 2 ≤ sizeLine; decide), fun t3 ht3 => ?_⟩
    have D3 := D2.trans (Dr.new (o := .tup [.str "in", .int 0]) D2.well ht3)
    have et3 : SqT K (upd H2 t3 (.tup [.str "in", .int 0])) t3 [.str "in", .int 0] := .inl (.inl upd_same)
    generalize upd H2 t3 (.tup [.str "in", .int 0]) = H3 at D3 et3
    refine ⟨(by show 1 ≤ sizeLine; decide), fun l4 hl4 => ?_⟩
    have D4 := D3.trans (Dr.new (o := .lst [.ref t3]) D3.well hl4)
    have et4 := (TK.new (o := .lst [.ref t3]) hl4).seq et3
    have el4 : (upd H3 l4 (.lst [.ref t3])) l4 = some (.lst [.ref t3]) := upd_same
    generalize upd H3 l4 (.lst [.ref t3]) = H4 at D4 et4 el4
    refine ⟨_, rfl, l4, _, _, rfl, rfl, el4, by omega, by omega, ?_, fun lg hlg => ?_⟩
    · show 1 * _ ≤ sizeLine
      exact Nat.le_of_lt (small1000 (by omega))
    rw [Int.toNat_natCast, rep_flat]
    have D5 := D4.trans (Dr.new (o := .lst (List.replicate a (V.ref t3))) D4.well hlg)
    have et5 := (TK.new (o := .lst (List.replicate a (V.ref t3))) hlg).seq et4
    have el5 : (upd H4 lg (.lst (List.replicate a (V.ref t3)))) lg = some (.lst (List.replicate a (V.ref t3))) := upd_same
    have nlg : lg ≠ wl := (D4.well.ne hlg).symm
    have hlg0 : H lg = none := D4.free hw hlg
    generalize upd H4 lg (.lst (List.replicate a (V.ref t3))) = H5 at D5 et5 el5
    refine gn_norm (σ' := [some (.ref wl), some (.int m), some (.int (1 + (b0 : Nat))), some (.int (a : Nat)), some (.ref lg), none, none]) rfl ?_
    refine ⟨_, rfl, _, rfl, by omega, by omega, for_range (lo := 0) (n := (1 + ((b0 : Nat) : Int)).toNat) (fun i σ H' => ∃ (s5 s6 : Option V) (acc : List V) (mid : List Gt), σ = [some (.ref wl), some (.int m), some (.int (1 + (b0 : Nat))), some (.int (a : Nat)), some (.ref lg), s5, s6] ∧ H' lg = some (.lst acc) ∧ All2 (GateV K H') acc (List.replicate a inG ++ mid) ∧ mid.length = i ∧ (∀ g ∈ mid, GOk g ∧ g.1 ≠ "in" ∧ g.1 ≠ "out") ∧ Dr wl H H')
      ⟨_, _, _, [], rfl, el5, by rw [List.append_nil]; exact all2_rep ⟨t3, rfl, et5⟩ a, rfl, by simp, D5⟩ ?_ ?_⟩
    · rintro i σ H6 hi ⟨s5, s6, acc, mid, rfl, hacc, haa, hml, hmid, D6⟩
      have hal : acc.length = a + i := by rw [haa.1, List.length_append, List.length_replicate, hml]
      refine ⟨(by show 7 ≤ sizeLine; decide), fun l7 hl7 => ?_⟩
      have D7 := D6.trans (Dr.new (o := .lst (inner7.map V.str)) D6.well hl7)
      have E67 := Dr.new (o := .lst (inner7.map V.str)) D6.well hl7
      refine ⟨_, rfl, wl, 7, rfl, by decide, by decide, D7.well, fun k8 H8 k80 k81 E8 => ?_⟩
      have el7 := E8.but _ _ (D6.well.ne hl7).symm (upd_same (H := H6) (a := l7) (o := .lst (inner7.map V.str)))
      have hk8 : k8.toNat < (inner7.map V.str).length := by show k8.toNat < 7; omega
      refine ⟨l7, inner7.map V.str, k8, (inner7.map V.str)[k8.toNat], rfl, rfl, SqL.of el7, at_of (j := k8.toNat) (by omega) (List.getElem?_eq_getElem hk8), ?_⟩
      obtain ⟨kd, hkd, ekd⟩ := List.mem_map.mp (List.getElem_mem hk8)
      rw [← ekd]
      have hk := inner7_ok kd hkd
      have E68 := E67.trans E8
      have D8 := D6.trans E68
      have hacc8 := E68.but _ _ nlg hacc
      refine gn_norm (σ' := [some (.ref wl), some (.int m), some (.int (1 + (b0 : Nat))), some (.int (a : Nat)), some (.ref lg), some (.int (0 + (i : Nat))), some (.str kd)]) rfl ?_
      refine ⟨_, rfl, .inl ⟨rfl, _, SqL.of hacc8⟩, _, rfl, _, rfl, wl, 10, rfl, by decide, by decide, D8.well, fun z1 H9 z10 z11 E9 => ?_⟩
      refine ⟨_, rfl, wl, 4, rfl, by decide, by decide, E9.well, fun z2 H10 z20 z21 E10 => ?_⟩
      refine ⟨(by show 4 ≤ sizeLine; decide), fun l10 hl10 => ?_⟩
      have E11 := (E9.trans E10).trans (Dr.new (o := .lst [.int z1, .int z2, .int 0, .int 100]) E10.well hl10)
      refine ⟨_, rfl, wl, 4, rfl, by decide, by decide, E11.well, fun j H12 j0 j1 E12 => ?_⟩
      have el10 := E12.but _ _ (E10.well.ne hl10).symm (upd_same (H := H10) (a := l10) (o := .lst [.int z1, .int z2, .int 0, .int 100]))
      obtain ⟨wt, hwt, w0, w1⟩ : ∃ wt : Int, ([.int z1, .int z2, .int 0, .int 100] : List V)[j.toNat]? = some (.int wt) ∧ 0 ≤ wt ∧ wt ≤ 100 := by
        rcases (by omega : j.toNat = 0 ∨ j.toNat = 1 ∨ j.toNat = 2 ∨ j.toNat = 3) with h | h | h | h <;> rw [h]
        · exact ⟨z1, rfl, z10, by omega⟩
        · exact ⟨z2, rfl, z20, by omega⟩
        · exact ⟨0, rfl, by decide, by decide⟩
        · exact ⟨100, rfl, by decide, by decide⟩
      refine ⟨l10, _, j, .int wt, rfl, rfl, SqL.of el10, at_of (j := j.toNat) (by omega) hwt, (by show 2 ≤ sizeLine; decide), fun p hp => ?_⟩
      have E13 := (E68.trans (E11.trans E12)).trans (Dr.new (o := .tup [.str kd, .int wt]) E12.well hp)
      have hacc13 := E13.but _ _ nlg hacc
      refine ⟨lg, acc, _, rfl, rfl, hacc13, small1000 (by omega), ?_⟩
      refine ⟨_, _, acc ++ [.ref p], mid ++ [(kd, wt)], rfl, upd_same, ?_, by simp [hml], fun g hg => ?_, set_well (D6.trans E13) hlg0 nlg⟩
      · rw [← List.append_assoc]
        exact All2.pushT (fun t r => GateV.tk t r) haa hacc13 (TK.dr D6.well E13.but) ⟨p, rfl, .inl (.inl upd_same)⟩
      · rcases List.mem_append.mp hg with hg | hg
        · exact hmid g hg
        · simp at hg
          subst hg
          exact ⟨⟨hk.1, w0, w1, fun hp => by
            rcases hp with z | z
            · exact absurd z hk.2.1
            · exact absurd z hk.2.2⟩, hk.2.1, hk.2.2⟩
    · rintro σ H6 ⟨s5, s6, acc, mid, rfl, hacc, haa, hml, hmid, D6⟩
      have hal : acc.length = a + mid.length := by rw [haa.1, List.length_append, List.length_replicate]
      have hml' : mid.length = 1 + b0 := by omega
      refine ⟨_, rfl, (by show 2 ≤ sizeLine; decide), fun t7 ht7 => ?_⟩
      have E7 := Dr.new (o := .tup [.str "out", .int 0]) D6.well ht7
      have et7 : SqT K (upd H6 t7 (.tup [.str "out", .int 0])) t7 [.str "out", .int 0] := .inl (.inl upd_same)
      generalize upd H6 t7 (.tup [.str "out", .int 0]) = H7 at E7 et7
      refine ⟨(by show 1 ≤ sizeLine; decide), fun l8 hl8 => ?_⟩
      have E8 := E7.trans (Dr.new (o := .lst [.ref t7]) E7.well hl8)
      have et8 := (TK.new (o := .lst [.ref t7]) hl8).seq et7
      have el8 : (upd H7 l8 (.lst [.ref t7])) l8 = some (.lst [.ref t7]) := upd_same
      have nl8 : l8 ≠ wl := (E7.well.ne hl8).symm
      generalize upd H7 l8 (.lst [.ref t7]) = H8 at E8 et8 el8
      refine ⟨_, rfl, wl, 2, rfl, by decide, by decide, E8.well, fun d9 H9 d90 d91 E9 => ⟨_, _, rfl, rfl, ?_⟩⟩
      obtain ⟨c0, rfl⟩ : ∃ c : Nat, d9 = (c : Int) := ⟨d9.toNat, by omega⟩
      have et9 := (TK.dr E8.well E9.but).seq et8
      have el9 := E9.but _ _ nl8 el8
      refine ⟨l8, _, _, rfl, rfl, el9, by omega, by omega, ?_, fun l10 hl10 => ?_⟩
      · show 1 * _ ≤ sizeLine
        exact Nat.le_of_lt (small1000 (by omega))
      have ec : (1 + ((c0 : Nat) : Int)).toNat = 1 + c0 := by omega
      rw [ec, rep_flat]
      have E10 := (E8.trans E9).trans (Dr.new (o := .lst (List.replicate (1 + c0) (V.ref t7))) E9.well hl10)
      have et10 := (TK.new (o := .lst (List.replicate (1 + c0) (V.ref t7))) hl10).seq et9
      have el10 : (upd H9 l10 (.lst (List.replicate (1 + c0) (V.ref t7)))) l10 = some (.lst (List.replicate (1 + c0) (V.ref t7))) := upd_same
      generalize upd H9 l10 (.lst (List.replicate (1 + c0) (V.ref t7))) = H10 at E10 et10 el10
      refine ⟨lg, l10, _, _, rfl, rfl, E10.but _ _ nlg hacc, el10, ?_, fun l11 hl11 => ?_⟩
      · rw [List.length_replicate, hal]
        exact Nat.le_of_lt (small1000 (by omega))
      have E11 := E10.trans (Dr.new (o := .lst (acc ++ List.replicate (1 + c0) (V.ref t7))) E10.well hl11)
      have et11 := (TK.new (o := .lst (acc ++ List.replicate (1 + c0) (V.ref t7))) hl11).seq et10
      have el11 : (upd H10 l11 (.lst (acc ++ List.replicate (1 + c0) (V.ref t7)))) l11 = some (.lst (acc ++ List.replicate (1 + c0) (V.ref t7))) := upd_same
      have hl110 : H l11 = none := (D6.trans E10).free hw hl11
      generalize upd H10 l11 (.lst (acc ++ List.replicate (1 + c0) (V.ref t7))) = H11 at E11 et11 el11
      have G11 : LG K H11 l11 (List.replicate a inG ++ mid ++ List.replicate (1 + c0) outG) := ⟨_, el11, (haa.imp fun _ _ r => r.tk (TK.dr D6.well E11.but)).append (all2_rep ⟨t7, rfl, et11⟩ _)⟩
      refine ⟨_, rfl, _, rfl, (by show 3 ≤ sizeLine; decide), fun t12 ht12 => ?_⟩
      have st : Same H11 (upd H11 t12 (.tup [.ref l11, .int (a : Nat), .int (1 + (b0 : Nat))])) := same_new ht12
      refine q t12 l11 _ a (1 + b0) _ ((D6.trans E11).trans ⟨But.same st, E11.well.same st⟩) ?_ hl110 (G11.same st) ⟨⟨mid, 1 + c0, rfl, hml', by omega, by omega, hmid⟩, by omega, by omega, by omega⟩ (by omega)
      rw [upd_same]
      rfl
end
/-! ### _law_worths -/
def spLWorths (K : PySem.W.Frag) : Sp := fun vs H Q _ => ∃ (wl : Addr) (m : Nat), vs = [.ref wl, .int (m : Nat)] ∧ m ≤ 100 ∧ WellAt wl H ∧ ∀ p rs H', Dr wl H H' → H' p = some (.tup (rs.map V.int)) → rs.length = m → ROk rs → Q (.ref p) H'
section
variable {P : Program} {w : World} {K : PySem.W.Frag} {mg : Str → Option Value} {base : Heap}
abbrev nLWorths : List Str := ["_law_state", "_law_many", "_law_k"]
theorem scLWorths : FnScope nLWorths ["_law_state", "_law_many"] (defScope sLWorths) := ⟨rfl, rfl, rfl, by decide +kernel, rfl, by decide +kernel, by decide +kernel⟩
abbrev DLWorths (P : Program) (w : World) (K : PySem.W.Frag) (mg : Str → Option Value) (base : Heap) := Df P w K mg base 2 "_law_worths" ["_law_state", "_law_many"] (spLWorths K)
theorem ok_lworths {f fD : Addr} {fd fdD : FuncData} (F : Fun K "_law_worths" "_law_worths" sLWorths f fd) (hm : mg "_law_worths" = some (.ref f)) (B : Bt mg) (DD : DDraw P w K mg base fD fdD) : DLWorths P w K mg base f fd := by
  refine ⟨?_, hm, F.kp, F.binds fun _ _ _ _ _ _ us hl => match us, hl with | [_, _], _ => rfl⟩
  refine F.ok scLWorths (fun vs H Q E h => ?_) (fun cdv A outer s H vs Q E hr h => ?_)
  · obtain ⟨wl, m, rfl, _⟩ := h
    rfl
  · obtain ⟨wl, m, rfl, hm1, hw, q⟩ := h
    have nd := scLWorths.nd
    refine ⟨_, pss_one <| ps_ret <| pe_callTy call_tuple_of (by rfl) B.tuple (by decide +kernel) <| (pa_cons · pa_nil) <| pe_lc (own := [("_law_k", 2)]) (g := gName 2) (tt := tYes) (te := tCall spDraw [] E0 (tCons (tVar 0) (tCons (tC (.int 97)) tNil))) rfl nd (pi_range1 (by rfl) B.range (pa_cons (pv 1) pa_nil)) (blkOk_by (N := nLWorths) (sc := defScope sLWorths) (own := [("_law_k", 2)]) (by decide +kernel))
      (fun _ _ _ _ _ => pg_name (i := 2) nd rfl (.inl rfl)) (fun _ _ _ _ _ => pts_nil) (fun _ _ _ _ _ => pe_call DD.ok hr (by rfl) DD.mg DD.kp DD.bd .nil pass0 (pa_cons (pv 0) (pa_cons pe_int pa_nil))), ?_⟩
    refine ⟨_, rfl, _, rfl, by omega, by omega, fun R hR => ?_⟩
    have nRw : R ≠ wl := (hw.ne hR).symm
    refine lc_range (lo := 0) (n := ((m : Int)).toNat) (fun i Hc => ∃ rs : List Int, rs.length = i ∧ ROk rs ∧ Hc R = some (.lst (rs.map V.int)) ∧ Dr wl H Hc) ⟨[], rfl, by simp [ROk], upd_same, Dr.new hw hR⟩ ?_ ?_
    · rintro i Hc hi ⟨rs, hl, hr', hc, d⟩
      refine ⟨rfl, tyes ?_⟩
      refine ⟨_, rfl, wl, 97, rfl, by decide, by decide, d.well, fun z H2 z0 z1 E => ?_⟩
      refine ⟨_, E.but _ _ nRw hc, by rw [List.length_map]; exact small1000 (by omega), rs ++ [z], by simp [hl], ?_, ?_, set_well (d.trans E) hR nRw⟩
      · intro y hy
        rcases List.mem_append.mp hy with hy | hy
        · exact hr' y hy
        · simp at hy
          subst hy
          exact ⟨z0, by omega⟩
      · rw [upd_same, List.map_append]
        rfl
    · rintro Hc ⟨rs, hl, hr', hc, d⟩
      refine ⟨R, _, rfl, .inl ⟨SqL.of hc, fun p hp => ?_⟩⟩
      exact q p rs _ (d.trans (Dr.new d.well hp)) upd_same (by omega) hr'
end
end Lag

set_option maxRecDepth 100000
set_option maxHeartbeats 8000000
namespace Lag
open PySem PySem.Spec PyProof.Rows L2
abbrev sLWires : Stmt := topS 79 -- @_law_wires
abbrev sLParts : Stmt := topS 80 -- @_law_parts
abbrev sLLags : Stmt := topS 81 -- @_law_lags
theorem kindAt_i {gs : List Gt} {i : Nat} (h : i < gs.length) : kindAt gs i = gs[i].1 := kindAt_get (List.getElem?_eq_getElem h)
theorem GSh.len {gs : List Gt} {a b : Nat} (h : GSh gs a b) : a + b + 1 ≤ gs.length ∧ gs.length ≤ a + b + 2 := by
  obtain ⟨mid, c, rfl, hm, c1, c2, _⟩ := h.ex
  rw [List.length_append, List.length_append, List.length_replicate, List.length_replicate, hm]
  omega
theorem GSh.kind {gs : List Gt} {a b i : Nat} (h : GSh gs a b) (hi : i < gs.length) : (i < a → kindAt gs i = "in") ∧ (a ≤ i → i < a + b → kindAt gs i ≠ "in" ∧ kindAt gs i ≠ "out") ∧ (a + b ≤ i → kindAt gs i = "out") := by
  obtain ⟨mid, c, rfl, hm, c1, c2, hk⟩ := h.ex
  rw [List.length_append, List.length_append, List.length_replicate, List.length_replicate, hm] at hi
  refine ⟨fun h1 => ?_, fun h1 h2 => ?_, fun h1 => ?_⟩
  · refine kindAt_get (g := inG) ?_
    rw [List.getElem?_append_left (by rw [List.length_append, List.length_replicate]; omega), List.getElem?_append_left (by rw [List.length_replicate]; exact h1), List.getElem?_replicate, if_pos h1]
  · have e : (List.replicate a inG ++ mid ++ List.replicate c outG)[i]? = some (mid[i - a]'(by omega)) := by
      rw [List.getElem?_append_left (by rw [List.length_append, List.length_replicate]; omega), List.getElem?_append_right (by rw [List.length_replicate]; exact h1), List.length_replicate, List.getElem?_eq_getElem]
    rw [kindAt_get e]
    exact (hk _ (List.getElem_mem _)).2
  · refine kindAt_get (g := outG) ?_
    rw [List.getElem?_append_right (by rw [List.length_append, List.length_replicate]; omega), List.length_append, List.length_replicate, List.getElem?_replicate, if_pos (by omega)]
theorem GSh.gok {gs : List Gt} {a b : Nat} (h : GSh gs a b) : ∀ g ∈ gs, GOk g := by
  obtain ⟨mid, c, rfl, hm, c1, c2, hk⟩ := h.ex
  intro g hg
  rcases List.mem_append.mp hg with hg | hg
  · rcases List.mem_append.mp hg with hg | hg
    · rw [List.eq_of_mem_replicate hg]
      exact ⟨by show ("in" : Str) ∈ kinds; decide +kernel, Int.le_refl 0, (by show (0 : Int) ≤ 100; decide), fun _ => rfl⟩
    · exact (hk g hg).1
  · rw [List.eq_of_mem_replicate hg]
    exact ⟨by show ("out" : Str) ∈ kinds; decide +kernel, Int.le_refl 0, (by show (0 : Int) ≤ 100; decide), fun _ => rfl⟩
def spLWires (K : PySem.W.Frag) : Sp := fun vs H Q _ => ∃ (wl lg : Addr) (gs : List Gt) (a b : Nat), vs = [.ref wl, .ref lg, .int (a : Nat), .int (b : Nat)] ∧ WellAt wl H ∧ lg ≠ wl ∧ LG K H lg gs ∧ GSh gs a b ∧ ∀ l ws H', Dr wl H H' → H l = none → LW K H' l ws → WInv gs ws gs.length → Q (.ref l) H'
section
variable {P : Program} {w : World} {K : PySem.W.Frag} {mg : Str → Option Value} {base : Heap}
abbrev nLWires : List Str := ["_law_state", "_law_gates_here", "_law_ins", "_law_inner", "_law_wires_here", "_law_end", "_law_k", "_law_start"]
theorem scLWires : FnScope nLWires ["_law_state", "_law_gates_here", "_law_ins", "_law_inner"] (defScope sLWires) := ⟨rfl, rfl, rfl, by decide +kernel, rfl, by decide +kernel, by decide +kernel⟩
abbrev DLWires (P : Program) (w : World) (K : PySem.W.Frag) (mg : Str → Option Value) (base : Heap) := Df P w K mg base 3 "_law_wires" ["_law_state", "_law_gates_here", "_law_ins", "_law_inner"] (spLWires K)
theorem ok_lwires {f fD fW : Addr} {fd fdD fdW : FuncData} (F : Fun K "_law_wires" "_law_wires" sLWires f fd) (hm : mg "_law_wires" = some (.ref f)) (B : Bt mg) (DD : DDraw P w K mg base fD fdD) (DW : DLWorths P w K mg base fW fdW) : DLWires P w K mg base f fd := by
  refine ⟨?_, hm, F.kp, F.binds fun _ _ _ _ _ _ us hl => match us, hl with | [_, _, _, _], _ => rfl⟩
  refine F.ok scLWires (fun vs H Q E h => ?_) (fun cdv A outer s H vs Q E hr h => ?_)
  · obtain ⟨wl, lg, gs, a, b, rfl, _⟩ := h
    rfl
  · obtain ⟨wl, lg, gs, a, b, rfl, hw, nlg, G, gsh, q⟩ := h
    have nd := scLWires.nd
    have hr1 : Room 1 _ := hr.mono (by decide)
    refine ⟨_, pss_cons (ps_set (i := 4) nd rfl (.inl rfl) (pe_lst pa_nil)) <|
      pss_cons (ps_for PassesOwn.never rfl (pi_range2 (by rfl) B.range (pa_cons (pv 2) (pa_cons (pe_callB call_len_seq (by rfl) B.len PySem.boot_len (pa_cons (pv 1) pa_nil)) pa_nil))) (pg_name (i := 5) nd rfl (.inl rfl)) <|
        pss_one <| ps_for PassesOwn.never rfl (pi_range1 (by rfl) B.range (pa_cons (pe_op op_add pe_int (pe_op op_mul (pe_call DD.ok hr1 (by rfl) DD.mg DD.kp DD.bd .nil pass0 (pa_cons (pv 0) (pa_cons pe_int pa_nil))) (pe_callTy call_int1 (by rfl) B.int (by decide +kernel) (pa_cons (pe_cmpR op_lt (pv 5) (pe_op op_add (pv 2) (pv 3)) (nomark _)) pa_nil)))) pa_nil)) (pg_name (i := 6) nd rfl (.inl rfl)) <|
          pss_cons (ps_set (i := 7) nd rfl (.inl rfl) (pe_call DD.ok hr1 (by rfl) DD.mg DD.kp DD.bd .nil pass0 (pa_cons (pv 0) (pa_cons (pe_op op_add (pv 2) (pv 3)) pa_nil)))) <|
          pss_one <| ps_expr <| pe_bm PySem.F.plainAttrs_list PySem.F.slot_list_append PySem.F.type_list_append mt_append (pv 4) <| (pa_cons · pa_nil) <| pe_tup <| pa_cons (pv 7) <| pa_cons (pv 5) <| (pa_cons · pa_nil) <|
            pe_call DW.ok hr (by rfl) DW.mg DW.kp DW.bd .nil pass0 (pa_cons (pv 0) (pa_cons (pe_op op_add (pe_call DD.ok hr1 (by rfl) DD.mg DD.kp DD.bd .nil pass0 (pa_cons (pv 0) (pa_cons pe_int pa_nil))) (pe_callTy call_int1 (by rfl) B.int (by decide +kernel) (pa_cons (pe_cmpR op_ge (pv 7) (pv 5) (nomark _)) pa_nil))) pa_nil))) <|
      pss_one <| ps_ret (pv 4), ?_⟩
    obtain ⟨gl1, gl2⟩ := gsh.len
    have ha2 := gsh.a2
    have hb1 := gsh.b1
    have hb2 := gsh.b2
    obtain ⟨gv, hgv, ga⟩ := id G
    have hlg : gv.length = gs.length := ga.1
    refine ⟨Nat.zero_le _, fun D hD => ?_⟩
    have nDw : D ≠ wl := (hw.ne hD).symm
    have s0 : Same H (upd H D (.lst [])) := same_new hD
    have D0 : Dr wl H (upd H D (.lst [])) := Dr.new hw hD
    refine ⟨_, rfl, _, rfl, lg, gv, rfl, .inl (s0.seq (SqL.of hgv)), _, _, rfl, ⟨by omega, by omega, by omega, by omega⟩, ?_⟩
    refine for_range (fun i σ H' => ∃ (s5 s6 s7 : Option V) (acc : List V) (ws : List Wr), σ = [some (.ref wl), some (.ref lg), some (.int (a : Nat)), some (.int (b : Nat)), some (.ref D), s5, s6, s7] ∧ H' D = some (.lst acc) ∧ All2 (WireV K H') acc ws ∧ WInv gs ws (a + i) ∧ Dr wl H H')
      ⟨_, _, _, [], [], rfl, upd_same, All2.nil, ⟨by simp, fun e he hk => ?_, fun e he hk => ?_, by simp, by simp⟩, D0⟩ ?_ ?_
    · have h1 := (gsh.kind (i := e) (by omega)).1 he
      rw [h1] at hk
      exact absurd hk (by decide +kernel)
    · have h1 := (gsh.kind (i := e) (by omega)).1 he
      rw [h1] at hk
      exact absurd hk (by decide +kernel)
    · rintro i σ H1 hi ⟨s5, s6, s7, acc, ws, rfl, hacc, haa, wi, D1⟩
      rw [hlg] at hi
      have hie : a + i < gs.length := by omega
      have ee : ((a : Nat) : Int) + ((i : Nat) : Int) = ((a + i : Nat) : Int) := by omega
      rw [ee]
      generalize he : a + i = e at hie wi
      obtain ⟨k1, k2, k3⟩ := gsh.kind hie
      refine ⟨_, rfl, wl, 3, rfl, by decide, by decide, D1.well, fun d H2 d0 d1 E2 => ?_⟩
      refine ⟨_, rfl, _, rfl, _, rfl, _, _, rfl, rfl, _, _, rfl, rfl, .inr ⟨_, rfl, _, _, rfl, rfl, .inl ?_, _, _, rfl, rfl, _, rfl, ?_⟩⟩
      · have e64 : (2 ^ 64 : Int) = 18446744073709551616 := by decide
        exact ⟨by omega, by omega⟩
      have hmany : ∃ mm : Nat, (1 : Int) + d * (if decide (((e : Nat) : Int) < ((a : Nat) : Int) + ((b : Nat) : Int)) = true then 1 else 0) = (mm : Int) ∧ 1 ≤ mm ∧ mm ≤ 3 ∧ (a + b ≤ e → mm = 1) := by
        by_cases hlt : e < a + b
        · refine ⟨1 + d.toNat, ?_, by omega, by omega, fun h => by omega⟩
          rw [if_pos (decide_eq_true (by omega))]
          omega
        · refine ⟨1, ?_, by omega, by omega, fun _ => rfl⟩
          rw [if_neg (by rw [decide_eq_true_eq]; omega)]
          omega
      obtain ⟨mm, hmm, mm1, mm3, mmo⟩ := hmany
      rw [hmm]
      have D2 := D1.trans E2
      refine ⟨by omega, by omega, for_range (lo := 0) (n := ((mm : Nat) : Int).toNat) (fun j σ H' => ∃ (s6 s7 : Option V) (acc : List V) (ws : List Wr), σ = [some (.ref wl), some (.ref lg), some (.int (a : Nat)), some (.int (b : Nat)), some (.ref D), some (.int (e : Nat)), s6, s7] ∧ H' D = some (.lst acc) ∧ All2 (WireV K H') acc ws ∧ WInv2 gs ws e j ∧ Dr wl H H')
        ⟨_, _, acc, ws, rfl, E2.but _ _ nDw hacc, haa.imp fun _ _ r => r.tk (TK.dr D1.well E2.but), wi.go, D2⟩ ?_ ?_⟩
      · rintro j σ H3 hj ⟨s6', s7', acc3, ws3, rfl, hacc3, haa3, wi3, D3⟩
        have hal3 : acc3.length ≤ 200 := by
          rw [haa3.1]
          have := wi3.len
          omega
        refine ⟨_, rfl, _, rfl, _, rfl, _, _, rfl, rfl, wl, _, rfl, by omega, by omega, D3.well, fun st H4 st0 st1 E4 => ?_⟩
        obtain ⟨sx, rfl⟩ : ∃ sx : Nat, st = (sx : Int) := ⟨st.toNat, by omega⟩
        have hsx : sx < a + b := by omega
        have hacc4 := E4.but _ _ nDw hacc3
        refine ⟨_, rfl, .inl ⟨rfl, _, SqL.of hacc4⟩, _, rfl, _, rfl, _, rfl, _, rfl, wl, 3, rfl, by decide, by decide, E4.well, fun r0 H5 r00 r01 E5 => ?_⟩
        refine ⟨_, rfl, _, rfl, _, _, rfl, rfl, .inr ⟨_, rfl, _, _, rfl, rfl, ?_⟩⟩
        obtain ⟨rl, hrl, rl3, rlp⟩ : ∃ rl : Nat, r0 + (if decide (((e : Nat) : Int) ≤ ((sx : Nat) : Int)) = true then 1 else 0) = (rl : Int) ∧ rl ≤ 3 ∧ (e ≤ sx → 1 ≤ rl) := by
          by_cases hle : e ≤ sx
          · refine ⟨r0.toNat + 1, ?_, by omega, fun _ => by omega⟩
            rw [if_pos (decide_eq_true (by omega))]
            omega
          · refine ⟨r0.toNat, ?_, by omega, fun h => absurd h hle⟩
            rw [if_neg (by rw [decide_eq_true_eq]; omega)]
            omega
        refine ⟨wl, rl, congrArg (fun z => [V.ref wl, V.int z]) hrl, by omega, E5.well, fun p6 rs H6 E6 ep6 hrs hrok => ?_⟩
        refine ⟨(by show 3 ≤ sizeLine; decide), fun p hp => ?_⟩
        have E36 := E4.trans (E5.trans E6)
        have E7 := E36.trans (Dr.new (o := .tup [.int (sx : Nat), .int (e : Nat), .ref p6]) E36.well hp)
        have hacc7 := E7.but _ _ nDw hacc3
        refine ⟨D, acc3, _, rfl, rfl, hacc7, small1000 (by omega), ?_⟩
        refine ⟨_, _, acc3 ++ [.ref p], ws3 ++ [(sx, e, rs)], rfl, upd_same, All2.pushT (fun t r => WireV.tk t r) haa3 hacc7 (TK.dr D3.well E7.but) ⟨p, p6, rfl, .inl (.inl upd_same), (TK.new hp).seq (.inl (.inl ep6))⟩, wi3.app ⟨by show sx < gs.length; omega, hie, ?_, ?_, hrok, by show rs.length ≤ 100; omega⟩ (fun h => ?_) rfl (by show rs.length ≤ 3; omega), set_well (D3.trans E7) hD nDw⟩
        · show kindAt gs sx ≠ "out"
          rcases Nat.lt_or_ge sx a with h | h
          · rw [(gsh.kind (i := sx) (by omega)).1 h]
            decide +kernel
          · exact ((gsh.kind (i := sx) (by omega)).2.1 h hsx).2
        · show kindAt gs e ≠ "in"
          rcases Nat.lt_or_ge e (a + b) with h | h
          · exact (k2 (by omega) h).1
          · rw [k3 h]
            decide +kernel
        · have h : rs = [] := h
          show sx < e
          rcases Nat.lt_or_ge sx e with h2 | h2
          · exact h2
          · have := rlp h2
            rw [h] at hrs
            simp at hrs
            omega
      · rintro σ H3 ⟨s6', s7', acc3, ws3, rfl, hacc3, haa3, wi3, D3⟩
        rw [Int.toNat_natCast] at wi3
        refine ⟨_, _, _, acc3, ws3, rfl, hacc3, haa3, ?_, D3⟩
        have e2 : a + (i + 1) = e + 1 := by omega
        rw [e2]
        refine wi3.done (fun hk => mmo ?_) (fun _ => mm1) mm3
        rcases Nat.lt_or_ge e (a + b) with h | h
        · exact absurd hk (k2 (by omega) h).2
        · exact h
    · rintro σ H1 ⟨s5, s6, s7, acc, ws, rfl, hacc, haa, wi, D1⟩
      have e2 : a + (((gv.length : Nat) : Int) - ((a : Nat) : Int)).toNat = gs.length := by omega
      rw [e2] at wi
      exact ⟨_, rfl, q D ws H1 D1 hD ⟨acc, hacc, haa⟩ wi⟩
end
end Lag

set_option maxRecDepth 100000
set_option maxHeartbeats 8000000
namespace Lag
open PySem PySem.Spec PyProof.Rows L2
theorem LG.dr {K : PySem.W.Frag} {wl l : Addr} {H H' : Hp} {gs : List Gt} (h : LG K H l gs) (n : l ≠ wl) (W : WellAt wl H) (d : Dr wl H H') : LG K H' l gs := by
  obtain ⟨vs, q, a⟩ := h
  exact ⟨vs, d.but _ _ n q, a.imp fun _ _ r => r.tk (TK.dr W d.but)⟩
theorem LW.dr {K : PySem.W.Frag} {wl l : Addr} {H H' : Hp} {ws : List Wr} (h : LW K H l ws) (n : l ≠ wl) (W : WellAt wl H) (d : Dr wl H H') : LW K H' l ws := by
  obtain ⟨vs, q, a⟩ := h
  exact ⟨vs, d.but _ _ n q, a.imp fun _ _ r => r.tk (TK.dr W d.but)⟩
/-! ### numbered on from t -/
def rotL (n t : Nat) : List Nat := (List.range n).drop t ++ (List.range n).take t
theorem rot_perm (n t : Nat) : (rotL n t).Perm (List.range n) := by
  unfold rotL
  refine List.perm_append_comm.trans ?_
  rw [List.take_append_drop]
theorem rot_map {gs : List Gt} (t : Nat) : ((rotL gs.length t).map fun k => gs.getD k ("", 0)) = gs.drop t ++ gs.take t := by
  have e : (List.range gs.length).map (fun k => gs.getD k ("", 0)) = gs := by
    refine List.ext_getElem? fun i => ?_
    rw [List.getElem?_map]
    by_cases h : i < gs.length
    · rw [List.getElem?_range h, List.getElem?_eq_getElem h]
      show some (gs.getD i ("", 0)) = _
      rw [List.getD_eq_getElem?_getD, List.getElem?_eq_getElem h]
      rfl
    · rw [List.getElem?_eq_none (by rw [List.length_range]; omega), List.getElem?_eq_none (by omega)]
      rfl
  unfold rotL
  rw [List.map_append, List.map_drop, List.map_take, e]
theorem rot_idx {n t i : Nat} (ht : t < n) (hi : i < n) : (((rotL n t).idxOf i : Nat) : Int) = ((i : Int) - (t : Int)) % (n : Int) := by
  have nd : (rotL n t).Nodup := (rot_perm n t).nodup_iff.mpr List.nodup_range
  have key : ∀ j, (rotL n t)[j]? = some i → (rotL n t).idxOf i = j := fun j hj => by
    obtain ⟨hjl, e⟩ := List.getElem?_eq_some_iff.mp hj
    rw [← e]
    exact List.Nodup.idxOf_getElem nd j hjl
  rcases Nat.lt_or_ge i t with h | h
  · have hj : (rotL n t)[n - t + i]? = some i := by
      unfold rotL
      rw [List.getElem?_append_right (by rw [List.length_drop, List.length_range]; omega), List.length_drop, List.length_range, List.getElem?_take_of_lt (by omega), List.getElem?_range (by omega)]
      congr 1
      omega
    rw [key _ hj]
    have : ((i : Int) - (t : Int)) % (n : Int) = ((i : Int) - (t : Int) + (n : Int)) % (n : Int) := by rw [Int.add_emod_right]
    rw [this, Int.emod_eq_of_lt (by omega) (by omega)]
    omega
  · have hj : (rotL n t)[i - t]? = some i := by
      unfold rotL
      rw [List.getElem?_append_left (by rw [List.length_drop, List.length_range]; omega), List.getElem?_drop, List.getElem?_range (by omega)]
      congr 1
      omega
    rw [key _ hj, Int.emod_eq_of_lt (by omega) (by omega)]
    omega
theorem nInn_rot (gs : List Gt) (t : Nat) : nInn (gs.drop t ++ gs.take t) = nInn gs := by
  unfold nInn
  rw [List.countP_append, Nat.add_comm, ← List.countP_append, List.take_append_drop]
theorem GSh.inn {gs : List Gt} {a b : Nat} (h : GSh gs a b) : nInn gs ≤ b := by
  obtain ⟨mid, c, e, hm, _⟩ := h.ex
  have h1 : (List.replicate a inG).countP (fun g => innP g.1) = 0 := List.countP_eq_zero.mpr fun g hg => by
    rw [List.eq_of_mem_replicate hg]
    decide +kernel
  have h2 : (List.replicate c outG).countP (fun g => innP g.1) = 0 := List.countP_eq_zero.mpr fun g hg => by
    rw [List.eq_of_mem_replicate hg]
    decide +kernel
  have h3 : mid.countP (fun g => innP g.1) ≤ mid.length := List.countP_le_length
  unfold nInn
  rw [e, List.countP_append, List.countP_append, h1, h2]
  omega
def spLParts (K : PySem.W.Frag) : Sp := fun vs H Q _ => ∃ (wl : Addr) (m : Int), vs = [.ref wl, .int m] ∧ 0 < m ∧ m ≤ 20 ∧ WellAt wl H ∧
  ∀ (gs : List Gt) (ws : List Wr) (lg lw p : Addr) (H' : Hp), NetOk gs ws → gs.length ≤ 24 → (gs.length : Int) ≤ m + 4 → (nInn gs : Int) ≤ m → ws.length ≤ 3 * gs.length → (∀ x ∈ ws, x.2.2.length ≤ 3) → ws.length ≤ 72 → ws ≠ [] → (∃ i, i < gs.length ∧ kindAt gs i ≠ "in" ∧ kindAt gs i ≠ "out") → Dr wl H H' → H lg = none → H lw = none → lg ≠ lw → LG K H' lg gs → LW K H' lw ws → H' p = some (.tup [.ref lg, .ref lw]) → Q (.ref p) H'
section
variable {P : Program} {w : World} {K : PySem.W.Frag} {mg : Str → Option Value} {base : Heap}
abbrev nLParts : List Str := ["_law_state", "_law_most", "_law_gates_here", "_law_ins", "_law_inner", "_law_wires_here", "_law_many", "_law_turn", "_law_start", "_law_end", "_law_stock"]
theorem scLParts : FnScope nLParts ["_law_state", "_law_most"] (defScope sLParts) := ⟨rfl, rfl, rfl, by decide +kernel, rfl, by decide +kernel, by decide +kernel⟩
abbrev DLParts (P : Program) (w : World) (K : PySem.W.Frag) (mg : Str → Option Value) (base : Heap) := Df P w K mg base 4 "_law_parts" ["_law_state", "_law_most"] (spLParts K)
def rotE : TE := tTup (tCons (tOp (rI (fun _ j => 0 < j) fun i j => .int (i % j)) (tOp (rI0 fun i j => .int (i - j)) (tVar 8) (tVar 7)) (tVar 6)) (tCons (tOp (rI (fun _ j => 0 < j) fun i j => .int (i % j)) (tOp (rI0 fun i j => .int (i - j)) (tVar 9) (tVar 7)) (tVar 6)) (tCons (tVar 10) tNil)))
theorem ok_lparts {f fD fG fW : Addr} {fd fdD fdG fdW : FuncData} (F : Fun K "_law_parts" "_law_parts" sLParts f fd) (hm : mg "_law_parts" = some (.ref f)) (B : Bt mg) (DD : DDraw P w K mg base fD fdD) (DG : DGates P w K mg base fG fdG) (DW : DLWires P w K mg base fW fdW) : DLParts P w K mg base f fd := by
  refine ⟨?_, hm, F.kp, F.binds fun _ _ _ _ _ _ us hl => match us, hl with | [_, _], _ => rfl⟩
  refine F.ok scLParts (fun vs H Q E h => ?_) (fun cdv A outer s H vs Q E hr h => ?_)
  · obtain ⟨wl, m, rfl, _⟩ := h
    rfl
  · obtain ⟨wl, m, rfl, hm0, hm1, hw, q⟩ := h
    have nd := scLParts.nd
    have hr2 : Room 2 _ := hr.mono (by decide)
    have hr1 : Room 1 _ := hr.mono (by decide)
    refine ⟨_, pss_cons (ps_asg (pe_call DG.ok hr2 (by rfl) DG.mg DG.kp DG.bd .nil pass0 (pa_cons (pv 0) (pa_cons (pv 1) pa_nil))) (pg_tup (by rfl) (pgs_cons (pg_name (i := 2) nd rfl (.inl rfl)) (pgs_cons (pg_name (i := 3) nd rfl (.inl rfl)) (pgs_cons (pg_name (i := 4) nd rfl (.inl rfl)) pgs_nil))))) <|
      pss_cons (ps_set (i := 5) nd rfl (.inl rfl) (pe_call DW.ok hr (by rfl) DW.mg DW.kp DW.bd .nil pass0 (pa_cons (pv 0) (pa_cons (pv 2) (pa_cons (pv 3) (pa_cons (pv 4) pa_nil)))))) <|
      pss_cons (ps_set (i := 6) nd rfl (.inr rfl) (pe_callB call_len_seq (by rfl) B.len PySem.boot_len (pa_cons (pv 2) pa_nil))) <|
      pss_cons (ps_set (i := 7) nd rfl (.inr rfl) (pe_call DD.ok hr1 (by rfl) DD.mg DD.kp DD.bd .nil pass0 (pa_cons (pv 0) (pa_cons (pv 6) pa_nil)))) <|
      pss_cons (ps_setLc (i := 5) (own := [("_law_start", 8), ("_law_end", 9), ("_law_stock", 10)]) (g := gTup K 3 (gCons (gName 8) (gCons (gName 9) (gCons (gName 10) gNil)))) (tt := tYes) (te := rotE) rfl nd rfl rfl (sw_true rfl rfl rfl (by decide +kernel)) (pi_list (pv 5)) (blkOk_by (N := nLParts) (sc := defScope sLParts) (own := [("_law_start", 8), ("_law_end", 9), ("_law_stock", 10)]) (by decide +kernel))
          (fun _ _ _ _ _ => pg_tup rfl (pgs_cons (pg_name (i := 8) nd rfl (.inl rfl)) (pgs_cons (pg_name (i := 9) nd rfl (.inl rfl)) (pgs_cons (pg_name (i := 10) nd rfl (.inl rfl)) pgs_nil)))) (fun _ _ _ _ _ => pts_nil)
          (fun _ _ _ _ _ => pe_tup (pa_cons (pe_op op_mod (pe_op op_sub (pv 8) (pv 7)) (pv 6)) (pa_cons (pe_op op_mod (pe_op op_sub (pv 9) (pv 7)) (pv 6)) (pa_cons (pv 10) pa_nil))))) <|
      Evl.pss_cut (ps_if (pt_cmpR op_eq (pe_call DD.ok hr1 (by rfl) DD.mg DD.kp DD.bd .nil pass0 (pa_cons (pv 0) (pa_cons pe_int pa_nil))) pe_int (nomark _)) (pss_one (ps_expr (pe_bm0 PySem.F.plainAttrs_list PySem.F.slot_list_reverse PySem.F.type_list_reverse mt_reverse (pv 5)))) pss_nil) <|
      pss_one <| ps_ret <| pe_tup <| pa_cons (pe_op op_cat (pe_slice sl_list (pv 2) (po_some (pv 7)) po_none) (pe_slice sl_list (pv 2) po_none (po_some (pv 7)))) <| pa_cons (pv 5) pa_nil, ?_⟩
    refine ⟨_, rfl, _, rfl, wl, m, rfl, hm0, hm1, hw, fun t1 lg0 gs a b H1 E1 et1 hlg0 G1 gsh hbm => ?_⟩
    refine ⟨t1, _, rfl, .inl (.inl et1), rfl, _, _, rfl, _, _, rfl, _, _, rfl, rfl, ?_⟩
    obtain ⟨gl1, gl2⟩ := gsh.len
    have ha2 := gsh.a2
    have hb1 := gsh.b1
    have hb2 := gsh.b2
    have nlg0 : lg0 ≠ wl := (hw.ne hlg0).symm
    refine ⟨_, rfl, _, rfl, _, rfl, _, rfl, wl, lg0, gs, a, b, rfl, E1.well, nlg0, G1, gsh, fun lw0 ws H2 E2 hlw0 W2 wi => ?_⟩
    have nlw0 : lw0 ≠ wl := (E1.well.ne hlw0).symm
    have D2 := E1.trans E2
    have G2 := G1.dr nlg0 E1.well E2
    have gne : gs ≠ [] := fun z => by
      rw [z] at gl1
      simp at gl1
    have N := wi.net gne (by omega) gsh.gok
    have hwl := wi.len
    obtain ⟨gv, hgv, ga⟩ := id G2
    have hlg : gv.length = gs.length := ga.1
    refine ⟨_, rfl, lg0, gv, rfl, .inl (SqL.of hgv), ?_⟩
    refine ⟨_, rfl, _, rfl, wl, _, rfl, by omega, by omega, E2.well, fun d H3 d0 d1 E3 => ?_⟩
    obtain ⟨t, rfl⟩ : ∃ t : Nat, d = (t : Int) := ⟨d.toNat, by omega⟩
    have ht : t < gs.length := by omega
    have D3 := D2.trans E3
    have hgv3 := E3.but _ _ nlg0 hgv
    have ga3 := ga.imp fun _ _ r => r.tk (TK.dr E2.well E3.but)
    obtain ⟨wv, hwv, wa⟩ := W2.dr nlw0 E2.well E3
    have hlw : wv.length = ws.length := wa.1
    refine gn_norm (σ' := [some (.ref wl), some (.int m), some (.ref lg0), some (.int (a : Nat)), some (.int (b : Nat)), some (.ref lw0), some (.int (gv.length : Nat)), some (.int (t : Nat)), none, none, none]) rfl ?_
    -- numbered anew
    refine ⟨_, rfl, lw0, rfl, ⟨_, SqL.of hwv⟩, fun lw hlw' => ?_⟩
    have nlw : lw ≠ wl := (E3.well.ne hlw').symm
    have hlwH : H lw = none := D3.free hw hlw'
    refine lc_list (K := K) (a := lw0) (xs := wv) (fun i Hc => ∃ acc, Hc lw = some (.lst acc) ∧ acc.length = i ∧ All2 (WireV K Hc) acc ((ws.take i).map fun x => ((rotL gs.length t).idxOf x.1, (rotL gs.length t).idxOf x.2.1, x.2.2)) ∧ Same H3 Hc) ⟨[], upd_same, rfl, by simpa using All2.nil, same_new hlw'⟩ (fun i Hc _ ⟨_, _, _, _, sm⟩ => SqL.of (sm _ _ hwv)) ?_ ?_
    · rintro i v Hc hv ⟨acc, hacc, hal, haa, sm⟩
      obtain ⟨x, hx, a', b', rfl, sq1, sq2⟩ := wa.get hv
      have hi : i < ws.length := (List.getElem?_eq_some_iff.mp hx).1
      have WX := N.wok x (List.mem_of_getElem? hx)
      have tk := TK.same sm
      refine ⟨a', _, rfl, tk.seq sq1, rfl, _, _, rfl, _, _, rfl, _, _, rfl, rfl, rfl, tyes ?_⟩
      refine ⟨_, rfl, _, rfl, _, _, rfl, rfl, _, rfl, _, _, rfl, rfl, (by show (0 : Int) < ((gv.length : Nat) : Int); omega), ?_⟩
      refine ⟨_, rfl, _, rfl, _, _, rfl, rfl, _, rfl, _, _, rfl, rfl, (by show (0 : Int) < ((gv.length : Nat) : Int); omega), _, rfl, (by show 3 ≤ sizeLine; decide), fun p hp => ?_⟩
      have sp : Same Hc (upd Hc p (.tup [.int ((((x.1 : Nat) : Int) - ((t : Nat) : Int)) % ((gv.length : Nat) : Int)), .int ((((x.2.1 : Nat) : Int) - ((t : Nat) : Int)) % ((gv.length : Nat) : Int)), .ref b'])) := same_new hp
      refine ⟨acc, sp _ _ hacc, small1000 (by omega), acc ++ [.ref p], upd_same, by simp [hal], ?_, same_mut (sm.trans sp) hlw'⟩
      rw [List.take_add_one, hx, List.map_append]
      refine All2.pushT (fun t r => WireV.tk t r) haa (sp _ _ hacc) (TK.same sp) ⟨p, b', rfl, .inl (.inl ?_), (TK.same (sm.trans sp)).seq sq2⟩
      rw [upd_same]
      show some (HO.tup [V.int _, V.int _, V.ref b']) = some (HO.tup [V.int _, V.int _, V.ref b'])
      rw [rot_idx ht WX.s, rot_idx ht WX.e, hlg]
    rintro H4 ⟨acc, hacc, hal, haa, s4⟩
    rw [hlw, List.take_length] at haa
    have D4 : Dr wl H H4 := D3.trans ⟨But.same s4, D3.well.same s4⟩
    have hne : ws ≠ [] := fun z => by
      have hk := (gsh.kind (i := a + b) (by omega)).2.2 (Nat.le_refl _)
      have := N.one (a + b) (by omega) hk
      rw [z] at this
      cases this
    have hinner : ∃ i, i < (gs.drop t ++ gs.take t).length ∧ kindAt (gs.drop t ++ gs.take t) i ≠ "in" ∧ kindAt (gs.drop t ++ gs.take t) i ≠ "out" := by
      have hk := (gsh.kind (i := a) (by omega)).2.1 (Nat.le_refl _) (by omega)
      have hmem : gs[a]'(by omega) ∈ gs.drop t ++ gs.take t := by
        have : gs[a]'(by omega) ∈ gs.take t ++ gs.drop t := by
          rw [List.take_append_drop]
          exact List.getElem_mem _
        rcases List.mem_append.mp this with h | h
        · exact List.mem_append.mpr (.inr h)
        · exact List.mem_append.mpr (.inl h)
      obtain ⟨i, hi⟩ := List.getElem?_of_mem hmem
      refine ⟨i, (List.getElem?_eq_some_iff.mp hi).1, ?_⟩
      rw [kindAt_get hi, ← kindAt_i]
      exact hk
    refine gn_norm (σ' := [some (.ref wl), some (.int m), some (.ref lg0), some (.int (a : Nat)), some (.int (b : Nat)), some (.ref lw), some (.int (gv.length : Nat)), some (.int (t : Nat)), none, none, none]) rfl ?_
    -- turned about, perhaps
    refine ⟨fun σ H' => ∃ (acc : List V) (us : List Wr), σ = [some (.ref wl), some (.int m), some (.ref lg0), some (.int (a : Nat)), some (.int (b : Nat)), some (.ref lw), some (.int (gv.length : Nat)), some (.int (t : Nat)), none, none, none] ∧ us.Perm ws ∧ H' lw = some (.lst acc) ∧ All2 (WireV K H') acc (us.map fun x => ((rotL gs.length t).idxOf x.1, (rotL gs.length t).idxOf x.2.1, x.2.2)) ∧ Dr wl H H' ∧ H' lg0 = some (.lst gv) ∧ All2 (GateV K H') gv gs, ?_, ?_⟩
    · refine ⟨_, rfl, wl, 2, rfl, by decide, by decide, D4.well, fun z H5 z0 z1 E5 => ?_⟩
      have D5 := D4.trans E5
      have h5 := E5.but _ _ nlw hacc
      have a5 := haa.imp fun _ _ r => r.tk (TK.dr D4.well E5.but)
      have g5 := E5.but _ _ nlg0 (s4 _ _ hgv3)
      have ga5 := (ga3.imp fun _ _ r => r.tk (TK.same s4)).imp fun _ _ r => r.tk (TK.dr D4.well E5.but)
      refine ⟨rfl, _, rfl, ite2 (fun e => ?_) (fun e => ⟨acc, ws, rfl, .refl _, h5, a5, D5, g5, ga5⟩)⟩
      have ngw : lg0 ≠ lw := ne_of_none hgv3 hlw'
      refine ⟨_, rfl, .inl ⟨rfl, _, SqL.of h5⟩, lw, _, rfl, rfl, h5, acc.reverse, ws.reverse, rfl, List.reverse_perm _, upd_same, ?_, set_well D5 hlwH nlw, by rw [upd_ne ngw]; exact g5, ga5.imp fun _ _ r => r.tk (TK.lst h5)⟩
      rw [List.map_reverse]
      exact (a5.imp fun _ _ r => r.tk (TK.lst h5)).reverse
    rintro σ H5 ⟨acc5, us, rfl, hp, hacc5, haa5, D5, hgv5, ga5⟩
    have NA := N.anew (rot_perm gs.length t) hp
    rw [rot_map] at NA
    refine ⟨_, rfl, _, rfl, _, rfl, lg0, gv, rfl, SqL.of hgv5, fun l6 hl6 => ?_⟩
    have s6 : Same H5 (upd H5 l6 (.lst (cutV gv (some ((t : Nat) : Int)) none))) := same_new hl6
    have el6 : (upd H5 l6 (.lst (cutV gv (some ((t : Nat) : Int)) none))) l6 = some (.lst (gv.drop t)) := by rw [upd_same, cut_from]
    generalize upd H5 l6 (.lst (cutV gv (some ((t : Nat) : Int)) none)) = H6 at s6 el6
    refine ⟨_, rfl, _, rfl, _, rfl, lg0, gv, rfl, SqL.of (s6 _ _ hgv5), fun l7 hl7 => ?_⟩
    have s7 : Same H6 (upd H6 l7 (.lst (cutV gv none (some ((t : Nat) : Int))))) := same_new hl7
    have el7 : (upd H6 l7 (.lst (cutV gv none (some ((t : Nat) : Int))))) l7 = some (.lst (gv.take t)) := by rw [upd_same, cut_to]
    generalize upd H6 l7 (.lst (cutV gv none (some ((t : Nat) : Int)))) = H7 at s7 el7
    refine ⟨l6, l7, _, _, rfl, rfl, s7 _ _ el6, el7, ?_, fun l8 hl8 => ?_⟩
    · rw [List.length_drop, List.length_take]
      exact Nat.le_of_lt (small1000 (by omega))
    have s8 : Same H7 (upd H7 l8 (.lst (gv.drop t ++ gv.take t))) := same_new hl8
    have el8 : (upd H7 l8 (.lst (gv.drop t ++ gv.take t))) l8 = some (.lst (gv.drop t ++ gv.take t)) := upd_same
    generalize upd H7 l8 (.lst (gv.drop t ++ gv.take t)) = H8 at s8 el8
    have t8 := s6.trans (s7.trans s8)
    have hl8H : H l8 = none := D5.free hw ((s6.trans s7).free hl8)
    have nl8 : l8 ≠ lw := fun z => by
      rw [z, (s6.trans s7) _ _ hacc5] at hl8
      cases hl8
    refine ⟨_, rfl, (by show 2 ≤ sizeLine; decide), fun p hp' => ?_⟩
    have s9 := t8.trans (same_new (o := .tup [.ref l8, .ref lw]) hp')
    have ga9 := ga5.imp fun _ _ r => r.tk (TK.same s9)
    have rl : ∀ x ∈ us.map (fun x : Wr => ((rotL gs.length t).idxOf x.1, (rotL gs.length t).idxOf x.2.1, x.2.2)), x.2.2.length ≤ 3 := fun y hy => by
      obtain ⟨x, hx, rfl⟩ := List.mem_map.mp hy
      exact wi.r2 x (hp.mem_iff.mp hx)
    refine q _ _ l8 lw p _ NA ?_ ?_ ?_ ?_ rl ?_ ?_ hinner (D5.trans ⟨But.same s9, D5.well.same s9⟩) hl8H hlwH nl8 ⟨_, same_new hp' _ _ el8, (ga9.drop t).append (ga9.take t)⟩ ⟨acc5, s9 _ _ hacc5, haa5.imp fun _ _ r => r.tk (TK.same s9)⟩ upd_same
    · rw [List.length_append, List.length_drop, List.length_take]
      omega
    · rw [List.length_append, List.length_drop, List.length_take]
      omega
    · have := nInn_rot gs t
      have := gsh.inn
      omega
    · rw [List.length_map, hp.length_eq, List.length_append, List.length_drop, List.length_take]
      omega
    · rw [List.length_map, hp.length_eq]
      omega
    · intro z
      have := List.map_eq_nil_iff.mp z
      rw [this] at hp
      exact hne hp.nil_eq.symm
end
end Lag

set_option maxRecDepth 100000
set_option maxHeartbeats 4000000
namespace Lag
open PySem PySem.Spec PyProof.Rows L2
theorem ints_get : ∀ {its : List Value} {ns : List Int}, IntsAre its ns → ∀ {i : Nat} {v : Value}, its[i]? = some v → ∃ (z : Int) (t : Tok), v = .int z t ∧ ns[i]? = some z := by
  intro its ns h
  induction h with
  | nil => intro i v e; simp at e
  | cons n t _ ih =>
    intro i v e
    cases i with
    | zero =>
      simp at e
      exact ⟨n, t, e.symm, rfl⟩
    | succ i => exact ih (by simpa using e)
/-! ### max(xs, default=d) of whole numbers -/
section
variable {prog : Program} {w : World} {A : Around} {E : Value → Shared → Prop}
theorem dargs_max (a d : Value) : argsOk "max" ⟨[a], [(Str.ofString "default", d)]⟩ := by
  unfold argsOk
  kernel_rfl
/-- what is held while it goes on: nothing as yet, or the best of those that came -/
def Held_max (ns : List Int) (j : Nat) (its : Array Value) : Prop := (j = 0 ∧ its = #[]) ∨ (0 < j ∧ ∃ (m : Int) (t : Tok), its = #[.int m t, .int m t] ∧ m ∈ ns.take j ∧ ∀ y ∈ ns.take j, y ≤ m)
theorem dloop_max {R : Result → Shared → Prop} {I S : Addr} {fp wr : List Addr} {n : Nat} {Pv : Nat → Value → Prop} {St : Nat → Heap → Prop} {ns : List Int} {d : Value} (W : Walks prog w A.in1 I fp wr n Pv St) (hSf : S ∉ fp) (hn : ns.length = n)
    (hP : ∀ i v, Pv i v → ∃ (z : Int) (t : Tok), v = .int z t ∧ ns[i]? = some z) :
    ∀ (k j : Nat) (s : Shared) (its : Array Value) (c : Nat), n - j = k → j ≤ n → St j s.heap → s.heap.get? S = some { cls := .type "list", data := .seq its c } → Held_max ns j its →
    (∀ h' tk, (∀ b o, b ∉ wr → b ≠ S → s.heap.get? b = some o → h'.get? b = some o) → (ns = [] → R (.ok (.ret d)) { s with heap := h', toks := tk }) ∧ ∀ m t, m ∈ ns → (∀ y ∈ ns, y ≤ m) → R (.ok (.ret (.int m t))) { s with heap := h', toks := tk }) →
    codeAny (model prog w) A (.builtin "max.loop" ⟨[.ref I, .none, .ref S], [(Str.ofString "default", d)]⟩) R s := by
  have nSw : S ∉ wr := fun z => hSf (W.sub S z)
  have hnm : (toString "max" ++ toString ".loop" : String) = "max.loop" := by decide
  intro k
  induction k with
  | zero =>
    intro j s its c hk hj st hS hh hR
    have ej : j = n := by omega
    subst ej
    refine codeAny_builtin PySem.F.entry_max_loop ?_
    rw [Around.under_plainId PySem.F.plain_max_loop _]
    show wpAny _ A.in1 (seqItems? (.ref S) >>= _) _ _ s
    refine wpAny_bind (wpAny_seqItems hS rfl ?_)
    show wpAny _ A.in1 (tryCatch (pyNext (.ref I)) _ >>= _) _ _ s
    refine wpAny_bind (wpAny_tryCatch (W.done s _ _ st fun h' tk kp => ?_))
    have hS' := kp S _ nSw hS
    rcases hh with ⟨h0, rfl⟩ | ⟨h0, m, t, rfl, hm, hb⟩
    · refine wpAny_bind (wpAny_rule (wpAny_pure ?_))
      exact (hR h' tk fun b o nb _ e => kp b o nb e).1 (List.length_eq_zero_iff.mp (by omega))
    · show wpAny _ A.in1 (updateSeq S (fun _ => #[]) >>= _) _ _ _
      refine wpAny_bind ?_
      refine wpAny_updateSeq hS' rfl (wpAny_bind (wpAny_letGo (wpAny_pure ?_)))
      rw [List.take_of_length_le (by omega)] at hm hb
      exact (hR _ tk fun b o nb nS e => (Heap.get?_update_other _ _ (Ne.symm nS)).trans (kp b o nb e)).2 m t hm hb
  | succ k ih =>
    intro j s its c hk hj st hS hh hR
    have lt : j < n := by omega
    refine codeAny_builtin PySem.F.entry_max_loop ?_
    rw [Around.under_plainId PySem.F.plain_max_loop _]
    show wpAny _ A.in1 (seqItems? (.ref S) >>= _) _ _ s
    refine wpAny_bind (wpAny_seqItems hS rfl ?_)
    show wpAny _ A.in1 (tryCatch (pyNext (.ref I)) _ >>= _) _ _ s
    refine wpAny_bind (wpAny_tryCatch (W.item j s _ _ lt st fun v h' tk pv st' kp => ?_))
    have hS' := kp S _ nSw hS
    obtain ⟨z, tz, rfl, hz⟩ := hP j v pv
    have et : ns.take (j + 1) = ns.take j ++ [z] := by rw [List.take_add_one, hz]; rfl
    rcases hh with ⟨h0, rfl⟩ | ⟨h0, m, t, rfl, hm, hb⟩
    · show wpAny _ A.in1 (updateSeq S (fun _ => #[.int z tz, .int z tz]) >>= _) _ _ _
      refine wpAny_bind ?_
      refine wpAny_updateSeq hS' rfl ?_
      rw [hnm]
      refine wpAny_pure ⟨plainId_quiet PySem.F.plain_max_loop _, ih (j + 1) _ _ _ (by omega) lt (W.frame _ _ _ st' fun b hbf o e => (Heap.get?_update_other _ _ (fun q : S = b => hSf (by rw [q]; exact hbf))).trans e) (Heap.get?_update_self _ hS' rfl) (.inr ⟨by omega, z, tz, rfl, ?_, ?_⟩) fun h'' tk'' kp'' => ?_⟩
      · rw [et]; simp
      · subst h0
        rw [et]
        intro y hy
        simp at hy
        subst hy
        exact Int.le_refl _
      · exact hR h'' tk'' fun b o nb nS e => kp'' b o nb nS ((Heap.get?_update_other _ _ (Ne.symm nS)).trans (kp b o nb e))
    · show wpAny _ A.in1 (tryCatch (holding [.int z tz, .int z tz] (richCompare .Gt (.int z tz) (.int m t) >>= _)) _ >>= _) _ _ _
      refine wpAny_bind (wpAny_tryCatch (wpAny_holding (wpAny_bind (CmpOf.ints_gt (P := fun i v => ∃ t, v = Value.int (if i = 0 then z else m) t) (fun i => if i = 0 then z else m) (fun _ _ h => h) 0 1 _ _ _ _ _ ⟨tz, rfl⟩ ⟨t, rfl⟩ ?_))))
      refine wpAny_bind (wpAny_holding (wpAny_truthy_bool ?_))
      refine wpAny_bind (wpAny_letGo (wpAny_pure ?_))
      show wpAny _ A.in1 (if decide (z > m) = true then _ else _) _ _ _
      by_cases hzm : z > m
      · rw [if_pos (decide_eq_true hzm)]
        refine wpAny_bind ?_
        refine wpAny_updateSeq hS' rfl (wpAny_bind (wpAny_letGo ?_))
        rw [hnm]
        refine wpAny_pure ⟨plainId_quiet PySem.F.plain_max_loop _, ih (j + 1) _ _ _ (by omega) lt (W.frame _ _ _ st' fun b hbf o e => (Heap.get?_update_other _ _ (fun q : S = b => hSf (by rw [q]; exact hbf))).trans e) (Heap.get?_update_self _ hS' rfl) (.inr ⟨by omega, z, tz, rfl, ?_, ?_⟩) fun h'' tk'' kp'' => ?_⟩
        · rw [et]; simp
        · rw [et]
          intro y hy
          rcases List.mem_append.mp hy with hy | hy
          · have := hb y hy
            omega
          · simp at hy
            omega
        · exact hR h'' tk'' fun b o nb nS e => kp'' b o nb nS ((Heap.get?_update_other _ _ (Ne.symm nS)).trans (kp b o nb e))
      · rw [if_neg (by rw [decide_eq_false hzm]; decide)]
        refine wpAny_bind (wpAny_letGo ?_)
        rw [hnm]
        refine wpAny_pure ⟨plainId_quiet PySem.F.plain_max_loop _, ih (j + 1) _ _ c (by omega) lt st' hS' (.inr ⟨by omega, m, t, rfl, ?_, ?_⟩) fun h'' tk'' kp'' => ?_⟩
        · rw [et]; exact List.mem_append_left _ hm
        · rw [et]
          intro y hy
          rcases List.mem_append.mp hy with hy | hy
          · exact hb y hy
          · simp at hy
            omega
        · exact hR h'' tk'' fun b o nb nS e => kp'' b o nb nS (kp b o nb e)
theorem dcall_max {s : Shared} {l : Addr} {items : Array Value} {ns : List Int} {d : Value} {Q : Value → Shared → Prop} (hh : A.handled = none) (hl : s.heap.IsList l items) (hi : IntsAre items.toList ns)
    (h : ∀ h' tk, (∀ b o, s.heap.get? b = some o → h'.get? b = some o) → (ns = [] → Q d { s with heap := h', toks := tk }) ∧ ∀ m t, m ∈ ns → (∀ y ∈ ns, y ≤ m) → Q (.int m t) { s with heap := h', toks := tk }) :
    wpAny (model prog w) A (call (.builtin "max") [.ref l] [(Str.ofString "default", d)]) Q E s := by
  have hnm : (toString "max" ++ toString ".loop" : String) = "max.loop" := by decide
  have hlt : l < s.heap.objs.size := by obtain ⟨_, e, _⟩ := hl; exact Heap.lt_size e
  refine PyProof.Rows.kmk_tree PySem.F.kind_max PySem.F.plain_max PySem.F.entry_max (dargs_max _ _) ?_
  show wpAny _ A.in1 (Builtin.Builtins.bindParams "max" ["key", "default"] 0 ⟨[], [(Str.ofString "default", d)]⟩ >>= _) _ _ s
  refine wpAny_bind (wpAny_of_eq (show Builtin.Builtins.bindParams "max" ["key", "default"] 0 ⟨[], [(Str.ofString "default", d)]⟩ = pure [none, some d] from rfl) ?_)
  refine wpAny_bind (wpAny_pure ?_)
  refine wpAny_bind (wpAny_pyIter_list hl ?_)
  refine wpAny_bind (wpAny_newList ?_ (Nat.zero_le _))
  rw [hnm]
  have W := Walks.list (prog := prog) (w := w) (A := A.in1) hh s.heap.objs.size l (Nat.ne_of_lt hlt) items
  have e1 : (s.heap.push { cls := .type "list_iterator", data := .fields #[.ref l, .int 0 0] }).objs.size = s.heap.objs.size + 1 := Heap.size_push ..
  refine wpAny_pure ⟨plainId_quiet PySem.F.plain_max_loop _, dloop_max (ns := ns) W (fun q => ?_) ?_ (fun i v hv => ?_) items.size 0 _ #[] _ (by omega) (Nat.zero_le _) ?_ (Heap.get?_push_size _ rfl) (.inl ⟨rfl, rfl⟩) fun h' tk kp => ?_⟩
  · rw [e1] at q
    rcases List.mem_cons.mp q with q | q
    · exact Nat.succ_ne_self _ q
    · have q := List.mem_singleton.mp q
      rw [← q] at hlt
      exact Nat.not_lt.mpr (Nat.le_succ _) hlt
  · rw [← hi.length]
    simp
  · obtain ⟨z, t, e2, e3⟩ := ints_get hi (show items.toList[i]? = some v by simpa using hv)
    exact ⟨z, t, e2, e3⟩
  · exact ⟨⟨_, Heap.get?_push_of_some _ (Heap.get?_push_size _ rfl), rfl, rfl⟩, (hl.push _).push _⟩
  · refine h h' tk fun b o e => ?_
    have hb := Heap.lt_size e
    refine kp b o (fun q => ?_) (fun q => ?_) (Heap.get?_push_of_some _ (Heap.get?_push_of_some _ e))
    · rw [List.mem_singleton.mp q] at hb
      exact Nat.lt_irrefl _ hb
    · rw [q, e1] at hb
      exact Nat.not_lt.mpr (Nat.le_succ _) hb
end
/-! ### min(xs, default=d) of whole numbers -/
section
variable {prog : Program} {w : World} {A : Around} {E : Value → Shared → Prop}
theorem dargs_min (a d : Value) : argsOk "min" ⟨[a], [(Str.ofString "default", d)]⟩ := by
  unfold argsOk
  kernel_rfl
/-- what is held while it goes on: nothing as yet, or the best of those that came -/
def Held_min (ns : List Int) (j : Nat) (its : Array Value) : Prop := (j = 0 ∧ its = #[]) ∨ (0 < j ∧ ∃ (m : Int) (t : Tok), its = #[.int m t, .int m t] ∧ m ∈ ns.take j ∧ ∀ y ∈ ns.take j, m ≤ y)
theorem dloop_min {R : Result → Shared → Prop} {I S : Addr} {fp wr : List Addr} {n : Nat} {Pv : Nat → Value → Prop} {St : Nat → Heap → Prop} {ns : List Int} {d : Value} (W : Walks prog w A.in1 I fp wr n Pv St) (hSf : S ∉ fp) (hn : ns.length = n)
    (hP : ∀ i v, Pv i v → ∃ (z : Int) (t : Tok), v = .int z t ∧ ns[i]? = some z) :
    ∀ (k j : Nat) (s : Shared) (its : Array Value) (c : Nat), n - j = k → j ≤ n → St j s.heap → s.heap.get? S = some { cls := .type "list", data := .seq its c } → Held_min ns j its →
    (∀ h' tk, (∀ b o, b ∉ wr → b ≠ S → s.heap.get? b = some o → h'.get? b = some o) → (ns = [] → R (.ok (.ret d)) { s with heap := h', toks := tk }) ∧ ∀ m t, m ∈ ns → (∀ y ∈ ns, m ≤ y) → R (.ok (.ret (.int m t))) { s with heap := h', toks := tk }) →
    codeAny (model prog w) A (.builtin "min.loop" ⟨[.ref I, .none, .ref S], [(Str.ofString "default", d)]⟩) R s := by
  have nSw : S ∉ wr := fun z => hSf (W.sub S z)
  have hnm : (toString "min" ++ toString ".loop" : String) = "min.loop" := by decide
  intro k
  induction k with
  | zero =>
    intro j s its c hk hj st hS hh hR
    have ej : j = n := by omega
    subst ej
    refine codeAny_builtin PySem.F.entry_min_loop ?_
    rw [Around.under_plainId PySem.F.plain_min_loop _]
    show wpAny _ A.in1 (seqItems? (.ref S) >>= _) _ _ s
    refine wpAny_bind (wpAny_seqItems hS rfl ?_)
    show wpAny _ A.in1 (tryCatch (pyNext (.ref I)) _ >>= _) _ _ s
    refine wpAny_bind (wpAny_tryCatch (W.done s _ _ st fun h' tk kp => ?_))
    have hS' := kp S _ nSw hS
    rcases hh with ⟨h0, rfl⟩ | ⟨h0, m, t, rfl, hm, hb⟩
    · refine wpAny_bind (wpAny_rule (wpAny_pure ?_))
      exact (hR h' tk fun b o nb _ e => kp b o nb e).1 (List.length_eq_zero_iff.mp (by omega))
    · show wpAny _ A.in1 (updateSeq S (fun _ => #[]) >>= _) _ _ _
      refine wpAny_bind ?_
      refine wpAny_updateSeq hS' rfl (wpAny_bind (wpAny_letGo (wpAny_pure ?_)))
      rw [List.take_of_length_le (by omega)] at hm hb
      exact (hR _ tk fun b o nb nS e => (Heap.get?_update_other _ _ (Ne.symm nS)).trans (kp b o nb e)).2 m t hm hb
  | succ k ih =>
    intro j s its c hk hj st hS hh hR
    have lt : j < n := by omega
    refine codeAny_builtin PySem.F.entry_min_loop ?_
    rw [Around.under_plainId PySem.F.plain_min_loop _]
    show wpAny _ A.in1 (seqItems? (.ref S) >>= _) _ _ s
    refine wpAny_bind (wpAny_seqItems hS rfl ?_)
    show wpAny _ A.in1 (tryCatch (pyNext (.ref I)) _ >>= _) _ _ s
    refine wpAny_bind (wpAny_tryCatch (W.item j s _ _ lt st fun v h' tk pv st' kp => ?_))
    have hS' := kp S _ nSw hS
    obtain ⟨z, tz, rfl, hz⟩ := hP j v pv
    have et : ns.take (j + 1) = ns.take j ++ [z] := by rw [List.take_add_one, hz]; rfl
    rcases hh with ⟨h0, rfl⟩ | ⟨h0, m, t, rfl, hm, hb⟩
    · show wpAny _ A.in1 (updateSeq S (fun _ => #[.int z tz, .int z tz]) >>= _) _ _ _
      refine wpAny_bind ?_
      refine wpAny_updateSeq hS' rfl ?_
      rw [hnm]
      refine wpAny_pure ⟨plainId_quiet PySem.F.plain_min_loop _, ih (j + 1) _ _ _ (by omega) lt (W.frame _ _ _ st' fun b hbf o e => (Heap.get?_update_other _ _ (fun q : S = b => hSf (by rw [q]; exact hbf))).trans e) (Heap.get?_update_self _ hS' rfl) (.inr ⟨by omega, z, tz, rfl, ?_, ?_⟩) fun h'' tk'' kp'' => ?_⟩
      · rw [et]; simp
      · subst h0
        rw [et]
        intro y hy
        simp at hy
        subst hy
        exact Int.le_refl _
      · exact hR h'' tk'' fun b o nb nS e => kp'' b o nb nS ((Heap.get?_update_other _ _ (Ne.symm nS)).trans (kp b o nb e))
    · show wpAny _ A.in1 (tryCatch (holding [.int z tz, .int z tz] (richCompare .Lt (.int z tz) (.int m t) >>= _)) _ >>= _) _ _ _
      refine wpAny_bind (wpAny_tryCatch (wpAny_holding (wpAny_bind (CmpOf.ints_lt (P := fun i v => ∃ t, v = Value.int (if i = 0 then z else m) t) (fun i => if i = 0 then z else m) (fun _ _ h => h) 0 1 _ _ _ _ _ ⟨tz, rfl⟩ ⟨t, rfl⟩ ?_))))
      refine wpAny_bind (wpAny_holding (wpAny_truthy_bool ?_))
      refine wpAny_bind (wpAny_letGo (wpAny_pure ?_))
      show wpAny _ A.in1 (if decide (z < m) = true then _ else _) _ _ _
      by_cases hzm : z < m
      · rw [if_pos (decide_eq_true hzm)]
        refine wpAny_bind ?_
        refine wpAny_updateSeq hS' rfl (wpAny_bind (wpAny_letGo ?_))
        rw [hnm]
        refine wpAny_pure ⟨plainId_quiet PySem.F.plain_min_loop _, ih (j + 1) _ _ _ (by omega) lt (W.frame _ _ _ st' fun b hbf o e => (Heap.get?_update_other _ _ (fun q : S = b => hSf (by rw [q]; exact hbf))).trans e) (Heap.get?_update_self _ hS' rfl) (.inr ⟨by omega, z, tz, rfl, ?_, ?_⟩) fun h'' tk'' kp'' => ?_⟩
        · rw [et]; simp
        · rw [et]
          intro y hy
          rcases List.mem_append.mp hy with hy | hy
          · have := hb y hy
            omega
          · simp at hy
            omega
        · exact hR h'' tk'' fun b o nb nS e => kp'' b o nb nS ((Heap.get?_update_other _ _ (Ne.symm nS)).trans (kp b o nb e))
      · rw [if_neg (by rw [decide_eq_false hzm]; decide)]
        refine wpAny_bind (wpAny_letGo ?_)
        rw [hnm]
        refine wpAny_pure ⟨plainId_quiet PySem.F.plain_min_loop _, ih (j + 1) _ _ c (by omega) lt st' hS' (.inr ⟨by omega, m, t, rfl, ?_, ?_⟩) fun h'' tk'' kp'' => ?_⟩
        · rw [et]; exact List.mem_append_left _ hm
        · rw [et]
          intro y hy
          rcases List.mem_append.mp hy with hy | hy
          · exact hb y hy
          · simp at hy
            omega
        · exact hR h'' tk'' fun b o nb nS e => kp'' b o nb nS (kp b o nb e)
theorem dcall_min {s : Shared} {l : Addr} {items : Array Value} {ns : List Int} {d : Value} {Q : Value → Shared → Prop} (hh : A.handled = none) (hl : s.heap.IsList l items) (hi : IntsAre items.toList ns)
    (h : ∀ h' tk, (∀ b o, s.heap.get? b = some o → h'.get? b = some o) → (ns = [] → Q d { s with heap := h', toks := tk }) ∧ ∀ m t, m ∈ ns → (∀ y ∈ ns, m ≤ y) → Q (.int m t) { s with heap := h', toks := tk }) :
    wpAny (model prog w) A (call (.builtin "min") [.ref l] [(Str.ofString "default", d)]) Q E s := by
  have hnm : (toString "min" ++ toString ".loop" : String) = "min.loop" := by decide
  have hlt : l < s.heap.objs.size := by obtain ⟨_, e, _⟩ := hl; exact Heap.lt_size e
  refine PyProof.Rows.kmk_tree PySem.F.kind_min PySem.F.plain_min PySem.F.entry_min (dargs_min _ _) ?_
  show wpAny _ A.in1 (Builtin.Builtins.bindParams "min" ["key", "default"] 0 ⟨[], [(Str.ofString "default", d)]⟩ >>= _) _ _ s
  refine wpAny_bind (wpAny_of_eq (show Builtin.Builtins.bindParams "min" ["key", "default"] 0 ⟨[], [(Str.ofString "default", d)]⟩ = pure [none, some d] from rfl) ?_)
  refine wpAny_bind (wpAny_pure ?_)
  refine wpAny_bind (wpAny_pyIter_list hl ?_)
  refine wpAny_bind (wpAny_newList ?_ (Nat.zero_le _))
  rw [hnm]
  have W := Walks.list (prog := prog) (w := w) (A := A.in1) hh s.heap.objs.size l (Nat.ne_of_lt hlt) items
  have e1 : (s.heap.push { cls := .type "list_iterator", data := .fields #[.ref l, .int 0 0] }).objs.size = s.heap.objs.size + 1 := Heap.size_push ..
  refine wpAny_pure ⟨plainId_quiet PySem.F.plain_min_loop _, dloop_min (ns := ns) W (fun q => ?_) ?_ (fun i v hv => ?_) items.size 0 _ #[] _ (by omega) (Nat.zero_le _) ?_ (Heap.get?_push_size _ rfl) (.inl ⟨rfl, rfl⟩) fun h' tk kp => ?_⟩
  · rw [e1] at q
    rcases List.mem_cons.mp q with q | q
    · exact Nat.succ_ne_self _ q
    · have q := List.mem_singleton.mp q
      rw [← q] at hlt
      exact Nat.not_lt.mpr (Nat.le_succ _) hlt
  · rw [← hi.length]
    simp
  · obtain ⟨z, t, e2, e3⟩ := ints_get hi (show items.toList[i]? = some v by simpa using hv)
    exact ⟨z, t, e2, e3⟩
  · exact ⟨⟨_, Heap.get?_push_of_some _ (Heap.get?_push_size _ rfl), rfl, rfl⟩, (hl.push _).push _⟩
  · refine h h' tk fun b o e => ?_
    have hb := Heap.lt_size e
    refine kp b o (fun q => ?_) (fun q => ?_) (Heap.get?_push_of_some _ (Heap.get?_push_of_some _ e))
    · rw [List.mem_singleton.mp q] at hb
      exact Nat.lt_irrefl _ hb
    · rw [q, e1] at hb
      exact Nat.not_lt.mpr (Nat.le_succ _) hb
end
/-! ### as rules -/
theorem fold_max : ∀ (ns : List Int) (d : Int), ns ≠ [] → (∀ y ∈ ns, d ≤ y) → ns.foldl max d ∈ ns ∧ ∀ y ∈ ns, y ≤ ns.foldl max d
  | [], _, h, _ => absurd rfl h
  | x :: r, d, _, hd => by
    rw [List.foldl_cons, Int.max_eq_right (hd x (List.mem_cons_self ..))]
    exact go r x
where
  go : ∀ (r : List Int) (x : Int), r.foldl max x ∈ x :: r ∧ ∀ y ∈ x :: r, y ≤ r.foldl max x
    | [], x => ⟨by simp, by simp⟩
    | z :: r, x => by
      obtain ⟨h1, h2⟩ := go r (max x z)
      rw [List.foldl_cons]
      constructor
      · rcases List.mem_cons.mp h1 with e | e
        · rw [e]
          by_cases hx : x ≤ z
          · rw [Int.max_eq_right hx]; simp
          · rw [Int.max_eq_left (by omega)]; simp
        · exact List.mem_cons_of_mem _ (List.mem_cons_of_mem _ e)
      · intro y hy
        have hm := h2 (max x z) (List.mem_cons_self ..)
        rcases List.mem_cons.mp hy with rfl | hy
        · omega
        · rcases List.mem_cons.mp hy with rfl | hy
          · omega
          · exact h2 y (List.mem_cons_of_mem _ hy)
theorem fold_min : ∀ (ns : List Int) (d : Int), ns ≠ [] → (∀ y ∈ ns, y ≤ d) → ns.foldl min d ∈ ns ∧ ∀ y ∈ ns, ns.foldl min d ≤ y
  | [], _, h, _ => absurd rfl h
  | x :: r, d, _, hd => by
    rw [List.foldl_cons, Int.min_eq_right (hd x (List.mem_cons_self ..))]
    exact go r x
where
  go : ∀ (r : List Int) (x : Int), r.foldl min x ∈ x :: r ∧ ∀ y ∈ x :: r, r.foldl min x ≤ y
    | [], x => ⟨by simp, by simp⟩
    | z :: r, x => by
      obtain ⟨h1, h2⟩ := go r (min x z)
      rw [List.foldl_cons]
      constructor
      · rcases List.mem_cons.mp h1 with e | e
        · rw [e]
          by_cases hx : x ≤ z
          · rw [Int.min_eq_left hx]; simp
          · rw [Int.min_eq_right (by omega)]; simp
        · exact List.mem_cons_of_mem _ (List.mem_cons_of_mem _ e)
      · intro y hy
        have hm := h2 (min x z) (List.mem_cons_self ..)
        rcases List.mem_cons.mp hy with rfl | hy
        · omega
        · rcases List.mem_cons.mp hy with rfl | hy
          · omega
          · exact h2 y (List.mem_cons_of_mem _ hy)
/-- max(xs, default=d), d no greater than any of xs -/
def rMaxW (K : PySem.W.Frag) : List V → List V → Hp → VK → Prop := fun vs zs H Q => ∃ (a : Addr) (ns : List Int) (d : Int), vs = [.ref a] ∧ zs = [.int d] ∧ SqL K H a (ns.map V.int) ∧ (∀ y ∈ ns, d ≤ y) ∧ Q (.int (ns.foldl max d)) H
def rMinW (K : PySem.W.Frag) : List V → List V → Hp → VK → Prop := fun vs zs H Q => ∃ (a : Addr) (ns : List Int) (d : Int), vs = [.ref a] ∧ zs = [.int d] ∧ SqL K H a (ns.map V.int) ∧ (∀ y ∈ ns, y ≤ d) ∧ Q (.int (ns.foldl min d)) H
theorem cr_maxW {X : Cx} (hc : X.calm = true) : CallRK X (.builtin "max") ["default"] (rMaxW X.K) := by
  intro pins s σ H vs zs us ws Q I r rz h
  obtain ⟨a, ns, d, rfl, rfl, hs, hd, q⟩ := h
  obtain ⟨its, rv, hl, _⟩ := I.list hs
  obtain ⟨u, rfl, ru⟩ := Vals.one rz
  obtain ⟨td, rfl⟩ := ru
  rw [Vals.ref1 r]
  refine dcall_max (I.ok.hd hc) hl.isList (by simpa using rv.ints) fun h' tk hk => ⟨fun e => ?_, fun m t hm hb => ?_⟩
  · subst e
    exact ⟨.int d, H, I.kept hk, ⟨_, rfl⟩, q⟩
  · have hne : ns ≠ [] := fun e => by rw [e] at hm; simp at hm
    obtain ⟨h1, h2⟩ := fold_max ns d hne hd
    have e : m = ns.foldl max d := Int.le_antisymm (h2 m hm) (hb _ h1)
    exact ⟨.int m, H, I.kept hk, ⟨_, rfl⟩, by rw [e]; exact q⟩
theorem cr_minW {X : Cx} (hc : X.calm = true) : CallRK X (.builtin "min") ["default"] (rMinW X.K) := by
  intro pins s σ H vs zs us ws Q I r rz h
  obtain ⟨a, ns, d, rfl, rfl, hs, hd, q⟩ := h
  obtain ⟨its, rv, hl, _⟩ := I.list hs
  obtain ⟨u, rfl, ru⟩ := Vals.one rz
  obtain ⟨td, rfl⟩ := ru
  rw [Vals.ref1 r]
  refine dcall_min (I.ok.hd hc) hl.isList (by simpa using rv.ints) fun h' tk hk => ⟨fun e => ?_, fun m t hm hb => ?_⟩
  · subst e
    exact ⟨.int d, H, I.kept hk, ⟨_, rfl⟩, q⟩
  · have hne : ns ≠ [] := fun e => by rw [e] at hm; simp at hm
    obtain ⟨h1, h2⟩ := fold_min ns d hne hd
    have e : m = ns.foldl min d := Int.le_antisymm (hb _ h1) (h2 m hm)
    exact ⟨.int m, H, I.kept hk, ⟨_, rfl⟩, by rw [e]; exact q⟩
end Lag

set_option maxRecDepth 100000
set_option maxHeartbeats 8000000
namespace Lag
open PySem PySem.Spec PyProof.Rows L2
abbrev sOuter : Stmt := topS 31 -- @is_outer
theorem int_at {l : List Int} {i : Nat} {x : V} (h : (l.map V.int)[i]? = some x) : ∃ z, l[i]? = some z ∧ x = V.int z := by
  rw [List.getElem?_map] at h
  cases e : l[i]? with
  | none =>
    rw [e] at h
    cases h
  | some z =>
    rw [e] at h
    cases h
    exact ⟨z, rfl, rfl⟩
theorem getD_at {ts : List Int} {g : Nat} (h : g < ts.length) : (ts.map V.int)[g]? = some (.int (ts.getD g 0)) := by
  rw [List.getElem?_map, List.getElem?_eq_getElem h, List.getD_eq_getElem?_getD, List.getElem?_eq_getElem h]
  rfl
/-! ### min with default, whatever the default is -/
def minG (ns : List Int) (d : Int) : Int := match ns with
  | [] => d
  | x :: l => l.foldl min x
theorem fmin_le : ∀ (l : List Int) (a : Int), l.foldl min a ≤ a ∧ (∀ y ∈ l, l.foldl min a ≤ y) ∧ (l.foldl min a = a ∨ l.foldl min a ∈ l)
  | [], a => ⟨Int.le_refl _, (fun y hy => (by simp at hy)), .inl rfl⟩
  | x :: l, a => by
    rw [List.foldl_cons]
    obtain ⟨h1, h2, h3⟩ := fmin_le l (min a x)
    refine ⟨by omega, fun y hy => ?_, ?_⟩
    · rcases List.mem_cons.mp hy with e | hy
      · rw [e]
        omega
      · exact h2 y hy
    · rcases h3 with h | h
      · rcases (by omega : min a x = a ∨ min a x = x) with e | e
        · exact .inl (h.trans e)
        · exact .inr (by rw [h, e]; exact List.mem_cons_self ..)
      · exact .inr (List.mem_cons_of_mem _ h)
theorem minG_spec {ns : List Int} {d : Int} (h : ns ≠ []) : minG ns d ∈ ns ∧ ∀ y ∈ ns, minG ns d ≤ y := by
  cases ns with
  | nil => exact absurd rfl h
  | cons x l =>
    obtain ⟨h1, h2, h3⟩ := fmin_le l x
    show l.foldl min x ∈ x :: l ∧ _
    refine ⟨?_, fun y hy => ?_⟩
    · rcases h3 with e | e
      · rw [e]
        exact List.mem_cons_self ..
      · exact List.mem_cons_of_mem _ e
    · rcases List.mem_cons.mp hy with e | hy
      · rw [e]
        exact h1
      · exact h2 y hy
def rMinG (K : PySem.W.Frag) : List V → List V → Hp → VK → Prop := fun vs zs H Q => ∃ (a : Addr) (ns : List Int) (d : Int), vs = [.ref a] ∧ zs = [.int d] ∧ SqL K H a (ns.map V.int) ∧ Q (.int (minG ns d)) H
theorem cr_minG {X : Cx} (hc : X.calm = true) : CallRK X (.builtin "min") ["default"] (rMinG X.K) := by
  intro pins s σ H vs zs us ws Q I r rz h
  obtain ⟨a, ns, d, rfl, rfl, hs, q⟩ := h
  obtain ⟨its, rv, hl, _⟩ := I.list hs
  obtain ⟨u, rfl, ru⟩ := Vals.one rz
  obtain ⟨td, rfl⟩ := ru
  rw [Vals.ref1 r]
  refine dcall_min (I.ok.hd hc) hl.isList (by simpa using rv.ints) fun h' tk hk => ⟨fun e => ?_, fun m t hm hb => ?_⟩
  · subst e
    exact ⟨.int d, H, I.kept hk, ⟨_, rfl⟩, q⟩
  · have hne : ns ≠ [] := fun e => by rw [e] at hm; simp at hm
    obtain ⟨h1, h2⟩ := minG_spec (d := d) hne
    have e : m = minG ns d := Int.le_antisymm (hb _ h1) (h2 m hm)
    exact ⟨.int m, H, I.kept hk, ⟨_, rfl⟩, by rw [e]; exact q⟩
theorem minG_nonneg (ns : List Int) : decide (0 ≤ minG ns 0) = decide (∀ y ∈ ns, 0 ≤ y) := by
  rw [decide_eq_decide]
  cases ns with
  | nil => exact ⟨(fun _ y hy => (by simp at hy)), fun _ => Int.le_refl _⟩
  | cons x l =>
    obtain ⟨h1, h2⟩ := minG_spec (ns := x :: l) (d := 0) (by simp)
    exact ⟨fun h y hy => Int.le_trans h (h2 y hy), fun h => h _ h1⟩
/-! ### lags -/
structure LagOk (gs : List Gt) (ls : List Int) : Prop where
  len : ls.length = gs.length
  ok : ∀ (i : Nat) (g : Gt) (l : Int), gs[i]? = some g → ls[i]? = some l → -500 ≤ l ∧ l ≤ 500 ∧ (portK g.1 → l = 0)
def cntsL (ws : List Wr) (ls : List Int) : List Int := ws.map fun x => ((x.2.2.length : Nat) : Int) + ls.getD x.2.1 0 - ls.getD x.1 0
def spOuter (K : PySem.W.Frag) : Sp := fun vs H Q _ => ∃ (v : V) (g : Gt), vs = [v] ∧ GateV K H v g ∧ ∀ b : Bool, (b = true ↔ portK g.1) → Q (.bl b) H
def spChkLags (K : PySem.W.Frag) (C : Addr) : Sp := fun vs H Q _ => ∃ (p ng nw ll : Addr) (gs : List Gt) (ws : List Wr) (ls : List Int), vs = [.ref p, .ref ll] ∧ NetAt K C H p ng nw gs ws ∧ gs.length ≤ 1000 ∧ SqL K H ll (ls.map V.int) ∧ LagOk gs ls ∧ ∀ H', Same H H' → Q .non H'
def spCounts (K : PySem.W.Frag) (C : Addr) : Sp := fun vs H Q _ => ∃ (p ng nw ll : Addr) (gs : List Gt) (ws : List Wr) (ls : List Int), vs = [.ref p, .ref ll] ∧ NetAt K C H p ng nw gs ws ∧ NetOk gs ws ∧ SqL K H ll (ls.map V.int) ∧ LagOk gs ls ∧ ∀ l H', Same H H' → H l = none → H' l = some (.lst ((cntsL ws ls).map V.int)) → Q (.ref l) H'
def spCountsBy (K : PySem.W.Frag) (C : Addr) : Sp := fun vs H Q _ => ∃ (p ng nw ll : Addr) (gs : List Gt) (ws : List Wr) (ls : List Int), vs = [.ref p, .ref ll] ∧ NetAt K C H p ng nw gs ws ∧ NetOk gs ws ∧ SqL K H ll (ls.map V.int) ∧ ls.length = gs.length ∧ ∀ l H', Same H H' → H l = none → H' l = some (.lst ((cntsL ws ls).map V.int)) → Q (.ref l) H'
def spAreLetBy (K : PySem.W.Frag) (C : Addr) : Sp := fun vs H Q _ => ∃ (p ng nw ll : Addr) (gs : List Gt) (ws : List Wr) (ls : List Int), vs = [.ref p, .ref ll] ∧ NetAt K C H p ng nw gs ws ∧ NetOk gs ws ∧ SqL K H ll (ls.map V.int) ∧ ls.length = gs.length ∧ ∀ H', Same H H' → Q (.bl (decide (∀ y ∈ cntsL ws ls, 0 ≤ y))) H'
def spAreLet (K : PySem.W.Frag) (C : Addr) : Sp := fun vs H Q _ => ∃ (p ng nw ll : Addr) (gs : List Gt) (ws : List Wr) (ls : List Int), vs = [.ref p, .ref ll] ∧ NetAt K C H p ng nw gs ws ∧ NetOk gs ws ∧ SqL K H ll (ls.map V.int) ∧ LagOk gs ls ∧ ∀ H', Same H H' → Q (.bl (decide (∀ y ∈ cntsL ws ls, 0 ≤ y))) H'
theorem port_in {k : Str} : inV (.str k) [.str "in", .str "out"] = true ↔ portK k := by
  unfold inV
  rw [List.any_eq_true]
  constructor
  · rintro ⟨v, hv, he⟩
    simp only [List.mem_cons, List.not_mem_nil, or_false] at hv
    rcases hv with rfl | rfl
    · exact .inl (eq_of_beq he).symm
    · exact .inr (eq_of_beq he).symm
  · rintro (rfl | rfl)
    · exact ⟨_, List.mem_cons_self .., beq_self_eq_true _⟩
    · exact ⟨_, List.mem_cons_of_mem _ (List.mem_cons_self ..), beq_self_eq_true _⟩
section
variable {P : Program} {w : World} {K : PySem.W.Frag} {mg : Str → Option Value} {base : Heap}
theorem scOuter : FnScope ["gate"] ["gate"] (defScope sOuter) := ⟨rfl, rfl, rfl, by decide +kernel, rfl, by decide +kernel, by decide +kernel⟩
abbrev DOuter (P : Program) (w : World) (K : PySem.W.Frag) (mg : Str → Option Value) (base : Heap) := Df P w K mg base 1 "is_outer" ["gate"] (spOuter K)
theorem ok_outer {f aK aW aF : Addr} {fd : FuncData} (F : Fun K "is_outer" "is_outer" sOuter f fd) (hm : mg "is_outer" = some (.ref f)) (C : Cns K mg aK aW aF) : DOuter P w K mg base f fd := by
  refine ⟨?_, hm, F.kp, F.binds fun _ _ _ _ _ _ us hl => match us, hl with | [_], _ => rfl⟩
  refine F.ok scOuter (fun vs H Q E h => ?_) (fun cdv A outer s H vs Q E hr h => ?_)
  · obtain ⟨v, g, rfl, _⟩ := h
    rfl
  · obtain ⟨v, g, rfl, ⟨a, rfl, sq⟩, q⟩ := h
    refine ⟨_, pss_one <| ps_ret <| pe_cmpR op_in_seq (pe_ix ix_tup (pv 0) pe_int (fun _ _ => rfl)) (pe_glob (v := .ref aW) (by rfl) C.mW rfl) (by rfl), ?_⟩
    exact ⟨_, rfl, a, _, 0, _, rfl, rfl, sq, atI_nat (j := 0) rfl, aW, _, rfl, .inr (C.sW H), rfl, rfl, q _ port_in⟩
abbrev DChkLags (P : Program) (w : World) (K : PySem.W.Frag) (mg : Str → Option Value) (base : Heap) (C : Addr) := Df P w K mg base 3 "check_lags" ["net", "lags"] (spChkLags K C)
abbrev nCountsBy : List Str := ["net", "numbers", "start", "end", "held"]
abbrev DCountsBy (P : Program) (w : World) (K : PySem.W.Frag) (mg : Str → Option Value) (base : Heap) (C : Addr) := Df P w K mg base 1 "counts_by" ["net", "numbers"] (spCountsBy K C)
abbrev DCounts (P : Program) (w : World) (K : PySem.W.Frag) (mg : Str → Option Value) (base : Heap) (C : Addr) := Df P w K mg base 4 "counts" ["net", "lags"] (spCounts K C)
abbrev DAreLetBy (P : Program) (w : World) (K : PySem.W.Frag) (mg : Str → Option Value) (base : Heap) (C : Addr) := Df P w K mg base 2 "are_let_by" ["net", "numbers"] (spAreLetBy K C)
abbrev DAreLet (P : Program) (w : World) (K : PySem.W.Frag) (mg : Str → Option Value) (base : Heap) (C : Addr) := Df P w K mg base 4 "are_let" ["net", "lags"] (spAreLet K C)
end
end Lag

set_option maxRecDepth 100000
set_option maxHeartbeats 8000000
namespace Lag
open PySem PySem.Spec PyProof.Rows L2
/-! ### the best ways from a gate: the mathematics -/
abbrev Cst := Int × Int
def gw (gs : List Gt) (g : Nat) : Int := (gs.getD g ("", 0)).2
/-- a way's cost, one wire longer -/
def addC (gs : List Gt) (c : Cst) (x : Wr) : Cst := (c.1 + ((x.2.2.length : Nat) : Int), c.2 - gw gs x.2.1)
def ltC (a b : Cst) : Prop := a.1 < b.1 ∨ (a.1 = b.1 ∧ a.2 < b.2)
instance (a b : Cst) : Decidable (ltC a b) := by unfold ltC; exact inferInstance
def leC (a b : Cst) : Prop := ¬ ltC b a
theorem leC.refl (a : Cst) : leC a a := fun h => by
  rcases h with h | h
  · omega
  · omega
theorem leC_iff {a b : Cst} : leC a b ↔ a.1 < b.1 ∨ (a.1 = b.1 ∧ a.2 ≤ b.2) := by
  unfold leC ltC
  omega
theorem leC.trans {a b c : Cst} (h : leC a b) (h' : leC b c) : leC a c := by
  rw [leC_iff] at *
  omega
theorem ltC.le {a b : Cst} (h : ltC a b) : leC a b := by
  rw [leC_iff]
  unfold ltC at h
  omega
theorem leC.add {gs : List Gt} {a b : Cst} (x : Wr) (h : leC a b) : leC (addC gs a x) (addC gs b x) := by
  rw [leC_iff] at *
  unfold addC
  show a.1 + _ < b.1 + _ ∨ (a.1 + _ = b.1 + _ ∧ a.2 - _ ≤ b.2 - _)
  omega
theorem leC.anti {a b : Cst} (h : leC a b) (h' : leC b a) : a = b := by
  rw [leC_iff] at *
  exact Prod.ext (by omega) (by omega)
abbrev Dst := Nat → Option Cst
def setD (D : Dst) (g : Nat) (c : Cst) : Dst := fun j => if j = g then some c else D j
/-- whether this wire betters what is known -/
def bet (gs : List Gt) (D : Dst) (x : Wr) : Prop := ∃ c, D x.1 = some c ∧ ∀ o, D x.2.1 = some o → ltC (addC gs c x) o
def rel (gs : List Gt) (D : Dst) (x : Wr) : Dst := match D x.1 with
  | none => D
  | some c => match D x.2.1 with
    | none => setD D x.2.1 (addC gs c x)
    | some o => if ltC (addC gs c x) o then setD D x.2.1 (addC gs c x) else D
theorem rel_none {gs : List Gt} {D : Dst} {x : Wr} (h : D x.1 = none) : rel gs D x = D := by
  unfold rel
  rw [h]
theorem rel_new {gs : List Gt} {D : Dst} {x : Wr} {c : Cst} (h : D x.1 = some c) (h2 : D x.2.1 = none) : rel gs D x = setD D x.2.1 (addC gs c x) := by
  unfold rel
  rw [h, h2]
theorem rel_old {gs : List Gt} {D : Dst} {x : Wr} {c o : Cst} (h : D x.1 = some c) (h2 : D x.2.1 = some o) : rel gs D x = if ltC (addC gs c x) o then setD D x.2.1 (addC gs c x) else D := by
  unfold rel
  rw [h, h2]
/-- no worse anywhere -/
def leD (D D' : Dst) : Prop := ∀ g c', D' g = some c' → ∃ c, D g = some c ∧ leC c c'
theorem leD.refl (D : Dst) : leD D D := fun g c h => ⟨c, h, leC.refl c⟩
theorem leD.trans {a b c : Dst} (h : leD a b) (h' : leD b c) : leD a c := fun g z hz => by
  obtain ⟨y, hy, h1⟩ := h' g z hz
  obtain ⟨x, hx, h2⟩ := h g y hy
  exact ⟨x, hx, h2.trans h1⟩
theorem rel_le (gs : List Gt) (D : Dst) (x : Wr) : leD (rel gs D x) D := by
  intro g c' hg
  cases h : D x.1 with
  | none =>
    rw [rel_none h]
    exact ⟨c', hg, leC.refl _⟩
  | some c =>
    cases h2 : D x.2.1 with
    | none =>
      rw [rel_new h h2]
      unfold setD
      by_cases e : g = x.2.1
      · rw [e, h2] at hg
        cases hg
      · rw [if_neg e]
        exact ⟨c', hg, leC.refl _⟩
    | some o =>
      rw [rel_old h h2]
      by_cases hl : ltC (addC gs c x) o
      · rw [if_pos hl]
        unfold setD
        by_cases e : g = x.2.1
        · rw [if_pos e]
          rw [e, h2] at hg
          cases hg
          exact ⟨_, rfl, hl.le⟩
        · rw [if_neg e]
          exact ⟨c', hg, leC.refl _⟩
      · rw [if_neg hl]
        exact ⟨c', hg, leC.refl _⟩
theorem rel_done {gs : List Gt} {D : Dst} {x : Wr} {c : Cst} (h : D x.1 = some c) : ∃ o, rel gs D x x.2.1 = some o ∧ leC o (addC gs c x) := by
  cases h2 : D x.2.1 with
  | none =>
    rw [rel_new h h2]
    unfold setD
    rw [if_pos rfl]
    exact ⟨_, rfl, leC.refl _⟩
  | some o =>
    rw [rel_old h h2]
    by_cases hl : ltC (addC gs c x) o
    · rw [if_pos hl]
      unfold setD
      rw [if_pos rfl]
      exact ⟨_, rfl, leC.refl _⟩
    · rw [if_neg hl]
      exact ⟨o, h2, hl⟩
def rnd (gs : List Gt) (ws : List Wr) (D : Dst) : Dst := ws.foldl (rel gs) D
theorem fold_le (gs : List Gt) : ∀ (ws : List Wr) (D : Dst), leD (ws.foldl (rel gs) D) D
  | [], D => leD.refl D
  | x :: ws, D => (fold_le gs ws (rel gs D x)).trans (rel_le gs D x)
theorem rnd_done (gs : List Gt) : ∀ (ws : List Wr) (D : Dst) (x : Wr) (c : Cst), x ∈ ws → D x.1 = some c → ∃ o, rnd gs ws D x.2.1 = some o ∧ leC o (addC gs c x)
  | [], _, _, _, h, _ => by cases h
  | y :: ws, D, x, c, h, hc => by
    show ∃ o, ws.foldl (rel gs) (rel gs D y) x.2.1 = some o ∧ _
    rcases List.mem_cons.mp h with e | h
    · subst e
      obtain ⟨o, ho, h1⟩ := rel_done (gs := gs) hc
      obtain ⟨o2, ho2, h2⟩ := fold_le gs ws _ _ _ ho
      exact ⟨o2, ho2, h2.trans h1⟩
    · obtain ⟨c2, hc2, h1⟩ := rel_le gs D y _ _ hc
      obtain ⟨o, ho, h2⟩ := rnd_done gs ws (rel gs D y) x c2 h hc2
      exact ⟨o, ho, h2.trans (h1.add x)⟩
def ini (gs : List Gt) (s : Nat) : Dst := fun g => if g = s then some (0, -gw gs s) else none
def rnds (gs : List Gt) (ws : List Wr) (s : Nat) : Nat → Dst
  | 0 => ini gs s
  | k + 1 => rnd gs ws (rnds gs ws s k)
/-- ways along wires: the gates come by, the last one ahead; what it costs -/
inductive Wk (gs : List Gt) (ws : List Wr) (s : Nat) : List Nat → Nat → Cst → Prop
  | nil : Wk gs ws s [s] s (0, -gw gs s)
  | cons {vs : List Nat} {u : Nat} {c : Cst} {x : Wr} : Wk gs ws s vs u c → x ∈ ws → x.1 = u → Wk gs ws s (x.2.1 :: vs) x.2.1 (addC gs c x)
/-- what is known is a way's cost -/
def Snd (gs : List Gt) (ws : List Wr) (s : Nat) (D : Dst) : Prop := ∀ g c, D g = some c → ∃ vs, Wk gs ws s vs g c
theorem Snd.ini (gs : List Gt) (ws : List Wr) (s : Nat) : Snd gs ws s (ini gs s) := fun g c h => by
  unfold Lag.ini at h
  by_cases e : g = s
  · rw [if_pos e] at h
    cases h
    rw [e]
    exact ⟨_, .nil⟩
  · rw [if_neg e] at h
    cases h
theorem Snd.set {gs : List Gt} {ws : List Wr} {s : Nat} {D : Dst} {x : Wr} {c : Cst} (h : Snd gs ws s D) (hx : x ∈ ws) (hc : D x.1 = some c) : Snd gs ws s (setD D x.2.1 (addC gs c x)) := fun g c' hg => by
  unfold setD at hg
  by_cases e : g = x.2.1
  · rw [if_pos e] at hg
    cases hg
    rw [e]
    obtain ⟨vs, hv⟩ := h _ _ hc
    exact ⟨_, .cons hv hx rfl⟩
  · rw [if_neg e] at hg
    exact h g c' hg
theorem Snd.rel {gs : List Gt} {ws : List Wr} {s : Nat} {D : Dst} {x : Wr} (h : Snd gs ws s D) (hx : x ∈ ws) : Snd gs ws s (rel gs D x) := by
  cases h1 : D x.1 with
  | none =>
    rw [rel_none h1]
    exact h
  | some c =>
    cases h2 : D x.2.1 with
    | none =>
      rw [rel_new h1 h2]
      exact h.set hx h1
    | some o =>
      rw [rel_old h1 h2]
      split
      · exact h.set hx h1
      · exact h
theorem Snd.fold {gs : List Gt} {ws : List Wr} {s : Nat} : ∀ {us : List Wr} {D : Dst}, (∀ x ∈ us, x ∈ ws) → Snd gs ws s D → Snd gs ws s (us.foldl (Lag.rel gs) D)
  | [], _, _, h => h
  | x :: us, D, hu, h => Snd.fold (us := us) (fun y hy => hu y (List.mem_cons_of_mem _ hy)) (h.rel (hu x (List.mem_cons_self ..)))
theorem Snd.rnds {gs : List Gt} {ws : List Wr} {s : Nat} : ∀ k, Snd gs ws s (rnds gs ws s k)
  | 0 => Snd.ini gs ws s
  | k + 1 => Snd.fold (fun _ h => h) (Snd.rnds k)
/-- after k rounds no way of so many wires is better -/
theorem Wk.comp {gs : List Gt} {ws : List Wr} {s : Nat} {vs : List Nat} {g : Nat} {c : Cst} (h : Wk gs ws s vs g c) : ∀ k, vs.length ≤ k + 1 → ∃ o, rnds gs ws s k g = some o ∧ leC o c := by
  induction h with
  | nil =>
    intro k _
    induction k with
    | zero => exact ⟨_, by unfold rnds ini; rw [if_pos rfl], leC.refl _⟩
    | succ k ih =>
      obtain ⟨o, ho, h1⟩ := ih (by simp)
      obtain ⟨o2, ho2, h2⟩ := fold_le gs ws _ _ _ ho
      exact ⟨o2, ho2, h2.trans h1⟩
  | @cons vs u c x hw hx hu ih =>
    intro k hk
    rw [List.length_cons] at hk
    cases k with
    | zero =>
      exfalso
      cases hw with
      | nil => simp at hk
      | cons _ _ _ => simp at hk
    | succ k =>
      obtain ⟨o, ho, h1⟩ := ih k (by omega)
      rw [← hu] at ho
      obtain ⟨o2, ho2, h2⟩ := rnd_done gs ws _ x o hx ho
      exact ⟨o2, ho2, h2.trans (h1.add x)⟩
/-- the way to a gate that was come by -/
theorem Wk.sub {gs : List Gt} {ws : List Wr} {s : Nat} {ρ : Nat → Nat} (hρ : ∀ x ∈ ws, x.2.2 = [] → ρ x.1 < ρ x.2.1) {vs : List Nat} {g : Nat} {c : Cst} (h : Wk gs ws s vs g c) :
    ∀ u ∈ vs, ∃ vs' c', Wk gs ws s vs' u c' ∧ vs' <:+ vs ∧ c'.1 ≤ c.1 ∧ (c'.1 = c.1 → ρ u ≤ ρ g) := by
  induction h with
  | nil =>
    intro u hu
    rw [List.mem_singleton.mp hu]
    exact ⟨_, _, .nil, List.suffix_refl _, Int.le_refl _, fun _ => Nat.le_refl _⟩
  | @cons vs v c x hw hx hv ih =>
    intro u hu
    rcases List.mem_cons.mp hu with e | hu
    · rw [e]
      exact ⟨_, _, .cons hw hx hv, List.suffix_refl _, Int.le_refl _, fun _ => Nat.le_refl _⟩
    · obtain ⟨vs', c', h1, h2, h3, h4⟩ := ih u hu
      refine ⟨vs', c', h1, h2.trans (List.suffix_cons ..), ?_, fun e => ?_⟩
      · show c'.1 ≤ c.1 + _
        omega
      · have e : c'.1 = c.1 + ((x.2.2.length : Nat) : Int) := e
        have hx0 : x.2.2 = [] := List.length_eq_zero_iff.mp (by omega)
        have h5 := h4 (by omega)
        have h6 := hρ x hx hx0
        rw [hv] at h6
        omega
/-- a way without a gate twice is as good -/
theorem Wk.simple {gs : List Gt} {ws : List Wr} {s : Nat} {ρ : Nat → Nat} (hρ : ∀ x ∈ ws, x.2.2 = [] → ρ x.1 < ρ x.2.1) {vs : List Nat} {g : Nat} {c : Cst} (h : Wk gs ws s vs g c) :
    ∃ vs' c', Wk gs ws s vs' g c' ∧ vs'.Nodup ∧ leC c' c := by
  induction h with
  | nil => exact ⟨_, _, .nil, by simp, leC.refl _⟩
  | @cons vs v c x hw hx hv ih =>
    obtain ⟨vs', c', h1, h2, h3⟩ := ih
    by_cases hm : x.2.1 ∈ vs'
    · obtain ⟨vs2, c2, k1, k2, k3, k4⟩ := h1.sub hρ _ hm
      refine ⟨vs2, c2, k1, h2.sublist k2.sublist, ?_⟩
      refine leC.trans (ltC.le ?_) (h3.add x)
      refine .inl ?_
      show c2.1 < c'.1 + _
      rcases Nat.eq_zero_or_pos x.2.2.length with h0 | h0
      · have hx0 : x.2.2 = [] := List.length_eq_zero_iff.mp h0
        have h6 := hρ x hx hx0
        rw [hv] at h6
        by_cases e : c2.1 = c'.1
        · have := k4 e
          omega
        · omega
      · omega
    · exact ⟨_, _, .cons h1 hx hv, List.nodup_cons.mpr ⟨hm, h2⟩, h3.add x⟩
theorem Wk.lows {gs : List Gt} {ws : List Wr} {s : Nat} (N : NetOk gs ws) (hs : s < gs.length) {vs : List Nat} {g : Nat} {c : Cst} (h : Wk gs ws s vs g c) : ∀ u ∈ vs, u < gs.length := by
  induction h with
  | nil =>
    intro u hu
    rw [List.mem_singleton.mp hu]
    exact hs
  | @cons vs v c x hw hx hv ih =>
    intro u hu
    rcases List.mem_cons.mp hu with e | hu
    · rw [e]
      exact (N.wok x hx).e
    · exact ih u hu
theorem svNodup_le {n : Nat} {l : List Nat} (hnd : l.Nodup) (hlt : ∀ e ∈ l, e < n) : l.length ≤ n := by
  have h2 := List.Nodup.length_le_of_subset hnd (l₂ := List.range n) (fun a ha => List.mem_range.mpr (hlt a ha))
  rw [List.length_range] at h2
  exact h2
/-- nothing is bettered any more -/
def Fix (gs : List Gt) (ws : List Wr) (D : Dst) : Prop := ∀ x ∈ ws, ¬ bet gs D x
theorem rel_fix {gs : List Gt} {D : Dst} {x : Wr} (h : ¬ bet gs D x) : rel gs D x = D := by
  cases h1 : D x.1 with
  | none => exact rel_none h1
  | some c =>
    cases h2 : D x.2.1 with
    | none => exact absurd ⟨c, h1, fun o ho => by rw [h2] at ho; cases ho⟩ h
    | some o =>
      rw [rel_old h1 h2, if_neg fun hl => h ⟨c, h1, fun o' ho => by rw [h2] at ho; cases ho; exact hl⟩]
theorem fold_fix {gs : List Gt} {D : Dst} : ∀ {ws : List Wr}, (∀ x ∈ ws, ¬ bet gs D x) → ws.foldl (rel gs) D = D
  | [], _ => rfl
  | x :: ws, h => by
    rw [List.foldl_cons, rel_fix (h x (List.mem_cons_self ..))]
    exact fold_fix fun y hy => h y (List.mem_cons_of_mem _ hy)
theorem rnds_fix {gs : List Gt} {ws : List Wr} {s : Nat} (N : NetOk gs ws) (hs : s < gs.length) {k : Nat} (hk : gs.length ≤ k + 1) : Fix gs ws (rnds gs ws s k) := by
  obtain ⟨ρ, hρ⟩ := N.rank
  rintro x hx ⟨c, hc, hb⟩
  obtain ⟨vs, hv⟩ := Snd.rnds (gs := gs) (ws := ws) (s := s) k _ _ hc
  obtain ⟨vs', c', h1, h2, h3⟩ := (Wk.cons hv hx rfl).simple hρ
  obtain ⟨o, ho, h4⟩ := h1.comp k (by have := svNodup_le h2 (h1.lows N hs); omega)
  exact h4.trans h3 (hb o ho)
theorem rnds_stay {gs : List Gt} {ws : List Wr} {s k : Nat} (h : Fix gs ws (rnds gs ws s k)) : ∀ j, rnds gs ws s (k + j) = rnds gs ws s k
  | 0 => rfl
  | j + 1 => by
    show rnd gs ws (rnds gs ws s (k + j)) = _
    rw [rnds_stay h j]
    exact fold_fix h
theorem rel_below {gs : List Gt} {ws : List Wr} (N : NetOk gs ws) {D : Dst} {x : Wr} (hx : x ∈ ws) (h : ∀ g c, D g = some c → g < gs.length) : ∀ g c, rel gs D x g = some c → g < gs.length := fun g c hg => by
  have st : ∀ c', setD D x.2.1 c' g = some c → g < gs.length := fun c' hs => by
    unfold setD at hs
    by_cases e : g = x.2.1
    · rw [e]
      exact (N.wok x hx).e
    · rw [if_neg e] at hs
      exact h g c hs
  cases h1 : D x.1 with
  | none =>
    rw [rel_none h1] at hg
    exact h g c hg
  | some d =>
    cases h2 : D x.2.1 with
    | none =>
      rw [rel_new h1 h2] at hg
      exact st _ hg
    | some o =>
      rw [rel_old h1 h2] at hg
      split at hg
      · exact st _ hg
      · exact h g c hg

theorem gw_get {gs : List Gt} {i : Nat} {g : Gt} (h : gs[i]? = some g) : gw gs i = g.2 := by
  unfold gw
  rw [List.getD_eq_getElem?_getD, h]
  rfl
theorem gw_nn {gs : List Gt} {ws : List Wr} (N : NetOk gs ws) (i : Nat) : 0 ≤ gw gs i := by
  unfold gw
  rw [List.getD_eq_getElem?_getD]
  cases e : gs[i]? with
  | none => exact Int.le_refl 0
  | some g => exact (N.gok g (List.mem_of_getElem? e)).2.1
/-! ### ways by their wires' places -/
def svW (ws : List Wr) (p : Nat) : Wr := ws.getD p (0, 0, [])
theorem svW_get {ws : List Wr} {p : Nat} {x : Wr} (h : ws[p]? = some x) : svW ws p = x := by
  unfold svW
  rw [List.getD_eq_getElem?_getD, h]
  rfl
def Pw (ws : List Wr) : Nat → List Nat → Nat → Prop
  | s, [], e => s = e
  | s, p :: r, e => ∃ x, ws[p]? = some x ∧ x.1 = s ∧ Pw ws x.2.1 r e
def prg (ws : List Wr) (ps : List Nat) : Int := (ps.map fun p => (((svW ws p).2.2.length : Nat) : Int)).sum
def pws (gs : List Gt) (ws : List Wr) (ps : List Nat) : Int := (ps.map fun p => gw gs (svW ws p).2.1).sum
def pwt (gs : List Gt) (ws : List Wr) (g : Nat) (ps : List Nat) : Int := gw gs g + pws gs ws ps
theorem sum_snoc (l : List Int) (a : Int) : (l ++ [a]).sum = l.sum + a := by
  rw [List.sum_append, List.sum_cons, List.sum_nil]
  omega
theorem prg_nil (ws : List Wr) : prg ws [] = 0 := rfl
theorem pws_nil (gs : List Gt) (ws : List Wr) : pws gs ws [] = 0 := rfl
theorem prg_cons {ws : List Wr} {p : Nat} {x : Wr} (h : ws[p]? = some x) (r : List Nat) : prg ws (p :: r) = ((x.2.2.length : Nat) : Int) + prg ws r := by
  unfold prg
  rw [List.map_cons, List.sum_cons, svW_get h]
theorem pws_cons {gs : List Gt} {ws : List Wr} {p : Nat} {x : Wr} (h : ws[p]? = some x) (r : List Nat) : pws gs ws (p :: r) = gw gs x.2.1 + pws gs ws r := by
  unfold pws
  rw [List.map_cons, List.sum_cons, svW_get h]
theorem prg_snoc {ws : List Wr} {p : Nat} {x : Wr} (h : ws[p]? = some x) (r : List Nat) : prg ws (r ++ [p]) = prg ws r + ((x.2.2.length : Nat) : Int) := by
  unfold prg
  rw [List.map_append]
  rw [← svW_get h]
  exact sum_snoc _ _
theorem pws_snoc {gs : List Gt} {ws : List Wr} {p : Nat} {x : Wr} (h : ws[p]? = some x) (r : List Nat) : pws gs ws (r ++ [p]) = pws gs ws r + gw gs x.2.1 := by
  unfold pws
  rw [List.map_append]
  rw [← svW_get h]
  exact sum_snoc _ _
theorem prg_app (ws : List Wr) (a b : List Nat) : prg ws (a ++ b) = prg ws a + prg ws b := by
  unfold prg
  rw [List.map_append, List.sum_append]
theorem pws_app (gs : List Gt) (ws : List Wr) (a b : List Nat) : pws gs ws (a ++ b) = pws gs ws a + pws gs ws b := by
  unfold pws
  rw [List.map_append, List.sum_append]
theorem prg_nn (ws : List Wr) : ∀ ps, 0 ≤ prg ws ps
  | [] => Int.le_refl 0
  | p :: r => by
    have := prg_nn ws r
    unfold prg at *
    rw [List.map_cons, List.sum_cons]
    omega
theorem pws_nn {gs : List Gt} {ws : List Wr} (N : NetOk gs ws) : ∀ ps, 0 ≤ pws gs ws ps
  | [] => Int.le_refl 0
  | p :: r => by
    have := pws_nn N r
    have := gw_nn N (svW ws p).2.1
    unfold pws at *
    rw [List.map_cons, List.sum_cons]
    omega
theorem Pw.app {ws : List Wr} : ∀ {a : List Nat} {s m e : Nat} {b : List Nat}, Pw ws s a m → Pw ws m b e → Pw ws s (a ++ b) e
  | [], _, _, _, _, h, h' => by
    have h : _ = _ := h
    rw [h]
    exact h'
  | p :: a, s, m, e, b, ⟨x, h1, h2, h3⟩, h' => ⟨x, h1, h2, Pw.app h3 h'⟩
theorem Pw.snoc {ws : List Wr} {s e p : Nat} {a : List Nat} {x : Wr} (h : Pw ws s a e) (hx : ws[p]? = some x) (hs : x.1 = e) : Pw ws s (a ++ [p]) x.2.1 :=
  Pw.app h ⟨x, hx, hs, rfl⟩
theorem Pw.split {ws : List Wr} : ∀ {a : List Nat} {s e : Nat} {b : List Nat}, Pw ws s (a ++ b) e → ∃ m, Pw ws s a m ∧ Pw ws m b e
  | [], s, e, b, h => ⟨s, rfl, h⟩
  | p :: a, s, e, b, ⟨x, h1, h2, h3⟩ => by
    obtain ⟨m, h4, h5⟩ := Pw.split h3
    exact ⟨m, ⟨x, h1, h2, h4⟩, h5⟩
theorem Pw.fn {ws : List Wr} : ∀ {a : List Nat} {s e e' : Nat}, Pw ws s a e → Pw ws s a e' → e = e'
  | [], s, e, e', h, h' => by
    have h : s = e := h
    have h' : s = e' := h'
    omega
  | p :: a, s, e, e', ⟨x, h1, h2, h3⟩, ⟨y, k1, k2, k3⟩ => by
    rw [h1] at k1
    cases k1
    exact Pw.fn h3 k3
theorem Pw.lt {gs : List Gt} {ws : List Wr} (N : NetOk gs ws) : ∀ {a : List Nat} {s e : Nat}, s < gs.length → Pw ws s a e → e < gs.length
  | [], s, e, hs, h => by
    have h : s = e := h
    omega
  | p :: a, s, e, hs, ⟨x, h1, h2, h3⟩ => Pw.lt N (N.wok x (List.mem_of_getElem? h1)).e h3
theorem Pw.places {ws : List Wr} : ∀ {a : List Nat} {s e : Nat}, Pw ws s a e → ∀ p ∈ a, p < ws.length
  | [], _, _, _, p, h => by cases h
  | q :: a, s, e, ⟨x, h1, h2, h3⟩, p, h => by
    rcases List.mem_cons.mp h with h | h
    · rw [h]
      exact (List.getElem?_eq_some_iff.mp h1).1
    · exact Pw.places h3 p h
theorem Wk.pw {gs : List Gt} {ws : List Wr} {s : Nat} {vs : List Nat} {g : Nat} {c : Cst} (h : Wk gs ws s vs g c) : ∃ ps, Pw ws s ps g ∧ c = (prg ws ps, -pwt gs ws s ps) := by
  induction h with
  | nil => exact ⟨[], rfl, by unfold pwt; rw [pws_nil, prg_nil, Int.add_zero]⟩
  | @cons vs u c x hw hx hu ih =>
    obtain ⟨ps, h1, h2⟩ := ih
    obtain ⟨p, hp⟩ := List.getElem?_of_mem hx
    refine ⟨ps ++ [p], h1.snoc hp hu, ?_⟩
    rw [h2]
    unfold addC pwt
    rw [prg_snoc hp, pws_snoc hp]
    refine Prod.ext rfl ?_
    show -(gw gs s + pws gs ws ps) - gw gs x.2.1 = -(gw gs s + (pws gs ws ps + gw gs x.2.1))
    omega
theorem Pw.wk {gs : List Gt} {ws : List Wr} {s : Nat} : ∀ {ps : List Nat} {u g : Nat} {vs : List Nat} {c : Cst}, Wk gs ws s vs u c → Pw ws u ps g → ∃ vs', Wk gs ws s vs' g (c.1 + prg ws ps, c.2 - pws gs ws ps)
  | [], u, g, vs, c, hw, h => by
    have h : u = g := h
    subst h
    refine ⟨vs, ?_⟩
    rw [prg_nil, pws_nil, Int.add_zero, Int.sub_zero]
    exact hw
  | p :: ps, u, g, vs, c, hw, ⟨x, h1, h2, h3⟩ => by
    obtain ⟨vs', h4⟩ := Pw.wk (Wk.cons hw (List.mem_of_getElem? h1) h2) h3
    refine ⟨vs', ?_⟩
    rw [prg_cons h1, pws_cons h1]
    have e : ((addC gs c x).1 + prg ws ps, (addC gs c x).2 - pws gs ws ps) = (c.1 + (((x.2.2.length : Nat) : Int) + prg ws ps), c.2 - (gw gs x.2.1 + pws gs ws ps)) := by
      refine Prod.ext ?_ ?_
      · show c.1 + _ + _ = _
        omega
      · show c.2 - _ - _ = _
        omega
    rw [← e]
    exact h4
/-! ### the best ways -/
def best (gs : List Gt) (ws : List Wr) (s : Nat) : Dst := rnds gs ws s gs.length
section
variable {gs : List Gt} {ws : List Wr} {s : Nat}
theorem best_fix (N : NetOk gs ws) (hs : s < gs.length) : Fix gs ws (best gs ws s) := rnds_fix N hs (Nat.le_succ _)
theorem best_way {g : Nat} {c : Cst} (h : best gs ws s g = some c) : ∃ ps, Pw ws s ps g ∧ c = (prg ws ps, -pwt gs ws s ps) := by
  obtain ⟨vs, hv⟩ := Snd.rnds (gs := gs) (ws := ws) (s := s) gs.length g c h
  exact hv.pw
theorem best_le (N : NetOk gs ws) (hs : s < gs.length) {ps : List Nat} {g : Nat} (h : Pw ws s ps g) : ∃ c, best gs ws s g = some c ∧ leC c (prg ws ps, -pwt gs ws s ps) := by
  obtain ⟨ρ, hρ⟩ := N.rank
  obtain ⟨vs, hv⟩ := Pw.wk (gs := gs) (Wk.nil (gs := gs) (ws := ws) (s := s)) h
  obtain ⟨vs', c', h1, h2, h3⟩ := hv.simple hρ
  obtain ⟨o, ho, h4⟩ := h1.comp gs.length (by have := svNodup_le h2 (h1.lows N hs); omega)
  refine ⟨o, ho, h4.trans ?_⟩
  have e : ((0 : Int) + prg ws ps, -gw gs s - pws gs ws ps) = (prg ws ps, -pwt gs ws s ps) := by
    unfold pwt
    refine Prod.ext ?_ ?_
    · show (0 : Int) + _ = _
      omega
    · show -gw gs s - pws gs ws ps = -(gw gs s + pws gs ws ps)
      omega
  rw [← e]
  exact h3
theorem best_lt (N : NetOk gs ws) (hs : s < gs.length) {g : Nat} {c : Cst} (h : best gs ws s g = some c) : g < gs.length := by
  obtain ⟨ps, h1, _⟩ := best_way h
  exact h1.lt N hs
theorem best_nn {g : Nat} {c : Cst} (h : best gs ws s g = some c) : 0 ≤ c.1 := by
  obtain ⟨ps, _, e⟩ := best_way h
  rw [e]
  exact prg_nn ws ps
/-- no ring without registers -/
theorem ring_regs {ρ : Nat → Nat} (hρ : ∀ x ∈ ws, x.2.2 = [] → ρ x.1 < ρ x.2.1) : ∀ {ps : List Nat} {u g : Nat}, Pw ws u ps g → prg ws ps = 0 → ρ u + ps.length ≤ ρ g
  | [], u, g, h, _ => by
    have h : u = g := h
    rw [h]
    exact Nat.le_refl _
  | p :: ps, u, g, ⟨x, h1, h2, h3⟩, h0 => by
    rw [prg_cons h1] at h0
    have := prg_nn ws ps
    have hx0 : x.2.2 = [] := List.length_eq_zero_iff.mp (by omega)
    have h4 := ring_regs hρ h3 (by omega)
    have h5 := hρ x (List.mem_of_getElem? h1) hx0
    rw [h2] at h5
    rw [List.length_cons]
    omega
theorem rnds_s (N : NetOk gs ws) : ∀ k, rnds gs ws s k s = some (0, -gw gs s) := fun k => by
  obtain ⟨c, hc, hle⟩ : ∃ c, rnds gs ws s k s = some c ∧ leC c (0, -gw gs s) := (Wk.nil (gs := gs) (ws := ws) (s := s)).comp k (by simp)
  obtain ⟨vs, hv⟩ := Snd.rnds (gs := gs) (ws := ws) (s := s) k s c hc
  obtain ⟨ps, h1, h2⟩ := hv.pw
  obtain ⟨ρ, hρ⟩ := N.rank
  rw [hc]
  rw [leC_iff] at hle
  subst h2
  have h3 := prg_nn ws ps
  have h0 : prg ws ps = 0 := by
    rcases hle with h | h
    · have h : prg ws ps < 0 := h
      omega
    · exact h.1
  have h4 := ring_regs hρ h1 h0
  have h5 : ps = [] := List.length_eq_zero_iff.mp (by omega)
  subst h5
  unfold pwt
  rw [prg_nil, pws_nil, Int.add_zero]
end
/-! ### the last wires of the best ways -/
structure LaI (gs : List Gt) (ws : List Wr) (s : Nat) (D : Dst) (La : List (Option Nat)) : Prop where
  len : La.length = gs.length
  at_ : La.getD s none = none
  la : ∀ g c, g ≠ s → D g = some c → ∃ p x c', La.getD g none = some p ∧ ws[p]? = some x ∧ x.2.1 = g ∧ D x.1 = some c' ∧ leC (addC gs c' x) c
theorem getD_setL {l : List (Option Nat)} {e g : Nat} {v d : Option Nat} (h : e < l.length) : (l.set e v).getD g d = if g = e then v else l.getD g d := by
  rw [List.getD_eq_getElem?_getD, List.getElem?_set]
  by_cases he : e = g
  · subst he
    rw [if_pos rfl, if_pos rfl, if_pos h]
    rfl
  · rw [if_neg he, if_neg (fun z => he z.symm), List.getD_eq_getElem?_getD]
theorem LaI.ini (gs : List Gt) (ws : List Wr) (s : Nat) : LaI gs ws s (Lag.ini gs s) (List.replicate gs.length none) := by
  have nn : ∀ g, (List.replicate gs.length (none : Option Nat)).getD g none = none := fun g => by
    rw [List.getD_eq_getElem?_getD, List.getElem?_replicate]
    split <;> rfl
  refine ⟨List.length_replicate .., nn s, fun g c hg h => ?_⟩
  unfold Lag.ini at h
  rw [if_neg hg] at h
  cases h
/-- the fold's first j wires, one more -/
theorem fold_succ {gs : List Gt} {ws : List Wr} {D : Dst} {j : Nat} {x : Wr} (hx : ws[j]? = some x) : (ws.take (j + 1)).foldl (Lag.rel gs) D = Lag.rel gs ((ws.take j).foldl (Lag.rel gs) D) x := by
  rw [List.take_add_one, hx, List.foldl_append]
  rfl
theorem rel_bet {gs : List Gt} {D : Dst} {x : Wr} {c : Cst} (h : D x.1 = some c) (hb : ∀ o, D x.2.1 = some o → ltC (addC gs c x) o) : Lag.rel gs D x = setD D x.2.1 (addC gs c x) := by
  cases h2 : D x.2.1 with
  | none => exact rel_new h h2
  | some o => rw [rel_old h h2, if_pos (hb o h2)]
theorem LaI.set {gs : List Gt} {ws : List Wr} {s : Nat} {D : Dst} {La : List (Option Nat)} {x : Wr} {c : Cst} {p : Nat} (N : NetOk gs ws) (h : LaI gs ws s D La) (hp : ws[p]? = some x) (hc : D x.1 = some c) (hb : ∀ o, D x.2.1 = some o → ltC (addC gs c x) o) (hs : D s = some (0, -gw gs s)) (S : Snd gs ws s D) :
    LaI gs ws s (setD D x.2.1 (addC gs c x)) (La.set x.2.1 (some p)) := by
  have W := N.wok x (List.mem_of_getElem? hp)
  have hl : x.2.1 < La.length := by rw [h.len]; exact W.e
  obtain ⟨ρ, hρ⟩ := N.rank
  have hne : x.2.1 ≠ s := fun e => by
    have h1 := hb (0, -gw gs s) (by rw [e]; exact hs)
    obtain ⟨vs, hv⟩ := S _ _ hc
    obtain ⟨ps, h2, h3⟩ := hv.pw
    have h4 : Pw ws s (ps ++ [p]) x.2.1 := h2.snoc hp rfl
    rw [e] at h4
    have hn := prg_nn ws ps
    have hlt : prg ws (ps ++ [p]) = 0 := by
      rw [prg_snoc hp]
      unfold ltC addC at h1
      rw [h3] at h1
      have h1' : prg ws ps + ((x.2.2.length : Nat) : Int) < 0 ∨ (prg ws ps + ((x.2.2.length : Nat) : Int) = 0 ∧ _) := h1
      rcases h1' with h1' | h1'
      · omega
      · exact h1'.1
    have h5 := ring_regs hρ h4 hlt
    rw [List.length_append, List.length_singleton] at h5
    omega
  refine ⟨by rw [List.length_set]; exact h.len, ?_, fun g c2 hg h2 => ?_⟩
  · rw [getD_setL hl, if_neg fun e => hne e.symm]
    exact h.at_
  have nx : x.1 ≠ x.2.1 := fun e => by
    have h1 := hb c (by rw [← e]; exact hc)
    rcases h1 with h1 | h1
    · have h1 : c.1 + ((x.2.2.length : Nat) : Int) < c.1 := h1
      omega
    · have h1 : c.1 + ((x.2.2.length : Nat) : Int) = c.1 := h1.1
      have hx0 : x.2.2 = [] := List.length_eq_zero_iff.mp (by omega)
      have := hρ x (List.mem_of_getElem? hp) hx0
      rw [e] at this
      omega
  rw [getD_setL hl]
  unfold setD at h2
  by_cases e : g = x.2.1
  · rw [if_pos e] at h2
    cases h2
    refine ⟨p, x, c, by rw [if_pos e], hp, e.symm, ?_, leC.refl _⟩
    unfold setD
    rw [if_neg nx]
    exact hc
  · rw [if_neg e] at h2
    obtain ⟨p', x', c', k1, k2, k3, k4, k5⟩ := h.la g c2 hg h2
    unfold setD
    by_cases e2 : x'.1 = x.2.1
    · refine ⟨p', x', addC gs c x, by rw [if_neg e]; exact k1, k2, k3, by rw [if_pos e2], ?_⟩
      rw [e2] at k4
      exact ((hb c' k4).le.add x').trans k5
    · exact ⟨p', x', c', by rw [if_neg e]; exact k1, k2, k3, by rw [if_neg e2]; exact k4, k5⟩
theorem LaI.eq {gs : List Gt} {ws : List Wr} {s : Nat} {D : Dst} {La : List (Option Nat)} (h : LaI gs ws s D La) (F : Fix gs ws D) {g : Nat} {c : Cst} (hg : g ≠ s) (hc : D g = some c) :
    ∃ p x c', La.getD g none = some p ∧ ws[p]? = some x ∧ x.2.1 = g ∧ D x.1 = some c' ∧ addC gs c' x = c := by
  obtain ⟨p, x, c', k1, k2, k3, k4, k5⟩ := h.la g c hg hc
  refine ⟨p, x, c', k1, k2, k3, k4, leC.anti k5 fun hl => F x (List.mem_of_getElem? k2) ⟨c', k4, fun o ho => ?_⟩⟩
  rw [k3, hc] at ho
  cases ho
  exact hl
/-- the way back by the last wires -/
inductive Bk (ws : List Wr) (La : List (Option Nat)) : Nat → List Nat → Nat → Prop
  | nil {g : Nat} : La.getD g none = none → Bk ws La g [] g
  | cons {g p s : Nat} {x : Wr} {ps : List Nat} : La.getD g none = some p → ws[p]? = some x → x.2.1 = g → Bk ws La x.1 ps s → Bk ws La g (p :: ps) s
theorem Bk.pw {ws : List Wr} {La : List (Option Nat)} {g s : Nat} {ps : List Nat} (h : Bk ws La g ps s) : Pw ws s ps.reverse g := by
  induction h with
  | nil _ => exact rfl
  | @cons g p s x ps h1 h2 h3 _ ih =>
    rw [List.reverse_cons, ← h3]
    exact ih.snoc h2 rfl
/-- a lexicographic measure of a gate -/
def lt2 (a b : Nat × Nat) : Prop := a.1 < b.1 ∨ (a.1 = b.1 ∧ a.2 < b.2)
theorem LaI.back {gs : List Gt} {ws : List Wr} {s : Nat} {D : Dst} {La : List (Option Nat)} (N : NetOk gs ws) (h : LaI gs ws s D La) (F : Fix gs ws D) (hs : D s = some (0, -gw gs s)) (hsl : s < gs.length) (hn : ∀ g c, D g = some c → 0 ≤ c.1) (hlt : ∀ g c, D g = some c → g < gs.length)
    {ρ : Nat → Nat} (hρ : ∀ x ∈ ws, x.2.2 = [] → ρ x.1 < ρ x.2.1) : ∀ (m r g : Nat) (c : Cst), D g = some c → c.1.toNat = m → ρ g = r →
    ∃ (ps vs : List Nat), Bk ws La g ps s ∧ vs.length = ps.length + 1 ∧ vs.Nodup ∧ (∀ v ∈ vs, ∃ c', D v = some c' ∧ (c'.1 < c.1 ∨ (c'.1 = c.1 ∧ ρ v ≤ r))) ∧ c = (prg ws ps.reverse, -pwt gs ws s ps.reverse) := by
  intro m
  induction m using Nat.strongRecOn with
  | ind m ihm =>
    intro r
    induction r using Nat.strongRecOn with
    | ind r ihr =>
      intro g c hc hm hr
      by_cases hg : g = s
      · subst hg
        rw [hs] at hc
        cases hc
        refine ⟨[], [g], .nil h.at_, rfl, by simp, fun v hv => ?_, ?_⟩
        · rw [List.mem_singleton.mp hv]
          exact ⟨_, hs, .inr ⟨rfl, by omega⟩⟩
        · show _ = (prg ws [], -pwt gs ws g [])
          unfold pwt
          rw [prg_nil, pws_nil, Int.add_zero]
      · obtain ⟨p, x, c', k1, k2, k3, k4, k5⟩ := h.eq F hg hc
        have n0 := hn _ _ k4
        have e1 : c'.1 + ((x.2.2.length : Nat) : Int) = c.1 := by rw [← k5]; rfl
        have step : ∃ (ps vs : List Nat), Bk ws La x.1 ps s ∧ vs.length = ps.length + 1 ∧ vs.Nodup ∧ (∀ v ∈ vs, ∃ c2, D v = some c2 ∧ (c2.1 < c'.1 ∨ (c2.1 = c'.1 ∧ ρ v ≤ ρ x.1))) ∧ c' = (prg ws ps.reverse, -pwt gs ws s ps.reverse) := by
          by_cases h0 : x.2.2 = []
          · have hlr := hρ x (List.mem_of_getElem? k2) h0
            rw [h0] at e1
            have e2 : c'.1 = c.1 := by
              have : ((([] : List Int).length : Nat) : Int) = 0 := rfl
              omega
            exact ihr (ρ x.1) (by rw [← hr, ← k3]; exact hlr) x.1 c' k4 (by rw [e2]; exact hm) rfl
          · have hp : 0 < x.2.2.length := List.length_pos_iff.mpr h0
            exact ihm c'.1.toNat (by omega) (ρ x.1) x.1 c' k4 rfl rfl
        obtain ⟨ps, vs, b1, b2, b3, b4, b5⟩ := step
        have le : ∀ v ∈ vs, ∃ c2, D v = some c2 ∧ (c2.1 < c.1 ∨ (c2.1 = c.1 ∧ ρ v < ρ g)) := fun v hv => by
          obtain ⟨c2, h1, h2⟩ := b4 v hv
          refine ⟨c2, h1, ?_⟩
          by_cases h0 : x.2.2 = []
          · have hlr := hρ x (List.mem_of_getElem? k2) h0
            rw [k3] at hlr
            have : ((x.2.2.length : Nat) : Int) = 0 := by rw [h0]; rfl
            omega
          · have hp : 0 < x.2.2.length := List.length_pos_iff.mpr h0
            omega
        refine ⟨p :: ps, g :: vs, .cons k1 k2 k3 b1, by rw [List.length_cons, List.length_cons, b2], List.nodup_cons.mpr ⟨fun hm => ?_, b3⟩, fun v hv => ?_, ?_⟩
        · obtain ⟨c2, h1, h2⟩ := le g hm
          rw [hc] at h1
          cases h1
          omega
        · rcases List.mem_cons.mp hv with e | hv
          · rw [e]
            exact ⟨c, hc, .inr ⟨rfl, by omega⟩⟩
          · obtain ⟨c2, h1, h2⟩ := le v hv
            refine ⟨c2, h1, ?_⟩
            omega
        · rw [List.reverse_cons, ← k5, b5]
          unfold addC pwt
          rw [prg_snoc k2, pws_snoc k2]
          refine Prod.ext rfl ?_
          show -(gw gs s + pws gs ws ps.reverse) - gw gs x.2.1 = -(gw gs s + (pws gs ws ps.reverse + gw gs x.2.1))
          omega
/-- what best_from tells as last wires -/
def LaOk (gs : List Gt) (ws : List Wr) (s : Nat) (La : List (Option Nat)) : Prop := La.length = gs.length ∧ ∀ g c, best gs ws s g = some c → ∃ ps, Bk ws La g ps s ∧ c = (prg ws ps.reverse, -pwt gs ws s ps.reverse) ∧ ps.length < gs.length
theorem LaI.ok {gs : List Gt} {ws : List Wr} {s k : Nat} {La : List (Option Nat)} (N : NetOk gs ws) (hs : s < gs.length) (hk : k ≤ gs.length) (F : Fix gs ws (rnds gs ws s k)) (h : LaI gs ws s (rnds gs ws s k) La) : LaOk gs ws s La ∧ rnds gs ws s k = best gs ws s := by
  have e : best gs ws s = rnds gs ws s k := by
    unfold best
    obtain ⟨j, hj⟩ : ∃ j, gs.length = k + j := ⟨gs.length - k, by omega⟩
    rw [hj]
    exact rnds_stay F j
  rw [← e] at F h ⊢
  refine ⟨⟨h.len, fun g c hc => ?_⟩, rfl⟩
  obtain ⟨ρ, hρ⟩ := N.rank
  obtain ⟨ps, vs, h1, h2, h3, h4, h5⟩ := h.back N F (by unfold best; exact rnds_s N _) hs (fun g c h => best_nn h) (fun g c h => best_lt N hs h) hρ _ _ g c hc rfl rfl
  refine ⟨ps, h1, h5, ?_⟩
  have := svNodup_le h3 fun v hv => by
    obtain ⟨c2, h6, _⟩ := h4 v hv
    exact best_lt N hs h6
  omega
end Lag

set_option maxRecDepth 100000
set_option maxHeartbeats 8000000
namespace Lag
open PySem PySem.Spec PyProof.Rows L2
/-! ### bounds, and numbers that keep to them: the mathematics -/
abbrev Bnd := Nat × Nat × Int
def bAt (bs : List Bnd) (j : Nat) : Bnd := bs.getD j (0, 0, 0)
theorem bAt_get {bs : List Bnd} {j : Nat} {b : Bnd} (h : bs[j]? = some b) : bAt bs j = b := by
  unfold bAt
  rw [List.getD_eq_getElem?_getD, h]
  rfl
/-- a row of bounds that follows what O tells of each place -/
def PtO (bs : List Bnd) (O : Nat → Option Nat) : Nat → List Nat → Nat → Prop
  | s, [], e => s = e
  | s, j :: r, e => O s = some j ∧ ∃ b, bs[j]? = some b ∧ b.1 = s ∧ PtO bs O b.2.1 r e
/-- a row of bounds -/
def PtB (bs : List Bnd) : Nat → List Nat → Nat → Prop
  | s, [], e => s = e
  | s, j :: r, e => ∃ b, bs[j]? = some b ∧ b.1 = s ∧ PtB bs b.2.1 r e
def rsum (bs : List Bnd) (js : List Nat) : Int := (js.map fun j => (bAt bs j).2.2).sum
theorem rsum_cons {bs : List Bnd} {j : Nat} {b : Bnd} (h : bs[j]? = some b) (r : List Nat) : rsum bs (j :: r) = b.2.2 + rsum bs r := by
  unfold rsum
  rw [List.map_cons, List.sum_cons, bAt_get h]
theorem rsum_app (bs : List Bnd) (a b : List Nat) : rsum bs (a ++ b) = rsum bs a + rsum bs b := by
  unfold rsum
  rw [List.map_append, List.sum_append]
theorem PtO.ptB {bs : List Bnd} {O : Nat → Option Nat} : ∀ {js : List Nat} {s e : Nat}, PtO bs O s js e → PtB bs s js e
  | [], _, _, h => h
  | j :: r, s, e, ⟨_, b, h1, h2, h3⟩ => ⟨b, h1, h2, PtO.ptB h3⟩
theorem PtO.app {bs : List Bnd} {O : Nat → Option Nat} : ∀ {a : List Nat} {s m e : Nat} {b : List Nat}, PtO bs O s a m → PtO bs O m b e → PtO bs O s (a ++ b) e
  | [], _, _, _, _, h, h' => by
    have h : _ = _ := h
    rw [h]
    exact h'
  | j :: a, s, m, e, b, ⟨h0, x, h1, h2, h3⟩, h' => ⟨h0, x, h1, h2, PtO.app h3 h'⟩
theorem PtO.split {bs : List Bnd} {O : Nat → Option Nat} : ∀ {a : List Nat} {s e : Nat} {b : List Nat}, PtO bs O s (a ++ b) e → ∃ m, PtO bs O s a m ∧ PtO bs O m b e
  | [], s, e, b, h => ⟨s, rfl, h⟩
  | j :: a, s, e, b, ⟨h0, x, h1, h2, h3⟩ => by
    obtain ⟨m, h4, h5⟩ := PtO.split h3
    exact ⟨m, ⟨h0, x, h1, h2, h4⟩, h5⟩
theorem PtO.snoc {bs : List Bnd} {O : Nat → Option Nat} {s e j : Nat} {a : List Nat} {b : Bnd} (h : PtO bs O s a e) (h0 : O e = some j) (hb : bs[j]? = some b) (hs : b.1 = e) : PtO bs O s (a ++ [j]) b.2.1 :=
  PtO.app h ⟨h0, b, hb, hs, rfl⟩
theorem PtB.app {bs : List Bnd} : ∀ {a : List Nat} {s m e : Nat} {b : List Nat}, PtB bs s a m → PtB bs m b e → PtB bs s (a ++ b) e
  | [], _, _, _, _, h, h' => by
    have h : _ = _ := h
    rw [h]
    exact h'
  | j :: a, s, m, e, b, ⟨x, h1, h2, h3⟩, h' => ⟨x, h1, h2, PtB.app h3 h'⟩
def updO (O : Nat → Option Nat) (s j : Nat) : Nat → Option Nat := fun v => if v = s then some j else O v
/-- the first time that the new bound is gone along -/
theorem PtO.old {bs : List Bnd} {O : Nat → Option Nat} {s j : Nat} {b : Bnd} (hb : bs[j]? = some b) : ∀ {js : List Nat} {u v : Nat}, PtO bs (updO O s j) u js v →
    PtO bs O u js v ∨ ∃ a c, js = a ++ j :: c ∧ PtO bs O u a s ∧ PtO bs (updO O s j) u a s ∧ PtO bs (updO O s j) b.2.1 c v
  | [], u, v, h => .inl h
  | i :: r, u, v, ⟨h0, x, h1, h2, h3⟩ => by
    by_cases hu : u = s
    · have h0' : i = j := by
        unfold updO at h0
        rw [if_pos hu] at h0
        exact (Option.some.inj h0).symm
      subst h0'
      rw [hb] at h1
      cases h1
      exact .inr ⟨[], r, rfl, hu, hu, h3⟩
    · have h0' : O u = some i := by
        unfold updO at h0
        rw [if_neg hu] at h0
        exact h0
      rcases PtO.old hb h3 with h4 | ⟨a, c, e, h4, h5, h6⟩
      · exact .inl ⟨h0', x, h1, h2, h4⟩
      · exact .inr ⟨i :: a, c, by rw [e]; rfl, ⟨h0', x, h1, h2, h4⟩, ⟨h0, x, h1, h2, h5⟩, h6⟩
/-- what holds in round t, behind the first j bounds: F the numbers, O the bound of the last change, T its round -/
structure SI (bs : List Bnd) (n : Nat) (F : Nat → Int) (O : Nat → Option Nat) (T : Nat → Nat) (t j : Nat) : Prop where
  non : ∀ v, O v = none → T v = 0 ∧ F v = 0
  on : ∀ v i, O v = some i → v < n ∧ ∃ b, bs[i]? = some b ∧ b.1 = v ∧ F b.2.1 + b.2.2 ≤ F v ∧ T v ≤ T b.2.1 + 1
  ok : ∀ i b, bs[i]? = some b → F b.1 ≤ F b.2.1 + b.2.2 ∨ (if i < j then t else t - 1) ≤ T b.2.1
  cyc : ∀ v js, js ≠ [] → PtO bs O v js v → rsum bs js < 0
  le0 : ∀ v, F v ≤ 0
  tle : ∀ v, T v ≤ t
theorem SI.low {bs : List Bnd} {n : Nat} {F : Nat → Int} {O : Nat → Option Nat} {T : Nat → Nat} {t j : Nat} (h : SI bs n F O T t j) : ∀ {js : List Nat} {u v : Nat}, PtO bs O u js v → F v + rsum bs js ≤ F u
  | [], u, v, e => by
    have e : u = v := e
    rw [e]
    show F v + 0 ≤ F v
    omega
  | i :: r, u, v, ⟨h0, x, h1, h2, h3⟩ => by
    have h4 := SI.low h h3
    obtain ⟨_, b, h5, h6, h7, _⟩ := h.on u i h0
    rw [h1] at h5
    cases h5
    rw [rsum_cons h1]
    omega
theorem SI.start (bs : List Bnd) (n : Nat) : SI bs n (fun _ => 0) (fun _ => none) (fun _ => 0) 1 0 :=
  ⟨fun v _ => ⟨rfl, rfl⟩, fun v i h => (nomatch h), fun i b _ => .inr (by
    rw [if_neg (by omega)]
    exact Nat.le_refl 0), fun v js hn h => (match js, hn, h with
      | [], hn, _ => absurd rfl hn
      | i :: r, _, h => (nomatch h.1)), fun v => Int.le_refl 0, fun v => Nat.zero_le _⟩
theorem SI.next {bs : List Bnd} {n : Nat} {F : Nat → Int} {O : Nat → Option Nat} {T : Nat → Nat} {t : Nat} (h : SI bs n F O T t bs.length) : SI bs n F O T (t + 1) 0 :=
  ⟨h.non, h.on, fun i b hb => by
    rcases h.ok i b hb with h1 | h1
    · exact .inl h1
    · refine .inr ?_
      rw [if_pos (List.getElem?_eq_some_iff.mp hb).1] at h1
      rw [if_neg (by omega)]
      omega, h.cyc, h.le0, fun v => Nat.le_succ_of_le (h.tle v)⟩
theorem SI.skip {bs : List Bnd} {n : Nat} {F : Nat → Int} {O : Nat → Option Nat} {T : Nat → Nat} {t j : Nat} {b : Bnd} (h : SI bs n F O T t j) (hb : bs[j]? = some b) (hk : F b.1 ≤ F b.2.1 + b.2.2) : SI bs n F O T t (j + 1) :=
  ⟨h.non, h.on, fun i b' hb' => by
    by_cases e : i = j
    · subst e
      rw [hb] at hb'
      cases hb'
      exact .inl hk
    · rcases h.ok i b' hb' with h1 | h1
      · exact .inl h1
      · refine .inr ?_
        by_cases hi : i < j
        · rw [if_pos hi] at h1
          rw [if_pos (by omega)]
          exact h1
        · rw [if_neg hi] at h1
          rw [if_neg (by omega)]
          exact h1, h.cyc, h.le0, h.tle⟩
theorem SI.set {bs : List Bnd} {n : Nat} {F : Nat → Int} {O : Nat → Option Nat} {T : Nat → Nat} {t j : Nat} {b : Bnd} (h : SI bs n F O T t j) (ht : 1 ≤ t) (hb : bs[j]? = some b) (hs : b.1 < n) (hk : F b.2.1 + b.2.2 < F b.1) :
    SI bs n (fun v => if v = b.1 then F b.2.1 + b.2.2 else F v) (updO O b.1 j) (fun v => if v = b.1 then t else T v) t (j + 1) := by
  have hTe : t - 1 ≤ T b.2.1 := by
    rcases h.ok j b hb with h1 | h1
    · omega
    · rw [if_neg (by omega)] at h1
      exact h1
  have hFle : ∀ v, (if v = b.1 then F b.2.1 + b.2.2 else F v) ≤ F v := fun v => by
    by_cases e : v = b.1
    · rw [if_pos e, e]
      omega
    · rw [if_neg e]
      exact Int.le_refl _
  have hTle : ∀ v, t - 1 ≤ T v → t - 1 ≤ (if v = b.1 then t else T v) := fun v hv => by
    split
    · omega
    · exact hv
  refine ⟨fun v hv => ?_, fun v i hv => ?_, fun i b' hb' => ?_, fun v js hn hp => ?_, fun v => Int.le_trans (hFle v) (h.le0 v), fun v => ?_⟩
  · unfold updO at hv
    by_cases e : v = b.1
    · rw [if_pos e] at hv
      cases hv
    · rw [if_neg e] at hv
      rw [if_neg e, if_neg e]
      exact h.non v hv
  · unfold updO at hv
    by_cases e : v = b.1
    · rw [if_pos e] at hv
      cases hv
      refine ⟨by rw [e]; exact hs, b, hb, e.symm, ?_, ?_⟩
      · rw [if_pos e]
        have := hFle b.2.1
        omega
      · rw [if_pos e]
        have := hTle b.2.1 hTe
        omega
    · rw [if_neg e] at hv
      obtain ⟨h1, b2, h2, h3, h4, h5⟩ := h.on v i hv
      refine ⟨h1, b2, h2, h3, ?_, ?_⟩
      · rw [if_neg e]
        have := hFle b2.2.1
        omega
      · rw [if_neg e]
        by_cases e2 : b2.2.1 = b.1
        · rw [if_pos e2]
          have := h.tle b2.2.1
          omega
        · rw [if_neg e2]
          exact h5
  · by_cases e : b'.2.1 = b.1
    · refine .inr ?_
      rw [if_pos e]
      split <;> omega
    · rw [if_neg e, if_neg e]
      by_cases hij : i = j
      · subst hij
        rw [hb] at hb'
        cases hb'
        refine .inl ?_
        rw [if_pos rfl]
        exact Int.le_refl _
      · have cond : (if i < j + 1 then t else t - 1) = (if i < j then t else t - 1) := by
          by_cases hi : i < j
          · rw [if_pos hi, if_pos (by omega)]
          · rw [if_neg hi, if_neg (by omega)]
        rw [cond]
        rcases h.ok i b' hb' with h1 | h1
        · refine .inl ?_
          have := hFle b'.1
          omega
        · exact .inr h1
  · -- rings
    have neg : ∀ (m : Nat) (c : List Nat), c.length = m → PtO bs (updO O b.1 j) b.2.1 c b.1 → b.2.2 + rsum bs c < 0 := by
      intro m
      induction m using Nat.strongRecOn with
      | ind m ih =>
        intro c hm hc
        rcases PtO.old hb hc with h1 | ⟨a, d, e, h1, _, h3⟩
        · have := h.low h1
          omega
        · have h4 := h.low h1
          have h5 := ih d.length (by rw [← hm, e, List.length_append, List.length_cons]; omega) d rfl h3
          rw [e, rsum_app, rsum_cons hb]
          omega
    rcases PtO.old hb hp with h1 | ⟨a, c, e, h1, h2, h3⟩
    · exact h.cyc v js hn h1
    · have h4 := neg _ (c ++ a) rfl (PtO.app h3 h2)
      rw [e, rsum_app, rsum_cons hb]
      rw [rsum_app] at h4
      omega
  · by_cases e : v = b.1
    · rw [if_pos e]
      exact Nat.le_refl _
    · rw [if_neg e]
      exact h.tle v
theorem SI.congr {bs : List Bnd} {n : Nat} {F F' : Nat → Int} {O : Nat → Option Nat} {T : Nat → Nat} {t j : Nat} (h : SI bs n F O T t j) (e : ∀ v, F' v = F v) : SI bs n F' O T t j := by
  have e : F' = F := funext e
  rw [e]
  exact h
theorem SI.more {bs : List Bnd} {n : Nat} {F : Nat → Int} {O : Nat → Option Nat} {T : Nat → Nat} {t j : Nat} (h : SI bs n F O T t j) : ∀ {js : List Nat} {u v : Nat}, PtO bs O u js v → T u ≤ T v + js.length
  | [], u, v, e => by
    have e : u = v := e
    rw [e]
    exact Nat.le_refl _
  | i :: r, u, v, ⟨h0, x, h1, h2, h3⟩ => by
    have h4 := SI.more h h3
    obtain ⟨_, b, h5, h6, _, h7⟩ := h.on u i h0
    rw [h1] at h5
    cases h5
    rw [List.length_cons]
    omega
def Sat (bs : List Bnd) (F : Nat → Int) : Prop := ∀ b ∈ bs, F b.1 ≤ F b.2.1 + b.2.2
theorem Sat.along {bs : List Bnd} {F : Nat → Int} (h : Sat bs F) : ∀ {js : List Nat} {u v : Nat}, PtB bs u js v → F u ≤ F v + rsum bs js
  | [], u, v, e => by
    have e : u = v := e
    rw [e]
    show F v ≤ F v + 0
    omega
  | i :: r, u, v, ⟨x, h1, h2, h3⟩ => by
    have h4 := Sat.along h h3
    have := h x (List.mem_of_getElem? h1)
    rw [rsum_cons h1]
    rw [h2] at this
    omega
/-- the places come by -/
def vts (bs : List Bnd) (s : Nat) (js : List Nat) : List Nat := s :: js.map fun j => (bAt bs j).2.1
theorem vts_get {bs : List Bnd} {O : Nat → Option Nat} {s e : Nat} {js : List Nat} (h : PtO bs O s js e) {i : Nat} (hi : i ≤ js.length) : ∃ v, (vts bs s js)[i]? = some v ∧ PtO bs O s (js.take i) v ∧ PtO bs O v (js.drop i) e := by
  induction js generalizing s i with
  | nil =>
    have hi : i = 0 := by simpa using hi
    subst hi
    exact ⟨s, rfl, rfl, h⟩
  | cons j r ih =>
    obtain ⟨h0, b, h1, h2, h3⟩ := h
    cases i with
    | zero => exact ⟨s, rfl, rfl, h0, b, h1, h2, h3⟩
    | succ i =>
      obtain ⟨v, h4, h5, h6⟩ := ih h3 (by simpa using hi)
      refine ⟨v, ?_, ⟨h0, b, h1, h2, h5⟩, h6⟩
      unfold vts at *
      rw [List.getElem?_cons_succ, List.map_cons, bAt_get h1]
      exact h4
/-- a row that comes by no place twice is short -/
theorem SI.short {bs : List Bnd} {n : Nat} {F : Nat → Int} {O : Nat → Option Nat} {T : Nat → Nat} {t j : Nat} (h : SI bs n F O T t j) (S : Sat bs F) (hb : ∀ b ∈ bs, b.1 < n ∧ b.2.1 < n) {js : List Nat} {u v : Nat} (hu : u < n) (hp : PtO bs O u js v) : js.length < n := by
  have nd : (vts bs u js).Nodup := by
    unfold List.Nodup
    rw [List.pairwise_iff_getElem]
    intro a c ha hc hac e
    have hl : (vts bs u js).length = js.length + 1 := by unfold vts; rw [List.length_cons, List.length_map]
    obtain ⟨x, h1, h2, h3⟩ := vts_get hp (i := a) (by omega)
    obtain ⟨y, k1, k2, k3⟩ := vts_get hp (i := c) (by omega)
    rw [List.getElem?_eq_getElem ha] at h1
    rw [List.getElem?_eq_getElem hc] at k1
    have exy : x = y := by
      have := Option.some.inj h1
      have := Option.some.inj k1
      omega
    subst exy
    have e2 : js.take c = js.take a ++ (js.take c).drop a := by
      have e3 : (js.take c).take a = js.take a := by rw [List.take_take, Nat.min_eq_left (by omega)]
      rw [← e3, List.take_append_drop]
    rw [e2] at k2
    obtain ⟨m, p1, p2⟩ := PtO.split k2
    have em : m = x := by
      have fn : ∀ {js : List Nat} {s e e' : Nat}, PtO bs O s js e → PtO bs O s js e' → e = e' := by
        intro js
        induction js with
        | nil =>
          intro s e e' q q'
          have q : s = e := q
          have q' : s = e' := q'
          omega
        | cons i r ih =>
          intro s e e' ⟨_, b1, q1, _, q2⟩ ⟨_, b2, q3, _, q4⟩
          rw [q1] at q3
          cases q3
          exact ih q2 q4
      exact fn p1 h2
    subst em
    have hne : (js.take c).drop a ≠ [] := fun z => by
      have := congrArg List.length z
      rw [List.length_drop, List.length_take] at this
      simp at this
      omega
    have c1 := h.cyc _ _ hne p2
    have c2 := S.along p2.ptB
    omega
  have lt : ∀ w ∈ vts bs u js, w < n := fun w hw => by
    rcases List.mem_cons.mp hw with e | hw
    · rw [e]
      exact hu
    · obtain ⟨i, hi, rfl⟩ := List.mem_map.mp hw
      have hin : ∀ {js : List Nat} {s e : Nat}, PtO bs O s js e → ∀ i ∈ js, ∃ b, bs[i]? = some b := by
        intro js
        induction js with
        | nil => intro s e _ i h; cases h
        | cons k r ih =>
          intro s e ⟨_, b, q1, _, q2⟩ i h
          rcases List.mem_cons.mp h with h | h
          · rw [h]
            exact ⟨b, q1⟩
          · exact ih q2 i h
      obtain ⟨b, hb'⟩ := hin hp i hi
      rw [bAt_get hb']
      exact (hb b (List.mem_of_getElem? hb')).2
  have := svNodup_le nd lt
  unfold vts at this
  rw [List.length_cons, List.length_map] at this
  omega
theorem SI.lowR {bs : List Bnd} {n : Nat} {F : Nat → Int} {O : Nat → Option Nat} {T : Nat → Nat} {t j : Nat} (h : SI bs n F O T t j) (S : Sat bs F) (hb : ∀ b ∈ bs, b.1 < n ∧ b.2.1 < n) {R : Int} (hR : 0 ≤ R) (hr : ∀ b ∈ bs, -R ≤ b.2.2) {v : Nat} (hv : v < n) : -((n : Int) * R) ≤ F v := by
  have rs : ∀ {js : List Nat} {u e : Nat}, PtO bs O u js e → -((js.length : Int) * R) ≤ rsum bs js := by
    intro js
    induction js with
    | nil =>
      intro u e _
      show -((0 : Int) * R) ≤ 0
      rw [Int.zero_mul]
      decide
    | cons i r ih =>
      intro u e ⟨_, b, h1, _, h3⟩
      have := ih h3
      have := hr b (List.mem_of_getElem? h1)
      rw [rsum_cons h1, List.length_cons, Int.natCast_add, Int.add_mul]
      show -((r.length : Int) * R + 1 * R) ≤ _
      rw [Int.one_mul]
      omega
  have go : ∀ k, (∃ js e, js.length = k ∧ PtO bs O v js e) ∨ ∃ js e, PtO bs O v js e ∧ O e = none := by
    intro k
    induction k with
    | zero => exact .inl ⟨[], v, rfl, rfl⟩
    | succ k ih =>
      rcases ih with ⟨js, e, hl, hp⟩ | h2
      · cases ho : O e with
        | none => exact .inr ⟨js, e, hp, ho⟩
        | some i =>
          obtain ⟨_, b, h1, h2, _⟩ := h.on e i ho
          exact .inl ⟨js ++ [i], b.2.1, by rw [List.length_append, hl]; rfl, hp.snoc ho h1 h2⟩
      · exact .inr h2
  rcases go n with ⟨js, e, hl, hp⟩ | ⟨js, e, hp, ho⟩
  · have := h.short S hb hv hp
    omega
  · have h1 := h.short S hb hv hp
    have h2 := rs hp
    have h3 := h.low hp
    have h4 := (h.non e ho).2
    have h5 : (js.length : Int) * R ≤ (n : Int) * R := Int.mul_le_mul_of_nonneg_right (by omega) hR
    omega
theorem SI.lowB {bs : List Bnd} {n : Nat} {F : Nat → Int} {O : Nat → Option Nat} {T : Nat → Nat} {t j : Nat} (h : SI bs n F O T t j) (S : Sat bs F) (hb : ∀ b ∈ bs, b.1 < n ∧ b.2.1 < n) (hr : ∀ b ∈ bs, -1 ≤ b.2.2) {v : Nat} (hv : v < n) : -(n : Int) ≤ F v := by
  have := h.lowR S hb (R := 1) (by decide) hr hv
  rw [Int.mul_one] at this
  exact this
/-- a ring of bounds with too little room -/
def RingB (bs : List Bnd) (js : List Nat) : Prop := js ≠ [] ∧ ∃ v, PtB bs v js v ∧ rsum bs js < 0
end Lag

set_option maxRecDepth 100000
set_option maxHeartbeats 8000000
namespace Lag
open PySem PySem.Spec PyProof.Rows L2
/-! ### lags for a beat, bars: the mathematics -/
instance (k : Str) : Decidable (portK k) := by unfold portK; exact inferInstance
def spotF (gs : List Gt) (g : Nat) : Nat := if portK (kindAt gs g) then gs.length else g
abbrev Pce := Nat × List Nat
def roomF (gs : List Gt) (ws : List Wr) (b : Int) (pc : Pce) : Int := if b < pwt gs ws pc.1 pc.2 then prg ws pc.2 - 1 else prg ws pc.2
def cntF (ws : List Wr) (L : Nat → Int) (p : Nat) : Int := (((svW ws p).2.2.length : Nat) : Int) + L (svW ws p).2.1 - L (svW ws p).1
structure Feas (gs : List Gt) (ws : List Wr) (b : Int) (L : Nat → Int) : Prop where
  out : ∀ g, g < gs.length → portK (kindAt gs g) → L g = 0
  lt : ∀ x ∈ ws, 0 ≤ ((x.2.2.length : Nat) : Int) + L x.2.1 - L x.1
  wt : ∀ s ps e, s < gs.length → Pw ws s ps e → (∀ p ∈ ps, cntF ws L p = 0) → pwt gs ws s ps ≤ b
section
variable {gs : List Gt} {ws : List Wr}
theorem Feas.mono {b b' : Int} {L : Nat → Int} (h : Feas gs ws b L) (hb : b ≤ b') : Feas gs ws b' L :=
  ⟨h.out, h.lt, fun s ps e hs hp hz => Int.le_trans (h.wt s ps e hs hp hz) hb⟩
theorem cntF_get {L : Nat → Int} {p : Nat} {x : Wr} (h : ws[p]? = some x) : cntF ws L p = ((x.2.2.length : Nat) : Int) + L x.2.1 - L x.1 := by
  unfold cntF
  rw [svW_get h]
theorem Pw.cnts {L : Nat → Int} : ∀ {ps : List Nat} {s e : Nat}, Pw ws s ps e → (ps.map (cntF ws L)).sum = prg ws ps + L e - L s
  | [], s, e, h => by
    have h : s = e := h
    rw [h]
    show (0 : Int) = 0 + _ - _
    omega
  | p :: r, s, e, ⟨x, h1, h2, h3⟩ => by
    rw [List.map_cons, List.sum_cons, Pw.cnts h3, cntF_get h1, prg_cons h1, h2]
    omega
theorem sum_nn : ∀ {l : List Int}, (∀ y ∈ l, 0 ≤ y) → 0 ≤ l.sum ∧ (l.sum = 0 → ∀ y ∈ l, y = 0)
  | [], _ => ⟨Int.le_refl 0, fun _ y h => by cases h⟩
  | a :: l, h => by
    obtain ⟨h1, h2⟩ := sum_nn (l := l) fun y hy => h y (List.mem_cons_of_mem _ hy)
    have h3 := h a (List.mem_cons_self ..)
    rw [List.sum_cons]
    refine ⟨by omega, fun e y hy => ?_⟩
    rcases List.mem_cons.mp hy with hy | hy
    · rw [hy]
      omega
    · exact h2 (by omega) y hy
theorem Feas.nn {b : Int} {L : Nat → Int} (h : Feas gs ws b L) {ps : List Nat} {s e : Nat} (hp : Pw ws s ps e) : ∀ y ∈ ps.map (cntF ws L), 0 ≤ y := fun y hy => by
  obtain ⟨p, hp', rfl⟩ := List.mem_map.mp hy
  have hx := List.getElem?_eq_getElem (hp.places p hp')
  rw [cntF_get hx]
  exact h.lt _ (List.getElem_mem _)
theorem sum_zero : ∀ {l : List Int}, (∀ y ∈ l, y = 0) → l.sum = 0
  | [], _ => rfl
  | a :: l, h => by
    rw [List.sum_cons, sum_zero fun y hy => h y (List.mem_cons_of_mem _ hy), h a (List.mem_cons_self ..)]
    rfl
theorem zero_sum {L : Nat → Int} {ps : List Nat} {s e : Nat} (hp : Pw ws s ps e) (hz : ∀ p ∈ ps, cntF ws L p = 0) : prg ws ps = L s - L e := by
  have h1 := hp.cnts (L := L)
  have h2 : (ps.map (cntF ws L)).sum = 0 := sum_zero fun y hy => by
    obtain ⟨p, hp', rfl⟩ := List.mem_map.mp hy
    exact hz p hp'
  omega
/-- with lags for the beat the start's lag is at most the end's and the piece's room -/
theorem Feas.room {b : Int} {L : Nat → Int} (h : Feas gs ws b L) {ps : List Nat} {s e : Nat} (hs : s < gs.length) (hp : Pw ws s ps e) : L s ≤ L e + roomF gs ws b (s, ps) := by
  obtain ⟨h1, h2⟩ := sum_nn (h.nn hp)
  rw [hp.cnts] at h1 h2
  unfold roomF
  show L s ≤ L e + if b < pwt gs ws s ps then prg ws ps - 1 else prg ws ps
  split
  · rename_i hl
    rcases (by omega : L s ≤ L e + (prg ws ps - 1) ∨ prg ws ps + L e - L s = 0) with h3 | h3
    · exact h3
    · have h4 := h.wt s ps e hs hp fun p hp' => h2 h3 _ (List.mem_map.mpr ⟨p, hp', rfl⟩)
      omega
  · omega
/-! ### the bounds for a beat -/
structure BdsOk (gs : List Gt) (ws : List Wr) (b : Int) (pcs : List Pce) (bs : List Bnd) : Prop where
  al : All2 (fun (pc : Pce) (bd : Bnd) => ∃ e, pc.1 < gs.length ∧ Pw ws pc.1 pc.2 e ∧ bd = (spotF gs pc.1, spotF gs e, roomF gs ws b pc)) pcs bs
  full : ∀ s, s < gs.length → ∀ e c, best gs ws s e = some c → ∃ pc ∈ pcs, pc.1 = s ∧ Pw ws s pc.2 e ∧ c = (prg ws pc.2, -pwt gs ws s pc.2)
  bst : ∀ pc ∈ pcs, ∃ e, Pw ws pc.1 pc.2 e ∧ best gs ws pc.1 e = some (prg ws pc.2, -pwt gs ws pc.1 pc.2)
theorem spot_le (g : Nat) (h : g < gs.length) : spotF gs g < gs.length + 1 := by
  unfold spotF
  split <;> omega
theorem BdsOk.below {b : Int} {pcs : List Pce} {bs : List Bnd} (N : NetOk gs ws) (h : BdsOk gs ws b pcs bs) : ∀ bd ∈ bs, bd.1 < gs.length + 1 ∧ bd.2.1 < gs.length + 1 := fun bd hb => by
  obtain ⟨i, hi⟩ := List.getElem?_of_mem hb
  obtain ⟨pc, _, e, h1, h2, rfl⟩ := h.al.getR hi
  exact ⟨spot_le _ h1, spot_le _ (h2.lt N h1)⟩
theorem BdsOk.m1 {b : Int} {pcs : List Pce} {bs : List Bnd} (h : BdsOk gs ws b pcs bs) : ∀ bd ∈ bs, -1 ≤ bd.2.2 := fun bd hb => by
  obtain ⟨i, hi⟩ := List.getElem?_of_mem hb
  obtain ⟨pc, _, e, h1, h2, rfl⟩ := h.al.getR hi
  show -1 ≤ roomF gs ws b pc
  have := prg_nn ws pc.2
  unfold roomF
  split <;> omega
def lagsAt (gs : List Gt) (F : Nat → Int) (g : Nat) : Int := F (spotF gs g) - F gs.length
theorem BdsOk.lags {b : Int} {pcs : List Pce} {bs : List Bnd} (N : NetOk gs ws) (h : BdsOk gs ws b pcs bs) {F : Nat → Int} (S : Sat bs F) : Feas gs ws b (lagsAt gs F) := by
  have key : ∀ s, s < gs.length → ∀ e c, best gs ws s e = some c → lagsAt gs F s ≤ lagsAt gs F e + (if b < -c.2 then c.1 - 1 else c.1) := fun s hs e c hc => by
    obtain ⟨pc, hpc, h1, h2, h3⟩ := h.full s hs e c hc
    obtain ⟨i, hi⟩ := List.getElem?_of_mem hpc
    obtain ⟨bd, hbd, e', h4, h5, h6⟩ := h.al.get hi
    rw [h1] at h5
    have := Pw.fn h2 h5
    subst this
    have h7 := S bd (List.mem_of_getElem? hbd)
    rw [h6, h1] at h7
    have h7 : F (spotF gs s) ≤ F (spotF gs e) + roomF gs ws b pc := h7
    have h8 : roomF gs ws b pc = if b < -c.2 then c.1 - 1 else c.1 := by
      unfold roomF
      rw [h3, h1, Int.neg_neg]
    rw [h8] at h7
    unfold lagsAt
    omega
  have le : ∀ {b c1 c2 : Int}, (if b < c2 then c1 - 1 else c1) ≤ c1 := by
    intro b c1 c2
    split <;> omega
  refine ⟨fun g hg hp => ?_, fun x hx => ?_, fun s ps e hs hp hz => ?_⟩
  · unfold lagsAt spotF
    rw [if_pos hp]
    omega
  · obtain ⟨p, hp⟩ := List.getElem?_of_mem hx
    have W := N.wok x hx
    have hw : Pw ws x.1 [p] x.2.1 := ⟨x, hp, rfl, rfl⟩
    obtain ⟨c, hc, hl⟩ := best_le N W.s hw
    have h1 := key x.1 W.s x.2.1 c hc
    have h2 := @le b c.1 (-c.2)
    rw [leC_iff, prg_cons hp, prg_nil] at hl
    have hl : c.1 < ((x.2.2.length : Nat) : Int) + 0 ∨ (c.1 = ((x.2.2.length : Nat) : Int) + 0 ∧ _) := hl
    rcases hl with hl | ⟨hl, _⟩ <;> omega
  · have h0 := zero_sum hp hz
    obtain ⟨c, hc, hl⟩ := best_le N hs hp
    have h1 := key s hs e c hc
    rw [leC_iff] at hl
    have hl : c.1 < prg ws ps ∨ (c.1 = prg ws ps ∧ c.2 ≤ -pwt gs ws s ps) := hl
    by_cases hb : b < -c.2
    · rw [if_pos hb] at h1
      omega
    · rw [if_neg hb] at h1
      omega
/-! ### bars -/
def Jn (gs : List Gt) (ws : List Wr) : Nat → List Pce → Nat → Prop
  | s, [], e => s = e
  | s, pc :: r, e => spotF gs pc.1 = s ∧ pc.1 < gs.length ∧ ∃ m, Pw ws pc.1 pc.2 m ∧ Jn gs ws (spotF gs m) r e
def roomsF (gs : List Gt) (ws : List Wr) (b : Int) (pcs : List Pce) : Int := (pcs.map (roomF gs ws b)).sum
def IsBar (gs : List Gt) (ws : List Wr) (b : Int) (pcs : List Pce) : Prop := pcs ≠ [] ∧ ∃ v, Jn gs ws v pcs v ∧ roomsF gs ws b pcs < 0
def spotL (gs : List Gt) (L : Nat → Int) (s : Nat) : Int := if s = gs.length then 0 else L s
theorem Feas.spot {b : Int} {L : Nat → Int} (h : Feas gs ws b L) {g : Nat} (hg : g < gs.length) : spotL gs L (spotF gs g) = L g := by
  unfold spotL spotF
  by_cases hp : portK (kindAt gs g)
  · rw [if_pos hp, if_pos rfl, h.out g hg hp]
  · rw [if_neg hp, if_neg (by omega)]
theorem Feas.joined {b : Int} {L : Nat → Int} (N : NetOk gs ws) (h : Feas gs ws b L) : ∀ {pcs : List Pce} {s e : Nat}, Jn gs ws s pcs e → spotL gs L s ≤ spotL gs L e + roomsF gs ws b pcs
  | [], s, e, h' => by
    have h' : s = e := h'
    rw [h']
    show _ ≤ _ + (0 : Int)
    omega
  | pc :: r, s, e, ⟨h1, h2, m, h3, h4⟩ => by
    have h5 := Feas.joined N h h4
    have h6 := h.room h2 h3
    rw [← h1, h.spot h2]
    rw [h.spot (h3.lt N h2)] at h5
    unfold roomsF at *
    rw [List.map_cons, List.sum_cons]
    have h6 : L pc.1 ≤ L m + roomF gs ws b pc := h6
    omega
theorem IsBar.none {b : Int} {pcs : List Pce} (N : NetOk gs ws) (h : IsBar gs ws b pcs) {L : Nat → Int} : ¬ Feas gs ws b L := fun f => by
  obtain ⟨_, v, h1, h2⟩ := h
  have := f.joined N h1
  omega
def pAt (pcs : List Pce) (j : Nat) : Pce := pcs.getD j (0, [])
theorem pAt_get {pcs : List Pce} {j : Nat} {p : Pce} (h : pcs[j]? = some p) : pAt pcs j = p := by
  unfold pAt
  rw [List.getD_eq_getElem?_getD, h]
  rfl
theorem BdsOk.joined {b : Int} {pcs : List Pce} {bs : List Bnd} (h : BdsOk gs ws b pcs bs) : ∀ {js : List Nat} {s e : Nat}, PtB bs s js e → Jn gs ws s (js.map (pAt pcs)) e ∧ roomsF gs ws b (js.map (pAt pcs)) = rsum bs js
  | [], s, e, h' => ⟨h', rfl⟩
  | j :: r, s, e, ⟨bd, h1, h2, h3⟩ => by
    obtain ⟨pc, hp, m, h4, h5, h6⟩ := h.al.getR h1
    subst h6
    obtain ⟨k1, k2⟩ := BdsOk.joined h h3
    rw [List.map_cons, pAt_get hp]
    refine ⟨⟨h2, h4, m, h5, k1⟩, ?_⟩
    rw [rsum_cons h1, ← k2]
    unfold roomsF
    rw [List.map_cons, List.sum_cons]
theorem BdsOk.bar {b : Int} {pcs : List Pce} {bs : List Bnd} (h : BdsOk gs ws b pcs bs) {js : List Nat} (r : RingB bs js) : IsBar gs ws b (js.map (pAt pcs)) := by
  obtain ⟨h1, v, h2, h3⟩ := r
  obtain ⟨k1, k2⟩ := h.joined h2
  exact ⟨fun z => h1 (List.map_eq_nil_iff.mp z), v, k1, by rw [k2]; exact h3⟩
/-! ### the least beat -/
def FeasE (gs : List Gt) (ws : List Wr) (b : Int) : Prop := ∃ L, Feas gs ws b L
def IsWait (gs : List Gt) (ws : List Wr) (m : Int) : Prop := ∃ s e c, s < gs.length ∧ best gs ws s e = some c ∧ m = -c.2
theorem max_ex {P : Int → Prop} {b : Int} (hb : ∀ v, P v → v ≤ b) : ∀ (k : Nat) (v : Int), P v → (b - v).toNat ≤ k → ∃ m, P m ∧ ∀ v, P v → v ≤ m := by
  intro k
  induction k with
  | zero =>
    intro v hv hk
    refine ⟨v, hv, fun u hu => ?_⟩
    have := hb u hu
    have := hb v hv
    omega
  | succ k ih =>
    intro v hv hk
    by_cases h : ∃ u, P u ∧ v < u
    · obtain ⟨u, hu, hlt⟩ := h
      have := hb u hu
      exact ih u hu (by omega)
    · refine ⟨v, hv, fun u hu => ?_⟩
      rcases Int.lt_or_le v u with h1 | h1
      · exact absurd ⟨u, hu, h1⟩ h
      · exact h1
theorem Feas.tight {b : Int} {L : Nat → Int} (N : NetOk gs ws) (h : Feas gs ws b L) : ∃ m, m ≤ b ∧ IsWait gs ws m ∧ Feas gs ws m L := by
  have hn : 0 < gs.length := List.length_pos_iff.mpr N.ne
  obtain ⟨m, ⟨s, ps, e, hs, hp, hz, hm⟩, hle⟩ := max_ex (P := fun v => ∃ s ps e, s < gs.length ∧ Pw ws s ps e ∧ (∀ p ∈ ps, cntF ws L p = 0) ∧ v = pwt gs ws s ps) (b := b) (fun v ⟨s, ps, e, hs, hp, hz, e'⟩ => by
    rw [e']
    exact h.wt s ps e hs hp hz) _ (pwt gs ws 0 []) ⟨0, [], 0, hn, rfl, (fun p hp => nomatch hp), rfl⟩ (Nat.le_refl _)
  refine ⟨m, by rw [hm]; exact h.wt s ps e hs hp hz, ?_, h.out, h.lt, fun s ps e hs hp hz => hle _ ⟨s, ps, e, hs, hp, hz, rfl⟩⟩
  obtain ⟨c, hc, hl⟩ := best_le N hs hp
  refine ⟨s, e, c, hs, hc, ?_⟩
  obtain ⟨qs, hq, hcq⟩ := best_way hc
  have h0 := zero_sum hp hz
  obtain ⟨h1, h2⟩ := sum_nn (h.nn hq)
  rw [hq.cnts] at h1 h2
  rw [leC_iff] at hl
  have e1 : c.1 = prg ws qs := by rw [hcq]
  have e2 : c.2 = -pwt gs ws s qs := by rw [hcq]
  have hl : c.1 < prg ws ps ∨ (c.1 = prg ws ps ∧ c.2 ≤ -pwt gs ws s ps) := hl
  have h3 := hle _ ⟨s, qs, e, hs, hq, fun p hp' => h2 (by omega) _ (List.mem_map.mpr ⟨p, hp', rfl⟩), rfl⟩
  omega
theorem Feas.zero {b : Int} (N : NetOk gs ws) (hb : ∀ m, IsWait gs ws m → m ≤ b) : Feas gs ws b (fun _ => 0) := by
  refine ⟨fun _ _ _ => rfl, fun x _ => by omega, fun s ps e hs hp hz => ?_⟩
  have h0 := zero_sum hp hz
  obtain ⟨c, hc, hl⟩ := best_le N hs hp
  have h1 := hb _ ⟨s, e, c, hs, hc, rfl⟩
  have h2 := best_nn hc
  rw [leC_iff] at hl
  have hl : c.1 < prg ws ps ∨ (c.1 = prg ws ps ∧ c.2 ≤ -pwt gs ws s ps) := hl
  omega
structure IsLeast (gs : List Gt) (ws : List Wr) (B : Int) : Prop where
  ex : FeasE gs ws B
  no : ∀ b, b < B → ¬ FeasE gs ws b
theorem IsLeast.eq {B B' : Int} (h : IsLeast gs ws B) (h' : IsLeast gs ws B') : B = B' := by
  rcases Int.lt_trichotomy B B' with e | e | e
  · exact absurd h.ex (h'.no _ e)
  · exact e
  · exact absurd h'.ex (h.no _ e)
theorem IsLeast.le {B b : Int} (h : IsLeast gs ws B) (h' : FeasE gs ws b) : B ≤ b := by
  rcases Int.lt_or_le b B with e | e
  · exact absurd h' (h.no _ e)
  · exact e
end
end Lag

set_option maxRecDepth 100000
set_option maxHeartbeats 8000000
namespace Lag
open PySem PySem.Spec PyProof.Rows L2
abbrev sBestFrom : Stmt := topS 45 -- @best_from
abbrev sWayTo : Stmt := topS 46 -- @way_to
def lasV : Option Nat → V
  | none => .non
  | some p => .int (p : Nat)
def nvs (r : List Nat) : List V := r.map fun i => V.int (i : Nat)
theorem nvs_len (r : List Nat) : (nvs r).length = r.length := List.length_map ..
/-- what is known of the gates: a table of tuples -/
structure KnD (K : PySem.W.Frag) (H : Hp) (d : Addr) (D : Dst) (kvs : List (Key × V)) (ks : List Nat) : Prop where
  at_ : H d = some (.dK kvs)
  keys : kvs.map (fun kv => kv.1) = ks.map (fun g => Sum.inl ((g : Nat) : Int))
  nd : ks.Nodup
  mem : ∀ g, g ∈ ks ↔ ∃ c, D g = some c
  some_ : ∀ g c, D g = some c → ∃ t, valV kvs (Sum.inl ((g : Nat) : Int)) = some (.ref t) ∧ SqT K H t [.int c.1, .int c.2]
  none_ : ∀ g, D g = none → valV kvs (Sum.inl ((g : Nat) : Int)) = none
theorem KnD.same {K : PySem.W.Frag} {H H' : Hp} {d : Addr} {D : Dst} {kvs : List (Key × V)} {ks : List Nat} (h : KnD K H d D kvs ks) (s : Same H H') : KnD K H' d D kvs ks :=
  ⟨s _ _ h.at_, h.keys, h.nd, h.mem, fun g c e => by
    obtain ⟨t, h1, h2⟩ := h.some_ g c e
    exact ⟨t, h1, (TK.same s).seq h2⟩, h.none_⟩
theorem KnD.get {K : PySem.W.Frag} {H : Hp} {d : Addr} {D : Dst} {kvs : List (Key × V)} {ks : List Nat} (h : KnD K H d D kvs ks) {g : Nat} {c : Cst} (e : D g = some c) : ∃ t, DGet H d (.int (g : Nat)) (some (.ref t)) ∧ SqT K H t [.int c.1, .int c.2] := by
  obtain ⟨t, h1, h2⟩ := h.some_ g c e
  refine ⟨t, ?_, h2⟩
  have := DGet.k (k := Sum.inl ((g : Nat) : Int)) h.at_
  rw [h1] at this
  exact this
theorem KnD.getN {K : PySem.W.Frag} {H : Hp} {d : Addr} {D : Dst} {kvs : List (Key × V)} {ks : List Nat} (h : KnD K H d D kvs ks) {g : Nat} (e : D g = none) : DGet H d (.int (g : Nat)) none := by
  have := DGet.k (k := Sum.inl ((g : Nat) : Int)) h.at_
  rw [h.none_ g e] at this
  exact this
theorem KnD.len {K : PySem.W.Frag} {H : Hp} {d : Addr} {D : Dst} {kvs : List (Key × V)} {ks : List Nat} (h : KnD K H d D kvs ks) : kvs.length = ks.length := by
  have := congrArg List.length h.keys
  rw [List.length_map, List.length_map] at this
  exact this
theorem has_key {kvs : List (Key × V)} {k : Key} (h : k ∈ kvs.map fun kv => kv.1) : ∃ v, valV kvs k = some v := by
  induction kvs with
  | nil => cases h
  | cons y l ih =>
    by_cases e : y.1 = k
    · exact ⟨y.2, valV_pos e⟩
    · rw [valV_neg e]
      rw [List.map_cons] at h
      rcases List.mem_cons.mp h with h | h
      · exact absurd h.symm e
      · exact ih h
theorem key_of {kvs : List (Key × V)} {k : Key} {v : V} (h : valV kvs k = some v) : k ∈ kvs.map fun kv => kv.1 := by
  induction kvs with
  | nil => cases h
  | cons y l ih =>
    rw [List.map_cons]
    by_cases e : y.1 = k
    · rw [e]
      exact List.mem_cons_self ..
    · rw [valV_neg e] at h
      exact List.mem_cons_of_mem _ (ih h)
theorem putK_old {kvs : List (Key × V)} {k : Key} {v : V} (hk : k ∈ kvs.map (fun kv => kv.1)) : (putK kvs k v).map (fun kv => kv.1) = kvs.map (fun kv => kv.1) := by
  unfold putK
  split
  · rw [List.map_map]
    refine List.map_congr_left fun y _ => ?_
    show (if y.1 = k then (y.1, v) else y).1 = y.1
    split <;> rfl
  · rename_i h
    exfalso
    apply h
    obtain ⟨y, hy, e⟩ := List.mem_map.mp hk
    rw [List.any_eq_true]
    exact ⟨y, hy, by simpa using e⟩
theorem putK_fresh {kvs : List (Key × V)} {k : Key} {v : V} (hk : k ∉ kvs.map (fun kv => kv.1)) : (putK kvs k v).map (fun kv => kv.1) = kvs.map (fun kv => kv.1) ++ [k] := by
  unfold putK
  split
  · rename_i h
    exfalso
    apply hk
    rw [List.any_eq_true] at h
    obtain ⟨y, hy, e⟩ := h
    exact List.mem_map.mpr ⟨y, hy, by simpa using e⟩
  · rw [List.map_append]
    rfl
theorem KnD.put {K : PySem.W.Frag} {H : Hp} {d t : Addr} {D : Dst} {kvs : List (Key × V)} {ks : List Nat} {e : Nat} {c : Cst} (h : KnD K H d D kvs ks) (ht : H t = some (.tup [.int c.1, .int c.2])) :
    ∃ ks', KnD K (upd H d (.dK (putK kvs (Sum.inl ((e : Nat) : Int)) (.ref t)))) d (setD D e c) (putK kvs (Sum.inl ((e : Nat) : Int)) (.ref t)) ks' := by
  have inj : ∀ {i j : Nat}, (Sum.inl ((i : Nat) : Int) : Key) = Sum.inl ((j : Nat) : Int) → i = j := fun {i j} z => by
    have := Sum.inl.inj z
    omega
  have tk : TK H (upd H d (.dK (putK kvs (Sum.inl ((e : Nat) : Int)) (.ref t)))) := fun b o to eb => by
    rw [upd_ne (fun z => by
      rw [z, h.at_] at eb
      cases eb
      exact to)]
    exact eb
  have hk : (Sum.inl ((e : Nat) : Int) : Key) ∈ kvs.map (fun kv => kv.1) ↔ e ∈ ks := by
    rw [h.keys]
    constructor
    · intro z
      obtain ⟨g, hg, e'⟩ := List.mem_map.mp z
      rw [← inj e']
      exact hg
    · intro z
      exact List.mem_map.mpr ⟨e, z, rfl⟩
  have sm : ∀ g c', setD D e c g = some c' → ∃ t', valV (putK kvs (Sum.inl ((e : Nat) : Int)) (.ref t)) (Sum.inl ((g : Nat) : Int)) = some (.ref t') ∧ SqT K (upd H d (.dK (putK kvs (Sum.inl ((e : Nat) : Int)) (.ref t)))) t' [.int c'.1, .int c'.2] := fun g c' hg => by
    rw [valV_put]
    unfold setD at hg
    by_cases z : g = e
    · rw [if_pos z] at hg
      cases hg
      rw [if_pos (by rw [z])]
      exact ⟨t, rfl, tk.seq (.inl (.inl ht))⟩
    · rw [if_neg z] at hg
      rw [if_neg fun y => z (inj y)]
      obtain ⟨t', h1, h2⟩ := h.some_ g c' hg
      exact ⟨t', h1, tk.seq h2⟩
  have sn : ∀ g, setD D e c g = none → valV (putK kvs (Sum.inl ((e : Nat) : Int)) (.ref t)) (Sum.inl ((g : Nat) : Int)) = none := fun g hg => by
    unfold setD at hg
    by_cases z : g = e
    · rw [if_pos z] at hg
      cases hg
    · rw [if_neg z] at hg
      rw [valV_put, if_neg fun y => z (inj y)]
      exact h.none_ g hg
  have dm : ∀ g, (∃ c', setD D e c g = some c') ↔ (g = e ∨ ∃ c', D g = some c') := fun g => by
    unfold setD
    by_cases z : g = e
    · rw [if_pos z]
      exact ⟨fun _ => .inl z, fun _ => ⟨c, rfl⟩⟩
    · rw [if_neg z]
      exact ⟨fun y => .inr y, fun y => y.elim (fun y => absurd y z) fun y => y⟩
  by_cases he : e ∈ ks
  · refine ⟨ks, upd_same, by rw [putK_old (hk.mpr he)]; exact h.keys, h.nd, fun g => ?_, sm, sn⟩
    rw [dm, h.mem]
    refine ⟨fun y => .inr y, fun y => y.elim (fun y => ?_) fun y => y⟩
    rw [y]
    exact (h.mem e).mp he
  · refine ⟨ks ++ [e], upd_same, by rw [putK_fresh fun z => he (hk.mp z), h.keys, List.map_append]; rfl, ?_, fun g => ?_, sm, sn⟩
    · rw [List.nodup_append]
      refine ⟨h.nd, by simp, fun a ha b hb z => ?_⟩
      rw [List.mem_singleton.mp hb] at z
      exact he (z ▸ ha)
    · rw [dm, List.mem_append, List.mem_singleton, h.mem]
      exact ⟨fun y => y.elim (fun y => .inr y) fun y => .inl y, fun y => y.elim (fun y => .inr y) fun y => .inl y⟩
theorem KnD.mut {K : PySem.W.Frag} {H : Hp} {d l : Addr} {o : HO} {xs : List V} {D : Dst} {kvs : List (Key × V)} {ks : List Nat} (h : KnD K H d D kvs ks) (hl : H l = some (.lst xs)) : KnD K (upd H l o) d D kvs ks :=
  ⟨by rw [upd_ne (fun z => by rw [← z, h.at_] at hl; cases hl)]; exact h.at_, h.keys, h.nd, h.mem, fun g c e => by
    obtain ⟨t, h1, h2⟩ := h.some_ g c e
    exact ⟨t, h1, (TK.lst hl).seq h2⟩, h.none_⟩
theorem lex_ltC (a b : Cst) : HT.lexLt [a.1, a.2] [b.1, b.2] = decide (ltC a b) := by
  obtain ⟨a1, a2⟩ := a
  obtain ⟨b1, b2⟩ := b
  show (if a1 = b1 then (if a2 = b2 then false else decide (a2 < b2)) else decide (a1 < b1)) = decide (ltC (a1, a2) (b1, b2))
  unfold ltC
  show _ = decide (a1 < b1 ∨ (a1 = b1 ∧ a2 < b2))
  by_cases e : a1 = b1
  · rw [if_pos e]
    by_cases e2 : a2 = b2
    · rw [if_pos e2]
      exact (decide_eq_false (by omega)).symm
    · rw [if_neg e2]
      by_cases e3 : a2 < b2
      · rw [decide_eq_true e3, decide_eq_true (by omega)]
      · rw [decide_eq_false e3, decide_eq_false (by omega)]
  · rw [if_neg e]
    by_cases e3 : a1 < b1
    · rw [decide_eq_true e3, decide_eq_true (by omega)]
    · rw [decide_eq_false e3, decide_eq_false (by omega)]
theorem Snd.at_s {gs : List Gt} {ws : List Wr} {s : Nat} {D : Dst} (N : NetOk gs ws) (S : Snd gs ws s D) (h : leD D (Lag.ini gs s)) : D s = some (0, -gw gs s) := by
  obtain ⟨c, hc, hle⟩ := h s (0, -gw gs s) (by unfold Lag.ini; rw [if_pos rfl])
  obtain ⟨vs, hv⟩ := S s c hc
  obtain ⟨ps, h1, h2⟩ := hv.pw
  obtain ⟨ρ, hρ⟩ := N.rank
  rw [hc]
  rw [leC_iff] at hle
  subst h2
  have h3 := prg_nn ws ps
  have h0 : prg ws ps = 0 := by
    rcases hle with h | h
    · have h : prg ws ps < 0 := h
      omega
    · exact h.1
  have h4 := ring_regs hρ h1 h0
  have h5 : ps = [] := List.length_eq_zero_iff.mp (by omega)
  subst h5
  unfold pwt
  rw [prg_nil, pws_nil, Int.add_zero]
theorem rnds_le {gs : List Gt} {ws : List Wr} {s : Nat} : ∀ k, leD (rnds gs ws s k) (Lag.ini gs s)
  | 0 => leD.refl _
  | k + 1 => (fold_le gs ws _).trans (rnds_le k)
theorem las_at {La : List (Option Nat)} {g : Nat} (h : g < La.length) : (La.map lasV)[g]? = some (lasV (La.getD g none)) := by
  rw [List.getElem?_map, List.getElem?_eq_getElem h, List.getD_eq_getElem?_getD, List.getElem?_eq_getElem h]
  rfl
def spBestFrom (K : PySem.W.Frag) (C : Addr) : Sp := fun vs H Q _ => ∃ (p ng nw : Addr) (gs : List Gt) (ws : List Wr) (s : Nat), vs = [.ref p, .int (s : Nat)] ∧ NetAt K C H p ng nw gs ws ∧ NetOk gs ws ∧ s < gs.length ∧
  ∀ (t d lL : Addr) (kvs : List (Key × V)) (ks : List Nat) (La : List (Option Nat)) (H' : Hp), Same H H' → H' t = some (.tup [.ref d, .ref lL]) → KnD K H' d (best gs ws s) kvs ks → H' lL = some (.lst (La.map lasV)) → H lL = none → LaOk gs ws s La → Q (.ref t) H'
def spWayTo (K : PySem.W.Frag) (C : Addr) : Sp := fun vs H Q _ => ∃ (p ng nw lL : Addr) (gs : List Gt) (ws : List Wr) (La : List (Option Nat)) (g s : Nat) (ps : List Nat), vs = [.ref p, .int (g : Nat), .ref lL] ∧ NetAt K C H p ng nw gs ws ∧ NetOk gs ws ∧ H lL = some (.lst (La.map lasV)) ∧ La.length = gs.length ∧ g < gs.length ∧ Bk ws La g ps s ∧ ps.length ≤ 1000 ∧
  ∀ (t lr : Addr) (H' : Hp), Same H H' → H t = none → H lr = none → H' t = some (.tup [.int (s : Nat), .ref lr]) → H' lr = some (.lst (nvs ps.reverse)) → Q (.ref t) H'
section
variable {P : Program} {w : World} {K : PySem.W.Frag} {mg : Str → Option Value} {base : Heap}
abbrev nBestFrom : List Str := ["net", "start", "known", "last", "better", "place", "here", "end", "held", "come"]
theorem scBestFrom : FnScope nBestFrom ["net", "start"] (defScope sBestFrom) := ⟨rfl, rfl, rfl, by decide +kernel, rfl, by decide +kernel, by decide +kernel⟩
abbrev DBestFrom (P : Program) (w : World) (K : PySem.W.Frag) (mg : Str → Option Value) (base : Heap) (C : Addr) := Df P w K mg base 1 "best_from" ["net", "start"] (spBestFrom K C)
theorem ok_bestFrom {f C : Addr} {fd : FuncData} (F : Fun K "best_from" "best_from" sBestFrom f fd) (hm : mg "best_from" = some (.ref f)) (B : Bt mg) (T : NT K mg C) : DBestFrom P w K mg base C f fd := by
  refine ⟨?_, hm, F.kp, F.binds fun _ _ _ _ _ _ us hl => match us, hl with | [_, _], _ => rfl⟩
  refine F.ok scBestFrom (fun vs H Q E h => ?_) (fun cdv A outer s H vs Q E hr h => ?_)
  · obtain ⟨p, ng, nw, gs, ws, s, rfl, _⟩ := h
    rfl
  · obtain ⟨p, ng, nw, gs, ws, s0, rfl, NA, N, hs0, q⟩ := h
    have nd := scBestFrom.nd
    refine ⟨_, pss_cons (ps_set (i := 2) nd rfl (.inl rfl) (pe_disp (pps_cons (pv 1) (pe_tup (pa_cons pe_int (pa_cons (pe_un un_neg (pe_ix ix_tup (pe_ix ix_list (pe_fld (pv 0) rfl) (pv 1) (fun _ _ => rfl)) pe_int (fun _ _ => rfl))) pa_nil))) pps_nil) (by rfl) (by rfl) (fun z => by cases z) (by decide))) <|
        pss_cons (ps_set (i := 3) nd rfl (.inl rfl) (pe_op op_rep (pe_lst (pa_cons pe_non pa_nil)) (pe_callB call_len_seq (by rfl) B.len PySem.boot_len (pa_cons (pe_fld (pv 0) rfl) pa_nil)))) <|
        pss_cons (ps_set (i := 4) nd rfl (.inl rfl) pe_bl) <|
        pss_cons (ps_while PassesOwn.never (pt_val (pv 4)) (pss_cons (ps_set (i := 4) nd rfl (.inl rfl) pe_bl) <|
        pss_one (ps_for PassesOwn.never rfl (pi_enum (by rfl) B.enum (pa_cons (pe_fld (pv 0) rfl) pa_nil)) (pg_tup rfl (pgs_cons (pg_name (i := 5) nd rfl (.inl rfl)) (pgs_cons (pg_tup rfl (pgs_cons (pg_name (i := 6) nd rfl (.inl rfl)) (pgs_cons (pg_name (i := 7) nd rfl (.inl rfl)) (pgs_cons (pg_name (i := 8) nd rfl (.inl rfl)) pgs_nil)))) pgs_nil))) (pss_one (ps_if (pt_cmp (pc_din (hu_of hr) (pv 6) (pv 2))) (pss_cons (ps_set (i := 9) nd rfl (.inl rfl) (pe_tup (pa_cons (pe_op op_add (pe_ix ix_tup (pe_dget (hu_of hr) (pv 2) (pv 6) (fun _ _ => rfl)) pe_int (fun _ _ => rfl)) (pe_callB call_len_seq (by rfl) B.len PySem.boot_len (pa_cons (pv 8) pa_nil))) (pa_cons (pe_op op_sub (pe_ix ix_tup (pe_dget (hu_of hr) (pv 2) (pv 6) (fun _ _ => rfl)) pe_int (fun _ _ => rfl)) (pe_ix ix_tup (pe_ix ix_list (pe_fld (pv 0) rfl) (pv 7) (fun _ _ => rfl)) pe_int (fun _ _ => rfl))) pa_nil)))) <|
        pss_one (ps_if (PW.pt (pw_or (pt_cmp (pc_dnotin (hu_of hr) (pv 7) (pv 2))) (pw_or1 (pt_cmpR (op_ltT hr.units0) (pv 9) (pe_dget (hu_of hr) (pv 2) (pv 7) (fun _ _ => rfl)) (nomark _))))) (pss_cons (ps_dput (hu_of hr) (pv 2) (pv 7) (pv 9) rfl) <|
        pss_cons (ps_asg (pv 5) (pg_sub (pv 3) (pv 7) set_list)) <|
        pss_one (ps_set (i := 4) nd rfl (.inl rfl) pe_bl)) pss_nil)) pss_nil))))) <|
        pss_one (ps_ret (pe_tup (pa_cons (pv 2) (pa_cons (pv 3) pa_nil)))), ?_⟩
    have hwl := N.wl
    have hgl := N.gl
    obtain ⟨dx, ob⟩ := id NA.ob
    obtain ⟨gv, hgv, ga⟩ := id NA.g
    obtain ⟨wv, hwv, wa⟩ := id NA.w
    have hlw : wv.length = ws.length := wa.1
    have hlg : gv.length = gs.length := ga.1
    obtain ⟨_, hvs, as, rfl, sqs⟩ := ga.getR (List.getElem?_eq_getElem hs0)
    have egs : (gs[s0]).2 = gw gs s0 := (gw_get (List.getElem?_eq_getElem hs0)).symm
    rw [egs] at sqs
    intro d hd
    have s1 := same_new (o := .dK []) hd
    have e1 : (upd H d (.dK [])) d = some (.dK []) := upd_same
    generalize upd H d (.dK []) = H1 at s1 e1
    refine ⟨_, rfl, _, rfl, p, C, dx, _, _, rfl, s1 _ _ ob, T.cl, T.nG, nf_gates _ _, _, rfl, ng, _, s0, _, rfl, rfl, SqL.of (s1 _ _ hgv), atI_nat hvs, as, _, 1, _, rfl, rfl, (TK.same s1).seq sqs, atI_nat (j := 1) rfl, _, rfl, (by show 2 ≤ sizeLine; decide), fun t1 ht1 => ?_⟩
    have s2 := same_new (o := .tup [.int 0, .int (-gw gs s0)]) ht1
    have et1 : (upd H1 t1 (.tup [.int 0, .int (-gw gs s0)])) t1 = some (.tup [.int 0, .int (-gw gs s0)]) := upd_same
    have e2 := s2 _ _ e1
    have s12 := s1.trans s2
    generalize upd H1 t1 (.tup [.int 0, .int (-gw gs s0)]) = H2 at s2 et1 e2 s12
    refine ⟨e2, [(Sum.inl ((s0 : Nat) : Int), .ref t1)], rfl, Nat.le_of_ble_eq_true rfl, ?_⟩
    have emk : mergeK [] [((Sum.inl ((s0 : Nat) : Int) : Key), V.ref t1)] = [(Sum.inl ((s0 : Nat) : Int), .ref t1)] := rfl
    rw [emk]
    have s3 : Same H (upd H2 d (.dK [(Sum.inl ((s0 : Nat) : Int), .ref t1)])) := same_mut s12 hd
    have ntd : t1 ≠ d := fun z => by
      rw [z, e2] at et1
      cases et1
    have et3 : (upd H2 d (.dK [(Sum.inl ((s0 : Nat) : Int), .ref t1)])) t1 = some (.tup [.int 0, .int (-gw gs s0)]) := (upd_ne ntd).trans et1
    have kn0 : KnD K (upd H2 d (.dK [(Sum.inl ((s0 : Nat) : Int), .ref t1)])) d (ini gs s0) [(Sum.inl ((s0 : Nat) : Int), .ref t1)] [s0] := by
      refine ⟨upd_same, rfl, by simp, fun g => ?_, fun g c hg => ?_, fun g hg => ?_⟩
      · unfold ini
        rw [List.mem_singleton]
        by_cases z : g = s0
        · rw [if_pos z]
          exact ⟨fun _ => ⟨_, rfl⟩, fun _ => z⟩
        · rw [if_neg z]
          exact ⟨fun y => absurd y z, fun ⟨c, y⟩ => by cases y⟩
      · unfold ini at hg
        by_cases z : g = s0
        · rw [if_pos z] at hg
          cases hg
          rw [z]
          exact ⟨t1, valV_pos rfl, .inl (.inl et3)⟩
        · rw [if_neg z] at hg
          cases hg
      · unfold ini at hg
        by_cases z : g = s0
        · rw [if_pos z] at hg
          cases hg
        · rw [valV_neg (fun y => z (by have := Sum.inl.inj y; omega))]
          rfl
    generalize upd H2 d (.dK [(Sum.inl ((s0 : Nat) : Int), .ref t1)]) = H3 at s3 et3 kn0
    -- last
    refine ⟨(by show 1 ≤ sizeLine; decide), fun l0 hl0 => ?_⟩
    have t4 := same_new (o := .lst [.non]) hl0
    have e4 : (upd H3 l0 (.lst [.non])) l0 = some (.lst [.non]) := upd_same
    generalize upd H3 l0 (.lst [.non]) = H4 at t4 e4
    have s14 := s3.trans t4
    refine ⟨_, rfl, p, C, dx, _, _, rfl, s14 _ _ ob, T.cl, T.nG, nf_gates _ _, ng, gv, rfl, .inl (SqL.of (s14 _ _ hgv)), l0, _, _, rfl, rfl, e4, by omega, by omega, ?_, fun lL hlL => ?_⟩
    · show 1 * _ ≤ sizeLine
      exact Nat.le_of_lt (small1000 (by omega))
    have eL : (List.replicate ((gv.length : Nat) : Int).toNat [V.non]).flatten = (List.replicate gs.length (none : Option Nat)).map lasV := by
      rw [Int.toNat_natCast, hlg]
      have : ∀ n : Nat, (List.replicate n [V.non]).flatten = (List.replicate n (none : Option Nat)).map lasV := fun n => by
        induction n with
        | zero => rfl
        | succ n ih =>
          rw [List.replicate_succ, List.flatten_cons, ih, List.replicate_succ]
          rfl
      exact this _
    rw [eL]
    have t5 := same_new (o := .lst ((List.replicate gs.length (none : Option Nat)).map lasV)) hlL
    have e5 : (upd H4 lL (.lst ((List.replicate gs.length (none : Option Nat)).map lasV))) lL = some (.lst ((List.replicate gs.length (none : Option Nat)).map lasV)) := upd_same
    have hlL0 : H lL = none := s14.free hlL
    have kn5 := (kn0.same t4).same t5
    generalize upd H4 lL (.lst ((List.replicate gs.length (none : Option Nat)).map lasV)) = H5 at t5 e5 kn5
    have s15 := s14.trans t5
    have nLd : lL ≠ d := fun z => by
      rw [z, kn5.at_] at e5
      cases e5
    refine gn_norm (σ' := [some (.ref p), some (.int (s0 : Nat)), some (.ref d), some (.ref lL), none, none, none, none, none, none]) rfl ?_
    refine ⟨fun m σ H' => ∃ (k : Nat) (b : Bool) (u5 u6 u7 u8 u9 : Option V) (kvs : List (Key × V)) (ks : List Nat) (La : List (Option Nat)), σ = [some (.ref p), some (.int (s0 : Nat)), some (.ref d), some (.ref lL), some (.bl b), u5, u6, u7, u8, u9] ∧ m = (if b = true then gs.length + 1 - k else 0) ∧ k ≤ gs.length ∧ (b = true → k < gs.length) ∧ (b = false → Fix gs ws (rnds gs ws s0 k)) ∧
        Same H H' ∧ KnD K H' d (rnds gs ws s0 k) kvs ks ∧ H' lL = some (.lst (La.map lasV)) ∧ LaI gs ws s0 (rnds gs ws s0 k) La, ⟨_, 0, true, _, _, _, _, _, _, _, _, rfl, rfl, Nat.zero_le _, fun _ => by omega, (fun z => nomatch z), s15, kn5, e5, LaI.ini gs ws s0⟩, ?_⟩
    rintro m σ H6 ⟨k, b, u5, u6, u7, u8, u9, kvs, ks, La, rfl, rfl, hk, hkb, hfb, s6, kn6, eL6, la6⟩
    refine ⟨_, rfl, b, rfl, ?_⟩
    cases b with
    | false =>
      refine iteF ?_
      obtain ⟨lok, eb⟩ := la6.ok N hs0 hk (hfb rfl)
      refine ⟨_, rfl, _, rfl, (by show 2 ≤ sizeLine; decide), fun t ht => ?_⟩
      have st := same_new (o := .tup [.ref d, .ref lL]) ht
      rw [eb] at kn6
      exact q t d lL kvs ks La _ (s6.trans st) upd_same (kn6.same st) (st _ _ eL6) hlL0 lok
    | true =>
      refine iteT ?_
      have hkn := hkb rfl
      refine ⟨fun σ H' => ∃ (b : Bool) (u5 u6 u7 u8 u9 : Option V) (kvs : List (Key × V)) (ks : List Nat) (La : List (Option Nat)), σ = [some (.ref p), some (.int (s0 : Nat)), some (.ref d), some (.ref lL), some (.bl b), u5, u6, u7, u8, u9] ∧ (b = true → k + 1 < gs.length) ∧ (b = false → Fix gs ws (rnds gs ws s0 (k + 1))) ∧
        Same H H' ∧ KnD K H' d (rnds gs ws s0 (k + 1)) kvs ks ∧ H' lL = some (.lst (La.map lasV)) ∧ LaI gs ws s0 (rnds gs ws s0 (k + 1)) La, fun σ' H' ⟨b, u5, u6, u7, u8, u9, kvs, ks, La, e, h1, h2, h3, h4, h5, h6⟩ => ⟨if b = true then gs.length + 1 - (k + 1) else 0, ?_, k + 1, b, u5, u6, u7, u8, u9, kvs, ks, La, e, rfl, by omega, h1, h2, h3, h4, h5, h6⟩, ?_⟩
      · rw [if_pos rfl]
        split <;> omega
      refine ⟨_, rfl, p, C, dx, _, _, rfl, s6 _ _ ob, T.cl, T.nW, nf_wires _ _, nw, wv, rfl, SqL.of (s6 _ _ hwv), for_it (walk_enum (K := K) (a := nw) (xs := wv)) (fun j σ H' => ∃ (b : Bool) (u5 u6 u7 u8 u9 : Option V) (kvs : List (Key × V)) (ks : List Nat) (La : List (Option Nat)), σ = [some (.ref p), some (.int (s0 : Nat)), some (.ref d), some (.ref lL), some (.bl b), u5, u6, u7, u8, u9] ∧
          (b = false → (ws.take j).foldl (Lag.rel gs) (rnds gs ws s0 k) = rnds gs ws s0 k ∧ ∀ i x, i < j → ws[i]? = some x → ¬ bet gs (rnds gs ws s0 k) x) ∧ (b = true → ¬ Fix gs ws (rnds gs ws s0 k)) ∧
          Same H H' ∧ KnD K H' d ((ws.take j).foldl (Lag.rel gs) (rnds gs ws s0 k)) kvs ks ∧ H' lL = some (.lst (La.map lasV)) ∧ LaI gs ws s0 ((ws.take j).foldl (Lag.rel gs) (rnds gs ws s0 k)) La) ⟨false, _, _, _, _, _, kvs, ks, La, rfl, fun _ => ⟨rfl, fun i x hi => absurd hi (Nat.not_lt_zero _)⟩, (fun z => nomatch z), s6, kn6, eL6, la6⟩ (fun j σ H' _ ⟨_, _, _, _, _, _, _, _, _, _, _, _, sm, _⟩ => SqL.of (sm _ _ hwv)) ?_ ?_⟩
      · rintro j v σ H7 H7' hj ⟨b, u5, u6, u7, u8, u9, kvs, ks, La, rfl, hbf, hbt, sm, kn7, eL7, la7⟩ ⟨T', x1, y, rfl, hT, rfl, ex, ey⟩
        cases ex
        obtain ⟨x, hx, a, b', rfl, sq1, sq2⟩ := wa.get ey
        have hji : j < ws.length := (List.getElem?_eq_some_iff.mp hx).1
        have WX := N.wok x (List.mem_of_getElem? hx)
        have sT := same_new (o := .tup [.int (j : Nat), .ref a]) hT
        have eT : (upd H7 T' (.tup [.int (j : Nat), .ref a])) T' = some (.tup [.int (j : Nat), .ref a]) := upd_same
        have sm8 := sm.trans sT
        have kn8 := kn7.same sT
        have eL8 := sT _ _ eL7
        generalize upd H7 T' (.tup [.int (j : Nat), .ref a]) = H8 at sT eT sm8 kn8 eL8
        have tk8 := TK.same sm8
        have hfs := fold_succ (gs := gs) (D := rnds gs ws s0 k) hx
        have S0 : Snd gs ws s0 ((ws.take j).foldl (Lag.rel gs) (rnds gs ws s0 k)) := Snd.fold (fun y hy => List.mem_of_mem_take hy) (Snd.rnds k)
        have lD : leD ((ws.take j).foldl (Lag.rel gs) (rnds gs ws s0 k)) (ini gs s0) := (fold_le gs _ _).trans (rnds_le k)
        have hDs := S0.at_s N lD
        refine ⟨T', _, rfl, .inl (.inl eT), rfl, _, _, rfl, _, _, rfl, a, _, rfl, tk8.seq sq1, rfl, _, _, rfl, _, _, rfl, _, _, rfl, rfl, rfl, ?_⟩
        generalize hDj : (ws.take j).foldl (Lag.rel gs) (rnds gs ws s0 k) = Dj at *
        cases hc : Dj x.1 with
        | none =>
          refine ⟨_, rfl, _, rfl, d, none, rfl, kn8.getN hc, _, rfl, iteF ?_⟩
          have er : Lag.rel gs Dj x = Dj := rel_none hc
          rw [er] at hfs
          refine ⟨b, _, _, _, _, _, kvs, ks, La, rfl, fun hb => ⟨?_, fun i y hi hy => ?_⟩, hbt, sm8, ?_, eL8, ?_⟩
          · rw [hfs]
            exact (hbf hb).1
          · by_cases e : i = j
            · subst e
              rw [hx] at hy
              cases hy
              rintro ⟨c, h1, _⟩
              rw [← (hbf hb).1, hc] at h1
              cases h1
            · exact (hbf hb).2 i y (by omega) hy
          · rw [hfs]
            exact kn8
          · rw [hfs]
            exact la7
        | some c =>
          obtain ⟨tc, hg, hsc⟩ := kn8.get hc
          refine ⟨_, rfl, _, rfl, d, _, rfl, hg, _, rfl, iteT ?_⟩
          obtain ⟨_, hvg, ag, rfl, sqg⟩ := ga.getR (List.getElem?_eq_getElem WX.e)
          have ew : (gs[x.2.1]'WX.e).2 = gw gs x.2.1 := (gw_get (List.getElem?_eq_getElem WX.e)).symm
          rw [ew] at sqg
          refine ⟨_, rfl, _, rfl, d, _, rfl, hg, tc, _, 0, _, rfl, rfl, hsc, atI_nat (j := 0) rfl, _, rfl, b', _, rfl, .inr (tk8.seq sq2), _, _, rfl, rfl, ?_⟩
          refine ⟨_, rfl, _, rfl, d, _, rfl, hg, tc, _, 1, _, rfl, rfl, hsc, atI_nat (j := 1) rfl, _, rfl, p, C, dx, _, _, rfl, sm8 _ _ ob, T.cl, T.nG, nf_gates _ _, _, rfl, ng, _, x.2.1, _, rfl, rfl, SqL.of (sm8 _ _ hgv), atI_nat hvg, ag, _, 1, _, rfl, rfl, tk8.seq sqg, atI_nat (j := 1) rfl, _, _, rfl, rfl, (by show 2 ≤ sizeLine; decide), fun t9 ht9 => ?_⟩
          rw [List.length_map]
          have eadd : (c.1 + ((x.2.2.length : Nat) : Int), c.2 - gw gs x.2.1) = addC gs c x := rfl
          have s9 := same_new (o := .tup [.int (c.1 + ((x.2.2.length : Nat) : Int)), .int (c.2 - gw gs x.2.1)]) ht9
          have et9 : (upd H8 t9 (.tup [.int (c.1 + ((x.2.2.length : Nat) : Int)), .int (c.2 - gw gs x.2.1)])) t9 = some (.tup [.int (addC gs c x).1, .int (addC gs c x).2]) := upd_same
          have sm9 := sm8.trans s9
          have kn9 := kn8.same s9
          have eL9 := s9 _ _ eL8
          generalize upd H8 t9 (.tup [.int (c.1 + ((x.2.2.length : Nat) : Int)), .int (c.2 - gw gs x.2.1)]) = H9 at s9 et9 sm9 kn9 eL9
          refine gn_norm (σ' := [some (.ref p), some (.int (s0 : Nat)), some (.ref d), some (.ref lL), some (.bl b), some (.int (j : Nat)), some (.int (x.1 : Nat)), some (.int (x.2.1 : Nat)), some (.ref b'), some (.ref t9)]) rfl ?_
          have notb : ∀ (o : Cst), Dj x.2.1 = some o → ¬ ltC (addC gs c x) o → Lag.rel gs Dj x = Dj ∧ ¬ bet gs Dj x := fun o ho hn => by
            refine ⟨by rw [rel_old hc ho, if_neg hn], ?_⟩
            rintro ⟨c2, h1, h2⟩
            rw [hc] at h1
            cases h1
            exact hn (h2 o ho)
          cases ho : Dj x.2.1 with
          | none =>
            have hbet : ∀ o, Dj x.2.1 = some o → ltC (addC gs c x) o := fun o h => by rw [ho] at h; cases h
            refine ⟨_, rfl, _, rfl, d, none, rfl, kn9.getN ho, _, rfl, iteT ?_⟩
            have hsz : kvs.length < sizeLine := by
              have := kn9.len
              have := svNodup_le kn9.nd fun v hv => by
                obtain ⟨c', hc'⟩ := (kn9.mem v).mp hv
                obtain ⟨vs, hvs⟩ := S0 v c' hc'
                obtain ⟨ps, hps, _⟩ := hvs.pw
                exact hps.lt N hs0
              exact small1000 (by omega)
            refine ⟨_, rfl, _, rfl, _, rfl, d, _, rfl, DPut.k (k := Sum.inl ((x.2.1 : Nat) : Int)) kn9.at_ hsz, ?_⟩
            obtain ⟨ks', kn10⟩ := kn9.put (e := x.2.1) (c := addC gs c x) et9
            have sm10 : Same H (upd H9 d (.dK (putK kvs (Sum.inl ((x.2.1 : Nat) : Int)) (.ref t9)))) := same_mut sm9 hd
            have eL10 : (upd H9 d (.dK (putK kvs (Sum.inl ((x.2.1 : Nat) : Int)) (.ref t9)))) lL = some (.lst (La.map lasV)) := (upd_ne nLd).trans eL9
            generalize upd H9 d (.dK (putK kvs (Sum.inl ((x.2.1 : Nat) : Int)) (.ref t9))) = H10 at kn10 sm10 eL10
            have heL : x.2.1 < La.length := by rw [la7.len]; exact WX.e
            refine ⟨_, rfl, _, rfl, _, rfl, lL, _, _, x.2.1, rfl, rfl, eL10, Evl.ixN_nat (by rw [List.length_map]; exact heL), ?_⟩
            have er : Lag.rel gs Dj x = setD Dj x.2.1 (addC gs c x) := rel_bet hc hbet
            rw [er] at hfs
            have nfx : ¬ Fix gs ws (rnds gs ws s0 k) := fun F => by
              cases b with
              | true => exact hbt rfl F
              | false =>
                rw [(hbf rfl).1] at hc hbet
                exact F x (List.mem_of_getElem? hx) ⟨c, hc, hbet⟩
            refine ⟨true, _, _, _, _, _, putK kvs (Sum.inl ((x.2.1 : Nat) : Int)) (.ref t9), ks', La.set x.2.1 (some j), rfl, (fun z => nomatch z), fun _ => nfx, same_mut sm10 hlL0, ?_, ?_, ?_⟩
            · rw [hfs]
              exact kn10.mut eL10
            · rw [upd_same, List.map_set]
              rfl
            · rw [hfs]
              exact la7.set N hx hc hbet hDs S0
          | some o =>
            obtain ⟨to, hgo, hso⟩ := kn9.get ho
            refine ⟨_, rfl, _, rfl, d, _, rfl, hgo, _, rfl, iteF ?_⟩
            refine ⟨_, rfl, _, rfl, _, rfl, d, _, rfl, hgo, t9, to, [(addC gs c x).1, (addC gs c x).2], [o.1, o.2], rfl, rfl, .inl (.inl et9), hso, _, rfl, ?_⟩
            rw [lex_ltC]
            refine ite2 (fun e => ?_) (fun e => ?_)
            · have hlt : ltC (addC gs c x) o := of_decide_eq_true e
              have hbet : ∀ o', Dj x.2.1 = some o' → ltC (addC gs c x) o' := fun o' h => by rw [ho] at h; cases h; exact hlt
              have hsz : kvs.length < sizeLine := by
                have := kn9.len
                have := svNodup_le kn9.nd fun v hv => by
                  obtain ⟨c', hc'⟩ := (kn9.mem v).mp hv
                  obtain ⟨vs, hvs⟩ := S0 v c' hc'
                  obtain ⟨ps, hps, _⟩ := hvs.pw
                  exact hps.lt N hs0
                exact small1000 (by omega)
              refine ⟨_, rfl, _, rfl, _, rfl, d, _, rfl, DPut.k (k := Sum.inl ((x.2.1 : Nat) : Int)) kn9.at_ hsz, ?_⟩
              obtain ⟨ks', kn10⟩ := kn9.put (e := x.2.1) (c := addC gs c x) et9
              have sm10 : Same H (upd H9 d (.dK (putK kvs (Sum.inl ((x.2.1 : Nat) : Int)) (.ref t9)))) := same_mut sm9 hd
              have eL10 : (upd H9 d (.dK (putK kvs (Sum.inl ((x.2.1 : Nat) : Int)) (.ref t9)))) lL = some (.lst (La.map lasV)) := (upd_ne nLd).trans eL9
              generalize upd H9 d (.dK (putK kvs (Sum.inl ((x.2.1 : Nat) : Int)) (.ref t9))) = H10 at kn10 sm10 eL10
              have heL : x.2.1 < La.length := by rw [la7.len]; exact WX.e
              refine ⟨_, rfl, _, rfl, _, rfl, lL, _, _, x.2.1, rfl, rfl, eL10, Evl.ixN_nat (by rw [List.length_map]; exact heL), ?_⟩
              have er : Lag.rel gs Dj x = setD Dj x.2.1 (addC gs c x) := rel_bet hc hbet
              rw [er] at hfs
              have nfx : ¬ Fix gs ws (rnds gs ws s0 k) := fun F => by
                cases b with
                | true => exact hbt rfl F
                | false =>
                  rw [(hbf rfl).1] at hc hbet
                  exact F x (List.mem_of_getElem? hx) ⟨c, hc, hbet⟩
              refine ⟨true, _, _, _, _, _, putK kvs (Sum.inl ((x.2.1 : Nat) : Int)) (.ref t9), ks', La.set x.2.1 (some j), rfl, (fun z => nomatch z), fun _ => nfx, same_mut sm10 hlL0, ?_, ?_, ?_⟩
              · rw [hfs]
                exact kn10.mut eL10
              · rw [upd_same, List.map_set]
                rfl
              · rw [hfs]
                exact la7.set N hx hc hbet hDs S0
            · have hlt : ¬ ltC (addC gs c x) o := fun z => e (decide_eq_true z)
              obtain ⟨er, nb⟩ := notb o ho hlt
              rw [er] at hfs
              refine ⟨b, _, _, _, _, _, kvs, ks, La, rfl, fun hb => ⟨?_, fun i y hi hy => ?_⟩, hbt, sm9, ?_, eL9, ?_⟩
              · rw [hfs]
                exact (hbf hb).1
              · by_cases ei : i = j
                · subst ei
                  rw [hx] at hy
                  cases hy
                  rw [← (hbf hb).1]
                  exact nb
                · exact (hbf hb).2 i y (by omega) hy
              · rw [hfs]
                exact kn9
              · rw [hfs]
                exact la7
      · rintro σ H7 ⟨b, u5, u6, u7, u8, u9, kvs, ks, La, rfl, hbf, hbt, sm, kn7, eL7, la7⟩
        rw [hlw, List.take_length] at hbf kn7 la7
        refine ⟨b, _, _, _, _, _, kvs, ks, La, rfl, fun hb => ?_, fun hb => ?_, sm, kn7, eL7, la7⟩
        · rcases Nat.lt_or_ge (k + 1) gs.length with h | h
          · exact h
          · exact absurd (rnds_fix N hs0 h) (hbt hb)
        · have hfx : Fix gs ws (rnds gs ws s0 k) := fun y hy => by
            obtain ⟨i, hi⟩ := List.getElem?_of_mem hy
            exact (hbf hb).2 i y (List.getElem?_eq_some_iff.mp hi).1 hi
          have : rnds gs ws s0 (k + 1) = rnds gs ws s0 k := fold_fix hfx
          rw [this]
          exact hfx
end
end Lag

set_option maxRecDepth 100000
set_option maxHeartbeats 8000000
namespace Lag
open PySem PySem.Spec PyProof.Rows L2
/-! ### xs[::-1] of a list -/
theorem rev_range : ∀ (xs : List Value), (List.range xs.length).filterMap (fun k => xs[xs.length - 1 - k]?) = xs.reverse := fun xs => by
  refine List.ext_getElem? fun i => ?_
  have h0 : ((List.range xs.length).filterMap fun k => xs[xs.length - 1 - k]?) = (List.range xs.length).map fun k => xs.getD (xs.length - 1 - k) .none := by
    have : ∀ l : List Nat, (∀ k ∈ l, k < xs.length) → (l.filterMap fun k => xs[xs.length - 1 - k]?) = l.map fun k => xs.getD (xs.length - 1 - k) .none := fun l hl => by
      induction l with
      | nil => rfl
      | cons k l ih =>
        have hk := hl k (by simp)
        rw [List.filterMap_cons, List.map_cons, ih fun j hj => hl j (List.mem_cons_of_mem _ hj), List.getElem?_eq_getElem (by omega), List.getD_eq_getElem?_getD, List.getElem?_eq_getElem (by omega)]
        rfl
    exact this _ fun k hk => List.mem_range.mp hk
  rw [h0, List.getElem?_map]
  by_cases hi : i < xs.length
  · rw [List.getElem?_eq_getElem (by simpa using hi), List.getElem_range, List.getElem?_reverse hi, List.getElem?_eq_getElem (by omega)]
    show some (xs.getD _ _) = _
    rw [List.getD_eq_getElem?_getD, List.getElem?_eq_getElem (by omega)]
    rfl
  · rw [List.getElem?_eq_none (by simpa using hi), List.getElem?_eq_none (by simpa using hi)]
    rfl
theorem slicePick_rev (its : List Value) : slicePick its.toArray none none (some (-1)) = its.reverse.toArray := by
  have hb : sliceBounds none none (some (-1)) its.toArray.size = ((its.length : Int) - 1, -1, -1) := by
    rw [List.size_toArray]
    rfl
  unfold slicePick
  rw [hb]
  have hr : PySem.sliceRange ((its.length : Int) - 1) (-1) (-1) = (List.range its.length).map fun k => its.length - 1 - k := by
    unfold PySem.sliceRange
    have hc : (if (-1 : Int) > 0 then (if (its.length : Int) - 1 < -1 then (-1 - ((its.length : Int) - 1) + -1 - 1) / -1 else 0) else (if (its.length : Int) - 1 > -1 then ((its.length : Int) - 1 - -1 - -1 - 1) / -(-1) else 0)).toNat = its.length := by
      rw [if_neg (by decide)]
      split
      · have : ((its.length : Int) - 1 - -1 - -1 - 1) / -(-1) = its.length := by
          rw [show (-(-1) : Int) = 1 from rfl, Int.ediv_one]
          omega
        rw [this, Int.toNat_natCast]
      · omega
    show (List.range (if (-1 : Int) > 0 then (if (its.length : Int) - 1 < -1 then (-1 - ((its.length : Int) - 1) + -1 - 1) / -1 else 0) else (if (its.length : Int) - 1 > -1 then ((its.length : Int) - 1 - -1 - -1 - 1) / -(-1) else 0)).toNat).map _ = _
    rw [hc]
    refine List.map_congr_left fun k hk => ?_
    have := List.mem_range.mp hk
    omega
  show ((PySem.sliceRange ((its.length : Int) - 1) (-1) (-1)).filterMap (its.toArray[·]?)).toArray = _
  rw [hr, List.filterMap_map]
  congr 1
  refine Eq.trans ?_ (rev_range its)
  congr 1
  funext k
  show its.toArray[its.length - 1 - k]? = its[its.length - 1 - k]?
  simp
section
variable {X : Cx} {e : Expr} {te ts : TE} {p1 p2 p3 pos : Pos}
/-- xs[::-1] -/
def tRevL (K : PySem.W.Frag) (te ts : TE) : TE := fun σ H Q => te σ H fun x H1 => ts σ H1 fun y H2 => ∃ (a : Addr) (xs : List V), x = .ref a ∧ y = .int (-1) ∧ SqL K H2 a xs ∧ ∀ b, H2 b = none → Q (.ref b) (upd H2 b (.lst xs.reverse))
theorem pe_revL {st : Expr} (he : PE X e te) (hs : PE X st ts) : PE X (.Subscript e (.Slice none none (some st) p2) pos) (tRevL X.K te ts) := by
  refine ⟨fun pins s σ H Q I h => ?_⟩
  refine Subscript_ (thn (he.run pins s σ H _ I h) fun v s1 ⟨x, H1, I1, r1, q1⟩ => ?_)
  refine wpAny_Slice (thn (po_none.run pins s1 σ H1 (fun o H3 => o = none ∧ H3 = H1) I1 ⟨rfl, rfl⟩) fun vl s2 ⟨u, H2, I2, pl, eu, e2⟩ => ?_)
  subst eu e2
  refine thn (po_none.run pins s2 σ H2 (fun o H3 => o = none ∧ H3 = H2) I2 ⟨rfl, rfl⟩) fun vu s3 ⟨u, H3, I3, pu, eu, e3⟩ => ?_
  subst eu e3
  refine thn (hs.run pins s3 σ H3 _ I3 q1) fun vs s4 ⟨z, H4, I4, r4, q4⟩ => ?_
  obtain ⟨a, xs, rfl, rfl, hx, q⟩ := q4
  have e1 : v = Value.ref a := r1
  obtain ⟨t4, e4⟩ : ∃ t, vs = Value.int (-1) t := r4
  subst e1 e4
  cases pl
  cases pu
  have I5 : Inv X pins σ H4 { s4 with heap := s4.heap.push { cls := .type "slice", data := .fields #[.none, .none, .int (-1) t4] } } := I4.kept (t' := s4.toks) fun b ob q => Heap.get?_push_of_some _ q
  obtain ⟨its, r, ht, hz⟩ := I5.list hx
  have hlen := r.length
  show wpAny (model X.prog X.w) X.A (subscriptTail e (.Slice none none (some st) p2) (.ref a) (.ref s4.heap.objs.size)) (EP X pins σ Q) X.xe { s4 with heap := s4.heap.push { cls := .type "slice", data := .fields #[.none, .none, .int (-1) t4] } }
  refine tail_any (ops := [.ref a, .ref s4.heap.objs.size]) ht.isList.typeIs slot_list_getitem.lookup ?_ (by with_unfolding_all rfl)
  refine wpAny_getItem_list_slice ht.isList (Heap.IsSliceOf.new ..) .none .none (.int _ _) (by decide) ?_ (by rw [List.size_toArray]; omega)
  rw [slicePick_rev]
  have rr : Vals xs.reverse its.reverse := r.reverse
  refine ⟨.ref _, _, I5.laid (t' := s4.toks) (o := .lst xs.reverse) (fun b ob q => Heap.get?_push_of_some _ q) (Nat.le_refl _) ?_, rfl, q _ (I5.hok.fresh (Nat.le_refl _))⟩
  exact ⟨by rw [List.length_reverse]; omega, _, 0, rr, Heap.get?_push_size _ rfl⟩
end
section
variable {P : Program} {w : World} {K : PySem.W.Frag} {mg : Str → Option Value} {base : Heap}
abbrev nWayTo : List Str := ["net", "gate", "last", "wires"]
theorem scWayTo : FnScope nWayTo ["net", "gate", "last"] (defScope sWayTo) := ⟨rfl, rfl, rfl, by decide +kernel, rfl, by decide +kernel, by decide +kernel⟩
abbrev DWayTo (P : Program) (w : World) (K : PySem.W.Frag) (mg : Str → Option Value) (base : Heap) (C : Addr) := Df P w K mg base 1 "way_to" ["net", "gate", "last"] (spWayTo K C)
theorem ok_wayTo {f C : Addr} {fd : FuncData} (F : Fun K "way_to" "way_to" sWayTo f fd) (hm : mg "way_to" = some (.ref f)) (B : Bt mg) (T : NT K mg C) : DWayTo P w K mg base C f fd := by
  refine ⟨?_, hm, F.kp, F.binds fun _ _ _ _ _ _ us hl => match us, hl with | [_, _, _], _ => rfl⟩
  refine F.ok scWayTo (fun vs H Q E h => ?_) (fun cdv A outer s H vs Q E hr h => ?_)
  · obtain ⟨p, ng, nw, lL, gs, ws, La, g, s, ps, rfl, _⟩ := h
    rfl
  · obtain ⟨p, ng, nw, lL, gs, ws, La, g0, s0, ps, rfl, NA, N, hL, hll, hg0, bk0, hpl, q⟩ := h
    have nd := scWayTo.nd
    refine ⟨_, pss_cons (ps_set (i := 3) nd rfl (.inl rfl) (pe_lst pa_nil)) <|
        pss_cons (ps_while PassesOwn.never (pt_cmpR op_notN (pe_ix ix_list (pv 2) (pv 1) (fun _ _ => rfl)) pe_non (nomark _)) (pss_cons (ps_expr (pe_bm PySem.F.plainAttrs_list PySem.F.slot_list_append PySem.F.type_list_append mt_append (pv 3) (pa_cons (pe_ix ix_list (pv 2) (pv 1) (fun _ _ => rfl)) pa_nil))) <|
        pss_one (ps_set (i := 1) nd rfl (.inl rfl) (pe_ix ix_tup (pe_ix ix_list (pe_fld (pv 0) rfl) (pe_ix ix_list (pv 2) (pv 1) (fun _ _ => rfl)) (fun _ _ => rfl)) pe_int (fun _ _ => rfl))))) <|
        pss_one (ps_ret (pe_tup (pa_cons (pv 1) (pa_cons (pe_revL (pv 3) (pe_un un_neg pe_int)) pa_nil)))), ?_⟩
    obtain ⟨dx, ob⟩ := id NA.ob
    obtain ⟨wv, hwv, wa⟩ := id NA.w
    refine ⟨(by show 0 ≤ sizeLine; decide), fun lx hlx => ?_⟩
    have s1 := same_new (o := .lst []) hlx
    have e1 : (upd H lx (.lst [])) lx = some (.lst []) := upd_same
    generalize upd H lx (.lst []) = H1 at s1 e1
    refine gn_norm (σ' := [some (.ref p), some (.int (g0 : Nat)), some (.ref lL), some (.ref lx)]) rfl ?_
    refine ⟨fun m σ H' => ∃ (c : Nat) (acc rest : List Nat), σ = [some (.ref p), some (.int (c : Nat)), some (.ref lL), some (.ref lx)] ∧ m = rest.length ∧ c < gs.length ∧ Same H H' ∧ H' lx = some (.lst (nvs acc)) ∧ Bk ws La c rest s0 ∧ ps = acc ++ rest, ⟨_, g0, [], ps, rfl, rfl, hg0, s1, e1, bk0, rfl⟩, ?_⟩
    rintro m σ H2 ⟨c, acc, rest, rfl, rfl, hc, s2, ex, bk, rfl⟩
    have hcL : c < La.length := by rw [hll]; exact hc
    have eL := s2 _ _ hL
    refine ⟨_, rfl, _, rfl, lL, _, c, _, rfl, rfl, SqL.of eL, atI_nat (las_at hcL), rfl, _, rfl, ?_⟩
    rw [List.length_append] at hpl
    cases bk with
    | nil ela =>
      rw [ela]
      refine iteF ?_
      refine ⟨_, rfl, ?_⟩
      refine ⟨_, rfl, _, rfl, lx, _, rfl, rfl, SqL.of ex, fun lr hlr => ?_⟩
      have s3 := same_new (o := .lst (nvs acc).reverse) hlr
      have e3 : (upd H2 lr (.lst (nvs acc).reverse)) lr = some (.lst (nvs acc).reverse) := upd_same
      generalize upd H2 lr (.lst (nvs acc).reverse) = H3 at s3 e3
      refine ⟨(by show 2 ≤ sizeLine; decide), fun t ht => ?_⟩
      have s4 := same_new (o := .tup [.int (s0 : Nat), .ref lr]) ht
      refine q t lr _ ((s2.trans s3).trans s4) ((s2.trans s3).free ht) (s2.free hlr) upd_same ?_
      rw [s4 _ _ e3, List.append_nil]
      unfold nvs
      rw [List.map_reverse]
    | @cons _ k _ x rest ela hx hxe bk =>
      rw [ela]
      refine iteT ?_
      have WX := N.wok x (List.mem_of_getElem? hx)
      refine ⟨fun σ H' => ∃ (c' : Nat) (acc' rest' : List Nat), σ = [some (.ref p), some (.int (c' : Nat)), some (.ref lL), some (.ref lx)] ∧ rest'.length < rest.length + 1 ∧ c' < gs.length ∧ Same H H' ∧ H' lx = some (.lst (nvs acc')) ∧ Bk ws La c' rest' s0 ∧ acc ++ k :: rest = acc' ++ rest', fun σ' H' ⟨c', acc', rest', e, hlt, r2⟩ => ⟨rest'.length, hlt, c', acc', rest', e, rfl, r2⟩, ?_⟩
      have hla : (La.map lasV)[c]? = some (.int (k : Nat)) := by rw [las_at hcL, ela]; rfl
      rw [List.length_cons] at hpl
      refine ⟨_, rfl, .inl ⟨rfl, _, SqL.of ex⟩, _, rfl, _, rfl, lL, _, c, _, rfl, rfl, SqL.of eL, atI_nat hla, lx, _, _, rfl, rfl, ex, by rw [nvs_len]; exact small1000 (by omega), ?_⟩
      have s5 : Same H (upd H2 lx (.lst (nvs acc ++ [.int (k : Nat)]))) := same_mut s2 hlx
      obtain ⟨_, hv, a, b, rfl, sq1, sq2⟩ := wa.getR hx
      refine ⟨_, rfl, p, C, dx, _, _, rfl, s5 _ _ ob, T.cl, T.nW, nf_wires _ _, _, rfl, _, rfl, lL, _, c, _, rfl, rfl, SqL.of (s5 _ _ hL), atI_nat hla, nw, _, k, _, rfl, rfl, SqL.of (s5 _ _ hwv), atI_nat hv, a, _, 0, _, rfl, rfl, (TK.same s5).seq sq1, atI_nat (j := 0) rfl, ?_⟩
      refine ⟨x.1, acc ++ [k], rest, rfl, Nat.lt_succ_self _, WX.s, s5, ?_, bk, by rw [List.append_assoc]; rfl⟩
      rw [upd_same]
      unfold nvs
      rw [List.map_append]
      rfl
end
end Lag

set_option maxRecDepth 100000
set_option maxHeartbeats 8000000
namespace Lag
open PySem PySem.Spec PyProof.Rows L2
abbrev sWaitOf : Stmt := topS 23 -- @wait_of
abbrev sRoomOf : Stmt := topS 24 -- @room_of
abbrev sSpotsIn : Stmt := topS 48 -- @spots_in
abbrev sSpotsOf : Stmt := topS 49 -- @spots_of
abbrev sLagsAt : Stmt := topS 51 -- @lags_at
/-- a piece -/
def PceV (K : PySem.W.Frag) (H : Hp) (v : V) (pc : Pce) : Prop := ∃ a l, v = .ref a ∧ SqT K H a [.int (pc.1 : Nat), .ref l] ∧ SqL K H l (nvs pc.2)
theorem PceV.same {K : PySem.W.Frag} {H H' : Hp} {v : V} {pc : Pce} (s : Same H H') (h : PceV K H v pc) : PceV K H' v pc := by
  obtain ⟨a, l, e, h1, h2⟩ := h
  exact ⟨a, l, e, (TK.same s).seq h1, s.seq h2⟩
theorem nvs_at {r : List Nat} {i k : Nat} (h : r[i]? = some k) : (nvs r)[i]? = some (.int (k : Nat)) := by
  unfold nvs
  rw [List.getElem?_map, h]
  rfl
theorem nvs_of {r : List Nat} {i : Nat} {v : V} (h : (nvs r)[i]? = some v) : ∃ k, r[i]? = some k ∧ v = .int (k : Nat) := by
  unfold nvs at h
  rw [List.getElem?_map] at h
  cases e : r[i]? with
  | none => rw [e] at h; cases h
  | some k => rw [e] at h; cases h; exact ⟨k, rfl, rfl⟩
def PceOk (gs : List Gt) (ws : List Wr) (pc : Pce) : Prop := pc.1 < gs.length ∧ ∃ e, Pw ws pc.1 pc.2 e
def spWaitOf (K : PySem.W.Frag) (C : Addr) : Sp := fun vs H Q _ => ∃ (p ng nw : Addr) (gs : List Gt) (ws : List Wr) (v : V) (pc : Pce), vs = [.ref p, v] ∧ NetAt K C H p ng nw gs ws ∧ NetOk gs ws ∧ PceV K H v pc ∧ PceOk gs ws pc ∧ pc.2.length ≤ 1000 ∧ ∀ H', Same H H' → Q (.int (pwt gs ws pc.1 pc.2)) H'
def spRoomOf (K : PySem.W.Frag) (C : Addr) : Sp := fun vs H Q _ => ∃ (p ng nw : Addr) (gs : List Gt) (ws : List Wr) (b : Int) (v : V) (pc : Pce), vs = [.ref p, .int b, v] ∧ NetAt K C H p ng nw gs ws ∧ NetOk gs ws ∧ PceV K H v pc ∧ PceOk gs ws pc ∧ pc.2.length ≤ 1000 ∧ ∀ H', Same H H' → Q (.int (roomF gs ws b pc)) H'
def spSpotsIn (K : PySem.W.Frag) (C : Addr) : Sp := fun vs H Q _ => ∃ (p ng nw : Addr) (gs : List Gt) (ws : List Wr), vs = [.ref p] ∧ NetAt K C H p ng nw gs ws ∧ Q (.int ((gs.length + 1 : Nat) : Int)) H
def spotsL (gs : List Gt) : List Nat := (List.range gs.length).map (spotF gs)
def spSpotsOf (K : PySem.W.Frag) (C : Addr) : Sp := fun vs H Q _ => ∃ (p ng nw : Addr) (gs : List Gt) (ws : List Wr), vs = [.ref p] ∧ NetAt K C H p ng nw gs ws ∧ NetOk gs ws ∧ ∀ l H', Same H H' → H l = none → H' l = some (.lst (nvs (spotsL gs))) → Q (.ref l) H'
def spLagsAt (K : PySem.W.Frag) (C : Addr) : Sp := fun vs H Q _ => ∃ (p ng nw lf : Addr) (gs : List Gt) (ws : List Wr) (F : List Int), vs = [.ref p, .ref lf] ∧ NetAt K C H p ng nw gs ws ∧ NetOk gs ws ∧ SqL K H lf (F.map V.int) ∧ gs.length < F.length ∧
  ∀ l H', Same H H' → H l = none → H' l = some (.lst (((List.range gs.length).map (lagsAt gs fun v => F.getD v 0)).map V.int)) → Q (.ref l) H'
theorem spots_at {gs : List Gt} {g : Nat} (h : g < gs.length) : (nvs (spotsL gs))[g]? = some (.int ((spotF gs g : Nat) : Int)) := by
  refine nvs_at ?_
  unfold spotsL
  rw [List.getElem?_map, List.getElem?_range h]
  rfl
theorem sgetD_at {ts : List Int} {g : Nat} (h : g < ts.length) : (ts.map V.int)[g]? = some (.int (ts.getD g 0)) := by
  rw [List.getElem?_map, List.getElem?_eq_getElem h, List.getD_eq_getElem?_getD, List.getElem?_eq_getElem h]
  rfl
theorem skind_get {gs : List Gt} {i : Nat} {g : Gt} (h : gs[i]? = some g) : kindAt gs i = g.1 := by
  unfold kindAt
  rw [List.getD_eq_getElem?_getD, h]
  rfl
section
variable {P : Program} {w : World} {K : PySem.W.Frag} {mg : Str → Option Value} {base : Heap}
abbrev nWaitOf : List Str := ["net", "piece", "gate", "wires", "place"]
theorem scWaitOf : FnScope nWaitOf ["net", "piece"] (defScope sWaitOf) := ⟨rfl, rfl, rfl, by decide +kernel, rfl, by decide +kernel, by decide +kernel⟩
abbrev DWaitOf (P : Program) (w : World) (K : PySem.W.Frag) (mg : Str → Option Value) (base : Heap) (C : Addr) := Df P w K mg base 1 "wait_of" ["net", "piece"] (spWaitOf K C)
theorem ok_waitOf {f C : Addr} {fd : FuncData} (F : Fun K "wait_of" "wait_of" sWaitOf f fd) (hm : mg "wait_of" = some (.ref f)) (B : Bt mg) (ms : mg "sum" = none) (T : NT K mg C) : DWaitOf P w K mg base C f fd := by
  refine ⟨?_, hm, F.kp, F.binds fun _ _ _ _ _ _ us hl => match us, hl with | [_, _], _ => rfl⟩
  refine F.ok scWaitOf (fun vs H Q E h => ?_) (fun cdv A outer s H vs Q E hr h => ?_)
  · obtain ⟨p, ng, nw, gs, ws, v, pc, rfl, _⟩ := h
    rfl
  · obtain ⟨p, ng, nw, gs, ws, _, pc, rfl, NA, N, ⟨a, l, rfl, sa, sl⟩, ⟨hg, e0, hp⟩, hpl, q⟩ := h
    have nd := scWaitOf.nd
    refine ⟨_, pss_cons (ps_asg (pv 1) (pg_tup rfl (pgs_cons (pg_name (i := 2) nd rfl (.inl rfl)) (pgs_cons (pg_name (i := 3) nd rfl (.inl rfl)) pgs_nil)))) <|
        pss_one (ps_ret (pe_op op_add (pe_ix ix_tup (pe_ix ix_list (pe_fld (pv 0) rfl) (pv 2) (fun _ _ => rfl)) pe_int (fun _ _ => rfl)) (pe_callB (cr_sum rfl) (by rfl) ms (by decide +kernel) (pa_cons (pe_lc (own := [("place", 4)]) (g := (gName 4)) (tt := tYes) (te := (tOp (rIxT K) (tOp (rIxL K) (tFld K (tVar 0) "gates") (tOp (rIxT K) (tOp (rIxL K) (tFld K (tVar 0) "wires") (tVar 4)) (tC (.int 1)))) (tC (.int 1)))) rfl nd (pi_list (pv 3)) (blkOk_by (N := nWaitOf) (sc := defScope sWaitOf) (own := [("place", 4)]) (by decide +kernel)) (fun _ _ _ _ _ => (pg_name (i := 4) nd rfl (.inl rfl))) (fun _ _ _ _ _ => pts_nil) (fun _ _ _ _ _ => (pe_ix ix_tup (pe_ix ix_list (pe_fld (pv 0) rfl) (pe_ix ix_tup (pe_ix ix_list (pe_fld (pv 0) rfl) (pv 4) (fun _ _ => rfl)) pe_int (fun _ _ => rfl)) (fun _ _ => rfl)) pe_int (fun _ _ => rfl)))) pa_nil)))), ?_⟩
    obtain ⟨dx, ob⟩ := id NA.ob
    obtain ⟨gv, hgv, ga⟩ := id NA.g
    obtain ⟨wv, hwv, wa⟩ := id NA.w
    have gat : ∀ g, g < gs.length → ∀ H', Same H H' → ∃ b, gv[g]? = some (.ref b) ∧ ∃ k, SqT K H' b [.str k, .int (gw gs g)] := fun g hg H' s => by
      obtain ⟨_, hv, b, rfl, sq⟩ := ga.getR (List.getElem?_eq_getElem hg)
      refine ⟨b, hv, (gs[g]).1, ?_⟩
      rw [gw_get (List.getElem?_eq_getElem hg)]
      exact (TK.same s).seq sq
    refine ⟨_, rfl, a, _, rfl, sa, rfl, _, _, rfl, _, _, rfl, rfl, ?_⟩
    obtain ⟨b0, hb0, k0, sb0⟩ := gat pc.1 hg H (Same.refl _)
    refine ⟨_, rfl, p, C, dx, _, _, rfl, ob, T.cl, T.nG, nf_gates _ _, _, rfl, ng, _, pc.1, _, rfl, rfl, SqL.of hgv, atI_nat hb0, b0, _, 1, _, rfl, rfl, sb0, atI_nat (j := 1) rfl, ?_⟩
    refine ⟨_, rfl, l, rfl, ⟨_, sl⟩, fun D hD => ?_⟩
    refine lc_list (K := K) (a := l) (xs := nvs pc.2) (fun i Hc => Hc D = some (.lst ((((pc.2.take i).map fun p => gw gs (svW ws p).2.1)).map V.int)) ∧ Same H Hc) ⟨by rw [upd_same]; rfl, same_new hD⟩ (fun i Hc _ ⟨_, sm⟩ => sm.seq sl) ?_ ?_
    · rintro i v Hc hv ⟨hc, sm⟩
      obtain ⟨k, hk, rfl⟩ := nvs_of hv
      have hkw := hp.places k (List.mem_of_getElem? hk)
      have hx := List.getElem?_eq_getElem hkw
      obtain ⟨_, hv', b, b2, rfl, s1, s2⟩ := wa.getR hx
      have WX := N.wok _ (List.mem_of_getElem? hx)
      obtain ⟨b3, hb3, k3, sb3⟩ := gat _ WX.e Hc sm
      refine ⟨rfl, tyes ?_⟩
      refine ⟨_, rfl, p, C, dx, _, _, rfl, sm _ _ ob, T.cl, T.nG, nf_gates _ _, _, rfl, p, C, dx, _, _, rfl, sm _ _ ob, T.cl, T.nW, nf_wires _ _, _, rfl, nw, _, k, _, rfl, rfl, SqL.of (sm _ _ hwv), atI_nat hv', b, _, 1, _, rfl, rfl, (TK.same sm).seq s1, atI_nat (j := 1) rfl, ng, _, _, _, rfl, rfl, SqL.of (sm _ _ hgv), atI_nat hb3, b3, _, 1, _, rfl, rfl, sb3, atI_nat (j := 1) rfl, _, hc, ?_, ?_, same_mut sm hD⟩
      · rw [List.length_map, List.length_map, List.length_take]
        exact small1000 (by omega)
      · rw [upd_same, List.take_add_one, hk, List.map_append, List.map_append]
        show _ = some (HO.lst (_ ++ [V.int (gw gs (svW ws k).2.1)]))
        rw [svW_get hx]
    · rintro H2 ⟨hc, sm⟩
      rw [nvs_len, List.take_length] at hc
      exact ⟨D, _, rfl, SqL.of hc, _, _, rfl, rfl, q H2 sm⟩
abbrev nRoomOf : List Str := ["net", "beat", "piece", "gate", "wires", "place", "many"]
theorem scRoomOf : FnScope nRoomOf ["net", "beat", "piece"] (defScope sRoomOf) := ⟨rfl, rfl, rfl, by decide +kernel, rfl, by decide +kernel, by decide +kernel⟩
abbrev DRoomOf (P : Program) (w : World) (K : PySem.W.Frag) (mg : Str → Option Value) (base : Heap) (C : Addr) := Df P w K mg base 2 "room_of" ["net", "beat", "piece"] (spRoomOf K C)
theorem ok_roomOf {f fW C : Addr} {fd fdW : FuncData} (F : Fun K "room_of" "room_of" sRoomOf f fd) (hm : mg "room_of" = some (.ref f)) (B : Bt mg) (ms : mg "sum" = none) (T : NT K mg C) (DWt : DWaitOf P w K mg base C fW fdW) : DRoomOf P w K mg base C f fd := by
  refine ⟨?_, hm, F.kp, F.binds fun _ _ _ _ _ _ us hl => match us, hl with | [_, _, _], _ => rfl⟩
  refine F.ok scRoomOf (fun vs H Q E h => ?_) (fun cdv A outer s H vs Q E hr h => ?_)
  · obtain ⟨p, ng, nw, gs, ws, b, v, pc, rfl, _⟩ := h
    rfl
  · obtain ⟨p, ng, nw, gs, ws, bt, _, pc, rfl, NA, N, ⟨a, l, rfl, sa, sl⟩, ⟨hg, e0, hp⟩, hpl, q⟩ := h
    have nd := scRoomOf.nd
    refine ⟨_, pss_cons (ps_asg (pv 2) (pg_tup rfl (pgs_cons (pg_name (i := 3) nd rfl (.inl rfl)) (pgs_cons (pg_name (i := 4) nd rfl (.inl rfl)) pgs_nil)))) <|
        pss_cons (ps_set (i := 6) nd rfl (.inl rfl) (pe_callB (cr_sum rfl) (by rfl) ms (by decide +kernel) (pa_cons (pe_lc (own := [("place", 5)]) (g := (gName 5)) (tt := tYes) (te := (tCB (Evl.rLenS K) (tCons (tOp (rIxT K) (tOp (rIxL K) (tFld K (tVar 0) "wires") (tVar 5)) (tC (.int 2))) tNil))) rfl nd (pi_list (pv 4)) (blkOk_by (N := nRoomOf) (sc := defScope sRoomOf) (own := [("place", 5)]) (by decide +kernel)) (fun _ _ _ _ _ => (pg_name (i := 5) nd rfl (.inl rfl))) (fun _ _ _ _ _ => pts_nil) (fun _ _ _ _ _ => (pe_callB call_len_seq (by rfl) B.len PySem.boot_len (pa_cons (pe_ix ix_tup (pe_ix ix_list (pe_fld (pv 0) rfl) (pv 5) (fun _ _ => rfl)) pe_int (fun _ _ => rfl)) pa_nil)))) pa_nil))) <|
        pss_one (ps_ret (pe_ifExp (pt_cmpR op_gt (pe_call DWt.ok (hr.mono (by decide)) (by rfl) DWt.mg DWt.kp DWt.bd .nil pass0 (pa_cons (pv 0) (pa_cons (pv 2) pa_nil))) (pv 1) (nomark _)) (pe_op op_sub (pv 6) pe_int) (pv 6))), ?_⟩
    obtain ⟨dx, ob⟩ := id NA.ob
    obtain ⟨wv, hwv, wa⟩ := id NA.w
    refine ⟨_, rfl, a, _, rfl, sa, rfl, _, _, rfl, _, _, rfl, rfl, ?_⟩
    refine ⟨_, rfl, l, rfl, ⟨_, sl⟩, fun D hD => ?_⟩
    refine lc_list (K := K) (a := l) (xs := nvs pc.2) (fun i Hc => Hc D = some (.lst ((((pc.2.take i).map fun p => (((svW ws p).2.2.length : Nat) : Int))).map V.int)) ∧ Same H Hc) ⟨by rw [upd_same]; rfl, same_new hD⟩ (fun i Hc _ ⟨_, sm⟩ => sm.seq sl) ?_ ?_
    · rintro i v Hc hv ⟨hc, sm⟩
      obtain ⟨k, hk, rfl⟩ := nvs_of hv
      have hkw := hp.places k (List.mem_of_getElem? hk)
      have hx := List.getElem?_eq_getElem hkw
      obtain ⟨_, hv', b, b2, rfl, s1, s2⟩ := wa.getR hx
      refine ⟨rfl, tyes ?_⟩
      refine ⟨_, rfl, p, C, dx, _, _, rfl, sm _ _ ob, T.cl, T.nW, nf_wires _ _, _, rfl, nw, _, k, _, rfl, rfl, SqL.of (sm _ _ hwv), atI_nat hv', b, _, 2, _, rfl, rfl, (TK.same sm).seq s1, atI_nat (j := 2) rfl, b2, _, rfl, .inr ((TK.same sm).seq s2), _, hc, ?_, ?_, same_mut sm hD⟩
      · rw [List.length_map, List.length_map, List.length_take]
        exact small1000 (by omega)
      · rw [upd_same, List.take_add_one, hk, List.map_append, List.map_append]
        show _ = some (HO.lst (_ ++ [V.int (((svW ws k).2.2.length : Nat) : Int)]))
        rw [svW_get hx, List.length_map]
    · rintro H2 ⟨hc, sm⟩
      rw [nvs_len, List.take_length] at hc
      refine ⟨D, _, rfl, SqL.of hc, ?_⟩
      refine gn_norm (σ' := [some (.ref p), some (.int bt), some (.ref a), some (.int (pc.1 : Nat)), some (.ref l), none, some (.int (prg ws pc.2))]) rfl ?_
      refine ⟨_, rfl, _, rfl, p, ng, nw, gs, ws, _, pc, rfl, NA.same sm, N, PceV.same sm ⟨a, l, rfl, sa, sl⟩, ⟨hg, e0, hp⟩, hpl, fun H3 s3 => ?_⟩
      have qq := q H3 (sm.trans s3)
      unfold roomF at qq
      refine ⟨_, rfl, _, _, rfl, rfl, _, rfl, ?_⟩
      by_cases hb : bt < pwt gs ws pc.1 pc.2
      · rw [if_pos hb] at qq
        rw [decide_eq_true hb]
        exact iteT ⟨_, rfl, _, _, rfl, rfl, qq⟩
      · rw [if_neg hb] at qq
        rw [decide_eq_false hb]
        exact iteF ⟨_, rfl, qq⟩
abbrev DSpotsIn (P : Program) (w : World) (K : PySem.W.Frag) (mg : Str → Option Value) (base : Heap) (C : Addr) := Df P w K mg base 1 "spots_in" ["net"] (spSpotsIn K C)
abbrev nSpotsIn : List Str := ["net"]
theorem scSpotsIn : FnScope nSpotsIn ["net"] (defScope sSpotsIn) := ⟨rfl, rfl, rfl, by decide +kernel, rfl, by decide +kernel, by decide +kernel⟩
theorem ok_spotsIn {f C : Addr} {fd : FuncData} (F : Fun K "spots_in" "spots_in" sSpotsIn f fd) (hm : mg "spots_in" = some (.ref f)) (B : Bt mg) (T : NT K mg C) : DSpotsIn P w K mg base C f fd := by
  refine ⟨?_, hm, F.kp, F.binds fun _ _ _ _ _ _ us hl => match us, hl with | [_], _ => rfl⟩
  refine F.ok scSpotsIn (fun vs H Q E h => ?_) (fun cdv A outer s H vs Q E hr h => ?_)
  · obtain ⟨p, ng, nw, gs, ws, rfl, _⟩ := h
    rfl
  · obtain ⟨p, ng, nw, gs, ws, rfl, NA, q⟩ := h
    refine ⟨_, pss_one (ps_ret (pe_op op_add (pe_callB call_len_seq (by rfl) B.len PySem.boot_len (pa_cons (pe_fld (pv 0) rfl) pa_nil)) pe_int)), ?_⟩
    obtain ⟨dx, ob⟩ := id NA.ob
    obtain ⟨gv, hgv, ga⟩ := id NA.g
    have e : (((gv.length : Nat) : Int) + 1) = ((gs.length + 1 : Nat) : Int) := by
      rw [ga.1]
      omega
    refine ⟨_, rfl, p, C, dx, _, _, rfl, ob, T.cl, T.nG, nf_gates _ _, ng, gv, rfl, .inl (SqL.of hgv), _, _, rfl, rfl, ?_⟩
    show Q (.int (((gv.length : Nat) : Int) + 1)) H
    rw [e]
    exact q
abbrev DSpotsOf (P : Program) (w : World) (K : PySem.W.Frag) (mg : Str → Option Value) (base : Heap) (C : Addr) := Df P w K mg base 2 "spots_of" ["net"] (spSpotsOf K C)
abbrev nSpotsOf : List Str := ["net", "number", "gate"]
theorem scSpotsOf : FnScope nSpotsOf ["net"] (defScope sSpotsOf) := ⟨rfl, rfl, rfl, by decide +kernel, rfl, by decide +kernel, by decide +kernel⟩
theorem ok_spotsOf {f fO C : Addr} {fd fdO : FuncData} (F : Fun K "spots_of" "spots_of" sSpotsOf f fd) (hm : mg "spots_of" = some (.ref f)) (B : Bt mg) (T : NT K mg C) (DO : DOuter P w K mg base fO fdO) : DSpotsOf P w K mg base C f fd := by
  refine ⟨?_, hm, F.kp, F.binds fun _ _ _ _ _ _ us hl => match us, hl with | [_], _ => rfl⟩
  refine F.ok scSpotsOf (fun vs H Q E h => ?_) (fun cdv A outer s H vs Q E hr h => ?_)
  · obtain ⟨p, ng, nw, gs, ws, rfl, _⟩ := h
    rfl
  · obtain ⟨p, ng, nw, gs, ws, rfl, NA, N, q⟩ := h
    have nd := scSpotsOf.nd
    refine ⟨_, pss_one (ps_ret (pe_lc (own := [("number", 1), ("gate", 2)]) (g := (gTup K 2 (gCons (gName 1) (gCons (gName 2) gNil)))) (tt := tYes) (te := (tIf (tB (tCall (spOuter K) [] E0 (tCons (tVar 2) tNil))) (tCB (Evl.rLenS K) (tCons (tFld K (tVar 0) "gates") tNil)) (tVar 1))) rfl nd (pi_enum (by rfl) B.enum (pa_cons (pe_fld (pv 0) rfl) pa_nil)) (blkOk_by (N := nSpotsOf) (sc := defScope sSpotsOf) (own := [("number", 1), ("gate", 2)]) (by decide +kernel)) (fun _ _ _ _ _ => (pg_tup rfl (pgs_cons (pg_name (i := 1) nd rfl (.inl rfl)) (pgs_cons (pg_name (i := 2) nd rfl (.inl rfl)) pgs_nil)))) (fun _ _ _ _ _ => pts_nil) (fun _ _ _ _ _ => (pe_ifExp (pt_val (pe_call DO.ok (hr.mono (by decide)) (by rfl) DO.mg DO.kp DO.bd .nil pass0 (pa_cons (pv 2) pa_nil))) (pe_callB call_len_seq (by rfl) B.len PySem.boot_len (pa_cons (pe_fld (pv 0) rfl) pa_nil)) (pv 1))))), ?_⟩
    have hgl := N.gl
    obtain ⟨dx, ob⟩ := id NA.ob
    obtain ⟨gv, hgv, ga⟩ := id NA.g
    have hlg : gv.length = gs.length := ga.1
    refine ⟨_, rfl, p, C, dx, _, _, rfl, ob, T.cl, T.nG, nf_gates _ _, ng, _, rfl, SqL.of hgv, fun D hD => ?_⟩
    refine lc_it (walk_enum (K := K) (a := ng) (xs := gv)) (fun i Hc => Hc D = some (.lst (nvs ((List.range i).map (spotF gs)))) ∧ Same H Hc) ⟨by rw [upd_same]; rfl, same_new hD⟩ (fun i Hc _ ⟨_, sm⟩ => SqL.of (sm _ _ hgv)) ?_ ?_
    · rintro i v Hc Hc' hi ⟨hc, sm⟩ ⟨T', x1, y, rfl, hT, rfl, ex, ey⟩
      cases ex
      obtain ⟨g, hg, gvv⟩ := ga.get ey
      have hi' : i < gs.length := (List.getElem?_eq_some_iff.mp hg).1
      have sT := same_new (o := .tup [.int (i : Nat), y]) hT
      have sm2 := sm.trans sT
      have hc2 := sT _ _ hc
      refine ⟨T', _, rfl, .inl (.inl upd_same), rfl, _, _, rfl, _, _, rfl, rfl, rfl, tyes ?_⟩
      generalize upd Hc T' (.tup [.int (i : Nat), y]) = H3 at sT sm2 hc2
      refine ⟨_, rfl, y, g, rfl, gvv.tk (TK.same sm2), fun b hb => ⟨b, rfl, ?_⟩⟩
      have fin : ∀ n : Nat, n = spotF gs i → ∀ z : V, z = .int (n : Nat) → (upd H3 D (.lst (nvs ((List.range i).map (spotF gs)) ++ [z]))) D = some (.lst (nvs ((List.range (i + 1)).map (spotF gs)))) := fun n hn z hz => by
        rw [upd_same, List.range_succ, List.map_append, hz, hn]
        unfold nvs
        rw [List.map_append]
        rfl
      have hll : (nvs ((List.range i).map (spotF gs))).length < sizeLine := by
        rw [nvs_len, List.length_map, List.length_range]
        exact small1000 (by omega)
      have hk := skind_get hg
      cases b with
      | true =>
        refine iteT ⟨_, rfl, p, C, dx, _, _, rfl, sm2 _ _ ob, T.cl, T.nG, nf_gates _ _, ng, gv, rfl, .inl (SqL.of (sm2 _ _ hgv)), _, hc2, hll, fin gv.length ?_ _ rfl, same_mut sm2 hD⟩
        unfold spotF
        rw [if_pos (by rw [hk]; exact hb.mp rfl), hlg]
      | false =>
        refine iteF ⟨_, rfl, _, hc2, hll, fin i ?_ _ rfl, same_mut sm2 hD⟩
        unfold spotF
        rw [if_neg (by rw [hk]; exact fun z => by have := hb.mpr z; cases this)]
    · rintro H2 ⟨hc, sm⟩
      rw [hlg] at hc
      exact q D H2 sm hD hc
abbrev DLagsAt (P : Program) (w : World) (K : PySem.W.Frag) (mg : Str → Option Value) (base : Heap) (C : Addr) := Df P w K mg base 3 "lags_at" ["net", "found"] (spLagsAt K C)
abbrev nLagsAt : List Str := ["net", "found", "spot"]
theorem scLagsAt : FnScope nLagsAt ["net", "found"] (defScope sLagsAt) := ⟨rfl, rfl, rfl, by decide +kernel, rfl, by decide +kernel, by decide +kernel⟩
theorem ok_lagsAt {f fS C : Addr} {fd fdS : FuncData} (F : Fun K "lags_at" "lags_at" sLagsAt f fd) (hm : mg "lags_at" = some (.ref f)) (B : Bt mg) (T : NT K mg C) (DSp : DSpotsOf P w K mg base C fS fdS) : DLagsAt P w K mg base C f fd := by
  refine ⟨?_, hm, F.kp, F.binds fun _ _ _ _ _ _ us hl => match us, hl with | [_, _], _ => rfl⟩
  refine F.ok scLagsAt (fun vs H Q E h => ?_) (fun cdv A outer s H vs Q E hr h => ?_)
  · obtain ⟨p, ng, nw, lf, gs, ws, F, rfl, _⟩ := h
    rfl
  · obtain ⟨p, ng, nw, lf, gs, ws, F, rfl, NA, N, sf, hfl, q⟩ := h
    have nd := scLagsAt.nd
    refine ⟨_, pss_one (ps_ret (pe_lc (own := [("spot", 2)]) (g := (gName 2)) (tt := tYes) (te := (tOp (rI0 fun i j => .int (i - j)) (tOp (rIxL K) (tVar 1) (tVar 2)) (tOp (rIxL K) (tVar 1) (tCB (Evl.rLenS K) (tCons (tFld K (tVar 0) "gates") tNil))))) rfl nd (pi_list (pe_call DSp.ok (hr.mono (by decide)) (by rfl) DSp.mg DSp.kp DSp.bd .nil pass0 (pa_cons (pv 0) pa_nil))) (blkOk_by (N := nLagsAt) (sc := defScope sLagsAt) (own := [("spot", 2)]) (by decide +kernel)) (fun _ _ _ _ _ => (pg_name (i := 2) nd rfl (.inl rfl))) (fun _ _ _ _ _ => pts_nil) (fun _ _ _ _ _ => (pe_op op_sub (pe_ix ix_list (pv 1) (pv 2) (fun _ _ => rfl)) (pe_ix ix_list (pv 1) (pe_callB call_len_seq (by rfl) B.len PySem.boot_len (pa_cons (pe_fld (pv 0) rfl) pa_nil)) (fun _ _ => rfl)))))), ?_⟩
    have hgl := N.gl
    obtain ⟨dx, ob⟩ := id NA.ob
    obtain ⟨gv, hgv, ga⟩ := id NA.g
    have hlg : gv.length = gs.length := ga.1
    refine ⟨_, rfl, p, ng, nw, gs, ws, rfl, NA, N, fun l H1 s1 hl el => ?_⟩
    refine ⟨l, rfl, ⟨_, SqL.of el⟩, fun D hD => ?_⟩
    refine lc_list (K := K) (a := l) (xs := nvs (spotsL gs)) (fun i Hc => Hc D = some (.lst (((List.range i).map (lagsAt gs fun v => F.getD v 0)).map V.int)) ∧ Same H1 Hc) ⟨by rw [upd_same]; rfl, same_new hD⟩ (fun i Hc _ ⟨_, sm⟩ => SqL.of (sm _ _ el)) ?_ ?_
    · rintro i v Hc hv ⟨hc, sm⟩
      have hi : i < gs.length := by
        have := (List.getElem?_eq_some_iff.mp hv).1
        rw [nvs_len] at this
        unfold spotsL at this
        rw [List.length_map, List.length_range] at this
        exact this
      rw [spots_at hi] at hv
      cases hv
      have sm2 := s1.trans sm
      have hsp := spot_le (gs := gs) i hi
      refine ⟨rfl, tyes ?_⟩
      refine ⟨_, rfl, _, rfl, lf, _, _, _, rfl, rfl, sm2.seq sf, atI_nat (sgetD_at (by omega)), ?_⟩
      refine ⟨_, rfl, _, rfl, p, C, dx, _, _, rfl, sm2 _ _ ob, T.cl, T.nG, nf_gates _ _, ng, gv, rfl, .inl (SqL.of (sm2 _ _ hgv)), lf, _, gv.length, _, rfl, rfl, sm2.seq sf, atI_nat (sgetD_at (by omega)), _, _, rfl, rfl, _, hc, ?_, ?_, same_mut sm hD⟩
      · rw [List.length_map, List.length_map, List.length_range]
        exact small1000 (by omega)
      · rw [upd_same, List.range_succ, List.map_append, List.map_append, hlg]
        rfl
    · rintro H2 ⟨hc, sm⟩
      have e : (nvs (spotsL gs)).length = gs.length := by
        rw [nvs_len]
        unfold spotsL
        rw [List.length_map, List.length_range]
      rw [e] at hc
      exact q D H2 (s1.trans sm) (s1.free hD) hc
end
end Lag

set_option maxRecDepth 100000
set_option maxHeartbeats 8000000
namespace Lag
open PySem PySem.Spec PyProof.Rows L2
abbrev sBoundsFor : Stmt := topS 52 -- @bounds_for
/-- a bound with its piece, apart from the list lt -/
def BpV (K : PySem.W.Frag) (H : Hp) (lt : Addr) (v : V) (bp : Bnd × Pce) : Prop := ∃ a pa l, v = .ref a ∧ SqT K H a [.int ((bp.1.1 : Nat) : Int), .int ((bp.1.2.1 : Nat) : Int), .int bp.1.2.2, .ref pa] ∧ SqT K H pa [.int ((bp.2.1 : Nat) : Int), .ref l] ∧ H l = some (.lst (nvs bp.2.2)) ∧ l ≠ lt
theorem BpV.same {K : PySem.W.Frag} {H H' : Hp} {lt : Addr} {v : V} {bp : Bnd × Pce} (s : Same H H') (h : BpV K H lt v bp) : BpV K H' lt v bp := by
  obtain ⟨a, pa, l, e, h1, h2, h3, h4⟩ := h
  exact ⟨a, pa, l, e, (TK.same s).seq h1, (TK.same s).seq h2, s _ _ h3, h4⟩
theorem BpV.mut {K : PySem.W.Frag} {H : Hp} {lt : Addr} {xs : List V} {o : HO} {v : V} {bp : Bnd × Pce} (e : H lt = some (.lst xs)) (h : BpV K H lt v bp) : BpV K (upd H lt o) lt v bp := by
  obtain ⟨a, pa, l, e', h1, h2, h3, h4⟩ := h
  exact ⟨a, pa, l, e', (TK.lst e).seq h1, (TK.lst e).seq h2, (upd_ne h4).trans h3, h4⟩
theorem nat_sorted {ns : List Int} {ks : List Nat} (hp : ns.Perm (ks.map fun i => ((i : Nat) : Int))) (hs : ns.Pairwise (· ≤ ·)) : ∃ es : List Nat, ns = es.map (fun i => ((i : Nat) : Int)) ∧ es.Perm ks ∧ es.Pairwise (· ≤ ·) := by
  have hm : ∀ x ∈ ns, ∃ k : Nat, x = (k : Int) := fun x hx => by
    obtain ⟨k, _, rfl⟩ := List.mem_map.mp (hp.mem_iff.mp hx)
    exact ⟨k, rfl⟩
  have e : ns = (ns.map Int.toNat).map fun i => ((i : Nat) : Int) := by
    rw [List.map_map]
    have : ∀ l : List Int, (∀ x ∈ l, ∃ k : Nat, x = (k : Int)) → l = l.map ((fun i => ((i : Nat) : Int)) ∘ Int.toNat) := fun l hl => by
      induction l with
      | nil => rfl
      | cons x l ih =>
        obtain ⟨k, rfl⟩ := hl x (List.mem_cons_self ..)
        rw [List.map_cons, ← ih fun y hy => hl y (List.mem_cons_of_mem _ hy)]
        rfl
    exact this ns hm
  refine ⟨ns.map Int.toNat, e, ?_, ?_⟩
  · have h1 := hp.map Int.toNat
    rw [List.map_map] at h1
    have h2 : ks.map (Int.toNat ∘ fun i => ((i : Nat) : Int)) = ks := by
      have : (Int.toNat ∘ fun i : Nat => ((i : Nat) : Int)) = id := by
        funext i
        exact Int.toNat_natCast i
      rw [this, List.map_id]
    rw [h2] at h1
    exact h1
  · rw [List.pairwise_map]
    refine hs.imp_of_mem fun {a b} ha hb h => ?_
    obtain ⟨i, rfl⟩ := hm a ha
    obtain ⟨j, rfl⟩ := hm b hb
    omega
theorem KnD.list {K : PySem.W.Frag} {H : Hp} {d : Addr} {D : Dst} {kvs : List (Key × V)} {ks : List Nat} (h : KnD K H d D kvs ks) : (kvs.map fun kv => kV kv.1) = ((ks.map fun i => ((i : Nat) : Int)).map V.int) := by
  have e : (kvs.map fun kv => kV kv.1) = (kvs.map fun kv => kv.1).map kV := by rw [List.map_map]; rfl
  rw [e, h.keys, List.map_map, List.map_map]
  rfl
/-- the bounds made so far -/
structure PB (gs : List Gt) (ws : List Wr) (b : Int) (i : Nat) (es : List Nat) (bps : List (Bnd × Pce)) : Prop where
  ok : ∀ bp ∈ bps, ∃ e, bp.2.1 < gs.length ∧ Pw ws bp.2.1 bp.2.2 e ∧ bp.1 = (spotF gs bp.2.1, spotF gs e, roomF gs ws b bp.2) ∧ bp.2.2.length ≤ 1000 ∧ best gs ws bp.2.1 e = some (prg ws bp.2.2, -pwt gs ws bp.2.1 bp.2.2)
  full : ∀ s, s < i → ∀ e c, best gs ws s e = some c → ∃ bp ∈ bps, bp.2.1 = s ∧ Pw ws s bp.2.2 e ∧ c = (prg ws bp.2.2, -pwt gs ws s bp.2.2)
  here : ∀ e ∈ es, ∀ c, best gs ws i e = some c → ∃ bp ∈ bps, bp.2.1 = i ∧ Pw ws i bp.2.2 e ∧ c = (prg ws bp.2.2, -pwt gs ws i bp.2.2)
  len : bps.length ≤ i * gs.length + es.length
theorem PB.push {gs : List Gt} {ws : List Wr} {b : Int} {i e : Nat} {es ps : List Nat} {bps : List (Bnd × Pce)} {c : Cst} (h : PB gs ws b i es bps) (hi : i < gs.length) (hp : Pw ws i ps e) (hb : best gs ws i e = some c) (hc : c = (prg ws ps, -pwt gs ws i ps)) (hl : ps.length ≤ 1000) :
    PB gs ws b i (es ++ [e]) (bps ++ [((spotF gs i, spotF gs e, roomF gs ws b (i, ps)), (i, ps))]) := by
  refine ⟨fun bp hbp => ?_, fun s hs e' c' hc' => ?_, fun e' he' c' hc' => ?_, ?_⟩
  · rcases List.mem_append.mp hbp with hbp | hbp
    · exact h.ok bp hbp
    · rw [List.mem_singleton.mp hbp]
      exact ⟨e, hi, hp, rfl, hl, by rw [hb, hc]⟩
  · obtain ⟨bp, h1, h2⟩ := h.full s hs e' c' hc'
    exact ⟨bp, List.mem_append_left _ h1, h2⟩
  · rcases List.mem_append.mp he' with he' | he'
    · obtain ⟨bp, h1, h2⟩ := h.here e' he' c' hc'
      exact ⟨bp, List.mem_append_left _ h1, h2⟩
    · rw [List.mem_singleton.mp he'] at hc' ⊢
      rw [hb] at hc'
      cases hc'
      exact ⟨_, List.mem_append_right _ (List.mem_singleton.mpr rfl), rfl, hp, hc⟩
  · have := h.len
    rw [List.length_append, List.length_append, List.length_singleton, List.length_singleton]
    omega
theorem PB.next {gs : List Gt} {ws : List Wr} {b : Int} {i : Nat} {es : List Nat} {bps : List (Bnd × Pce)} (h : PB gs ws b i es bps) (hes : ∀ e c, best gs ws i e = some c → e ∈ es) (hl : es.length ≤ gs.length) : PB gs ws b (i + 1) [] bps := by
  refine ⟨h.ok, fun s hs e c hc => ?_, fun e he => (nomatch he), ?_⟩
  · by_cases z : s = i
    · subst z
      exact h.here e (hes e c hc) c hc
    · exact h.full s (by omega) e c hc
  · have := h.len
    rw [Nat.add_mul, Nat.one_mul]
    show _ ≤ _ + _ + 0
    omega
theorem PB.fin {gs : List Gt} {ws : List Wr} {b : Int} {es : List Nat} {bps : List (Bnd × Pce)} (h : PB gs ws b gs.length es bps) : BdsOk gs ws b (bps.map fun bp => bp.2) (bps.map fun bp => bp.1) := by
  refine ⟨⟨by rw [List.length_map, List.length_map], fun i pc bd h1 h2 => ?_⟩, fun s hs e c hc => ?_, fun pc hpc => ?_⟩
  · rw [List.getElem?_map] at h1 h2
    cases e : bps[i]? with
    | none => rw [e] at h1; cases h1
    | some bp =>
      rw [e] at h1 h2
      cases h1
      cases h2
      obtain ⟨e', k1, k2, k3, _⟩ := h.ok bp (List.mem_of_getElem? e)
      exact ⟨e', k1, k2, k3⟩
  · obtain ⟨bp, h1, h2⟩ := h.full s hs e c hc
    exact ⟨bp.2, List.mem_map.mpr ⟨bp, h1, rfl⟩, h2⟩
  · obtain ⟨bp, hbp, rfl⟩ := List.mem_map.mp hpc
    obtain ⟨e, k1, k2, _, _, k5⟩ := h.ok bp hbp
    exact ⟨e, k2, k5⟩
theorem PB.pce {gs : List Gt} {ws : List Wr} {b : Int} {i : Nat} {es : List Nat} {bps : List (Bnd × Pce)} (h : PB gs ws b i es bps) : ∀ bp ∈ bps, PceOk gs ws bp.2 ∧ bp.2.2.length ≤ 1000 := fun bp hbp => by
  obtain ⟨e, k1, k2, _, k4, _⟩ := h.ok bp hbp
  exact ⟨⟨k1, e, k2⟩, k4⟩
theorem small11k {n : Nat} (h : n ≤ 11000) : n < sizeLine := Nat.lt_of_le_of_lt h (by decide)
def spBoundsFor (K : PySem.W.Frag) (C : Addr) : Sp := fun vs H Q _ => ∃ (p ng nw : Addr) (gs : List Gt) (ws : List Wr) (b : Int), vs = [.ref p, .int b] ∧ NetAt K C H p ng nw gs ws ∧ NetOk gs ws ∧
  ∀ (lb : Addr) (bv : List V) (bps : List (Bnd × Pce)) (H' : Hp), Same H H' → H lb = none → H' lb = some (.lst bv) → All2 (BpV K H' lb) bv bps → BdsOk gs ws b (bps.map fun bp => bp.2) (bps.map fun bp => bp.1) → bps.length ≤ 11000 → (∀ bp ∈ bps, PceOk gs ws bp.2 ∧ bp.2.2.length ≤ 1000) → Q (.ref lb) H'
section
variable {P : Program} {w : World} {K : PySem.W.Frag} {mg : Str → Option Value} {base : Heap}
abbrev nBoundsFor : List Str := ["net", "beat", "spots", "told", "start", "known", "last", "end", "piece"]
theorem scBoundsFor : FnScope nBoundsFor ["net", "beat"] (defScope sBoundsFor) := ⟨rfl, rfl, rfl, by decide +kernel, rfl, by decide +kernel, by decide +kernel⟩
abbrev DBoundsFor (P : Program) (w : World) (K : PySem.W.Frag) (mg : Str → Option Value) (base : Heap) (C : Addr) := Df P w K mg base 3 "bounds_for" ["net", "beat"] (spBoundsFor K C)
theorem ok_boundsFor {f fS fB fW fR C : Addr} {fd fdS fdB fdW fdR : FuncData} (F : Fun K "bounds_for" "bounds_for" sBoundsFor f fd) (hm : mg "bounds_for" = some (.ref f)) (B : Bt mg) (mso : mg "sorted" = none) (T : NT K mg C) (DSp : DSpotsOf P w K mg base C fS fdS) (DBF : DBestFrom P w K mg base C fB fdB) (DW : DWayTo P w K mg base C fW fdW) (DRm : DRoomOf P w K mg base C fR fdR) : DBoundsFor P w K mg base C f fd := by
  refine ⟨?_, hm, F.kp, F.binds fun _ _ _ _ _ _ us hl => match us, hl with | [_, _], _ => rfl⟩
  refine F.ok scBoundsFor (fun vs H Q E h => ?_) (fun cdv A outer s H vs Q E hr h => ?_)
  · obtain ⟨p, ng, nw, gs, ws, b, rfl, _⟩ := h
    rfl
  · obtain ⟨p, ng, nw, gs, ws, b, rfl, NA, N, q⟩ := h
    have nd := scBoundsFor.nd
    refine ⟨_, pss_cons (ps_set (i := 2) nd rfl (.inl rfl) (pe_call DSp.ok (hr.mono (by decide)) (by rfl) DSp.mg DSp.kp DSp.bd .nil pass0 (pa_cons (pv 0) pa_nil))) <|
        pss_cons (ps_set (i := 3) nd rfl (.inl rfl) (pe_lst pa_nil)) <|
        pss_cons (ps_for PassesOwn.never rfl (pi_range1 (by rfl) B.range (pa_cons (pe_callB call_len_seq (by rfl) B.len PySem.boot_len (pa_cons (pe_fld (pv 0) rfl) pa_nil)) pa_nil)) (pg_name (i := 4) nd rfl (.inl rfl)) (pss_cons (ps_asg (pe_call DBF.ok (hr.mono (by decide)) (by rfl) DBF.mg DBF.kp DBF.bd .nil pass0 (pa_cons (pv 0) (pa_cons (pv 4) pa_nil))) (pg_tup rfl (pgs_cons (pg_name (i := 5) nd rfl (.inl rfl)) (pgs_cons (pg_name (i := 6) nd rfl (.inl rfl)) pgs_nil)))) <|
        pss_one (ps_for PassesOwn.never rfl (pi_list (pe_callB cr_sortedI (by rfl) mso (by decide +kernel) (pa_cons (pe_callTy (call_list_dK rfl) (by rfl) B.list (by decide +kernel) (pa_cons (pv 5) pa_nil)) pa_nil))) (pg_name (i := 7) nd rfl (.inl rfl)) (pss_cons (ps_set (i := 8) nd rfl (.inl rfl) (pe_call DW.ok (hr.mono (by decide)) (by rfl) DW.mg DW.kp DW.bd .nil pass0 (pa_cons (pv 0) (pa_cons (pv 7) (pa_cons (pv 6) pa_nil))))) <|
        pss_one (ps_expr (pe_bm PySem.F.plainAttrs_list PySem.F.slot_list_append PySem.F.type_list_append mt_append (pv 3) (pa_cons (pe_tup (pa_cons (pe_ix ix_list (pv 2) (pv 4) (fun _ _ => rfl)) (pa_cons (pe_ix ix_list (pv 2) (pv 7) (fun _ _ => rfl)) (pa_cons (pe_call DRm.ok (hr.mono (by decide)) (by rfl) DRm.mg DRm.kp DRm.bd .nil pass0 (pa_cons (pv 0) (pa_cons (pv 1) (pa_cons (pv 8) pa_nil)))) (pa_cons (pv 8) pa_nil))))) pa_nil))))))) <|
        pss_one (ps_ret (pv 3)), ?_⟩
    have hgl := N.gl
    obtain ⟨dx, ob⟩ := id NA.ob
    obtain ⟨gv, hgv, ga⟩ := id NA.g
    have hlg : gv.length = gs.length := ga.1
    refine ⟨_, rfl, p, ng, nw, gs, ws, rfl, NA, N, fun ls H1 s1 hls els => ?_⟩
    refine ⟨(by show 0 ≤ sizeLine; decide), fun lt hlt => ?_⟩
    have t2 := same_new (o := .lst []) hlt
    have e2 : (upd H1 lt (.lst [])) lt = some (.lst []) := upd_same
    have hlt0 : H lt = none := s1.free hlt
    generalize upd H1 lt (.lst []) = H2 at t2 e2
    have s2 := s1.trans t2
    refine gn_norm (σ' := [some (.ref p), some (.int b), some (.ref ls), some (.ref lt), none, none, none, none, none]) rfl ?_
    refine ⟨_, rfl, p, C, dx, _, _, rfl, s2 _ _ ob, T.cl, T.nG, nf_gates _ _, ng, gv, rfl, .inl (SqL.of (s2 _ _ hgv)), _, rfl, by omega, by omega, for_range (lo := 0) (n := ((gv.length : Nat) : Int).toNat) (fun i σ H' => ∃ (u4 u5 u6 u7 u8 : Option V) (bv : List V) (bps : List (Bnd × Pce)), σ = [some (.ref p), some (.int b), some (.ref ls), some (.ref lt), u4, u5, u6, u7, u8] ∧ Same H H' ∧ Same H1 H' ∧ H' lt = some (.lst bv) ∧ All2 (BpV K H' lt) bv bps ∧ PB gs ws b i [] bps)
      ⟨_, _, _, _, _, [], [], rfl, s2, t2, e2, All2.nil, ⟨fun bp h => (nomatch h), fun s hs => absurd hs (Nat.not_lt_zero _), fun e he => (nomatch he), Nat.zero_le _⟩⟩ ?_ ?_⟩
    · rintro i σ H3 hi ⟨u4, u5, u6, u7, u8, bv, bps, rfl, sm, sm1, eb, ab, pb⟩
      rw [Int.toNat_natCast, hlg] at hi
      have ei : (0 : Int) + ((i : Nat) : Int) = ((i : Nat) : Int) := Int.zero_add _
      rw [ei]
      refine ⟨_, rfl, _, rfl, p, ng, nw, gs, ws, i, rfl, NA.same sm, N, hi, fun t d lL kvs ks La H4 s4 et kn eL hL0 lok => ?_⟩
      refine ⟨t, _, rfl, .inl (.inl et), rfl, _, _, rfl, _, _, rfl, rfl, ?_⟩
      refine ⟨_, rfl, d, kvs, rfl, kn.at_, fun lk hlk => ?_⟩
      rw [kn.list]
      have t5 := same_new (o := .lst ((ks.map fun i => ((i : Nat) : Int)).map V.int)) hlk
      have e5 : (upd H4 lk (.lst ((ks.map fun i => ((i : Nat) : Int)).map V.int))) lk = some (.lst ((ks.map fun i => ((i : Nat) : Int)).map V.int)) := upd_same
      generalize upd H4 lk (.lst ((ks.map fun i => ((i : Nat) : Int)).map V.int)) = H5 at t5 e5
      refine ⟨lk, _, rfl, SqL.of e5, fun ns lp hperm hsrt hlp => ?_⟩
      obtain ⟨es, rfl, hep, hes⟩ := nat_sorted hperm hsrt
      have t6 := same_new (o := .lst ((es.map fun i => ((i : Nat) : Int)).map V.int)) hlp
      have e6 : (upd H5 lp (.lst ((es.map fun i => ((i : Nat) : Int)).map V.int))) lp = some (.lst ((es.map fun i => ((i : Nat) : Int)).map V.int)) := upd_same
      generalize upd H5 lp (.lst ((es.map fun i => ((i : Nat) : Int)).map V.int)) = H6 at t6 e6
      have s36 := (s4.trans t5).trans t6
      have s46 := t5.trans t6
      have hkl : es.length ≤ gs.length := by
        rw [hep.length_eq]
        exact svNodup_le kn.nd fun v hv => by
          obtain ⟨c, hc⟩ := (kn.mem v).mp hv
          exact best_lt N hi hc
      have npt : lp ≠ lt := fun z => by
        rw [z] at hlp
        rw [((s4.trans t5)) _ _ eb] at hlp
        cases hlp
      have hex : (es.map fun i => ((i : Nat) : Int)).map V.int = nvs es := by rw [List.map_map]; rfl
      rw [hex] at e6
      have hilt : i * gs.length ≤ 10000 := Nat.mul_le_mul (by omega : i ≤ 100) (by omega : gs.length ≤ 100)
      refine ⟨lp, rfl, ⟨_, SqL.of e6⟩, for_list (K := K) (a := lp) (xs := nvs es) (fun j σ H' => ∃ (u7 u8 : Option V) (bv : List V) (bps : List (Bnd × Pce)), σ = [some (.ref p), some (.int b), some (.ref ls), some (.ref lt), some (.int (i : Nat)), some (.ref d), some (.ref lL), u7, u8] ∧ Same H H' ∧ Same H1 H' ∧ But lt H6 H' ∧ H' lt = some (.lst bv) ∧ All2 (BpV K H' lt) bv bps ∧ PB gs ws b i (es.take j) bps)
        ⟨_, _, bv, bps, rfl, sm.trans s36, sm1.trans s36, But.refl _ _, s36 _ _ eb, ab.imp fun _ _ r => r.same s36, pb⟩ (fun j σ H' _ ⟨_, _, _, _, _, _, _, bt, _⟩ => SqL.of (bt _ _ npt e6)) ?_ ?_⟩
      · rintro j v σ H7 hv ⟨u7, u8, bv, bps, rfl, sm7, sm17, bt, eb7, ab7, pb7⟩
        obtain ⟨e, he, rfl⟩ := nvs_of hv
        obtain ⟨c, hc⟩ := (kn.mem e).mp (hep.mem_iff.mp (List.mem_of_getElem? he))
        obtain ⟨ps, bk, ec, hpl⟩ := lok.2 e c hc
        have heg := best_lt N hi hc
        have hpw := bk.pw
        have eL6 := s46 _ _ eL
        have nLt : lL ≠ lt := (ne_of_none eb hL0).symm
        refine ⟨_, rfl, _, rfl, _, rfl, p, ng, nw, lL, gs, ws, La, e, i, ps, rfl, NA.same sm7, N, bt _ _ nLt eL6, lok.1, heg, bk, by omega, fun t8 lr H8 s8 ht8 hlr et8 er => ?_⟩
        have eb8 := s8 _ _ eb7
        have nrt : lr ≠ lt := (ne_of_none eb7 hlr).symm
        refine gn_norm (σ' := [some (.ref p), some (.int b), some (.ref ls), some (.ref lt), some (.int (i : Nat)), some (.ref d), some (.ref lL), some (.int (e : Nat)), some (.ref t8)]) rfl ?_
        have sm18 := sm17.trans s8
        have els8 := sm18 _ _ els
        refine ⟨_, rfl, .inl ⟨rfl, _, SqL.of eb8⟩, _, rfl, _, rfl, ls, _, i, _, rfl, rfl, SqL.of els8, atI_nat (spots_at hi), _, rfl, _, rfl, ls, _, e, _, rfl, rfl, SqL.of els8, atI_nat (spots_at heg), _, rfl, _, rfl, _, rfl, ?_⟩
        refine ⟨p, ng, nw, gs, ws, b, _, (i, ps.reverse), rfl, (NA.same sm7).same s8, N, ⟨t8, lr, rfl, .inl (.inl et8), SqL.of er⟩, ⟨hi, e, hpw⟩, by rw [List.length_reverse]; omega, fun H9 s9 => ?_⟩
        refine ⟨_, rfl, (by show 4 ≤ sizeLine; decide), fun tb htb => ?_⟩
        have t10 := same_new (o := .tup [.int ((spotF gs i : Nat) : Int), .int ((spotF gs e : Nat) : Int), .int (roomF gs ws b (i, ps.reverse)), .ref t8]) htb
        have e10 : (upd H9 tb (.tup [.int ((spotF gs i : Nat) : Int), .int ((spotF gs e : Nat) : Int), .int (roomF gs ws b (i, ps.reverse)), .ref t8])) tb = some (.tup [.int ((spotF gs i : Nat) : Int), .int ((spotF gs e : Nat) : Int), .int (roomF gs ws b (i, ps.reverse)), .ref t8]) := upd_same
        generalize upd H9 tb (.tup [.int ((spotF gs i : Nat) : Int), .int ((spotF gs e : Nat) : Int), .int (roomF gs ws b (i, ps.reverse)), .ref t8]) = H10 at t10 e10
        have s710 := (s8.trans s9).trans t10
        have s810 := s9.trans t10
        have eb10 := s710 _ _ eb7
        have pbl := pb7.len
        have hbl : bv.length = bps.length := ab7.1
        have htk : (es.take j).length ≤ gs.length := by
          rw [List.length_take]
          omega
        refine ⟨lt, bv, _, rfl, rfl, eb10, small11k (by omega), ?_⟩
        have ab10 : All2 (BpV K H10 lt) bv bps := ab7.imp fun _ _ r => r.same s710
        refine ⟨_, _, bv ++ [.ref tb], bps ++ [((spotF gs i, spotF gs e, roomF gs ws b (i, ps.reverse)), (i, ps.reverse))], rfl, same_mut (sm7.trans s710) hlt0, same_mut (sm17.trans s710) hlt, ?_, upd_same, ?_, ?_⟩
        · intro a o na ea
          rw [upd_ne na]
          exact s710 _ _ (bt _ _ na ea)
        · refine (ab10.imp fun _ _ r => r.mut eb10).snoc ⟨tb, t8, lr, rfl, (TK.lst eb10).seq (.inl (.inl e10)), (TK.lst eb10).seq ((TK.same s810).seq (.inl (.inl et8))), (upd_ne nrt).trans (s810 _ _ er), nrt⟩
        · have et : es.take (j + 1) = es.take j ++ [e] := by rw [List.take_add_one, he]; rfl
          rw [et]
          exact pb7.push hi hpw hc ec (by rw [List.length_reverse]; omega)
      · rintro σ H7 ⟨u7, u8, bv, bps, rfl, sm7, sm17, bt, eb7, ab7, pb7⟩
        rw [nvs_len, List.take_length] at pb7
        exact ⟨_, _, _, _, _, bv, bps, rfl, sm7, sm17, eb7, ab7, pb7.next (fun e c hc => hep.mem_iff.mpr ((kn.mem e).mpr ⟨c, hc⟩)) hkl⟩
    · rintro σ H3 ⟨u4, u5, u6, u7, u8, bv, bps, rfl, sm, sm1, eb, ab, pb⟩
      rw [Int.toNat_natCast, hlg] at pb
      refine ⟨_, rfl, q lt bv bps H3 sm hlt0 eb ab pb.fin ?_ pb.pce⟩
      have h1 := pb.len
      have h2 : gs.length * gs.length ≤ 10000 := Nat.mul_le_mul hgl hgl
      have h3 : ([] : List Nat).length = 0 := rfl
      omega
end
end Lag

set_option maxRecDepth 100000
set_option maxHeartbeats 8000000
namespace Lag
open PySem PySem.Spec PyProof.Rows L2
abbrev sRingFrom : Stmt := topS 17 -- @ring_from
abbrev sSettle : Stmt := topS 18 -- @settle
def BndV (K : PySem.W.Frag) (H : Hp) (v : V) (bd : Bnd) : Prop := ∃ a th, v = .ref a ∧ SqT K H a [.int ((bd.1 : Nat) : Int), .int ((bd.2.1 : Nat) : Int), .int bd.2.2, th]
theorem BndV.tk {K : PySem.W.Frag} {H H' : Hp} {v : V} {bd : Bnd} (t : TK H H') (h : BndV K H v bd) : BndV K H' v bd := by
  obtain ⟨a, th, e, s⟩ := h
  exact ⟨a, th, e, t.seq s⟩
/-- what of each place is come by next -/
structure OnD (K : PySem.W.Frag) (H : Hp) (d : Addr) (kvs : List (Key × V)) (bv : List V) (bs : List Bnd) (O : Nat → Option Nat) (n : Nat) : Prop where
  at_ : H d = some (.dK kvs)
  keys : ∃ ks : List Nat, kvs.map (fun kv => kv.1) = ks.map (fun g => Sum.inl ((g : Nat) : Int)) ∧ ks.Nodup ∧ ∀ g ∈ ks, g < n
  on : ∀ v j, O v = some j → ∃ t z b, valV kvs (Sum.inl ((v : Nat) : Int)) = some (.ref t) ∧ SqT K H t [z, .int ((b.2.1 : Nat) : Int)] ∧ bv[j]? = some z ∧ bs[j]? = some b ∧ b.1 = v
theorem OnD.tk {K : PySem.W.Frag} {H H' : Hp} {d : Addr} {kvs : List (Key × V)} {bv : List V} {bs : List Bnd} {O : Nat → Option Nat} {n : Nat} (h : OnD K H d kvs bv bs O n) (t : TK H H') (e : H' d = some (.dK kvs)) : OnD K H' d kvs bv bs O n :=
  ⟨e, h.keys, fun v j hv => by
    obtain ⟨t', z, b, h1, h2, h3⟩ := h.on v j hv
    exact ⟨t', z, b, h1, t.seq h2, h3⟩⟩
theorem OnD.same {K : PySem.W.Frag} {H H' : Hp} {d : Addr} {kvs : List (Key × V)} {bv : List V} {bs : List Bnd} {O : Nat → Option Nat} {n : Nat} (h : OnD K H d kvs bv bs O n) (s : Same H H') : OnD K H' d kvs bv bs O n := h.tk (TK.same s) (s _ _ h.at_)
theorem OnD.len {K : PySem.W.Frag} {H : Hp} {d : Addr} {kvs : List (Key × V)} {bv : List V} {bs : List Bnd} {O : Nat → Option Nat} {n : Nat} (h : OnD K H d kvs bv bs O n) : kvs.length ≤ n := by
  obtain ⟨ks, h1, h2, h3⟩ := h.keys
  have := congrArg List.length h1
  rw [List.length_map, List.length_map] at this
  rw [this]
  exact svNodup_le h2 h3
theorem OnD.put {K : PySem.W.Frag} {H : Hp} {d t a : Addr} {kvs : List (Key × V)} {bv : List V} {bs : List Bnd} {O : Nat → Option Nat} {n j : Nat} {b : Bnd} (h : OnD K H d kvs bv bs O n) (ht : H t = some (.tup [.ref a, .int ((b.2.1 : Nat) : Int)])) (hz : bv[j]? = some (.ref a)) (hb : bs[j]? = some b) (hn : b.1 < n) :
    OnD K (upd H d (.dK (putK kvs (Sum.inl ((b.1 : Nat) : Int)) (.ref t)))) d (putK kvs (Sum.inl ((b.1 : Nat) : Int)) (.ref t)) bv bs (updO O b.1 j) n := by
  have inj : ∀ {i j : Nat}, (Sum.inl ((i : Nat) : Int) : Key) = Sum.inl ((j : Nat) : Int) → i = j := fun {i j} z => by
    have := Sum.inl.inj z
    omega
  have tk : TK H (upd H d (.dK (putK kvs (Sum.inl ((b.1 : Nat) : Int)) (.ref t)))) := fun c o to eb => by
    rw [upd_ne (fun z => by
      rw [z, h.at_] at eb
      cases eb
      exact to)]
    exact eb
  refine ⟨upd_same, ?_, fun v i hv => ?_⟩
  · obtain ⟨ks, h1, h2, h3⟩ := h.keys
    have hk : (Sum.inl ((b.1 : Nat) : Int) : Key) ∈ kvs.map (fun kv => kv.1) ↔ b.1 ∈ ks := by
      rw [h1]
      constructor
      · intro z
        obtain ⟨g, hg, e'⟩ := List.mem_map.mp z
        rw [← inj e']
        exact hg
      · intro z
        exact List.mem_map.mpr ⟨b.1, z, rfl⟩
    by_cases he : b.1 ∈ ks
    · exact ⟨ks, by rw [putK_old (hk.mpr he)]; exact h1, h2, h3⟩
    · refine ⟨ks ++ [b.1], by rw [putK_fresh fun z => he (hk.mp z), h1, List.map_append]; rfl, ?_, fun g hg => ?_⟩
      · rw [List.nodup_append]
        refine ⟨h2, by simp, fun x hx y hy z => ?_⟩
        rw [List.mem_singleton.mp hy] at z
        exact he (z ▸ hx)
      · rcases List.mem_append.mp hg with hg | hg
        · exact h3 g hg
        · rw [List.mem_singleton.mp hg]
          exact hn
  · unfold updO at hv
    rw [valV_put]
    by_cases z : v = b.1
    · rw [if_pos z] at hv
      cases hv
      rw [if_pos (by rw [z])]
      exact ⟨t, _, b, rfl, tk.seq (.inl (.inl ht)), hz, hb, z.symm⟩
    · rw [if_neg z] at hv
      rw [if_neg fun y => z (inj y)]
      obtain ⟨t', z', b', k1, k2, k3⟩ := h.on v i hv
      exact ⟨t', z', b', k1, tk.seq k2, k3⟩
/-- what was seen, with its place -/
def SvSeen (H : Hp) (D : Addr) (es : List Nat) : Prop := ∃ kvs : List (Key × V), H D = some (.dK kvs) ∧ kvs.length ≤ es.length ∧ ∀ g : Nat, valV kvs (Sum.inl (g : Int)) = if g ∈ es then some (.int ((es.idxOf g : Nat) : Int)) else none
theorem SvSeen.get {H : Hp} {D : Addr} {es : List Nat} (h : SvSeen H D es) (g : Nat) : DGet H D (.int (g : Nat)) (if g ∈ es then some (.int ((es.idxOf g : Nat) : Int)) else none) := by
  obtain ⟨kvs, e, _, hv⟩ := h
  have := DGet.k (k := Sum.inl (g : Int)) e
  rw [hv g] at this
  exact this
theorem SvSeen.put {H : Hp} {D : Addr} {es : List Nat} (h : SvSeen H D es) (hm : es.length < sizeLine) {c : Nat} (hc : c ∉ es) : ∃ o, DPut H D (.int (c : Nat)) (.int ((es.length : Nat) : Int)) (upd H D o) ∧ SvSeen (upd H D o) D (es ++ [c]) := by
  obtain ⟨kvs, e, hl, hv⟩ := h
  refine ⟨.dK (putK kvs (Sum.inl (c : Int)) (.int ((es.length : Nat) : Int))), DPut.k (k := Sum.inl (c : Int)) e (by omega), _, upd_same, by have := length_putK kvs (Sum.inl (c : Int)) (.int ((es.length : Nat) : Int)); rw [List.length_append]; show _ ≤ es.length + 1; omega, fun j => ?_⟩
  rw [valV_put]
  by_cases hj : j = c
  · subst hj
    rw [if_pos rfl, if_pos (by simp), List.idxOf_append, if_neg hc]
    simp
  · rw [if_neg (fun z => hj (by have := Sum.inl.inj z; omega)), hv j]
    by_cases hm : j ∈ es
    · rw [if_pos hm, if_pos (List.mem_append_left _ hm), List.idxOf_append, if_pos hm]
    · rw [if_neg hm, if_neg (fun z => by
        rcases List.mem_append.mp z with z | z
        · exact hm z
        · exact hj (List.mem_singleton.mp z))]
theorem ring_starts {bs : List Bnd} {O : Nat → Option Nat} {es js : List Nat} {cur : Nat} (hl : es.length = js.length) (h : ∀ i v, es[i]? = some v → PtO bs O v (js.drop i) cur) : js.map (fun j => (bAt bs j).1) = es := by
  refine List.ext_getElem? fun i => ?_
  rw [List.getElem?_map]
  by_cases hi : i < js.length
  · have he : i < es.length := by omega
    have := h i es[i] (List.getElem?_eq_getElem he)
    rw [List.drop_eq_getElem_cons hi] at this
    obtain ⟨_, b, h1, h2, _⟩ := this
    rw [List.getElem?_eq_getElem hi, List.getElem?_eq_getElem he]
    show some (bAt bs js[i]).1 = _
    rw [bAt_get h1, h2]
  · rw [List.getElem?_eq_none (by omega), List.getElem?_eq_none (by omega)]
    rfl
def ringVs (bv : List V) (js : List Nat) : List V := js.map fun j => bv.getD j .non
def spRingF (K : PySem.W.Frag) : Sp := fun vs H Q _ => ∃ (e0 n : Nat) (d : Addr) (kvs : List (Key × V)) (bv : List V) (bs : List Bnd) (O : Nat → Option Nat), vs = [.int (e0 : Nat), .ref d] ∧ OnD K H d kvs bv bs O n ∧ n ≤ 1000 ∧ e0 < n ∧ (∀ b ∈ bs, b.2.1 < n) ∧ (∀ js v, PtO bs O e0 js v → js.length < n → O v ≠ none) ∧
  ∀ (js : List Nat) (l : Addr) (H' : Hp), js ≠ [] → js.length ≤ n → (∃ v, PtO bs O v js v) → (js.map fun j => (bAt bs j).1).Nodup → Same H H' → H l = none → H' l = some (.lst (ringVs bv js)) → Q (.ref l) H'
def SvTold (K : PySem.W.Frag) (H : Hp) (bv : List V) (bs : List Bnd) (n : Nat) (t : Addr) (H' : Hp) : Prop :=
  (∃ (lf : Addr) (F : List Int), H' t = some (.tup [.ref lf, .non]) ∧ H lf = none ∧ H' lf = some (.lst (F.map V.int)) ∧ F.length = n ∧ Sat bs (fun v => F.getD v 0) ∧ (∀ v, F.getD v 0 ≤ 0) ∧ (∀ R : Int, 0 ≤ R → (∀ b ∈ bs, -R ≤ b.2.2) → ∀ v, v < n → -((n : Int) * R) ≤ F.getD v 0)) ∨
  ∃ (lr : Addr) (js : List Nat), H' t = some (.tup [.non, .ref lr]) ∧ H lr = none ∧ H' lr = some (.lst (ringVs bv js)) ∧ js.length ≤ n ∧ RingB bs js ∧ (js.map fun j => (bAt bs j).1).Nodup
def spSettle (K : PySem.W.Frag) : Sp := fun vs H Q _ => ∃ (n : Nat) (lb : Addr) (bv : List V) (bs : List Bnd), vs = [.int (n : Nat), .ref lb] ∧ 1 ≤ n ∧ n ≤ 1000 ∧ H lb = some (.lst bv) ∧ All2 (BndV K H) bv bs ∧ (∀ b ∈ bs, b.1 < n ∧ b.2.1 < n) ∧
  ∀ (t : Addr) (H' : Hp), Same H H' → H t = none → SvTold K H bv bs n t H' → Q (.ref t) H'
section
variable {P : Program} {w : World} {K : PySem.W.Frag} {mg : Str → Option Value} {base : Heap}
abbrev nRingFrom : List Str := ["place", "onward", "seen", "path", "passed"]
theorem scRingFrom : FnScope nRingFrom ["place", "onward"] (defScope sRingFrom) := ⟨rfl, rfl, rfl, by decide +kernel, rfl, by decide +kernel, by decide +kernel⟩
abbrev DRingF (P : Program) (w : World) (K : PySem.W.Frag) (mg : Str → Option Value) (base : Heap) := Df P w K mg base 1 "ring_from" ["place", "onward"] (spRingF K)
theorem ok_ringF {f : Addr} {fd : FuncData} (F : Fun K "ring_from" "ring_from" sRingFrom f fd) (hm : mg "ring_from" = some (.ref f)) (B : Bt mg) : DRingF P w K mg base f fd := by
  refine ⟨?_, hm, F.kp, F.binds fun _ _ _ _ _ _ us hl => match us, hl with | [_, _], _ => rfl⟩
  refine F.ok scRingFrom (fun vs H Q E h => ?_) (fun cdv A outer s H vs Q E hr h => ?_)
  · obtain ⟨e0, n, d, kvs, bv, bs, O, rfl, _⟩ := h
    rfl
  · obtain ⟨e0, n, d, kvs, bv, bs, O, rfl, od, hn, he0, hbn, hmore, q⟩ := h
    have nd := scRingFrom.nd
    refine ⟨_, pss_cons (ps_set (i := 2) nd rfl (.inl rfl) pe_dnewK) <|
        pss_cons (ps_set (i := 3) nd rfl (.inl rfl) (pe_lst pa_nil)) <|
        pss_cons (ps_while PassesOwn.never (pt_cmp (pc_dnotin (hu_of hr) (pv 0) (pv 2))) (pss_cons (ps_dput (hu_of hr) (pv 2) (pv 0) (pe_callB call_len_seq (by rfl) B.len PySem.boot_len (pa_cons (pv 3) pa_nil)) rfl) <|
        pss_cons (ps_asg (pe_dget (hu_of hr) (pv 1) (pv 0) (fun _ _ => rfl)) (pg_tup rfl (pgs_cons (pg_name (i := 4) nd rfl (.inl rfl)) (pgs_cons (pg_name (i := 0) nd rfl (.inl rfl)) pgs_nil)))) <|
        pss_one (ps_expr (pe_bm PySem.F.plainAttrs_list PySem.F.slot_list_append PySem.F.type_list_append mt_append (pv 3) (pa_cons (pv 4) pa_nil))))) <|
        pss_one (ps_ret (pe_slice sl_list (pv 3) (po_some (pe_dget (hu_of hr) (pv 2) (pv 0) (fun _ _ => rfl))) po_none)), ?_⟩
    intro ls hls
    have s1 : Same H (upd H ls (.dK [])) := same_new hls
    refine ⟨(by show 0 ≤ sizeLine; decide), fun lp hlp => ?_⟩
    have hlp0 : H lp = none := s1.free hlp
    have nsp : ls ≠ lp := ne_of_none (upd_same (H := H) (a := ls) (o := .dK [])) hlp
    refine ⟨fun m σ H6 => ∃ (es js : List Nat) (cur : Nat) (s4 : Option V), σ = [some (.int (cur : Nat)), some (.ref d), some (.ref ls), some (.ref lp), s4] ∧ es.Nodup ∧ (∀ e ∈ es, e < n) ∧ cur < n ∧ es.length = js.length ∧ PtO bs O e0 js cur ∧ (∀ i v, es[i]? = some v → PtO bs O v (js.drop i) cur) ∧ SvSeen H6 ls es ∧ H6 lp = some (.lst (ringVs bv js)) ∧ Same H H6 ∧ m = n - es.length, ?_, ?_⟩
    · refine ⟨_, [], [], e0, none, rfl, List.nodup_nil, (fun e h => nomatch h), he0, rfl, rfl, (fun i v h => by simp at h), ⟨[], ?_, Nat.le_refl _, fun g => by rw [if_neg (by simp)]; exact valV_nil⟩, upd_same, s1.trans (same_new hlp), rfl⟩
      rw [upd_ne nsp]
      exact upd_same
    · rintro m σ H6 ⟨es, js, cur, s4, rfl, hnd, hes, hcur, hlen, hpt, hdr, sd, hp6, sm, rfl⟩
      refine ⟨_, rfl, _, rfl, ls, _, rfl, sd.get cur, ?_⟩
      by_cases hc : cur ∈ es
      · rw [if_pos hc]
        refine ⟨_, rfl, iteF ?_⟩
        have hg := sd.get cur
        rw [if_pos hc] at hg
        refine ⟨_, rfl, _, rfl, _, rfl, ls, _, rfl, hg, _, rfl, lp, _, rfl, SqL.of hp6, fun p hp => ?_⟩
        have h5 : es.idxOf cur < es.length := List.idxOf_lt_length_iff.mpr hc
        have hj : es[es.idxOf cur]? = some cur := by
          rw [List.getElem?_eq_getElem h5, List.getElem_idxOf h5]
        refine q (js.drop (es.idxOf cur)) p _ (fun z => ?_) (by have := svNodup_le hnd hes; rw [List.length_drop]; omega) ⟨cur, hdr _ _ hj⟩ (by rw [List.map_drop, ring_starts hlen hdr]; exact hnd.sublist (List.drop_sublist _ _)) (sm.trans (same_new hp)) (sm.free hp) ?_
        · have := congrArg List.length z
          rw [List.length_drop] at this
          simp at this
          omega
        · rw [upd_same, cut_from]
          unfold ringVs
          rw [List.map_drop]
      · rw [if_neg hc]
        refine ⟨_, rfl, iteT ?_⟩
        have hlt : es.length < n := by
          have h2 := svNodup_le (n := n) (l := es ++ [cur]) (by
            rw [List.nodup_append]
            refine ⟨hnd, by simp, fun a ha c hc2 => ?_⟩
            rw [List.mem_singleton.mp hc2]
            intro z
            exact hc (by rw [← z]; exact ha)) (fun a ha => by
            rcases List.mem_append.mp ha with ha | ha
            · exact hes a ha
            · rw [List.mem_singleton.mp ha]
              exact hcur)
          rw [List.length_append, List.length_singleton] at h2
          omega
        have hpl : (ringVs bv js).length = es.length := by
          unfold ringVs
          rw [List.length_map, hlen]
        obtain ⟨o, dp, sd2⟩ := sd.put (small1000 (by omega)) hc
        refine ⟨fun σ H7 => ∃ (es' js' : List Nat) (cur' : Nat) (s4 : Option V), σ = [some (.int (cur' : Nat)), some (.ref d), some (.ref ls), some (.ref lp), s4] ∧ es'.Nodup ∧ (∀ e ∈ es', e < n) ∧ cur' < n ∧ es'.length = js'.length ∧ PtO bs O e0 js' cur' ∧ (∀ i v, es'[i]? = some v → PtO bs O v (js'.drop i) cur') ∧ SvSeen H7 ls es' ∧ H7 lp = some (.lst (ringVs bv js')) ∧ Same H H7 ∧ es'.length = es.length + 1, ?_, ?_⟩
        · rintro σ' H' ⟨es', js', cur', t4, rfl, h1, h2, h3, h4, h5, h6, h7, h8, h9, h10⟩
          exact ⟨n - (es.length + 1), by omega, es', js', cur', t4, rfl, h1, h2, h3, h4, h5, h6, h7, h8, h9, by rw [h10]⟩
        refine ⟨_, rfl, lp, _, rfl, .inl (SqL.of hp6), _, rfl, _, rfl, ls, _, rfl, (by rw [hpl]; exact dp), ?_⟩
        have sm7 : Same H (upd H6 ls o) := same_mut sm hls
        have od7 := od.same sm7
        cases ho : O cur with
        | none => exact absurd ho (hmore js cur hpt (by omega))
        | some j =>
        obtain ⟨t, z, b, hv, sq, hz, hb, hb1⟩ := od7.on cur j ho
        have hg : DGet (upd H6 ls o) d (.int (cur : Nat)) (some (.ref t)) := by
          have := DGet.k (k := Sum.inl ((cur : Nat) : Int)) od7.at_
          rw [hv] at this
          exact this
        have hp7 : (upd H6 ls o) lp = some (.lst (ringVs bv js)) := by
          rw [upd_ne nsp.symm]
          exact hp6
        generalize upd H6 ls o = H7 at sm7 od7 hg sq hp7 sd2
        refine ⟨_, rfl, _, rfl, d, _, rfl, hg, t, _, rfl, sq, rfl, _, _, rfl, _, _, rfl, rfl, ?_⟩
        have sd3 : SvSeen (upd H7 lp (.lst (ringVs bv js ++ [z]))) ls (es ++ [cur]) := by
          obtain ⟨kv, h1, h2⟩ := sd2
          exact ⟨kv, by rw [upd_ne nsp]; exact h1, h2⟩
        refine ⟨_, rfl, .inl ⟨rfl, _, SqL.of hp7⟩, _, rfl, lp, _, _, rfl, rfl, hp7, small1000 (by omega), ?_⟩
        refine ⟨es ++ [cur], js ++ [j], b.2.1, _, rfl, ?_, fun e he => ?_, hbn b (List.mem_of_getElem? hb), by rw [List.length_append, List.length_append, hlen]; rfl, hpt.snoc ho hb hb1, fun i v hi => ?_, sd3, ?_, same_mut sm7 hlp0, by rw [List.length_append]; rfl⟩
        · rw [List.nodup_append]
          refine ⟨hnd, by simp, fun a ha c hc2 => ?_⟩
          rw [List.mem_singleton.mp hc2]
          intro z
          exact hc (by rw [← z]; exact ha)
        · rcases List.mem_append.mp he with he | he
          · exact hes e he
          · rw [List.mem_singleton.mp he]
            exact hcur
        · by_cases hil : i < es.length
          · rw [List.getElem?_append_left hil] at hi
            rw [List.drop_append_of_le_length (by omega)]
            exact (hdr i v hi).snoc ho hb hb1
          · have hie : i = es.length := by
              have := (List.getElem?_eq_some_iff.mp hi).1
              rw [List.length_append, List.length_singleton] at this
              omega
            subst hie
            rw [List.getElem?_append_right (Nat.le_refl _), Nat.sub_self] at hi
            cases hi
            rw [hlen, List.drop_left]
            exact ⟨ho, b, hb, hb1, rfl⟩
        · rw [upd_same]
          unfold ringVs
          rw [List.map_append]
          show _ = some (HO.lst (_ ++ [bv.getD j V.non]))
          rw [List.getD_eq_getElem?_getD, hz]
          rfl
abbrev nSettle : List Str := ["many", "bounds", "found", "onward", "changed", "turn", "bound", "start", "end", "room", "thing"]
theorem scSettle : FnScope nSettle ["many", "bounds"] (defScope sSettle) := ⟨rfl, rfl, rfl, by decide +kernel, rfl, by decide +kernel, by decide +kernel⟩
abbrev DSettle (P : Program) (w : World) (K : PySem.W.Frag) (mg : Str → Option Value) (base : Heap) := Df P w K mg base 2 "settle" ["many", "bounds"] (spSettle K)
theorem ok_settle {f fR : Addr} {fd fdR : FuncData} (F : Fun K "settle" "settle" sSettle f fd) (hm : mg "settle" = some (.ref f)) (B : Bt mg) (DRf : DRingF P w K mg base fR fdR) : DSettle P w K mg base f fd := by
  refine ⟨?_, hm, F.kp, F.binds fun _ _ _ _ _ _ us hl => match us, hl with | [_, _], _ => rfl⟩
  refine F.ok scSettle (fun vs H Q E h => ?_) (fun cdv A outer s H vs Q E hr h => ?_)
  · obtain ⟨n, lb, bv, bs, rfl, _⟩ := h
    rfl
  · obtain ⟨n, lb, bv, bs, rfl, hn1, hn, eb0, ab0, hbn, q⟩ := h
    have nd := scSettle.nd
    refine ⟨_, pss_cons (ps_set (i := 2) nd rfl (.inl rfl) (pe_op op_rep (pe_lst (pa_cons pe_int pa_nil)) (pv 0))) <|
        pss_cons (ps_set (i := 3) nd rfl (.inl rfl) pe_dnewK) <|
        pss_cons (ps_set (i := 4) nd rfl (.inl rfl) pe_non) <|
        pss_cons (ps_for PassesOwn.never rfl (pi_range1 (by rfl) B.range (pa_cons (pv 0) pa_nil)) (pg_name (i := 5) nd rfl (.inl rfl)) (pss_cons (ps_set (i := 4) nd rfl (.inl rfl) pe_non) <|
        pss_cons (ps_for PassesOwn.never rfl (pi_list (pv 1)) (pg_name (i := 6) nd rfl (.inl rfl)) (pss_cons (ps_asg (pv 6) (pg_tup rfl (pgs_cons (pg_name (i := 7) nd rfl (.inl rfl)) (pgs_cons (pg_name (i := 8) nd rfl (.inl rfl)) (pgs_cons (pg_name (i := 9) nd rfl (.inl rfl)) (pgs_cons (pg_name (i := 10) nd rfl (.inl rfl)) pgs_nil)))))) <|
        pss_one (ps_if (pt_cmpR op_gt (pe_ix ix_list (pv 2) (pv 7) (fun _ _ => rfl)) (pe_op op_add (pe_ix ix_list (pv 2) (pv 8) (fun _ _ => rfl)) (pv 9)) (nomark _)) (pss_cons (ps_asg (pe_op op_add (pe_ix ix_list (pv 2) (pv 8) (fun _ _ => rfl)) (pv 9)) (pg_sub (pv 2) (pv 7) set_list)) <|
        pss_cons (ps_dput (hu_of hr) (pv 3) (pv 7) (pe_tup (pa_cons (pv 6) (pa_cons (pv 8) pa_nil))) rfl) <|
        pss_one (ps_set (i := 4) nd rfl (.inl rfl) (pv 7))) pss_nil))) <|
        pss_one (ps_if (pt_cmpR op_isN (pv 4) pe_non (nomark _)) (pss_one (ps_ret (pe_tup (pa_cons (pv 2) (pa_cons pe_non pa_nil))))) pss_nil))) <|
        pss_one (ps_ret (pe_tup (pa_cons pe_non (pa_cons (pe_call DRf.ok (hr.mono (by decide)) (by rfl) DRf.mg DRf.kp DRf.bd .nil pass0 (pa_cons (pv 4) (pa_cons (pv 3) pa_nil))) pa_nil)))), ?_⟩
    refine ⟨(by show 1 ≤ sizeLine; decide), fun l0 hl0 => ?_⟩
    have t0 := same_new (o := .lst [.int 0]) hl0
    have e0 : (upd H l0 (.lst [.int 0])) l0 = some (.lst [.int 0]) := upd_same
    generalize upd H l0 (.lst [.int 0]) = H0 at t0 e0
    refine ⟨_, rfl, l0, _, _, rfl, rfl, e0, by omega, by omega, ?_, fun lf hlf => ?_⟩
    · show 1 * _ ≤ sizeLine
      exact Nat.le_of_lt (small1000 (by omega))
    have eL : (List.replicate ((n : Nat) : Int).toNat [V.int 0]).flatten = (List.replicate n (0 : Int)).map V.int := by
      rw [Int.toNat_natCast]
      have : ∀ n : Nat, (List.replicate n [V.int 0]).flatten = (List.replicate n (0 : Int)).map V.int := fun n => by
        induction n with
        | zero => rfl
        | succ n ih =>
          rw [List.replicate_succ, List.flatten_cons, ih, List.replicate_succ]
          rfl
      exact this _
    rw [eL]
    have t1 := same_new (o := .lst ((List.replicate n (0 : Int)).map V.int)) hlf
    have e1 : (upd H0 lf (.lst ((List.replicate n (0 : Int)).map V.int))) lf = some (.lst ((List.replicate n (0 : Int)).map V.int)) := upd_same
    have hlf0 : H lf = none := t0.free hlf
    generalize upd H0 lf (.lst ((List.replicate n (0 : Int)).map V.int)) = H1 at t1 e1
    have s1 := t0.trans t1
    intro ld hld
    have t2 := same_new (o := .dK []) hld
    have e2 : (upd H1 ld (.dK [])) ld = some (.dK []) := upd_same
    have hld0 : H ld = none := s1.free hld
    generalize upd H1 ld (.dK []) = H2 at t2 e2
    have s2 := s1.trans t2
    have nfd : lf ≠ ld := ne_of_none e1 hld
    have nlb : lb ≠ lf := ne_of_none eb0 hlf0
    refine gn_norm (σ' := [some (.int (n : Nat)), some (.ref lb), some (.ref lf), some (.ref ld), none, none, none, none, none, none, none]) rfl ?_
    refine ⟨_, rfl, _, rfl, by omega, by omega, for_range (lo := 0) (n := ((n : Nat) : Int).toNat) (fun i σ H' => ∃ (ch : V) (u5 u6 u7 u8 u9 u10 : Option V) (F : List Int) (kvs : List (Key × V)) (O : Nat → Option Nat) (T : Nat → Nat), σ = [some (.int (n : Nat)), some (.ref lb), some (.ref lf), some (.ref ld), some ch, u5, u6, u7, u8, u9, u10] ∧ Same H H' ∧ H' lf = some (.lst (F.map V.int)) ∧ F.length = n ∧ OnD K H' ld kvs bv bs O n ∧ SI bs n (fun v => F.getD v 0) O T (i + 1) 0 ∧ (0 < i → ∃ s : Nat, ch = .int (s : Nat) ∧ s < n ∧ i ≤ T s))
      ⟨_, _, _, _, _, _, _, List.replicate n 0, [], fun _ => none, fun _ => 0, rfl, s2, t2 _ _ e1, List.length_replicate .., ⟨e2, ⟨[], rfl, List.nodup_nil, fun g h => (nomatch h)⟩, fun v j h => (nomatch h)⟩, (SI.start bs n).congr fun v => ?_, fun h => absurd h (Nat.lt_irrefl 0)⟩ ?_ ?_⟩
    · rw [List.getD_eq_getElem?_getD, List.getElem?_replicate]
      split <;> rfl
    · rintro i σ H3 hi ⟨ch, u5, u6, u7, u8, u9, u10, F, kvs, O, T, rfl, sm, ef, hfl, od, si, _⟩
      refine ⟨_, rfl, lb, rfl, ⟨_, SqL.of (sm _ _ eb0)⟩, for_list (K := K) (a := lb) (xs := bv) (fun j σ H' => ∃ (ch : Option Nat) (u5 u6 u7 u8 u9 u10 : Option V) (F : List Int) (kvs : List (Key × V)) (O : Nat → Option Nat) (T : Nat → Nat), σ = [some (.int (n : Nat)), some (.ref lb), some (.ref lf), some (.ref ld), some (lasV ch), u5, u6, u7, u8, u9, u10] ∧ Same H H' ∧ H' lf = some (.lst (F.map V.int)) ∧ F.length = n ∧ OnD K H' ld kvs bv bs O n ∧ SI bs n (fun v => F.getD v 0) O T (i + 1) j ∧
          (ch = none → ∀ k b, k < j → bs[k]? = some b → F.getD b.1 0 ≤ F.getD b.2.1 0 + b.2.2) ∧ (∀ s, ch = some s → s < n ∧ i + 1 ≤ T s))
        ⟨none, _, _, _, _, _, _, F, kvs, O, T, rfl, sm, ef, hfl, od, si, (fun _ k b hk => absurd hk (Nat.not_lt_zero _)), fun s h => (nomatch h)⟩ (fun j σ H' _ ⟨_, _, _, _, _, _, _, _, _, _, _, _, sm', _⟩ => SqL.of (sm' _ _ eb0)) ?_ ?_⟩
      · rintro j v σ H4 hv ⟨ch, u5, u6, u7, u8, u9, u10, F, kvs, O, T, rfl, sm, ef, hfl, od, si, hn0, hs0⟩
        obtain ⟨b, hb, a, th, rfl, sq0⟩ := ab0.get hv
        have sq := (TK.same sm).seq sq0
        obtain ⟨hb1, hb2⟩ := hbn b (List.mem_of_getElem? hb)
        refine ⟨_, rfl, a, _, rfl, sq, rfl, _, _, rfl, _, _, rfl, _, _, rfl, _, _, rfl, rfl, ?_⟩
        refine ⟨_, rfl, _, rfl, lf, _, b.1, _, rfl, rfl, SqL.of ef, atI_nat (sgetD_at (by omega)), _, rfl, _, rfl, lf, _, b.2.1, _, rfl, rfl, SqL.of ef, atI_nat (sgetD_at (by omega)), _, rfl, _, _, rfl, rfl, _, _, rfl, rfl, _, rfl, ite2 (fun e => ?_) (fun e => ?_)⟩
        · have hlt : F.getD b.2.1 0 + b.2.2 < F.getD b.1 0 := of_decide_eq_true e
          refine ⟨_, rfl, _, rfl, lf, _, b.2.1, _, rfl, rfl, SqL.of ef, atI_nat (sgetD_at (by omega)), _, rfl, _, _, rfl, rfl, _, rfl, _, rfl, lf, _, _, b.1, rfl, rfl, ef, Evl.ixN_nat (by rw [List.length_map]; omega), ?_⟩
          have F'at : ∀ v, (F.set b.1 (F.getD b.2.1 0 + b.2.2)).getD v 0 = if v = b.1 then F.getD b.2.1 0 + b.2.2 else F.getD v 0 := fun v => by
            rw [List.getD_eq_getElem?_getD, List.getElem?_set]
            by_cases z : b.1 = v
            · rw [if_pos z, if_pos (by omega), if_pos z.symm]
              rfl
            · rw [if_neg z, if_neg fun y => z y.symm, List.getD_eq_getElem?_getD]
          have s5 : Same H (upd H4 lf (.lst ((F.map V.int).set b.1 (.int (F.getD b.2.1 0 + b.2.2))))) := same_mut sm hlf0
          have ef5 : (upd H4 lf (.lst ((F.map V.int).set b.1 (.int (F.getD b.2.1 0 + b.2.2))))) lf = some (.lst ((F.set b.1 (F.getD b.2.1 0 + b.2.2)).map V.int)) := by
            rw [upd_same, List.map_set]
          have od5 : OnD K (upd H4 lf (.lst ((F.map V.int).set b.1 (.int (F.getD b.2.1 0 + b.2.2))))) ld kvs bv bs O n := od.tk (TK.lst ef) (by rw [upd_ne nfd.symm]; exact od.at_)
          generalize upd H4 lf (.lst ((F.map V.int).set b.1 (.int (F.getD b.2.1 0 + b.2.2)))) = H5 at s5 ef5 od5
          refine ⟨_, rfl, _, rfl, (by show 2 ≤ sizeLine; decide), fun t ht => ?_⟩
          have t6 := same_new (o := .tup [.ref a, .int ((b.2.1 : Nat) : Int)]) ht
          have e6 : (upd H5 t (.tup [.ref a, .int ((b.2.1 : Nat) : Int)])) t = some (.tup [.ref a, .int ((b.2.1 : Nat) : Int)]) := upd_same
          have od6 := od5.same t6
          have ef6 := t6 _ _ ef5
          have s6 := s5.trans t6
          generalize upd H5 t (.tup [.ref a, .int ((b.2.1 : Nat) : Int)]) = H6 at t6 e6 od6 ef6 s6
          have hkl := od6.len
          refine ⟨_, rfl, _, rfl, ld, _, rfl, DPut.k (k := Sum.inl ((b.1 : Nat) : Int)) od6.at_ (small1000 (by omega)), ?_⟩
          have od7 := od6.put e6 hv hb hb1
          refine ⟨_, rfl, ?_⟩
          have si2 := (si.set (by omega) hb hb1 hlt).congr F'at
          refine ⟨some b.1, _, _, _, _, _, _, F.set b.1 (F.getD b.2.1 0 + b.2.2), _, _, _, rfl, same_mut s6 hld0, (upd_ne nfd).trans ef6, by rw [List.length_set]; exact hfl, od7, si2, (fun z => nomatch z), fun s hs => ?_⟩
          cases hs
          refine ⟨hb1, ?_⟩
          rw [if_pos rfl]
          exact Nat.le_refl _
        · have hle : F.getD b.1 0 ≤ F.getD b.2.1 0 + b.2.2 := by
            have : ¬ (F.getD b.2.1 0 + b.2.2 < F.getD b.1 0) := fun z => e (decide_eq_true z)
            omega
          refine ⟨ch, _, _, _, _, _, _, F, kvs, O, T, rfl, sm, ef, hfl, od, si.skip hb hle, fun hc k b' hk hb' => ?_, hs0⟩
          by_cases z : k = j
          · subst z
            rw [hb] at hb'
            cases hb'
            exact hle
          · exact hn0 hc k b' (by omega) hb'
      · rintro σ H4 ⟨ch, u5, u6, u7, u8, u9, u10, F, kvs, O, T, rfl, sm, ef, hfl, od, si, hn0, hs0⟩
        have hbl : bv.length = bs.length := ab0.1
        rw [hbl] at si hn0
        cases ch with
        | none =>
          refine ⟨_, rfl, rfl, _, rfl, iteT ?_⟩
          refine ⟨_, rfl, (by show 2 ≤ sizeLine; decide), fun t ht => ?_⟩
          have t5 := same_new (o := .tup [.ref lf, .non]) ht
          have sat : Sat bs (fun v => F.getD v 0) := fun b hb => by
            obtain ⟨k, hk⟩ := List.getElem?_of_mem hb
            exact hn0 rfl k b (List.getElem?_eq_some_iff.mp hk).1 hk
          exact q t _ (sm.trans t5) (sm.free ht) (.inl ⟨lf, F, upd_same, hlf0, t5 _ _ ef, hfl, sat, si.le0, fun R hR hr v hv => si.lowR sat hbn hR hr hv⟩)
        | some s =>
          refine ⟨_, rfl, rfl, _, rfl, iteF ?_⟩
          obtain ⟨hs1, hs2⟩ := hs0 s rfl
          exact ⟨_, _, _, _, _, _, _, F, kvs, O, T, rfl, sm, ef, hfl, od, si.next, fun _ => ⟨s, rfl, hs1, hs2⟩⟩
    · rintro σ H3 ⟨ch, u5, u6, u7, u8, u9, u10, F, kvs, O, T, rfl, sm, ef, hfl, od, si, hch⟩
      rw [Int.toNat_natCast] at hch
      obtain ⟨s, rfl, hs, hT⟩ := hch (by omega)
      refine ⟨_, rfl, _, rfl, s, n, ld, kvs, bv, bs, O, rfl, od, hn, hs, fun b hb => (hbn b hb).2, fun js v hp hl ho => ?_, fun js l H4 hjs hjl ⟨v, hp⟩ hnd4 s4 hl el => ?_⟩
      · have h1 := si.more hp
        have h2 := (si.non v ho).1
        omega
      · refine ⟨(by show 2 ≤ sizeLine; decide), fun t ht => ?_⟩
        have t5 := same_new (o := .tup [.non, .ref l]) ht
        exact q t _ ((sm.trans s4).trans t5) ((sm.trans s4).free ht) (.inr ⟨l, js, upd_same, sm.free hl, t5 _ _ el, hjl, ⟨hjs, v, hp.ptB, si.cyc v js hjs hp⟩, hnd4⟩)
end
end Lag

set_option maxRecDepth 100000
set_option maxHeartbeats 8000000
namespace Lag
open PySem PySem.Spec PyProof.Rows L2
abbrev sChkBeat : Stmt := topS 14 -- @check_beat
abbrev sForBeat : Stmt := topS 56 -- @for_beat
def spChkB : Sp := fun vs H Q _ => ∃ b : Int, vs = [.int b] ∧ 0 ≤ b ∧ Q .non H
def lagsL (gs : List Gt) (L : Nat → Int) : List Int := (List.range gs.length).map L
theorem lagsL_at {gs : List Gt} {L : Nat → Int} {g : Nat} (h : g < gs.length) : (lagsL gs L).getD g 0 = L g := by
  unfold lagsL
  rw [List.getD_eq_getElem?_getD, List.getElem?_map, List.getElem?_range h]
  rfl
theorem lagsL_len (gs : List Gt) (L : Nat → Int) : (lagsL gs L).length = gs.length := by
  unfold lagsL
  rw [List.length_map, List.length_range]
/-- a list of pieces -/
def BarV (K : PySem.W.Frag) (H : Hp) (l : Addr) (pcs : List Pce) : Prop := ∃ pv, H l = some (.lst pv) ∧ All2 (PceV K H) pv pcs
/-- what for_beat tells -/
def FbR (K : PySem.W.Frag) (gs : List Gt) (ws : List Wr) (b : Int) (H H' : Hp) (t : Addr) : Prop :=
  (∃ (l : Addr) (L : Nat → Int), H' t = some (.tup [.str "lags", .ref l]) ∧ H l = none ∧ H' l = some (.lst ((lagsL gs L).map V.int)) ∧ Feas gs ws b L ∧ (∀ g, g < gs.length → -101 ≤ L g ∧ L g ≤ 101)) ∨
  ∃ (l : Addr) (pcs : List Pce), H' t = some (.tup [.str "bar", .ref l]) ∧ H l = none ∧ BarV K H' l pcs ∧ IsBar gs ws b pcs ∧ (∀ pc ∈ pcs, PceOk gs ws pc ∧ pc.2.length ≤ 1000) ∧ pcs.length ≤ 200
theorem FbR.lags {K : PySem.W.Frag} {gs : List Gt} {ws : List Wr} {b : Int} {H H' : Hp} {t : Addr} (N : NetOk gs ws) (h : FbR K gs ws b H H' t) : ∃ (w : Str) (l : Addr), H' t = some (.tup [.str w, .ref l]) ∧ (w = "lags" ∨ w = "bar") ∧ (w = "lags" ↔ FeasE gs ws b) := by
  rcases h with ⟨l, L, h1, h2, h3, h4, h5⟩ | ⟨l, pcs, h1, h2, h3, h4, h5⟩
  · exact ⟨_, l, h1, .inl rfl, fun _ => ⟨L, h4⟩, fun _ => rfl⟩
  · exact ⟨_, l, h1, .inr rfl, fun z => (by cases z), fun ⟨L, hL⟩ => absurd hL (h4.none N)⟩
def spForBeat (K : PySem.W.Frag) (C : Addr) : Sp := fun vs H Q _ => ∃ (p ng nw : Addr) (gs : List Gt) (ws : List Wr) (b : Int), vs = [.ref p, .int b] ∧ NetAt K C H p ng nw gs ws ∧ NetOk gs ws ∧ 0 ≤ b ∧
  ∀ (t : Addr) (H' : Hp), Same H H' → H t = none → FbR K gs ws b H H' t → Q (.ref t) H'
section
variable {P : Program} {w : World} {K : PySem.W.Frag} {mg : Str → Option Value} {base : Heap}
abbrev nChkBeat : List Str := ["thing"]
theorem scChkBeat : FnScope nChkBeat ["thing"] (defScope sChkBeat) := ⟨rfl, rfl, rfl, by decide +kernel, rfl, by decide +kernel, by decide +kernel⟩
abbrev DChkB (P : Program) (w : World) (K : PySem.W.Frag) (mg : Str → Option Value) (base : Heap) := Df P w K mg base 2 "check_beat" ["thing"] spChkB
theorem ok_chkB {f fW : Addr} {fd fdW : FuncData} (F : Fun K "check_beat" "check_beat" sChkBeat f fd) (hm : mg "check_beat" = some (.ref f)) (DW : DWhole P w K mg base fW fdW) : DChkB P w K mg base f fd := by
  refine ⟨?_, hm, F.kp, F.binds fun _ _ _ _ _ _ us hl => match us, hl with | [_], _ => rfl⟩
  refine F.ok scChkBeat (fun vs H Q E h => ?_) (fun cdv A outer s H vs Q E hr h => ?_)
  · obtain ⟨b, rfl, _⟩ := h
    rfl
  · obtain ⟨b, rfl, hb, q⟩ := h
    refine ⟨_, pss_one (ps_if (PW.pt (pw_or (pt_not (pt_val (pe_call DW.ok (hr.mono (by decide)) (by rfl) DW.mg DW.kp DW.bd .nil pass0 (pa_cons (pv 0) pa_nil)))) (pw_or1 (pt_cmpR op_lt (pv 0) pe_int (nomark _))))) (pss_one (ps_never)) pss_nil), ?_⟩
    refine ⟨_, rfl, b, rfl, true, rfl, iteF ⟨_, rfl, _, _, rfl, rfl, _, rfl, ite2 (fun e => absurd (of_decide_eq_true e) (by omega)) (fun _ => q)⟩⟩
abbrev nForBeat : List Str := ["net", "beat", "found", "ring", "start", "end", "room", "piece"]
theorem scForBeat : FnScope nForBeat ["net", "beat"] (defScope sForBeat) := ⟨rfl, rfl, rfl, by decide +kernel, rfl, by decide +kernel, by decide +kernel⟩
abbrev DForBeat (P : Program) (w : World) (K : PySem.W.Frag) (mg : Str → Option Value) (base : Heap) (C : Addr) := Df P w K mg base 4 "for_beat" ["net", "beat"] (spForBeat K C)
theorem ok_forBeat {f fB fS fI fD fL C : Addr} {fd fdB fdS fdI fdD fdL : FuncData} (F : Fun K "for_beat" "for_beat" sForBeat f fd) (hm : mg "for_beat" = some (.ref f)) (B : Bt mg) (T : NT K mg C) (DCb : DChkB P w K mg base fB fdB) (DSe : DSettle P w K mg base fS fdS) (DSi : DSpotsIn P w K mg base C fI fdI) (DBd : DBoundsFor P w K mg base C fD fdD) (DLa : DLagsAt P w K mg base C fL fdL) : DForBeat P w K mg base C f fd := by
  refine ⟨?_, hm, F.kp, F.binds fun _ _ _ _ _ _ us hl => match us, hl with | [_, _], _ => rfl⟩
  refine F.ok scForBeat (fun vs H Q E h => ?_) (fun cdv A outer s H vs Q E hr h => ?_)
  · obtain ⟨p, ng, nw, gs, ws, b, rfl, _⟩ := h
    rfl
  · obtain ⟨p, ng, nw, gs, ws, b, rfl, NA, N, hb0, q⟩ := h
    have nd := scForBeat.nd
    refine ⟨_, pss_cons (ps_expr (pe_call DCb.ok (hr.mono (by decide)) (by rfl) DCb.mg DCb.kp DCb.bd .nil pass0 (pa_cons (pv 1) pa_nil))) <|
        pss_cons (ps_asg (pe_call DSe.ok (hr.mono (by decide)) (by rfl) DSe.mg DSe.kp DSe.bd .nil pass0 (pa_cons (pe_call DSi.ok (hr.mono (by decide)) (by rfl) DSi.mg DSi.kp DSi.bd .nil pass0 (pa_cons (pv 0) pa_nil)) (pa_cons (pe_call DBd.ok (hr.mono (by decide)) (by rfl) DBd.mg DBd.kp DBd.bd .nil pass0 (pa_cons (pv 0) (pa_cons (pv 1) pa_nil))) pa_nil))) (pg_tup rfl (pgs_cons (pg_name (i := 2) nd rfl (.inl rfl)) (pgs_cons (pg_name (i := 3) nd rfl (.inl rfl)) pgs_nil)))) <|
        pss_cons (ps_if (pt_cmpR op_isN (pv 2) pe_non (nomark _)) (pss_one (ps_ret (pe_tup (pa_cons pe_str (pa_cons (pe_lc (own := [("start", 4), ("end", 5), ("room", 6), ("piece", 7)]) (g := (gTup K 4 (gCons (gName 4) (gCons (gName 5) (gCons (gName 6) (gCons (gName 7) gNil)))))) (tt := tYes) (te := (tVar 7)) rfl nd (pi_list (pv 3)) (blkOk_by (N := nForBeat) (sc := defScope sForBeat) (own := [("start", 4), ("end", 5), ("room", 6), ("piece", 7)]) (by decide +kernel)) (fun _ _ _ _ _ => (pg_tup rfl (pgs_cons (pg_name (i := 4) nd rfl (.inl rfl)) (pgs_cons (pg_name (i := 5) nd rfl (.inl rfl)) (pgs_cons (pg_name (i := 6) nd rfl (.inl rfl)) (pgs_cons (pg_name (i := 7) nd rfl (.inl rfl)) pgs_nil)))))) (fun _ _ _ _ _ => pts_nil) (fun _ _ _ _ _ => (pv 7))) pa_nil))))) pss_nil) <|
        pss_one (ps_ret (pe_tup (pa_cons pe_str (pa_cons (pe_call DLa.ok (hr.mono (by decide)) (by rfl) DLa.mg DLa.kp DLa.bd .nil pass0 (pa_cons (pv 0) (pa_cons (pv 2) pa_nil))) pa_nil)))), ?_⟩
    have hgl := N.gl
    refine ⟨_, rfl, b, rfl, hb0, ?_⟩
    refine ⟨_, rfl, p, ng, nw, gs, ws, rfl, NA, ?_⟩
    refine ⟨_, rfl, _, rfl, p, ng, nw, gs, ws, b, rfl, NA, N, fun lb bv bps H1 s1 hlb elb ab bok hbl hpce => ?_⟩
    have abn : All2 (BndV K H1) bv (bps.map fun bp => bp.1) := by
      refine ⟨by rw [List.length_map]; exact ab.1, fun i v bd hv hbd => ?_⟩
      rw [List.getElem?_map] at hbd
      cases e : bps[i]? with
      | none => rw [e] at hbd; cases hbd
      | some bp =>
        rw [e] at hbd
        cases hbd
        obtain ⟨a, pa, l, h1, h2, _⟩ := ab.2 i v bp hv e
        exact ⟨a, _, h1, h2⟩
    refine ⟨gs.length + 1, lb, bv, _, rfl, by omega, by omega, elb, abn, bok.below N, fun t H2 s2 ht sr => ?_⟩
    have s12 := s1.trans s2
    rcases sr with ⟨lf, F, et, hlf, ef, hfl, sat, hle, hlow⟩ | ⟨lr, js, et, hlr, er, hjln, ring, _⟩
    · refine ⟨t, _, rfl, .inl (.inl et), rfl, _, _, rfl, _, _, rfl, rfl, ?_⟩
      refine ⟨_, rfl, rfl, _, rfl, iteF ?_⟩
      refine ⟨_, rfl, _, rfl, p, ng, nw, lf, gs, ws, F, rfl, NA.same s12, N, SqL.of ef, by omega, fun l H3 s3 hl el => ?_⟩
      refine ⟨(by show 2 ≤ sizeLine; decide), fun tt htt => ?_⟩
      have t4 := same_new (o := .tup [.str "lags", .ref l]) htt
      have low : ∀ v, v < gs.length + 1 → -((gs.length + 1 : Nat) : Int) ≤ F.getD v 0 := fun v hv => by
        have := hlow 1 (by decide) bok.m1 v hv
        rw [Int.mul_one] at this
        exact this
      refine q tt _ ((s12.trans s3).trans t4) ((s12.trans s3).free htt) (.inl ⟨l, lagsAt gs fun v => F.getD v 0, upd_same, s12.free hl, t4 _ _ el, bok.lags N sat, fun g hg => ?_⟩)
      have h1 := low (spotF gs g) (spot_le g hg)
      have h2 := low gs.length (Nat.lt_succ_self _)
      have h3 := hle (spotF gs g)
      have h4 := hle gs.length
      unfold lagsAt
      refine ⟨?_, ?_⟩
      · show -101 ≤ F.getD (spotF gs g) 0 - F.getD gs.length 0
        have h1 : -((gs.length + 1 : Nat) : Int) ≤ F.getD (spotF gs g) 0 := h1
        omega
      · show F.getD (spotF gs g) 0 - F.getD gs.length 0 ≤ 101
        have h2 : -((gs.length + 1 : Nat) : Int) ≤ F.getD gs.length 0 := h2
        omega
    · refine ⟨t, _, rfl, .inl (.inl et), rfl, _, _, rfl, _, _, rfl, rfl, ?_⟩
      refine ⟨_, rfl, rfl, _, rfl, iteT ?_⟩
      have barok := bok.bar ring
      obtain ⟨hjs, v0, hpt, hneg⟩ := ring
      have hjl : ∀ j ∈ js, ∃ bp, bps[j]? = some bp := by
        have : ∀ {js : List Nat} {s e : Nat}, PtB (bps.map fun bp => bp.1) s js e → ∀ j ∈ js, ∃ bp, bps[j]? = some bp := by
          intro js
          induction js with
          | nil => intro s e _ j h; cases h
          | cons k r ih =>
            intro s e ⟨bd, q1, _, q2⟩ j h
            rcases List.mem_cons.mp h with h | h
            · rw [h]
              rw [List.getElem?_map] at q1
              cases e2 : bps[k]? with
              | none => rw [e2] at q1; cases q1
              | some bp => exact ⟨bp, rfl⟩
            · exact ih q2 j h
        exact this hpt
      have pcAt : ∀ (j : Nat) (bp : Bnd × Pce), bps[j]? = some bp → pAt (bps.map fun bp => bp.2) j = bp.2 := fun j bp h => pAt_get (by rw [List.getElem?_map, h]; rfl)
      refine ⟨_, rfl, lr, rfl, ⟨_, SqL.of er⟩, fun D hD => ?_⟩
      refine lc_list (K := K) (a := lr) (xs := ringVs bv js) (fun i Hc => ∃ pv : List V, Hc D = some (.lst pv) ∧ All2 (fun v pc => ∃ a l, v = .ref a ∧ SqT K Hc a [.int ((pc.1 : Nat) : Int), .ref l] ∧ Hc l = some (.lst (nvs pc.2)) ∧ l ≠ D) pv ((js.take i).map (pAt (bps.map fun bp => bp.2))) ∧ Same H2 Hc) ⟨[], upd_same, All2.nil, same_new hD⟩ (fun i Hc _ ⟨_, _, _, sm⟩ => SqL.of (sm _ _ er)) ?_ ?_
      · rintro i v Hc hv ⟨pv, hc, al, sm⟩
        unfold ringVs at hv
        rw [List.getElem?_map] at hv
        cases hj : js[i]? with
        | none => rw [hj] at hv; cases hv
        | some j =>
          rw [hj] at hv
          cases hv
          obtain ⟨bp, hbp⟩ := hjl j (List.mem_of_getElem? hj)
          obtain ⟨v, hv, a, pa, l, rfl, h1, h2, h3, h4⟩ := ab.getR hbp
          have ev : bv.getD j .non = .ref a := by rw [List.getD_eq_getElem?_getD, hv]; rfl
          have sc := s2.trans sm
          have nl : l ≠ D := ne_of_none (s2 _ _ h3) hD
          refine ⟨a, _, ev, (TK.same sc).seq h1, rfl, _, _, rfl, _, _, rfl, _, _, rfl, _, _, rfl, rfl, rfl, tyes ?_⟩
          have hpl : pv.length ≤ i := by
            have := al.1
            rw [List.length_map, List.length_take] at this
            omega
          have hil : i < js.length := (List.getElem?_eq_some_iff.mp hj).1
          refine ⟨_, rfl, _, hc, ?_, pv ++ [.ref pa], upd_same, ?_, same_mut sm hD⟩
          · exact small1000 (by omega)
          · rw [List.take_add_one, hj, List.map_append]
            show All2 _ (pv ++ [V.ref pa]) (_ ++ [pAt (bps.map fun bp => bp.2) j])
            rw [pcAt j bp hbp]
            refine All2.snoc (al.imp fun v pc ⟨a', l', k1, k2, k3, k4⟩ => ⟨a', l', k1, (TK.lst hc).seq k2, (upd_ne k4).trans k3, k4⟩) ⟨pa, l, rfl, (TK.lst hc).seq ((TK.same sc).seq h2), (upd_ne nl).trans (sc _ _ h3), nl⟩
      · rintro H3 ⟨pv, hc, al, sm⟩
        have e : (ringVs bv js).length = js.length := List.length_map ..
        rw [e, List.take_length] at al
        refine ⟨(by show 2 ≤ sizeLine; decide), fun tt htt => ?_⟩
        have t4 := same_new (o := .tup [.str "bar", .ref D]) htt
        refine q tt _ ((s12.trans sm).trans t4) ((s12.trans sm).free htt) (.inr ⟨D, _, upd_same, s12.free hD, ⟨pv, t4 _ _ hc, al.imp fun v pc ⟨a', l', k1, k2, k3, _⟩ => ⟨a', l', k1, (TK.same t4).seq k2, SqL.of (t4 _ _ k3)⟩⟩, barok, fun pc hpc => ?_, ?_⟩)
        rotate_left
        · rw [List.length_map]
          omega
        obtain ⟨j, hj, rfl⟩ := List.mem_map.mp hpc
        obtain ⟨bp, hbp⟩ := hjl j hj
        rw [pcAt j bp hbp]
        exact hpce bp (List.mem_of_getElem? hbp)
end
end Lag

set_option maxRecDepth 100000
set_option maxHeartbeats 8000000
/-! ### sorted(set(xs)), whole numbers, any number of them -/
namespace Lag
open PySem PySem.Spec PyProof.Rows L2
/-- a set as it is made -/
abbrev svE (w : World) : Obj := { cls := .type "set", dict := none, data := .set #[] 0 (.fresh 0 0 (!w.params.followText "set-order")) }
section
variable {P : Program} {w : World} {A : Around} {E : Value → Shared → Prop} {s : Shared}
/-- what a call of set tells: the new address, a set of these numbers -/
abbrev SvMade (w : World) (s : Shared) (ns : List Int) (h' : Heap) (c : Nat) : Prop := SetR w h' s.heap.objs.size (fun j => decide (j ∈ ns)) c ∧ c ≤ ns.length ∧ ∀ b o, s.heap.get? b = some o → h'.get? b = some o
theorem sv_init {l : Addr} {items : Array Value} (ns : List Int) (hh : A.handled = none) (hl : s.heap.IsList l items) (hit : IntsAre items.toList ns) (hb : ns.length + 1 < scanBound) :
    codeAny (model P w) A (.call (.builtin "set.__init__") ⟨[.ref s.heap.objs.size, .ref l], []⟩) (wants (fun r s₂ => r = .none ∧ ∃ h' tk c, s₂ = { s with heap := h', toks := tk } ∧ SvMade w s ns h' c) E) { s with heap := s.heap.push (svE w) } := by
  have hisz : items.size = ns.length := by have q := IntsAre.length hit; rwa [Array.length_toList] at q
  have g0 : (s.heap.push (svE w)).get? s.heap.objs.size = some (svE w) := Heap.get?_push_size _ rfl
  refine codeAny_call_builtin F.called_set.init.plain F.entry_set_init (check_set_init_1 ⟨_, g0, rfl⟩ ?_)
  obtain ⟨⟨oc, od, odt, os⟩, hol, hcl, nl, hdl⟩ := hl
  simp only at hcl hdl; subst hcl; subst hdl
  have hol' : (s.heap.push (svE w)).get? l = some { cls := .type "list", dict := od, data := .seq items nl, slots := os } := Heap.get?_push_of_some _ hol
  have k1 := F.sub_list_set; have k2 := F.sub_list_frozenset; have k3 : (Value.type "list" == Value.type "dict") = false := by decide
  have hl1 : (s.heap.push (svE w)).IsList l items := ⟨_, hol', rfl, nl, rfl⟩
  unfold Builtin.«set.__init__» noKeywords Builtin.Frozenset.updateFrom; generalize hPI : pyIter = PI; wp_walk; subst hPI
  refine wpAny_pyIter_list hl1 (wpAny_bind (wpAny_runValue ?_))
  have lt : l < s.heap.objs.size := Heap.lt_size hol
  have hz : (s.heap.push (svE w)).objs.size = s.heap.objs.size + 1 := Heap.size_push ..
  have n1 : l ≠ (s.heap.push (svE w)).objs.size := by rw [hz]; exact Nat.ne_of_lt (Nat.lt_succ_of_lt lt)
  have n3 : ∀ b, b < s.heap.objs.size → b ≠ s.heap.objs.size ∧ b ≠ (s.heap.push (svE w)).objs.size := fun b hb => ⟨Nat.ne_of_lt hb, by rw [hz]; exact Nat.ne_of_lt (Nat.lt_succ_of_lt hb)⟩
  have n2 : s.heap.objs.size ∉ [(s.heap.push (svE w)).objs.size, l] := fun z => by
    rcases List.mem_cons.mp z with z | z
    · rw [hz] at z
      exact Nat.ne_of_lt (Nat.lt_succ_self _) z
    · exact (Nat.ne_of_lt lt) (List.mem_singleton.mp z).symm
  have hval : ∀ (i : Nat) (v : Value), items[i]? = some v → ∃ k t, ns[i]? = some k ∧ v = .int k t := fun i v hv => by
    have hi : i < ns.length := by rw [← hisz]; exact (Array.getElem?_eq_some_iff.mp hv).1
    obtain ⟨t, e⟩ := IntsAre.int_at hit i v (by rwa [Array.getElem?_toList])
    rw [List.getD_eq_getElem?_getD, List.getElem?_eq_getElem hi] at e
    exact ⟨ns[i], t, List.getElem?_eq_getElem hi, e⟩
  refine set_update_ints ((Walks.list (by simp [hh]) _ l n1 items).toS) s.heap.objs.size n2 ns hisz hb hval (items.size - 0) 0 _ (by omega) (Nat.zero_le _) ⟨⟨_, Heap.get?_push_size _ rfl, rfl, rfl⟩, hl1.push _⟩ ⟨0, Nat.le_refl 0, setR_new_at (Heap.get?_push_of_some _ g0)⟩ fun s' c' hm hc' hS' => ?_
  obtain ⟨h', g2, d', tk', o'⟩ := s'
  have eg : g2 = s.gens := hm.gens; have ed : d' = s.drawn := hm.drawn; have eo : o' = s.os := hm.os
  subst eg; subst ed; subst eo
  show wpAny _ _ _ _ _ _; refine wpAny_pure ?_; show wpAny _ _ (ret Value.none) _ _ _
  rw [hisz] at hc'
  refine wpAny_pure ⟨rfl, h', tk', c', rfl, hS', hc', fun b o e => ?_⟩
  have b0 : b < s.heap.objs.size := Heap.lt_size e
  refine hm.heap b o (fun z => ?_) (Heap.get?_push_of_some _ (Heap.get?_push_of_some _ e))
  rcases List.mem_cons.mp z with z | z
  · exact (n3 b b0).1 z
  · exact (n3 b b0).2 (List.mem_singleton.mp z)
theorem sv_set {l : Addr} {items : Array Value} (ns : List Int) {Q : Value → Shared → Prop} (hh : A.handled = none) (hl : s.heap.IsList l items) (hit : IntsAre items.toList ns) (hb : ns.length + 1 < scanBound)
    (h : ∀ (h' : Heap) (tk c : Nat), SvMade w s ns h' c → Q (.ref s.heap.objs.size) { s with heap := h', toks := tk }) : wpAny (model P w) A (call (.type "set") [.ref l]) Q E s := by
  obtain ⟨c0, tl0, hm1⟩ := F.called_set.mro; have hm2 := F.called_set.made; have hm3 := F.called_set.sub
  refine wpAny_call (codeAny_of_tree ?_); show wpAny _ _ (callAny (.type "set") _) _ _ _
  refine wpAny_pure ⟨Code.quiet_builtin _ (by decide +kernel), codeAny_builtin F.entry_type_call ?_⟩; rw [Around.under_plain (weight_type_call_type "set" [.ref l] []) rfl]
  have q1 := F.called_set.notType; have q2 := F.called_set.canCreate; have q3 := F.typeCall_set_1 (.ref l)
  repeat (any_goals (first | wp_step | assumption))
  refine codeAny_mono (code_set_led1 (.ref l) (E := E) (Q₁ := fun obj s₁ => obj = .ref s.heap.objs.size ∧ s₁ = { s with heap := s.heap.push (svE w) }) ⟨rfl, rfl⟩) fun r s₁ hr => ?_
  match r, hr with
  | .error _, hr => exact hr
  | .ok (.ret obj), hr =>
    obtain ⟨rfl, rfl⟩ := hr
    have hT : Shared.TypeIs { s with heap := s.heap.push (svE w) } (.ref s.heap.objs.size) "set" := ⟨_, Heap.get?_push_size _ rfl, rfl⟩
    have q4 := F.called_set.init.lookup; have q5 := F.called_set.init.bind (.ref s.heap.objs.size)
    repeat (any_goals (first | wp_step | assumption))
    refine codeAny_mono (sv_init (A := _) (E := E) ns (by simp [hh]) hl hit hb) fun r₂ s₂ hr₂ => ?_
    match r₂, hr₂ with
    | .error _, hr₂ => exact hr₂
    | .ok (.ret r), hr₂ =>
      obtain ⟨rfl, h', tk, c', rfl, hm⟩ := hr₂
      repeat (any_goals (first | wp_step | assumption))
      exact h _ _ _ hm
end
end Lag

set_option maxRecDepth 100000
set_option maxHeartbeats 8000000
namespace Lag
open PySem PySem.Spec PyProof.Rows L2 SrtO
section
variable {P : Program} {w : World} {A : Around} {E : Value → Shared → Prop} {s : Shared} {a : Addr}
/-- sorted of a set of whole numbers, any number of them -/
theorem sv_sorted {S : Int → Bool} {n : Nat} {Q : Value → Shared → Prop} (R : SetR w s.heap a S n) (hh : A.handled = none)
    (hQ : ∀ s' p (out : Array Value) (c : Nat) (ns : List Int), (∀ b o, s.heap.get? b = some o → s'.heap.get? b = some o) ∧ s'.gens = s.gens ∧ s'.os = s.os ∧ s.heap.objs.size ≤ p ∧
      s'.heap.get? p = some (seqObj "list" out c) ∧ IntsAre out.toList ns ∧ ns.Pairwise (· < ·) ∧ (∀ k, k ∈ ns ↔ S k = true) ∧ ns.length = n → Q (.ref p) s') : wpAny (model P w) A (call (.builtin "sorted") [.ref a]) Q E s := by
  obtain ⟨o, es, ep, t, ho, hex, hd, g, nd, hm, hb, hf, hn, hr, hl⟩ := R
  refine Calls.call_function_entry kind_sorted plain_sorted entry_sorted (args_sorted1 _) ?_; unfold Builtin.«sorted»
  refine wpAny_bind (m := checkCount "sorted" 1 1 _) (wpAny_pure (wpAny_bind (collect_set (A := A.in1) hh ⟨o, ho, hex.1, hd⟩ hf hb hr hl fun s1 vs k1 hz g1 o1 pm => ?_)))
  have vl : vs.length = n := by rw [pm.length_eq, List.length_map, Array.length_toList, hn]
  have vz : vs.length ≤ sizeLine := by rw [vl, ← hn, sizeLine_eq]; unfold scanBound at hb; omega
  have hI : IntsAre vs (vs.map iv) := ints_iv fun v hv => by
    obtain ⟨e, he, q⟩ := List.mem_map.mp (pm.mem_iff.mp hv); obtain ⟨k, tk, h1, _⟩ := g e he
    exact ⟨k, tk, by rw [← q]; exact h1⟩
  have pk : (vs.map iv).Perm (es.toList.map keyOf) := by
    have q := pm.map iv; rw [List.map_map] at q
    refine q.trans (List.Perm.of_eq (List.map_congr_left fun e he => ?_)); obtain ⟨k, tk, h1, _⟩ := g e he
    show iv e.2 = keyOf e
    unfold keyOf; rw [h1]; rfl
  refine wpAny_bind (wpAny_newList ?_ vz)
  have hoL : (s1.heap.push (seqObj "list" vs.toArray 0)).get? s1.heap.objs.size = some (seqObj "list" vs.toArray 0) := Heap.get?_push_size _ rfl
  refine wpAny_bind (wpAny_holding (wpAny_call_entry slot_list_sort ⟨_, hoL, rfl⟩ entry_list_sort (list_sort_ord swo_int hoL vz (fun h2 => ints_sortable hI h2) fun out hs hb2 => ⟨_, rfl, wpAny_pure ⟨_, rfl, ?_⟩⟩) (args_list_sort _)))
  obtain ⟨j1, j2, j3⟩ := ints_out hI hs hb2
  obtain ⟨c, hc⟩ := sortedHeap_at (vs := vs) (out := out.toArray) hoL
  have pn : (out.map iv).Perm (es.toList.map keyOf) := j2.trans pk
  refine hQ _ s1.heap.objs.size out.toArray c (out.map iv) ⟨fun b u e => ?_, g1, o1, hz, hc, j1, lt_of_le_nodup _ j3 (pn.nodup_iff.mpr nd), fun k => by rw [pn.mem_iff, ← hm k], by rw [pn.length_eq, List.length_map, Array.length_toList]; exact hn⟩
  have q := k1 b u e; have lt := Heap.lt_size q
  show (sortedHeap (s1.heap.push (seqObj "list" vs.toArray 0)) s1.heap.objs.size vs out.toArray).get? b = some u
  rw [sortedHeap_old (Nat.ne_of_lt lt) (by rw [size_push']; exact Nat.lt_succ_of_lt lt)]
  exact Heap.get?_push_of_some _ q
end
/-- sorted(set(xs)) -/
def tSortSet (K : PySem.W.Frag) (ta : TE) : TE := fun σ H Q => ta σ H fun x H1 => ∃ (l : Addr) (ns : List Int), x = .ref l ∧ SqL K H1 l (ns.map V.int) ∧ ns.length ≤ 4000 ∧
  ∀ (ns' : List Int) (p : Addr), ns'.Pairwise (· < ·) → (∀ k, k ∈ ns' ↔ k ∈ ns) → H1 p = none → Q (.ref p) (upd H1 p (.lst (ns'.map V.int)))
theorem pe_sortSet {X : Cx} {a : Expr} {ta : TE} {p p2 q pos : Pos} (g1 : Gl X "sorted") (m1 : X.mg "sorted" = none) (g2 : Gl X "set") (m2 : X.mg "set" = none) (ha : PE X a ta) (bs : bootBuiltins "sorted" = some (.builtin "sorted")) (hc : X.calm = true := by rfl)
    (na : starEach [a] X.env = (false, eval a X.env) :: starEach [] X.env := by rfl) : PE X (.Call (.Name "sorted" p) [.Call (.Name "set" p2) [a] [] q] [] pos) (tSortSet X.K ta) := by
  refine ⟨fun pins s σ H Q I h => Call_ (ld_blt I g1 m1 bs (callWith_builtin1 (args_cons (Call_ (ld_blt I g2 m2 boot_set (callWith_type1 (args_cons (thn (ha.run pins s σ H _ I h) fun v s1 ⟨x, H1, I1, r1, q1⟩ => args_nil ?_) na) na rfl))) rfl) rfl rfl))⟩
  obtain ⟨l, ns, rfl, hq, hl, q1⟩ := q1
  cases r1
  obtain ⟨its, r, pl, hz⟩ := I1.list hq
  refine sv_set ns (I1.ok.hd hc) pl.isList (by simpa using RZ.intsAre_vals r) (by unfold scanBound; omega) fun h' tk c ⟨R, hcn, hk⟩ => args_nil ?_
  have I2 : Inv X pins σ H1 { s1 with heap := h', toks := tk } := I1.kept fun b o e => hk b o e
  have R2 : SetR X.w ({ s1 with heap := h', toks := tk } : Shared).heap s1.heap.objs.size (fun j => decide (j ∈ ns)) c := R
  have hlt := R.lt
  show wpAny _ _ _ _ _ ({ s1 with heap := h', toks := tk } : Shared)
  generalize ({ s1 with heap := h', toks := tk } : Shared) = s2 at I2 R2
  refine sv_sorted R2 (I2.ok.hd hc) fun s' p out c ns' ⟨k, g, o, hp, hg, hi, hs, hm, hln⟩ => ?_
  have hlen : (ns'.map V.int).length ≤ sizeLine := by rw [List.length_map, hln, sizeLine_eq]; omega
  have hn : H1 p = none := I2.hok.fresh hp
  have J : Inv X pins σ (upd H1 p (.lst (ns'.map V.int))) { s2 with heap := s'.heap, gens := s'.gens, drawn := s'.drawn, toks := s'.toks } :=
    I2.call (ch := []) (Un.laid k hp hn) (I2.hok.laid k hp ⟨hlen, out.toList, c, vals_of_ints hi, hg⟩) (by rw [g]; exact I2.bare) (fun _ z => nomatch z)
  have e : s' = { s2 with heap := s'.heap, gens := s'.gens, drawn := s'.drawn, toks := s'.toks } := by
    cases s'; cases s2; cases o; rfl
  rw [e]
  exact ⟨.ref p, _, J, rfl, q1 ns' p hs (fun k => by rw [hm k, decide_eq_true_eq]) hn⟩
end Lag

set_option maxRecDepth 100000
set_option maxHeartbeats 8000000
namespace Lag
open PySem PySem.Spec PyProof.Rows L2
abbrev sBetween : Stmt := topS 44 -- @between
abbrev sLeastBeat : Stmt := topS 57 -- @least_beat
def endsB (gs : List Gt) (ws : List Wr) (s : Nat) : List Nat := (List.range gs.length).filter fun e => (best gs ws s e).isSome
def rowB (gs : List Gt) (ws : List Wr) (s e : Nat) : List Int := [((s : Nat) : Int), ((e : Nat) : Int), ((best gs ws s e).getD (0, 0)).1, -((best gs ws s e).getD (0, 0)).2]
def rowsB (gs : List Gt) (ws : List Wr) (s : Nat) : List (List Int) := (endsB gs ws s).map (rowB gs ws s)
def betL (gs : List Gt) (ws : List Wr) (n : Nat) : List (List Int) := (List.range n).flatMap (rowsB gs ws)
theorem betL_succ (gs : List Gt) (ws : List Wr) (n : Nat) : betL gs ws (n + 1) = betL gs ws n ++ rowsB gs ws n := by
  unfold betL
  rw [List.range_succ, List.flatMap_append, List.flatMap_cons, List.flatMap_nil, List.append_nil]
theorem betL_len (gs : List Gt) (ws : List Wr) : ∀ n, (betL gs ws n).length ≤ n * gs.length
  | 0 => Nat.zero_le _
  | n + 1 => by
    rw [betL_succ, List.length_append, Nat.add_mul, Nat.one_mul]
    have h1 := betL_len gs ws n
    have h2 : (rowsB gs ws n).length ≤ gs.length := by
      unfold rowsB endsB
      rw [List.length_map]
      have := List.length_filter_le (fun e => (best gs ws n e).isSome) (List.range gs.length)
      rw [List.length_range] at this
      exact this
    omega
theorem all2_app' {α β : Type} {R : α → β → Prop} {xs xs' : List α} {ys ys' : List β} (h : All2 R xs ys) (h' : All2 R xs' ys') : All2 R (xs ++ xs') (ys ++ ys') := by
  refine ⟨by rw [List.length_append, List.length_append, h.1, h'.1], fun i x y hx hy => ?_⟩
  by_cases hi : i < xs.length
  · rw [List.getElem?_append_left hi] at hx
    rw [List.getElem?_append_left (by rw [← h.1]; exact hi)] at hy
    exact h.2 i x y hx hy
  · rw [List.getElem?_append_right (by omega)] at hx
    rw [List.getElem?_append_right (by rw [← h.1]; omega), ← h.1] at hy
    exact h'.2 _ x y hx hy
/-- a tuple of numbers -/
def RowT (K : PySem.W.Frag) (H : Hp) (v : V) (r : List Int) : Prop := ∃ a, v = .ref a ∧ SqT K H a (r.map V.int)
theorem RowT.tk {K : PySem.W.Frag} {H H' : Hp} {v : V} {r : List Int} (t : TK H H') (h : RowT K H v r) : RowT K H' v r := by
  obtain ⟨a, e, s⟩ := h
  exact ⟨a, e, t.seq s⟩
theorem sorted_uniq : ∀ {l l' : List Nat}, l.Perm l' → l.Pairwise (· ≤ ·) → l'.Pairwise (· ≤ ·) → l = l'
  | [], l', p, _, _ => (List.nil_perm.mp p).symm
  | a :: l, [], p, _, _ => absurd (List.perm_nil.mp p) (by simp)
  | a :: l, b :: l', p, h, h' => by
    obtain ⟨h1, h2⟩ := List.pairwise_cons.mp h
    obtain ⟨k1, k2⟩ := List.pairwise_cons.mp h'
    have e : a = b := by
      have m1 := p.mem_iff.mp (List.mem_cons_self (a := a) (l := l))
      have m2 := p.mem_iff.mpr (List.mem_cons_self (a := b) (l := l'))
      rcases List.mem_cons.mp m1 with m1 | m1
      · exact m1
      · rcases List.mem_cons.mp m2 with m2 | m2
        · exact m2.symm
        · have := h1 b m2
          have := k1 a m1
          omega
    subst e
    rw [sorted_uniq ((List.perm_cons a).mp p) h2 k2]
theorem range_sorted : ∀ n, (List.range n).Pairwise (· ≤ ·) := fun n => by
  rw [List.pairwise_iff_getElem]
  intro i j hi hj hij
  rw [List.getElem_range, List.getElem_range]
  omega
theorem ends_uniq {gs : List Gt} {ws : List Wr} {s : Nat} {es ks : List Nat} (N : NetOk gs ws) (hs : s < gs.length) (hp : es.Perm ks) (hnd : ks.Nodup) (hmem : ∀ g, g ∈ ks ↔ ∃ c, best gs ws s g = some c) (hso : es.Pairwise (· ≤ ·)) : es = endsB gs ws s := by
  refine sorted_uniq ?_ hso (by unfold endsB; exact (range_sorted _).filter _)
  unfold endsB
  rw [List.perm_ext_iff_of_nodup (hp.nodup_iff.mpr hnd) (List.nodup_range.filter _)]
  intro g
  rw [hp.mem_iff, hmem, List.mem_filter, List.mem_range]
  constructor
  · rintro ⟨c, hc⟩
    exact ⟨best_lt N hs hc, by rw [hc]; rfl⟩
  · rintro ⟨_, h⟩
    cases e : best gs ws s g with
    | none => rw [e] at h; cases h
    | some c => exact ⟨c, rfl⟩
theorem mem_betL {gs : List Gt} {ws : List Wr} {r : List Int} : ∀ {n : Nat}, r ∈ betL gs ws n ↔ ∃ s e c, s < n ∧ e < gs.length ∧ best gs ws s e = some c ∧ r = [((s : Nat) : Int), ((e : Nat) : Int), c.1, -c.2] := fun {n} => by
  unfold betL
  rw [List.mem_flatMap]
  constructor
  · rintro ⟨s, hs, hr⟩
    unfold rowsB at hr
    obtain ⟨e, he, rfl⟩ := List.mem_map.mp hr
    unfold endsB at he
    obtain ⟨h1, h2⟩ := List.mem_filter.mp he
    cases hc : best gs ws s e with
    | none => rw [hc] at h2; cases h2
    | some c => exact ⟨s, e, c, List.mem_range.mp hs, List.mem_range.mp h1, hc, by unfold rowB; rw [hc]; rfl⟩
  · rintro ⟨s, e, c, h1, h2, h3, rfl⟩
    refine ⟨s, List.mem_range.mpr h1, List.mem_map.mpr ⟨e, List.mem_filter.mpr ⟨List.mem_range.mpr h2, by rw [h3]; rfl⟩, ?_⟩⟩
    unfold rowB
    rw [h3]
    rfl
theorem IsWait.nn {gs : List Gt} {ws : List Wr} {m : Int} (N : NetOk gs ws) (h : IsWait gs ws m) : 0 ≤ m := by
  obtain ⟨s, e, c, hs, hc, rfl⟩ := h
  obtain ⟨ps, _, h2⟩ := best_way hc
  rw [h2]
  have := gw_nn N s
  have := pws_nn N ps
  show 0 ≤ - -pwt gs ws s ps
  unfold pwt
  omega
def spBetween (K : PySem.W.Frag) (C : Addr) : Sp := fun vs H Q _ => ∃ (p ng nw : Addr) (gs : List Gt) (ws : List Wr), vs = [.ref p] ∧ NetAt K C H p ng nw gs ws ∧ NetOk gs ws ∧
  ∀ (l : Addr) (tv : List V) (H' : Hp), Same H H' → H l = none → H' l = some (.lst tv) → All2 (RowT K H') tv (betL gs ws gs.length) → Q (.ref l) H'
def spLeastBeat (K : PySem.W.Frag) (C : Addr) : Sp := fun vs H Q _ => ∃ (p ng nw : Addr) (gs : List Gt) (ws : List Wr), vs = [.ref p] ∧ NetAt K C H p ng nw gs ws ∧ NetOk gs ws ∧ gs.length ≤ 60 ∧
  ∀ (t l : Addr) (B : Int) (L : Nat → Int) (H' : Hp), Same H H' → H' t = some (.tup [.int B, .ref l]) → H l = none → H' l = some (.lst ((lagsL gs L).map V.int)) → IsLeast gs ws B → Feas gs ws B L → (∀ g, g < gs.length → -101 ≤ L g ∧ L g ≤ 101) → 0 ≤ B → Q (.ref t) H'
section
variable {P : Program} {w : World} {K : PySem.W.Frag} {mg : Str → Option Value} {base : Heap}
abbrev nBetween : List Str := ["net", "told", "start", "known", "last", "end"]
theorem scBetween : FnScope nBetween ["net"] (defScope sBetween) := ⟨rfl, rfl, rfl, by decide +kernel, rfl, by decide +kernel, by decide +kernel⟩
abbrev DBetween (P : Program) (w : World) (K : PySem.W.Frag) (mg : Str → Option Value) (base : Heap) (C : Addr) := Df P w K mg base 2 "between" ["net"] (spBetween K C)
theorem ok_between {f fB C : Addr} {fd fdB : FuncData} (F : Fun K "between" "between" sBetween f fd) (hm : mg "between" = some (.ref f)) (B : Bt mg) (mso : mg "sorted" = none) (T : NT K mg C) (DBF : DBestFrom P w K mg base C fB fdB) : DBetween P w K mg base C f fd := by
  refine ⟨?_, hm, F.kp, F.binds fun _ _ _ _ _ _ us hl => match us, hl with | [_], _ => rfl⟩
  refine F.ok scBetween (fun vs H Q E h => ?_) (fun cdv A outer s H vs Q E hr h => ?_)
  · obtain ⟨p, ng, nw, gs, ws, rfl, _⟩ := h
    rfl
  · obtain ⟨p, ng, nw, gs, ws, rfl, NA, N, q⟩ := h
    have nd := scBetween.nd
    refine ⟨_, pss_cons (ps_set (i := 1) nd rfl (.inl rfl) (pe_lst pa_nil)) <|
        pss_cons (ps_for PassesOwn.never rfl (pi_range1 (by rfl) B.range (pa_cons (pe_callB call_len_seq (by rfl) B.len PySem.boot_len (pa_cons (pe_fld (pv 0) rfl) pa_nil)) pa_nil)) (pg_name (i := 2) nd rfl (.inr rfl)) (pss_cons (ps_asg (pe_call DBF.ok (hr.mono (by decide)) (by rfl) DBF.mg DBF.kp DBF.bd .nil pass0 (pa_cons (pv 0) (pa_cons (pv 2) pa_nil))) (pg_tup rfl (pgs_cons (pg_name (i := 3) nd rfl (.inr rfl)) (pgs_cons (pg_name (i := 4) nd rfl (.inl rfl)) pgs_nil)))) <|
        pss_one (ps_expr (pe_bm PySem.F.plainAttrs_list PySem.F.slot_list_extend PySem.F.type_list_extend mt_extend (pv 1) (pa_cons (pe_lc (own := [("end", 5)]) (g := (gName 5)) (tt := tYes) (te := (tTup (tCons (tVar 2) (tCons (tVar 5) (tCons (tOp (rIxT K) (tDGet (tVar 3) (tVar 5)) (tC (.int 0))) (tCons (tUn (rU fun i => .int (-i)) (tOp (rIxT K) (tDGet (tVar 3) (tVar 5)) (tC (.int 1)))) tNil)))))) rfl nd (pi_list (pe_callB cr_sortedI (by rfl) mso (by decide +kernel) (pa_cons (pe_callTy (call_list_dK rfl) (by rfl) B.list (by decide +kernel) (pa_cons (pv 3) pa_nil)) pa_nil))) (blkOk_by (N := nBetween) (sc := defScope sBetween) (own := [("end", 5)]) (by decide +kernel)) (fun _ _ _ _ _ => (pg_name (i := 5) nd rfl (.inl rfl))) (fun _ _ _ _ _ => pts_nil) (fun _ _ _ _ _ => (pe_tup (pa_cons (pv 2) (pa_cons (pv 5) (pa_cons (pe_ix ix_tup (pe_dget (hu_of hr) (pv 3) (pv 5) (fun _ _ => rfl)) pe_int (fun _ _ => rfl)) (pa_cons (pe_un un_neg (pe_ix ix_tup (pe_dget (hu_of hr) (pv 3) (pv 5) (fun _ _ => rfl)) pe_int (fun _ _ => rfl))) pa_nil))))))) pa_nil))))) <|
        pss_one (ps_ret (pv 1)), ?_⟩
    have hgl := N.gl
    obtain ⟨dx, ob⟩ := id NA.ob
    obtain ⟨gv, hgv, ga⟩ := id NA.g
    have hlg : gv.length = gs.length := ga.1
    refine ⟨(by show 0 ≤ sizeLine; decide), fun lt hlt => ?_⟩
    have t2 := same_new (o := .lst []) hlt
    have e2 : (upd H lt (.lst [])) lt = some (.lst []) := upd_same
    generalize upd H lt (.lst []) = H2 at t2 e2
    refine gn_norm (σ' := [some (.ref p), some (.ref lt), none, none, none, none]) rfl ?_
    refine ⟨_, rfl, p, C, dx, _, _, rfl, t2 _ _ ob, T.cl, T.nG, nf_gates _ _, ng, gv, rfl, .inl (SqL.of (t2 _ _ hgv)), _, rfl, by omega, by omega, for_range (lo := 0) (n := ((gv.length : Nat) : Int).toNat) (fun i σ H' => ∃ (u2 u3 u4 u5 : Option V) (tv : List V), σ = [some (.ref p), some (.ref lt), u2, u3, u4, u5] ∧ Same H H' ∧ H' lt = some (.lst tv) ∧ All2 (RowT K H') tv (betL gs ws i))
      ⟨_, _, _, _, [], rfl, t2, e2, All2.nil⟩ ?_ ?_⟩
    · rintro i σ H3 hi ⟨u2, u3, u4, u5, tv, rfl, sm, et, at_⟩
      rw [Int.toNat_natCast, hlg] at hi
      have ei : (0 : Int) + ((i : Nat) : Int) = ((i : Nat) : Int) := Int.zero_add _
      rw [ei]
      refine ⟨_, rfl, _, rfl, p, ng, nw, gs, ws, i, rfl, NA.same sm, N, hi, fun t d lL kvs ks La H4 s4 ett kn eL hL0 lok => ?_⟩
      refine ⟨t, _, rfl, .inl (.inl ett), rfl, _, _, rfl, _, _, rfl, rfl, ?_⟩
      have et4 := s4 _ _ et
      refine gn_norm (σ' := [some (.ref p), some (.ref lt), some (.int (i : Nat)), some (.ref d), some (.ref lL), u5]) rfl ?_
      refine ⟨_, rfl, .inl ⟨rfl, _, SqL.of et4⟩, ?_⟩
      refine ⟨_, rfl, d, kvs, rfl, kn.at_, fun lk hlk => ?_⟩
      rw [kn.list]
      have t5 := same_new (o := .lst ((ks.map fun i => ((i : Nat) : Int)).map V.int)) hlk
      have e5 : (upd H4 lk (.lst ((ks.map fun i => ((i : Nat) : Int)).map V.int))) lk = some (.lst ((ks.map fun i => ((i : Nat) : Int)).map V.int)) := upd_same
      generalize upd H4 lk (.lst ((ks.map fun i => ((i : Nat) : Int)).map V.int)) = H5 at t5 e5
      refine ⟨lk, _, rfl, SqL.of e5, fun ns lp hperm hsrt hlp => ?_⟩
      obtain ⟨es, rfl, hep, hes⟩ := nat_sorted hperm hsrt
      have hee := ends_uniq N hi hep kn.nd kn.mem hes
      have hex : (es.map fun i => ((i : Nat) : Int)).map V.int = nvs es := by rw [List.map_map]; rfl
      rw [hex]
      have t6 := same_new (o := .lst (nvs es)) hlp
      have e6 : (upd H5 lp (.lst (nvs es))) lp = some (.lst (nvs es)) := upd_same
      generalize upd H5 lp (.lst (nvs es)) = H6 at t6 e6
      have s46 := t5.trans t6
      have hkl : es.length ≤ gs.length := by
        rw [hep.length_eq]
        exact svNodup_le kn.nd fun v hv => by
          obtain ⟨c, hc⟩ := (kn.mem v).mp hv
          exact best_lt N hi hc
      refine ⟨lp, rfl, ⟨_, SqL.of e6⟩, fun D hD => ?_⟩
      refine lc_list (K := K) (a := lp) (xs := nvs es) (fun j Hc => ∃ rv : List V, Hc D = some (.lst rv) ∧ All2 (RowT K Hc) rv ((es.take j).map (rowB gs ws i)) ∧ Same H6 Hc) ⟨[], upd_same, All2.nil, same_new hD⟩ (fun j Hc _ ⟨_, _, _, s7⟩ => SqL.of (s7 _ _ e6)) ?_ ?_
      · rintro j v Hc hv ⟨rv, hc, al, s7⟩
        obtain ⟨e, he, rfl⟩ := nvs_of hv
        obtain ⟨c, hcb⟩ := (kn.mem e).mp (hep.mem_iff.mp (List.mem_of_getElem? he))
        obtain ⟨tc, hg, hsc⟩ := (kn.same (s46.trans s7)).get hcb
        have hjl : j < es.length := (List.getElem?_eq_some_iff.mp he).1
        have hrl : rv.length ≤ j := by
          have := al.1
          rw [List.length_map, List.length_take] at this
          omega
        refine ⟨rfl, tyes ?_⟩
        refine ⟨_, rfl, _, rfl, _, rfl, _, rfl, d, _, rfl, hg, tc, _, 0, _, rfl, rfl, hsc, atI_nat (j := 0) rfl, ?_⟩
        refine ⟨_, rfl, _, rfl, d, _, rfl, hg, tc, _, 1, _, rfl, rfl, hsc, atI_nat (j := 1) rfl, _, rfl, (by show 4 ≤ sizeLine; decide), fun tt htt => ?_⟩
        have t8 := same_new (o := .tup [.int ((i : Nat) : Int), .int ((e : Nat) : Int), .int c.1, .int (-c.2)]) htt
        have e8 : (upd Hc tt (.tup [.int ((i : Nat) : Int), .int ((e : Nat) : Int), .int c.1, .int (-c.2)])) tt = some (.tup [.int ((i : Nat) : Int), .int ((e : Nat) : Int), .int c.1, .int (-c.2)]) := upd_same
        generalize upd Hc tt (.tup [.int ((i : Nat) : Int), .int ((e : Nat) : Int), .int c.1, .int (-c.2)]) = H8 at t8 e8
        have hc8 := t8 _ _ hc
        refine ⟨rv, hc8, small1000 (by omega), rv ++ [.ref tt], upd_same, ?_, same_mut (s7.trans t8) hD⟩
        rw [List.take_add_one, he, List.map_append]
        refine ((al.imp fun _ _ r => r.tk (TK.same t8)).imp fun _ _ r => r.tk (TK.lst hc8)).snoc ⟨tt, rfl, ?_⟩
        have er : rowB gs ws i e = [((i : Nat) : Int), ((e : Nat) : Int), c.1, -c.2] := by
          unfold rowB
          rw [hcb]
          rfl
        rw [er]
        exact (TK.lst hc8).seq (.inl (.inl e8))
      · rintro H7 ⟨rv, hc, al, s7⟩
        rw [nvs_len, List.take_length] at al
        have hrl : rv.length ≤ gs.length := by
          have := al.1
          rw [List.length_map] at this
          omega
        have s37 := (s4.trans s46).trans s7
        have et7 := s37 _ _ et
        have ndt : D ≠ lt := (ne_of_none (s46 _ _ et4) hD).symm
        have htl : tv.length ≤ i * gs.length := by
          rw [at_.1]
          exact betL_len gs ws i
        have hilt : i * gs.length ≤ 10000 := Nat.mul_le_mul (by omega : i ≤ 100) (by omega : gs.length ≤ 100)
        refine ⟨lt, D, tv, rv, rfl, rfl, et7, hc, Nat.le_of_lt (small11k (by omega)), ?_⟩
        refine ⟨_, _, _, _, tv ++ rv, rfl, same_mut (sm.trans s37) hlt, upd_same, ?_⟩
        rw [betL_succ]
        have a7 : All2 (RowT K H7) (tv ++ rv) (betL gs ws i ++ rowsB gs ws i) := by
          refine all2_app' (at_.imp fun _ _ r => r.tk (TK.same s37)) ?_
          unfold rowsB
          rw [← hee]
          exact al
        exact a7.imp fun _ _ r => r.tk (TK.lst et7)
    · rintro σ H3 ⟨u2, u3, u4, u5, tv, rfl, sm, et, at_⟩
      rw [Int.toNat_natCast, hlg] at at_
      exact ⟨_, rfl, q lt tv H3 sm hlt et at_⟩
abbrev nLeastBeat : List Str := ["net", "start", "end", "many", "wait", "waits", "low", "high", "middle"]
theorem scLeastBeat : FnScope nLeastBeat ["net"] (defScope sLeastBeat) := ⟨rfl, rfl, rfl, by decide +kernel, rfl, by decide +kernel, by decide +kernel⟩
abbrev DLeastBeat (P : Program) (w : World) (K : PySem.W.Frag) (mg : Str → Option Value) (base : Heap) (C : Addr) := Df P w K mg base 5 "least_beat" ["net"] (spLeastBeat K C)
theorem ok_leastBeat {f fB fF C : Addr} {fd fdB fdF : FuncData} (F : Fun K "least_beat" "least_beat" sLeastBeat f fd) (hm : mg "least_beat" = some (.ref f)) (B : Bt mg) (mso : mg "sorted" = none) (mse : mg "set" = none) (DBt : DBetween P w K mg base C fB fdB) (DFb : DForBeat P w K mg base C fF fdF) : DLeastBeat P w K mg base C f fd := by
  refine ⟨?_, hm, F.kp, F.binds fun _ _ _ _ _ _ us hl => match us, hl with | [_], _ => rfl⟩
  refine F.ok scLeastBeat (fun vs H Q E h => ?_) (fun cdv A outer s H vs Q E hr h => ?_)
  · obtain ⟨p, ng, nw, gs, ws, rfl, _⟩ := h
    rfl
  · obtain ⟨p, ng, nw, gs, ws, rfl, NA, N, hg60, q⟩ := h
    have nd := scLeastBeat.nd
    refine ⟨_, pss_cons (ps_set (i := 5) nd rfl (.inl rfl) (pe_sortSet (by rfl) mso (by rfl) mse (pe_lc (own := [("start", 1), ("end", 2), ("many", 3), ("wait", 4)]) (g := (gTup K 4 (gCons (gName 1) (gCons (gName 2) (gCons (gName 3) (gCons (gName 4) gNil)))))) (tt := tYes) (te := (tVar 4)) rfl nd (pi_list (pe_call DBt.ok (hr.mono (by decide)) (by rfl) DBt.mg DBt.kp DBt.bd .nil pass0 (pa_cons (pv 0) pa_nil))) (blkOk_by (N := nLeastBeat) (sc := defScope sLeastBeat) (own := [("start", 1), ("end", 2), ("many", 3), ("wait", 4)]) (by decide +kernel)) (fun _ _ _ _ _ => (pg_tup rfl (pgs_cons (pg_name (i := 1) nd rfl (.inl rfl)) (pgs_cons (pg_name (i := 2) nd rfl (.inl rfl)) (pgs_cons (pg_name (i := 3) nd rfl (.inl rfl)) (pgs_cons (pg_name (i := 4) nd rfl (.inl rfl)) pgs_nil)))))) (fun _ _ _ _ _ => pts_nil) (fun _ _ _ _ _ => (pv 4))) (by decide +kernel))) <|
        pss_cons (ps_set (i := 6) nd rfl (.inl rfl) pe_int) <|
        pss_cons (ps_set (i := 7) nd rfl (.inl rfl) (pe_op op_sub (pe_callB call_len_seq (by rfl) B.len PySem.boot_len (pa_cons (pv 5) pa_nil)) pe_int)) <|
        pss_cons (ps_while PassesOwn.never (pt_cmpR op_lt (pv 6) (pv 7) (nomark _)) (pss_cons (ps_set (i := 8) nd rfl (.inl rfl) (pe_op op_fdiv (pe_op op_add (pv 6) (pv 7)) pe_int)) <|
        pss_one (ps_if (pt_cmpR op_eq (pe_ix ix_tup (pe_call DFb.ok (hr.mono (by decide)) (by rfl) DFb.mg DFb.kp DFb.bd .nil pass0 (pa_cons (pv 0) (pa_cons (pe_ix ix_list (pv 5) (pv 8) (fun _ _ => rfl)) pa_nil))) pe_int (fun _ _ => rfl)) pe_str (nomark _)) (pss_one (ps_set (i := 7) nd rfl (.inl rfl) (pv 8))) (pss_one (ps_set (i := 6) nd rfl (.inl rfl) (pe_op op_add (pv 8) pe_int)))))) <|
        pss_one (ps_ret (pe_tup (pa_cons (pe_ix ix_list (pv 5) (pv 6) (fun _ _ => rfl)) (pa_cons (pe_ix ix_tup (pe_call DFb.ok (hr.mono (by decide)) (by rfl) DFb.mg DFb.kp DFb.bd .nil pass0 (pa_cons (pv 0) (pa_cons (pe_ix ix_list (pv 5) (pv 6) (fun _ _ => rfl)) pa_nil))) pe_int (fun _ _ => rfl)) pa_nil)))), ?_⟩
    refine ⟨_, rfl, p, ng, nw, gs, ws, rfl, NA, N, fun lb tv H1 s1 hlb elb al => ?_⟩
    have hbl := betL_len gs ws gs.length
    have hbl2 : gs.length * gs.length ≤ 3600 := Nat.mul_le_mul hg60 hg60
    have htl : tv.length = (betL gs ws gs.length).length := al.1
    refine ⟨lb, rfl, ⟨_, SqL.of elb⟩, fun D hD => ?_⟩
    refine lc_list (K := K) (a := lb) (xs := tv) (fun i Hc => Hc D = some (.lst ((((betL gs ws gs.length).take i).map fun r => r.getD 3 0).map V.int)) ∧ Same H1 Hc) ⟨by rw [upd_same]; rfl, same_new hD⟩ (fun i Hc _ ⟨_, sm⟩ => SqL.of (sm _ _ elb)) ?_ ?_
    · rintro i v Hc hv ⟨hc, sm⟩
      obtain ⟨r, hr', a, rfl, sq⟩ := al.get hv
      obtain ⟨s', e', c, _, _, hcb, rfl⟩ := mem_betL.mp (List.mem_of_getElem? hr')
      have hil := (List.getElem?_eq_some_iff.mp hv).1
      refine ⟨a, _, rfl, (TK.same sm).seq sq, rfl, _, _, rfl, _, _, rfl, _, _, rfl, _, _, rfl, rfl, rfl, tyes ?_⟩
      refine ⟨_, rfl, _, hc, ?_, ?_, same_mut sm hD⟩
      · rw [List.length_map, List.length_map, List.length_take]
        exact small11k (by omega)
      · rw [upd_same, List.take_add_one, hr', List.map_append, List.map_append]
        rfl
    rintro H2 ⟨hc, s2⟩
    rw [htl, List.take_length] at hc
    refine ⟨D, _, rfl, SqL.of hc, by rw [List.length_map]; omega, fun W lw hW hmem hlw => ?_⟩
    have hw : ∀ m, m ∈ W ↔ IsWait gs ws m := fun m => by
      rw [hmem, List.mem_map]
      constructor
      · rintro ⟨r, hr', rfl⟩
        obtain ⟨s', e', c, h1, _, h3, rfl⟩ := mem_betL.mp hr'
        exact ⟨s', e', c, h1, h3, rfl⟩
      · rintro ⟨s', e', c, h1, h3, rfl⟩
        exact ⟨_, mem_betL.mpr ⟨s', e', c, h1, best_lt N h1 h3, h3, rfl⟩, rfl⟩
    have t3 := same_new (o := .lst (W.map V.int)) hlw
    have e3 : (upd H2 lw (.lst (W.map V.int))) lw = some (.lst (W.map V.int)) := upd_same
    generalize upd H2 lw (.lst (W.map V.int)) = H3 at t3 e3
    have s3 := (s1.trans s2).trans t3
    have hn0 : 0 < gs.length := List.length_pos_iff.mpr N.ne
    have hWn : 0 < W.length := by
      have h1 : IsWait gs ws (- -pwt gs ws 0 []) := by
        obtain ⟨c, hcb, hl⟩ := best_le N hn0 (ps := []) (g := 0) (ws := ws) rfl
        have h2 : best gs ws 0 0 = some (0, -gw gs 0) := rnds_s N gs.length
        refine ⟨0, 0, _, hn0, h2, ?_⟩
        unfold pwt
        rw [pws_nil, Int.add_zero]
      exact List.length_pos_of_mem ((hw _).mpr h1)
    have hat : ∀ {i : Nat}, i < W.length → (W.map V.int)[i]? = some (.int (W.getD i 0)) := fun h => sgetD_at h
    have hin : ∀ {i : Nat}, i < W.length → W.getD i 0 ∈ W := fun {i} h => by
      rw [List.getD_eq_getElem?_getD, List.getElem?_eq_getElem h]
      exact List.getElem_mem _
    have hlt : ∀ {i j : Nat}, j < W.length → i < j → W.getD i 0 < W.getD j 0 := fun {i j} hj hij => by
      have hi : i < W.length := by omega
      rw [List.getD_eq_getElem?_getD, List.getD_eq_getElem?_getD, List.getElem?_eq_getElem hi, List.getElem?_eq_getElem hj]
      exact List.pairwise_iff_getElem.mp hW i j hi hj hij
    have top : FeasE gs ws (W.getD (W.length - 1) 0) := ⟨_, Feas.zero N fun m hm => by
      obtain ⟨i, hi, rfl⟩ := List.getElem_of_mem ((hw m).mpr hm)
      by_cases e : i = W.length - 1
      · subst e
        rw [List.getD_eq_getElem?_getD, List.getElem?_eq_getElem hi]
        exact Int.le_refl _
      · have := hlt (i := i) (j := W.length - 1) (by omega) (by omega)
        rw [List.getD_eq_getElem?_getD (i := i), List.getElem?_eq_getElem hi] at this
        exact Int.le_of_lt this⟩
    refine ⟨_, rfl, lw, _, rfl, .inl (SqL.of e3), _, _, rfl, rfl, ?_⟩
    rw [List.length_map]
    refine ⟨fun m σ H' => ∃ (lo hi : Nat) (u8 : Option V), σ = [some (.ref p), none, none, none, none, some (.ref lw), some (.int (lo : Nat)), some (.int (hi : Nat)), u8] ∧ m = hi - lo ∧ lo ≤ hi ∧ hi < W.length ∧ FeasE gs ws (W.getD hi 0) ∧ (∀ k, k < lo → ¬ FeasE gs ws (W.getD k 0)) ∧ Same H3 H', ⟨_, 0, W.length - 1, none, ?_, rfl, Nat.zero_le _, by omega, top, fun k hk => absurd hk (Nat.not_lt_zero _), Same.refl _⟩, ?_⟩
    · have e : ((W.length : Nat) : Int) - 1 = ((W.length - 1 : Nat) : Int) := by omega
      show [some (V.ref p), none, none, none, none, some (V.ref lw), some (V.int 0), some (V.int (((W.length : Nat) : Int) - 1)), none] = _
      rw [e]
      rfl
    rintro m σ H4 ⟨lo, hi, u8, rfl, rfl, hlh, hhi, hf, hno, s4⟩
    refine ⟨_, rfl, _, rfl, _, _, rfl, rfl, _, rfl, ite2 (fun e => ?_) (fun e => ?_)⟩
    · have hlt2 : lo < hi := by
        have := of_decide_eq_true e
        omega
      refine ⟨fun σ H' => ∃ (lo' hi' : Nat) (u8 : Option V), σ = [some (.ref p), none, none, none, none, some (.ref lw), some (.int (lo' : Nat)), some (.int (hi' : Nat)), u8] ∧ hi' - lo' < hi - lo ∧ lo' ≤ hi' ∧ hi' < W.length ∧ FeasE gs ws (W.getD hi' 0) ∧ (∀ k, k < lo' → ¬ FeasE gs ws (W.getD k 0)) ∧ Same H3 H', fun σ' H' ⟨lo', hi', u8, e1, h1, h2⟩ => ⟨hi' - lo', h1, lo', hi', u8, e1, rfl, h2⟩, ?_⟩
      refine ⟨_, rfl, _, rfl, _, _, rfl, rfl, _, _, rfl, rfl, ⟨by decide, by decide⟩, ?_⟩
      have hmid : ((lo : Nat) : Int) + ((hi : Nat) : Int) = ((lo + hi : Nat) : Int) := by omega
      have hmid2 : (((lo : Nat) : Int) + ((hi : Nat) : Int)) / 2 = (((lo + hi) / 2 : Nat) : Int) := by rw [hmid]; rfl
      refine gn_norm (σ' := [some (.ref p), none, none, none, none, some (.ref lw), some (.int (lo : Nat)), some (.int (hi : Nat)), some (.int ((((lo : Nat) : Int) + ((hi : Nat) : Int)) / 2))]) rfl ?_
      rw [hmid2]
      generalize hm2 : (lo + hi) / 2 = mi
      have h1 : lo ≤ mi := by omega
      have h2 : mi < hi := by omega
      have e4 := s4 _ _ e3
      refine ⟨_, rfl, _, rfl, _, rfl, lw, _, mi, _, rfl, rfl, SqL.of e4, atI_nat (hat (by omega)), ?_⟩
      refine ⟨p, ng, nw, gs, ws, _, rfl, NA.same (s3.trans s4), N, ((hw _).mp (hin (by omega))).nn N, fun t H5 s5 ht fb => ?_⟩
      obtain ⟨w', l', et, hw', hiff⟩ := fb.lags N
      refine ⟨t, _, 0, _, rfl, rfl, .inl (.inl et), atI_nat (j := 0) rfl, rfl, _, rfl, ?_⟩
      by_cases hL : w' = "lags"
      · rw [hL, decide_eq_true rfl]
        refine iteT ⟨_, rfl, lo, mi, _, rfl, by omega, h1, by omega, hiff.mp hL, hno, s4.trans s5⟩
      · rw [decide_eq_false (fun z => hL (V.str.inj z))]
        refine iteF ⟨_, rfl, _, _, rfl, rfl, mi + 1, hi, some (.int (mi : Nat)), rfl, by omega, by omega, hhi, hf, fun k hk hfk => ?_, s4.trans s5⟩
        by_cases hkm : k = mi
        · rw [hkm] at hfk
          exact hL (hiff.mpr hfk)
        · obtain ⟨L, hL'⟩ := hfk
          have hno2 : ¬ FeasE gs ws (W.getD mi 0) := fun z => hL (hiff.mpr z)
          exact hno2 ⟨L, hL'.mono (Int.le_of_lt (hlt (by omega) (by omega)))⟩
    · have hle2 : lo = hi := by
        have : ¬ (((lo : Nat) : Int) < ((hi : Nat) : Int)) := fun z => e (decide_eq_true z)
        omega
      subst hle2
      have e4 := s4 _ _ e3
      have hB := ((hw _).mp (hin hhi)).nn N
      refine ⟨_, rfl, _, rfl, lw, _, lo, _, rfl, rfl, SqL.of e4, atI_nat (hat hhi), ?_⟩
      refine ⟨_, rfl, _, rfl, _, rfl, lw, _, lo, _, rfl, rfl, SqL.of e4, atI_nat (hat hhi), ?_⟩
      refine ⟨p, ng, nw, gs, ws, _, rfl, NA.same (s3.trans s4), N, hB, fun t H5 s5 ht fb => ?_⟩
      have s35 := (s3.trans s4).trans s5
      rcases fb with ⟨l, L, et, hl, el, hF, hb⟩ | ⟨l, pcs, _, _, _, hbar, _⟩
      · refine ⟨t, _, 1, _, rfl, rfl, .inl (.inl et), atI_nat (j := 1) rfl, (by show 2 ≤ sizeLine; decide), fun tt htt => ?_⟩
        have t6 := same_new (o := .tup [.int (W.getD lo 0), .ref l]) htt
        refine q tt l (W.getD lo 0) L _ (s35.trans t6) upd_same ((s3.trans s4).free hl) (t6 _ _ el) ⟨hf, fun b hb hfe => ?_⟩ hF hb hB
        obtain ⟨L', hL'⟩ := hfe
        obtain ⟨m, hmb, hmw, hmf⟩ := hL'.tight N
        obtain ⟨k, hk, ek⟩ := List.getElem_of_mem ((hw m).mpr hmw)
        have ek' : W.getD k 0 = m := by rw [List.getD_eq_getElem?_getD, List.getElem?_eq_getElem hk, ek]; rfl
        have hklo : k < lo := by
          rcases Nat.lt_or_ge k lo with h | h
          · exact h
          · exfalso
            by_cases e2 : k = lo
            · rw [e2] at ek'
              omega
            · have := hlt (i := lo) (j := k) hk (by omega)
              omega
        exact hno k hklo ⟨L', by rw [ek']; exact hmf⟩
      · obtain ⟨L, hL⟩ := hf
        exact absurd hL (hbar.none N)
end
end Lag

set_option maxRecDepth 100000
set_option maxHeartbeats 8000000
namespace Lag
open PySem PySem.Spec PyProof.Rows L2
/-! ### how great a least beat is; a ring bounds the beat (as in drafts/k84/U1) -/
theorem Wk.bd {gs : List Gt} {ws : List Wr} {s : Nat} (N : NetOk gs ws) {vs : List Nat} {g : Nat} {c : Cst} (h : Wk gs ws s vs g c) : -c.2 ≤ 100 * (vs.length : Int) := by
  have w : ∀ g, gw gs g ≤ 100 := fun g => by
    unfold gw
    rw [List.getD_eq_getElem?_getD]
    cases e : gs[g]? with
    | none => show (0 : Int) ≤ 100; decide
    | some x => exact (N.gok x (List.mem_of_getElem? e)).2.2.1
  induction h with
  | nil =>
    have := w s
    show - -gw gs s ≤ 100 * 1
    omega
  | @cons vs v c x _ _ _ ih =>
    have := w x.2.1
    rw [List.length_cons]
    show -(c.2 - gw gs x.2.1) ≤ _
    omega
theorem best_bd {gs : List Gt} {ws : List Wr} {s g : Nat} {c : Cst} (N : NetOk gs ws) (hs : s < gs.length) (h : best gs ws s g = some c) : -c.2 ≤ 10000 := by
  obtain ⟨ρ, hρ⟩ := N.rank
  obtain ⟨vs, hv⟩ := Snd.rnds (gs := gs) (ws := ws) (s := s) gs.length g c h
  obtain ⟨vs', c', h1, h2, h3⟩ := hv.simple hρ
  have hl := svNodup_le h2 (h1.lows N hs)
  obtain ⟨o, ho, h4⟩ := h1.comp gs.length (by omega)
  have e : o = c := by
    have : best gs ws s g = some o := ho
    rw [h] at this
    exact (Option.some.inj this).symm
  subst e
  have e := leC.anti h4 h3
  subst e
  have := h1.bd N
  have := N.gl
  omega
theorem IsLeast.bd {gs : List Gt} {ws : List Wr} {B : Int} (N : NetOk gs ws) (h : IsLeast gs ws B) : B ≤ 10000 := by
  obtain ⟨L, hL⟩ := h.ex
  obtain ⟨m, hm, ⟨s, e, c, hs, hc, rfl⟩, hf⟩ := hL.tight N
  have := h.le ⟨L, hf⟩
  have := best_bd N hs hc
  omega
/-- the wait of a ring, by its registers -/
theorem Feas.ring {gs : List Gt} {ws : List Wr} {b : Int} {L : Nat → Int} (N : NetOk gs ws) (h : Feas gs ws b L) {r : List Nat} {g : Nat} (hr : Pw ws g r g) (hg : g < gs.length) : pws gs ws r ≤ b * prg ws r := by
  have ex : ∀ g, ∃ m : Int, g < gs.length → (∃ s ps, s < gs.length ∧ Pw ws s ps g ∧ (∀ p ∈ ps, cntF ws L p = 0) ∧ m = pwt gs ws s ps) ∧ ∀ s ps, s < gs.length → Pw ws s ps g → (∀ p ∈ ps, cntF ws L p = 0) → pwt gs ws s ps ≤ m := fun g => by
    by_cases hg : g < gs.length
    · obtain ⟨m, h1, h2⟩ := max_ex (P := fun v => ∃ s ps, s < gs.length ∧ Pw ws s ps g ∧ (∀ p ∈ ps, cntF ws L p = 0) ∧ v = pwt gs ws s ps) (b := b) (fun v ⟨s, ps, hs, hp, hz, e⟩ => by rw [e]; exact h.wt s ps g hs hp hz) _ (pwt gs ws g []) ⟨g, [], hg, rfl, (fun p hp => nomatch hp), rfl⟩ (Nat.le_refl _)
      exact ⟨m, fun _ => ⟨h1, fun s ps hs hp hz => h2 _ ⟨s, ps, hs, hp, hz, rfl⟩⟩⟩
    · exact ⟨0, fun z => absurd z hg⟩
  obtain ⟨A, hA⟩ := Classical.axiomOfChoice ex
  have ge : ∀ g, g < gs.length → gw gs g ≤ A g := fun g hg => by
    have := (hA g hg).2 g [] hg rfl (fun p hp => nomatch hp)
    unfold pwt at this
    rw [pws_nil] at this
    omega
  have le : ∀ g, g < gs.length → A g ≤ b := fun g hg => by
    obtain ⟨s, ps, hs, hp, hz, e⟩ := (hA g hg).1
    rw [e]
    exact h.wt s ps g hs hp hz
  have hb : 0 ≤ b := by
    have := gw_nn N g
    have := ge g hg
    have := le g hg
    omega
  have one : ∀ x ∈ ws, gw gs x.2.1 ≤ A x.2.1 - A x.1 + b * (((x.2.2.length : Nat) : Int) + L x.2.1 - L x.1) := fun x hx => by
    have W := N.wok x hx
    obtain ⟨p, hp⟩ := List.getElem?_of_mem hx
    have h0 := h.lt x hx
    rcases Int.lt_or_le 0 (((x.2.2.length : Nat) : Int) + L x.2.1 - L x.1) with h1 | h1
    · have h2 := ge _ W.e
      have h3 := le _ W.s
      have h4 := Int.mul_le_mul_of_nonneg_left (show (1 : Int) ≤ ((x.2.2.length : Nat) : Int) + L x.2.1 - L x.1 by omega) hb
      omega
    · have e : ((x.2.2.length : Nat) : Int) + L x.2.1 - L x.1 = 0 := by omega
      rw [e, Int.mul_zero]
      obtain ⟨s, ps, hs, hpw, hz, eA⟩ := (hA _ W.s).1
      have h2 := (hA _ W.e).2 s (ps ++ [p]) hs (hpw.snoc hp rfl) fun q hq => by
        rcases List.mem_append.mp hq with hq | hq
        · exact hz q hq
        · rw [List.mem_singleton.mp hq, cntF_get hp]
          exact e
      unfold pwt at h2 eA
      rw [pws_snoc hp] at h2
      omega
  have all : ∀ {r : List Nat} {s e : Nat}, Pw ws s r e → pws gs ws r ≤ A e - A s + b * (prg ws r + L e - L s) := by
    intro r
    induction r with
    | nil =>
      intro s e h
      have h : s = e := h
      rw [h, pws_nil, prg_nil]
      have : b * (0 + L e - L e) = 0 := by
        have : 0 + L e - L e = 0 := by omega
        rw [this, Int.mul_zero]
      omega
    | cons p r ih =>
      intro s e ⟨x, h1, h2, h3⟩
      have h4 := ih h3
      have h5 := one x (List.mem_of_getElem? h1)
      rw [pws_cons h1, prg_cons h1, ← h2]
      have e1 : b * (((x.2.2.length : Nat) : Int) + prg ws r + L e - L x.1) = b * (((x.2.2.length : Nat) : Int) + L x.2.1 - L x.1) + b * (prg ws r + L e - L x.2.1) := by
        rw [← Int.mul_add]
        congr 1
        omega
      omega
  have h1 := all hr
  have e : prg ws r + L g - L g = prg ws r := by omega
  rw [e] at h1
  omega
end Lag

set_option maxRecDepth 100000
set_option maxHeartbeats 8000000
namespace Lag
open PySem PySem.Spec PyProof.Rows L2
abbrev sIsPiece : Stmt := topS 20 -- @is_piece
abbrev sEndOf : Stmt := topS 21 -- @end_of
abbrev sEndsOf : Stmt := topS 22 -- @ends_of
abbrev sFirstGap : Stmt := topS 50 -- @first_gap
abbrev sBarFault : Stmt := topS 55 -- @bar_fault
/-! ### pieces and their ends -/
def endW (ws : List Wr) (s : Nat) (ps : List Nat) : Nat := ps.foldl (fun _ p => (svW ws p).2.1) s
theorem endW_of {ws : List Wr} : ∀ {ps : List Nat} {s e : Nat}, Pw ws s ps e → endW ws s ps = e
  | [], s, e, h => h
  | p :: r, s, e, ⟨x, hx, hs, h3⟩ => by
    show endW ws (svW ws p).2.1 r = e
    rw [svW_get hx]
    exact endW_of h3
abbrev endsF (ws : List Wr) (pc : Pce) : Nat × Nat := (pc.1, endW ws pc.1 pc.2)
theorem jn_at {gs : List Gt} {ws : List Wr} : ∀ {pcs : List Pce} {s e : Nat}, Jn gs ws s pcs e → ∀ k pc, pcs[k]? = some pc → (k = 0 → spotF gs pc.1 = s) ∧ (∀ pc', pcs[k + 1]? = some pc' → spotF gs (endW ws pc.1 pc.2) = spotF gs pc'.1) ∧ (pcs[k + 1]? = none → spotF gs (endW ws pc.1 pc.2) = e)
  | [], s, e, _, k, pc, h => by cases h
  | qc :: r, s, e, ⟨h1, h2, m, h3, h4⟩, k, pc, h => by
    cases k with
    | zero =>
      cases h
      rw [endW_of h3]
      refine ⟨fun _ => h1, fun pc' h' => ?_, fun h' => ?_⟩
      · have h' : r[0]? = some pc' := h'
        exact ((jn_at h4 0 pc' h').1 rfl).symm
      · have h' : r[0]? = none := h'
        have : r = [] := List.length_eq_zero_iff.mp (by have := List.getElem?_eq_none_iff.mp h'; omega)
        subst this
        exact h4
    | succ k =>
      obtain ⟨a, b, c⟩ := jn_at h4 k pc h
      exact ⟨fun z => (by cases z), b, c⟩
/-- pieces in a ring: each ends at the spot where the next one begins -/
def Ringed (gs : List Gt) (es : List (Nat × Nat)) : Prop := ∀ k e, es[k]? = some e → ∃ e', es[(k + 1) % es.length]? = some e' ∧ spotF gs e.2 = spotF gs e'.1
theorem jn_ringed {gs : List Gt} {ws : List Wr} {pcs : List Pce} {v : Nat} (h : Jn gs ws v pcs v) : Ringed gs (pcs.map (endsF ws)) := by
  intro k e hk
  rw [List.getElem?_map] at hk
  cases hp : pcs[k]? with
  | none => rw [hp] at hk; cases hk
  | some pc =>
    rw [hp] at hk
    cases hk
    have hkl : k < pcs.length := (List.getElem?_eq_some_iff.mp hp).1
    obtain ⟨_, h2, h3⟩ := jn_at h k pc hp
    rw [List.length_map, List.getElem?_map]
    by_cases hl : k + 1 < pcs.length
    · rw [Nat.mod_eq_of_lt hl, List.getElem?_eq_getElem hl]
      exact ⟨_, rfl, h2 _ (List.getElem?_eq_getElem hl)⟩
    · have e1 : k + 1 = pcs.length := by omega
      have h0 : 0 < pcs.length := by omega
      rw [e1, Nat.mod_self, List.getElem?_eq_getElem h0]
      refine ⟨_, rfl, ?_⟩
      have z1 := h3 (List.getElem?_eq_none (by omega))
      have z2 := (jn_at h 0 _ (List.getElem?_eq_getElem h0)).1 rfl
      show spotF gs (endW ws pc.1 pc.2) = spotF gs pcs[0].1
      rw [z1, z2]
theorem at_last {xs : List V} {v : V} {j : Nat} (h : xs.length = j + 1) (hv : xs[j]? = some v) : atI xs (-1) = some v := by
  unfold atI ixN
  rw [if_neg (by decide), if_pos (by omega)]
  show xs[(-1 + (xs.length : Int)).toNat]? = some v
  rw [show (-1 + (xs.length : Int)).toNat = j by omega]
  exact hv
def NatsV (K : PySem.W.Frag) (H : Hp) (v : V) (e : Nat × Nat) : Prop := ∃ a, v = .ref a ∧ SqT K H a [.int ((e.1 : Nat) : Int), .int ((e.2 : Nat) : Int)]
theorem NatsV.tk {K : PySem.W.Frag} {H H' : Hp} {v : V} {e : Nat × Nat} (t : TK H H') (h : NatsV K H v e) : NatsV K H' v e := by
  obtain ⟨a, e', s⟩ := h
  exact ⟨a, e', t.seq s⟩
def spIsPiece (K : PySem.W.Frag) (C : Addr) : Sp := fun vs H Q _ => ∃ (p ng nw : Addr) (gs : List Gt) (ws : List Wr) (v : V) (pc : Pce), vs = [.ref p, v] ∧ NetAt K C H p ng nw gs ws ∧ NetOk gs ws ∧ PceV K H v pc ∧ PceOk gs ws pc ∧ ∀ H', Same H H' → Q (.bl true) H'
def spEndOf (K : PySem.W.Frag) (C : Addr) : Sp := fun vs H Q _ => ∃ (p ng nw : Addr) (gs : List Gt) (ws : List Wr) (v : V) (pc : Pce), vs = [.ref p, v] ∧ NetAt K C H p ng nw gs ws ∧ NetOk gs ws ∧ PceV K H v pc ∧ PceOk gs ws pc ∧ Q (.int ((endW ws pc.1 pc.2 : Nat) : Int)) H
def spEndsOf (K : PySem.W.Frag) (C : Addr) : Sp := fun vs H Q _ => ∃ (p ng nw : Addr) (gs : List Gt) (ws : List Wr) (v : V) (pc : Pce), vs = [.ref p, v] ∧ NetAt K C H p ng nw gs ws ∧ NetOk gs ws ∧ PceV K H v pc ∧ PceOk gs ws pc ∧ ∀ t H', Same H H' → H t = none → H' t = some (.tup [.int ((pc.1 : Nat) : Int), .int ((endW ws pc.1 pc.2 : Nat) : Int)]) → Q (.ref t) H'
def spFirstGap (K : PySem.W.Frag) (C : Addr) : Sp := fun vs H Q _ => ∃ (p ng nw le : Addr) (gs : List Gt) (ws : List Wr) (ev : List V) (es : List (Nat × Nat)), vs = [.ref p, .ref le] ∧ NetAt K C H p ng nw gs ws ∧ NetOk gs ws ∧ H le = some (.lst ev) ∧ All2 (NatsV K H) ev es ∧ (∀ e ∈ es, e.1 < gs.length ∧ e.2 < gs.length) ∧ Ringed gs es ∧ ∀ H', Same H H' → Q .non H'
/-- pieces that are a ring: told a fault only where their rooms are no less than nothing -/
def spBarFault (K : PySem.W.Frag) (C : Addr) : Sp := fun vs H Q _ => ∃ (p ng nw l : Addr) (gs : List Gt) (ws : List Wr) (b : Int) (pcs : List Pce), vs = [.ref p, .int b, .ref l] ∧ NetAt K C H p ng nw gs ws ∧ NetOk gs ws ∧ 0 ≤ b ∧ BarV K H l pcs ∧ pcs ≠ [] ∧ pcs.length ≤ 200 ∧ (∀ pc ∈ pcs, PceOk gs ws pc ∧ pc.2.length ≤ 1000) ∧ (∃ v, Jn gs ws v pcs v) ∧
  (roomsF gs ws b pcs < 0 → ∀ H', Same H H' → Q .non H') ∧ (0 ≤ roomsF gs ws b pcs → ∀ t H', Same H H' → H' t = some (.tup [.str "sum", .int (roomsF gs ws b pcs)]) → Q (.ref t) H')
theorem BarV.same {K : PySem.W.Frag} {H H' : Hp} {l : Addr} {pcs : List Pce} (s : Same H H') (h : BarV K H l pcs) : BarV K H' l pcs := by
  obtain ⟨pv, h1, h2⟩ := h
  exact ⟨pv, s _ _ h1, h2.imp fun _ _ r => r.same s⟩
section
variable {P : Program} {w : World} {K : PySem.W.Frag} {mg : Str → Option Value} {base : Heap}
abbrev nIsPiece : List Str := ["net", "thing", "gate", "wires", "place"]
theorem scIsPiece : FnScope nIsPiece ["net", "thing"] (defScope sIsPiece) := ⟨rfl, rfl, rfl, by decide +kernel, rfl, by decide +kernel, by decide +kernel⟩
abbrev DIsPiece (P : Program) (w : World) (K : PySem.W.Frag) (mg : Str → Option Value) (base : Heap) (C : Addr) := Df P w K mg base 3 "is_piece" ["net", "thing"] (spIsPiece K C)
theorem ok_isPiece {f fF C : Addr} {fd fdF : FuncData} (F : Fun K "is_piece" "is_piece" sIsPiece f fd) (hm : mg "is_piece" = some (.ref f)) (B : Bt mg) (T : NT K mg C) (DF : DFromTo P w K mg base fF fdF) : DIsPiece P w K mg base C f fd := by
  refine ⟨?_, hm, F.kp, F.binds fun _ _ _ _ _ _ us hl => match us, hl with | [_, _], _ => rfl⟩
  refine F.ok scIsPiece (fun vs H Q E h => ?_) (fun cdv A outer s H vs Q E hr h => ?_)
  · obtain ⟨p, ng, nw, gs, ws, v, pc, rfl, _⟩ := h
    rfl
  · obtain ⟨p, ng, nw, gs, ws, _, pc, rfl, NA, N, ⟨a, l, rfl, sa, sl⟩, ⟨hg, e0, hp⟩, q⟩ := h
    have nd := scIsPiece.nd
    refine ⟨_, pss_cons (ps_if (PW.pt (pw_or (pt_not (pt_val (pe_callB call_isi (by rfl) B.isi (by decide +kernel) (pa_cons (pv 1) (pa_cons (pe_bltn (v := .ty "tuple") (by rfl) B.tuple (by decide +kernel) rfl) pa_nil))))) (pw_or1 (pt_cmpR op_ne (pe_callB call_len_seq (by rfl) B.len PySem.boot_len (pa_cons (pv 1) pa_nil)) pe_int (nomark _))))) (pss_one (ps_ret pe_bl)) pss_nil) <|
        pss_cons (ps_asg (pv 1) (pg_tup rfl (pgs_cons (pg_name (i := 2) nd rfl (.inl rfl)) (pgs_cons (pg_name (i := 3) nd rfl (.inl rfl)) pgs_nil)))) <|
        pss_cons (ps_if (PW.pt (pw_or (pt_not (pt_val (pe_call DF.ok (hr.mono (by decide)) (by rfl) DF.mg DF.kp DF.bd .nil pass0 (pa_cons (pv 2) (pa_cons pe_int (pa_cons (pe_op op_sub (pe_callB call_len_seq (by rfl) B.len PySem.boot_len (pa_cons (pe_fld (pv 0) rfl) pa_nil)) pe_int) pa_nil)))))) (pw_or1 (pt_not (pt_val (pe_callB call_isi (by rfl) B.isi (by decide +kernel) (pa_cons (pv 3) (pa_cons (pe_bltn (v := .ty "list") (by rfl) B.list (by decide +kernel) rfl) pa_nil)))))))) (pss_one (ps_ret pe_bl)) pss_nil) <|
        pss_cons (ps_for PassesOwn.never rfl (pi_list (pv 3)) (pg_name (i := 4) nd rfl (.inl rfl)) (pss_cons (ps_if (PW.pt (pw_or (pt_not (pt_val (pe_call DF.ok (hr.mono (by decide)) (by rfl) DF.mg DF.kp DF.bd .nil pass0 (pa_cons (pv 4) (pa_cons pe_int (pa_cons (pe_op op_sub (pe_callB call_len_seq (by rfl) B.len PySem.boot_len (pa_cons (pe_fld (pv 0) rfl) pa_nil)) pe_int) pa_nil)))))) (pw_or1 (pt_cmpR op_ne (pe_ix ix_tup (pe_ix ix_list (pe_fld (pv 0) rfl) (pv 4) (fun _ _ => rfl)) pe_int (fun _ _ => rfl)) (pv 2) (nomark _))))) (pss_one (ps_ret pe_bl)) pss_nil) <|
        pss_one (ps_set (i := 2) nd rfl (.inl rfl) (pe_ix ix_tup (pe_ix ix_list (pe_fld (pv 0) rfl) (pv 4) (fun _ _ => rfl)) pe_int (fun _ _ => rfl))))) <|
        pss_one (ps_ret pe_bl), ?_⟩
    obtain ⟨dx, ob⟩ := id NA.ob
    obtain ⟨gv, hgv, ga⟩ := id NA.g
    obtain ⟨wv, hwv, wa⟩ := id NA.w
    have hlw : wv.length = ws.length := wa.1
    have hlg : gv.length = gs.length := ga.1
    refine ⟨_, rfl, _, _, _, _, true, rfl, .ty "tuple", ty_tup sa, kit_ty (by decide +kernel), true, rfl, iteF ?_⟩
    refine ⟨_, rfl, a, _, rfl, .inr sa, rfl, false, rfl, iteF ?_⟩
    refine ⟨_, rfl, a, _, rfl, sa, rfl, _, _, rfl, _, _, rfl, rfl, ?_⟩
    refine ⟨_, rfl, _, rfl, p, C, dx, _, _, rfl, ob, T.cl, T.nG, nf_gates _ _, ng, gv, rfl, .inl (SqL.of hgv), _, _, rfl, rfl, ((pc.1 : Nat) : Int), 0, _, rfl, true, ?_, iteF ?_⟩
    · show V.bl (decide ((0 : Int) ≤ ((pc.1 : Nat) : Int)) && decide (((pc.1 : Nat) : Int) ≤ ((gv.length : Nat) : Int) - 1)) = V.bl true
      rw [decide_eq_true (by omega), decide_eq_true (by omega)]
      rfl
    refine ⟨_, rfl, _, _, _, _, true, rfl, .ty "list", ty_lst sl, kit_ty (by decide +kernel), true, rfl, iteF ?_⟩
    refine ⟨_, rfl, l, rfl, ⟨_, sl⟩, for_list (K := K) (a := l) (xs := nvs pc.2) (fun i σ H' => ∃ (g : Nat) (u4 : Option V), σ = [some (.ref p), some (.ref a), some (.int ((g : Nat) : Int)), some (.ref l), u4] ∧ Pw ws pc.1 (pc.2.take i) g ∧ Same H H') ⟨pc.1, _, rfl, rfl, Same.refl H⟩ (fun i σ H2 _ ⟨_, _, _, _, sm⟩ => sm.seq sl) ?_ ?_⟩
    · rintro i v σ H1 hv ⟨g, u4, rfl, hpw, sm⟩
      obtain ⟨k, hk, rfl⟩ := nvs_of hv
      have hkw := hp.places k (List.mem_of_getElem? hk)
      have hx := List.getElem?_eq_getElem hkw
      obtain ⟨_, hv', b, b2, rfl, s1, s2⟩ := wa.getR hx
      obtain ⟨hil, hke⟩ := List.getElem?_eq_some_iff.mp hk
      have es : pc.2 = pc.2.take i ++ k :: pc.2.drop (i + 1) := by
        rw [← hke, List.getElem_cons_drop hil, List.take_append_drop]
      have hgx : ws[k].1 = g := by
        rw [es] at hp
        obtain ⟨m, h1, x, hx', hs, _⟩ := hp.split
        rw [hx] at hx'
        cases hx'
        rw [hs]
        exact h1.fn hpw
      have tk := TK.same sm
      refine gn_norm (σ' := [some (.ref p), some (.ref a), some (.int ((g : Nat) : Int)), some (.ref l), some (.int ((k : Nat) : Int))]) rfl ?_
      refine ⟨_, rfl, _, rfl, p, C, dx, _, _, rfl, sm _ _ ob, T.cl, T.nW, nf_wires _ _, nw, wv, rfl, .inl (SqL.of (sm _ _ hwv)), _, _, rfl, rfl, ((k : Nat) : Int), 0, _, rfl, true, ?_, iteF ?_⟩
      · show V.bl (decide ((0 : Int) ≤ ((k : Nat) : Int)) && decide (((k : Nat) : Int) ≤ ((wv.length : Nat) : Int) - 1)) = V.bl true
        rw [decide_eq_true (by omega), decide_eq_true (by omega)]
        rfl
      refine ⟨_, rfl, p, C, dx, _, _, rfl, sm _ _ ob, T.cl, T.nW, nf_wires _ _, _, rfl, nw, _, k, _, rfl, rfl, SqL.of (sm _ _ hwv), atI_nat hv', b, _, 0, _, rfl, rfl, tk.seq s1, atI_nat (j := 0) rfl, _, rfl, rfl, false, ?_, iteF ?_⟩
      · rw [hgx, decide_eq_true rfl]
        rfl
      refine ⟨_, rfl, p, C, dx, _, _, rfl, sm _ _ ob, T.cl, T.nW, nf_wires _ _, _, rfl, nw, _, k, _, rfl, rfl, SqL.of (sm _ _ hwv), atI_nat hv', b, _, 1, _, rfl, rfl, tk.seq s1, atI_nat (j := 1) rfl, ws[k].2.1, _, rfl, ?_, sm⟩
      rw [List.take_add_one, hk]
      exact hpw.snoc hx hgx
    · rintro σ H1 ⟨g, u4, rfl, hpw, sm⟩
      exact q H1 sm
abbrev nEndOf : List Str := ["net", "piece", "gate", "wires"]
theorem scEndOf : FnScope nEndOf ["net", "piece"] (defScope sEndOf) := ⟨rfl, rfl, rfl, by decide +kernel, rfl, by decide +kernel, by decide +kernel⟩
abbrev DEndOf (P : Program) (w : World) (K : PySem.W.Frag) (mg : Str → Option Value) (base : Heap) (C : Addr) := Df P w K mg base 1 "end_of" ["net", "piece"] (spEndOf K C)
theorem ok_endOf {f C : Addr} {fd : FuncData} (F : Fun K "end_of" "end_of" sEndOf f fd) (hm : mg "end_of" = some (.ref f)) (B : Bt mg) (T : NT K mg C) : DEndOf P w K mg base C f fd := by
  refine ⟨?_, hm, F.kp, F.binds fun _ _ _ _ _ _ us hl => match us, hl with | [_, _], _ => rfl⟩
  refine F.ok scEndOf (fun vs H Q E h => ?_) (fun cdv A outer s H vs Q E hr h => ?_)
  · obtain ⟨p, ng, nw, gs, ws, v, pc, rfl, _⟩ := h
    rfl
  · obtain ⟨p, ng, nw, gs, ws, _, pc, rfl, NA, N, ⟨a, l, rfl, sa, sl⟩, ⟨hg, e0, hp⟩, q⟩ := h
    have nd := scEndOf.nd
    refine ⟨_, pss_cons (ps_asg (pv 1) (pg_tup rfl (pgs_cons (pg_name (i := 2) nd rfl (.inl rfl)) (pgs_cons (pg_name (i := 3) nd rfl (.inl rfl)) pgs_nil)))) <|
        pss_one (ps_ret (pe_ifExp (pt_cmpR op_gt (pe_callB call_len_seq (by rfl) B.len PySem.boot_len (pa_cons (pv 3) pa_nil)) pe_int (nomark _)) (pe_ix ix_tup (pe_ix ix_list (pe_fld (pv 0) rfl) (pe_ix ix_list (pv 3) (pe_un un_neg pe_int) (fun _ _ => rfl)) (fun _ _ => rfl)) pe_int (fun _ _ => rfl)) (pv 2))), ?_⟩
    obtain ⟨dx, ob⟩ := id NA.ob
    obtain ⟨wv, hwv, wa⟩ := id NA.w
    refine ⟨_, rfl, a, _, rfl, sa, rfl, _, _, rfl, _, _, rfl, rfl, ?_⟩
    refine ⟨_, rfl, l, nvs pc.2, rfl, .inl sl, _, _, rfl, rfl, _, rfl, ite2 (fun e => ?_) (fun e => ?_)⟩
    · have hne : 0 < pc.2.length := by
        have := of_decide_eq_true e
        rw [nvs_len] at this
        omega
      rcases List.eq_nil_or_concat pc.2 with z | ⟨r, k, z⟩
      · rw [z] at hne
        cases hne
      · rw [List.concat_eq_append] at z
        have hkk := hp.places k (by rw [z]; exact List.mem_append.mpr (.inr (List.mem_singleton.mpr rfl)))
        have hx := List.getElem?_eq_getElem hkk
        obtain ⟨_, hv', b, b2, rfl, s1, s2⟩ := wa.getR hx
        have hl : (nvs pc.2).length = r.length + 1 := by
          rw [nvs_len, z, List.length_append]
          rfl
        have hlast : (nvs pc.2)[r.length]? = some (.int ((k : Nat) : Int)) := nvs_at (by rw [z, List.getElem?_append_right (Nat.le_refl _), Nat.sub_self]; rfl)
        refine ⟨_, rfl, p, C, dx, _, _, rfl, ob, T.cl, T.nW, nf_wires _ _, _, rfl, _, rfl, l, nvs pc.2, -1, _, rfl, rfl, sl, at_last hl hlast, nw, _, k, _, rfl, rfl, SqL.of hwv, atI_nat hv', b, _, 1, _, rfl, rfl, s1, atI_nat (j := 1) rfl, ?_⟩
        have : endW ws pc.1 pc.2 = (ws[k]'hkk).2.1 := by
          rw [z]
          unfold endW
          rw [List.foldl_append]
          show (svW ws k).2.1 = _
          rw [svW_get hx]
        rw [← this]
        exact q
    · have h0 : pc.2 = [] := by
        refine List.length_eq_zero_iff.mp ?_
        have : ¬ (((nvs pc.2).length : Nat) : Int) > 0 := fun h => e (decide_eq_true h)
        rw [nvs_len] at this
        omega
      have : endW ws pc.1 pc.2 = pc.1 := by rw [h0]; rfl
      rw [this] at q
      exact ⟨_, rfl, q⟩
abbrev nEndsOf : List Str := ["net", "piece"]
theorem scEndsOf : FnScope nEndsOf ["net", "piece"] (defScope sEndsOf) := ⟨rfl, rfl, rfl, by decide +kernel, rfl, by decide +kernel, by decide +kernel⟩
abbrev DEndsOf (P : Program) (w : World) (K : PySem.W.Frag) (mg : Str → Option Value) (base : Heap) (C : Addr) := Df P w K mg base 2 "ends_of" ["net", "piece"] (spEndsOf K C)
theorem ok_endsOf {f fE C : Addr} {fd fdE : FuncData} (F : Fun K "ends_of" "ends_of" sEndsOf f fd) (hm : mg "ends_of" = some (.ref f)) (DEo : DEndOf P w K mg base C fE fdE) : DEndsOf P w K mg base C f fd := by
  refine ⟨?_, hm, F.kp, F.binds fun _ _ _ _ _ _ us hl => match us, hl with | [_, _], _ => rfl⟩
  refine F.ok scEndsOf (fun vs H Q E h => ?_) (fun cdv A outer s H vs Q E hr h => ?_)
  · obtain ⟨p, ng, nw, gs, ws, v, pc, rfl, _⟩ := h
    rfl
  · obtain ⟨p, ng, nw, gs, ws, _, pc, rfl, NA, N, pcv, pok, q⟩ := h
    have nd := scEndsOf.nd
    refine ⟨_, pss_one (ps_ret (pe_tup (pa_cons (pe_ix ix_tup (pv 1) pe_int (fun _ _ => rfl)) (pa_cons (pe_call DEo.ok (hr.mono (by decide)) (by rfl) DEo.mg DEo.kp DEo.bd .nil pass0 (pa_cons (pv 0) (pa_cons (pv 1) pa_nil))) pa_nil)))), ?_⟩
    obtain ⟨a, l, rfl, sa, sl⟩ := id pcv
    exact ⟨_, rfl, a, _, 0, _, rfl, rfl, sa, atI_nat (j := 0) rfl, _, rfl, _, rfl, p, ng, nw, gs, ws, _, pc, rfl, NA, N, pcv, pok, (by show 2 ≤ sizeLine; decide), fun t ht => q t _ (same_new ht) ht upd_same⟩
abbrev nFirstGap : List Str := ["net", "ends", "spots", "k", "start", "end", "behind"]
theorem scFirstGap : FnScope nFirstGap ["net", "ends"] (defScope sFirstGap) := ⟨rfl, rfl, rfl, by decide +kernel, rfl, by decide +kernel, by decide +kernel⟩
abbrev DFirstGap (P : Program) (w : World) (K : PySem.W.Frag) (mg : Str → Option Value) (base : Heap) (C : Addr) := Df P w K mg base 3 "first_gap" ["net", "ends"] (spFirstGap K C)
theorem ok_firstGap {f fS C : Addr} {fd fdS : FuncData} (F : Fun K "first_gap" "first_gap" sFirstGap f fd) (hm : mg "first_gap" = some (.ref f)) (B : Bt mg) (DSp : DSpotsOf P w K mg base C fS fdS) : DFirstGap P w K mg base C f fd := by
  refine ⟨?_, hm, F.kp, F.binds fun _ _ _ _ _ _ us hl => match us, hl with | [_, _], _ => rfl⟩
  refine F.ok scFirstGap (fun vs H Q E h => ?_) (fun cdv A outer s H vs Q E hr h => ?_)
  · obtain ⟨p, ng, nw, le, gs, ws, ev, es, rfl, _⟩ := h
    rfl
  · obtain ⟨p, ng, nw, le, gs, ws, ev, es, rfl, NA, N, hev, ea, elt, ring, q⟩ := h
    have nd := scFirstGap.nd
    refine ⟨_, pss_cons (ps_set (i := 2) nd rfl (.inl rfl) (pe_call DSp.ok (hr.mono (by decide)) (by rfl) DSp.mg DSp.kp DSp.bd .nil pass0 (pa_cons (pv 0) pa_nil))) <|
        pss_cons (ps_for PassesOwn.never rfl (pi_enum (by rfl) B.enum (pa_cons (pv 1) pa_nil)) (pg_tup rfl (pgs_cons (pg_name (i := 3) nd rfl (.inl rfl)) (pgs_cons (pg_tup rfl (pgs_cons (pg_name (i := 4) nd rfl (.inl rfl)) (pgs_cons (pg_name (i := 5) nd rfl (.inl rfl)) pgs_nil))) pgs_nil))) (pss_cons (ps_set (i := 6) nd rfl (.inl rfl) (pe_ix ix_list (pv 1) (pe_op op_mod (pe_op op_add (pv 3) pe_int) (pe_callB call_len_seq (by rfl) B.len PySem.boot_len (pa_cons (pv 1) pa_nil))) (fun _ _ => rfl))) <|
        pss_one (ps_if (pt_cmpR op_ne (pe_ix ix_list (pv 2) (pv 5) (fun _ _ => rfl)) (pe_ix ix_list (pv 2) (pe_ix ix_tup (pv 6) pe_int (fun _ _ => rfl)) (fun _ _ => rfl)) (nomark _)) (pss_one (ps_ret (pv 3))) pss_nil))) <|
        pss_one (ps_ret pe_non), ?_⟩
    have hle : ev.length = es.length := ea.1
    refine ⟨_, rfl, p, ng, nw, gs, ws, rfl, NA, N, fun ls H1 s1 hls els => ?_⟩
    refine gn_norm (σ' := [some (.ref p), some (.ref le), some (.ref ls), none, none, none, none]) rfl ?_
    refine ⟨_, rfl, le, ev, rfl, SqL.of (s1 _ _ hev), for_it (walk_enum (K := K) (a := le) (xs := ev)) (fun j σ H' => ∃ (u3 u4 u5 u6 : Option V), σ = [some (.ref p), some (.ref le), some (.ref ls), u3, u4, u5, u6] ∧ Same H1 H') ⟨_, _, _, _, rfl, Same.refl _⟩ (fun j σ H' _ ⟨_, _, _, _, _, sm⟩ => SqL.of (sm _ _ (s1 _ _ hev))) ?_ ?_⟩
    · rintro j v σ H7 H7' hj ⟨u3, u4, u5, u6, rfl, sm⟩ ⟨T', x1, y, rfl, hT, rfl, ex, ey⟩
      cases ex
      obtain ⟨e, he, a, rfl, sq⟩ := ea.get ey
      have hji : j < es.length := (List.getElem?_eq_some_iff.mp he).1
      have sT := same_new (o := .tup [.int (j : Nat), .ref a]) hT
      have eT : (upd H7 T' (.tup [.int (j : Nat), .ref a])) T' = some (.tup [.int (j : Nat), .ref a]) := upd_same
      have sm8 := sm.trans sT
      generalize upd H7 T' (.tup [.int (j : Nat), .ref a]) = H8 at sT eT sm8
      have tk8 := TK.same (s1.trans sm8)
      obtain ⟨e', he', hsp⟩ := ring j e he
      obtain ⟨_, hve', a', rfl, sq'⟩ := ea.getR he'
      have hev8 := sm8 _ _ (s1 _ _ hev)
      have els8 := sm8 _ _ els
      have lt1 := (elt e (List.mem_of_getElem? he)).2
      have lt2 := (elt e' (List.mem_of_getElem? he')).1
      refine ⟨T', _, rfl, .inl (.inl eT), rfl, _, _, rfl, _, _, rfl, a, _, rfl, tk8.seq sq, rfl, _, _, rfl, _, _, rfl, rfl, rfl, ?_⟩
      refine ⟨_, rfl, _, rfl, _, _, rfl, rfl, _, rfl, le, ev, rfl, .inl (SqL.of hev8), _, _, rfl, rfl, (by show (0 : Int) < ((ev.length : Nat) : Int); omega), ?_⟩
      have em : (((j : Nat) : Int) + 1) % ((ev.length : Nat) : Int) = (((j + 1) % es.length : Nat) : Int) := by
        rw [hle, Int.natCast_emod]
        rfl
      refine ⟨le, ev, (((j + 1) % es.length : Nat) : Int), _, rfl, congrArg V.int em, SqL.of hev8, atI_nat hve', ?_⟩
      refine gn_norm (σ' := [some (.ref p), some (.ref le), some (.ref ls), some (.int ((j : Nat) : Int)), some (.int ((e.1 : Nat) : Int)), some (.int ((e.2 : Nat) : Int)), some (.ref a')]) rfl ?_
      refine ⟨_, rfl, _, rfl, ls, _, e.2, _, rfl, rfl, SqL.of els8, atI_nat (spots_at lt1), _, rfl, _, rfl, a', _, 0, _, rfl, rfl, tk8.seq sq', atI_nat (j := 0) rfl, ls, _, e'.1, _, rfl, rfl, SqL.of els8, atI_nat (spots_at lt2), rfl, false, ?_, iteF ⟨_, _, _, _, rfl, sm8⟩⟩
      rw [hsp, decide_eq_true rfl]
      rfl
    · rintro σ H7 ⟨u3, u4, u5, u6, rfl, sm⟩
      exact q H7 (s1.trans sm)
abbrev nBarFault : List Str := ["net", "beat", "thing", "piece", "gap", "room"]
theorem scBarFault : FnScope nBarFault ["net", "beat", "thing"] (defScope sBarFault) := ⟨rfl, rfl, rfl, by decide +kernel, rfl, by decide +kernel, by decide +kernel⟩
abbrev DBarFault (P : Program) (w : World) (K : PySem.W.Frag) (mg : Str → Option Value) (base : Heap) (C : Addr) := Df P w K mg base 4 "bar_fault" ["net", "beat", "thing"] (spBarFault K C)
theorem ok_barFault {f fC fI fE fG fR C : Addr} {fd fdC fdI fdE fdG fdR : FuncData} (F : Fun K "bar_fault" "bar_fault" sBarFault f fd) (hm : mg "bar_fault" = some (.ref f)) (B : Bt mg) (ms : mg "sum" = none) (DCb : DChkB P w K mg base fC fdC) (DIp : DIsPiece P w K mg base C fI fdI) (DEs : DEndsOf P w K mg base C fE fdE) (DFg : DFirstGap P w K mg base C fG fdG) (DRm : DRoomOf P w K mg base C fR fdR) : DBarFault P w K mg base C f fd := by
  refine ⟨?_, hm, F.kp, F.binds fun _ _ _ _ _ _ us hl => match us, hl with | [_, _, _], _ => rfl⟩
  refine F.ok scBarFault (fun vs H Q E h => ?_) (fun cdv A outer s H vs Q E hr h => ?_)
  · obtain ⟨p, ng, nw, l, gs, ws, b, pcs, rfl, _⟩ := h
    rfl
  · obtain ⟨p, ng, nw, l, gs, ws, b, pcs, rfl, NA, N, hb, bar, hne, hl2, pok, ⟨v0, jn⟩, q1, q2⟩ := h
    have nd := scBarFault.nd
    refine ⟨_, pss_cons (ps_expr (pe_call DCb.ok (hr.mono (by decide)) (by rfl) DCb.mg DCb.kp DCb.bd .nil pass0 (pa_cons (pv 1) pa_nil))) <|
        pss_cons (ps_if (PW.pt (pw_or (pt_not (pt_val (pe_callB call_isi (by rfl) B.isi (by decide +kernel) (pa_cons (pv 2) (pa_cons (pe_bltn (v := .ty "list") (by rfl) B.list (by decide +kernel) rfl) pa_nil))))) (pw_or1 (pt_cmpR op_eq (pe_callB call_len_seq (by rfl) B.len PySem.boot_len (pa_cons (pv 2) pa_nil)) pe_int (nomark _))))) (pss_one (ps_ret (pe_tup (pa_cons pe_str pa_nil)))) pss_nil) <|
        pss_cons (ps_if (pt_not (pt_val (pe_callB (cr_all rfl) (by rfl) B.all (by decide +kernel) (pa_cons (pe_lc (own := [("piece", 3)]) (g := (gName 3)) (tt := tYes) (te := (tCall (spIsPiece K C) [] E0 (tCons (tVar 0) (tCons (tVar 3) tNil)))) rfl nd (pi_list (pv 2)) (blkOk_by (N := nBarFault) (sc := defScope sBarFault) (own := [("piece", 3)]) (by decide +kernel)) (fun _ _ _ _ _ => (pg_name (i := 3) nd rfl (.inl rfl))) (fun _ _ _ _ _ => pts_nil) (fun _ _ _ _ _ => (pe_call DIp.ok (hr.mono (by decide)) (by rfl) DIp.mg DIp.kp DIp.bd .nil pass0 (pa_cons (pv 0) (pa_cons (pv 3) pa_nil))))) pa_nil)))) (pss_one (ps_ret (pe_tup (pa_cons pe_str pa_nil)))) pss_nil) <|
        pss_cons (ps_set (i := 4) nd rfl (.inl rfl) (pe_call DFg.ok (hr.mono (by decide)) (by rfl) DFg.mg DFg.kp DFg.bd .nil pass0 (pa_cons (pv 0) (pa_cons (pe_lc (own := [("piece", 3)]) (g := (gName 3)) (tt := tYes) (te := (tCall (spEndsOf K C) [] E0 (tCons (tVar 0) (tCons (tVar 3) tNil)))) rfl nd (pi_list (pv 2)) (blkOk_by (N := nBarFault) (sc := defScope sBarFault) (own := [("piece", 3)]) (by decide +kernel)) (fun _ _ _ _ _ => (pg_name (i := 3) nd rfl (.inl rfl))) (fun _ _ _ _ _ => pts_nil) (fun _ _ _ _ _ => (pe_call DEs.ok (hr.mono (by decide)) (by rfl) DEs.mg DEs.kp DEs.bd .nil pass0 (pa_cons (pv 0) (pa_cons (pv 3) pa_nil))))) pa_nil)))) <|
        pss_cons (ps_if (pt_cmpR op_notN (pv 4) pe_non (nomark _)) (pss_one (ps_ret (pe_tup (pa_cons pe_str (pa_cons (pv 4) pa_nil))))) pss_nil) <|
        pss_cons (ps_set (i := 5) nd rfl (.inl rfl) (pe_callB (cr_sum rfl) (by rfl) ms (by decide +kernel) (pa_cons (pe_lc (own := [("piece", 3)]) (g := (gName 3)) (tt := tYes) (te := (tCall (spRoomOf K C) [] E0 (tCons (tVar 0) (tCons (tVar 1) (tCons (tVar 3) tNil))))) rfl nd (pi_list (pv 2)) (blkOk_by (N := nBarFault) (sc := defScope sBarFault) (own := [("piece", 3)]) (by decide +kernel)) (fun _ _ _ _ _ => (pg_name (i := 3) nd rfl (.inl rfl))) (fun _ _ _ _ _ => pts_nil) (fun _ _ _ _ _ => (pe_call DRm.ok (hr.mono (by decide)) (by rfl) DRm.mg DRm.kp DRm.bd .nil pass0 (pa_cons (pv 0) (pa_cons (pv 1) (pa_cons (pv 3) pa_nil)))))) pa_nil))) <|
        pss_one (ps_ret (pe_ifExp (pt_cmpR op_ge (pv 5) pe_int (nomark _)) (pe_tup (pa_cons pe_str (pa_cons (pv 5) pa_nil))) pe_non)), ?_⟩
    obtain ⟨pv, hpv, pa⟩ := id bar
    have hpl : pv.length = pcs.length := pa.1
    have hpos : 0 < pcs.length := List.length_pos_iff.mpr hne
    refine ⟨_, rfl, b, rfl, hb, ?_⟩
    refine ⟨_, rfl, _, _, _, _, true, rfl, .ty "list", ty_lst (SqL.of hpv), kit_ty (by decide +kernel), true, rfl, iteF ?_⟩
    refine ⟨_, rfl, l, pv, rfl, .inl (SqL.of hpv), rfl, false, ?_, iteF ?_⟩
    · show V.bl (decide (V.int ((pv.length : Nat) : Int) = V.int 0)) = V.bl false
      rw [decide_eq_false fun z => by have := V.int.inj z; omega]
    -- all are pieces
    refine ⟨_, rfl, l, rfl, ⟨_, SqL.of hpv⟩, fun D hD => ?_⟩
    refine lc_list (K := K) (a := l) (xs := pv) (fun i Hc => Hc D = some (.lst ((List.replicate i true).map V.bl)) ∧ Same H Hc) ⟨upd_same, same_new hD⟩ (fun i Hc _ ⟨_, sm⟩ => SqL.of (sm _ _ hpv)) ?_ ?_
    · rintro i v Hc hv ⟨hc, sm⟩
      obtain ⟨pc, hpc, pcv⟩ := pa.get hv
      have hi : i < pcs.length := (List.getElem?_eq_some_iff.mp hpc).1
      refine ⟨rfl, tyes ?_⟩
      refine ⟨_, rfl, _, rfl, p, ng, nw, gs, ws, _, pc, rfl, NA.same sm, N, pcv.same sm, (pok pc (List.mem_of_getElem? hpc)).1, fun H2 s2 => ?_⟩
      refine ⟨_, s2 _ _ hc, ?_, ?_, same_mut (sm.trans s2) hD⟩
      · rw [List.length_map, List.length_replicate]
        exact small1000 (by omega)
      · rw [upd_same, List.replicate_succ', List.map_append]
        rfl
    rintro H1 ⟨h1, s1⟩
    refine ⟨D, List.replicate pv.length true, rfl, SqL.of h1, true, ?_, iteF ?_⟩
    · have : ∀ n : Nat, (List.replicate n true).all id = true := fun n => by
        rw [List.all_eq_true]
        intro x hx
        exact List.eq_of_mem_replicate hx
      rw [this]
    have hpv1 := s1 _ _ hpv
    have pa1 := pa.imp fun _ _ r => PceV.same s1 r
    -- no gap
    refine ⟨_, rfl, _, rfl, l, rfl, ⟨_, SqL.of hpv1⟩, fun D2 hD2 => ?_⟩
    refine lc_list (K := K) (a := l) (xs := pv) (fun i Hc => ∃ ev : List V, Hc D2 = some (.lst ev) ∧ ev.length = i ∧ All2 (NatsV K Hc) ev ((pcs.take i).map (endsF ws)) ∧ Same H1 Hc) ⟨[], upd_same, rfl, All2.nil, same_new hD2⟩ (fun i Hc _ ⟨_, _, _, _, sm⟩ => SqL.of (sm _ _ hpv1)) ?_ ?_
    · rintro i v Hc hv ⟨ev, hc, hel, ea, sm⟩
      obtain ⟨pc, hpc, pcv⟩ := pa1.get hv
      have hi : i < pcs.length := (List.getElem?_eq_some_iff.mp hpc).1
      refine ⟨rfl, tyes ?_⟩
      refine ⟨_, rfl, _, rfl, p, ng, nw, gs, ws, _, pc, rfl, (NA.same s1).same sm, N, pcv.same sm, (pok pc (List.mem_of_getElem? hpc)).1, fun t H2 s2 ht et => ?_⟩
      refine ⟨ev, s2 _ _ hc, small1000 (by omega), ev ++ [.ref t], upd_same, by rw [List.length_append, hel]; rfl, ?_, same_mut (sm.trans s2) hD2⟩
      rw [List.take_add_one, hpc, List.map_append]
      exact All2.pushT (fun t r => NatsV.tk t r) ea (s2 _ _ hc) (TK.same s2) ⟨t, rfl, .inl (.inl et)⟩
    rintro H2 ⟨ev, hev, hel, ea, s2⟩
    rw [hpl, List.take_length] at ea
    have s12 := s1.trans s2
    refine ⟨p, ng, nw, D2, gs, ws, ev, pcs.map (endsF ws), rfl, NA.same s12, N, hev, ea, fun e he => ?_, jn_ringed jn, fun H3 s3 => ?_⟩
    · obtain ⟨pc, hpc, rfl⟩ := List.mem_map.mp he
      obtain ⟨h1, e, h2⟩ := (pok pc hpc).1
      refine ⟨h1, ?_⟩
      show endW ws pc.1 pc.2 < gs.length
      rw [endW_of h2]
      exact h2.lt N h1
    refine gn_norm (σ' := [some (.ref p), some (.int b), some (.ref l), none, some .non, none]) rfl ?_
    refine ⟨_, rfl, rfl, _, rfl, iteF ?_⟩
    have s13 := s12.trans s3
    have hpv3 := s13 _ _ hpv
    have pa3 := pa.imp fun _ _ r => PceV.same s13 r
    -- the rooms
    refine ⟨_, rfl, l, rfl, ⟨_, SqL.of hpv3⟩, fun D3 hD3 => ?_⟩
    refine lc_list (K := K) (a := l) (xs := pv) (fun i Hc => Hc D3 = some (.lst (((pcs.take i).map (roomF gs ws b)).map V.int)) ∧ Same H3 Hc) ⟨upd_same, same_new hD3⟩ (fun i Hc _ ⟨_, sm⟩ => SqL.of (sm _ _ hpv3)) ?_ ?_
    · rintro i v Hc hv ⟨hc, sm⟩
      obtain ⟨pc, hpc, pcv⟩ := pa3.get hv
      have hi : i < pcs.length := (List.getElem?_eq_some_iff.mp hpc).1
      refine ⟨rfl, tyes ?_⟩
      refine ⟨_, rfl, _, rfl, _, rfl, p, ng, nw, gs, ws, b, _, pc, rfl, (NA.same s13).same sm, N, pcv.same sm, (pok pc (List.mem_of_getElem? hpc)).1, (pok pc (List.mem_of_getElem? hpc)).2, fun H4 s4 => ?_⟩
      refine ⟨_, s4 _ _ hc, ?_, ?_, same_mut (sm.trans s4) hD3⟩
      · rw [List.length_map, List.length_map, List.length_take]
        exact small1000 (by omega)
      · rw [upd_same, List.take_add_one, hpc, List.map_append, List.map_append]
        rfl
    rintro H4 ⟨h4, s4⟩
    rw [hpl, List.take_length] at h4
    have s14 := s13.trans s4
    refine ⟨D3, _, rfl, SqL.of h4, ?_⟩
    refine gn_norm (σ' := [some (.ref p), some (.int b), some (.ref l), none, some .non, some (.int (roomsF gs ws b pcs))]) rfl ?_
    refine ⟨_, rfl, _, _, rfl, rfl, _, rfl, ite2 (fun e => ?_) (fun e => ?_)⟩
    · refine ⟨_, rfl, (by show 2 ≤ sizeLine; decide), fun t ht => ?_⟩
      exact q2 (of_decide_eq_true e) t _ (s14.trans (same_new ht)) upd_same
    · refine q1 ?_ H4 s14
      have : ¬ roomsF gs ws b pcs ≥ 0 := fun h => e (decide_eq_true h)
      omega
end
end Lag

set_option maxRecDepth 100000
set_option maxHeartbeats 8000000
namespace Lag
open PySem PySem.Spec PyProof.Rows L2
theorem gn_normH {i : Nat} {x : V} {σ σ' : L2.St} {H H' : Hp} {N : L2.St → Hp → Prop} (e : σ.set i (some x) = σ') (eH : H = H') (h : N σ' H') : gName i x σ H N := by
  subst e
  subst eH
  exact h
/-! ### numbers for bounds: the mathematics of flows -/
def wsum (c : Bnd → Int) : List Bnd → List Int → Int
  | b :: bs, x :: f => c b * x + wsum c bs f
  | _, _ => 0
theorem wsum_nil (c : Bnd → Int) (f : List Int) : wsum c [] f = 0 := by cases f <;> rfl
theorem wsum_add (c : Bnd → Int) {b : Bnd} {d x : Int} : ∀ {bs : List Bnd} {f : List Int} {j : Nat}, bs[j]? = some b → f[j]? = some x → wsum c bs (f.set j (x + d)) = wsum c bs f + c b * d
  | [], f, j, h, _ => by cases h
  | b' :: bs, [], j, _, h => by cases h
  | b' :: bs, y :: f, 0, h1, h2 => by
    cases h1
    cases h2
    show c b * (x + d) + wsum c bs f = c b * x + wsum c bs f + c b * d
    rw [Int.mul_add]
    omega
  | b' :: bs, y :: f, j + 1, h1, h2 => by
    have ih := wsum_add c (d := d) (bs := bs) (f := f) (j := j) h1 h2
    show c b' * y + wsum c bs (f.set j (x + d)) = c b' * y + wsum c bs f + c b * d
    rw [ih]
    omega
theorem wsum_le {c c' : Bnd → Int} : ∀ {bs : List Bnd} {f : List Int}, (∀ b ∈ bs, c b ≤ c' b) → (∀ x ∈ f, 0 ≤ x) → wsum c bs f ≤ wsum c' bs f
  | [], f, _, _ => by rw [wsum_nil, wsum_nil]; exact Int.le_refl 0
  | b :: bs, [], _, _ => Int.le_refl 0
  | b :: bs, x :: f, h1, h2 => by
    have ih := wsum_le (bs := bs) (f := f) (fun y hy => h1 y (List.mem_cons_of_mem _ hy)) (fun y hy => h2 y (List.mem_cons_of_mem _ hy))
    have := Int.mul_le_mul_of_nonneg_right (h1 b (List.mem_cons_self ..)) (h2 x (List.mem_cons_self ..))
    show c b * x + wsum c bs f ≤ c' b * x + wsum c' bs f
    omega
theorem wsum_eq {c c' : Bnd → Int} : ∀ {bs : List Bnd} {f : List Int}, (∀ (j : Nat) (b : Bnd) (x : Int), bs[j]? = some b → f[j]? = some x → x = 0 ∨ c b = c' b) → wsum c bs f = wsum c' bs f
  | [], f, _ => by rw [wsum_nil, wsum_nil]
  | b :: bs, [], _ => rfl
  | b :: bs, x :: f, h => by
    have ih := wsum_eq (bs := bs) (f := f) (fun j b' x' h1 h2 => h (j + 1) b' x' h1 h2)
    show c b * x + wsum c bs f = c' b * x + wsum c' bs f
    rw [ih]
    rcases h 0 b x rfl rfl with e | e
    · rw [e, Int.mul_zero, Int.mul_zero]
    · rw [e]
def dF (F : Nat → Int) (b : Bnd) : Int := F b.1 - F b.2.1
def revB (b : Bnd) : Bnd := (b.2.1, b.1, -b.2.2)
/-- a function of bounds that a bound turned about has with the other sign -/
def Anti (c : Bnd → Int) : Prop := ∀ b, c (revB b) = -c b
theorem anti_dF (F : Nat → Int) : Anti (dF F) := fun b => by
  show F b.2.1 - F b.1 = -(F b.1 - F b.2.1)
  omega
theorem anti_room : Anti (fun b => b.2.2) := fun b => rfl
theorem PtB.tele {bs : List Bnd} (F : Nat → Int) : ∀ {js : List Nat} {s e : Nat}, PtB bs s js e → (js.map fun j => dF F (bAt bs j)).sum = F s - F e
  | [], s, e, h => by
    have h : s = e := h
    rw [h]
    show (0 : Int) = F e - F e
    omega
  | j :: r, s, e, ⟨b, h1, h2, h3⟩ => by
    rw [List.map_cons, List.sum_cons, bAt_get h1, PtB.tele F h3]
    show F b.1 - F b.2.1 + _ = _
    rw [h2]
    omega
/-! ### the bounds, and those with a number above 0 the other way round -/
abbrev Kpt := Bnd × Nat × Int
def KOk (bs : List Bnd) (f : List Int) (e : Kpt) : Prop := ∃ b, bs[e.2.1]? = some b ∧ ((e.2.2 = 1 ∧ e.1 = b) ∨ (e.2.2 = -1 ∧ e.1 = revB b ∧ 0 < f.getD e.2.1 0))
structure Kept (bs : List Bnd) (f : List Int) (ks : List Kpt) : Prop where
  ok : ∀ e ∈ ks, KOk bs f e
  fwd : ∀ j b, bs[j]? = some b → (b, j, 1) ∈ ks
  bwd : ∀ j b, bs[j]? = some b → 0 < f.getD j 0 → (revB b, j, -1) ∈ ks
theorem KOk.sign {bs : List Bnd} {f : List Int} {e : Kpt} (h : KOk bs f e) {c : Bnd → Int} (hc : Anti c) {b : Bnd} (hb : bs[e.2.1]? = some b) : c b * e.2.2 = c e.1 := by
  obtain ⟨b', h1, h2⟩ := h
  rw [hb] at h1
  cases h1
  rcases h2 with ⟨h3, h4⟩ | ⟨h3, h4, _⟩
  · rw [h3, h4, Int.mul_one]
  · rw [h3, h4, hc b]
    omega
theorem Kept.below {bs : List Bnd} {f : List Int} {ks : List Kpt} {n : Nat} (h : Kept bs f ks) (hb : ∀ b ∈ bs, b.1 < n ∧ b.2.1 < n) : ∀ b ∈ ks.map (fun e => e.1), b.1 < n ∧ b.2.1 < n := fun b hm => by
  obtain ⟨e, he, rfl⟩ := List.mem_map.mp hm
  obtain ⟨b, h1, h2⟩ := h.ok e he
  have := hb b (List.mem_of_getElem? h1)
  rcases h2 with ⟨_, h4⟩ | ⟨_, h4, _⟩
  · rw [h4]
    exact this
  · rw [h4]
    exact ⟨this.2, this.1⟩
theorem Kept.sat {bs : List Bnd} {f : List Int} {ks : List Kpt} (h : Kept bs f ks) {F : Nat → Int} (S : Sat (ks.map fun e => e.1) F) : Sat bs F ∧ ∀ j b, bs[j]? = some b → 0 < f.getD j 0 → F b.1 = F b.2.1 + b.2.2 := by
  have h1 : Sat bs F := fun b hb => by
    obtain ⟨j, hj⟩ := List.getElem?_of_mem hb
    exact S b (List.mem_map.mpr ⟨_, h.fwd j b hj, rfl⟩)
  refine ⟨h1, fun j b hb hp => ?_⟩
  have h2 := h1 b (List.mem_of_getElem? hb)
  have h3 := S (revB b) (List.mem_map.mpr ⟨_, h.bwd j b hb hp, rfl⟩)
  have h3 : F b.2.1 ≤ F b.1 + -b.2.2 := h3
  omega
/-- with numbers that fit: the room that the flow takes is what it leads down -/
theorem Kept.tight {bs : List Bnd} {f : List Int} {ks : List Kpt} (h : Kept bs f ks) (hf : ∀ x ∈ f, 0 ≤ x) {F : Nat → Int} (S : Sat (ks.map fun e => e.1) F) : wsum (dF F) bs f = wsum (fun b => b.2.2) bs f := by
  obtain ⟨_, h2⟩ := h.sat S
  refine wsum_eq fun j b x hb hx => ?_
  have hx0 := hf x (List.mem_of_getElem? hx)
  by_cases e : x = 0
  · exact .inl e
  · right
    have hg : f.getD j 0 = x := by rw [List.getD_eq_getElem?_getD, hx]; rfl
    have := h2 j b hb (by omega)
    show F b.1 - F b.2.1 = b.2.2
    omega
theorem Sat.cost {bs : List Bnd} {f : List Int} {F : Nat → Int} (S : Sat bs F) (hf : ∀ x ∈ f, 0 ≤ x) : wsum (dF F) bs f ≤ wsum (fun b => b.2.2) bs f := wsum_le (fun b hb => by
  have := S b hb
  show F b.1 - F b.2.1 ≤ b.2.2
  omega) hf
/-! ### a flow changed along a ring -/
def kAt (ks : List Kpt) (j : Nat) : Kpt := ks.getD j ((0, 0, 0), 0, 0)
theorem kAt_get {ks : List Kpt} {j : Nat} {e : Kpt} (h : ks[j]? = some e) : kAt ks j = e := by
  unfold kAt
  rw [List.getD_eq_getElem?_getD, h]
  rfl
theorem kAt_b {ks : List Kpt} {j : Nat} {e : Kpt} (h : ks[j]? = some e) : bAt (ks.map fun e => e.1) j = e.1 := bAt_get (by rw [List.getElem?_map, h]; rfl)
theorem PtB.js_lt {bs : List Bnd} : ∀ {js : List Nat} {s e : Nat}, PtB bs s js e → ∀ j ∈ js, j < bs.length
  | [], _, _, _, j, h => by cases h
  | i :: r, s, e, ⟨b, h1, _, h3⟩, j, h => by
    rcases List.mem_cons.mp h with e | h
    · rw [e]
      exact (List.getElem?_eq_some_iff.mp h1).1
    · exact h3.js_lt j h
/-- a ring of bounds kept -/
structure RingK (bs : List Bnd) (f : List Int) (ks : List Kpt) (js : List Nat) : Prop where
  ring : RingB (ks.map fun e => e.1) js
  nd : (js.map fun j => (bAt (ks.map fun e => e.1) j).1).Nodup
  k : Kept bs f ks
def backs (es : List Kpt) : List Kpt := es.filter fun e => decide (e.2.2 < 0)
/-- half way: after some of the ring's turns -/
structure Chg (bs : List Bnd) (f : List Int) (m : Int) (es : List Kpt) (g : List Int) : Prop where
  len : g.length = f.length
  sum : ∀ c, Anti c → wsum c bs g = wsum c bs f + m * (es.map fun e => c e.1).sum
  low : ∀ p, f.getD p 0 ≤ g.getD p 0 ∨ (f.getD p 0 - m ≤ g.getD p 0 ∧ ∃ e ∈ es, e.2.1 = p ∧ e.2.2 = -1)
theorem Chg.ini (bs : List Bnd) (f : List Int) (m : Int) : Chg bs f m [] f := ⟨rfl, fun c _ => by show _ = _ + m * 0; rw [Int.mul_zero]; omega, fun p => .inl (Int.le_refl _)⟩
theorem fgetD_set {ts : List Int} {i j : Nat} {v : Int} (h : i < ts.length) : (ts.set i v).getD j 0 = if i = j then v else ts.getD j 0 := by
  rw [List.getD_eq_getElem?_getD, List.getD_eq_getElem?_getD, List.getElem?_set]
  by_cases e : i = j
  · rw [if_pos e, if_pos e, if_pos h]
    rfl
  · rw [if_neg e, if_neg e]
theorem Chg.step {bs : List Bnd} {f g : List Int} {m : Int} {es : List Kpt} {e : Kpt} (h : Chg bs f m es g) (hm : 0 ≤ m) (hl : f.length = bs.length) (ho : KOk bs f e) (hn : e.2.2 = -1 → ∀ e' ∈ es, e'.2.1 = e.2.1 → e'.2.2 ≠ -1) : Chg bs f m (es ++ [e]) (g.set e.2.1 (g.getD e.2.1 0 + e.2.2 * m)) := by
  obtain ⟨b, hb, hd⟩ := id ho
  have hp : e.2.1 < g.length := by
    rw [h.len, hl]
    exact (List.getElem?_eq_some_iff.mp hb).1
  have hg : g[e.2.1]? = some (g.getD e.2.1 0) := by
    rw [List.getD_eq_getElem?_getD, List.getElem?_eq_getElem hp]
    rfl
  refine ⟨by rw [List.length_set]; exact h.len, fun c hc => ?_, fun p => ?_⟩
  · rw [wsum_add c hb hg, h.sum c hc, List.map_append, List.sum_append]
    have := ho.sign hc hb
    show _ + c b * (e.2.2 * m) = _ + m * (_ + (c e.1 + 0))
    rw [← this, Int.add_zero, Int.mul_add, ← Int.mul_assoc, Int.mul_comm (c b * e.2.2) m]
    omega
  · rw [fgetD_set hp]
    by_cases ep : e.2.1 = p
    · rw [if_pos ep]
      rw [ep]
      rcases hd with ⟨h1, _⟩ | ⟨h1, _, _⟩
      · rw [h1, Int.one_mul]
        rcases h.low p with h2 | ⟨h2, e', h3, h4⟩
        · exact .inl (by omega)
        · exact .inr ⟨by omega, e', List.mem_append.mpr (.inl h3), h4⟩
      · rw [h1]
        rcases h.low p with h2 | ⟨_, e', h3, h4, h5⟩
        · exact .inr ⟨by omega, e, List.mem_append.mpr (.inr (List.mem_singleton.mpr rfl)), ep, h1⟩
        · exact absurd h5 (hn h1 e' h3 (by rw [h4, ep]))
    · rw [if_neg ep]
      rcases h.low p with h2 | ⟨h2, e', h3, h4⟩
      · exact .inl h2
      · exact .inr ⟨h2, e', List.mem_append.mpr (.inl h3), h4⟩
theorem RingK.entry {bs : List Bnd} {f : List Int} {ks : List Kpt} {js : List Nat} (h : RingK bs f ks js) {j : Nat} (hj : j ∈ js) : ks[j]? = some (kAt ks j) ∧ KOk bs f (kAt ks j) := by
  obtain ⟨_, v, hp, _⟩ := h.ring
  have hl := hp.js_lt j hj
  rw [List.length_map] at hl
  have e := List.getElem?_eq_getElem hl
  rw [kAt_get e]
  exact ⟨e, h.k.ok _ (List.getElem_mem _)⟩
theorem nd_inj {α β : Type} {g : α → β} : ∀ {l : List α}, (l.map g).Nodup → ∀ {i j : Nat} {a b : α}, l[i]? = some a → l[j]? = some b → g a = g b → i = j := by
  intro l h i j a b hi hj e
  have h1 : (l.map g)[i]? = some (g a) := by rw [List.getElem?_map, hi]; rfl
  have h2 : (l.map g)[j]? = some (g a) := by rw [List.getElem?_map, hj, e]; rfl
  have li := (List.getElem?_eq_some_iff.mp h1).1
  have lj := (List.getElem?_eq_some_iff.mp h2).1
  exact (List.getElem?_inj li h).mp (h1.trans h2.symm)
/-- no bound is come by twice the other way round -/
theorem RingK.once {bs : List Bnd} {f : List Int} {ks : List Kpt} {js : List Nat} (h : RingK bs f ks js) {i j : Nat} {a b : Nat} (hi : js[i]? = some a) (hj : js[j]? = some b) (h1 : (kAt ks a).2.2 = -1) (h2 : (kAt ks b).2.2 = -1) (hp : (kAt ks a).2.1 = (kAt ks b).2.1) : i = j := by
  refine nd_inj h.nd hi hj ?_
  obtain ⟨ea, b1, g1, d1⟩ := h.entry (List.mem_of_getElem? hi)
  obtain ⟨eb, b2, g2, d2⟩ := h.entry (List.mem_of_getElem? hj)
  rw [kAt_b ea, kAt_b eb]
  rw [hp, g2] at g1
  cases g1
  rcases d1 with ⟨z, _⟩ | ⟨_, z1, _⟩
  · rw [h1] at z
    exact absurd z (by decide)
  · rcases d2 with ⟨z, _⟩ | ⟨_, z2, _⟩
    · rw [h2] at z
      exact absurd z (by decide)
    · rw [z1, z2]
theorem RingK.back {bs : List Bnd} {f : List Int} {ks : List Kpt} {js : List Nat} (h : RingK bs f ks js) {F : Nat → Int} (S : Sat bs F) : backs (js.map (kAt ks)) ≠ [] := by
  intro hb
  unfold backs at hb
  rw [List.filter_eq_nil_iff] at hb
  obtain ⟨hne, v, hp, hr⟩ := h.ring
  have all : ∀ {js' : List Nat} {s e : Nat}, (∀ j ∈ js', j ∈ js) → PtB (ks.map fun e => e.1) s js' e → F s ≤ F e + rsum (ks.map fun e => e.1) js' := by
    intro js'
    induction js' with
    | nil =>
      intro s e _ h
      have h : s = e := h
      rw [h]
      show F e ≤ F e + 0
      omega
    | cons j r ih =>
      intro s e hm ⟨bd, h1, h2, h3⟩
      have h4 := ih (fun k hk => hm k (List.mem_cons_of_mem _ hk)) h3
      have hj := hm j (List.mem_cons_self ..)
      obtain ⟨ea, b1, g1, d1⟩ := h.entry hj
      have hnb := hb (kAt ks j) (List.mem_map.mpr ⟨j, hj, rfl⟩)
      rw [rsum_cons h1]
      rw [List.getElem?_map, ea] at h1
      cases h1
      have h2 : (kAt ks j).1.1 = s := h2
      have h4 : F (kAt ks j).1.2.1 ≤ _ := h4
      show F s ≤ F e + ((kAt ks j).1.2.2 + rsum _ r)
      rcases d1 with ⟨_, z⟩ | ⟨z, _, _⟩
      · have := S b1 (List.mem_of_getElem? g1)
        rw [← z] at this
        rw [h2] at this
        omega
      · exact absurd (by rw [decide_eq_true_iff, z]; decide) hnb
  have := all (fun _ h => h) hp
  omega
theorem RingK.ksum {bs : List Bnd} {f : List Int} {ks : List Kpt} {js : List Nat} (h : RingK bs f ks js) (c : Bnd → Int) : ((js.map (kAt ks)).map fun e => c e.1).sum = (js.map fun j => c (bAt (ks.map fun e => e.1) j)).sum := by
  rw [List.map_map]
  refine congrArg List.sum (List.map_congr_left fun j hj => ?_)
  obtain ⟨ea, _⟩ := h.entry hj
  rw [kAt_b ea]
  rfl
/-- what a change along a ring does -/
structure Chgd (bs : List Bnd) (f g : List Int) : Prop where
  len : g.length = f.length
  nn : ∀ x ∈ g, 0 ≤ x
  tot : ∀ F, wsum (dF F) bs g = wsum (dF F) bs f
  cost : wsum (fun b => b.2.2) bs g < wsum (fun b => b.2.2) bs f
theorem Chg.fin {bs : List Bnd} {f g : List Int} {ks : List Kpt} {js : List Nat} {m : Int} (r : RingK bs f ks js) (hf : ∀ x ∈ f, 0 ≤ x) (hm : 0 < m) (hle : ∀ e ∈ backs (js.map (kAt ks)), m ≤ f.getD e.2.1 0) (h : Chg bs f m (js.map (kAt ks)) g) : Chgd bs f g := by
  obtain ⟨hne, v, hp, hr⟩ := r.ring
  refine ⟨h.len, fun x hx => ?_, fun F => ?_, ?_⟩
  · obtain ⟨p, hx⟩ := List.getElem?_of_mem hx
    have hg : g.getD p 0 = x := by rw [List.getD_eq_getElem?_getD, hx]; rfl
    have hpl : p < f.length := by rw [← h.len]; exact (List.getElem?_eq_some_iff.mp hx).1
    have h0 : 0 ≤ f.getD p 0 := by
      rw [List.getD_eq_getElem?_getD, List.getElem?_eq_getElem hpl]
      exact hf _ (List.getElem_mem _)
    rcases h.low p with h1 | ⟨h1, e, he, h2, h3⟩
    · omega
    · have := hle e (List.mem_filter.mpr ⟨he, by rw [decide_eq_true_iff, h3]; decide⟩)
      rw [h2] at this
      omega
  · rw [h.sum _ (anti_dF F), r.ksum, hp.tele F, Int.sub_self, Int.mul_zero, Int.add_zero]
  · have e : ((js.map (kAt ks)).map fun e => e.1.2.2).sum = (js.map fun j => (bAt (ks.map fun e => e.1) j).2.2).sum := r.ksum fun b => b.2.2
    rw [h.sum _ anti_room, e]
    have : m * (js.map fun j => (bAt (ks.map fun e => e.1) j).2.2).sum < 0 := Int.mul_neg_of_pos_of_neg hm hr
    omega
theorem Chgd.trans {bs : List Bnd} {f g k : List Int} (a : Chgd bs f g) (b : Chgd bs g k) : Chgd bs f k := ⟨b.len.trans a.len, b.nn, fun F => (b.tot F).trans (a.tot F), Int.lt_trans b.cost a.cost⟩
end Lag

set_option maxRecDepth 100000
set_option maxHeartbeats 8000000
namespace Lag
open PySem PySem.Spec PyProof.Rows L2
abbrev sBothWays : Stmt := topS 60 -- @both_ways
abbrev sChange : Stmt := topS 61 -- @change_along
abbrev sLeastFlow : Stmt := topS 59 -- @least_flow
def KptV (K : PySem.W.Frag) (H : Hp) (v : V) (e : Kpt) : Prop := ∃ a th, v = .ref a ∧ SqT K H a [.int ((e.1.1 : Nat) : Int), .int ((e.1.2.1 : Nat) : Int), .int e.1.2.2, .ref th] ∧ SqT K H th [.int ((e.2.1 : Nat) : Int), .int e.2.2]
theorem KptV.tk {K : PySem.W.Frag} {H H' : Hp} {v : V} {e : Kpt} (t : TK H H') (h : KptV K H v e) : KptV K H' v e := by
  obtain ⟨a, th, e', h1, h2⟩ := h
  exact ⟨a, th, e', t.seq h1, t.seq h2⟩
theorem KptV.bnd {K : PySem.W.Frag} {H : Hp} {v : V} {e : Kpt} (h : KptV K H v e) : BndV K H v e.1 := by
  obtain ⟨a, th, e', h1, _⟩ := h
  exact ⟨a, _, e', h1⟩
theorem kpt_bnd {K : PySem.W.Frag} {H : Hp} {kv : List V} {ks : List Kpt} (h : All2 (KptV K H) kv ks) : All2 (BndV K H) kv (ks.map fun e => e.1) := by
  refine ⟨by rw [List.length_map]; exact h.1, fun i v b hv hb => ?_⟩
  rw [List.getElem?_map] at hb
  cases e : ks[i]? with
  | none => rw [e] at hb; cases hb
  | some k =>
    rw [e] at hb
    cases hb
    exact (h.2 i v k hv e).bnd
/-- half way: the bounds ahead of i -/
structure KeptI (bs : List Bnd) (f : List Int) (i : Nat) (ks : List Kpt) : Prop where
  ok : ∀ e ∈ ks, KOk bs f e
  fwd : ∀ j b, j < i → bs[j]? = some b → (b, j, 1) ∈ ks
  bwd : ∀ j b, j < i → bs[j]? = some b → 0 < f.getD j 0 → (revB b, j, -1) ∈ ks
  len : ks.length ≤ 2 * i
theorem KeptI.one {bs : List Bnd} {f : List Int} {i : Nat} {ks : List Kpt} {b : Bnd} (h : KeptI bs f i ks) (hb : bs[i]? = some b) (h0 : ¬ 0 < f.getD i 0) : KeptI bs f (i + 1) (ks ++ [(b, i, 1)]) := by
  refine ⟨fun e he => ?_, fun j b' hj hb' => ?_, fun j b' hj hb' hp => ?_, by rw [List.length_append]; have := h.len; show _ + 1 ≤ _; omega⟩
  · rcases List.mem_append.mp he with he | he
    · exact h.ok e he
    · rw [List.mem_singleton.mp he]
      exact ⟨b, hb, .inl ⟨rfl, rfl⟩⟩
  · by_cases e : j = i
    · subst e
      rw [hb] at hb'
      cases hb'
      exact List.mem_append.mpr (.inr (List.mem_singleton.mpr rfl))
    · exact List.mem_append.mpr (.inl (h.fwd j b' (by omega) hb'))
  · by_cases e : j = i
    · subst e
      exact absurd hp h0
    · exact List.mem_append.mpr (.inl (h.bwd j b' (by omega) hb' hp))
theorem KeptI.two {bs : List Bnd} {f : List Int} {i : Nat} {ks : List Kpt} {b : Bnd} (h : KeptI bs f i ks) (hb : bs[i]? = some b) (h0 : 0 < f.getD i 0) : KeptI bs f (i + 1) (ks ++ [(b, i, 1)] ++ [(revB b, i, -1)]) := by
  refine ⟨fun e he => ?_, fun j b' hj hb' => ?_, fun j b' hj hb' hp => ?_, by rw [List.length_append, List.length_append]; have := h.len; show _ + 1 + 1 ≤ _; omega⟩
  · rcases List.mem_append.mp he with he | he
    · rcases List.mem_append.mp he with he | he
      · exact h.ok e he
      · rw [List.mem_singleton.mp he]
        exact ⟨b, hb, .inl ⟨rfl, rfl⟩⟩
    · rw [List.mem_singleton.mp he]
      exact ⟨b, hb, .inr ⟨rfl, rfl, h0⟩⟩
  · by_cases e : j = i
    · subst e
      rw [hb] at hb'
      cases hb'
      exact List.mem_append.mpr (.inl (List.mem_append.mpr (.inr (List.mem_singleton.mpr rfl))))
    · exact List.mem_append.mpr (.inl (List.mem_append.mpr (.inl (h.fwd j b' (by omega) hb'))))
  · by_cases e : j = i
    · subst e
      rw [hb] at hb'
      cases hb'
      exact List.mem_append.mpr (.inr (List.mem_singleton.mpr rfl))
    · exact List.mem_append.mpr (.inl (List.mem_append.mpr (.inl (h.bwd j b' (by omega) hb' hp))))
theorem KeptI.fin {bs : List Bnd} {f : List Int} {ks : List Kpt} (h : KeptI bs f bs.length ks) : Kept bs f ks :=
  ⟨h.ok, fun j b hb => h.fwd j b (List.getElem?_eq_some_iff.mp hb).1 hb, fun j b hb hp => h.bwd j b (List.getElem?_eq_some_iff.mp hb).1 hb hp⟩
def spBothWays (K : PySem.W.Frag) : Sp := fun vs H Q _ => ∃ (lb lf : Addr) (bv : List V) (bs : List Bnd) (f : List Int), vs = [.ref lb, .ref lf] ∧ H lb = some (.lst bv) ∧ All2 (BndV K H) bv bs ∧ H lf = some (.lst (f.map V.int)) ∧ f.length = bs.length ∧ bs.length ≤ 11000 ∧
  ∀ lk kv ks H', Same H H' → H lk = none → H' lk = some (.lst kv) → All2 (KptV K H') kv ks → Kept bs f ks → ks.length ≤ 22000 → Q (.ref lk) H'
/-- the ring's bounds, told as settle tells them: the flow's list is changed, all else stands -/
def spChange (K : PySem.W.Frag) : Sp := fun vs H Q _ => ∃ (lr lf : Addr) (kv : List V) (ks : List Kpt) (js : List Nat) (bs : List Bnd) (f : List Int), vs = [.ref lr, .ref lf] ∧ H lr = some (.lst (ringVs kv js)) ∧ lr ≠ lf ∧ All2 (KptV K H) kv ks ∧ RingK bs f ks js ∧ js.length ≤ 1000 ∧ H lf = some (.lst (f.map V.int)) ∧ f.length = bs.length ∧ (∀ x ∈ f, 0 ≤ x) ∧ (∃ F, Sat bs F) ∧
  ∀ g H', But lf H H' → TK H H' → H' lf = some (.lst (g.map V.int)) → Chgd bs f g → Q .non H'
/-- so many places, bounds that some numbers keep to, a flow -/
def spLeastFlow (K : PySem.W.Frag) : Sp := fun vs H Q _ => ∃ (n : Nat) (lb lf : Addr) (bv : List V) (bs : List Bnd) (f : List Int), vs = [.int (n : Nat), .ref lb, .ref lf] ∧ 1 ≤ n ∧ n ≤ 1000 ∧ H lb = some (.lst bv) ∧ All2 (BndV K H) bv bs ∧ (∀ b ∈ bs, b.1 < n ∧ b.2.1 < n) ∧ bs.length ≤ 11000 ∧ SqL K H lf (f.map V.int) ∧ f.length = bs.length ∧ (∀ x ∈ f, 0 ≤ x) ∧ (∃ F, Sat bs F) ∧
  ∀ t lg lk kv ks g (F : List Int) H', Same H H' → H' t = some (.tup [.ref lg, .ref lk]) → H' lg = some (.lst (g.map V.int)) → H' lk = some (.lst kv) → H lk = none → All2 (KptV K H') kv ks → Kept bs g ks → ks.length ≤ 22000 → g.length = bs.length → (∀ x ∈ g, 0 ≤ x) → (∀ F, wsum (dF F) bs g = wsum (dF F) bs f) →
    Sat (ks.map fun e => e.1) (fun v => F.getD v 0) → (∀ v, F.getD v 0 ≤ 0) → (∀ R : Int, 0 ≤ R → (∀ b ∈ ks.map (fun e => e.1), -R ≤ b.2.2) → ∀ v, v < n → -((n : Int) * R) ≤ F.getD v 0) → Q (.ref t) H'
def LfR (H' : Hp) (n : Nat) (lg : Addr) (kv : List V) (ks : List Kpt) (bs : List Bnd) (g : List Int) (r : V) : Prop :=
  (r = .non ∧ ∃ F : List Int, Sat (ks.map fun e => e.1) (fun v => F.getD v 0) ∧ (∀ v, F.getD v 0 ≤ 0) ∧ ∀ R : Int, 0 ≤ R → (∀ b ∈ ks.map (fun e => e.1), -R ≤ b.2.2) → ∀ v, v < n → -((n : Int) * R) ≤ F.getD v 0) ∨
  ∃ lr js, r = .ref lr ∧ H' lr = some (.lst (ringVs kv js)) ∧ lr ≠ lg ∧ js.length ≤ 1000 ∧ RingK bs g ks js
def LfI (K : PySem.W.Frag) (H : Hp) (n : Nat) (lb lf lg : Addr) (bs : List Bnd) (f : List Int) (c0 : Int) (m : Nat) (σ : L2.St) (H' : Hp) : Prop := ∃ (lk : Addr) (kv : List V) (ks : List Kpt) (g : List Int) (r : V), σ = [some (.int (n : Nat)), some (.ref lb), some (.ref lf), some (.ref lg), some (.ref lk), some r] ∧ Same H H' ∧ H' lg = some (.lst (g.map V.int)) ∧ g.length = bs.length ∧ (∀ x ∈ g, 0 ≤ x) ∧ (∀ F, wsum (dF F) bs g = wsum (dF F) bs f) ∧
  H lk = none ∧ H' lk = some (.lst kv) ∧ All2 (KptV K H') kv ks ∧ Kept bs g ks ∧ ks.length ≤ 22000 ∧ LfR H' n lg kv ks bs g r ∧ m = (wsum (fun b => b.2.2) bs g - c0).toNat
section
variable {P : Program} {w : World} {K : PySem.W.Frag} {mg : Str → Option Value} {base : Heap}
abbrev nBothWays : List Str := ["bounds", "flow", "told", "place", "start", "end", "room", "thing"]
theorem scBothWays : FnScope nBothWays ["bounds", "flow"] (defScope sBothWays) := ⟨rfl, rfl, rfl, by decide +kernel, rfl, by decide +kernel, by decide +kernel⟩
abbrev DBothWays (P : Program) (w : World) (K : PySem.W.Frag) (mg : Str → Option Value) (base : Heap) := Df P w K mg base 1 "both_ways" ["bounds", "flow"] (spBothWays K)
theorem ok_bothWays {f : Addr} {fd : FuncData} (F : Fun K "both_ways" "both_ways" sBothWays f fd) (hm : mg "both_ways" = some (.ref f)) (B : Bt mg) : DBothWays P w K mg base f fd := by
  refine ⟨?_, hm, F.kp, F.binds fun _ _ _ _ _ _ us hl => match us, hl with | [_, _], _ => rfl⟩
  refine F.ok scBothWays (fun vs H Q E h => ?_) (fun cdv A outer s H vs Q E hr h => ?_)
  · obtain ⟨lb, lf, bv, bs, f, rfl, _⟩ := h
    rfl
  · obtain ⟨lb, lf, bv, bs, f, rfl, hlb, ba, hlf, hfl, hbl, q⟩ := h
    have nd := scBothWays.nd
    refine ⟨_, pss_cons (ps_set (i := 2) nd rfl (.inl rfl) (pe_lst pa_nil)) <|
        pss_cons (ps_for PassesOwn.never rfl (pi_enum (by rfl) B.enum (pa_cons (pv 0) pa_nil)) (pg_tup rfl (pgs_cons (pg_name (i := 3) nd rfl (.inl rfl)) (pgs_cons (pg_tup rfl (pgs_cons (pg_name (i := 4) nd rfl (.inl rfl)) (pgs_cons (pg_name (i := 5) nd rfl (.inl rfl)) (pgs_cons (pg_name (i := 6) nd rfl (.inl rfl)) (pgs_cons (pg_name (i := 7) nd rfl (.inl rfl)) pgs_nil))))) pgs_nil))) (pss_cons (ps_expr (pe_bm PySem.F.plainAttrs_list PySem.F.slot_list_append PySem.F.type_list_append mt_append (pv 2) (pa_cons (pe_tup (pa_cons (pv 4) (pa_cons (pv 5) (pa_cons (pv 6) (pa_cons (pe_tup (pa_cons (pv 3) (pa_cons pe_int pa_nil))) pa_nil))))) pa_nil))) <|
        pss_one (ps_if (pt_cmpR op_gt (pe_ix ix_list (pv 1) (pv 3) (fun _ _ => rfl)) pe_int (nomark _)) (pss_one (ps_expr (pe_bm PySem.F.plainAttrs_list PySem.F.slot_list_append PySem.F.type_list_append mt_append (pv 2) (pa_cons (pe_tup (pa_cons (pv 5) (pa_cons (pv 4) (pa_cons (pe_un un_neg (pv 6)) (pa_cons (pe_tup (pa_cons (pv 3) (pa_cons (pe_un un_neg pe_int) pa_nil))) pa_nil))))) pa_nil)))) pss_nil))) <|
        pss_one (ps_ret (pv 2)), ?_⟩
    have hbv : bv.length = bs.length := ba.1
    refine ⟨(by show 0 ≤ sizeLine; decide), fun lk hlk => ?_⟩
    have s1 : Same H (upd H lk (.lst [])) := same_new hlk
    have e1 : (upd H lk (.lst [])) lk = some (.lst []) := upd_same
    obtain ⟨H1, hH1⟩ : ∃ H1, H1 = upd H lk (.lst []) := ⟨_, rfl⟩
    rw [← hH1] at s1 e1
    refine gn_normH (σ' := [some (.ref lb), some (.ref lf), some (.ref lk), none, none, none, none, none]) (H' := H1) rfl hH1.symm ?_
    refine ⟨_, rfl, lb, bv, rfl, SqL.of (s1 _ _ hlb), for_it (walk_enum (K := K) (a := lb) (xs := bv)) (fun i σ H' => ∃ (u3 u4 u5 u6 u7 : Option V) (kv : List V) (ks : List Kpt), σ = [some (.ref lb), some (.ref lf), some (.ref lk), u3, u4, u5, u6, u7] ∧ H' lk = some (.lst kv) ∧ All2 (KptV K H') kv ks ∧ KeptI bs f i ks ∧ Same H H')
      ⟨_, _, _, _, _, [], [], rfl, e1, .nil, ⟨(fun e he => nomatch he), (fun j b hj => absurd hj (Nat.not_lt_zero _)), (fun j b hj => absurd hj (Nat.not_lt_zero _)), Nat.zero_le _⟩, s1⟩ (fun i σ H' _ ⟨_, _, _, _, _, _, _, _, _, _, _, sm⟩ => SqL.of (sm _ _ hlb)) ?_ ?_⟩
    · rintro i v σ H2 H2' hi ⟨u3, u4, u5, u6, u7, kv, ks, rfl, hk2, al, ki, sm⟩ ⟨T, x1, y, rfl, hT, rfl, ex, ey⟩
      cases ex
      obtain ⟨b, hb, a, th, rfl, sq⟩ := ba.get ey
      have hib : i < bs.length := (List.getElem?_eq_some_iff.mp hb).1
      have sT := same_new (o := .tup [.int (i : Nat), .ref a]) hT
      have eT : (upd H2 T (.tup [.int (i : Nat), .ref a])) T = some (.tup [.int (i : Nat), .ref a]) := upd_same
      have hk3 := sT _ _ hk2
      have al3 := al.imp fun _ _ r => KptV.tk (TK.same sT) r
      have sm3 := sm.trans sT
      generalize upd H2 T (.tup [.int (i : Nat), .ref a]) = H3 at sT eT hk3 al3 sm3
      refine ⟨T, _, rfl, .inl (.inl eT), rfl, _, _, rfl, _, _, rfl, a, _, rfl, (TK.same sm3).seq sq, rfl, _, _, rfl, _, _, rfl, _, _, rfl, _, _, rfl, rfl, rfl, ?_⟩
      have hkl : kv.length = ks.length := al.1
      have hks := ki.len
      -- as it stands
      refine ⟨_, rfl, .inl ⟨rfl, _, SqL.of hk3⟩, _, rfl, _, rfl, _, rfl, _, rfl, (by show 2 ≤ sizeLine; decide), fun t1 ht1 => ?_⟩
      have st1 := same_new (o := .tup [.int ((i : Nat) : Int), .int 1]) ht1
      have et1 : (upd H3 t1 (.tup [.int ((i : Nat) : Int), .int 1])) t1 = some (.tup [.int ((i : Nat) : Int), .int 1]) := upd_same
      generalize upd H3 t1 (.tup [.int ((i : Nat) : Int), .int 1]) = H4 at st1 et1
      refine ⟨(by show 4 ≤ sizeLine; decide), fun t2 ht2 => ?_⟩
      have st2 := same_new (o := .tup [.int ((b.1 : Nat) : Int), .int ((b.2.1 : Nat) : Int), .int b.2.2, .ref t1]) ht2
      have et2 : (upd H4 t2 (.tup [.int ((b.1 : Nat) : Int), .int ((b.2.1 : Nat) : Int), .int b.2.2, .ref t1])) t2 = some (.tup [.int ((b.1 : Nat) : Int), .int ((b.2.1 : Nat) : Int), .int b.2.2, .ref t1]) := upd_same
      have et1' := st2 _ _ et1
      generalize upd H4 t2 (.tup [.int ((b.1 : Nat) : Int), .int ((b.2.1 : Nat) : Int), .int b.2.2, .ref t1]) = H5 at st2 et2 et1'
      have s35 := st1.trans st2
      refine ⟨lk, _, _, rfl, rfl, s35 _ _ hk3, Nat.lt_of_le_of_lt (show kv.length ≤ 22000 by omega) (by decide), ?_⟩
      have tk5 : TK H5 (upd H5 lk (.lst (kv ++ [.ref t2]))) := TK.lst (s35 _ _ hk3)
      have al6 : All2 (KptV K (upd H5 lk (.lst (kv ++ [.ref t2])))) (kv ++ [.ref t2]) (ks ++ [(b, i, 1)]) := All2.snoc (al3.imp fun _ _ r => (KptV.tk (TK.same s35) r).tk tk5) ((show KptV K H5 (.ref t2) (b, i, 1) from ⟨t2, t1, rfl, .inl (.inl et2), .inl (.inl et1')⟩).tk tk5)
      have sm6 : Same H (upd H5 lk (.lst (kv ++ [.ref t2]))) := same_mut (sm3.trans s35) hlk
      have hk6 : (upd H5 lk (.lst (kv ++ [.ref t2]))) lk = some (.lst (kv ++ [.ref t2])) := upd_same
      generalize upd H5 lk (.lst (kv ++ [.ref t2])) = H6 at al6 sm6 hk6
      refine ⟨_, rfl, _, rfl, lf, _, i, _, rfl, rfl, SqL.of (sm6 _ _ hlf), atI_nat (sgetD_at (by omega)), _, _, rfl, rfl, _, rfl, ite2 (fun e => ?_) (fun e => ?_)⟩
      · have h0 : 0 < f.getD i 0 := of_decide_eq_true e
        refine ⟨_, rfl, .inl ⟨rfl, _, SqL.of hk6⟩, _, rfl, _, rfl, _, rfl, _, rfl, _, rfl, _, rfl, (by show 2 ≤ sizeLine; decide), fun t3 ht3 => ?_⟩
        have st3 := same_new (o := .tup [.int ((i : Nat) : Int), .int (-1)]) ht3
        have et3 : (upd H6 t3 (.tup [.int ((i : Nat) : Int), .int (-1)])) t3 = some (.tup [.int ((i : Nat) : Int), .int (-1)]) := upd_same
        generalize upd H6 t3 (.tup [.int ((i : Nat) : Int), .int (-1)]) = H7 at st3 et3
        refine ⟨(by show 4 ≤ sizeLine; decide), fun t4 ht4 => ?_⟩
        have st4 := same_new (o := .tup [.int ((b.2.1 : Nat) : Int), .int ((b.1 : Nat) : Int), .int (-b.2.2), .ref t3]) ht4
        have et4 : (upd H7 t4 (.tup [.int ((b.2.1 : Nat) : Int), .int ((b.1 : Nat) : Int), .int (-b.2.2), .ref t3])) t4 = some (.tup [.int ((b.2.1 : Nat) : Int), .int ((b.1 : Nat) : Int), .int (-b.2.2), .ref t3]) := upd_same
        have et3' := st4 _ _ et3
        generalize upd H7 t4 (.tup [.int ((b.2.1 : Nat) : Int), .int ((b.1 : Nat) : Int), .int (-b.2.2), .ref t3]) = H8 at st4 et4 et3'
        have s68 := st3.trans st4
        refine ⟨lk, _, _, rfl, rfl, s68 _ _ hk6, Nat.lt_of_le_of_lt (show (kv ++ [V.ref t2]).length ≤ 22000 by rw [List.length_append]; show _ + 1 ≤ _; omega) (by decide), ?_⟩
        have tk8 : TK H8 (upd H8 lk (.lst (kv ++ [.ref t2] ++ [.ref t4]))) := TK.lst (s68 _ _ hk6)
        refine ⟨_, _, _, _, _, kv ++ [.ref t2] ++ [.ref t4], ks ++ [(b, i, 1)] ++ [(revB b, i, -1)], rfl, upd_same, All2.snoc (al6.imp fun _ _ r => (KptV.tk (TK.same s68) r).tk tk8) ((show KptV K H8 (.ref t4) (revB b, i, -1) from ⟨t4, t3, rfl, .inl (.inl et4), .inl (.inl et3')⟩).tk tk8), ki.two hb h0, same_mut (sm6.trans s68) hlk⟩
      · exact ⟨_, _, _, _, _, kv ++ [.ref t2], ks ++ [(b, i, 1)], rfl, hk6, al6, ki.one hb (fun z => e (decide_eq_true z)), sm6⟩
    · rintro σ H2 ⟨u3, u4, u5, u6, u7, kv, ks, rfl, hk2, al, ki, sm⟩
      rw [hbv] at ki
      have := ki.len
      exact ⟨_, rfl, q lk kv ks H2 sm hlk hk2 al ki.fin (by omega)⟩
abbrev nChange : List Str := ["ring", "flow", "start", "end", "room", "thing", "turns", "place", "way", "most"]
theorem scChange : FnScope nChange ["ring", "flow"] (defScope sChange) := ⟨rfl, rfl, rfl, by decide +kernel, rfl, by decide +kernel, by decide +kernel⟩
abbrev DChange (P : Program) (w : World) (K : PySem.W.Frag) (mg : Str → Option Value) (base : Heap) := Df P w K mg base 1 "change_along" ["ring", "flow"] (spChange K)
theorem ok_change {f : Addr} {fd : FuncData} (F : Fun K "change_along" "change_along" sChange f fd) (hm : mg "change_along" = some (.ref f)) (B : Bt mg) (mn : mg "min" = none) : DChange P w K mg base f fd := by
  refine ⟨?_, hm, F.kp, F.binds fun _ _ _ _ _ _ us hl => match us, hl with | [_, _], _ => rfl⟩
  refine F.ok scChange (fun vs H Q E h => ?_) (fun cdv A outer s H vs Q E hr h => ?_)
  · obtain ⟨lr, lf, kv, ks, js, bs, f, rfl, _⟩ := h
    rfl
  · obtain ⟨lr, lf, kv, ks, js, bs, f, rfl, hlr, nrf, al, rk, hjl, hlf, hfl, hf0, ⟨F0, S0⟩, q⟩ := h
    have nd := scChange.nd
    refine ⟨_, pss_cons (ps_setLc (i := 6) (own := [("start", 2), ("end", 3), ("room", 4), ("thing", 5)]) (g := (gTup K 4 (gCons (gName 2) (gCons (gName 3) (gCons (gName 4) (gCons (gName 5) gNil)))))) (tt := tYes) (te := (tVar 5)) rfl nd rfl rfl (sw_true rfl rfl rfl (by decide +kernel)) (pi_list (pv 0)) (blkOk_by (N := nChange) (sc := defScope sChange) (own := [("start", 2), ("end", 3), ("room", 4), ("thing", 5)]) (by decide +kernel)) (fun _ _ _ _ _ => (pg_tup rfl (pgs_cons (pg_name (i := 2) nd rfl (.inl rfl)) (pgs_cons (pg_name (i := 3) nd rfl (.inl rfl)) (pgs_cons (pg_name (i := 4) nd rfl (.inl rfl)) (pgs_cons (pg_name (i := 5) nd rfl (.inl rfl)) pgs_nil)))))) (fun _ _ _ _ _ => pts_nil) (fun _ _ _ _ _ => (pv 5))) <|
        pss_cons (ps_set (i := 9) nd rfl (.inl rfl) (pe_callB (cr_min rfl) (by rfl) mn (by decide +kernel) (pa_cons (pe_lc (own := [("place", 7), ("way", 8)]) (g := (gTup K 2 (gCons (gName 7) (gCons (gName 8) gNil)))) (tt := (tTest (tOp (rI0 fun i j => .bl (decide (i < j))) (tVar 8) (tC (.int 0))))) (te := (tOp (rIxL K) (tVar 1) (tVar 7))) rfl nd (pi_list (pv 6)) (blkOk_by (N := nChange) (sc := defScope sChange) (own := [("place", 7), ("way", 8)]) (by decide +kernel)) (fun _ _ _ _ _ => (pg_tup rfl (pgs_cons (pg_name (i := 7) nd rfl (.inl rfl)) (pgs_cons (pg_name (i := 8) nd rfl (.inl rfl)) pgs_nil)))) (fun _ _ _ _ _ => pts_one (pt_cmpR op_lt (pv 8) pe_int (nomark _))) (fun _ _ _ _ _ => (pe_ix ix_list (pv 1) (pv 7) (fun _ _ => rfl)))) pa_nil))) <|
        pss_one (ps_for PassesOwn.never rfl (pi_list (pv 6)) (pg_tup rfl (pgs_cons (pg_name (i := 7) nd rfl (.inl rfl)) (pgs_cons (pg_name (i := 8) nd rfl (.inl rfl)) pgs_nil))) (pss_one (ps_augS (pv 1) (pv 7) get_list (pe_op op_mul (pv 8) (pv 9)) ip_add set_list))), ?_⟩
    have ent : ∀ i v, (ringVs kv js)[i]? = some v → ∃ e, (js.map (kAt ks))[i]? = some e ∧ KptV K H v e ∧ KOk bs f e := fun i v hv => by
      unfold ringVs at hv
      rw [List.getElem?_map] at hv
      cases hj : js[i]? with
      | none => rw [hj] at hv; cases hv
      | some j =>
        rw [hj] at hv
        cases hv
        obtain ⟨e1, e2⟩ := rk.entry (List.mem_of_getElem? hj)
        obtain ⟨v, hv, hk⟩ := al.getR e1
        have : kv.getD j .non = v := by rw [List.getD_eq_getElem?_getD, hv]; rfl
        show ∃ e, _ ∧ KptV K H (kv.getD j .non) e ∧ _
        rw [this]
        exact ⟨_, by rw [List.getElem?_map, hj]; rfl, hk, e2⟩
    have hrl : (ringVs kv js).length = js.length := by unfold ringVs; rw [List.length_map]
    -- the turns
    refine ⟨_, rfl, lr, rfl, ⟨_, SqL.of hlr⟩, fun lt hlt => ?_⟩
    refine lc_list (K := K) (a := lr) (xs := ringVs kv js) (fun i Hc => ∃ tv : List V, Hc lt = some (.lst tv) ∧ All2 (fun v (e : Kpt) => ∃ th, v = .ref th ∧ SqT K Hc th [.int ((e.2.1 : Nat) : Int), .int e.2.2]) tv ((js.map (kAt ks)).take i) ∧ Same H Hc) ⟨[], upd_same, .nil, same_new hlt⟩ (fun i Hc _ ⟨_, _, _, sm⟩ => SqL.of (sm _ _ hlr)) ?_ ?_
    · rintro i v Hc hv ⟨tv, hc, ta, sm⟩
      obtain ⟨e, he, ⟨a, th, rfl, q1, q2⟩, _⟩ := ent i v hv
      have tk := TK.same sm
      have htl := ta.1
      have hil : i < js.length := by rw [← hrl]; exact (List.getElem?_eq_some_iff.mp hv).1
      rw [List.length_take] at htl
      refine ⟨a, _, rfl, tk.seq q1, rfl, _, _, rfl, _, _, rfl, _, _, rfl, _, _, rfl, rfl, rfl, tyes ?_⟩
      refine ⟨_, rfl, tv, hc, small1000 (by omega), tv ++ [.ref th], upd_same, ?_, same_mut sm hlt⟩
      rw [List.take_add_one, he]
      exact All2.snoc (ta.imp fun _ _ ⟨t, k1, k2⟩ => ⟨t, k1, (TK.lst hc).seq k2⟩) ⟨th, rfl, (TK.lst hc).seq (tk.seq q2)⟩
    rintro H1 ⟨tv, ht1, ta, s1⟩
    rw [hrl, List.take_of_length_le (by rw [List.length_map]; exact Nat.le_refl _)] at ta
    have htl : tv.length = js.length := by have := ta.1; rw [List.length_map] at this; exact this
    have nlt : lf ≠ lt := ne_of_none hlf hlt
    have hlf1 := s1 _ _ hlf
    refine gn_norm (σ' := [some (.ref lr), some (.ref lf), none, none, none, none, some (.ref lt), none, none, none]) rfl ?_
    have kok : ∀ e ∈ js.map (kAt ks), KOk bs f e := fun e he => by
      obtain ⟨j, hj, rfl⟩ := List.mem_map.mp he
      exact (rk.entry hj).2
    -- the most
    refine ⟨_, rfl, lt, rfl, ⟨_, SqL.of ht1⟩, fun lm hlm => ?_⟩
    refine lc_list (K := K) (a := lt) (xs := tv) (fun i Hc => Hc lm = some (.lst (((backs ((js.map (kAt ks)).take i)).map fun e => f.getD e.2.1 0).map V.int)) ∧ Same H1 Hc) ⟨upd_same, same_new hlm⟩ (fun i Hc _ ⟨_, sm⟩ => SqL.of (sm _ _ ht1)) ?_ ?_
    · rintro i v Hc hv ⟨hc, sm⟩
      obtain ⟨e, he, th, rfl, sq⟩ := ta.get hv
      obtain ⟨b, hb, _⟩ := kok e (List.mem_of_getElem? he)
      have hpl : e.2.1 < f.length := by rw [hfl]; exact (List.getElem?_eq_some_iff.mp hb).1
      have hil : i < js.length := by rw [← htl]; exact (List.getElem?_eq_some_iff.mp hv).1
      refine ⟨th, _, rfl, (TK.same sm).seq sq, rfl, _, _, rfl, _, _, rfl, rfl, rfl, _, rfl, _, _, rfl, rfl, _, rfl, ?_⟩
      unfold backs
      rw [List.take_add_one, he, List.filter_append]
      by_cases h0 : e.2.2 < 0
      · rw [decide_eq_true h0]
        refine iteT ⟨_, rfl, _, rfl, lf, _, e.2.1, _, rfl, rfl, SqL.of (sm _ _ hlf1), atI_nat (sgetD_at hpl), _, hc, ?_, ?_, same_mut sm hlm⟩
        · rw [List.length_map, List.length_map]
          have := List.length_filter_le (fun e : Kpt => decide (e.2.2 < 0)) ((js.map (kAt ks)).take i)
          rw [List.length_take, List.length_map] at this
          exact small1000 (by unfold backs; omega)
        · rw [upd_same, List.map_append, List.map_append]
          show _ = some (HO.lst (_ ++ (((List.filter _ [e]).map _).map V.int)))
          rw [List.filter_cons_of_pos (by rw [decide_eq_true h0])]
          rfl
      · rw [decide_eq_false h0]
        refine iteF ⟨?_, sm⟩
        show _ = some (HO.lst (((_ ++ (List.filter _ [e])).map _).map V.int))
        rw [List.filter_cons_of_neg (by rw [decide_eq_false h0]; decide), List.filter_nil, List.append_nil]
        exact hc
    rintro H2 ⟨hm2, s2⟩
    rw [htl, List.take_of_length_le (by rw [List.length_map]; exact Nat.le_refl _)] at hm2
    have hbk := rk.back S0
    refine ⟨lm, _, rfl, SqL.of hm2, by rw [List.length_map]; exact List.length_pos_iff.mpr hbk, fun m hmm hmle => ?_⟩
    obtain ⟨em, hem, rfl⟩ := List.mem_map.mp hmm
    have hm0 : 0 < f.getD em.2.1 0 := by
      obtain ⟨h1, h2⟩ := List.mem_filter.mp hem
      obtain ⟨b, hb, hd⟩ := kok em h1
      rcases hd with ⟨z, _⟩ | ⟨_, _, z⟩
      · rw [z] at h2
        exact absurd h2 (by decide)
      · exact z
    have hle : ∀ e ∈ backs (js.map (kAt ks)), f.getD em.2.1 0 ≤ f.getD e.2.1 0 := fun e he => hmle _ (List.mem_map.mpr ⟨e, he, rfl⟩)
    generalize f.getD em.2.1 0 = m at hm0 hle
    refine gn_norm (σ' := [some (.ref lr), some (.ref lf), none, none, none, none, some (.ref lt), none, none, some (.int m)]) rfl ?_
    have hlf2 := s2 _ _ hlf1
    have ht2 := s2 _ _ ht1
    have s02 := s1.trans s2
    -- the change
    refine ⟨_, rfl, lt, rfl, ⟨_, SqL.of ht2⟩, for_list (K := K) (a := lt) (xs := tv) (fun i σ H' => ∃ (u7 u8 : Option V) (g : List Int), σ = [some (.ref lr), some (.ref lf), none, none, none, none, some (.ref lt), u7, u8, some (.int m)] ∧ H' lf = some (.lst (g.map V.int)) ∧ Chg bs f m ((js.map (kAt ks)).take i) g ∧ But lf H2 H' ∧ TK H2 H')
      ⟨_, _, f, rfl, hlf2, Chg.ini bs f m, But.refl _ _, TK.refl _⟩ (fun i σ H' _ ⟨_, _, _, _, _, _, bt, _⟩ => SqL.of (bt _ _ nlt.symm ht2)) ?_ ?_⟩
    · rintro i v σ H3 hv ⟨u7, u8, g, rfl, hg, ch, bt, tk⟩
      obtain ⟨e, he, th, rfl, sq⟩ := ta.get hv
      have heq := kok e (List.mem_of_getElem? he)
      obtain ⟨b, hb, hd⟩ := id heq
      have hpl : e.2.1 < g.length := by rw [ch.len, hfl]; exact (List.getElem?_eq_some_iff.mp hb).1
      have hw : e.2.2 = 1 ∨ e.2.2 = -1 := by
        rcases hd with ⟨z, _⟩ | ⟨z, _⟩
        · exact .inl z
        · exact .inr z
      refine ⟨th, _, rfl, tk.seq ((TK.same s2).seq sq), rfl, _, _, rfl, _, _, rfl, rfl, ?_⟩
      refine ⟨_, rfl, _, rfl, lf, _, e.2.1, _, rfl, rfl, SqL.of hg, sgetD_at hpl, _, rfl, _, rfl, _, _, rfl, rfl, ?_, _, _, rfl, rfl, lf, _, _, e.2.1, rfl, rfl, hg, Evl.ixN_nat (by rw [List.length_map]; exact hpl), ?_⟩
      · exact .inl (by rcases hw with z | z <;> rw [z] <;> decide)
      refine ⟨_, _, g.set e.2.1 (g.getD e.2.1 0 + e.2.2 * m), rfl, by rw [upd_same, List.map_set], ?_, bt.trans But.upd, tk.trans (TK.lst hg)⟩
      rw [List.take_add_one, he]
      refine ch.step (Int.le_of_lt hm0) hfl heq fun h1 e' he' hp h2 => ?_
      obtain ⟨i', hi'⟩ := List.getElem?_of_mem he'
      have hlt : i' < i := by
        have := (List.getElem?_eq_some_iff.mp hi').1
        rw [List.length_take] at this
        omega
      rw [List.getElem?_take_of_lt hlt, List.getElem?_map] at hi'
      rw [List.getElem?_map] at he
      cases hj' : js[i']? with
      | none => rw [hj'] at hi'; cases hi'
      | some j' =>
        cases hj : js[i]? with
        | none => rw [hj] at he; cases he
        | some j =>
          rw [hj'] at hi'
          rw [hj] at he
          cases hi'
          cases he
          have := rk.once hj' hj h2 h1 hp
          omega
    · rintro σ H3 ⟨u7, u8, g, rfl, hg, ch, bt, tk⟩
      rw [htl, List.take_of_length_le (by rw [List.length_map]; exact Nat.le_refl _)] at ch
      exact q g H3 (fun c o n h => bt c o n (s02 _ _ h)) ((TK.same s02).trans tk) hg (ch.fin rk hf0 hm0 hle)
abbrev nLeastFlow : List Str := ["many", "bounds", "flow", "told", "kept", "ring"]
theorem scLeastFlow : FnScope nLeastFlow ["many", "bounds", "flow"] (defScope sLeastFlow) := ⟨rfl, rfl, rfl, by decide +kernel, rfl, by decide +kernel, by decide +kernel⟩
abbrev DLeastFlow (P : Program) (w : World) (K : PySem.W.Frag) (mg : Str → Option Value) (base : Heap) := Df P w K mg base 3 "least_flow" ["many", "bounds", "flow"] (spLeastFlow K)
theorem ok_leastFlow {f fB fS fC : Addr} {fd fdB fdS fdC : FuncData} (F : Fun K "least_flow" "least_flow" sLeastFlow f fd) (hm : mg "least_flow" = some (.ref f)) (B : Bt mg) (DBw : DBothWays P w K mg base fB fdB) (DSe : DSettle P w K mg base fS fdS) (DCa : DChange P w K mg base fC fdC) : DLeastFlow P w K mg base f fd := by
  refine ⟨?_, hm, F.kp, F.binds fun _ _ _ _ _ _ us hl => match us, hl with | [_, _, _], _ => rfl⟩
  refine F.ok scLeastFlow (fun vs H Q E h => ?_) (fun cdv A outer s H vs Q E hr h => ?_)
  · obtain ⟨n, lb, lf, bv, bs, f, rfl, _⟩ := h
    rfl
  · obtain ⟨n, lb, lf, bv, bs, f, rfl, hn1, hn, hlb, ba, hbn, hbl, hlf, hfl, hf0, ⟨F0, S0⟩, q⟩ := h
    have nd := scLeastFlow.nd
    refine ⟨_, pss_cons (ps_set (i := 3) nd rfl (.inl rfl) (pe_callTy call_list_of (by rfl) B.list (by decide +kernel) (pa_cons (pv 2) pa_nil))) <|
        pss_cons (ps_set (i := 4) nd rfl (.inl rfl) (pe_call DBw.ok (hr.mono (by decide)) (by rfl) DBw.mg DBw.kp DBw.bd .nil pass0 (pa_cons (pv 1) (pa_cons (pv 3) pa_nil)))) <|
        pss_cons (ps_set (i := 5) nd rfl (.inl rfl) (pe_ix ix_tup (pe_call DSe.ok (hr.mono (by decide)) (by rfl) DSe.mg DSe.kp DSe.bd .nil pass0 (pa_cons (pv 0) (pa_cons (pv 4) pa_nil))) pe_int (fun _ _ => rfl))) <|
        pss_cons (ps_while PassesOwn.never (pt_cmpR op_notN (pv 5) pe_non (nomark _)) (pss_cons (ps_expr (pe_call DCa.ok (hr.mono (by decide)) (by rfl) DCa.mg DCa.kp DCa.bd .nil pass0 (pa_cons (pv 5) (pa_cons (pv 3) pa_nil)))) <|
        pss_cons (ps_set (i := 4) nd rfl (.inl rfl) (pe_call DBw.ok (hr.mono (by decide)) (by rfl) DBw.mg DBw.kp DBw.bd .nil pass0 (pa_cons (pv 1) (pa_cons (pv 3) pa_nil)))) <|
        pss_one (ps_set (i := 5) nd rfl (.inl rfl) (pe_ix ix_tup (pe_call DSe.ok (hr.mono (by decide)) (by rfl) DSe.mg DSe.kp DSe.bd .nil pass0 (pa_cons (pv 0) (pa_cons (pv 4) pa_nil))) pe_int (fun _ _ => rfl))))) <|
        pss_one (ps_ret (pe_tup (pa_cons (pv 3) (pa_cons (pv 4) pa_nil)))), ?_⟩
    refine ⟨_, rfl, lf, _, rfl, .inl hlf, fun lg hlg => ?_⟩
    have s1 : Same H (upd H lg (.lst (f.map V.int))) := same_new hlg
    have e1 : (upd H lg (.lst (f.map V.int))) lg = some (.lst (f.map V.int)) := upd_same
    obtain ⟨H1, hH1⟩ : ∃ H1, H1 = upd H lg (.lst (f.map V.int)) := ⟨_, rfl⟩
    rw [← hH1] at s1 e1
    refine gn_normH (σ' := [some (.int (n : Nat)), some (.ref lb), some (.ref lf), some (.ref lg), none, none]) (H' := H1) rfl hH1.symm ?_
    have ba1 := ba.imp fun _ _ r => BndV.tk (TK.same s1) r
    obtain ⟨u5, hu5⟩ : ∃ u5 : Option V, u5 = none := ⟨_, rfl⟩
    rw [← hu5]
    refine ⟨_, rfl, _, rfl, lb, lg, bv, bs, f, rfl, s1 _ _ hlb, ba.imp (fun _ _ r => BndV.tk (TK.same s1) r), e1, hfl, hbl, fun lk kv ks H8 s8 hlk hkk al kp hkl => ?_⟩
    refine gn_norm (σ' := [some (.int (n : Nat)), some (.ref lb), some (.ref lf), some (.ref lg), some (.ref lk), u5]) rfl ?_
    refine ⟨_, rfl, _, rfl, n, lk, kv, _, rfl, hn1, hn, hkk, kpt_bnd al, kp.below hbn, fun t H9 s9 ht tl => ?_⟩
    have sE := ((s1).trans s8).trans s9
    have hlk0 : H lk = none := (s1).free hlk
    have egE := s9 _ _ (s8 _ _ (e1))
    have alE := al.imp fun _ _ r => KptV.tk (TK.same s9) r
    rcases tl with ⟨lf', F, et, _, _, _, sat, hle, hlow⟩ | ⟨lr, js, et, hlr, er, hjl, ring, rnd⟩
    · refine ⟨t, _, 1, _, rfl, rfl, .inl (.inl et), atI_nat (j := 1) rfl, ?_⟩
      refine gn_norm (σ' := [some (.int (n : Nat)), some (.ref lb), some (.ref lf), some (.ref lg), some (.ref lk), some .non]) rfl ?_
      refine ⟨LfI K H n lb lf lg bs f (wsum (dF F0) bs f), ⟨_, ⟨lk, kv, ks, f, .non, rfl, sE, egE, hfl, hf0, fun _ => rfl, hlk0, s9 _ _ hkk, alE, kp, hkl, .inl ⟨rfl, F, sat, hle, hlow⟩, rfl⟩⟩, ?_⟩
      rintro m σ H5 ⟨lk, kv, ks, g, r, rfl, s5, eg, gl, g0, gt, hlk0, hkk, al, kp, hkl, lr', rfl⟩
      rcases lr' with ⟨rfl, F, sat, hle, hlow⟩ | ⟨lr, js, rfl, er, nrg, hjl, rk⟩
      · refine ⟨_, rfl, rfl, _, rfl, iteF ?_⟩
        refine ⟨_, rfl, _, rfl, (by show 2 ≤ sizeLine; decide), fun tt htt => ?_⟩
        have st := same_new (o := .tup [.ref lg, .ref lk]) htt
        exact q tt lg lk kv ks g F _ (s5.trans st) upd_same (st _ _ eg) (st _ _ hkk) hlk0 (al.imp fun _ _ r => KptV.tk (TK.same st) r) kp hkl gl g0 gt sat hle hlow
      · refine ⟨_, rfl, rfl, _, rfl, iteT ?_⟩
        refine ⟨fun σ H6 => ∃ m', m' < (wsum (fun b => b.2.2) bs g - wsum (dF F0) bs f).toNat ∧ LfI K H n lb lf lg bs f (wsum (dF F0) bs f) m' σ H6, fun σ' H' h => h, ?_⟩
        refine ⟨_, rfl, _, rfl, lr, lg, kv, ks, js, bs, g, rfl, er, nrg, al, rk, hjl, eg, gl, g0, ⟨F0, S0⟩, fun g' H6 bt tk eg6 cg => ?_⟩
        have s6 : Same H H6 := fun a o h => bt a o (ne_of_none h hlg) (s5 a o h)
        have gl6 : g'.length = bs.length := cg.len.trans gl
        have gt6 : ∀ F, wsum (dF F) bs g' = wsum (dF F) bs f := fun F => (cg.tot F).trans (gt F)
        have c1 := S0.cost cg.nn
        have c2 := cg.cost
        rw [gt6 F0] at c1
        obtain ⟨u5, hu5⟩ : ∃ u5 : V, u5 = .ref lr := ⟨_, rfl⟩
        refine ⟨_, rfl, _, rfl, lb, lg, bv, bs, g', rfl, s6 _ _ hlb, ba.imp (fun _ _ r => BndV.tk (TK.same s6) r), eg6, gl6, hbl, fun lk kv ks H8 s8 hlk hkk al kp hkl => ?_⟩
        refine gn_norm (σ' := [some (.int (n : Nat)), some (.ref lb), some (.ref lf), some (.ref lg), some (.ref lk), some (.ref lr)]) rfl ?_
        refine ⟨_, rfl, _, rfl, n, lk, kv, _, rfl, hn1, hn, hkk, kpt_bnd al, kp.below hbn, fun t H9 s9 ht tl => ?_⟩
        have sE := ((s6).trans s8).trans s9
        have hlk0 : H lk = none := (s6).free hlk
        have egE := s9 _ _ (s8 _ _ (eg6))
        have alE := al.imp fun _ _ r => KptV.tk (TK.same s9) r
        rcases tl with ⟨lf', F, et, _, _, _, sat, hle, hlow⟩ | ⟨lr2, js, et, hlr, er, hjl, ring, rnd⟩
        · refine ⟨t, _, 1, _, rfl, rfl, .inl (.inl et), atI_nat (j := 1) rfl, ?_⟩
          refine gn_norm (σ' := [some (.int (n : Nat)), some (.ref lb), some (.ref lf), some (.ref lg), some (.ref lk), some .non]) rfl ?_
          exact ⟨_, by omega, ⟨lk, kv, ks, g', .non, rfl, sE, egE, gl6, cg.nn, gt6, hlk0, s9 _ _ hkk, alE, kp, hkl, .inl ⟨rfl, F, sat, hle, hlow⟩, rfl⟩⟩
        · refine ⟨t, _, 1, _, rfl, rfl, .inl (.inl et), atI_nat (j := 1) rfl, ?_⟩
          refine gn_norm (σ' := [some (.int (n : Nat)), some (.ref lb), some (.ref lf), some (.ref lg), some (.ref lk), some (.ref lr2)]) rfl ?_
          have nrg : lr2 ≠ lg := fun e => by
            rw [e, s8 _ _ (eg6)] at hlr
            cases hlr
          exact ⟨_, by omega, ⟨lk, kv, ks, g', (.ref lr2), rfl, sE, egE, gl6, cg.nn, gt6, hlk0, s9 _ _ hkk, alE, kp, hkl, .inr ⟨lr2, js, rfl, er, nrg, by omega, ⟨ring, rnd, kp⟩⟩, rfl⟩⟩
    · refine ⟨t, _, 1, _, rfl, rfl, .inl (.inl et), atI_nat (j := 1) rfl, ?_⟩
      refine gn_norm (σ' := [some (.int (n : Nat)), some (.ref lb), some (.ref lf), some (.ref lg), some (.ref lk), some (.ref lr)]) rfl ?_
      have nrg : lr ≠ lg := fun e => by
        rw [e, s8 _ _ (e1)] at hlr
        cases hlr
      refine ⟨LfI K H n lb lf lg bs f (wsum (dF F0) bs f), ⟨_, ⟨lk, kv, ks, f, (.ref lr), rfl, sE, egE, hfl, hf0, fun _ => rfl, hlk0, s9 _ _ hkk, alE, kp, hkl, .inr ⟨lr, js, rfl, er, nrg, by omega, ⟨ring, rnd, kp⟩⟩, rfl⟩⟩, ?_⟩
      rintro m σ H5 ⟨lk, kv, ks, g, r, rfl, s5, eg, gl, g0, gt, hlk0, hkk, al, kp, hkl, lr', rfl⟩
      rcases lr' with ⟨rfl, F, sat, hle, hlow⟩ | ⟨lr, js, rfl, er, nrg, hjl, rk⟩
      · refine ⟨_, rfl, rfl, _, rfl, iteF ?_⟩
        refine ⟨_, rfl, _, rfl, (by show 2 ≤ sizeLine; decide), fun tt htt => ?_⟩
        have st := same_new (o := .tup [.ref lg, .ref lk]) htt
        exact q tt lg lk kv ks g F _ (s5.trans st) upd_same (st _ _ eg) (st _ _ hkk) hlk0 (al.imp fun _ _ r => KptV.tk (TK.same st) r) kp hkl gl g0 gt sat hle hlow
      · refine ⟨_, rfl, rfl, _, rfl, iteT ?_⟩
        refine ⟨fun σ H6 => ∃ m', m' < (wsum (fun b => b.2.2) bs g - wsum (dF F0) bs f).toNat ∧ LfI K H n lb lf lg bs f (wsum (dF F0) bs f) m' σ H6, fun σ' H' h => h, ?_⟩
        refine ⟨_, rfl, _, rfl, lr, lg, kv, ks, js, bs, g, rfl, er, nrg, al, rk, hjl, eg, gl, g0, ⟨F0, S0⟩, fun g' H6 bt tk eg6 cg => ?_⟩
        have s6 : Same H H6 := fun a o h => bt a o (ne_of_none h hlg) (s5 a o h)
        have gl6 : g'.length = bs.length := cg.len.trans gl
        have gt6 : ∀ F, wsum (dF F) bs g' = wsum (dF F) bs f := fun F => (cg.tot F).trans (gt F)
        have c1 := S0.cost cg.nn
        have c2 := cg.cost
        rw [gt6 F0] at c1
        obtain ⟨u5, hu5⟩ : ∃ u5 : V, u5 = .ref lr := ⟨_, rfl⟩
        refine ⟨_, rfl, _, rfl, lb, lg, bv, bs, g', rfl, s6 _ _ hlb, ba.imp (fun _ _ r => BndV.tk (TK.same s6) r), eg6, gl6, hbl, fun lk kv ks H8 s8 hlk hkk al kp hkl => ?_⟩
        refine gn_norm (σ' := [some (.int (n : Nat)), some (.ref lb), some (.ref lf), some (.ref lg), some (.ref lk), some (.ref lr)]) rfl ?_
        refine ⟨_, rfl, _, rfl, n, lk, kv, _, rfl, hn1, hn, hkk, kpt_bnd al, kp.below hbn, fun t H9 s9 ht tl => ?_⟩
        have sE := ((s6).trans s8).trans s9
        have hlk0 : H lk = none := (s6).free hlk
        have egE := s9 _ _ (s8 _ _ (eg6))
        have alE := al.imp fun _ _ r => KptV.tk (TK.same s9) r
        rcases tl with ⟨lf', F, et, _, _, _, sat, hle, hlow⟩ | ⟨lr2, js, et, hlr, er, hjl, ring, rnd⟩
        · refine ⟨t, _, 1, _, rfl, rfl, .inl (.inl et), atI_nat (j := 1) rfl, ?_⟩
          refine gn_norm (σ' := [some (.int (n : Nat)), some (.ref lb), some (.ref lf), some (.ref lg), some (.ref lk), some .non]) rfl ?_
          exact ⟨_, by omega, ⟨lk, kv, ks, g', .non, rfl, sE, egE, gl6, cg.nn, gt6, hlk0, s9 _ _ hkk, alE, kp, hkl, .inl ⟨rfl, F, sat, hle, hlow⟩, rfl⟩⟩
        · refine ⟨t, _, 1, _, rfl, rfl, .inl (.inl et), atI_nat (j := 1) rfl, ?_⟩
          refine gn_norm (σ' := [some (.int (n : Nat)), some (.ref lb), some (.ref lf), some (.ref lg), some (.ref lk), some (.ref lr2)]) rfl ?_
          have nrg : lr2 ≠ lg := fun e => by
            rw [e, s8 _ _ (eg6)] at hlr
            cases hlr
          exact ⟨_, by omega, ⟨lk, kv, ks, g', (.ref lr2), rfl, sE, egE, gl6, cg.nn, gt6, hlk0, s9 _ _ hkk, alE, kp, hkl, .inr ⟨lr2, js, rfl, er, nrg, by omega, ⟨ring, rnd, kp⟩⟩, rfl⟩⟩
end
end Lag

set_option maxRecDepth 100000
set_option maxHeartbeats 8000000
namespace Lag
open PySem PySem.Spec PyProof.Rows L2
abbrev sNearLags : Stmt := topS 53 -- @near_lags
/-! ### lags that fit, from -500 to 500 where there are such: the mathematics -/
def limF (n i : Nat) : List Bnd := (List.range i).flatMap fun s => [(s, n, 500), (n, s, 500)]
theorem limF_succ (n i : Nat) : limF n (i + 1) = limF n i ++ [(i, n, 500)] ++ [(n, i, 500)] := by
  unfold limF
  rw [List.range_succ, List.flatMap_append, List.append_assoc]
  rfl
theorem limF_len (n i : Nat) : (limF n i).length = 2 * i := by
  induction i with
  | zero => rfl
  | succ i ih =>
    rw [limF_succ, List.length_append, List.length_append, ih]
    show 2 * i + 1 + 1 = _
    omega
theorem mem_limF {n i : Nat} {b : Bnd} : b ∈ limF n i ↔ ∃ s, s < i ∧ (b = (s, n, 500) ∨ b = (n, s, 500)) := by
  unfold limF
  rw [List.mem_flatMap]
  constructor
  · rintro ⟨s, hs, hb⟩
    refine ⟨s, List.mem_range.mp hs, ?_⟩
    rcases List.mem_cons.mp hb with h | h
    · exact .inl h
    · exact .inr (List.mem_singleton.mp h)
  · rintro ⟨s, hs, hb⟩
    refine ⟨s, List.mem_range.mpr hs, ?_⟩
    rcases hb with h | h
    · rw [h]
      exact List.mem_cons_self ..
    · rw [h]
      exact List.mem_cons_of_mem _ (List.mem_cons_self ..)
theorem sat_ring {bs : List Bnd} {F : Nat → Int} (S : Sat bs F) {js : List Nat} : ¬ RingB bs js := fun ⟨_, v, hp, hr⟩ => by
  have := S.along hp
  omega
theorem sat_app {bs cs : List Bnd} {F : Nat → Int} : Sat (bs ++ cs) F ↔ Sat bs F ∧ Sat cs F :=
  ⟨fun h => ⟨fun b hb => h b (List.mem_append.mpr (.inl hb)), fun b hb => h b (List.mem_append.mpr (.inr hb))⟩, fun h b hb => by
    rcases List.mem_append.mp hb with hb | hb
    · exact h.1 b hb
    · exact h.2 b hb⟩
/-! ### papers: the mathematics -/
abbrev Ent := Pce × Int
def psum (c : Pce → Int) (es : List Ent) : Int := (es.map fun e => c e.1 * e.2).sum
theorem psum_cons (c : Pce → Int) (e : Ent) (r : List Ent) : psum c (e :: r) = c e.1 * e.2 + psum c r := by
  unfold psum
  rw [List.map_cons, List.sum_cons]
theorem psum_snoc (c : Pce → Int) (es : List Ent) (e : Ent) : psum c (es ++ [e]) = psum c es + c e.1 * e.2 := by
  unfold psum
  rw [List.map_append, List.sum_append]
  show _ + (c e.1 * e.2 + 0) = _
  omega
def dl (g x : Nat) : Int := if x = g then 1 else 0
def dlP (ws : List Wr) (g : Nat) (pc : Pce) : Int := dl g pc.1 - dl g (endW ws pc.1 pc.2)
def wdl (F : Nat → Int) (ws : List Wr) : Int := (ws.map fun x => F x.1 - F x.2.1).sum
theorem wdl_cons (F : Nat → Int) (x : Wr) (r : List Wr) : wdl F (x :: r) = F x.1 - F x.2.1 + wdl F r := by
  unfold wdl
  rw [List.map_cons, List.sum_cons]
theorem wdl_snoc (F : Nat → Int) (ws : List Wr) (x : Wr) : wdl F (ws ++ [x]) = wdl F ws + (F x.1 - F x.2.1) := by
  unfold wdl
  rw [List.map_append, List.sum_append]
  show _ + (F x.1 - F x.2.1 + 0) = _
  omega
/-- each gate that is no port has its balance -/
def Bal (gs : List Gt) (ws : List Wr) (es : List Ent) : Prop := ∀ g, g < gs.length → ¬ portK (kindAt gs g) → psum (dlP ws g) es = wdl (dl g) ws
def EntOk (gs : List Gt) (ws : List Wr) (e : Ent) : Prop := PceOk gs ws e.1 ∧ e.1.2.length ≤ 1000 ∧ 1 ≤ e.2
def regsum (ws : List Wr) : Int := (ws.map fun x => ((x.2.2.length : Nat) : Int)).sum
def cntsum (ws : List Wr) (L : Nat → Int) : Int := (ws.map fun x => ((x.2.2.length : Nat) : Int) + L x.2.1 - L x.1).sum
theorem cntsum_eq (ws : List Wr) (L : Nat → Int) : cntsum ws L = regsum ws - wdl L ws := by
  unfold cntsum regsum wdl
  induction ws with
  | nil => rfl
  | cons x r ih =>
    rw [List.map_cons, List.map_cons, List.map_cons, List.sum_cons, List.sum_cons, List.sum_cons, ih]
    omega
theorem getD_add {ms : List Int} {i g : Nat} {d : Int} (h : i < ms.length) : (ms.set i (ms.getD i 0 + d)).getD g 0 = ms.getD g 0 + dl g i * d := by
  rw [fgetD_set h]
  unfold dl
  by_cases e : i = g
  · rw [if_pos e, if_pos e, Int.one_mul, e]
  · rw [if_neg e, if_neg e, Int.zero_mul, Int.add_zero]
def papF (bps : List (Bnd × Pce)) (f : List Int) : List Ent := ((bps.zip f).filter fun p => decide (0 < p.2)).map fun p => (p.1.2, p.2)
theorem papF_snoc {bps : List (Bnd × Pce)} {f : List Int} (h : bps.length = f.length) (bp : Bnd × Pce) (x : Int) : papF (bps ++ [bp]) (f ++ [x]) = papF bps f ++ if 0 < x then [(bp.2, x)] else [] := by
  unfold papF
  rw [List.zip_append h, List.filter_append, List.map_append]
  congr 1
  show ((List.filter _ [(bp, x)]).map _) = _
  by_cases e : 0 < x
  · rw [if_pos e, List.filter_cons_of_pos (by rw [decide_eq_true_iff]; exact e)]
    rfl
  · rw [if_neg e, List.filter_cons_of_neg (by rw [decide_eq_true_iff]; exact e)]
    rfl
theorem papF_mem {bps : List (Bnd × Pce)} {f : List Int} {e : Ent} (h : e ∈ papF bps f) : (∃ bp ∈ bps, e.1 = bp.2) ∧ 1 ≤ e.2 := by
  unfold papF at h
  obtain ⟨p, hp, rfl⟩ := List.mem_map.mp h
  obtain ⟨h1, h2⟩ := List.mem_filter.mp hp
  rw [decide_eq_true_iff] at h2
  exact ⟨⟨p.1, (List.of_mem_zip h1).1, rfl⟩, h2⟩
theorem papF_sum {c : Pce → Int} {c' : Bnd → Int} : ∀ {bps : List (Bnd × Pce)} {f : List Int}, (∀ bp ∈ bps, c bp.2 = c' bp.1) → (∀ x ∈ f, 0 ≤ x) → psum c (papF bps f) = wsum c' (bps.map fun bp => bp.1) f
  | [], f, _, _ => by
    show (0 : Int) = wsum c' [] f
    rw [wsum_nil]
  | bp :: bps, [], _, _ => rfl
  | bp :: bps, x :: f, h1, h2 => by
    have ih := papF_sum (bps := bps) (f := f) (fun y hy => h1 y (List.mem_cons_of_mem _ hy)) (fun y hy => h2 y (List.mem_cons_of_mem _ hy))
    have hx := h2 x (List.mem_cons_self ..)
    show psum c (((bp, x) :: bps.zip f).filter (fun p => decide (0 < p.2)) |>.map fun p => (p.1.2, p.2)) = c' bp.1 * x + wsum c' (bps.map fun bp => bp.1) f
    rw [← h1 bp (List.mem_cons_self ..), ← ih]
    by_cases e : 0 < x
    · rw [List.filter_cons_of_pos (by rw [decide_eq_true_iff]; exact e)]
      rfl
    · rw [List.filter_cons_of_neg (by rw [decide_eq_true_iff]; exact e)]
      have : x = 0 := by omega
      rw [this, Int.mul_zero, Int.zero_add]
      rfl
theorem dl_spot {gs : List Gt} {g x : Nat} (hg : g < gs.length) (hp : ¬ portK (kindAt gs g)) : dl g (spotF gs x) = dl g x := by
  unfold spotF
  by_cases e : portK (kindAt gs x)
  · rw [if_pos e]
    unfold dl
    rw [if_neg (by omega), if_neg fun z => hp (by rw [← z]; exact e)]
  · rw [if_neg e]
/-- the bound of a piece -/
def BpOk (gs : List Gt) (ws : List Wr) (b : Int) (bp : Bnd × Pce) : Prop := bp.1 = (spotF gs bp.2.1, spotF gs (endW ws bp.2.1 bp.2.2), roomF gs ws b bp.2)
theorem BdsOk.bp {gs : List Gt} {ws : List Wr} {b : Int} {bps : List (Bnd × Pce)} (h : BdsOk gs ws b (bps.map fun bp => bp.2) (bps.map fun bp => bp.1)) : ∀ bp ∈ bps, BpOk gs ws b bp := fun bp hbp => by
  obtain ⟨i, hi⟩ := List.getElem?_of_mem hbp
  obtain ⟨e, _, h2, h3⟩ := h.al.2 i bp.2 bp.1 (by rw [List.getElem?_map, hi]; rfl) (by rw [List.getElem?_map, hi]; rfl)
  unfold BpOk
  rw [endW_of h2]
  exact h3
theorem pap_bal {gs : List Gt} {ws : List Wr} {b : Int} {bps : List (Bnd × Pce)} {f : List Int} (h : ∀ bp ∈ bps, BpOk gs ws b bp) (hf : ∀ x ∈ f, 0 ≤ x) (ht : ∀ F, wsum (dF F) (bps.map fun bp => bp.1) f = wdl (fun x => F (spotF gs x)) ws) : Bal gs ws (papF bps f) := fun g hg hp => by
  rw [papF_sum (c' := dF (dl g)) (fun bp hbp => ?_) hf, ht]
  · congr 1
    funext x
    exact dl_spot hg hp
  · rw [h bp hbp]
    show dl g _ - dl g _ = dl g _ - dl g _
    rw [dl_spot hg hp, dl_spot hg hp]
theorem pap_room {gs : List Gt} {ws : List Wr} {b : Int} {bps : List (Bnd × Pce)} {f : List Int} (h : ∀ bp ∈ bps, BpOk gs ws b bp) (hf : ∀ x ∈ f, 0 ≤ x) : psum (roomF gs ws b) (papF bps f) = wsum (fun b => b.2.2) (bps.map fun bp => bp.1) f :=
  papF_sum (fun bp hbp => by rw [h bp hbp]) hf
/-- a paper tells how few there may be -/
theorem pap_le {gs : List Gt} {ws : List Wr} {b : Int} {es : List Ent} {L : Nat → Int} (N : NetOk gs ws) (hb : Bal gs ws es) (ho : ∀ e ∈ es, EntOk gs ws e) (f : Feas gs ws b L) : regsum ws - psum (roomF gs ws b) es ≤ cntsum ws L := by
  have h1 : psum (fun pc => L pc.1 - L (endW ws pc.1 pc.2)) es ≤ psum (roomF gs ws b) es := by
    clear hb
    induction es with
    | nil => exact Int.le_refl 0
    | cons e r ih =>
      have ih := ih fun x hx => ho x (List.mem_cons_of_mem _ hx)
      obtain ⟨⟨k1, m, k2⟩, k3, k4⟩ := ho e (List.mem_cons_self ..)
      have k5 := f.room k1 k2
      have k6 : L e.1.1 - L (endW ws e.1.1 e.1.2) ≤ roomF gs ws b e.1 := by
        rw [endW_of k2]
        have k5 : L e.1.1 ≤ L m + roomF gs ws b e.1 := k5
        omega
      have k7 := Int.mul_le_mul_of_nonneg_right k6 (show 0 ≤ e.2 by omega)
      rw [psum_cons, psum_cons]
      omega
  have key : ∀ (G : Nat → Int) (n : Nat), n ≤ gs.length → (∀ g, g < n → portK (kindAt gs g) → G g = 0) → (∀ g, n ≤ g → G g = 0) → psum (fun pc => G pc.1 - G (endW ws pc.1 pc.2)) es = wdl G ws := by
    intro G n
    induction n generalizing G with
    | zero =>
      intro _ _ h2
      have z : ∀ x, G x = 0 := fun x => h2 x (Nat.zero_le _)
      have a1 : psum (fun pc => G pc.1 - G (endW ws pc.1 pc.2)) es = 0 := by
        clear h1 hb ho
        induction es with
        | nil => rfl
        | cons e r ih =>
          rw [psum_cons, ih, z, z]
          simp
      have gen : ∀ r : List Wr, wdl G r = 0 := fun r => by
        induction r with
        | nil => rfl
        | cons x r ih => rw [wdl_cons, z, z, ih]; rfl
      have a2 := gen ws
      rw [a1, a2]
    | succ n ih =>
      intro hn hp h2
      have ih := ih (fun x => if x = n then 0 else G x) (by omega) (fun g hg hk => by
        show (if g = n then 0 else G g) = 0
        rw [if_neg (by omega)]
        exact hp g (by omega) hk) (fun g hg => by
        show (if g = n then 0 else G g) = 0
        by_cases e : g = n
        · rw [if_pos e]
        · rw [if_neg e]
          exact h2 g (by omega))
      have sp : ∀ x, G x = (if x = n then 0 else G x) + G n * dl n x := fun x => by
        unfold dl
        by_cases e : x = n
        · rw [if_pos e, if_pos e, e]
          omega
        · rw [if_neg e, if_neg e]
          omega
      have gen2 : ∀ r : List Ent, psum (fun pc => G pc.1 - G (endW ws pc.1 pc.2)) r = psum (fun pc => (if pc.1 = n then 0 else G pc.1) - (if endW ws pc.1 pc.2 = n then 0 else G (endW ws pc.1 pc.2))) r + G n * psum (dlP ws n) r := fun r => by
        induction r with
        | nil =>
          show (0 : Int) = 0 + G n * 0
          omega
        | cons e r ih2 =>
          rw [psum_cons, psum_cons, psum_cons, ih2]
          have a := sp e.1.1
          have b' := sp (endW ws e.1.1 e.1.2)
          generalize (if e.1.1 = n then (0 : Int) else G e.1.1) = u at a ⊢
          generalize (if endW ws e.1.1 e.1.2 = n then (0 : Int) else G (endW ws e.1.1 e.1.2)) = v at b' ⊢
          unfold dlP
          rw [a, b', Int.mul_add, ← Int.mul_assoc, Int.mul_sub, show u + G n * dl n e.1.1 - (v + G n * dl n (endW ws e.1.1 e.1.2)) = (u - v) + (G n * dl n e.1.1 - G n * dl n (endW ws e.1.1 e.1.2)) by omega, Int.add_mul]
          omega
      have a1 := gen2 es
      have gen : ∀ r : List Wr, wdl G r = wdl (fun x => if x = n then 0 else G x) r + G n * wdl (dl n) r := fun r => by
        induction r with
        | nil =>
          show (0 : Int) = 0 + G n * 0
          omega
        | cons x r ih3 =>
          rw [wdl_cons, wdl_cons, wdl_cons, ih3]
          have a := sp x.1
          have b' := sp x.2.1
          generalize (if x.1 = n then (0 : Int) else G x.1) = u at a ⊢
          generalize (if x.2.1 = n then (0 : Int) else G x.2.1) = v at b' ⊢
          rw [a, b', Int.mul_add, Int.mul_sub]
          omega
      have a2 := gen ws
      rw [a1, a2, ih]
      by_cases hk : portK (kindAt gs n)
      · rw [hp n (Nat.lt_succ_self _) hk, Int.zero_mul, Int.zero_mul]
      · rw [hb n (by omega) hk]
  have h2 := key (fun x => if x < gs.length then L x else 0) gs.length (Nat.le_refl _) (fun g hg hk => by
    show (if g < gs.length then L g else 0) = 0
    rw [if_pos hg]
    exact f.out g hg hk) (fun g hg => by
    show (if g < gs.length then L g else 0) = 0
    rw [if_neg (by omega)])
  have h3 : wdl (fun x => if x < gs.length then L x else 0) ws = wdl L ws := by
    unfold wdl
    refine congrArg List.sum (List.map_congr_left fun x hx => ?_)
    have WX := N.wok x hx
    show (if x.1 < gs.length then L x.1 else 0) - (if x.2.1 < gs.length then L x.2.1 else 0) = _
    rw [if_pos WX.s, if_pos WX.e]
  have h4 : psum (fun pc => (if pc.1 < gs.length then L pc.1 else 0) - (if endW ws pc.1 pc.2 < gs.length then L (endW ws pc.1 pc.2) else 0)) es = psum (fun pc => L pc.1 - L (endW ws pc.1 pc.2)) es := by
    unfold psum
    refine congrArg List.sum (List.map_congr_left fun e he => ?_)
    obtain ⟨⟨k1, m, k2⟩, _⟩ := ho e he
    have k3 := k2.lt N k1
    dsimp only
    rw [endW_of k2, if_pos k1, if_pos k3]
  rw [cntsum_eq, ← h3, ← h2, h4]
  omega
def spNearLags (K : PySem.W.Frag) (C : Addr) : Sp := fun vs H Q _ => ∃ (p ng nw lk : Addr) (gs : List Gt) (ws : List Wr) (kv : List V) (ks : List Bnd) (F : Nat → Int), vs = [.ref p, .int ((gs.length + 1 : Nat) : Int), .ref lk] ∧ NetAt K C H p ng nw gs ws ∧ NetOk gs ws ∧ H lk = some (.lst kv) ∧ All2 (BndV K H) kv ks ∧ (∀ b ∈ ks, b.1 < gs.length + 1 ∧ b.2.1 < gs.length + 1) ∧ ks.length ≤ 22000 ∧ Sat ks F ∧
  ∀ l (G : Nat → Int) H', Same H H' → H l = none → H' l = some (.lst ((lagsL gs (lagsAt gs G)).map V.int)) → Sat ks G → ((∀ v, v < gs.length → F v - F gs.length ≤ 500 ∧ -500 ≤ F v - F gs.length) → ∀ g, g < gs.length → -500 ≤ lagsAt gs G g ∧ lagsAt gs G g ≤ 500) → Q (.ref l) H'
section
variable {P : Program} {w : World} {K : PySem.W.Frag} {mg : Str → Option Value} {base : Heap}
abbrev nNearLags : List Str := ["net", "many", "bounds", "outer", "limits", "spot", "found", "ring"]
theorem scNearLags : FnScope nNearLags ["net", "many", "bounds"] (defScope sNearLags) := ⟨rfl, rfl, rfl, by decide +kernel, rfl, by decide +kernel, by decide +kernel⟩
abbrev DNearLags (P : Program) (w : World) (K : PySem.W.Frag) (mg : Str → Option Value) (base : Heap) (C : Addr) := Df P w K mg base 4 "near_lags" ["net", "many", "bounds"] (spNearLags K C)
theorem ok_nearLags {f fS fL C : Addr} {fd fdS fdL : FuncData} (F : Fun K "near_lags" "near_lags" sNearLags f fd) (hm : mg "near_lags" = some (.ref f)) (B : Bt mg) (T : NT K mg C) (gl : ∃ t, mg "GREATEST_LAG" = some (.int 500 t)) (DSe : DSettle P w K mg base fS fdS) (DLa : DLagsAt P w K mg base C fL fdL) : DNearLags P w K mg base C f fd := by
  refine ⟨?_, hm, F.kp, F.binds fun _ _ _ _ _ _ us hl => match us, hl with | [_, _, _], _ => rfl⟩
  refine F.ok scNearLags (fun vs H Q E h => ?_) (fun cdv A outer s H vs Q E hr h => ?_)
  · obtain ⟨p, ng, nw, lk, gs, ws, kv, ks, F0, rfl, _⟩ := h
    rfl
  · obtain ⟨p, ng, nw, lk, gs, ws, kv, ks, F0, rfl, NA, N, hlk, al, hbn, hkl, S0, q⟩ := h
    have nd := scNearLags.nd
    obtain ⟨tg, hgl⟩ := gl
    refine ⟨_, pss_cons (ps_set (i := 3) nd rfl (.inl rfl) (pe_callB call_len_seq (by rfl) B.len PySem.boot_len (pa_cons (pe_fld (pv 0) rfl) pa_nil))) <|
        pss_cons (ps_set (i := 4) nd rfl (.inl rfl) (pe_lst pa_nil)) <|
        pss_cons (ps_for PassesOwn.never rfl (pi_range1 (by rfl) B.range (pa_cons (pv 3) pa_nil)) (pg_name (i := 5) nd rfl (.inl rfl)) (pss_cons (ps_expr (pe_bm PySem.F.plainAttrs_list PySem.F.slot_list_append PySem.F.type_list_append mt_append (pv 4) (pa_cons (pe_tup (pa_cons (pv 5) (pa_cons (pv 3) (pa_cons (pe_glob (v := .int 500) (by rfl) hgl ⟨_, rfl⟩) (pa_cons pe_non pa_nil))))) pa_nil))) <|
        pss_one (ps_expr (pe_bm PySem.F.plainAttrs_list PySem.F.slot_list_append PySem.F.type_list_append mt_append (pv 4) (pa_cons (pe_tup (pa_cons (pv 3) (pa_cons (pv 5) (pa_cons (pe_glob (v := .int 500) (by rfl) hgl ⟨_, rfl⟩) (pa_cons pe_non pa_nil))))) pa_nil))))) <|
        pss_cons (ps_asg (pe_call DSe.ok (hr.mono (by decide)) (by rfl) DSe.mg DSe.kp DSe.bd .nil pass0 (pa_cons (pv 1) (pa_cons (pe_op op_cat (pv 2) (pv 4)) pa_nil))) (pg_tup rfl (pgs_cons (pg_name (i := 6) nd rfl (.inl rfl)) (pgs_cons (pg_name (i := 7) nd rfl (.inl rfl)) pgs_nil)))) <|
        Evl.pss_cut (ps_if (pt_cmpR op_isN (pv 6) pe_non (nomark _)) (pss_one (ps_asg (pe_call DSe.ok (hr.mono (by decide)) (by rfl) DSe.mg DSe.kp DSe.bd .nil pass0 (pa_cons (pv 1) (pa_cons (pv 2) pa_nil))) (pg_tup rfl (pgs_cons (pg_name (i := 6) nd rfl (.inl rfl)) (pgs_cons (pg_name (i := 7) nd rfl (.inl rfl)) pgs_nil))))) pss_nil) <|
        pss_one (ps_ret (pe_call DLa.ok (hr.mono (by decide)) (by rfl) DLa.mg DLa.kp DLa.bd .nil pass0 (pa_cons (pv 0) (pa_cons (pv 6) pa_nil)))), ?_⟩
    obtain ⟨dx, ob⟩ := id NA.ob
    obtain ⟨gv, hgv, ga⟩ := id NA.g
    have hlg : gv.length = gs.length := ga.1
    have hgl1 := N.gl
    refine ⟨_, rfl, p, C, dx, _, _, rfl, ob, T.cl, T.nG, nf_gates _ _, ng, gv, rfl, .inl (SqL.of hgv), ?_⟩
    rw [hlg]
    refine gn_norm (σ' := [some (.ref p), some (.int ((gs.length + 1 : Nat) : Int)), some (.ref lk), some (.int ((gs.length : Nat) : Int)), none, none, none, none]) rfl ?_
    refine ⟨(by show 0 ≤ sizeLine; decide), fun ll hll => ?_⟩
    have s1 : Same H (upd H ll (.lst [])) := same_new hll
    have e1 : (upd H ll (.lst [])) ll = some (.lst []) := upd_same
    obtain ⟨H1, hH1⟩ : ∃ H1, H1 = upd H ll (.lst []) := ⟨_, rfl⟩
    rw [← hH1] at s1 e1
    refine gn_normH (σ' := [some (.ref p), some (.int ((gs.length + 1 : Nat) : Int)), some (.ref lk), some (.int ((gs.length : Nat) : Int)), some (.ref ll), none, none, none]) (H' := H1) rfl hH1.symm ?_
    refine ⟨_, rfl, _, rfl, by omega, by omega, for_range (lo := 0) (n := ((gs.length : Nat) : Int).toNat) (fun i σ H' => ∃ (u5 : Option V) (lv : List V), σ = [some (.ref p), some (.int ((gs.length + 1 : Nat) : Int)), some (.ref lk), some (.int ((gs.length : Nat) : Int)), some (.ref ll), u5, none, none] ∧ H' ll = some (.lst lv) ∧ All2 (BndV K H') lv (limF gs.length i) ∧ Same H H')
      ⟨_, [], rfl, e1, .nil, s1⟩ ?_ ?_⟩
    · rintro i σ H2 hi ⟨u5, lv, rfl, hl2, la, sm⟩
      have ei : (0 : Int) + ((i : Nat) : Int) = ((i : Nat) : Int) := Int.zero_add _
      rw [ei]
      have hlv : lv.length = 2 * i := by rw [la.1, limF_len]
      refine gn_norm (σ' := [some (.ref p), some (.int ((gs.length + 1 : Nat) : Int)), some (.ref lk), some (.int ((gs.length : Nat) : Int)), some (.ref ll), some (.int ((i : Nat) : Int)), none, none]) rfl ?_
      refine ⟨_, rfl, .inl ⟨rfl, _, SqL.of hl2⟩, _, rfl, _, rfl, (by show 4 ≤ sizeLine; decide), fun t1 ht1 => ?_⟩
      have st1 := same_new (o := .tup [.int ((i : Nat) : Int), .int ((gs.length : Nat) : Int), .int 500, .non]) ht1
      have et1 : (upd H2 t1 (.tup [.int ((i : Nat) : Int), .int ((gs.length : Nat) : Int), .int 500, .non])) t1 = some (.tup [.int ((i : Nat) : Int), .int ((gs.length : Nat) : Int), .int 500, .non]) := upd_same
      generalize upd H2 t1 (.tup [.int ((i : Nat) : Int), .int ((gs.length : Nat) : Int), .int 500, .non]) = H3 at st1 et1
      refine ⟨ll, _, _, rfl, rfl, st1 _ _ hl2, small1000 (by omega), ?_⟩
      have la3 : All2 (BndV K (upd H3 ll (.lst (lv ++ [.ref t1])))) (lv ++ [.ref t1]) (limF gs.length i ++ [(i, gs.length, 500)]) := All2.snoc (la.imp fun _ _ r => (BndV.tk (TK.same st1) r).tk (TK.lst (st1 _ _ hl2))) ((show BndV K H3 (.ref t1) (i, gs.length, 500) from ⟨t1, _, rfl, .inl (.inl et1)⟩).tk (TK.lst (st1 _ _ hl2)))
      have sm3 : Same H (upd H3 ll (.lst (lv ++ [.ref t1]))) := same_mut (sm.trans st1) hll
      have hl3 : (upd H3 ll (.lst (lv ++ [.ref t1]))) ll = some (.lst (lv ++ [.ref t1])) := upd_same
      generalize upd H3 ll (.lst (lv ++ [.ref t1])) = H4 at la3 sm3 hl3
      refine ⟨_, rfl, .inl ⟨rfl, _, SqL.of hl3⟩, _, rfl, _, rfl, (by show 4 ≤ sizeLine; decide), fun t2 ht2 => ?_⟩
      have st2 := same_new (o := .tup [.int ((gs.length : Nat) : Int), .int ((i : Nat) : Int), .int 500, .non]) ht2
      have et2 : (upd H4 t2 (.tup [.int ((gs.length : Nat) : Int), .int ((i : Nat) : Int), .int 500, .non])) t2 = some (.tup [.int ((gs.length : Nat) : Int), .int ((i : Nat) : Int), .int 500, .non]) := upd_same
      generalize upd H4 t2 (.tup [.int ((gs.length : Nat) : Int), .int ((i : Nat) : Int), .int 500, .non]) = H5 at st2 et2
      refine ⟨ll, _, _, rfl, rfl, st2 _ _ hl3, small1000 (by rw [List.length_append]; show _ + 1 ≤ _; omega), ?_⟩
      refine ⟨_, lv ++ [.ref t1] ++ [.ref t2], rfl, upd_same, ?_, same_mut (sm3.trans st2) hll⟩
      rw [limF_succ]
      exact All2.snoc (la3.imp fun _ _ r => (BndV.tk (TK.same st2) r).tk (TK.lst (st2 _ _ hl3))) ((show BndV K H5 (.ref t2) (gs.length, i, 500) from ⟨t2, _, rfl, .inl (.inl et2)⟩).tk (TK.lst (st2 _ _ hl3)))
    rintro σ H2 ⟨u5, lv, rfl, hl2, la, sm⟩
    rw [Int.toNat_natCast] at la
    have hkv : kv.length = ks.length := al.1
    have hlv : lv.length = 2 * gs.length := by rw [la.1, limF_len]
    refine ⟨_, rfl, _, rfl, _, rfl, lk, ll, _, _, rfl, rfl, sm _ _ hlk, hl2, ?_, fun l3 hl3 => ?_⟩
    · exact Nat.le_of_lt (Nat.lt_of_le_of_lt (show kv.length + lv.length ≤ 23000 by omega) (by decide))
    have s3 : Same H2 (upd H2 l3 (.lst (kv ++ lv))) := same_new hl3
    have e3 : (upd H2 l3 (.lst (kv ++ lv))) l3 = some (.lst (kv ++ lv)) := upd_same
    generalize upd H2 l3 (.lst (kv ++ lv)) = H3 at s3 e3
    have sm3 := sm.trans s3
    have al3 : All2 (BndV K H3) (kv ++ lv) (ks ++ limF gs.length gs.length) := all2_app' (al.imp fun _ _ r => BndV.tk (TK.same sm3) r) (la.imp fun _ _ r => BndV.tk (TK.same s3) r)
    refine ⟨gs.length + 1, l3, _, _, rfl, by omega, by omega, e3, al3, fun b hb => ?_, fun t H4 s4 ht tl => ?_⟩
    · rcases List.mem_append.mp hb with hb | hb
      · exact hbn b hb
      · obtain ⟨s, hs, h⟩ := mem_limF.mp hb
        rcases h with rfl | rfl
        · exact ⟨show s < _ by omega, show gs.length < _ by omega⟩
        · exact ⟨show gs.length < _ by omega, show s < _ by omega⟩
    have sm4 := sm3.trans s4
    -- the numbers, or none
    have hfin : ∀ (lf : Addr) (F : List Int) (u7 : Option V) (H5 : Hp) (D : Ends), Same H H5 → H5 lf = some (.lst (F.map V.int)) → F.length = gs.length + 1 → True := fun _ _ _ _ _ _ _ _ => trivial
    rcases tl with ⟨lf, F, et, _, ef, hfl, sat, _, _⟩ | ⟨lr, js, et, _, er, hjl, ring, _⟩
    · refine ⟨t, _, rfl, .inl (.inl et), rfl, _, _, rfl, _, _, rfl, rfl, ?_⟩
      refine gn_norm (σ' := [some (.ref p), some (.int ((gs.length + 1 : Nat) : Int)), some (.ref lk), some (.int ((gs.length : Nat) : Int)), some (.ref ll), u5, some (.ref lf), some .non]) rfl ?_
      refine ⟨fun σ H' => σ = [some (.ref p), some (.int ((gs.length + 1 : Nat) : Int)), some (.ref lk), some (.int ((gs.length : Nat) : Int)), some (.ref ll), u5, some (.ref lf), some .non] ∧ H' = H4, ⟨_, rfl, rfl, _, rfl, iteF ⟨rfl, rfl⟩⟩, ?_⟩
      rintro σ H5 ⟨rfl, rfl⟩
      obtain ⟨sk, sl⟩ := sat_app.mp sat
      refine ⟨_, rfl, _, rfl, p, ng, nw, lf, gs, ws, F, rfl, NA.same sm4, N, SqL.of ef, by omega, fun l H6 s6 hl el => ?_⟩
      refine q l (fun v => F.getD v 0) H6 (sm4.trans s6) (sm4.free hl) el sk fun _ g hg => ?_
      unfold lagsAt
      have h1 := spot_le (gs := gs) g hg
      by_cases e : spotF gs g = gs.length
      · rw [e]
        omega
      · have a1 := sl _ (mem_limF.mpr ⟨spotF gs g, by omega, .inl rfl⟩)
        have a2 := sl _ (mem_limF.mpr ⟨spotF gs g, by omega, .inr rfl⟩)
        have a1 : F.getD (spotF gs g) 0 ≤ F.getD gs.length 0 + 500 := a1
        have a2 : F.getD gs.length 0 ≤ F.getD (spotF gs g) 0 + 500 := a2
        show -500 ≤ F.getD (spotF gs g) 0 - F.getD gs.length 0 ∧ F.getD (spotF gs g) 0 - F.getD gs.length 0 ≤ 500
        omega
    · refine ⟨t, _, rfl, .inl (.inl et), rfl, _, _, rfl, _, _, rfl, rfl, ?_⟩
      refine gn_norm (σ' := [some (.ref p), some (.int ((gs.length + 1 : Nat) : Int)), some (.ref lk), some (.int ((gs.length : Nat) : Int)), some (.ref ll), u5, some .non, some (.ref lr)]) rfl ?_
      refine ⟨fun σ H' => ∃ (lf : Addr) (F : List Int) (u7 : Option V), σ = [some (.ref p), some (.int ((gs.length + 1 : Nat) : Int)), some (.ref lk), some (.int ((gs.length : Nat) : Int)), some (.ref ll), u5, some (.ref lf), u7] ∧ Same H H' ∧ H' lf = some (.lst (F.map V.int)) ∧ F.length = gs.length + 1 ∧ Sat ks (fun v => F.getD v 0), ?_, ?_⟩
      · refine ⟨_, rfl, rfl, _, rfl, iteT ?_⟩
        refine ⟨_, rfl, _, rfl, gs.length + 1, lk, kv, ks, rfl, by omega, by omega, sm4 _ _ hlk, al.imp fun _ _ r => BndV.tk (TK.same sm4) r, hbn, fun t2 H5 s5 ht2 tl2 => ?_⟩
        rcases tl2 with ⟨lf, F, et2, _, ef, hfl, sat, _, _⟩ | ⟨_, _, _, _, _, _, ring2, _⟩
        · refine ⟨t2, _, rfl, .inl (.inl et2), rfl, _, _, rfl, _, _, rfl, rfl, ?_⟩
          exact ⟨lf, F, _, rfl, sm4.trans s5, ef, hfl, sat⟩
        · exact absurd ring2 (sat_ring S0)
      rintro σ H5 ⟨lf, F, u7, rfl, s5, ef, hfl, sat⟩
      refine ⟨_, rfl, _, rfl, p, ng, nw, lf, gs, ws, F, rfl, NA.same s5, N, SqL.of ef, by omega, fun l H6 s6 hl el => ?_⟩
      refine q l (fun v => F.getD v 0) H6 (s5.trans s6) (s5.free hl) el sat fun hF => ?_
      have S1 : Sat (ks ++ limF gs.length gs.length) F0 := sat_app.mpr ⟨S0, fun b hb => by
        obtain ⟨s, hs, h⟩ := mem_limF.mp hb
        have := hF s hs
        rcases h with rfl | rfl
        · show F0 s ≤ F0 gs.length + 500
          omega
        · show F0 gs.length ≤ F0 s + 500
          omega⟩
      exact absurd ring (sat_ring S1)
end
end Lag

set_option maxRecDepth 100000
set_option maxHeartbeats 8000000
namespace Lag
open PySem PySem.Spec PyProof.Rows L2
abbrev sRegisters : Stmt := topS 42 -- @registers
abbrev sPlainFlow : Stmt := topS 67 -- @plain_flow
abbrev sPaperOf : Stmt := topS 68 -- @paper_of
abbrev sRoomIn : Stmt := topS 66 -- @room_in
abbrev sNumPiece : Stmt := topS 64 -- @is_numbered_piece
abbrev sIsPaper : Stmt := topS 63 -- @is_paper
abbrev sGateFault : Stmt := topS 65 -- @gate_fault
abbrev sPaperFault : Stmt := topS 70 -- @paper_fault
abbrev sBoundOf : Stmt := topS 71 -- @bound_of
abbrev sLetBounds : Stmt := topS 73 -- @let_bounds
abbrev sFewest : Stmt := topS 72 -- @fewest
theorem hu65_of {k : Nat} {A : Around} (r : Room k A) : A.units + 65 < cLine := by have := r.un; omega
theorem prg_leF {gs : List Gt} {ws : List Wr} (N : NetOk gs ws) : ∀ {ps : List Nat} {s e : Nat}, Pw ws s ps e → prg ws ps ≤ 100 * (ps.length : Int)
  | [], _, _, _ => Int.le_refl 0
  | p :: r, s, e, ⟨x, hx, hs, h3⟩ => by
    have h1 := prg_leF N h3
    have h2 := (N.wok x (List.mem_of_getElem? hx)).rl
    rw [prg_cons hx, List.length_cons]
    omega
theorem room_bd {gs : List Gt} {ws : List Wr} {b : Int} {pc : Pce} (N : NetOk gs ws) (h : PceOk gs ws pc) (hl : pc.2.length ≤ 1000) : -1 ≤ roomF gs ws b pc ∧ roomF gs ws b pc ≤ 100000 := by
  obtain ⟨_, e, hp⟩ := h
  have h1 := prg_leF N hp
  have h2 := prg_nn ws pc.2
  unfold roomF
  split <;> omega
theorem first_ix {α : Type} [DecidableEq α] : ∀ {l : List α} {x : α}, x ∈ l → ∃ j : Nat, l[j]? = some x ∧ ∀ (m : Nat) (z : α), m < j → l[m]? = some z → z ≠ x
  | y :: r, x, h => by
    by_cases e : y = x
    · exact ⟨0, by rw [e]; rfl, fun m z hm => absurd hm (Nat.not_lt_zero _)⟩
    · rcases List.mem_cons.mp h with h | h
      · exact absurd h.symm e
      · obtain ⟨j, h1, h2⟩ := first_ix h
        refine ⟨j + 1, h1, fun m z hm hz => ?_⟩
        cases m with
        | zero =>
          cases hz
          exact e
        | succ m => exact h2 m z (by omega) hz
def natsD (e : Nat × Nat) : PyData := .tuple [.int ((e.1 : Nat) : Int), .int ((e.2 : Nat) : Int)]
theorem natsD_eq (a b : Nat × Nat) : PyData.eqv (natsD a) (natsD b) = decide (a = b) := by
  show ((((a.1 : Nat) : Int) == ((b.1 : Nat) : Int)) && ((((a.2 : Nat) : Int) == ((b.2 : Nat) : Int)) && true)) = _
  rw [Bool.eq_iff_iff]
  simp only [Bool.and_eq_true, beq_iff_eq, decide_eq_true_eq, and_true]
  constructor
  · rintro ⟨h1, h2⟩
    exact Prod.ext (by omega) (by omega)
  · rintro rfl
    exact ⟨rfl, rfl⟩
theorem sh_nats {k : Nat} (e : Nat × Nat) : Sh (k + 1) (natsD e) := sh_tuple fun d hd => by
  rcases List.mem_cons.mp hd with rfl | hd
  · exact sh_int _
  · rw [List.mem_singleton.mp hd]
    exact sh_int _
theorem dp_natsV {K : PySem.W.Frag} {H : Hp} {v : V} {e : Nat × Nat} (h : NatsV K H v e) : Dp K H v (natsD e) := by
  obtain ⟨a, rfl, s⟩ := h
  exact .tup s (.cons (.int _) (.cons (.int _) .nil))
theorem dpall_nats {K : PySem.W.Frag} {H : Hp} : ∀ {vs : List V} {es : List (Nat × Nat)}, All2 (NatsV K H) vs es → DpAll K H vs (es.map natsD)
  | [], [], _ => .nil
  | [], _ :: _, h => by have := h.1; cases this
  | _ :: _, [], h => by have := h.1; cases this
  | v :: vs, e :: es, h => .cons (dp_natsV h.head) (dpall_nats h.tail)
def EntV (K : PySem.W.Frag) (H : Hp) (v : V) (e : Ent) : Prop := ∃ a p, v = .ref a ∧ SqT K H a [p, .int e.2] ∧ PceV K H p e.1
theorem EntV.same {K : PySem.W.Frag} {H H' : Hp} {v : V} {e : Ent} (s : Same H H') (h : EntV K H v e) : EntV K H' v e := by
  obtain ⟨a, p, e', h1, h2⟩ := h
  exact ⟨a, p, e', (TK.same s).seq h1, h2.same s⟩
theorem BpV.pce {K : PySem.W.Frag} {H : Hp} {lb : Addr} {v : V} {bp : Bnd × Pce} (h : BpV K H lb v bp) : ∃ a pa, v = .ref a ∧ SqT K H a [.int ((bp.1.1 : Nat) : Int), .int ((bp.1.2.1 : Nat) : Int), .int bp.1.2.2, pa] ∧ PceV K H pa bp.2 := by
  obtain ⟨a, pa, l, e, h1, h2, h3, _⟩ := h
  exact ⟨a, .ref pa, e, h1, pa, l, rfl, h2, SqL.of h3⟩
theorem bpv_bnd {K : PySem.W.Frag} {H : Hp} {lb : Addr} {bv : List V} {bps : List (Bnd × Pce)} (h : All2 (BpV K H lb) bv bps) : All2 (BndV K H) bv (bps.map fun bp => bp.1) := by
  refine ⟨by rw [List.length_map]; exact h.1, fun i v bd hv hbd => ?_⟩
  rw [List.getElem?_map] at hbd
  cases e : bps[i]? with
  | none => rw [e] at hbd; cases hbd
  | some bp =>
    rw [e] at hbd
    cases hbd
    obtain ⟨a, pa, e1, e2, _⟩ := (h.2 i v bp hv e).pce
    exact ⟨a, pa, e1, e2⟩
theorem plain_step {gs : List Gt} {ws : List Wr} {b : Int} {bps : List (Bnd × Pce)} {f : List Int} {i j : Nat} {x : Wr} {bp : Bnd × Pce} (hx : ws[i]? = some x) (hj : bps[j]? = some bp) (ho : BpOk gs ws b bp) (he : endsF ws bp.2 = (x.1, x.2.1)) (hl : f.length = bps.length)
    (ht : ∀ F, wsum (dF F) (bps.map fun bp => bp.1) f = wdl (fun x => F (spotF gs x)) (ws.take i)) : ∀ F, wsum (dF F) (bps.map fun bp => bp.1) (f.set j (f.getD j 0 + 1)) = wdl (fun x => F (spotF gs x)) (ws.take (i + 1)) := fun F => by
  have hjl : j < f.length := by rw [hl]; exact (List.getElem?_eq_some_iff.mp hj).1
  have hf : f[j]? = some (f.getD j 0) := by rw [List.getD_eq_getElem?_getD, List.getElem?_eq_getElem hjl]; rfl
  have e1 : bp.2.1 = x.1 := congrArg Prod.fst he
  have e2 : endW ws bp.2.1 bp.2.2 = x.2.1 := congrArg Prod.snd he
  rw [wsum_add (dF F) (b := bp.1) (by rw [List.getElem?_map, hj]; rfl) hf, ht F, List.take_add_one, hx, Int.mul_one]
  show _ = wdl _ (ws.take i ++ [x])
  rw [wdl_snoc, ho]
  show _ + (F (spotF gs bp.2.1) - F (spotF gs (endW ws bp.2.1 bp.2.2))) = _
  rw [e2, e1]
theorem wsum_zero (c : Bnd → Int) : ∀ (bs : List Bnd) (n : Nat), wsum c bs (List.replicate n 0) = 0
  | [], n => wsum_nil c _
  | b :: bs, 0 => rfl
  | b :: bs, n + 1 => by
    rw [List.replicate_succ]
    show c b * 0 + wsum c bs (List.replicate n 0) = 0
    rw [wsum_zero c bs n, Int.mul_zero]
    rfl
theorem rep0 (n : Nat) : (List.replicate n [V.int 0]).flatten = (List.replicate n (0 : Int)).map V.int := by
  rw [List.map_replicate]
  exact List.flatten_replicate_singleton
def spRegisters (K : PySem.W.Frag) (C : Addr) : Sp := fun vs H Q _ => ∃ (p ng nw : Addr) (gs : List Gt) (ws : List Wr), vs = [.ref p] ∧ NetAt K C H p ng nw gs ws ∧ NetOk gs ws ∧ ∀ H', Same H H' → Q (.int (regsum ws)) H'
def spPlainFlow (K : PySem.W.Frag) (C : Addr) : Sp := fun vs H Q _ => ∃ (p ng nw lb lq : Addr) (gs : List Gt) (ws : List Wr) (b : Int) (bv : List V) (bps : List (Bnd × Pce)), vs = [.ref p, .ref lb, .ref lq] ∧ NetAt K C H p ng nw gs ws ∧ NetOk gs ws ∧ H lb = some (.lst bv) ∧ All2 (BpV K H lb) bv bps ∧ BdsOk gs ws b (bps.map fun bp => bp.2) (bps.map fun bp => bp.1) ∧ bps.length ≤ 11000 ∧ (∀ bp ∈ bps, PceOk gs ws bp.2 ∧ bp.2.2.length ≤ 1000) ∧ SqL K H lq (nvs (List.range ws.length)) ∧
  ∀ l f H', Same H H' → H l = none → H' l = some (.lst (f.map V.int)) → f.length = bps.length → (∀ x ∈ f, 0 ≤ x) → (∀ F, wsum (dF F) (bps.map fun bp => bp.1) f = wdl (fun x => F (spotF gs x)) ws) → Q (.ref l) H'
def spPaperOf (K : PySem.W.Frag) : Sp := fun vs H Q _ => ∃ (lb lf lt : Addr) (bv : List V) (bps : List (Bnd × Pce)) (f : List Int), vs = [.ref lb, .ref lf] ∧ H lb = some (.lst bv) ∧ All2 (BpV K H lt) bv bps ∧ SqL K H lf (f.map V.int) ∧ f.length = bps.length ∧ bps.length ≤ 11000 ∧
  ∀ l ev H', Same H H' → H l = none → H' l = some (.lst ev) → All2 (EntV K H') ev (papF bps f) → Q (.ref l) H'
def spRoomIn (K : PySem.W.Frag) (C : Addr) : Sp := fun vs H Q _ => ∃ (p ng nw lp : Addr) (gs : List Gt) (ws : List Wr) (b : Int) (ev : List V) (es : List Ent), vs = [.ref p, .int b, .ref lp] ∧ NetAt K C H p ng nw gs ws ∧ NetOk gs ws ∧ SqL K H lp ev ∧ All2 (EntV K H) ev es ∧ (∀ e ∈ es, EntOk gs ws e) ∧ es.length ≤ 11000 ∧ ∀ H', Same H H' → Q (.int (psum (roomF gs ws b) es)) H'
def spNumPiece (K : PySem.W.Frag) (C : Addr) : Sp := fun vs H Q _ => ∃ (p ng nw : Addr) (gs : List Gt) (ws : List Wr) (v : V) (e : Ent), vs = [.ref p, v] ∧ NetAt K C H p ng nw gs ws ∧ NetOk gs ws ∧ EntV K H v e ∧ EntOk gs ws e ∧ ∀ H', Same H H' → Q (.bl true) H'
def spIsPaper (K : PySem.W.Frag) (C : Addr) : Sp := fun vs H Q _ => ∃ (p ng nw lp : Addr) (gs : List Gt) (ws : List Wr) (ev : List V) (es : List Ent), vs = [.ref p, .ref lp] ∧ NetAt K C H p ng nw gs ws ∧ NetOk gs ws ∧ SqL K H lp ev ∧ All2 (EntV K H) ev es ∧ (∀ e ∈ es, EntOk gs ws e) ∧ es.length ≤ 11000 ∧ ∀ H', Same H H' → Q (.bl true) H'
/-- balanced: no fault -/
def spGateFault (K : PySem.W.Frag) (C : Addr) : Sp := fun vs H Q _ => ∃ (p ng nw lp lq : Addr) (gs : List Gt) (ws : List Wr) (ev : List V) (es : List Ent), vs = [.ref p, .ref lp, .ref lq] ∧ NetAt K C H p ng nw gs ws ∧ NetOk gs ws ∧ SqL K H lp ev ∧ All2 (EntV K H) ev es ∧ (∀ e ∈ es, EntOk gs ws e) ∧ Bal gs ws es ∧ SqL K H lq (nvs (List.range ws.length)) ∧ ∀ H', Same H H' → Q .non H'
def spPaperFault (K : PySem.W.Frag) (C : Addr) : Sp := fun vs H Q _ => ∃ (p ng nw lp : Addr) (gs : List Gt) (ws : List Wr) (b : Int) (ev : List V) (es : List Ent), vs = [.ref p, .int b, .ref lp] ∧ NetAt K C H p ng nw gs ws ∧ NetOk gs ws ∧ 0 ≤ b ∧ SqL K H lp ev ∧ All2 (EntV K H) ev es ∧ (∀ e ∈ es, EntOk gs ws e) ∧ es.length ≤ 11000 ∧ Bal gs ws es ∧ ∀ H', Same H H' → Q .non H'
def spBoundOf (K : PySem.W.Frag) (C : Addr) : Sp := fun vs H Q _ => ∃ (p ng nw lp : Addr) (gs : List Gt) (ws : List Wr) (b : Int) (ev : List V) (es : List Ent), vs = [.ref p, .ref lp, .int b] ∧ NetAt K C H p ng nw gs ws ∧ NetOk gs ws ∧ 0 ≤ b ∧ SqL K H lp ev ∧ All2 (EntV K H) ev es ∧ (∀ e ∈ es, EntOk gs ws e) ∧ es.length ≤ 11000 ∧ Bal gs ws es ∧ ∀ H', Same H H' → Q (.int (regsum ws - psum (roomF gs ws b) es)) H'
def spLetBounds (K : PySem.W.Frag) (C : Addr) : Sp := fun vs H Q _ => ∃ (p ng nw : Addr) (gs : List Gt) (ws : List Wr) (b : Int), vs = [.ref p, .int b] ∧ NetAt K C H p ng nw gs ws ∧ NetOk gs ws ∧ 0 ≤ b ∧ FeasE gs ws b ∧
  ∀ (lb : Addr) (bv : List V) (bps : List (Bnd × Pce)) (H' : Hp), Same H H' → H lb = none → H' lb = some (.lst bv) → All2 (BpV K H' lb) bv bps → BdsOk gs ws b (bps.map fun bp => bp.2) (bps.map fun bp => bp.1) → bps.length ≤ 11000 → (∀ bp ∈ bps, PceOk gs ws bp.2 ∧ bp.2.2.length ≤ 1000) → Q (.ref lb) H'
/-- the fewest registers of lags for b, such lags, a paper -/
def spFewest (K : PySem.W.Frag) (C : Addr) : Sp := fun vs H Q _ => ∃ (p ng nw : Addr) (gs : List Gt) (ws : List Wr) (b : Int), vs = [.ref p, .int b] ∧ NetAt K C H p ng nw gs ws ∧ NetOk gs ws ∧ 0 ≤ b ∧ FeasE gs ws b ∧
  ∀ (t ll lp : Addr) (m : Int) (L : Nat → Int) (ev : List V) (es : List Ent) (H' : Hp), Same H H' → H' t = some (.tup [.int m, .ref ll, .ref lp]) → H ll = none → H' ll = some (.lst ((lagsL gs L).map V.int)) → H lp = none → H' lp = some (.lst ev) → All2 (EntV K H') ev es → (∀ e ∈ es, EntOk gs ws e) → es.length ≤ 11000 → Bal gs ws es →
    Feas gs ws b L → m = cntsum ws L → m = regsum ws - psum (roomF gs ws b) es → (∀ R : Int, 1 ≤ R → ((gs.length : Int) + 1) * R ≤ 500 → (∀ s e c, s < gs.length → best gs ws s e = some c → c.1 ≤ R) → ∀ g, g < gs.length → -500 ≤ L g ∧ L g ≤ 500) → Q (.ref t) H'
section
variable {P : Program} {w : World} {K : PySem.W.Frag} {mg : Str → Option Value} {base : Heap}
abbrev nRegisters : List Str := ["net", "start", "end", "held"]
theorem scRegisters : FnScope nRegisters ["net"] (defScope sRegisters) := ⟨rfl, rfl, rfl, by decide +kernel, rfl, by decide +kernel, by decide +kernel⟩
abbrev DRegisters (P : Program) (w : World) (K : PySem.W.Frag) (mg : Str → Option Value) (base : Heap) (C : Addr) := Df P w K mg base 1 "registers" ["net"] (spRegisters K C)
theorem ok_registers {f C : Addr} {fd : FuncData} (F : Fun K "registers" "registers" sRegisters f fd) (hm : mg "registers" = some (.ref f)) (B : Bt mg) (T : NT K mg C) (ms : mg "sum" = none) : DRegisters P w K mg base C f fd := by
  refine ⟨?_, hm, F.kp, F.binds fun _ _ _ _ _ _ us hl => match us, hl with | [_], _ => rfl⟩
  refine F.ok scRegisters (fun vs H Q E h => ?_) (fun cdv A outer s H vs Q E hr h => ?_)
  · obtain ⟨p, ng, nw, gs, ws, rfl, _⟩ := h
    rfl
  · obtain ⟨p, ng, nw, gs, ws, rfl, NA, N, q⟩ := h
    have nd := scRegisters.nd
    refine ⟨_, pss_one (ps_ret (pe_callB (cr_sum rfl) (by rfl) ms (by decide +kernel) (pa_cons (pe_lc (own := [("start", 1), ("end", 2), ("held", 3)]) (g := (gTup K 3 (gCons (gName 1) (gCons (gName 2) (gCons (gName 3) gNil))))) (tt := tYes) (te := (tCB (Evl.rLenS K) (tCons (tVar 3) tNil))) rfl nd (pi_list (pe_fld (pv 0) rfl)) (blkOk_by (N := nRegisters) (sc := defScope sRegisters) (own := [("start", 1), ("end", 2), ("held", 3)]) (by decide +kernel)) (fun _ _ _ _ _ => (pg_tup rfl (pgs_cons (pg_name (i := 1) nd rfl (.inl rfl)) (pgs_cons (pg_name (i := 2) nd rfl (.inl rfl)) (pgs_cons (pg_name (i := 3) nd rfl (.inl rfl)) pgs_nil))))) (fun _ _ _ _ _ => pts_nil) (fun _ _ _ _ _ => (pe_callB call_len_seq (by rfl) B.len PySem.boot_len (pa_cons (pv 3) pa_nil)))) pa_nil))), ?_⟩
    obtain ⟨dx, ob⟩ := id NA.ob
    obtain ⟨gv, hgv, ga⟩ := id NA.g
    obtain ⟨wv, hwv, wa⟩ := id NA.w
    have hlg : gv.length = gs.length := ga.1
    have hlw : wv.length = ws.length := wa.1
    have hgl := N.gl
    have hwl := N.wl
    refine ⟨_, rfl, p, C, dx, _, _, rfl, ob, T.cl, T.nW, nf_wires _ _, nw, rfl, ⟨_, SqL.of hwv⟩, fun D hD => ?_⟩
    refine lc_list (K := K) (a := nw) (xs := wv) (fun i Hc => Hc D = some (.lst (((ws.take i).map fun x => ((x.2.2.length : Nat) : Int)).map V.int)) ∧ Same H Hc) ⟨upd_same, same_new hD⟩ (fun i Hc _ ⟨_, sm⟩ => SqL.of (sm _ _ hwv)) ?_ ?_
    · rintro i v Hc hv ⟨hc, sm⟩
      obtain ⟨x, hx, a, b, rfl, sq1, sq2⟩ := wa.get hv
      have hi : i < ws.length := (List.getElem?_eq_some_iff.mp hx).1
      have tk := TK.same sm
      refine ⟨a, _, rfl, tk.seq sq1, rfl, _, _, rfl, _, _, rfl, _, _, rfl, rfl, rfl, tyes ?_⟩
      refine ⟨_, rfl, b, _, rfl, .inr (tk.seq sq2), _, hc, ?_, ?_, same_mut sm hD⟩
      · rw [List.length_map, List.length_map, List.length_take]
        exact small1000 (by omega)
      · rw [upd_same, List.take_add_one, hx, List.map_append, List.map_append, List.length_map]
        rfl
    rintro H1 ⟨h1, s1⟩
    rw [hlw, List.take_length] at h1
    exact ⟨D, _, rfl, SqL.of h1, q H1 s1⟩
abbrev nPlainFlow : List Str := ["net", "bounds", "places", "start", "end", "room", "piece", "ends", "told", "place"]
theorem scPlainFlow : FnScope nPlainFlow ["net", "bounds", "places"] (defScope sPlainFlow) := ⟨rfl, rfl, rfl, by decide +kernel, rfl, by decide +kernel, by decide +kernel⟩
abbrev DPlainFlow (P : Program) (w : World) (K : PySem.W.Frag) (mg : Str → Option Value) (base : Heap) (C : Addr) := Df P w K mg base 3 "plain_flow" ["net", "bounds", "places"] (spPlainFlow K C)
theorem ok_plainFlow {f fE C : Addr} {fd fdE : FuncData} (F : Fun K "plain_flow" "plain_flow" sPlainFlow f fd) (hm : mg "plain_flow" = some (.ref f)) (B : Bt mg) (T : NT K mg C) (DEs : DEndsOf P w K mg base C fE fdE) : DPlainFlow P w K mg base C f fd := by
  refine ⟨?_, hm, F.kp, F.binds fun _ _ _ _ _ _ us hl => match us, hl with | [_, _, _], _ => rfl⟩
  refine F.ok scPlainFlow (fun vs H Q E h => ?_) (fun cdv A outer s H vs Q E hr h => ?_)
  · obtain ⟨p, ng, nw, lb, lq, gs, ws, b, bv, bps, rfl, _⟩ := h
    rfl
  · obtain ⟨p, ng, nw, lb, lq, gs, ws, b, bv, bps, rfl, NA, N, hlb, al, bok, hbl, hpce, hlq, q⟩ := h
    have nd := scPlainFlow.nd
    refine ⟨_, pss_cons (ps_setLc (i := 7) (own := [("start", 3), ("end", 4), ("room", 5), ("piece", 6)]) (g := (gTup K 4 (gCons (gName 3) (gCons (gName 4) (gCons (gName 5) (gCons (gName 6) gNil)))))) (tt := tYes) (te := (tCall (spEndsOf K C) [] E0 (tCons (tVar 0) (tCons (tVar 6) tNil)))) rfl nd rfl rfl (sw_true rfl rfl rfl (by decide +kernel)) (pi_list (pv 1)) (blkOk_by (N := nPlainFlow) (sc := defScope sPlainFlow) (own := [("start", 3), ("end", 4), ("room", 5), ("piece", 6)]) (by decide +kernel)) (fun _ _ _ _ _ => (pg_tup rfl (pgs_cons (pg_name (i := 3) nd rfl (.inl rfl)) (pgs_cons (pg_name (i := 4) nd rfl (.inl rfl)) (pgs_cons (pg_name (i := 5) nd rfl (.inl rfl)) (pgs_cons (pg_name (i := 6) nd rfl (.inl rfl)) pgs_nil)))))) (fun _ _ _ _ _ => pts_nil) (fun _ _ _ _ _ => (pe_call DEs.ok (hr.mono (by decide)) (by rfl) DEs.mg DEs.kp DEs.bd .nil pass0 (pa_cons (pv 0) (pa_cons (pv 6) pa_nil))))) <|
        pss_cons (ps_set (i := 8) nd rfl (.inl rfl) (pe_op op_rep (pe_lst (pa_cons pe_int pa_nil)) (pe_callB call_len_seq (by rfl) B.len PySem.boot_len (pa_cons (pv 1) pa_nil)))) <|
        pss_cons (ps_for PassesOwn.never rfl (pi_list (pv 2)) (pg_name (i := 9) nd rfl (.inl rfl)) (pss_one (ps_augS (pv 8) (pe_bm PySem.F.plainAttrs_list PySem.F.slot_list_index PySem.F.type_list_index (mt_indexD (hu65_of hr)) (pv 7) (pa_cons (pe_tup (pa_cons (pe_ix ix_tup (pe_ix ix_list (pe_fld (pv 0) rfl) (pv 9) (fun _ _ => rfl)) pe_int (fun _ _ => rfl)) (pa_cons (pe_ix ix_tup (pe_ix ix_list (pe_fld (pv 0) rfl) (pv 9) (fun _ _ => rfl)) pe_int (fun _ _ => rfl)) pa_nil))) pa_nil)) get_list pe_int ip_add set_list))) <|
        pss_one (ps_ret (pv 8)), ?_⟩
    obtain ⟨dx, ob⟩ := id NA.ob
    obtain ⟨gv, hgv, ga⟩ := id NA.g
    obtain ⟨wv, hwv, wa⟩ := id NA.w
    have hlg : gv.length = gs.length := ga.1
    have hlw : wv.length = ws.length := wa.1
    have hgl := N.gl
    have hwl := N.wl
    have hbv : bv.length = bps.length := al.1
    refine ⟨_, rfl, lb, rfl, ⟨_, SqL.of hlb⟩, fun le hle => ?_⟩
    refine lc_list (K := K) (a := lb) (xs := bv) (fun i Hc => ∃ ev : List V, Hc le = some (.lst ev) ∧ All2 (NatsV K Hc) ev ((bps.take i).map fun bp => endsF ws bp.2) ∧ Same H Hc) ⟨[], upd_same, .nil, same_new hle⟩ (fun i Hc _ ⟨_, _, _, sm⟩ => SqL.of (sm _ _ hlb)) ?_ ?_
    · rintro i v Hc hv ⟨ev, hc, ea, sm⟩
      obtain ⟨bp, hbp, bpv⟩ := al.get hv
      obtain ⟨a, pa, rfl, sq, pcv⟩ := bpv.pce
      have hi : i < bps.length := (List.getElem?_eq_some_iff.mp hbp).1
      have hel := ea.1
      rw [List.length_map, List.length_take] at hel
      refine ⟨a, _, rfl, (TK.same sm).seq sq, rfl, _, _, rfl, _, _, rfl, _, _, rfl, _, _, rfl, rfl, rfl, tyes ?_⟩
      refine ⟨_, rfl, _, rfl, p, ng, nw, gs, ws, _, bp.2, rfl, NA.same sm, N, pcv.same sm, (hpce bp (List.mem_of_getElem? hbp)).1, fun t H2 s2 ht et => ?_⟩
      refine ⟨ev, s2 _ _ hc, small11k (by omega), ev ++ [.ref t], upd_same, ?_, same_mut (sm.trans s2) hle⟩
      rw [List.take_add_one, hbp, List.map_append]
      have tk2 : TK H2 (upd H2 le (.lst (ev ++ [.ref t]))) := TK.lst (s2 _ _ hc)
      exact All2.snoc (ea.imp fun _ _ r => (NatsV.tk (TK.same s2) r).tk tk2) ((show NatsV K H2 (.ref t) (endsF ws bp.2) from ⟨t, rfl, .inl (.inl et)⟩).tk tk2)
    rintro H1 ⟨ev, h1, ea, s1⟩
    rw [hbv, List.take_length] at ea
    refine gn_norm (σ' := [some (.ref p), some (.ref lb), some (.ref lq), none, none, none, none, some (.ref le), none, none]) rfl ?_
    refine ⟨(by show 1 ≤ sizeLine; decide), fun l0 hl0 => ?_⟩
    have s2 : Same H1 (upd H1 l0 (.lst [.int 0])) := same_new hl0
    have e2 : (upd H1 l0 (.lst [.int 0])) l0 = some (.lst [.int 0]) := upd_same
    obtain ⟨H2, hH2⟩ : ∃ H2, H2 = upd H1 l0 (.lst [.int 0]) := ⟨_, rfl⟩
    rw [← hH2] at s2 e2
    rw [← hH2]
    refine ⟨_, rfl, lb, bv, rfl, .inl (SqL.of ((s1.trans s2) _ _ hlb)), l0, _, [.int 0], rfl, rfl, e2, by omega, by omega, ?_, fun lf hlf => ?_⟩
    · have : 1 * ((bv.length : Nat) : Int).toNat ≤ sizeLine := Nat.le_of_lt (small11k (by omega))
      exact this
    rw [Int.toNat_natCast, hbv, rep0]
    have s3 : Same H2 (upd H2 lf (.lst ((List.replicate bps.length (0 : Int)).map V.int))) := same_new hlf
    have e3 : (upd H2 lf (.lst ((List.replicate bps.length (0 : Int)).map V.int))) lf = some (.lst ((List.replicate bps.length (0 : Int)).map V.int)) := upd_same
    obtain ⟨H3, hH3⟩ : ∃ H3, H3 = upd H2 lf (.lst ((List.replicate bps.length (0 : Int)).map V.int)) := ⟨_, rfl⟩
    rw [← hH3] at s3 e3
    refine gn_normH (σ' := [some (.ref p), some (.ref lb), some (.ref lq), none, none, none, none, some (.ref le), some (.ref lf), none]) (H' := H3) rfl hH3.symm ?_
    have s13 := s2.trans s3
    have s03 := s1.trans s13
    have hlf0 : H lf = none := (s1.trans s2).free hlf
    have h13 := s13 _ _ h1
    have ea3 := ea.imp fun _ _ r => NatsV.tk (TK.same s13) r
    refine ⟨_, rfl, lq, rfl, ⟨_, s03.seq hlq⟩, for_list (K := K) (a := lq) (xs := nvs (List.range ws.length)) (fun i σ H' => ∃ (u9 : Option V) (f : List Int), σ = [some (.ref p), some (.ref lb), some (.ref lq), none, none, none, none, some (.ref le), some (.ref lf), u9] ∧ H' lf = some (.lst (f.map V.int)) ∧ f.length = bps.length ∧ (∀ x ∈ f, 0 ≤ x) ∧ (∀ F, wsum (dF F) (bps.map fun bp => bp.1) f = wdl (fun x => F (spotF gs x)) (ws.take i)) ∧ Same H H' ∧ (∀ a o, a ≠ lf → H3 a = some o → H' a = some o))
      ⟨_, _, rfl, e3, List.length_replicate, (fun x hx => by rw [List.eq_of_mem_replicate hx]; decide), (fun F => by rw [wsum_zero]; rfl), s03, fun a o _ h => h⟩ (fun i σ H' _ ⟨_, _, _, _, _, _, _, sm, _⟩ => sm.seq hlq) ?_ ?_⟩
    · rintro i v σ H4 hv ⟨u9, f, rfl, hf, hfl, hf0, hft, sm, bt⟩
      obtain ⟨k, hk, rfl⟩ := nvs_of hv
      have hik : i < ws.length := by have := (List.getElem?_eq_some_iff.mp hk).1; rw [List.length_range] at this; exact this
      rw [List.getElem?_range hik] at hk
      cases hk
      have hx := List.getElem?_eq_getElem hik
      generalize ws[i] = x at hx
      have WX := N.wok x (List.mem_of_getElem? hx)
      obtain ⟨_, hwvi, a, b2, rfl, sq1, sq2⟩ := wa.getR hx
      have tk := TK.same sm
      -- its bound
      obtain ⟨c, hc, _⟩ := best_le N WX.s (show Pw ws x.1 [i] x.2.1 from ⟨x, hx, rfl, rfl⟩)
      obtain ⟨pc, hpc, h1c, h2c, _⟩ := bok.full x.1 WX.s x.2.1 c hc
      obtain ⟨bp0, hbp0, rfl⟩ := List.mem_map.mp hpc
      have hmem : (x.1, x.2.1) ∈ bps.map fun bp => endsF ws bp.2 := List.mem_map.mpr ⟨bp0, hbp0, by show (bp0.2.1, endW ws bp0.2.1 bp0.2.2) = _; rw [h1c, endW_of h2c]⟩
      obtain ⟨j, hj1, hj2⟩ := first_ix hmem
      rw [List.getElem?_map] at hj1
      cases hbj : bps[j]? with
      | none => rw [hbj] at hj1; cases hj1
      | some bp =>
      rw [hbj] at hj1
      have hje : endsF ws bp.2 = (x.1, x.2.1) := Option.some.inj hj1
      have hjl : j < f.length := by rw [hfl]; exact (List.getElem?_eq_some_iff.mp hbj).1
      have nle : le ≠ lf := ne_of_none (s2 _ _ h1) hlf
      have hle4 := bt _ _ nle h13
      have tk4 : TK H3 H4 := fun a o ho h => bt a o (fun e => by
        rw [e, e3] at h
        cases h
        exact ho) h
      have ea4 := ea3.imp fun _ _ r => NatsV.tk tk4 r
      have ob4 := sm _ _ ob
      refine gn_norm (σ' := [some (.ref p), some (.ref lb), some (.ref lq), none, none, none, none, some (.ref le), some (.ref lf), some (.int ((i : Nat) : Int))]) rfl ?_
      refine ⟨_, rfl, _, rfl, .inl ⟨rfl, _, SqL.of hle4⟩, _, rfl, p, C, dx, _, _, rfl, ob4, T.cl, T.nW, nf_wires _ _, _, rfl, nw, wv, i, _, rfl, rfl, SqL.of (sm _ _ hwv), atI_nat hwvi, a, _, 0, _, rfl, rfl, tk.seq sq1, atI_nat (j := 0) rfl, ?_⟩
      refine ⟨_, rfl, p, C, dx, _, _, rfl, ob4, T.cl, T.nW, nf_wires _ _, _, rfl, nw, wv, i, _, rfl, rfl, SqL.of (sm _ _ hwv), atI_nat hwvi, a, _, 1, _, rfl, rfl, tk.seq sq1, atI_nat (j := 1) rfl, (by show 2 ≤ sizeLine; decide), fun tt htt => ?_⟩
      have s5 := same_new (o := .tup [.int ((x.1 : Nat) : Int), .int ((x.2.1 : Nat) : Int)]) htt
      have e5 : (upd H4 tt (.tup [.int ((x.1 : Nat) : Int), .int ((x.2.1 : Nat) : Int)])) tt = some (.tup [.int ((x.1 : Nat) : Int), .int ((x.2.1 : Nat) : Int)]) := upd_same
      generalize upd H4 tt (.tup [.int ((x.1 : Nat) : Int), .int ((x.2.1 : Nat) : Int)]) = H5 at s5 e5
      have dpt : Dp K H5 (.ref tt) (natsD (x.1, x.2.1)) := dp_natsV ⟨tt, rfl, .inl (.inl e5)⟩
      have dpl : Dp K H5 (.ref le) (.list ((bps.map fun bp => endsF ws bp.2).map natsD)) := .lst (SqL.of (s5 _ _ hle4)) (dpall_nats (ea4.imp fun _ _ r => NatsV.tk (TK.same s5) r))
      have hf5 := s5 _ _ hf
      refine ⟨le, _, _, _, j, natsD (x.1, x.2.1), rfl, rfl, dpl, dpt, Sh.ok (k := 2) (sh_list fun d hd => ?_) (by decide), Sh.ok (k := 1) (sh_nats _) (by decide), ?_, by rw [natsD_eq, decide_eq_true rfl], fun m z' hm hz' => ?_, ?_⟩
      · obtain ⟨e, _, rfl⟩ := List.mem_map.mp hd
        exact sh_nats _
      · rw [List.getElem?_map, List.getElem?_map, hbj]
        show some (natsD (endsF ws bp.2)) = _
        rw [hje]
      · rw [List.getElem?_map] at hz'
        cases hm' : (bps.map fun bp => endsF ws bp.2)[m]? with
        | none => rw [hm'] at hz'; cases hz'
        | some z =>
          rw [hm'] at hz'
          cases hz'
          rw [natsD_eq, decide_eq_false (hj2 m z hm hm')]
      refine ⟨lf, _, j, _, rfl, rfl, SqL.of hf5, sgetD_at hjl, _, _, rfl, rfl, lf, _, _, j, rfl, rfl, hf5, Evl.ixN_nat (by rw [List.length_map]; exact hjl), ?_⟩
      refine ⟨_, f.set j (f.getD j 0 + 1), rfl, by rw [upd_same, List.map_set], by rw [List.length_set]; exact hfl, fun y hy => ?_, plain_step hx hbj (bok.bp bp (List.mem_of_getElem? hbj)) hje hfl hft, same_mut (sm.trans s5) hlf0, fun a o n h => (upd_ne n).trans (s5 _ _ (bt a o n h))⟩
      rcases List.mem_or_eq_of_mem_set hy with h | h
      · exact hf0 y h
      · have := hf0 (f.getD j 0) (by rw [List.getD_eq_getElem?_getD, List.getElem?_eq_getElem hjl]; exact List.getElem_mem _)
        omega
    · rintro σ H4 ⟨u9, f, rfl, hf, hfl, hf0, hft, sm, bt⟩
      rw [nvs_len, List.length_range, List.take_length] at hft
      exact ⟨_, rfl, q lf f H4 sm hlf0 hf hfl hf0 hft⟩
end
end Lag

set_option maxRecDepth 100000
set_option maxHeartbeats 8000000
namespace Lag
open PySem PySem.Spec PyProof.Rows L2
theorem ent_len {K : PySem.W.Frag} {H : Hp} {ev : List V} {es : List Ent} (h : All2 (EntV K H) ev es) : ev.length = es.length := h.1
theorem dlP_eq {gs : List Gt} {ws : List Wr} {pc : Pce} {e : Nat} (g : Nat) (h : Pw ws pc.1 pc.2 e) : dlP ws g pc = dl g pc.1 - dl g e := by
  unfold dlP
  rw [endW_of h]
/-- an entry whose piece's list is not D -/
def EntD (K : PySem.W.Frag) (D : Addr) (H : Hp) (v : V) (e : Ent) : Prop := ∃ a b l, v = .ref a ∧ SqT K H a [.ref b, .int e.2] ∧ SqT K H b [.int ((e.1.1 : Nat) : Int), .ref l] ∧ H l = some (.lst (nvs e.1.2)) ∧ l ≠ D
theorem EntD.same {K : PySem.W.Frag} {D : Addr} {H H' : Hp} {v : V} {e : Ent} (s : Same H H') (h : EntD K D H v e) : EntD K D H' v e := by
  obtain ⟨a, b, l, e', h1, h2, h3, h4⟩ := h
  exact ⟨a, b, l, e', (TK.same s).seq h1, (TK.same s).seq h2, s _ _ h3, h4⟩
theorem EntD.mut {K : PySem.W.Frag} {D : Addr} {H : Hp} {xs : List V} {o : HO} {v : V} {e : Ent} (hD : H D = some (.lst xs)) (h : EntD K D H v e) : EntD K D (upd H D o) v e := by
  obtain ⟨a, b, l, e', h1, h2, h3, h4⟩ := h
  exact ⟨a, b, l, e', (TK.lst hD).seq h1, (TK.lst hD).seq h2, (upd_ne h4).trans h3, h4⟩
theorem EntD.ent {K : PySem.W.Frag} {D : Addr} {H : Hp} {v : V} {e : Ent} (h : EntD K D H v e) : EntV K H v e := by
  obtain ⟨a, b, l, e', h1, h2, h3, _⟩ := h
  exact ⟨a, .ref b, e', h1, b, l, rfl, h2, SqL.of h3⟩
theorem int_atF {l : List Int} {i : Nat} {x : V} (h : (l.map V.int)[i]? = some x) : ∃ z, l[i]? = some z ∧ x = V.int z := by
  rw [List.getElem?_map] at h
  cases e : l[i]? with
  | none =>
    rw [e] at h
    cases h
  | some z =>
    rw [e] at h
    cases h
    exact ⟨z, rfl, rfl⟩
section
variable {P : Program} {w : World} {K : PySem.W.Frag} {mg : Str → Option Value} {base : Heap}
abbrev nPaperOf : List Str := ["bounds", "flow", "start", "end", "room", "piece", "many"]
theorem scPaperOf : FnScope nPaperOf ["bounds", "flow"] (defScope sPaperOf) := ⟨rfl, rfl, rfl, by decide +kernel, rfl, by decide +kernel, by decide +kernel⟩
abbrev DPaperOf (P : Program) (w : World) (K : PySem.W.Frag) (mg : Str → Option Value) (base : Heap) := Df P w K mg base 1 "paper_of" ["bounds", "flow"] (spPaperOf K)
theorem ok_paperOf {f : Addr} {fd : FuncData} (F : Fun K "paper_of" "paper_of" sPaperOf f fd) (hm : mg "paper_of" = some (.ref f)) (B : Bt mg) : DPaperOf P w K mg base f fd := by
  refine ⟨?_, hm, F.kp, F.binds fun _ _ _ _ _ _ us hl => match us, hl with | [_, _], _ => rfl⟩
  refine F.ok scPaperOf (fun vs H Q E h => ?_) (fun cdv A outer s H vs Q E hr h => ?_)
  · obtain ⟨lb, lf, lt, bv, bps, f, rfl, _⟩ := h
    rfl
  · obtain ⟨lb, lf, lt, bv, bps, f, rfl, hlb, al, hlf, hfl, hbl, q⟩ := h
    have nd := scPaperOf.nd
    refine ⟨_, pss_one (ps_ret (pe_lc (own := [("many", 6), ("start", 2), ("end", 3), ("room", 4), ("piece", 5)]) (g := (gTup K 2 (gCons (gTup K 4 (gCons (gName 2) (gCons (gName 3) (gCons (gName 4) (gCons (gName 5) gNil))))) (gCons (gName 6) gNil)))) (tt := (tTest (tOp (rI0 fun i j => .bl (decide (j < i))) (tVar 6) (tC (.int 0))))) (te := (tTup (tCons (tVar 5) (tCons (tVar 6) tNil)))) rfl nd (pi_zip (by rfl) B.zip (pa_cons (pv 0) (pa_cons (pv 1) pa_nil))) (blkOk_by (N := nPaperOf) (sc := defScope sPaperOf) (own := [("many", 6), ("start", 2), ("end", 3), ("room", 4), ("piece", 5)]) (by decide +kernel)) (fun _ _ _ _ _ => (pg_tup rfl (pgs_cons (pg_tup rfl (pgs_cons (pg_name (i := 2) nd rfl (.inl rfl)) (pgs_cons (pg_name (i := 3) nd rfl (.inl rfl)) (pgs_cons (pg_name (i := 4) nd rfl (.inl rfl)) (pgs_cons (pg_name (i := 5) nd rfl (.inl rfl)) pgs_nil))))) (pgs_cons (pg_name (i := 6) nd rfl (.inl rfl)) pgs_nil)))) (fun _ _ _ _ _ => pts_one (pt_cmpR op_gt (pv 6) pe_int (nomark _))) (fun _ _ _ _ _ => (pe_tup (pa_cons (pv 5) (pa_cons (pv 6) pa_nil)))))), ?_⟩
    have hbv : bv.length = bps.length := al.1
    refine ⟨_, rfl, _, rfl, lb, lf, bv, _, rfl, SqL.of hlb, hlf, fun D hD => ?_⟩
    refine lc_it (walk_zip (K := K) (a := lb) (b := lf) (xs := bv) (ys := f.map V.int) (n := bps.length) (by rw [List.length_map]; omega)) (fun i Hc => ∃ ev : List V, Hc D = some (.lst ev) ∧ All2 (EntD K D Hc) ev (papF (bps.take i) (f.take i)) ∧ ev.length ≤ i ∧ Same H Hc) ⟨[], upd_same, .nil, Nat.le_refl _, same_new hD⟩ (fun i Hc _ ⟨_, _, _, _, sm⟩ => ⟨SqL.of (sm _ _ hlb), sm.seq hlf⟩) ?_ ?_
    · rintro i v Hc Hc' hi ⟨ev, hc, ea, hel, sm⟩ ⟨T', x1, y, rfl, hT, rfl, ex, ey⟩
      obtain ⟨bp, hbp, bpv⟩ := al.get ex
      obtain ⟨a, b', l', rfl, sq, sp, sl, _⟩ := bpv
      obtain ⟨z, hz, rfl⟩ := int_atF ey
      have sT := same_new (o := .tup [.ref a, .int z]) hT
      have eT : (upd Hc T' (.tup [.ref a, .int z])) T' = some (.tup [.ref a, .int z]) := upd_same
      have hcT := sT _ _ hc
      have smT := sm.trans sT
      have eaT := ea.imp fun _ _ r => EntD.same sT r
      generalize upd Hc T' (.tup [.ref a, .int z]) = Hd at sT eT hcT smT eaT
      refine ⟨T', _, rfl, .inl (.inl eT), rfl, _, _, rfl, a, _, rfl, (TK.same smT).seq sq, rfl, _, _, rfl, _, _, rfl, _, _, rfl, _, _, rfl, rfl, _, _, rfl, rfl, ?_⟩
      refine ⟨by
        show wipe ([some (V.ref lb), some (V.ref lf), some _, some _, some _, some _, some _] : L2.St) [6, 2, 3, 4, 5] = _
        rfl, ?_⟩
      have e1 : bps.take (i + 1) = bps.take i ++ [bp] := by rw [List.take_add_one, hbp]; rfl
      have e2 : f.take (i + 1) = f.take i ++ [z] := by rw [List.take_add_one, hz]; rfl
      have e3 : (bps.take i).length = (f.take i).length := by rw [List.length_take, List.length_take, hfl]
      rw [e1, e2, papF_snoc e3]
      refine ⟨_, rfl, _, _, rfl, rfl, _, rfl, ?_⟩
      by_cases h0 : 0 < z
      · rw [decide_eq_true h0, if_pos h0]
        refine iteT ⟨_, rfl, _, rfl, (by show 2 ≤ sizeLine; decide), fun tt htt => ?_⟩
        have s5 := same_new (o := .tup [.ref b', .int z]) htt
        have e5 : (upd Hd tt (.tup [.ref b', .int z])) tt = some (.tup [.ref b', .int z]) := upd_same
        generalize upd Hd tt (.tup [.ref b', .int z]) = He at s5 e5
        have nl : l' ≠ D := ne_of_none sl hD
        have s05 := smT.trans s5
        refine ⟨ev, s5 _ _ hcT, small11k (by omega), ev ++ [.ref tt], upd_same, ?_, by rw [List.length_append]; show _ + 1 ≤ _; omega, same_mut s05 hD⟩
        exact All2.snoc (eaT.imp fun _ _ r => EntD.mut (s5 _ _ hcT) (EntD.same s5 r)) (EntD.mut (s5 _ _ hcT) ⟨tt, b', l', rfl, .inl (.inl e5), (TK.same s05).seq sp, s05 _ _ sl, nl⟩)
      · rw [decide_eq_false h0, if_neg h0, List.append_nil]
        exact iteF ⟨ev, hcT, eaT, by omega, smT⟩
    · rintro H1 ⟨ev, h1, ea, _, s1⟩
      rw [List.take_length, ← hfl, List.take_length] at ea
      exact q D ev H1 s1 hD h1 (ea.imp fun _ _ r => r.ent)
abbrev nRoomIn : List Str := ["net", "beat", "paper", "piece", "many"]
theorem scRoomIn : FnScope nRoomIn ["net", "beat", "paper"] (defScope sRoomIn) := ⟨rfl, rfl, rfl, by decide +kernel, rfl, by decide +kernel, by decide +kernel⟩
abbrev DRoomIn (P : Program) (w : World) (K : PySem.W.Frag) (mg : Str → Option Value) (base : Heap) (C : Addr) := Df P w K mg base 4 "room_in" ["net", "beat", "paper"] (spRoomIn K C)
theorem ok_roomIn {f fR C : Addr} {fd fdR : FuncData} (F : Fun K "room_in" "room_in" sRoomIn f fd) (hm : mg "room_in" = some (.ref f)) (B : Bt mg) (ms : mg "sum" = none) (DRm : DRoomOf P w K mg base C fR fdR) : DRoomIn P w K mg base C f fd := by
  refine ⟨?_, hm, F.kp, F.binds fun _ _ _ _ _ _ us hl => match us, hl with | [_, _, _], _ => rfl⟩
  refine F.ok scRoomIn (fun vs H Q E h => ?_) (fun cdv A outer s H vs Q E hr h => ?_)
  · obtain ⟨p, ng, nw, lp, gs, ws, b, ev, es, rfl, _⟩ := h
    rfl
  · obtain ⟨p, ng, nw, lp, gs, ws, b, ev, es, rfl, NA, N, hlp, al, eok, hel, q⟩ := h
    have nd := scRoomIn.nd
    refine ⟨_, pss_one (ps_ret (pe_callB (cr_sum rfl) (by rfl) ms (by decide +kernel) (pa_cons (pe_lc (own := [("piece", 3), ("many", 4)]) (g := (gTup K 2 (gCons (gName 3) (gCons (gName 4) gNil)))) (tt := tYes) (te := (tOp (rI CMul fun i j => .int (i * j)) (tCall (spRoomOf K C) [] E0 (tCons (tVar 0) (tCons (tVar 1) (tCons (tVar 3) tNil)))) (tVar 4))) rfl nd (pi_list (pv 2)) (blkOk_by (N := nRoomIn) (sc := defScope sRoomIn) (own := [("piece", 3), ("many", 4)]) (by decide +kernel)) (fun _ _ _ _ _ => (pg_tup rfl (pgs_cons (pg_name (i := 3) nd rfl (.inl rfl)) (pgs_cons (pg_name (i := 4) nd rfl (.inl rfl)) pgs_nil)))) (fun _ _ _ _ _ => pts_nil) (fun _ _ _ _ _ => (pe_op op_mul (pe_call DRm.ok (hr.mono (by decide)) (by rfl) DRm.mg DRm.kp DRm.bd .nil pass0 (pa_cons (pv 0) (pa_cons (pv 1) (pa_cons (pv 3) pa_nil)))) (pv 4)))) pa_nil))), ?_⟩
    have hev : ev.length = es.length := al.1
    refine ⟨_, rfl, lp, rfl, ⟨_, hlp⟩, fun D hD => ?_⟩
    refine lc_list (K := K) (a := lp) (xs := ev) (fun i Hc => Hc D = some (.lst (((es.take i).map fun e => roomF gs ws b e.1 * e.2).map V.int)) ∧ Same H Hc) ⟨upd_same, same_new hD⟩ (fun i Hc _ ⟨_, sm⟩ => sm.seq hlp) ?_ ?_
    · rintro i v Hc hv ⟨hc, sm⟩
      obtain ⟨e, he, a, pv', rfl, sq, pcv⟩ := al.get hv
      have hi : i < es.length := (List.getElem?_eq_some_iff.mp he).1
      obtain ⟨k1, k2, k3⟩ := eok e (List.mem_of_getElem? he)
      refine ⟨a, _, rfl, (TK.same sm).seq sq, rfl, _, _, rfl, _, _, rfl, rfl, rfl, tyes ?_⟩
      refine ⟨_, rfl, _, rfl, _, rfl, p, ng, nw, gs, ws, b, _, e.1, rfl, NA.same sm, N, pcv.same sm, k1, k2, fun H2 s2 => ?_⟩
      have rb := room_bd (b := b) N k1 k2
      refine ⟨_, rfl, _, _, rfl, rfl, .inl ⟨by omega, by omega⟩, _, s2 _ _ hc, ?_, ?_, same_mut (sm.trans s2) hD⟩
      · rw [List.length_map, List.length_map, List.length_take]
        exact small11k (by omega)
      · rw [upd_same, List.take_add_one, he, List.map_append, List.map_append]
        rfl
    rintro H1 ⟨h1, s1⟩
    rw [hev, List.take_length] at h1
    exact ⟨D, _, rfl, SqL.of h1, q H1 s1⟩
abbrev nNumPiece : List Str := ["net", "thing", "piece", "many"]
theorem scNumPiece : FnScope nNumPiece ["net", "thing"] (defScope sNumPiece) := ⟨rfl, rfl, rfl, by decide +kernel, rfl, by decide +kernel, by decide +kernel⟩
abbrev DNumPiece (P : Program) (w : World) (K : PySem.W.Frag) (mg : Str → Option Value) (base : Heap) (C : Addr) := Df P w K mg base 4 "is_numbered_piece" ["net", "thing"] (spNumPiece K C)
theorem ok_numPiece {f fI fW C : Addr} {fd fdI fdW : FuncData} (F : Fun K "is_numbered_piece" "is_numbered_piece" sNumPiece f fd) (hm : mg "is_numbered_piece" = some (.ref f)) (B : Bt mg) (DIp : DIsPiece P w K mg base C fI fdI) (DW : DWhole P w K mg base fW fdW) : DNumPiece P w K mg base C f fd := by
  refine ⟨?_, hm, F.kp, F.binds fun _ _ _ _ _ _ us hl => match us, hl with | [_, _], _ => rfl⟩
  refine F.ok scNumPiece (fun vs H Q E h => ?_) (fun cdv A outer s H vs Q E hr h => ?_)
  · obtain ⟨p, ng, nw, gs, ws, v, e, rfl, _⟩ := h
    rfl
  · obtain ⟨p, ng, nw, gs, ws, v, e, rfl, NA, N, ev, eok, q⟩ := h
    have nd := scNumPiece.nd
    refine ⟨_, pss_cons (ps_if (PW.pt (pw_or (pt_not (pt_val (pe_callB call_isi (by rfl) B.isi (by decide +kernel) (pa_cons (pv 1) (pa_cons (pe_bltn (v := .ty "tuple") (by rfl) B.tuple (by decide +kernel) rfl) pa_nil))))) (pw_or1 (pt_cmpR op_ne (pe_callB call_len_seq (by rfl) B.len PySem.boot_len (pa_cons (pv 1) pa_nil)) pe_int (nomark _))))) (pss_one (ps_ret pe_bl)) pss_nil) <|
        pss_cons (ps_asg (pv 1) (pg_tup rfl (pgs_cons (pg_name (i := 2) nd rfl (.inl rfl)) (pgs_cons (pg_name (i := 3) nd rfl (.inl rfl)) pgs_nil)))) <|
        pss_one (ps_ret (pe_and (pe_call DIp.ok (hr.mono (by decide)) (by rfl) DIp.mg DIp.kp DIp.bd .nil pass0 (pa_cons (pv 0) (pa_cons (pv 2) pa_nil))) (pe_and (pe_call DW.ok (hr.mono (by decide)) (by rfl) DW.mg DW.kp DW.bd .nil pass0 (pa_cons (pv 3) pa_nil)) (pe_one (pe_cmpR op_ge (pv 3) pe_int (nomark _)))))), ?_⟩
    obtain ⟨a, pv', rfl, sq, pcv⟩ := ev
    obtain ⟨k1, k2, k3⟩ := eok
    refine ⟨_, rfl, _, _, _, _, true, rfl, .ty "tuple", ty_tup sq, kit_ty (by decide +kernel), true, rfl, iteF ?_⟩
    refine ⟨_, rfl, a, _, rfl, .inr sq, rfl, false, rfl, iteF ?_⟩
    refine ⟨_, rfl, a, _, rfl, sq, rfl, _, _, rfl, _, _, rfl, rfl, ?_⟩
    refine ⟨_, rfl, _, rfl, p, ng, nw, gs, ws, _, e.1, rfl, NA, N, pcv, k1, fun H1 s1 => ⟨true, rfl, iteT ?_⟩⟩
    refine ⟨_, rfl, e.2, rfl, true, rfl, iteT ⟨_, rfl, _, _, rfl, rfl, ?_⟩⟩
    show Q (V.bl (decide (1 ≤ e.2))) H1
    rw [decide_eq_true k3]
    exact q H1 s1
abbrev nIsPaper : List Str := ["net", "thing", "entry"]
theorem scIsPaper : FnScope nIsPaper ["net", "thing"] (defScope sIsPaper) := ⟨rfl, rfl, rfl, by decide +kernel, rfl, by decide +kernel, by decide +kernel⟩
abbrev DIsPaper (P : Program) (w : World) (K : PySem.W.Frag) (mg : Str → Option Value) (base : Heap) (C : Addr) := Df P w K mg base 5 "is_paper" ["net", "thing"] (spIsPaper K C)
theorem ok_isPaper {f fN C : Addr} {fd fdN : FuncData} (F : Fun K "is_paper" "is_paper" sIsPaper f fd) (hm : mg "is_paper" = some (.ref f)) (B : Bt mg) (DNp : DNumPiece P w K mg base C fN fdN) : DIsPaper P w K mg base C f fd := by
  refine ⟨?_, hm, F.kp, F.binds fun _ _ _ _ _ _ us hl => match us, hl with | [_, _], _ => rfl⟩
  refine F.ok scIsPaper (fun vs H Q E h => ?_) (fun cdv A outer s H vs Q E hr h => ?_)
  · obtain ⟨p, ng, nw, lp, gs, ws, ev, es, rfl, _⟩ := h
    rfl
  · obtain ⟨p, ng, nw, lp, gs, ws, ev, es, rfl, NA, N, hlp, al, eok, hel, q⟩ := h
    have nd := scIsPaper.nd
    refine ⟨_, pss_one (ps_ret (pe_and (pe_callB call_isi (by rfl) B.isi (by decide +kernel) (pa_cons (pv 1) (pa_cons (pe_bltn (v := .ty "list") (by rfl) B.list (by decide +kernel) rfl) pa_nil))) (pe_one (pe_callB (cr_all rfl) (by rfl) B.all (by decide +kernel) (pa_cons (pe_lc (own := [("entry", 2)]) (g := (gName 2)) (tt := tYes) (te := (tCall (spNumPiece K C) [] E0 (tCons (tVar 0) (tCons (tVar 2) tNil)))) rfl nd (pi_list (pv 1)) (blkOk_by (N := nIsPaper) (sc := defScope sIsPaper) (own := [("entry", 2)]) (by decide +kernel)) (fun _ _ _ _ _ => (pg_name (i := 2) nd rfl (.inl rfl))) (fun _ _ _ _ _ => pts_nil) (fun _ _ _ _ _ => (pe_call DNp.ok (hr.mono (by decide)) (by rfl) DNp.mg DNp.kp DNp.bd .nil pass0 (pa_cons (pv 0) (pa_cons (pv 2) pa_nil))))) pa_nil))))), ?_⟩
    have hev : ev.length = es.length := al.1
    refine ⟨_, rfl, _, _, _, _, true, rfl, .ty "list", ty_lst hlp, kit_ty (by decide +kernel), true, rfl, iteT ?_⟩
    refine ⟨_, rfl, lp, rfl, ⟨_, hlp⟩, fun D hD => ?_⟩
    refine lc_list (K := K) (a := lp) (xs := ev) (fun i Hc => Hc D = some (.lst ((List.replicate i true).map V.bl)) ∧ Same H Hc) ⟨upd_same, same_new hD⟩ (fun i Hc _ ⟨_, sm⟩ => sm.seq hlp) ?_ ?_
    · rintro i v Hc hv ⟨hc, sm⟩
      obtain ⟨e, he, pev⟩ := al.get hv
      have hi : i < es.length := (List.getElem?_eq_some_iff.mp he).1
      refine ⟨rfl, tyes ?_⟩
      refine ⟨_, rfl, _, rfl, p, ng, nw, gs, ws, _, e, rfl, NA.same sm, N, EntV.same sm pev, eok e (List.mem_of_getElem? he), fun H2 s2 => ?_⟩
      refine ⟨_, s2 _ _ hc, ?_, ?_, same_mut (sm.trans s2) hD⟩
      · rw [List.length_map, List.length_replicate]
        exact small11k (by omega)
      · rw [upd_same, List.replicate_succ', List.map_append]
        rfl
    rintro H1 ⟨h1, s1⟩
    refine ⟨D, List.replicate ev.length true, rfl, SqL.of h1, ?_⟩
    have : ∀ n : Nat, (List.replicate n true).all id = true := fun n => by
      rw [List.all_eq_true]
      intro x hx
      exact List.eq_of_mem_replicate hx
    rw [this]
    exact q H1 s1
abbrev nGateFault : List Str := ["net", "paper", "places", "more", "piece", "many", "place", "number", "gate"]
theorem scGateFault : FnScope nGateFault ["net", "paper", "places"] (defScope sGateFault) := ⟨rfl, rfl, rfl, by decide +kernel, rfl, by decide +kernel, by decide +kernel⟩
abbrev DGateFault (P : Program) (w : World) (K : PySem.W.Frag) (mg : Str → Option Value) (base : Heap) (C : Addr) := Df P w K mg base 2 "gate_fault" ["net", "paper", "places"] (spGateFault K C)
theorem ok_gateFault {f fE fO C : Addr} {fd fdE fdO : FuncData} (F : Fun K "gate_fault" "gate_fault" sGateFault f fd) (hm : mg "gate_fault" = some (.ref f)) (B : Bt mg) (T : NT K mg C) (DEo : DEndOf P w K mg base C fE fdE) (DO : DOuter P w K mg base fO fdO) : DGateFault P w K mg base C f fd := by
  refine ⟨?_, hm, F.kp, F.binds fun _ _ _ _ _ _ us hl => match us, hl with | [_, _, _], _ => rfl⟩
  refine F.ok scGateFault (fun vs H Q E h => ?_) (fun cdv A outer s H vs Q E hr h => ?_)
  · obtain ⟨p, ng, nw, lp, lq, gs, ws, ev, es, rfl, _⟩ := h
    rfl
  · obtain ⟨p, ng, nw, lp, lq, gs, ws, ev, es, rfl, NA, N, hlp, al, eok, bal, hlq, q⟩ := h
    have nd := scGateFault.nd
    refine ⟨_, pss_cons (ps_set (i := 3) nd rfl (.inl rfl) (pe_op op_rep (pe_lst (pa_cons pe_int pa_nil)) (pe_callB call_len_seq (by rfl) B.len PySem.boot_len (pa_cons (pe_fld (pv 0) rfl) pa_nil)))) <|
        pss_cons (ps_for PassesOwn.never rfl (pi_list (pv 1)) (pg_tup rfl (pgs_cons (pg_name (i := 4) nd rfl (.inl rfl)) (pgs_cons (pg_name (i := 5) nd rfl (.inl rfl)) pgs_nil))) (pss_cons (ps_augS (pv 3) (pe_ix ix_tup (pv 4) pe_int (fun _ _ => rfl)) get_list (pv 5) ip_add set_list) <|
        pss_one (ps_augS (pv 3) (pe_call DEo.ok (hr.mono (by decide)) (by rfl) DEo.mg DEo.kp DEo.bd .nil pass0 (pa_cons (pv 0) (pa_cons (pv 4) pa_nil))) get_list (pv 5) ip_sub set_list))) <|
        pss_cons (ps_for PassesOwn.never rfl (pi_list (pv 2)) (pg_name (i := 6) nd rfl (.inl rfl)) (pss_cons (ps_augS (pv 3) (pe_ix ix_tup (pe_ix ix_list (pe_fld (pv 0) rfl) (pv 6) (fun _ _ => rfl)) pe_int (fun _ _ => rfl)) get_list pe_int ip_sub set_list) <|
        pss_one (ps_augS (pv 3) (pe_ix ix_tup (pe_ix ix_list (pe_fld (pv 0) rfl) (pv 6) (fun _ _ => rfl)) pe_int (fun _ _ => rfl)) get_list pe_int ip_add set_list))) <|
        pss_cons (ps_for PassesOwn.never rfl (pi_enum (by rfl) B.enum (pa_cons (pe_fld (pv 0) rfl) pa_nil)) (pg_tup rfl (pgs_cons (pg_name (i := 7) nd rfl (.inl rfl)) (pgs_cons (pg_name (i := 8) nd rfl (.inl rfl)) pgs_nil))) (pss_one (ps_if (PW.pt (pw_and (pt_cmpR op_ne (pe_ix ix_list (pv 3) (pv 7) (fun _ _ => rfl)) pe_int (nomark _)) (pw_and1 (pt_not (pt_val (pe_call DO.ok (hr.mono (by decide)) (by rfl) DO.mg DO.kp DO.bd .nil pass0 (pa_cons (pv 8) pa_nil))))))) (pss_one (ps_ret (pe_tup (pa_cons pe_str (pa_cons (pv 7) pa_nil))))) pss_nil))) <|
        pss_one (ps_ret pe_non), ?_⟩
    obtain ⟨dx, ob⟩ := id NA.ob
    obtain ⟨gv, hgv, ga⟩ := id NA.g
    obtain ⟨wv, hwv, wa⟩ := id NA.w
    have hlg : gv.length = gs.length := ga.1
    have hlw : wv.length = ws.length := wa.1
    have hgl := N.gl
    have hwl := N.wl
    have hev : ev.length = es.length := al.1
    refine ⟨(by show 1 ≤ sizeLine; decide), fun l0 hl0 => ?_⟩
    have s2 : Same H (upd H l0 (.lst [.int 0])) := same_new hl0
    have e2 : (upd H l0 (.lst [.int 0])) l0 = some (.lst [.int 0]) := upd_same
    obtain ⟨H2, hH2⟩ : ∃ H2, H2 = upd H l0 (.lst [.int 0]) := ⟨_, rfl⟩
    rw [← hH2] at s2 e2
    rw [← hH2]
    refine ⟨_, rfl, p, C, dx, _, _, rfl, s2 _ _ ob, T.cl, T.nG, nf_gates _ _, ng, gv, rfl, .inl (SqL.of (s2 _ _ hgv)), l0, _, [.int 0], rfl, rfl, e2, by omega, by omega, ?_, fun lm hlm => ?_⟩
    · have : 1 * ((gv.length : Nat) : Int).toNat ≤ sizeLine := Nat.le_of_lt (small1000 (by omega))
      exact this
    rw [Int.toNat_natCast, hlg, rep0]
    have s3 : Same H2 (upd H2 lm (.lst ((List.replicate gs.length (0 : Int)).map V.int))) := same_new hlm
    have e3 : (upd H2 lm (.lst ((List.replicate gs.length (0 : Int)).map V.int))) lm = some (.lst ((List.replicate gs.length (0 : Int)).map V.int)) := upd_same
    obtain ⟨H3, hH3⟩ : ∃ H3, H3 = upd H2 lm (.lst ((List.replicate gs.length (0 : Int)).map V.int)) := ⟨_, rfl⟩
    rw [← hH3] at s3 e3
    refine gn_normH (σ' := [some (.ref p), some (.ref lp), some (.ref lq), some (.ref lm), none, none, none, none, none]) (H' := H3) rfl hH3.symm ?_
    have s03 := s2.trans s3
    have hlm0 : H lm = none := s2.free hlm
    -- the pieces
    refine ⟨_, rfl, lp, rfl, ⟨_, s03.seq hlp⟩, for_list (K := K) (a := lp) (xs := ev) (fun i σ H' => ∃ (u4 u5 : Option V) (ms : List Int), σ = [some (.ref p), some (.ref lp), some (.ref lq), some (.ref lm), u4, u5, none, none, none] ∧ H' lm = some (.lst (ms.map V.int)) ∧ ms.length = gs.length ∧ (∀ g, ms.getD g 0 = psum (dlP ws g) (es.take i)) ∧ Same H H')
      ⟨_, _, _, rfl, e3, List.length_replicate, (fun g => by
        rw [List.getD_eq_getElem?_getD, List.getElem?_replicate]
        split <;> rfl), s03⟩ (fun i σ H' _ ⟨_, _, _, _, _, _, _, sm⟩ => sm.seq hlp) ?_ ?_⟩
    · rintro i v σ H4 hv ⟨u4, u5, ms, rfl, hms, hml, hmg, sm⟩
      obtain ⟨e, he, a, pv', rfl, sq, b', l', rfl, sp, sl⟩ := al.get hv
      obtain ⟨⟨k1, m, k2⟩, k3, k4⟩ := eok e (List.mem_of_getElem? he)
      have hm := k2.lt N k1
      refine ⟨a, _, rfl, (TK.same sm).seq sq, rfl, _, _, rfl, _, _, rfl, rfl, ?_⟩
      refine ⟨_, rfl, _, rfl, b', _, 0, _, rfl, rfl, (TK.same sm).seq sp, atI_nat (j := 0) rfl, lm, _, e.1.1, _, rfl, rfl, SqL.of hms, sgetD_at (by omega), _, rfl, _, _, rfl, rfl, lm, _, _, e.1.1, rfl, rfl, hms, Evl.ixN_nat (by rw [List.length_map]; omega), ?_⟩
      have s5 : Same H (upd H4 lm (.lst ((ms.map V.int).set e.1.1 (.int (ms.getD e.1.1 0 + e.2))))) := same_mut sm hlm0
      have e5 : (upd H4 lm (.lst ((ms.map V.int).set e.1.1 (.int (ms.getD e.1.1 0 + e.2))))) lm = some (.lst ((ms.set e.1.1 (ms.getD e.1.1 0 + e.2)).map V.int)) := by rw [upd_same, List.map_set]
      have h5 := fun g => getD_add (ms := ms) (i := e.1.1) (g := g) (d := e.2) (by omega)
      have l5 : (ms.set e.1.1 (ms.getD e.1.1 0 + e.2)).length = gs.length := by rw [List.length_set]; exact hml
      generalize upd H4 lm (.lst ((ms.map V.int).set e.1.1 (.int (ms.getD e.1.1 0 + e.2)))) = H5 at s5 e5
      generalize ms.set e.1.1 (ms.getD e.1.1 0 + e.2) = ms1 at e5 h5 l5
      refine ⟨_, rfl, _, rfl, _, rfl, p, ng, nw, gs, ws, _, e.1, rfl, NA.same s5, N, ⟨b', l', rfl, (TK.same s5).seq sp, s5.seq sl⟩, ⟨k1, m, k2⟩, ?_⟩
      rw [endW_of k2]
      refine ⟨lm, _, m, _, rfl, rfl, SqL.of e5, sgetD_at (by omega), _, rfl, _, _, rfl, rfl, lm, _, _, m, rfl, rfl, e5, Evl.ixN_nat (by rw [List.length_map]; omega), ?_⟩
      refine ⟨_, _, ms1.set m (ms1.getD m 0 - e.2), rfl, by rw [upd_same, List.map_set], by rw [List.length_set]; exact l5, fun g => ?_, same_mut s5 hlm0⟩
      have h6 := getD_add (ms := ms1) (i := m) (g := g) (d := -e.2) (by omega)
      rw [show ms1.getD m 0 - e.2 = ms1.getD m 0 + -e.2 by omega, h6, h5 g, hmg g, List.take_add_one, he]
      show _ = psum (dlP ws g) (es.take i ++ [e])
      rw [psum_snoc, dlP_eq (gs := gs) g k2, Int.sub_mul]
      have : dl g m * -e.2 = -(dl g m * e.2) := Int.mul_neg _ _
      omega
    rintro σ H4 ⟨u4, u5, ms, rfl, hms, hml, hmg, sm⟩
    rw [hev, List.take_length] at hmg
    -- the wires
    refine ⟨_, rfl, lq, rfl, ⟨_, sm.seq hlq⟩, for_list (K := K) (a := lq) (xs := nvs (List.range ws.length)) (fun i σ H' => ∃ (u6 : Option V) (ms : List Int), σ = [some (.ref p), some (.ref lp), some (.ref lq), some (.ref lm), u4, u5, u6, none, none] ∧ H' lm = some (.lst (ms.map V.int)) ∧ ms.length = gs.length ∧ (∀ g, ms.getD g 0 = psum (dlP ws g) es - wdl (dl g) (ws.take i)) ∧ Same H H')
      ⟨_, ms, rfl, hms, hml, (fun g => by
        rw [hmg g]
        show _ = _ - (0 : Int)
        omega), sm⟩ (fun i σ H' _ ⟨_, _, _, _, _, _, sm⟩ => sm.seq hlq) ?_ ?_⟩
    · rintro i v σ H5 hv ⟨u6, ms, rfl, hms, hml, hmg, sm⟩
      obtain ⟨k, hk, rfl⟩ := nvs_of hv
      have hik : i < ws.length := by have := (List.getElem?_eq_some_iff.mp hk).1; rw [List.length_range] at this; exact this
      rw [List.getElem?_range hik] at hk
      cases hk
      have hx := List.getElem?_eq_getElem hik
      generalize ws[i] = x at hx
      have WX := N.wok x (List.mem_of_getElem? hx)
      obtain ⟨_, hwvi, a, b2, rfl, sq1, sq2⟩ := wa.getR hx
      have ob5 := sm _ _ ob
      have h1s := WX.s
      have h1e := WX.e
      refine gn_norm (σ' := [some (.ref p), some (.ref lp), some (.ref lq), some (.ref lm), u4, u5, some (.int ((i : Nat) : Int)), none, none]) rfl ?_
      refine ⟨_, rfl, _, rfl, p, C, dx, _, _, rfl, ob5, T.cl, T.nW, nf_wires _ _, _, rfl, nw, wv, i, _, rfl, rfl, SqL.of (sm _ _ hwv), atI_nat hwvi, a, _, 0, _, rfl, rfl, (TK.same sm).seq sq1, atI_nat (j := 0) rfl, lm, _, x.1, _, rfl, rfl, SqL.of hms, sgetD_at (by omega), _, _, rfl, rfl, lm, _, _, x.1, rfl, rfl, hms, Evl.ixN_nat (by rw [List.length_map]; omega), ?_⟩
      have s6 : Same H (upd H5 lm (.lst ((ms.map V.int).set x.1 (.int (ms.getD x.1 0 - 1))))) := same_mut sm hlm0
      have e6 : (upd H5 lm (.lst ((ms.map V.int).set x.1 (.int (ms.getD x.1 0 - 1))))) lm = some (.lst ((ms.set x.1 (ms.getD x.1 0 + -1)).map V.int)) := by rw [upd_same, List.map_set]; rfl
      have h6 := fun g => getD_add (ms := ms) (i := x.1) (g := g) (d := -1) (by omega)
      have l6 : (ms.set x.1 (ms.getD x.1 0 + -1)).length = gs.length := by rw [List.length_set]; exact hml
      generalize upd H5 lm (.lst ((ms.map V.int).set x.1 (.int (ms.getD x.1 0 - 1)))) = H6 at s6 e6
      generalize ms.set x.1 (ms.getD x.1 0 + -1) = ms1 at e6 h6 l6
      refine ⟨_, rfl, _, rfl, p, C, dx, _, _, rfl, s6 _ _ ob, T.cl, T.nW, nf_wires _ _, _, rfl, nw, wv, i, _, rfl, rfl, SqL.of (s6 _ _ hwv), atI_nat hwvi, a, _, 1, _, rfl, rfl, (TK.same s6).seq sq1, atI_nat (j := 1) rfl, lm, _, x.2.1, _, rfl, rfl, SqL.of e6, sgetD_at (by omega), _, _, rfl, rfl, lm, _, _, x.2.1, rfl, rfl, e6, Evl.ixN_nat (by rw [List.length_map]; omega), ?_⟩
      refine ⟨_, ms1.set x.2.1 (ms1.getD x.2.1 0 + 1), rfl, by rw [upd_same, List.map_set], by rw [List.length_set]; exact l6, fun g => ?_, same_mut s6 hlm0⟩
      have h7 := getD_add (ms := ms1) (i := x.2.1) (g := g) (d := 1) (by omega)
      rw [h7, h6 g, hmg g, List.take_add_one, hx]
      show _ = _ - wdl (dl g) (ws.take i ++ [x])
      rw [wdl_snoc]
      omega
    rintro σ H5 ⟨u6, ms, rfl, hms, hml, hmg, sm⟩
    rw [nvs_len, List.length_range, List.take_length] at hmg
    -- no gate without its balance
    refine ⟨_, rfl, p, C, dx, _, _, rfl, sm _ _ ob, T.cl, T.nG, nf_gates _ _, ng, gv, rfl, SqL.of (sm _ _ hgv), for_it (walk_enum (K := K) (a := ng) (xs := gv)) (fun i σ H' => ∃ (u7 u8 : Option V), σ = [some (.ref p), some (.ref lp), some (.ref lq), some (.ref lm), u4, u5, u6, u7, u8] ∧ Same H5 H') ⟨_, _, rfl, Same.refl _⟩ (fun i σ H' _ ⟨_, _, _, s⟩ => SqL.of (s _ _ (sm _ _ hgv))) ?_ ?_⟩
    · rintro i v σ H6 H6' hi ⟨u7, u8, rfl, s6⟩ ⟨T', x1, y, rfl, hT, rfl, ex, ey⟩
      cases ex
      obtain ⟨g, hg, gvv⟩ := ga.get ey
      have hig : i < gs.length := (List.getElem?_eq_some_iff.mp hg).1
      have sT := same_new (o := .tup [.int (i : Nat), y]) hT
      have eT : (upd H6 T' (.tup [.int (i : Nat), y])) T' = some (.tup [.int (i : Nat), y]) := upd_same
      have s7 := s6.trans sT
      generalize upd H6 T' (.tup [.int (i : Nat), y]) = H7 at sT eT s7
      refine ⟨T', _, rfl, .inl (.inl eT), rfl, _, _, rfl, _, _, rfl, rfl, ?_⟩
      refine ⟨_, rfl, _, rfl, lm, _, i, _, rfl, rfl, SqL.of (s7 _ _ hms), atI_nat (sgetD_at (by omega)), rfl, _, rfl, ?_⟩
      by_cases h0 : ms.getD i 0 = 0
      · rw [h0, decide_eq_true rfl]
        exact iteF (iteF ⟨_, _, rfl, s7⟩)
      · rw [decide_eq_false fun e => h0 (V.int.inj e)]
        refine iteT ⟨_, rfl, _, g, rfl, gvv.tk (TK.same (sm.trans s7)), fun b hb => ⟨b, rfl, ?_⟩⟩
        cases b with
        | true => exact iteF ⟨_, _, rfl, s7⟩
        | false =>
          exfalso
          apply h0
          rw [hmg i]
          have hnp : ¬ portK (kindAt gs i) := fun hp => by
            rw [kindAt_get hg] at hp
            have := hb.mpr hp
            cases this
          have := bal i hig hnp
          omega
    · rintro σ H6 ⟨u7, u8, rfl, s6⟩
      exact q H6 (sm.trans s6)
abbrev nPaperFault : List Str := ["net", "beat", "thing"]
theorem scPaperFault : FnScope nPaperFault ["net", "beat", "thing"] (defScope sPaperFault) := ⟨rfl, rfl, rfl, by decide +kernel, rfl, by decide +kernel, by decide +kernel⟩
abbrev DPaperFault (P : Program) (w : World) (K : PySem.W.Frag) (mg : Str → Option Value) (base : Heap) (C : Addr) := Df P w K mg base 6 "paper_fault" ["net", "beat", "thing"] (spPaperFault K C)
theorem ok_paperFault {f fC fP fG C : Addr} {fd fdC fdP fdG : FuncData} (F : Fun K "paper_fault" "paper_fault" sPaperFault f fd) (hm : mg "paper_fault" = some (.ref f)) (B : Bt mg) (T : NT K mg C) (DCb : DChkB P w K mg base fC fdC) (DPp : DIsPaper P w K mg base C fP fdP) (DGf : DGateFault P w K mg base C fG fdG) : DPaperFault P w K mg base C f fd := by
  refine ⟨?_, hm, F.kp, F.binds fun _ _ _ _ _ _ us hl => match us, hl with | [_, _, _], _ => rfl⟩
  refine F.ok scPaperFault (fun vs H Q E h => ?_) (fun cdv A outer s H vs Q E hr h => ?_)
  · obtain ⟨p, ng, nw, lp, gs, ws, b, ev, es, rfl, _⟩ := h
    rfl
  · obtain ⟨p, ng, nw, lp, gs, ws, b, ev, es, rfl, NA, N, hb, hlp, al, eok, hel, bal, q⟩ := h
    have nd := scPaperFault.nd
    refine ⟨_, pss_cons (ps_expr (pe_call DCb.ok (hr.mono (by decide)) (by rfl) DCb.mg DCb.kp DCb.bd .nil pass0 (pa_cons (pv 1) pa_nil))) <|
        pss_cons (ps_if (pt_not (pt_val (pe_call DPp.ok (hr.mono (by decide)) (by rfl) DPp.mg DPp.kp DPp.bd .nil pass0 (pa_cons (pv 0) (pa_cons (pv 2) pa_nil))))) (pss_one (ps_ret (pe_tup (pa_cons pe_str pa_nil)))) pss_nil) <|
        pss_one (ps_ret (pe_call DGf.ok (hr.mono (by decide)) (by rfl) DGf.mg DGf.kp DGf.bd .nil pass0 (pa_cons (pv 0) (pa_cons (pv 2) (pa_cons (pe_listRg rfl (by rfl) B.list (prg_1 (by rfl) B.range (pe_callB call_len_seq (by rfl) B.len PySem.boot_len (pa_cons (pe_fld (pv 0) rfl) pa_nil)))) pa_nil))))), ?_⟩
    obtain ⟨dx, ob⟩ := id NA.ob
    obtain ⟨gv, hgv, ga⟩ := id NA.g
    obtain ⟨wv, hwv, wa⟩ := id NA.w
    have hlg : gv.length = gs.length := ga.1
    have hlw : wv.length = ws.length := wa.1
    have hgl := N.gl
    have hwl := N.wl
    refine ⟨_, rfl, b, rfl, hb, ?_⟩
    refine ⟨_, rfl, _, rfl, p, ng, nw, lp, gs, ws, ev, es, rfl, NA, N, hlp, al, eok, hel, fun H1 s1 => ⟨true, rfl, iteF ?_⟩⟩
    refine ⟨_, rfl, _, rfl, _, rfl, p, C, dx, _, _, rfl, s1 _ _ ob, T.cl, T.nW, nf_wires _ _, nw, wv, rfl, .inl (SqL.of (s1 _ _ hwv)), _, rfl, RgOk.of_le (by omega) (by omega) (by omega) (by omega), fun lq hlq => ?_⟩
    rw [rgV_nat, hlw]
    have s2 : Same H1 (upd H1 lq (.lst ((List.range ws.length).map fun i => V.int (i : Nat)))) := same_new hlq
    have e2 : (upd H1 lq (.lst ((List.range ws.length).map fun i => V.int (i : Nat)))) lq = some (.lst (nvs (List.range ws.length))) := upd_same
    generalize upd H1 lq (.lst ((List.range ws.length).map fun i => V.int (i : Nat))) = H2 at s2 e2
    have s12 := s1.trans s2
    exact ⟨p, ng, nw, lp, lq, gs, ws, ev, es, rfl, NA.same s12, N, s12.seq hlp, al.imp fun _ _ r => EntV.same s12 r, eok, bal, SqL.of e2, fun H3 s3 => q H3 (s12.trans s3)⟩
abbrev nBoundOf : List Str := ["net", "thing", "beat"]
theorem scBoundOf : FnScope nBoundOf ["net", "thing", "beat"] (defScope sBoundOf) := ⟨rfl, rfl, rfl, by decide +kernel, rfl, by decide +kernel, by decide +kernel⟩
abbrev DBoundOf (P : Program) (w : World) (K : PySem.W.Frag) (mg : Str → Option Value) (base : Heap) (C : Addr) := Df P w K mg base 7 "bound_of" ["net", "thing", "beat"] (spBoundOf K C)
theorem ok_boundOf {f fP fR fI C : Addr} {fd fdP fdR fdI : FuncData} (F : Fun K "bound_of" "bound_of" sBoundOf f fd) (hm : mg "bound_of" = some (.ref f)) (DPf : DPaperFault P w K mg base C fP fdP) (DRg : DRegisters P w K mg base C fR fdR) (DRi : DRoomIn P w K mg base C fI fdI) : DBoundOf P w K mg base C f fd := by
  refine ⟨?_, hm, F.kp, F.binds fun _ _ _ _ _ _ us hl => match us, hl with | [_, _, _], _ => rfl⟩
  refine F.ok scBoundOf (fun vs H Q E h => ?_) (fun cdv A outer s H vs Q E hr h => ?_)
  · obtain ⟨p, ng, nw, lp, gs, ws, b, ev, es, rfl, _⟩ := h
    rfl
  · obtain ⟨p, ng, nw, lp, gs, ws, b, ev, es, rfl, NA, N, hb, hlp, al, eok, hel, bal, q⟩ := h
    have nd := scBoundOf.nd
    refine ⟨_, pss_cons (ps_if (pt_cmpR op_notN (pe_call DPf.ok (hr.mono (by decide)) (by rfl) DPf.mg DPf.kp DPf.bd .nil pass0 (pa_cons (pv 0) (pa_cons (pv 2) (pa_cons (pv 1) pa_nil)))) pe_non (nomark _)) (pss_one (ps_never)) pss_nil) <|
        pss_one (ps_ret (pe_op op_sub (pe_call DRg.ok (hr.mono (by decide)) (by rfl) DRg.mg DRg.kp DRg.bd .nil pass0 (pa_cons (pv 0) pa_nil)) (pe_call DRi.ok (hr.mono (by decide)) (by rfl) DRi.mg DRi.kp DRi.bd .nil pass0 (pa_cons (pv 0) (pa_cons (pv 2) (pa_cons (pv 1) pa_nil)))))), ?_⟩
    refine ⟨_, rfl, _, rfl, _, rfl, p, ng, nw, lp, gs, ws, b, ev, es, rfl, NA, N, hb, hlp, al, eok, hel, bal, fun H1 s1 => ⟨rfl, _, rfl, iteF ?_⟩⟩
    refine ⟨_, rfl, p, ng, nw, gs, ws, rfl, NA.same s1, N, fun H2 s2 => ?_⟩
    have s12 := s1.trans s2
    exact ⟨_, rfl, _, rfl, _, rfl, p, ng, nw, lp, gs, ws, b, ev, es, rfl, NA.same s12, N, s12.seq hlp, al.imp fun _ _ r => EntV.same s12 r, eok, hel, fun H3 s3 => ⟨_, _, rfl, rfl, q H3 (s12.trans s3)⟩⟩
abbrev nLetBounds : List Str := ["net", "beat", "kind", "told"]
theorem scLetBounds : FnScope nLetBounds ["net", "beat"] (defScope sLetBounds) := ⟨rfl, rfl, rfl, by decide +kernel, rfl, by decide +kernel, by decide +kernel⟩
abbrev DLetBounds (P : Program) (w : World) (K : PySem.W.Frag) (mg : Str → Option Value) (base : Heap) (C : Addr) := Df P w K mg base 5 "let_bounds" ["net", "beat"] (spLetBounds K C)
theorem ok_letBounds {f fF fB C : Addr} {fd fdF fdB : FuncData} (F : Fun K "let_bounds" "let_bounds" sLetBounds f fd) (hm : mg "let_bounds" = some (.ref f)) (DFb : DForBeat P w K mg base C fF fdF) (DBd : DBoundsFor P w K mg base C fB fdB) : DLetBounds P w K mg base C f fd := by
  refine ⟨?_, hm, F.kp, F.binds fun _ _ _ _ _ _ us hl => match us, hl with | [_, _], _ => rfl⟩
  refine F.ok scLetBounds (fun vs H Q E h => ?_) (fun cdv A outer s H vs Q E hr h => ?_)
  · obtain ⟨p, ng, nw, gs, ws, b, rfl, _⟩ := h
    rfl
  · obtain ⟨p, ng, nw, gs, ws, b, rfl, NA, N, hb, fe, q⟩ := h
    have nd := scLetBounds.nd
    refine ⟨_, pss_cons (ps_asg (pe_call DFb.ok (hr.mono (by decide)) (by rfl) DFb.mg DFb.kp DFb.bd .nil pass0 (pa_cons (pv 0) (pa_cons (pv 1) pa_nil))) (pg_tup rfl (pgs_cons (pg_name (i := 2) nd rfl (.inl rfl)) (pgs_cons (pg_name (i := 3) nd rfl (.inl rfl)) pgs_nil)))) <|
        pss_cons (ps_if (pt_cmpR op_eq (pv 2) pe_str (nomark _)) (pss_one (ps_never)) pss_nil) <|
        pss_one (ps_ret (pe_call DBd.ok (hr.mono (by decide)) (by rfl) DBd.mg DBd.kp DBd.bd .nil pass0 (pa_cons (pv 0) (pa_cons (pv 1) pa_nil)))), ?_⟩
    refine ⟨_, rfl, _, rfl, p, ng, nw, gs, ws, b, rfl, NA, N, hb, fun t H1 s1 ht fr => ?_⟩
    obtain ⟨wd, l', h1, h2, h3⟩ := fr.lags N
    have hw : wd = "lags" := h3.mpr fe
    subst hw
    refine ⟨t, _, rfl, .inl (.inl h1), rfl, _, _, rfl, _, _, rfl, rfl, ?_⟩
    refine ⟨_, rfl, rfl, _, rfl, iteF ?_⟩
    exact ⟨_, rfl, _, rfl, p, ng, nw, gs, ws, b, rfl, NA.same s1, N, fun lb bv bps H2 s2 hlb elb al bok hbl hpce => q lb bv bps H2 (s1.trans s2) (s1.free hlb) elb al bok hbl hpce⟩
end
end Lag

set_option maxRecDepth 100000
set_option maxHeartbeats 8000000
namespace Lag
open PySem PySem.Spec PyProof.Rows L2
theorem papF_len {bps : List (Bnd × Pce)} {f : List Int} : (papF bps f).length ≤ bps.length := by
  unfold papF
  rw [List.length_map]
  refine Nat.le_trans (List.length_filter_le _ _) ?_
  rw [List.length_zip]
  exact Nat.min_le_left _ _
theorem BdsOk.satL {gs : List Gt} {ws : List Wr} {b : Int} {bps : List (Bnd × Pce)} {L : Nat → Int} (N : NetOk gs ws) (h : BdsOk gs ws b (bps.map fun bp => bp.2) (bps.map fun bp => bp.1)) (f : Feas gs ws b L) : Sat (bps.map fun bp => bp.1) (spotL gs L) := fun bd hb => by
  obtain ⟨i, hi⟩ := List.getElem?_of_mem hb
  obtain ⟨pc, _, e, h1, h2, rfl⟩ := h.al.getR hi
  show spotL gs L (spotF gs pc.1) ≤ spotL gs L (spotF gs e) + roomF gs ws b pc
  rw [f.spot h1, f.spot (h2.lt N h1)]
  exact f.room h1 h2
theorem lagsAt_wdl (gs : List Gt) (ws : List Wr) (G : Nat → Int) : wdl (lagsAt gs G) ws = wdl (fun x => G (spotF gs x)) ws := by
  unfold wdl
  refine congrArg List.sum (List.map_congr_left fun x _ => ?_)
  show G (spotF gs x.1) - G gs.length - (G (spotF gs x.2.1) - G gs.length) = G (spotF gs x.1) - G (spotF gs x.2.1)
  omega
theorem kept_room {gs : List Gt} {ws : List Wr} {b R : Int} {bps : List (Bnd × Pce)} {g : List Int} {ks : List Kpt} (h : BdsOk gs ws b (bps.map fun bp => bp.2) (bps.map fun bp => bp.1)) (hpce : ∀ bp ∈ bps, PceOk gs ws bp.2 ∧ bp.2.2.length ≤ 1000) (hR : 1 ≤ R) (hb : ∀ s e c, s < gs.length → best gs ws s e = some c → c.1 ≤ R) (k : Kept (bps.map fun bp => bp.1) g ks) : ∀ b ∈ ks.map (fun e => e.1), -R ≤ b.2.2 := fun bd hm => by
  obtain ⟨e, he, rfl⟩ := List.mem_map.mp hm
  obtain ⟨b0, h1, h2⟩ := k.ok e he
  obtain ⟨bp, hbp, rfl⟩ := List.mem_map.mp (List.mem_of_getElem? h1)
  have h3 := h.bp bp hbp
  obtain ⟨e', h4, h5⟩ := h.bst bp.2 (List.mem_map.mpr ⟨bp, hbp, rfl⟩)
  have h6 := hb _ _ _ (hpce bp hbp).1.1 h5
  have h6 : prg ws bp.2.2 ≤ R := h6
  have h7 := prg_nn ws bp.2.2
  have h8 : -1 ≤ bp.1.2.2 ∧ bp.1.2.2 ≤ R := by
    rw [h3]
    show -1 ≤ roomF gs ws b bp.2 ∧ roomF gs ws b bp.2 ≤ R
    unfold roomF
    split <;> omega
  rcases h2 with ⟨_, h9⟩ | ⟨_, h9, _⟩
  · rw [h9]
    omega
  · rw [h9]
    show -R ≤ -bp.1.2.2
    omega
section
variable {P : Program} {w : World} {K : PySem.W.Frag} {mg : Str → Option Value} {base : Heap}
abbrev nFewest : List Str := ["net", "beat", "bounds", "flow", "kept", "paper"]
theorem scFewest : FnScope nFewest ["net", "beat"] (defScope sFewest) := ⟨rfl, rfl, rfl, by decide +kernel, rfl, by decide +kernel, by decide +kernel⟩
abbrev DFewest (P : Program) (w : World) (K : PySem.W.Frag) (mg : Str → Option Value) (base : Heap) (C : Addr) := Df P w K mg base 8 "fewest" ["net", "beat"] (spFewest K C)
theorem ok_fewest {f fL fF fS fP fO fB fN C : Addr} {fd fdL fdF fdS fdP fdO fdB fdN : FuncData} (F : Fun K "fewest" "fewest" sFewest f fd) (hm : mg "fewest" = some (.ref f)) (B : Bt mg) (T : NT K mg C) (DLb : DLetBounds P w K mg base C fL fdL) (DLf : DLeastFlow P w K mg base fF fdF) (DSi : DSpotsIn P w K mg base C fS fdS) (DPl : DPlainFlow P w K mg base C fP fdP) (DPo : DPaperOf P w K mg base fO fdO) (DBo : DBoundOf P w K mg base C fB fdB) (DNl : DNearLags P w K mg base C fN fdN) : DFewest P w K mg base C f fd := by
  refine ⟨?_, hm, F.kp, F.binds fun _ _ _ _ _ _ us hl => match us, hl with | [_, _], _ => rfl⟩
  refine F.ok scFewest (fun vs H Q E h => ?_) (fun cdv A outer s H vs Q E hr h => ?_)
  · obtain ⟨p, ng, nw, gs, ws, b, rfl, _⟩ := h
    rfl
  · obtain ⟨p, ng, nw, gs, ws, b, rfl, NA, N, hb, fe, q⟩ := h
    have nd := scFewest.nd
    refine ⟨_, pss_cons (ps_set (i := 2) nd rfl (.inl rfl) (pe_call DLb.ok (hr.mono (by decide)) (by rfl) DLb.mg DLb.kp DLb.bd .nil pass0 (pa_cons (pv 0) (pa_cons (pv 1) pa_nil)))) <|
        pss_cons (ps_asg (pe_call DLf.ok (hr.mono (by decide)) (by rfl) DLf.mg DLf.kp DLf.bd .nil pass0 (pa_cons (pe_call DSi.ok (hr.mono (by decide)) (by rfl) DSi.mg DSi.kp DSi.bd .nil pass0 (pa_cons (pv 0) pa_nil)) (pa_cons (pv 2) (pa_cons (pe_call DPl.ok (hr.mono (by decide)) (by rfl) DPl.mg DPl.kp DPl.bd .nil pass0 (pa_cons (pv 0) (pa_cons (pv 2) (pa_cons (pe_listRg rfl (by rfl) B.list (prg_1 (by rfl) B.range (pe_callB call_len_seq (by rfl) B.len PySem.boot_len (pa_cons (pe_fld (pv 0) rfl) pa_nil)))) pa_nil)))) pa_nil)))) (pg_tup rfl (pgs_cons (pg_name (i := 3) nd rfl (.inl rfl)) (pgs_cons (pg_name (i := 4) nd rfl (.inl rfl)) pgs_nil)))) <|
        pss_cons (ps_set (i := 5) nd rfl (.inl rfl) (pe_call DPo.ok (hr.mono (by decide)) (by rfl) DPo.mg DPo.kp DPo.bd .nil pass0 (pa_cons (pv 2) (pa_cons (pv 3) pa_nil)))) <|
        pss_one (ps_ret (pe_tup (pa_cons (pe_call DBo.ok (hr.mono (by decide)) (by rfl) DBo.mg DBo.kp DBo.bd .nil pass0 (pa_cons (pv 0) (pa_cons (pv 5) (pa_cons (pv 1) pa_nil)))) (pa_cons (pe_call DNl.ok (hr.mono (by decide)) (by rfl) DNl.mg DNl.kp DNl.bd .nil pass0 (pa_cons (pv 0) (pa_cons (pe_call DSi.ok (hr.mono (by decide)) (by rfl) DSi.mg DSi.kp DSi.bd .nil pass0 (pa_cons (pv 0) pa_nil)) (pa_cons (pv 4) pa_nil)))) (pa_cons (pv 5) pa_nil))))), ?_⟩
    obtain ⟨dx, ob⟩ := id NA.ob
    obtain ⟨gv, hgv, ga⟩ := id NA.g
    obtain ⟨wv, hwv, wa⟩ := id NA.w
    have hlg : gv.length = gs.length := ga.1
    have hlw : wv.length = ws.length := wa.1
    have hgl := N.gl
    have hwl := N.wl
    refine ⟨_, rfl, _, rfl, p, ng, nw, gs, ws, b, rfl, NA, N, hb, fe, fun lb bv bps H1 s1 hlb0 hlb al bok hbl hpce => ?_⟩
    refine gn_norm (σ' := [some (.ref p), some (.int b), some (.ref lb), none, none, none]) rfl ?_
    refine ⟨_, rfl, p, ng, nw, gs, ws, rfl, NA.same s1, ?_⟩
    refine ⟨_, rfl, _, rfl, _, rfl, _, rfl, p, C, dx, _, _, rfl, s1 _ _ ob, T.cl, T.nW, nf_wires _ _, nw, wv, rfl, .inl (SqL.of (s1 _ _ hwv)), _, rfl, RgOk.of_le (by omega) (by omega) (by omega) (by omega), fun lq hlq => ?_⟩
    rw [rgV_nat, hlw]
    have s2 : Same H1 (upd H1 lq (.lst ((List.range ws.length).map fun i => V.int (i : Nat)))) := same_new hlq
    have e2 : (upd H1 lq (.lst ((List.range ws.length).map fun i => V.int (i : Nat)))) lq = some (.lst (nvs (List.range ws.length))) := upd_same
    generalize upd H1 lq (.lst ((List.range ws.length).map fun i => V.int (i : Nat))) = H2 at s2 e2
    have s12 := s1.trans s2
    have al2 := al.imp fun _ _ r => BpV.same s2 r
    refine ⟨p, ng, nw, lb, lq, gs, ws, b, bv, bps, rfl, NA.same s12, N, s2 _ _ hlb, al2, bok, hbl, hpce, SqL.of e2, fun l0 f0 H3 s3 hl0 el0 hf0l hf00 hft => ?_⟩
    obtain ⟨L0, hL0⟩ := id fe
    have S0 := bok.satL N hL0
    have s23 := s2.trans s3
    have al3 := al.imp fun _ _ r => BpV.same s23 r
    refine ⟨gs.length + 1, lb, l0, bv, bps.map fun bp => bp.1, f0, rfl, by omega, by omega, s23 _ _ hlb, bpv_bnd al3, bok.below N, by rw [List.length_map]; exact hbl, SqL.of el0, by rw [List.length_map]; exact hf0l, hf00, ⟨_, S0⟩, fun t lg lk kv ks g F H4 s4 et eg ek hlk ka kp hkl hgl' hg0 hgt sat hle hlow => ?_⟩
    refine ⟨t, _, rfl, .inl (.inl et), rfl, _, _, rfl, _, _, rfl, rfl, ?_⟩
    refine gn_norm (σ' := [some (.ref p), some (.int b), some (.ref lb), some (.ref lg), some (.ref lk), none]) rfl ?_
    have s14 := s23.trans s4
    have s04 := s1.trans s14
    have al4 := al.imp fun _ _ r => BpV.same s14 r
    rw [List.length_map] at hgl'
    -- the paper
    refine ⟨_, rfl, _, rfl, lb, lg, lb, bv, bps, g, rfl, s14 _ _ hlb, al4, SqL.of eg, hgl', hbl, fun lp ev H5 s5 hlp elp ea => ?_⟩
    refine gn_norm (σ' := [some (.ref p), some (.int b), some (.ref lb), some (.ref lg), some (.ref lk), some (.ref lp)]) rfl ?_
    have s05 := s04.trans s5
    have hbp := bok.bp
    have gt2 : ∀ F, wsum (dF F) (bps.map fun bp => bp.1) g = wdl (fun x => F (spotF gs x)) ws := fun F => (hgt F).trans (hft F)
    have bal := pap_bal hbp hg0 gt2
    have room := pap_room hbp hg0
    have eok : ∀ e ∈ papF bps g, EntOk gs ws e := fun e he => by
      obtain ⟨⟨bp, h1, h2⟩, h3⟩ := papF_mem he
      obtain ⟨k1, k2⟩ := hpce bp h1
      exact ⟨by rw [h2]; exact k1, by rw [h2]; exact k2, h3⟩
    have pl := papF_len (bps := bps) (f := g)
    refine ⟨_, rfl, _, rfl, _, rfl, p, ng, nw, lp, gs, ws, b, ev, papF bps g, rfl, NA.same s05, N, hb, SqL.of elp, ea, eok, by omega, bal, fun H6 s6 => ?_⟩
    have s06 := s05.trans s6
    have s46 := s5.trans s6
    refine ⟨_, rfl, _, rfl, p, ng, nw, gs, ws, rfl, NA.same s06, ?_⟩
    refine ⟨_, rfl, p, ng, nw, lk, gs, ws, kv, ks.map fun e => e.1, fun v => F.getD v 0, rfl, NA.same s06, N, s46 _ _ ek, (kpt_bnd ka).imp fun _ _ r => BndV.tk (TK.same s46) r, kp.below (bok.below N), by rw [List.length_map]; exact hkl, sat, fun ll G H7 s7 hll ell satG hlim => ?_⟩
    refine ⟨_, rfl, (by show 3 ≤ sizeLine; decide), fun tt htt => ?_⟩
    have st := same_new (o := .tup [.int (regsum ws - psum (roomF gs ws b) (papF bps g)), .ref ll, .ref lp]) htt
    have s67 := s6.trans s7
    have s5t := s67.trans st
    obtain ⟨satB, _⟩ := kp.sat satG
    have tight := kp.tight hg0 satG
    refine q tt ll lp _ (lagsAt gs G) ev (papF bps g) _ (s06.trans (s7.trans st)) upd_same (s06.free hll) (st _ _ ell) (s04.free hlp) (s5t _ _ elp) (ea.imp fun _ _ r => EntV.same s5t r) eok (by omega) bal (bok.lags N satB) ?_ rfl (fun R hR hn hbst g' hg' => hlim (fun v hv => ?_) g' hg')
    · rw [cntsum_eq, lagsAt_wdl, ← gt2 G, tight, room]
    · have hr := hlow R (by omega) (kept_room bok hpce hR hbst kp)
      have h1 := hr v (by omega)
      have h2 := hr gs.length (by omega)
      have h3 := hle v
      have h4 := hle gs.length
      have h5 : ((gs.length + 1 : Nat) : Int) * R ≤ 500 := hn
      show F.getD v 0 - F.getD gs.length 0 ≤ 500 ∧ -500 ≤ F.getD v 0 - F.getD gs.length 0
      omega
end
end Lag

set_option maxRecDepth 100000
set_option maxHeartbeats 8000000
namespace Lag
open PySem PySem.Spec PyProof.Rows L2
abbrev sLCounts : Stmt := topS 82 -- @_law_counts
abbrev sAllLags : Stmt := topS 83 -- @_law_all_lags
abbrev sLNeed : Stmt := topS 84 -- @_law_need
abbrev sLDoes : Stmt := topS 85 -- @_law_does
/-! ### the greatest wait of ways without registers: the mathematics -/
def Zw (ms : List Int) (ps : List Nat) : Prop := ∀ p ∈ ps, ms.getD p 0 = 0
def NoZ (ws : List Wr) (ms : List Int) : Prop := ∃ lt : Nat → Nat → Prop, (∀ a, ¬ lt a a) ∧ (∀ a b c, lt a b → lt b c → lt a c) ∧ ∀ p x, ws[p]? = some x → ms.getD p 0 = 0 → lt x.1 x.2.1
structure ZMax (gs : List Gt) (ws : List Wr) (ms : List Int) (v : Int) : Prop where
  ex : ∃ s ps e, s < gs.length ∧ Pw ws s ps e ∧ Zw ms ps ∧ v = pwt gs ws s ps
  le : ∀ s ps e, s < gs.length → Pw ws s ps e → Zw ms ps → pwt gs ws s ps ≤ v
  b0 : 0 ≤ v
  b1 : v ≤ 100 * (gs.length : Int)
def vst (ws : List Wr) (s : Nat) (ps : List Nat) : List Nat := s :: ps.map fun p => (svW ws p).2.1
theorem zw_pair {ws : List Wr} {ms : List Int} {lt : Nat → Nat → Prop} (tr : ∀ a b c, lt a b → lt b c → lt a c) (hz : ∀ p x, ws[p]? = some x → ms.getD p 0 = 0 → lt x.1 x.2.1) :
    ∀ {ps : List Nat} {s e : Nat}, Pw ws s ps e → Zw ms ps → (vst ws s ps).Pairwise lt ∧ ∀ y ∈ ps.map (fun p => (svW ws p).2.1), lt s y
  | [], s, e, _, _ => ⟨List.pairwise_singleton _ _, fun y h => nomatch h⟩
  | p :: r, s, e, ⟨x, hx, hs, h3⟩, z => by
    obtain ⟨h1, h2⟩ := zw_pair tr hz h3 (fun q hq => z q (List.mem_cons_of_mem _ hq))
    have l1 := hz p x hx (z p (List.mem_cons_self ..))
    rw [hs] at l1
    have all : ∀ y ∈ vst ws x.2.1 r, lt s y := fun y hy => by
      rcases List.mem_cons.mp hy with e | hy
      · rw [e]
        exact l1
      · exact tr _ _ _ l1 (h2 y hy)
    have ev : (p :: r).map (fun p => (svW ws p).2.1) = vst ws x.2.1 r := by
      rw [List.map_cons, svW_get hx]
      rfl
    refine ⟨?_, by rw [ev]; exact all⟩
    unfold vst
    rw [ev]
    exact List.pairwise_cons.mpr ⟨all, h1⟩
theorem zw_len {gs : List Gt} {ws : List Wr} {ms : List Int} (N : NetOk gs ws) (nz : NoZ ws ms) {ps : List Nat} {s e : Nat} (hs : s < gs.length) (h : Pw ws s ps e) (z : Zw ms ps) : ps.length + 1 ≤ gs.length := by
  obtain ⟨lt, irr, tr, hz⟩ := nz
  obtain ⟨h1, _⟩ := zw_pair tr hz h z
  have nd : (vst ws s ps).Nodup := List.Pairwise.imp (S := fun a b => a ≠ b) (fun {a b} (l : lt a b) (e : a = b) => irr a (by rw [← e] at l; exact l)) h1
  have := svNodup_le nd (n := gs.length) fun v hv => by
    rcases List.mem_cons.mp hv with e | hv
    · rw [e]
      exact hs
    · obtain ⟨p, hp, rfl⟩ := List.mem_map.mp hv
      have hx := List.getElem?_eq_getElem (h.places p hp)
      rw [svW_get hx]
      exact (N.wok _ (List.getElem_mem _)).e
  unfold vst at this
  rw [List.length_cons, List.length_map] at this
  exact this
theorem gw_le {gs : List Gt} {ws : List Wr} (N : NetOk gs ws) (i : Nat) : gw gs i ≤ 100 := by
  unfold gw
  rw [List.getD_eq_getElem?_getD]
  cases e : gs[i]? with
  | none => exact (by decide : (0 : Int) ≤ 100)
  | some g => exact (N.gok g (List.mem_of_getElem? e)).2.2.1
theorem pws_le {gs : List Gt} {ws : List Wr} (N : NetOk gs ws) : ∀ ps : List Nat, pws gs ws ps ≤ 100 * (ps.length : Int)
  | [] => Int.le_refl 0
  | p :: r => by
    have h1 := pws_le N r
    have h2 := gw_le N (svW ws p).2.1
    show ((gw gs (svW ws p).2.1) :: r.map fun p => gw gs (svW ws p).2.1).sum ≤ _
    rw [List.sum_cons, List.length_cons]
    unfold pws at h1
    omega
theorem pwt_snoc {gs : List Gt} {ws : List Wr} {p : Nat} {x : Wr} (h : ws[p]? = some x) (s : Nat) (r : List Nat) : pwt gs ws s (r ++ [p]) = pwt gs ws s r + gw gs x.2.1 := by
  unfold pwt
  rw [pws_snoc h]
  omega
theorem getD_set {ts : List Int} {i j : Nat} {v : Int} (h : i < ts.length) : (ts.set i v).getD j 0 = if i = j then v else ts.getD j 0 := by
  rw [List.getD_eq_getElem?_getD, List.getD_eq_getElem?_getD, List.getElem?_set]
  by_cases e : i = j
  · rw [if_pos e, if_pos e, if_pos h]
    rfl
  · rw [if_neg e, if_neg e]
structure BJ (gs : List Gt) (ws : List Wr) (ms : List Int) (r i : Nat) (ts : List Int) : Prop where
  len : ts.length = gs.length
  snd : ∀ g, g < gs.length → ∃ ps e, Pw ws g ps e ∧ Zw ms ps ∧ ts.getD g 0 = pwt gs ws g ps
  cr : ∀ g ps e, g < gs.length → Pw ws g ps e → Zw ms ps → ps.length ≤ r → pwt gs ws g ps ≤ ts.getD g 0
  ci : ∀ g p a e, g < gs.length → Pw ws g (p :: a) e → Zw ms (p :: a) → a.length ≤ r → p < i → pwt gs ws g (p :: a) ≤ ts.getD g 0
theorem BJ.ini (gs : List Gt) (ws : List Wr) (ms : List Int) : BJ gs ws ms 0 0 (gs.map fun g => g.2) := by
  have e : ∀ g, (gs.map fun g => g.2).getD g 0 = pwt gs ws g [] := fun g => by
    have z : pwt gs ws g [] = gw gs g := Int.add_zero _
    rw [z]
    unfold gw
    rw [List.getD_eq_getElem?_getD, List.getD_eq_getElem?_getD, List.getElem?_map]
    cases gs[g]? <;> rfl
  refine ⟨List.length_map .., fun g hg => ⟨[], g, rfl, (fun p h => nomatch h), e g⟩, fun g ps e2 hs hp hz hl => ?_, fun s p a g hs hp hz hl hi => absurd hi (Nat.not_lt_zero _)⟩
  have : ps = [] := List.length_eq_zero_iff.mp (Nat.le_zero.mp hl)
  subst this
  rw [e]
  exact Int.le_refl _
theorem BJ.next {gs : List Gt} {ws : List Wr} {ms : List Int} {r : Nat} {ts : List Int} (h : BJ gs ws ms r ws.length ts) : BJ gs ws ms (r + 1) 0 ts := by
  refine ⟨h.len, h.snd, fun g ps e hs hp hz hl => ?_, fun s p a g hs hp hz hl hi => absurd hi (Nat.not_lt_zero _)⟩
  cases ps with
  | nil => exact h.cr g [] e hs hp hz (Nat.zero_le _)
  | cons p a =>
    have hl : a.length + 1 ≤ r + 1 := hl
    exact h.ci g p a e hs hp hz (by omega) (hp.places p (List.mem_cons_self ..))
theorem pwt_cons {gs : List Gt} {ws : List Wr} {p : Nat} {x : Wr} (h : ws[p]? = some x) (s : Nat) (r : List Nat) : pwt gs ws s (p :: r) = gw gs s + pwt gs ws x.2.1 r := by
  unfold pwt
  have : pws gs ws (p :: r) = gw gs (svW ws p).2.1 + pws gs ws r := List.sum_cons
  rw [this, svW_get h]
theorem BJ.keep {gs : List Gt} {ws : List Wr} {ms : List Int} {r i : Nat} {ts : List Int} (h : BJ gs ws ms r i ts) (h0 : ms.getD i 0 ≠ 0) : BJ gs ws ms r (i + 1) ts := by
  refine ⟨h.len, h.snd, h.cr, fun g p a e hs hp hz hl hi => ?_⟩
  by_cases ep : p = i
  · subst ep
    exact absurd (hz p (List.mem_cons_self ..)) h0
  · exact h.ci g p a e hs hp hz hl (by omega)
theorem BJ.put {gs : List Gt} {ws : List Wr} {ms : List Int} {r i : Nat} {ts : List Int} {x : Wr} (N : NetOk gs ws) (h : BJ gs ws ms r i ts) (hx : ws[i]? = some x) (h0 : ms.getD i 0 = 0) : BJ gs ws ms r (i + 1) (ts.set x.1 (if gw gs x.1 + ts.getD x.2.1 0 > ts.getD x.1 0 then gw gs x.1 + ts.getD x.2.1 0 else ts.getD x.1 0)) := by
  have WX := N.wok x (List.mem_of_getElem? hx)
  have hl : x.1 < ts.length := by rw [h.len]; exact WX.s
  generalize hv : (if gw gs x.1 + ts.getD x.2.1 0 > ts.getD x.1 0 then gw gs x.1 + ts.getD x.2.1 0 else ts.getD x.1 0) = v
  have v1 : ts.getD x.1 0 ≤ v := by rw [← hv]; split <;> omega
  have v2 : gw gs x.1 + ts.getD x.2.1 0 ≤ v := by rw [← hv]; split <;> omega
  have v3 : v = gw gs x.1 + ts.getD x.2.1 0 ∨ v = ts.getD x.1 0 := by rw [← hv]; split; exact .inl rfl; exact .inr rfl
  have mono : ∀ g, ts.getD g 0 ≤ (ts.set x.1 v).getD g 0 := fun g => by
    rw [getD_set hl]
    split
    · rename_i e
      rw [← e]
      exact v1
    · exact Int.le_refl _
  refine ⟨by rw [List.length_set]; exact h.len, fun g hg => ?_, fun g ps e hs hp hz hl' => Int.le_trans (h.cr g ps e hs hp hz hl') (mono g), fun g p a e hs hp hz hal hi => ?_⟩
  · rw [getD_set hl]
    by_cases e : x.1 = g
    · rw [if_pos e]
      subst e
      rcases v3 with e3 | e3
      · obtain ⟨ps, e2, hp, hz, e4⟩ := h.snd x.2.1 WX.e
        refine ⟨i :: ps, e2, ⟨x, hx, rfl, hp⟩, fun p hp' => ?_, by rw [pwt_cons hx, e3, e4]⟩
        rcases List.mem_cons.mp hp' with h | h
        · rw [h]
          exact h0
        · exact hz p h
      · obtain ⟨ps, e2, hp, hz, e4⟩ := h.snd x.1 hg
        exact ⟨ps, e2, hp, hz, by rw [e3, e4]⟩
    · rw [if_neg e]
      exact h.snd g hg
  · by_cases ep : p = i
    · subst ep
      obtain ⟨y, hy, hys, hp2⟩ := hp
      rw [hx] at hy
      cases hy
      subst hys
      rw [pwt_cons hx, getD_set hl, if_pos rfl]
      have := h.cr x.2.1 a e WX.e hp2 (fun q hq => hz q (List.mem_cons_of_mem _ hq)) hal
      omega
    · exact Int.le_trans (h.ci g p a e hs hp hz hal (by omega)) (mono g)
theorem BJ.fin {gs : List Gt} {ws : List Wr} {ms : List Int} {ts : List Int} {v : Int} (N : NetOk gs ws) (nz : NoZ ws ms) (h : BJ gs ws ms gs.length 0 ts) (hv : v ∈ ts) (hle : ∀ y ∈ ts, y ≤ v) : ZMax gs ws ms v := by
  obtain ⟨g, hg⟩ := List.getElem?_of_mem hv
  obtain ⟨hgl, _⟩ := List.getElem?_eq_some_iff.mp hg
  have eg : ts.getD g 0 = v := by rw [List.getD_eq_getElem?_getD, hg]; rfl
  rw [h.len] at hgl
  obtain ⟨ps, e2, hp, hz, e⟩ := h.snd g hgl
  have hlen := zw_len N nz hgl hp hz
  have n1 := gw_nn N g
  have n2 := pws_nn N ps
  have n3 := gw_le N g
  have n4 := pws_le N ps
  have ev : v = pwt gs ws g ps := by rw [← eg, e]
  refine ⟨⟨g, ps, e2, hgl, hp, hz, ev⟩, fun s' ps' e' hs' hp' hz' => ?_, by rw [ev]; unfold pwt; omega, by rw [ev]; unfold pwt; omega⟩
  have hlen' := zw_len N nz hs' hp' hz'
  have := h.cr s' ps' e' hs' hp' hz' (by omega)
  have hm := hle (ts.getD s' 0) (by
    rw [List.getD_eq_getElem?_getD, List.getElem?_eq_getElem (by rw [h.len]; exact hs')]
    exact List.getElem_mem _)
  omega
/-! ### the registers of the wires by lags -/
def lcntX (Ls : List Int) (x : Wr) : Int := ((x.2.2.length : Nat) : Int) + Ls.getD x.2.1 0 - Ls.getD x.1 0
def lcntL (ws : List Wr) (Ls : List Int) : List Int := ws.map (lcntX Ls)
def regsI (ws : List Wr) : List Int := ws.map fun x => ((x.2.2.length : Nat) : Int)
theorem lcntL_at {ws : List Wr} {Ls : List Int} {p : Nat} {x : Wr} (h : ws[p]? = some x) : (lcntL ws Ls).getD p 0 = lcntX Ls x := by
  unfold lcntL
  rw [List.getD_eq_getElem?_getD, List.getElem?_map, h]
  rfl
theorem regsI_at {ws : List Wr} {p : Nat} {x : Wr} (h : ws[p]? = some x) : (regsI ws).getD p 0 = ((x.2.2.length : Nat) : Int) := by
  unfold regsI
  rw [List.getD_eq_getElem?_getD, List.getElem?_map, h]
  rfl
theorem NoZ.regs {gs : List Gt} {ws : List Wr} (N : NetOk gs ws) : NoZ ws (regsI ws) := by
  obtain ⟨ρ, hρ⟩ := N.rank
  refine ⟨fun a b => ρ a < ρ b, fun a => Nat.lt_irrefl _, fun a b c h1 h2 => Nat.lt_trans h1 h2, fun p x hx hz => ?_⟩
  rw [regsI_at hx] at hz
  exact hρ x (List.mem_of_getElem? hx) (List.length_eq_zero_iff.mp (by omega))
theorem NoZ.lags {gs : List Gt} {ws : List Wr} (N : NetOk gs ws) (Ls : List Int) : NoZ ws (lcntL ws Ls) := by
  obtain ⟨ρ, hρ⟩ := N.rank
  refine ⟨fun a b => Ls.getD b 0 < Ls.getD a 0 ∨ (Ls.getD b 0 = Ls.getD a 0 ∧ ρ a < ρ b), fun a => by omega, fun a b c h1 h2 => by omega, fun p x hx hz => ?_⟩
  rw [lcntL_at hx] at hz
  unfold lcntX at hz
  by_cases h0 : x.2.2 = []
  · have h0' : x.2.2.length = 0 := by rw [h0]; rfl
    have := hρ x (List.mem_of_getElem? hx) h0
    omega
  · have := List.length_pos_iff.mpr h0
    omega
theorem cntF_lcnt {gs : List Gt} {ws : List Wr} (N : NetOk gs ws) {L : Nat → Int} {p : Nat} {x : Wr} (hx : ws[p]? = some x) : cntF ws L p = (lcntL ws (lagsL gs L)).getD p 0 := by
  have WX := N.wok x (List.mem_of_getElem? hx)
  rw [cntF_get hx, lcntL_at hx]
  unfold lcntX
  rw [lagsL_at WX.s, lagsL_at WX.e]
theorem Zw.cnt {gs : List Gt} {ws : List Wr} (N : NetOk gs ws) {L : Nat → Int} {ps : List Nat} {s e : Nat} (hp : Pw ws s ps e) : Zw (lcntL ws (lagsL gs L)) ps ↔ ∀ p ∈ ps, cntF ws L p = 0 := by
  constructor
  · intro h p hp'
    rw [cntF_lcnt N (List.getElem?_eq_getElem (hp.places p hp'))]
    exact h p hp'
  · intro h p hp'
    rw [← cntF_lcnt N (List.getElem?_eq_getElem (hp.places p hp'))]
    exact h p hp'
theorem ZMax.feas {gs : List Gt} {ws : List Wr} {L : Nat → Int} {v b : Int} (N : NetOk gs ws) (h : ZMax gs ws (lcntL ws (lagsL gs L)) v) (f : Feas gs ws b L) : v ≤ b := by
  obtain ⟨s, ps, e, hs, hp, hz, ev⟩ := h.ex
  rw [ev]
  exact f.wt s ps e hs hp ((Zw.cnt N hp).mp hz)
theorem ZMax.feas0 {gs : List Gt} {ws : List Wr} {v : Int} (N : NetOk gs ws) (h : ZMax gs ws (regsI ws) v) : Feas gs ws v (fun _ => 0) := by
  refine ⟨fun _ _ _ => rfl, fun x hx => by omega, fun s ps e hs hp hz => h.le s ps e hs hp fun p hp' => ?_⟩
  have hx := List.getElem?_eq_getElem (hp.places p hp')
  have := hz p hp'
  rw [cntF_get hx] at this
  rw [regsI_at hx]
  omega
def RowD (D : Addr) (H : Hp) (v : V) (r : List Int) : Prop := ∃ a, v = .ref a ∧ H a = some (.lst (r.map V.int)) ∧ a ≠ D
def RowV (H : Hp) (v : V) (r : List Int) : Prop := ∃ a, v = .ref a ∧ H a = some (.lst (r.map V.int))
theorem RowD.row {D : Addr} {H : Hp} {v : V} {r : List Int} (h : RowD D H v r) : RowV H v r := by
  obtain ⟨a, e, h1, _⟩ := h
  exact ⟨a, e, h1⟩
theorem RowV.same {H H' : Hp} {v : V} {r : List Int} (s : Same H H') (h : RowV H v r) : RowV H' v r := by
  obtain ⟨a, e, h1⟩ := h
  exact ⟨a, e, s _ _ h1⟩
theorem RowD.same {D : Addr} {H H' : Hp} {v : V} {r : List Int} (s : Same H H') (h : RowD D H v r) : RowD D H' v r := by
  obtain ⟨a, e, h1, h2⟩ := h
  exact ⟨a, e, s _ _ h1, h2⟩
theorem RowD.mut {D : Addr} {H : Hp} {o : HO} {v : V} {r : List Int} (h : RowD D H v r) : RowD D (upd H D o) v r := by
  obtain ⟨a, e, h1, h2⟩ := h
  exact ⟨a, e, (upd_ne h2).trans h1, h2⟩
/-- whether lags, row by row, do for a beat -/
def DoP (gs : List Gt) (ws : List Wr) (Ls : List Int) (b : Int) : Prop := (∀ x ∈ ws, 0 ≤ lcntX Ls x) ∧ ∀ s ps e, s < gs.length → Pw ws s ps e → Zw (lcntL ws Ls) ps → pwt gs ws s ps ≤ b
/-- a row of lags, of ports none -/
structure RowP (gs : List Gt) (k : Nat) (Ls : List Int) : Prop where
  len : Ls.length = k
  port : ∀ g, g < k → portK (kindAt gs g) → Ls.getD g 0 = 0
  near : ∀ z ∈ Ls, -3 ≤ z ∧ z ≤ 3
theorem row_eq {gs : List Gt} {Ls : List Int} (h : Ls.length = gs.length) : lagsL gs (fun g => Ls.getD g 0) = Ls := by
  refine List.ext_getElem? fun i => ?_
  unfold lagsL
  rw [List.getElem?_map]
  by_cases hi : i < gs.length
  · rw [List.getElem?_range hi, List.getElem?_eq_getElem (by omega : i < Ls.length)]
    show some (Ls.getD i 0) = _
    rw [List.getD_eq_getElem?_getD, List.getElem?_eq_getElem (by omega : i < Ls.length)]
    rfl
  · rw [List.getElem?_eq_none (by rw [List.length_range]; omega), List.getElem?_eq_none (by omega)]
    rfl
theorem DoP.feas {gs : List Gt} {ws : List Wr} {L : Nat → Int} {b : Int} (N : NetOk gs ws) (hp : ∀ g, g < gs.length → portK (kindAt gs g) → L g = 0) (h : DoP gs ws (lagsL gs L) b) : Feas gs ws b L := by
  refine ⟨hp, fun x hx => ?_, fun s ps e hs hpw hz => h.2 s ps e hs hpw ((Zw.cnt N hpw).mpr hz)⟩
  have W := N.wok x hx
  have := h.1 x hx
  unfold lcntX at this
  rw [lagsL_at W.s, lagsL_at W.e] at this
  omega
theorem Feas.doP {gs : List Gt} {ws : List Wr} {L : Nat → Int} {b : Int} (N : NetOk gs ws) (f : Feas gs ws b L) : DoP gs ws (lagsL gs L) b := by
  refine ⟨fun x hx => ?_, fun s ps e hs hpw hz => f.wt s ps e hs hpw ((Zw.cnt N hpw).mp hz)⟩
  have W := N.wok x hx
  unfold lcntX
  rw [lagsL_at W.s, lagsL_at W.e]
  have := f.lt x hx
  omega
def spLCounts (K : PySem.W.Frag) : Sp := fun vs H Q _ => ∃ (lw ls : Addr) (gs : List Gt) (ws : List Wr) (Ls : List Int), vs = [.ref lw, .ref ls] ∧ LW K H lw ws ∧ NetOk gs ws ∧ H ls = some (.lst (Ls.map V.int)) ∧ Ls.length = gs.length ∧
  ∀ l H', Same H H' → H l = none → H' l = some (.lst ((lcntL ws Ls).map V.int)) → Q (.ref l) H'
def spLNeed (K : PySem.W.Frag) : Sp := fun vs H Q _ => ∃ (lg lw lm : Addr) (gs : List Gt) (ws : List Wr) (ms : List Int), vs = [.ref lg, .ref lw, .ref lm] ∧ LG K H lg gs ∧ LW K H lw ws ∧ NetOk gs ws ∧ SqL K H lm (ms.map V.int) ∧ ms.length = ws.length ∧ NoZ ws ms ∧
  ∀ v H', Same H H' → ZMax gs ws ms v → Q (.int v) H'
def spLDoes (K : PySem.W.Frag) : Sp := fun vs H Q _ => ∃ (lg lw ls : Addr) (gs : List Gt) (ws : List Wr) (Ls : List Int) (b : Int), vs = [.ref lg, .ref lw, .ref ls, .int b] ∧ LG K H lg gs ∧ LW K H lw ws ∧ NetOk gs ws ∧ ws ≠ [] ∧ H ls = some (.lst (Ls.map V.int)) ∧ Ls.length = gs.length ∧
  ∀ d H', Same H H' → (d = true ↔ DoP gs ws Ls b) → Q (.bl d) H'
def spAllLags (K : PySem.W.Frag) : Sp := fun vs H Q _ => ∃ (lg : Addr) (gs : List Gt), vs = [.ref lg, .int 3] ∧ LG K H lg gs ∧ gs.length ≤ 24 ∧ nInn gs ≤ 3 ∧
  ∀ l rv rows H', Same H H' → H l = none → H' l = some (.lst rv) → All2 (RowV H') rv rows → (∀ r ∈ rows, RowP gs gs.length r) → rows.length ≤ 343 → Q (.ref l) H'
theorem LG.same' {K : PySem.W.Frag} {H H' : Hp} {l : Addr} {gs : List Gt} (h : LG K H l gs) (s : Same H H') : LG K H' l gs := by
  obtain ⟨v, h1, h2⟩ := h
  exact ⟨v, s _ _ h1, h2.imp fun _ _ r => r.tk (TK.same s)⟩
theorem LW.same' {K : PySem.W.Frag} {H H' : Hp} {l : Addr} {ws : List Wr} (h : LW K H l ws) (s : Same H H') : LW K H' l ws := by
  obtain ⟨v, h1, h2⟩ := h
  exact ⟨v, s _ _ h1, h2.imp fun _ _ r => r.tk (TK.same s)⟩
theorem nInn_take {gs : List Gt} {k : Nat} : nInn (gs.take k) ≤ nInn gs := by
  have : nInn gs = nInn (gs.take k) + nInn (gs.drop k) := by
    unfold nInn
    rw [← List.countP_append, List.take_append_drop]
  omega
theorem nInn_succ {gs : List Gt} {k : Nat} {g : Gt} (h : gs[k]? = some g) : nInn (gs.take (k + 1)) = nInn (gs.take k) + if innP g.1 then 1 else 0 := by
  unfold nInn
  rw [List.take_add_one, h, List.countP_append]
  congr 1
  show List.countP _ [g] = _
  rw [List.countP_singleton]
theorem RowP.snoc {gs : List Gt} {k : Nat} {r : List Int} {c : Int} (h : RowP gs k r) (hc : -3 ≤ c ∧ c ≤ 3) (hp : portK (kindAt gs k) → c = 0) : RowP gs (k + 1) (r ++ [c]) := by
  refine ⟨by rw [List.length_append, h.len]; rfl, fun g hg hgp => ?_, fun z hz => ?_⟩
  · rw [List.getD_eq_getElem?_getD]
    by_cases e : g = k
    · subst e
      rw [List.getElem?_append_right (by rw [h.len]; exact Nat.le_refl _), h.len, Nat.sub_self]
      exact hp hgp
    · rw [List.getElem?_append_left (by rw [h.len]; omega), ← List.getD_eq_getElem?_getD]
      exact h.port g (by omega) hgp
  · rcases List.mem_append.mp hz with h' | h'
    · exact h.near z h'
    · rw [List.mem_singleton.mp h']
      exact hc
section
variable {P : Program} {w : World} {K : PySem.W.Frag} {mg : Str → Option Value} {base : Heap}
abbrev nLCounts : List Str := ["_law_wires_here", "_law_lags_here", "_law_start", "_law_end", "_law_stock"]
theorem scLCounts : FnScope nLCounts ["_law_wires_here", "_law_lags_here"] (defScope sLCounts) := ⟨rfl, rfl, rfl, by decide +kernel, rfl, by decide +kernel, by decide +kernel⟩
abbrev DLCounts (P : Program) (w : World) (K : PySem.W.Frag) (mg : Str → Option Value) (base : Heap) := Df P w K mg base 1 "_law_counts" ["_law_wires_here", "_law_lags_here"] (spLCounts K)
theorem ok_lcounts {f : Addr} {fd : FuncData} (F : Fun K "_law_counts" "_law_counts" sLCounts f fd) (hm : mg "_law_counts" = some (.ref f)) (B : Bt mg) : DLCounts P w K mg base f fd := by
  refine ⟨?_, hm, F.kp, F.binds fun _ _ _ _ _ _ us hl => match us, hl with | [_, _], _ => rfl⟩
  refine F.ok scLCounts (fun vs H Q E h => ?_) (fun cdv A outer s H vs Q E hr h => ?_)
  · obtain ⟨lw, ls, gs, ws, Ls, rfl, _⟩ := h
    rfl
  · obtain ⟨lw, ls, gs, ws, Ls, rfl, W, N, hls, hll, q⟩ := h
    have nd := scLCounts.nd
    have hwl := N.wl
    refine ⟨_, pss_one (ps_ret (pe_lc (own := [("_law_start", 2), ("_law_end", 3), ("_law_stock", 4)]) (g := (gTup K 3 (gCons (gName 2) (gCons (gName 3) (gCons (gName 4) gNil))))) (tt := tYes) (te := (tOp (rI0 fun i j => .int (i - j)) (tOp (rI0 fun i j => .int (i + j)) (tCB (Evl.rLenS K) (tCons (tVar 4) tNil)) (tOp (rIxL K) (tVar 1) (tVar 3))) (tOp (rIxL K) (tVar 1) (tVar 2)))) rfl nd (pi_list (pv 0)) (blkOk_by (N := nLCounts) (sc := defScope sLCounts) (own := [("_law_start", 2), ("_law_end", 3), ("_law_stock", 4)]) (by decide +kernel)) (fun _ _ _ _ _ => (pg_tup rfl (pgs_cons (pg_name (i := 2) nd rfl (.inl rfl)) (pgs_cons (pg_name (i := 3) nd rfl (.inl rfl)) (pgs_cons (pg_name (i := 4) nd rfl (.inl rfl)) pgs_nil))))) (fun _ _ _ _ _ => pts_nil) (fun _ _ _ _ _ => (pe_op op_sub (pe_op op_add (pe_callB call_len_seq (by rfl) B.len PySem.boot_len (pa_cons (pv 4) pa_nil)) (pe_ix ix_list (pv 1) (pv 3) (fun _ _ => rfl))) (pe_ix ix_list (pv 1) (pv 2) (fun _ _ => rfl)))))), ?_⟩
    obtain ⟨wv, hwv, wa⟩ := id W
    have hlw : wv.length = ws.length := wa.1
    refine ⟨_, rfl, lw, rfl, ⟨_, SqL.of hwv⟩, fun D hD => ?_⟩
    refine lc_list (K := K) (a := lw) (xs := wv) (fun i Hc => Hc D = some (.lst ((lcntL (ws.take i) Ls).map V.int)) ∧ Same H Hc) ⟨upd_same, same_new hD⟩ (fun i Hc _ ⟨_, sm⟩ => SqL.of (sm _ _ hwv)) ?_ ?_
    · rintro i v Hc hv ⟨hc, sm⟩
      obtain ⟨x, hx, a, b, rfl, sq1, sq2⟩ := wa.get hv
      have hi : i < ws.length := (List.getElem?_eq_some_iff.mp hx).1
      have WX := N.wok x (List.mem_of_getElem? hx)
      have tk := TK.same sm
      refine ⟨a, _, rfl, tk.seq sq1, rfl, _, _, rfl, _, _, rfl, _, _, rfl, rfl, rfl, tyes ?_⟩
      refine ⟨_, rfl, b, _, rfl, .inr (tk.seq sq2), _, rfl, _, rfl, ls, _, _, _, rfl, rfl, SqL.of (sm _ _ hls), atI_nat (sgetD_at (by rw [hll]; exact WX.e)), _, _, rfl, rfl, ?_⟩
      refine ⟨_, rfl, _, rfl, ls, _, _, _, rfl, rfl, SqL.of (sm _ _ hls), atI_nat (sgetD_at (by rw [hll]; exact WX.s)), _, _, rfl, rfl, _, hc, ?_, ?_, same_mut sm hD⟩
      · unfold lcntL
        rw [List.length_map, List.length_map, List.length_take]
        exact Nat.lt_of_le_of_lt (Nat.le_trans (Nat.min_le_right _ _) hwl) (by decide)
      · rw [upd_same, List.take_add_one, hx]
        unfold lcntL
        rw [List.map_append, List.map_append, List.length_map]
        rfl
    · rintro H2 ⟨hc, sm⟩
      rw [hlw, List.take_length] at hc
      exact q D H2 sm hD hc
abbrev nLNeed : List Str := ["_law_gates_here", "_law_wires_here", "_law_some", "_law_kind", "_law_wait", "_law_best", "_law_turn", "_law_place", "_law_start", "_law_end", "_law_stock"]
theorem scLNeed : FnScope nLNeed ["_law_gates_here", "_law_wires_here", "_law_some"] (defScope sLNeed) := ⟨rfl, rfl, rfl, by decide +kernel, rfl, by decide +kernel, by decide +kernel⟩
abbrev DLNeed (P : Program) (w : World) (K : PySem.W.Frag) (mg : Str → Option Value) (base : Heap) := Df P w K mg base 1 "_law_need" ["_law_gates_here", "_law_wires_here", "_law_some"] (spLNeed K)
theorem ok_lneed {f : Addr} {fd : FuncData} (F : Fun K "_law_need" "_law_need" sLNeed f fd) (hm : mg "_law_need" = some (.ref f)) (B : Bt mg) : DLNeed P w K mg base f fd := by
  refine ⟨?_, hm, F.kp, F.binds fun _ _ _ _ _ _ us hl => match us, hl with | [_, _, _], _ => rfl⟩
  refine F.ok scLNeed (fun vs H Q E h => ?_) (fun cdv A outer s H vs Q E hr h => ?_)
  · obtain ⟨lg, lw, lm, gs, ws, ms, rfl, _⟩ := h
    rfl
  · obtain ⟨lg, lw, lm, gs, ws, ms, rfl, G, W, N, hlm, hml, nz, q⟩ := h
    have nd := scLNeed.nd
    have hgl := N.gl
    have hwl := N.wl
    refine ⟨_, pss_cons (ps_setLc (i := 5) (own := [("_law_kind", 3), ("_law_wait", 4)]) (g := (gTup K 2 (gCons (gName 3) (gCons (gName 4) gNil)))) (tt := tYes) (te := (tVar 4)) rfl nd rfl rfl (sw_true rfl rfl rfl (by decide +kernel)) (pi_list (pv 0)) (blkOk_by (N := nLNeed) (sc := defScope sLNeed) (own := [("_law_kind", 3), ("_law_wait", 4)]) (by decide +kernel)) (fun _ _ _ _ _ => (pg_tup rfl (pgs_cons (pg_name (i := 3) nd rfl (.inl rfl)) (pgs_cons (pg_name (i := 4) nd rfl (.inl rfl)) pgs_nil)))) (fun _ _ _ _ _ => pts_nil) (fun _ _ _ _ _ => (pv 4))) <|
        pss_cons (ps_for PassesOwn.never rfl (pi_list (pv 0)) (pg_name (i := 6) nd rfl (.inl rfl)) (pss_one (ps_for PassesOwn.never rfl (pi_enum (by rfl) B.enum (pa_cons (pv 1) pa_nil)) (pg_tup rfl (pgs_cons (pg_name (i := 7) nd rfl (.inl rfl)) (pgs_cons (pg_tup rfl (pgs_cons (pg_name (i := 8) nd rfl (.inl rfl)) (pgs_cons (pg_name (i := 9) nd rfl (.inl rfl)) (pgs_cons (pg_name (i := 10) nd rfl (.inl rfl)) pgs_nil)))) pgs_nil))) (pss_one (ps_if (pt_cmpR op_eq (pe_ix ix_list (pv 2) (pv 7) (fun _ _ => rfl)) pe_int (nomark _)) (pss_one (ps_asg (pe_callB (call_max2 rfl) (by rfl) B.max (by decide +kernel) (pa_cons (pe_ix ix_list (pv 5) (pv 8) (fun _ _ => rfl)) (pa_cons (pe_op op_add (pe_ix ix_tup (pe_ix ix_list (pv 0) (pv 8) (fun _ _ => rfl)) pe_int (fun _ _ => rfl)) (pe_ix ix_list (pv 5) (pv 9) (fun _ _ => rfl))) pa_nil))) (pg_sub (pv 5) (pv 8) set_list))) pss_nil))))) <|
        pss_one (ps_ret (pe_callB (cr_max rfl) (by rfl) B.max (by decide +kernel) (pa_cons (pv 5) pa_nil))), ?_⟩
    obtain ⟨gv, hgv, ga⟩ := id G
    obtain ⟨wv, hwv, wa⟩ := id W
    have hlw : wv.length = ws.length := wa.1
    have hlg : gv.length = gs.length := ga.1
    refine ⟨_, rfl, lg, rfl, ⟨_, SqL.of hgv⟩, fun lt hlt => ?_⟩
    refine lc_list (K := K) (a := lg) (xs := gv) (fun i Hc => Hc lt = some (.lst (((gs.take i).map fun g => g.2).map V.int)) ∧ Same H Hc) ⟨upd_same, same_new hlt⟩ (fun i Hc _ ⟨_, sm⟩ => SqL.of (sm _ _ hgv)) ?_ ?_
    · rintro i v Hc hv ⟨hc, sm⟩
      obtain ⟨g, hg, a, rfl, sq⟩ := ga.get hv
      have hi : i < gs.length := (List.getElem?_eq_some_iff.mp hg).1
      refine ⟨a, _, rfl, (TK.same sm).seq sq, rfl, _, _, rfl, _, _, rfl, rfl, rfl, tyes ?_⟩
      refine ⟨_, rfl, _, hc, ?_, ?_, same_mut sm hlt⟩
      · rw [List.length_map, List.length_map, List.length_take]
        exact small1000 (by omega)
      · rw [upd_same, List.take_add_one, hg, List.map_append, List.map_append]
        rfl
    rintro H1 ⟨h1, s1⟩
    rw [hlg, List.take_length] at h1
    refine gn_norm (σ' := [some (.ref lg), some (.ref lw), some (.ref lm), none, none, some (.ref lt), none, none, none, none, none]) rfl ?_
    refine ⟨_, rfl, lg, rfl, ⟨_, SqL.of (s1 _ _ hgv)⟩, for_list (K := K) (a := lg) (xs := gv) (fun r σ H' => ∃ (u6 u7 u8 u9 ua : Option V) (ts : List Int), σ = [some (.ref lg), some (.ref lw), some (.ref lm), none, none, some (.ref lt), u6, u7, u8, u9, ua] ∧ Same H H' ∧ H' lt = some (.lst (ts.map V.int)) ∧ BJ gs ws ms r 0 ts) ⟨_, _, _, _, _, _, rfl, s1, h1, BJ.ini gs ws ms⟩ (fun i σ H' _ ⟨_, _, _, _, _, _, _, sm, _⟩ => SqL.of (sm _ _ hgv)) ?_ ?_⟩
    · rintro r vg σ H2 hr' ⟨u6, u7, u8, u9, ua, ts, rfl, s2, e2, bi⟩
      refine gn_norm (σ' := [some (.ref lg), some (.ref lw), some (.ref lm), none, none, some (.ref lt), some vg, u7, u8, u9, ua]) rfl ?_
      refine ⟨_, rfl, lw, wv, rfl, SqL.of (s2 _ _ hwv), for_it (walk_enum (K := K) (a := lw) (xs := wv)) (fun j σ H' => ∃ (u7 u8 u9 ua : Option V) (ts : List Int), σ = [some (.ref lg), some (.ref lw), some (.ref lm), none, none, some (.ref lt), some vg, u7, u8, u9, ua] ∧ Same H H' ∧ H' lt = some (.lst (ts.map V.int)) ∧ BJ gs ws ms r j ts) ⟨_, _, _, _, ts, rfl, s2, e2, bi⟩ (fun j σ H' _ ⟨_, _, _, _, _, _, sm, _⟩ => SqL.of (sm _ _ hwv)) ?_ ?_⟩
      · rintro j v σ H7 H7' hj ⟨u7, u8, u9, ua, ts, rfl, sm, et, bi⟩ ⟨T', x1, y, rfl, hT, rfl, ex, ey⟩
        cases ex
        obtain ⟨x, hx, a, b', rfl, sq1, sq2⟩ := wa.get ey
        have hji : j < ws.length := (List.getElem?_eq_some_iff.mp hx).1
        have WX := N.wok x (List.mem_of_getElem? hx)
        have sT := same_new (o := .tup [.int (j : Nat), .ref a]) hT
        have eT : (upd H7 T' (.tup [.int (j : Nat), .ref a])) T' = some (.tup [.int (j : Nat), .ref a]) := upd_same
        have sm8 := sm.trans sT
        have et8 := sT _ _ et
        generalize upd H7 T' (.tup [.int (j : Nat), .ref a]) = H8 at sT eT sm8 et8
        have tk8 := TK.same sm8
        obtain ⟨_, hvs, as, rfl, sqs⟩ := ga.getR (List.getElem?_eq_getElem WX.s)
        have sqs := tk8.seq sqs
        have hgw : (gs[x.1]'WX.s).2 = gw gs x.1 := (gw_get (List.getElem?_eq_getElem WX.s)).symm
        rw [hgw] at sqs
        have lm8 : SqL K H8 lm (ms.map V.int) := sm8.seq hlm
        have ts_s := sgetD_at (ts := ts) (g := x.1) (by rw [bi.len]; exact WX.s)
        have ts_e := sgetD_at (ts := ts) (g := x.2.1) (by rw [bi.len]; exact WX.e)
        refine ⟨T', _, rfl, .inl (.inl eT), rfl, _, _, rfl, _, _, rfl, a, _, rfl, tk8.seq sq1, rfl, _, _, rfl, _, _, rfl, _, _, rfl, rfl, rfl, ?_⟩
        refine ⟨_, rfl, _, rfl, lm, _, j, _, rfl, rfl, lm8, atI_nat (sgetD_at (by omega)), rfl, _, rfl, ite2 (fun e => ?_) (fun e => ?_)⟩
        · have h0 : ms.getD j 0 = 0 := V.int.inj (of_decide_eq_true e)
          refine ⟨_, rfl, _, rfl, lt, _, x.1, _, rfl, rfl, SqL.of et8, atI_nat ts_s, _, rfl, _, rfl, lg, gv, x.1, _, rfl, rfl, SqL.of (sm8 _ _ hgv), atI_nat hvs, as, _, 1, _, rfl, rfl, sqs, atI_nat (j := 1) rfl, _, rfl, _, rfl, lt, _, x.2.1, _, rfl, rfl, SqL.of et8, atI_nat ts_e, _, _, rfl, rfl, _, _, rfl, _, rfl, _, rfl, lt, _, _, x.1, rfl, rfl, et8, Evl.ixN_nat (by rw [List.length_map, bi.len]; exact WX.s), ?_⟩
          exact ⟨_, _, _, _, _, rfl, same_mut sm8 hlt, by rw [upd_same, List.map_set], bi.put N hx h0⟩
        · exact ⟨_, _, _, _, ts, rfl, sm8, et8, bi.keep fun z => e (decide_eq_true (congrArg V.int z))⟩
      · rintro σ H7 ⟨u7, u8, u9, ua, ts, rfl, sm, et, bi⟩
        rw [hlw] at bi
        exact ⟨_, _, _, _, _, ts, rfl, sm, et, bi.next⟩
    · rintro σ H7 ⟨u6, u7, u8, u9, ua, ts, rfl, sm, et, bi⟩
      rw [hlg] at bi
      exact ⟨_, rfl, lt, ts, rfl, SqL.of et, by rw [bi.len]; exact List.length_pos_iff.mpr N.ne, fun v hv hle => q v H7 sm (bi.fin N nz hv hle)⟩
abbrev nLDoes : List Str := ["_law_gates_here", "_law_wires_here", "_law_lags_here", "_law_most", "_law_some"]
theorem scLDoes : FnScope nLDoes ["_law_gates_here", "_law_wires_here", "_law_lags_here", "_law_most"] (defScope sLDoes) := ⟨rfl, rfl, rfl, by decide +kernel, rfl, by decide +kernel, by decide +kernel⟩
abbrev DLDoes (P : Program) (w : World) (K : PySem.W.Frag) (mg : Str → Option Value) (base : Heap) := Df P w K mg base 2 "_law_does" ["_law_gates_here", "_law_wires_here", "_law_lags_here", "_law_most"] (spLDoes K)
theorem ok_ldoes {f fC fN : Addr} {fd fdC fdN : FuncData} (F : Fun K "_law_does" "_law_does" sLDoes f fd) (hm : mg "_law_does" = some (.ref f)) (B : Bt mg) (mn : mg "min" = none) (DLc : DLCounts P w K mg base fC fdC) (DNe : DLNeed P w K mg base fN fdN) : DLDoes P w K mg base f fd := by
  refine ⟨?_, hm, F.kp, F.binds fun _ _ _ _ _ _ us hl => match us, hl with | [_, _, _, _], _ => rfl⟩
  refine F.ok scLDoes (fun vs H Q E h => ?_) (fun cdv A outer s H vs Q E hr h => ?_)
  · obtain ⟨lg, lw, ls, gs, ws, Ls, b, rfl, _⟩ := h
    rfl
  · obtain ⟨lg, lw, ls, gs, ws, Ls, b, rfl, G, W, N, hne, hls, hll, q⟩ := h
    have nd := scLDoes.nd
    refine ⟨_, pss_cons (ps_set (i := 4) nd rfl (.inl rfl) (pe_call DLc.ok (hr.mono (by decide)) (by rfl) DLc.mg DLc.kp DLc.bd .nil pass0 (pa_cons (pv 1) (pa_cons (pv 2) pa_nil)))) <|
        pss_one (ps_ret (pe_and (pe_cmpR op_ge (pe_callB (cr_min rfl) (by rfl) mn (by decide +kernel) (pa_cons (pv 4) pa_nil)) pe_int (nomark _)) (pe_one (pe_cmpR op_le (pe_call DNe.ok (hr.mono (by decide)) (by rfl) DNe.mg DNe.kp DNe.bd .nil pass0 (pa_cons (pv 0) (pa_cons (pv 1) (pa_cons (pv 4) pa_nil)))) (pv 3) (nomark _))))), ?_⟩
    have hcl : (lcntL ws Ls).length = ws.length := List.length_map _
    refine ⟨_, rfl, _, rfl, lw, ls, gs, ws, Ls, rfl, W, N, hls, hll, fun l H1 s1 _ el => ?_⟩
    refine gn_norm (σ' := [some (.ref lg), some (.ref lw), some (.ref ls), some (.int b), some (.ref l)]) rfl ?_
    refine ⟨_, rfl, l, _, rfl, SqL.of el, by rw [hcl]; exact List.length_pos_iff.mpr hne, fun m hm hmm => ?_⟩
    refine ⟨_, _, rfl, rfl, ?_⟩
    have hx0 : (∀ x ∈ ws, 0 ≤ lcntX Ls x) ↔ 0 ≤ m := by
      constructor
      · intro h
        obtain ⟨x, hx, e⟩ := List.mem_map.mp hm
        rw [← e]
        exact h x hx
      · intro h x hx
        have := hmm _ (List.mem_map.mpr ⟨x, hx, rfl⟩)
        omega
    by_cases h0 : 0 ≤ m
    · refine ⟨true, congrArg V.bl (decide_eq_true h0), ?_⟩
      refine ⟨_, rfl, _, rfl, _, rfl, lg, lw, l, gs, ws, _, rfl, G.same' s1, W.same' s1, N, SqL.of el, hcl, NoZ.lags N Ls, fun v H2 s2 zm => ?_⟩
      refine ⟨_, rfl, _, _, rfl, rfl, q _ H2 (s1.trans s2) ?_⟩
      rw [decide_eq_true_iff]
      constructor
      · intro hv
        exact ⟨hx0.mpr h0, fun s ps e hs hp hz => Int.le_trans (zm.le s ps e hs hp hz) hv⟩
      · intro hd
        obtain ⟨s, ps, e, hs, hp, hz, ev⟩ := zm.ex
        rw [ev]
        exact hd.2 s ps e hs hp hz
    · exact ⟨false, congrArg V.bl (decide_eq_false h0), q false H1 s1 ⟨(fun z => nomatch z), fun hd => absurd (hx0.mp hd.1) h0⟩⟩
abbrev nAllLags : List Str := ["_law_gates_here", "_law_far", "_law_found", "_law_kind", "_law_wait", "_law_lags_here", "_law_longer", "_law_lag"]
theorem scAllLags : FnScope nAllLags ["_law_gates_here", "_law_far"] (defScope sAllLags) := ⟨rfl, rfl, rfl, by decide +kernel, rfl, by decide +kernel, by decide +kernel⟩
abbrev DAllLags (P : Program) (w : World) (K : PySem.W.Frag) (mg : Str → Option Value) (base : Heap) := Df P w K mg base 1 "_law_all_lags" ["_law_gates_here", "_law_far"] (spAllLags K)
theorem ok_allLags {f : Addr} {fd : FuncData} (F : Fun K "_law_all_lags" "_law_all_lags" sAllLags f fd) (hm : mg "_law_all_lags" = some (.ref f)) (B : Bt mg) : DAllLags P w K mg base f fd := by
  refine ⟨?_, hm, F.kp, F.binds fun _ _ _ _ _ _ us hl => match us, hl with | [_, _], _ => rfl⟩
  refine F.ok scAllLags (fun vs H Q E h => ?_) (fun cdv A outer s H vs Q E hr h => ?_)
  · obtain ⟨lg, gs, rfl, _⟩ := h
    rfl
  · obtain ⟨lg, gs, rfl, G, hg24, hfr, q⟩ := h
    have nd := scAllLags.nd
    refine ⟨_, pss_cons (ps_set (i := 2) nd rfl (.inl rfl) (pe_lst (pa_cons (pe_lst pa_nil) pa_nil))) <|
        pss_cons (ps_for PassesOwn.never rfl (pi_list (pv 0)) (pg_tup rfl (pgs_cons (pg_name (i := 3) nd rfl (.inl rfl)) (pgs_cons (pg_name (i := 4) nd rfl (.inl rfl)) pgs_nil))) (pss_one (ps_if (PW.pt (pw_or (pt_cmpR op_eq (pv 3) pe_str (nomark _)) (pw_or1 (pt_cmpR op_eq (pv 3) pe_str (nomark _))))) (pss_one (ps_setLc (i := 2) (own := [("_law_lags_here", 5)]) (g := (gName 5)) (tt := tYes) (te := (tOp rCat (tVar 5) (tLst (tCons (tC (.int 0)) tNil)))) rfl nd rfl rfl (sw_true rfl rfl rfl (by decide +kernel)) (pi_list (pv 2)) (blkOk_by (N := nAllLags) (sc := defScope sAllLags) (own := [("_law_lags_here", 5)]) (by decide +kernel)) (fun _ _ _ _ _ => (pg_name (i := 5) nd rfl (.inl rfl))) (fun _ _ _ _ _ => pts_nil) (fun _ _ _ _ _ => (pe_op op_cat (pv 5) (pe_lst (pa_cons pe_int pa_nil)))))) (pss_cons (ps_set (i := 6) nd rfl (.inl rfl) (pe_lst pa_nil)) <|
        pss_cons (ps_for PassesOwn.never rfl (pi_range2 (by rfl) B.range (pa_cons (pe_op op_sub pe_int (pv 1)) (pa_cons (pe_op op_add (pv 1) pe_int) pa_nil))) (pg_name (i := 7) nd rfl (.inr rfl)) (pss_one (ps_set (i := 6) nd rfl (.inl rfl) (pe_op op_cat (pv 6) (pe_lc (own := [("_law_lags_here", 5)]) (g := (gName 5)) (tt := tYes) (te := (tOp rCat (tVar 5) (tLst (tCons (tVar 7) tNil)))) rfl nd (pi_list (pv 2)) (blkOk_by (N := nAllLags) (sc := defScope sAllLags) (own := [("_law_lags_here", 5)]) (by decide +kernel)) (fun _ _ _ _ _ => (pg_name (i := 5) nd rfl (.inl rfl))) (fun _ _ _ _ _ => pts_nil) (fun _ _ _ _ _ => (pe_op op_cat (pv 5) (pe_lst (pa_cons (pv 7) pa_nil))))))))) <|
        pss_one (ps_set (i := 2) nd rfl (.inl rfl) (pv 6)))))) <|
        pss_one (ps_ret (pv 2)), ?_⟩
    obtain ⟨gv, hgv, ga⟩ := id G
    have hlg : gv.length = gs.length := ga.1
    refine ⟨(by show 0 ≤ sizeLine; decide), fun l0 hl0 => ?_⟩
    have s1 : Same H (upd H l0 (.lst [])) := same_new hl0
    have e1 : (upd H l0 (.lst [])) l0 = some (.lst (([] : List Int).map V.int)) := upd_same
    generalize upd H l0 (.lst []) = H1 at s1 e1
    refine ⟨(by show 1 ≤ sizeLine; decide), fun lf hlf => ?_⟩
    have s2 : Same H1 (upd H1 lf (.lst [.ref l0])) := same_new hlf
    have e2 : (upd H1 lf (.lst [.ref l0])) lf = some (.lst [.ref l0]) := upd_same
    obtain ⟨H2, hH2⟩ : ∃ H2, H2 = upd H1 lf (.lst [.ref l0]) := ⟨_, rfl⟩
    rw [← hH2] at s2 e2
    refine gn_normH (σ' := [some (.ref lg), some (.int 3), some (.ref lf), none, none, none, none, none]) (H' := H2) rfl hH2.symm ?_
    refine ⟨_, rfl, lg, rfl, ⟨_, SqL.of ((s1.trans s2) _ _ hgv)⟩, for_list (K := K) (a := lg) (xs := gv) (fun k σ H' => ∃ (u3 u4 u6 u7 : Option V) (lf : Addr) (rv : List V) (rows : List (List Int)), σ = [some (.ref lg), some (.int 3), some (.ref lf), u3, u4, none, u6, u7] ∧ H lf = none ∧ H' lf = some (.lst rv) ∧ All2 (RowV H') rv rows ∧ (∀ r ∈ rows, RowP gs k r) ∧ rows.length ≤ 7 ^ nInn (gs.take k) ∧ Same H H')
      ⟨_, _, _, _, lf, [.ref l0], [[]], rfl, s1.free hlf, e2, .cons ⟨l0, rfl, s2 _ _ e1⟩ .nil, (fun r hr => by rw [List.mem_singleton.mp hr]; exact ⟨rfl, fun g hg => absurd hg (Nat.not_lt_zero _), fun z hz => nomatch hz⟩), Nat.le_refl _, s1.trans s2⟩ (fun i σ H' _ ⟨_, _, _, _, _, _, _, _, _, _, _, _, _, sm⟩ => SqL.of (sm _ _ hgv)) ?_ ?_⟩
    · rintro k v σ H3 hv ⟨u3, u4, u6, u7, lf, rv, rows, rfl, hlf0, hlf3, al, hrows, hlen, sm⟩
      obtain ⟨g, hg, a, rfl, sq⟩ := ga.get hv
      have hk : k < gs.length := (List.getElem?_eq_some_iff.mp hg).1
      have hsuc := nInn_succ hg
      have hmono := nInn_take (gs := gs) (k := k + 1)
      have hkk := kindAt_get hg
      refine ⟨a, _, rfl, (TK.same sm).seq sq, rfl, _, _, rfl, _, _, rfl, rfl, ?_⟩
      have hal := al.1
      have hpw3 : 7 ^ nInn (gs.take k) ≤ 343 := Nat.pow_le_pow_right (n := 7) (by decide) (show nInn (gs.take k) ≤ 3 by have := nInn_take (gs := gs) (k := k); omega)
      by_cases hin : innP g.1 = true
      rotate_left
      · -- a port
        have hport : g.1 = "in" ∨ g.1 = "out" := by
          by_cases e1 : g.1 = "in"
          · exact .inl e1
          · by_cases e2 : g.1 = "out"
            · exact .inr e2
            · exfalso
              apply hin
              unfold innP
              rw [Bool.and_eq_true, bne_iff_ne, bne_iff_ne]
              exact ⟨e1, e2⟩
        rw [if_neg hin] at hsuc
        rcases hport with eg | eg
        refine ⟨_, rfl, rfl, true, congrArg V.bl (decide_eq_true (congrArg V.str eg)), iteT ?_⟩
        rotate_left
        refine ⟨_, rfl, rfl, false, congrArg V.bl (decide_eq_false fun z => absurd ((V.str.inj z).symm.trans eg) (by decide)), iteF ⟨_, rfl, rfl, true, congrArg V.bl (decide_eq_true (congrArg V.str eg)), iteT ?_⟩⟩
        all_goals
          refine ⟨_, rfl, lf, rfl, ⟨_, SqL.of hlf3⟩, fun D hD => ?_⟩
          refine lc_list (K := K) (a := lf) (xs := rv) (fun i Hc => ∃ av, Hc D = some (.lst av) ∧ All2 (RowD D Hc) av ((rows.take i).map fun r => r ++ [0]) ∧ Same H3 Hc) ⟨[], upd_same, .nil, same_new hD⟩ (fun i Hc _ ⟨_, _, _, sm⟩ => SqL.of (sm _ _ hlf3)) ?_ ?_
          · rintro i v Hc hv ⟨av, hc, al8, s8⟩
            obtain ⟨r, hr, b, rfl, hb⟩ := al.get hv
            have hi : i < rows.length := (List.getElem?_eq_some_iff.mp hr).1
            refine ⟨rfl, tyes ?_⟩
            refine ⟨_, rfl, (by show 1 ≤ sizeLine; decide), fun l2 hl2 => ?_⟩
            have t2 : Same Hc (upd Hc l2 (.lst [.int 0])) := same_new hl2
            have f2 : (upd Hc l2 (.lst [.int 0])) l2 = some (.lst (([0] : List Int).map V.int)) := upd_same
            generalize upd Hc l2 (.lst [.int 0]) = Hd at t2 f2
            have hkr := (hrows r (List.mem_of_getElem? hr)).len
            refine ⟨b, l2, _, _, rfl, rfl, (s8.trans t2) _ _ hb, f2, ?_, fun l3 hl3 => ?_⟩
            · rw [List.length_map, List.length_map]
              exact Nat.le_of_lt (small1000 (by rw [hkr]; show k + 1 ≤ 1000; omega))
            rw [← List.map_append]
            have t3 : Same Hd (upd Hd l3 (.lst ((r ++ [0]).map V.int))) := same_new hl3
            have f3 : (upd Hd l3 (.lst ((r ++ [0]).map V.int))) l3 = some (.lst ((r ++ [0]).map V.int)) := upd_same
            generalize upd Hd l3 (.lst ((r ++ [0]).map V.int)) = He at t3 f3
            have t23 := t2.trans t3
            have hcD := t23 _ _ hc
            have n3 : l3 ≠ D := fun e => by
              rw [← e] at hc
              rw [t2 _ _ hc] at hl3
              cases hl3
            refine ⟨av, hcD, ?_, av ++ [.ref l3], upd_same, ?_, same_mut (s8.trans t23) hD⟩
            · have := al8.1
              rw [List.length_map, List.length_take] at this
              exact small1000 (by omega)
            · rw [List.take_add_one, hr, List.map_append]
              exact All2.snoc (al8.imp fun _ _ r => RowD.mut (RowD.same t23 r)) (RowD.mut ⟨l3, rfl, f3, n3⟩)
          rintro H8 ⟨av, hc8, al8, s8⟩
          rw [hal, List.take_length] at al8
          refine gn_norm (σ' := [some (.ref lg), some (.int 3), some (.ref D), some (.str g.1), some (.int g.2), none, u6, u7]) rfl ?_
          refine ⟨_, _, _, _, D, av, _, rfl, sm.free hD, hc8, al8.imp fun _ _ r => r.row, fun r hr => ?_, ?_, sm.trans s8⟩
          · obtain ⟨r', hr', rfl⟩ := List.mem_map.mp hr
            exact (hrows r' hr').snoc (by decide) fun _ => rfl
          · rw [List.length_map, hsuc]
            exact hlen
      · -- an inner gate
        have hni : g.1 ≠ "in" ∧ g.1 ≠ "out" := by
          unfold innP at hin
          rw [Bool.and_eq_true, bne_iff_ne, bne_iff_ne] at hin
          exact hin
        rw [if_pos hin] at hsuc
        have hpw2 : 7 ^ nInn (gs.take k) ≤ 49 := Nat.pow_le_pow_right (n := 7) (by decide) (show nInn (gs.take k) ≤ 2 by omega)
        refine ⟨_, rfl, rfl, false, congrArg V.bl (decide_eq_false fun z => hni.1 (V.str.inj z)), iteF ⟨_, rfl, rfl, false, congrArg V.bl (decide_eq_false fun z => hni.2 (V.str.inj z)), iteF ?_⟩⟩
        refine ⟨(by show 0 ≤ sizeLine; decide), fun ln hln => ?_⟩
        have s6 : Same H3 (upd H3 ln (.lst [])) := same_new hln
        have e6 : (upd H3 ln (.lst [])) ln = some (.lst []) := upd_same
        obtain ⟨H6, hH6⟩ : ∃ H6, H6 = upd H3 ln (.lst []) := ⟨_, rfl⟩
        rw [← hH6] at s6 e6
        refine gn_normH (σ' := [some (.ref lg), some (.int 3), some (.ref lf), some (.str g.1), some (.int g.2), none, some (.ref ln), u7]) (H' := H6) rfl hH6.symm ?_
        have hlf6 := s6 _ _ hlf3
        have al6 := al.imp fun _ _ r => RowV.same s6 r
        refine ⟨_, rfl, _, _, rfl, rfl, _, rfl, _, _, rfl, rfl, _, _, rfl, (by decide), for_range (lo := -3) (n := 7) (fun j σ H' => ∃ (u7 : Option V) (ln : Addr) (lv : List V) (rows' : List (List Int)), σ = [some (.ref lg), some (.int 3), some (.ref lf), some (.str g.1), some (.int g.2), none, some (.ref ln), u7] ∧ H ln = none ∧ H' ln = some (.lst lv) ∧ All2 (RowV H') lv rows' ∧ (∀ r ∈ rows', RowP gs (k + 1) r) ∧ rows'.length = j * rows.length ∧ Same H6 H')
          ⟨_, ln, [], [], rfl, sm.free hln, e6, .nil, (fun r hr => nomatch hr), (Nat.zero_mul _).symm, Same.refl _⟩ ?_ ?_⟩
        · rintro j σ H7 hj ⟨u7, ln, lv, rows', rfl, hln0, hln7, al7, hr7, hl7, s7⟩
          generalize hcc : (-3 : Int) + (j : Nat) = c
          have hc3 : -3 ≤ c ∧ c ≤ 3 := by omega
          refine gn_norm (σ' := [some (.ref lg), some (.int 3), some (.ref lf), some (.str g.1), some (.int g.2), none, some (.ref ln), some (.int c)]) rfl ?_
          refine ⟨_, rfl, _, rfl, lf, rfl, ⟨_, SqL.of (s7 _ _ hlf6)⟩, fun D hD => ?_⟩
          refine lc_list (K := K) (a := lf) (xs := rv) (fun i Hc => ∃ av, Hc D = some (.lst av) ∧ All2 (RowD D Hc) av ((rows.take i).map fun r => r ++ [c]) ∧ Same H7 Hc) ⟨[], upd_same, .nil, same_new hD⟩ (fun i Hc _ ⟨_, _, _, sm⟩ => SqL.of (sm _ _ (s7 _ _ hlf6))) ?_ ?_
          · rintro i v Hc hv ⟨av, hc, al8, s8⟩
            obtain ⟨r, hr, b, rfl, hb⟩ := al6.get hv
            have hi : i < rows.length := (List.getElem?_eq_some_iff.mp hr).1
            refine ⟨rfl, tyes ?_⟩
            refine ⟨_, rfl, _, rfl, (by show 1 ≤ sizeLine; decide), fun l2 hl2 => ?_⟩
            have t2 : Same Hc (upd Hc l2 (.lst [.int c])) := same_new hl2
            have f2 : (upd Hc l2 (.lst [.int c])) l2 = some (.lst (([c] : List Int).map V.int)) := upd_same
            generalize upd Hc l2 (.lst [.int c]) = Hd at t2 f2
            have hkr := (hrows r (List.mem_of_getElem? hr)).len
            refine ⟨b, l2, _, _, rfl, rfl, (s7.trans (s8.trans t2)) _ _ hb, f2, ?_, fun l3 hl3 => ?_⟩
            · rw [List.length_map, List.length_map]
              exact Nat.le_of_lt (small1000 (by rw [hkr]; show k + 1 ≤ 1000; omega))
            rw [← List.map_append]
            have t3 : Same Hd (upd Hd l3 (.lst ((r ++ [c]).map V.int))) := same_new hl3
            have f3 : (upd Hd l3 (.lst ((r ++ [c]).map V.int))) l3 = some (.lst ((r ++ [c]).map V.int)) := upd_same
            generalize upd Hd l3 (.lst ((r ++ [c]).map V.int)) = He at t3 f3
            have t23 := t2.trans t3
            have hcD := t23 _ _ hc
            have n3 : l3 ≠ D := fun e => by
              rw [← e] at hc
              rw [t2 _ _ hc] at hl3
              cases hl3
            refine ⟨av, hcD, ?_, av ++ [.ref l3], upd_same, ?_, same_mut (s8.trans t23) hD⟩
            · have := al8.1
              rw [List.length_map, List.length_take] at this
              exact small1000 (by omega)
            · rw [List.take_add_one, hr, List.map_append]
              exact All2.snoc (al8.imp fun _ _ r => RowD.mut (RowD.same t23 r)) (RowD.mut ⟨l3, rfl, f3, n3⟩)
          rintro H8 ⟨av, hc8, al8, s8⟩
          rw [hal, List.take_length] at al8
          have hav := al8.1
          rw [List.length_map] at hav
          have hlv := al7.1
          have hjc : (j + 1) * rows.length ≤ 7 * 49 := Nat.mul_le_mul (by omega) (by omega)
          rw [Nat.succ_mul] at hjc
          refine ⟨ln, D, _, _, rfl, rfl, s8 _ _ hln7, hc8, ?_, fun l5 hl5 => ?_⟩
          · have : lv.length + av.length ≤ 343 := by omega
            exact Nat.le_trans this (by decide)
          refine gn_norm (σ' := [some (.ref lg), some (.int 3), some (.ref lf), some (.str g.1), some (.int g.2), none, some (.ref l5), some (.int c)]) rfl ?_
          have t5 : Same H8 (upd H8 l5 (.lst (lv ++ av))) := same_new hl5
          refine ⟨_, l5, lv ++ av, rows' ++ rows.map fun r => r ++ [c], rfl, (sm.trans (s6.trans (s7.trans s8))).free hl5, upd_same, ?_, ?_, ?_, s7.trans (s8.trans t5)⟩
          · exact all2_app' (al7.imp fun _ _ r => RowV.same (s8.trans t5) r) (al8.imp fun _ _ r => RowV.same t5 r.row)
          · intro r' hr'
            rcases List.mem_append.mp hr' with h | h
            · exact hr7 r' h
            · obtain ⟨r, hr, rfl⟩ := List.mem_map.mp h
              refine (hrows r hr).snoc hc3 fun hp => ?_
              rw [hkk] at hp
              rcases hp with hp | hp
              · exact absurd hp hni.1
              · exact absurd hp hni.2
          · rw [List.length_append, List.length_map, hl7, Nat.succ_mul]
        · rintro σ H7 ⟨u7, ln, lv, rows', rfl, hln0, hln7, al7, hr7, hl7, s7⟩
          refine ⟨_, rfl, ?_⟩
          refine gn_norm (σ' := [some (.ref lg), some (.int 3), some (.ref ln), some (.str g.1), some (.int g.2), none, some (.ref ln), u7]) rfl ?_
          refine ⟨_, _, _, _, ln, lv, rows', rfl, hln0, hln7, al7, hr7, ?_, sm.trans (s6.trans s7)⟩
          rw [hl7, hsuc, Nat.pow_succ, Nat.mul_comm]
          exact Nat.mul_le_mul hlen (Nat.le_refl _)
    · rintro σ H3 ⟨u3, u4, u6, u7, lf, rv, rows, rfl, hlf0, hlf3, al, hrows, hlen, sm⟩
      rw [hlg] at hrows hlen
      have : 7 ^ nInn (gs.take gs.length) ≤ 343 := Nat.pow_le_pow_right (n := 7) (by decide) (show nInn (gs.take gs.length) ≤ 3 by have := nInn_take (gs := gs) (k := gs.length); omega)
      exact ⟨_, rfl, q lf rv rows H3 sm hlf0 hlf3 al hrows (by omega)⟩
end
end Lag

set_option maxRecDepth 100000
set_option maxHeartbeats 8000000
namespace Lag
open PySem PySem.Spec PyProof.Rows L2
abbrev sLPiece : Stmt := topS 86 -- @_law_piece
abbrev sLBound : Stmt := topS 87 -- @_law_bound
theorem room_of' {gs : List Gt} {ws : List Wr} {b : Int} {pc : Pce} : roomF gs ws b pc = prg ws pc.2 - (if decide (b < pwt gs ws pc.1 pc.2) = true then 1 else 0) := by
  unfold roomF
  by_cases h : b < pwt gs ws pc.1 pc.2
  · rw [if_pos h, if_pos (decide_eq_true h)]
  · rw [if_neg h, if_neg (by rw [decide_eq_false h]; exact Bool.false_ne_true), Int.sub_zero]
/-- the wires that begin at a gate, and those that end there -/
def outN (ws : List Wr) (g : Nat) : Nat := (ws.filter fun x => x.1 == g).length
def inN (ws : List Wr) (g : Nat) : Nat := (ws.filter fun x => x.2.1 == g).length
theorem outN_succ {ws : List Wr} {k i : Nat} {x : Wr} (hx : ws[k]? = some x) : outN (ws.take (k + 1)) i = outN (ws.take k) i + if x.1 = i then 1 else 0 := by
  unfold outN
  rw [List.take_add_one, hx, List.filter_append, List.length_append]
  congr 1
  by_cases h : x.1 = i <;> simp [h]
theorem inN_succ {ws : List Wr} {k i : Nat} {x : Wr} (hx : ws[k]? = some x) : inN (ws.take (k + 1)) i = inN (ws.take k) i + if x.2.1 = i then 1 else 0 := by
  unfold inN
  rw [List.take_add_one, hx, List.filter_append, List.length_append]
  congr 1
  by_cases h : x.2.1 = i <;> simp [h]
theorem outN_le (ws : List Wr) (k i : Nat) : outN (ws.take k) i ≤ k := by
  have := List.length_filter_le (fun x : Wr => x.1 == i) (ws.take k)
  rw [List.length_take] at this
  unfold outN
  omega
theorem inN_le (ws : List Wr) (k i : Nat) : inN (ws.take k) i ≤ k := by
  have := List.length_filter_le (fun x : Wr => x.2.1 == i) (ws.take k)
  rw [List.length_take] at this
  unfold inN
  omega
theorem wdl_out (ws : List Wr) (g : Nat) : wdl (dl g) ws = (outN ws g : Int) - (inN ws g : Int) := by
  induction ws with
  | nil => rfl
  | cons x r ih =>
    rw [wdl_cons, ih]
    unfold outN inN dl
    rw [List.filter_cons, List.filter_cons]
    by_cases h1 : x.1 = g
    · rw [if_pos h1, if_pos (beq_iff_eq.mpr h1), List.length_cons]
      by_cases h2 : x.2.1 = g
      · rw [if_pos h2, if_pos (beq_iff_eq.mpr h2), List.length_cons]
        omega
      · rw [if_neg h2, if_neg (fun z => h2 (beq_iff_eq.mp z))]
        omega
    · rw [if_neg h1, if_neg (fun z => h1 (beq_iff_eq.mp z))]
      by_cases h2 : x.2.1 = g
      · rw [if_pos h2, if_pos (beq_iff_eq.mpr h2), List.length_cons]
        omega
      · rw [if_neg h2, if_neg (fun z => h2 (beq_iff_eq.mp z))]
        omega
def spLPiece (K : PySem.W.Frag) : Sp := fun vs H Q _ => ∃ (lg lw : Addr) (v : V) (gs : List Gt) (ws : List Wr) (pc : Pce) (b : Int), vs = [.ref lg, .ref lw, v, .int b] ∧ LG K H lg gs ∧ LW K H lw ws ∧ NetOk gs ws ∧ PceV K H v pc ∧ PceOk gs ws pc ∧
  ∀ t H', Same H H' → H t = none → H' t = some (.tup [.int (endW ws pc.1 pc.2 : Nat), .int (roomF gs ws b pc)]) → Q (.ref t) H'
def spLBound (K : PySem.W.Frag) : Sp := fun vs H Q _ => ∃ (lg lw lp : Addr) (gs : List Gt) (ws : List Wr) (b : Int) (ev : List V) (es : List Ent), vs = [.ref lg, .ref lw, .ref lp, .int b] ∧ LG K H lg gs ∧ LW K H lw ws ∧ NetOk gs ws ∧ SqL K H lp ev ∧ All2 (EntV K H) ev es ∧ (∀ e ∈ es, EntOk gs ws e) ∧ es.length ≤ 11000 ∧ Bal gs ws es ∧ ∀ H', Same H H' → Q (.int (regsum ws - psum (roomF gs ws b) es)) H'
section
variable {P : Program} {w : World} {K : PySem.W.Frag} {mg : Str → Option Value} {base : Heap}
abbrev nLPiece : List Str := ["_law_gates_here", "_law_wires_here", "_law_piece_here", "_law_most", "_law_here", "_law_wait", "_law_many", "_law_place"]
theorem scLPiece : FnScope nLPiece ["_law_gates_here", "_law_wires_here", "_law_piece_here", "_law_most"] (defScope sLPiece) := ⟨rfl, rfl, rfl, by decide +kernel, rfl, by decide +kernel, by decide +kernel⟩
abbrev DLPiece (P : Program) (w : World) (K : PySem.W.Frag) (mg : Str → Option Value) (base : Heap) := Df P w K mg base 1 "_law_piece" ["_law_gates_here", "_law_wires_here", "_law_piece_here", "_law_most"] (spLPiece K)
theorem ok_lpiece {f : Addr} {fd : FuncData} (F : Fun K "_law_piece" "_law_piece" sLPiece f fd) (hm : mg "_law_piece" = some (.ref f)) (B : Bt mg) : DLPiece P w K mg base f fd := by
  refine ⟨?_, hm, F.kp, F.binds fun _ _ _ _ _ _ us hl => match us, hl with | [_, _, _, _], _ => rfl⟩
  refine F.ok scLPiece (fun vs H Q E h => ?_) (fun cdv A outer s H vs Q E hr h => ?_)
  · obtain ⟨lg, lw, v, gs, ws, pc, b, rfl, _⟩ := h
    rfl
  · obtain ⟨lg, lw, v, gs, ws, pc, b, rfl, G, W, N, pcv, pok, q⟩ := h
    have nd := scLPiece.nd
    refine ⟨_, pss_cons (ps_set (i := 4) nd rfl (.inl rfl) (pe_ix ix_tup (pv 2) pe_int (fun _ _ => rfl))) <|
        pss_cons (ps_set (i := 5) nd rfl (.inl rfl) (pe_ix ix_tup (pe_ix ix_list (pv 0) (pv 4) (fun _ _ => rfl)) pe_int (fun _ _ => rfl))) <|
        pss_cons (ps_set (i := 6) nd rfl (.inl rfl) pe_int) <|
        pss_cons (ps_for PassesOwn.never rfl (pi_list (pe_ix ix_tup (pv 2) pe_int (fun _ _ => rfl))) (pg_name (i := 7) nd rfl (.inl rfl)) (pss_cons (ps_if (pt_cmpR op_ne (pe_ix ix_tup (pe_ix ix_list (pv 1) (pv 7) (fun _ _ => rfl)) pe_int (fun _ _ => rfl)) (pv 4) (nomark _)) (pss_one (ps_ret pe_non)) pss_nil) <|
        pss_cons (ps_set (i := 4) nd rfl (.inl rfl) (pe_ix ix_tup (pe_ix ix_list (pv 1) (pv 7) (fun _ _ => rfl)) pe_int (fun _ _ => rfl))) <|
        pss_cons (ps_set (i := 5) nd rfl (.inl rfl) (pe_op op_add (pv 5) (pe_ix ix_tup (pe_ix ix_list (pv 0) (pv 4) (fun _ _ => rfl)) pe_int (fun _ _ => rfl)))) <|
        pss_one (ps_set (i := 6) nd rfl (.inl rfl) (pe_op op_add (pv 6) (pe_callB call_len_seq (by rfl) B.len PySem.boot_len (pa_cons (pe_ix ix_tup (pe_ix ix_list (pv 1) (pv 7) (fun _ _ => rfl)) pe_int (fun _ _ => rfl)) pa_nil)))))) <|
        pss_one (ps_ret (pe_tup (pa_cons (pv 4) (pa_cons (pe_op op_sub (pv 6) (pe_callTy call_int1 (by rfl) B.int (by decide +kernel) (pa_cons (pe_cmpR op_gt (pv 5) (pv 3) (nomark _)) pa_nil))) pa_nil)))), ?_⟩
    obtain ⟨gv, hgv, ga⟩ := id G
    obtain ⟨wv, hwv, wa⟩ := id W
    have hlg : gv.length = gs.length := ga.1
    have hlw : wv.length = ws.length := wa.1
    have hgl := N.gl
    have hwl := N.wl
    obtain ⟨a, l, rfl, sq, sl⟩ := id pcv
    obtain ⟨hst, e, hp⟩ := pok
    refine ⟨_, rfl, a, _, 0, _, rfl, rfl, sq, atI_nat (j := 0) rfl, ?_⟩
    refine gn_norm (σ' := [some (.ref lg), some (.ref lw), some (.ref a), some (.int b), some (.int (pc.1 : Nat)), none, none, none]) rfl ?_
    obtain ⟨_, hgs, ag, rfl, sqg⟩ := ga.getR (List.getElem?_eq_getElem hst)
    have egs : (gs[pc.1]'hst).2 = gw gs pc.1 := (gw_get (List.getElem?_eq_getElem hst)).symm
    rw [egs] at sqg
    refine ⟨_, rfl, _, rfl, lg, gv, pc.1, _, rfl, rfl, SqL.of hgv, atI_nat hgs, ag, _, 1, _, rfl, rfl, sqg, atI_nat (j := 1) rfl, ?_⟩
    refine gn_norm (σ' := [some (.ref lg), some (.ref lw), some (.ref a), some (.int b), some (.int (pc.1 : Nat)), some (.int (gw gs pc.1)), none, none]) rfl ?_
    refine ⟨_, rfl, a, _, 1, _, rfl, rfl, sq, atI_nat (j := 1) rfl, l, rfl, ⟨_, sl⟩, for_list (K := K) (a := l) (xs := nvs pc.2) (fun i σ H' => ∃ (g : Nat) (u7 : Option V), σ = [some (.ref lg), some (.ref lw), some (.ref a), some (.int b), some (.int (g : Nat)), some (.int (pwt gs ws pc.1 (pc.2.take i))), some (.int (prg ws (pc.2.take i))), u7] ∧ Pw ws pc.1 (pc.2.take i) g ∧ Same H H') ⟨pc.1, _, by
        have e1 : pwt gs ws pc.1 (pc.2.take 0) = gw gs pc.1 := Int.add_zero _
        have e2 : prg ws (pc.2.take 0) = 0 := rfl
        rw [e1, e2]
        rfl, rfl, Same.refl H⟩ (fun i σ H2 _ ⟨_, _, _, _, sm⟩ => sm.seq sl) ?_ ?_⟩
    · rintro i v σ H1 hv ⟨g, u7, rfl, hpw, sm⟩
      obtain ⟨k, hk, rfl⟩ := nvs_of hv
      have hkw := hp.places k (List.mem_of_getElem? hk)
      have hx := List.getElem?_eq_getElem hkw
      generalize ws[k]'hkw = x at hx
      have WX := N.wok x (List.mem_of_getElem? hx)
      obtain ⟨_, hv', b1, b2, rfl, s1, s2⟩ := wa.getR hx
      obtain ⟨hil, hke⟩ := List.getElem?_eq_some_iff.mp hk
      have es : pc.2 = pc.2.take i ++ k :: pc.2.drop (i + 1) := by
        rw [← hke, List.getElem_cons_drop hil, List.take_append_drop]
      have hgx : x.1 = g := by
        rw [es] at hp
        obtain ⟨m, h1, x', hx', hs, _⟩ := hp.split
        rw [hx] at hx'
        cases hx'
        rw [hs]
        exact h1.fn hpw
      have tk := TK.same sm
      obtain ⟨_, hge, ae, rfl, sqe⟩ := ga.getR (List.getElem?_eq_getElem WX.e)
      have ege : (gs[x.2.1]'WX.e).2 = gw gs x.2.1 := (gw_get (List.getElem?_eq_getElem WX.e)).symm
      rw [ege] at sqe
      refine gn_norm (σ' := [some (.ref lg), some (.ref lw), some (.ref a), some (.int b), some (.int (g : Nat)), some (.int (pwt gs ws pc.1 (pc.2.take i))), some (.int (prg ws (pc.2.take i))), some (.int (k : Nat))]) rfl ?_
      refine ⟨_, rfl, _, rfl, lw, _, k, _, rfl, rfl, SqL.of (sm _ _ hwv), atI_nat hv', b1, _, 0, _, rfl, rfl, tk.seq s1, atI_nat (j := 0) rfl, _, rfl, rfl, false, ?_, iteF ?_⟩
      · rw [hgx, decide_eq_true rfl]
        rfl
      refine ⟨_, rfl, _, rfl, lw, _, k, _, rfl, rfl, SqL.of (sm _ _ hwv), atI_nat hv', b1, _, 1, _, rfl, rfl, tk.seq s1, atI_nat (j := 1) rfl, ?_⟩
      refine gn_norm (σ' := [some (.ref lg), some (.ref lw), some (.ref a), some (.int b), some (.int (x.2.1 : Nat)), some (.int (pwt gs ws pc.1 (pc.2.take i))), some (.int (prg ws (pc.2.take i))), some (.int (k : Nat))]) rfl ?_
      refine ⟨_, rfl, _, rfl, _, rfl, lg, gv, x.2.1, _, rfl, rfl, SqL.of (sm _ _ hgv), atI_nat hge, ae, _, 1, _, rfl, rfl, tk.seq sqe, atI_nat (j := 1) rfl, _, _, rfl, rfl, ?_⟩
      refine gn_norm (σ' := [some (.ref lg), some (.ref lw), some (.ref a), some (.int b), some (.int (x.2.1 : Nat)), some (.int (pwt gs ws pc.1 (pc.2.take i) + gw gs x.2.1)), some (.int (prg ws (pc.2.take i))), some (.int (k : Nat))]) rfl ?_
      refine ⟨_, rfl, _, rfl, _, rfl, lw, _, k, _, rfl, rfl, SqL.of (sm _ _ hwv), atI_nat hv', b1, _, 2, _, rfl, rfl, tk.seq s1, atI_nat (j := 2) rfl, b2, _, rfl, .inr (tk.seq s2), _, _, rfl, rfl, ?_⟩
      refine ⟨x.2.1, some (.int (k : Nat)), ?_, ?_, sm⟩
      · rw [List.take_add_one, hk]
        show _ = [_, _, _, _, _, some (V.int (pwt gs ws pc.1 (pc.2.take i ++ [k]))), some (V.int (prg ws (pc.2.take i ++ [k]))), _]
        have e1 : pwt gs ws pc.1 (pc.2.take i ++ [k]) = pwt gs ws pc.1 (pc.2.take i) + gw gs x.2.1 := by
          unfold pwt
          rw [pws_snoc hx]
          omega
        rw [e1, prg_snoc hx, List.length_map]
        rfl
      · rw [List.take_add_one, hk]
        exact hpw.snoc hx hgx
    · rintro σ H1 ⟨g, u7, rfl, hpw, sm⟩
      rw [nvs_len, List.take_length] at hpw ⊢
      have eg := endW_of hpw
      refine ⟨_, rfl, _, rfl, _, rfl, _, rfl, _, _, rfl, rfl, .inr ⟨_, rfl, _, _, rfl, rfl, (by show 2 ≤ sizeLine; decide), fun t ht => ?_⟩⟩
      refine q t _ (sm.trans (same_new ht)) (sm.free ht) ?_
      rw [upd_same, eg, room_of']
abbrev nLBound : List Str := ["_law_gates_here", "_law_wires_here", "_law_paper", "_law_most", "_law_start", "_law_end", "_law_stock", "_law_total", "_law_more", "_law_piece_here", "_law_many", "_law_found", "_law_space", "_law_gate", "_law_wire", "_law_out"]
theorem scLBound : FnScope nLBound ["_law_gates_here", "_law_wires_here", "_law_paper", "_law_most"] (defScope sLBound) := ⟨rfl, rfl, rfl, by decide +kernel, rfl, by decide +kernel, by decide +kernel⟩
abbrev DLBound (P : Program) (w : World) (K : PySem.W.Frag) (mg : Str → Option Value) (base : Heap) := Df P w K mg base 2 "_law_bound" ["_law_gates_here", "_law_wires_here", "_law_paper", "_law_most"] (spLBound K)
theorem ok_lbound {f fI : Addr} {fd fdI : FuncData} (F : Fun K "_law_bound" "_law_bound" sLBound f fd) (hm : mg "_law_bound" = some (.ref f)) (B : Bt mg) (ms : mg "sum" = none) (DPi : DLPiece P w K mg base fI fdI) : DLBound P w K mg base f fd := by
  refine ⟨?_, hm, F.kp, F.binds fun _ _ _ _ _ _ us hl => match us, hl with | [_, _, _, _], _ => rfl⟩
  refine F.ok scLBound (fun vs H Q E h => ?_) (fun cdv A outer s H vs Q E hr h => ?_)
  · obtain ⟨lg, lw, lp, gs, ws, b, ev, es, rfl, _⟩ := h
    rfl
  · obtain ⟨lg, lw, lp, gs, ws, b, ev, es, rfl, G, W, N, hlp, al, eok, hel, bal, q⟩ := h
    have nd := scLBound.nd
    refine ⟨_, pss_cons (ps_set (i := 7) nd rfl (.inl rfl) (pe_callB (cr_sum rfl) (by rfl) ms (by decide +kernel) (pa_cons (pe_lc (own := [("_law_start", 4), ("_law_end", 5), ("_law_stock", 6)]) (g := (gTup K 3 (gCons (gName 4) (gCons (gName 5) (gCons (gName 6) gNil))))) (tt := tYes) (te := (tCB (Evl.rLenS K) (tCons (tVar 6) tNil))) rfl nd (pi_list (pv 1)) (blkOk_by (N := nLBound) (sc := defScope sLBound) (own := [("_law_start", 4), ("_law_end", 5), ("_law_stock", 6)]) (by decide +kernel)) (fun _ _ _ _ _ => (pg_tup rfl (pgs_cons (pg_name (i := 4) nd rfl (.inl rfl)) (pgs_cons (pg_name (i := 5) nd rfl (.inl rfl)) (pgs_cons (pg_name (i := 6) nd rfl (.inl rfl)) pgs_nil))))) (fun _ _ _ _ _ => pts_nil) (fun _ _ _ _ _ => (pe_callB call_len_seq (by rfl) B.len PySem.boot_len (pa_cons (pv 6) pa_nil)))) pa_nil))) <|
        pss_cons (ps_set (i := 8) nd rfl (.inl rfl) (pe_op op_rep (pe_lst (pa_cons pe_int pa_nil)) (pe_callB call_len_seq (by rfl) B.len PySem.boot_len (pa_cons (pv 0) pa_nil)))) <|
        pss_cons (ps_for PassesOwn.never rfl (pi_list (pv 2)) (pg_tup rfl (pgs_cons (pg_name (i := 9) nd rfl (.inl rfl)) (pgs_cons (pg_name (i := 10) nd rfl (.inl rfl)) pgs_nil))) (pss_cons (ps_set (i := 11) nd rfl (.inl rfl) (pe_call DPi.ok (hr.mono (by decide)) (by rfl) DPi.mg DPi.kp DPi.bd .nil pass0 (pa_cons (pv 0) (pa_cons (pv 1) (pa_cons (pv 9) (pa_cons (pv 3) pa_nil)))))) <|
        pss_cons (ps_if (PW.pt (pw_or (pt_cmpR op_isN (pv 11) pe_non (nomark _)) (pw_or1 (pt_cmpR op_lt (pv 10) pe_int (nomark _))))) (pss_one (ps_ret pe_non)) pss_nil) <|
        pss_cons (ps_asg (pv 11) (pg_tup rfl (pgs_cons (pg_name (i := 5) nd rfl (.inl rfl)) (pgs_cons (pg_name (i := 12) nd rfl (.inl rfl)) pgs_nil)))) <|
        pss_cons (ps_asg (pe_op op_add (pe_ix ix_list (pv 8) (pe_ix ix_tup (pv 9) pe_int (fun _ _ => rfl)) (fun _ _ => rfl)) (pv 10)) (pg_sub (pv 8) (pe_ix ix_tup (pv 9) pe_int (fun _ _ => rfl)) set_list)) <|
        pss_cons (ps_asg (pe_op op_sub (pe_ix ix_list (pv 8) (pv 5) (fun _ _ => rfl)) (pv 10)) (pg_sub (pv 8) (pv 5) set_list)) <|
        pss_one (ps_set (i := 7) nd rfl (.inl rfl) (pe_op op_sub (pv 7) (pe_op op_mul (pv 12) (pv 10)))))) <|
        pss_cons (ps_for PassesOwn.never rfl (pi_range1 (by rfl) B.range (pa_cons (pe_callB call_len_seq (by rfl) B.len PySem.boot_len (pa_cons (pv 0) pa_nil)) pa_nil)) (pg_name (i := 13) nd rfl (.inr rfl)) (pss_cons (ps_set (i := 15) nd rfl (.inl rfl) (pe_op op_sub (pe_callB call_len_seq (by rfl) B.len PySem.boot_len (pa_cons (pe_lc (own := [("_law_wire", 14)]) (g := (gName 14)) (tt := (tTest (tOp rEq (tOp (rIxT K) (tVar 14) (tC (.int 0))) (tVar 13)))) (te := (tC (.int 1))) rfl nd (pi_list (pv 1)) (blkOk_by (N := nLBound) (sc := defScope sLBound) (own := [("_law_wire", 14)]) (by decide +kernel)) (fun _ _ _ _ _ => (pg_name (i := 14) nd rfl (.inl rfl))) (fun _ _ _ _ _ => pts_one (pt_cmpR op_eq (pe_ix ix_tup (pv 14) pe_int (fun _ _ => rfl)) (pv 13) (nomark _))) (fun _ _ _ _ _ => pe_int)) pa_nil)) (pe_callB call_len_seq (by rfl) B.len PySem.boot_len (pa_cons (pe_lc (own := [("_law_wire", 14)]) (g := (gName 14)) (tt := (tTest (tOp rEq (tOp (rIxT K) (tVar 14) (tC (.int 1))) (tVar 13)))) (te := (tC (.int 1))) rfl nd (pi_list (pv 1)) (blkOk_by (N := nLBound) (sc := defScope sLBound) (own := [("_law_wire", 14)]) (by decide +kernel)) (fun _ _ _ _ _ => (pg_name (i := 14) nd rfl (.inl rfl))) (fun _ _ _ _ _ => pts_one (pt_cmpR op_eq (pe_ix ix_tup (pv 14) pe_int (fun _ _ => rfl)) (pv 13) (nomark _))) (fun _ _ _ _ _ => pe_int)) pa_nil)))) <|
        pss_one (ps_if (PW.pt (pw_and (pt_cmpR op_notIn_seq (pe_ix ix_tup (pe_ix ix_list (pv 0) (pv 13) (fun _ _ => rfl)) pe_int (fun _ _ => rfl)) (pe_lst (pa_cons pe_str (pa_cons pe_str pa_nil))) (by rfl)) (pw_and1 (pt_cmpR op_ne (pe_ix ix_list (pv 8) (pv 13) (fun _ _ => rfl)) (pv 15) (nomark _))))) (pss_one (ps_ret pe_non)) pss_nil))) <|
        pss_one (ps_ret (pv 7)), ?_⟩
    obtain ⟨gv, hgv, ga⟩ := id G
    obtain ⟨wv, hwv, wa⟩ := id W
    have hlg : gv.length = gs.length := ga.1
    have hlw : wv.length = ws.length := wa.1
    have hgl := N.gl
    have hwl := N.wl
    have hev : ev.length = es.length := al.1
    refine ⟨_, rfl, lw, rfl, ⟨_, SqL.of hwv⟩, fun D hD => ?_⟩
    refine lc_list (K := K) (a := lw) (xs := wv) (fun i Hc => Hc D = some (.lst (((ws.take i).map fun x => ((x.2.2.length : Nat) : Int)).map V.int)) ∧ Same H Hc) ⟨upd_same, same_new hD⟩ (fun i Hc _ ⟨_, sm⟩ => SqL.of (sm _ _ hwv)) ?_ ?_
    · rintro i v Hc hv ⟨hc, sm⟩
      obtain ⟨x, hx, a, b2, rfl, sq1, sq2⟩ := wa.get hv
      have hi : i < ws.length := (List.getElem?_eq_some_iff.mp hx).1
      have tk := TK.same sm
      refine ⟨a, _, rfl, tk.seq sq1, rfl, _, _, rfl, _, _, rfl, _, _, rfl, rfl, rfl, tyes ?_⟩
      refine ⟨_, rfl, b2, _, rfl, .inr (tk.seq sq2), _, hc, ?_, ?_, same_mut sm hD⟩
      · rw [List.length_map, List.length_map, List.length_take]
        exact small1000 (by omega)
      · rw [upd_same, List.take_add_one, hx, List.map_append, List.map_append, List.length_map]
        rfl
    rintro H1 ⟨h1, s1⟩
    rw [hlw, List.take_length] at h1
    refine ⟨D, _, rfl, SqL.of h1, ?_⟩
    obtain ⟨R0, hR0⟩ : ∃ R0, R0 = regsum ws := ⟨_, rfl⟩
    refine gn_norm (σ' := [some (.ref lg), some (.ref lw), some (.ref lp), some (.int b), none, none, none, some (.int R0), none, none, none, none, none, none, none, none]) (by rw [hR0]; rfl) ?_
    refine ⟨(by show 1 ≤ sizeLine; decide), fun l0 hl0 => ?_⟩
    have s2 : Same H1 (upd H1 l0 (.lst [.int 0])) := same_new hl0
    have e2 : (upd H1 l0 (.lst [.int 0])) l0 = some (.lst [.int 0]) := upd_same
    obtain ⟨H2, hH2⟩ : ∃ H2, H2 = upd H1 l0 (.lst [.int 0]) := ⟨_, rfl⟩
    rw [← hH2] at s2 e2
    rw [← hH2]
    have s12 := s1.trans s2
    refine ⟨_, rfl, lg, gv, rfl, .inl (SqL.of (s12 _ _ hgv)), l0, _, [.int 0], rfl, rfl, e2, by omega, by omega, ?_, fun lm hlm => ?_⟩
    · have : 1 * ((gv.length : Nat) : Int).toNat ≤ sizeLine := Nat.le_of_lt (small1000 (by omega))
      exact this
    rw [Int.toNat_natCast, hlg, rep0]
    have s3 : Same H2 (upd H2 lm (.lst ((List.replicate gs.length (0 : Int)).map V.int))) := same_new hlm
    have e3 : (upd H2 lm (.lst ((List.replicate gs.length (0 : Int)).map V.int))) lm = some (.lst ((List.replicate gs.length (0 : Int)).map V.int)) := upd_same
    obtain ⟨H3, hH3⟩ : ∃ H3, H3 = upd H2 lm (.lst ((List.replicate gs.length (0 : Int)).map V.int)) := ⟨_, rfl⟩
    rw [← hH3] at s3 e3
    refine gn_normH (σ' := [some (.ref lg), some (.ref lw), some (.ref lp), some (.int b), none, none, none, some (.int R0), some (.ref lm), none, none, none, none, none, none, none]) (H' := H3) rfl hH3.symm ?_
    have s03 := s12.trans s3
    have hlm0 : H lm = none := s12.free hlm
    have ini : ∀ g, (List.replicate gs.length (0 : Int)).getD g 0 = 0 := fun g => by
      rw [List.getD_eq_getElem?_getD, List.getElem?_replicate]
      split <;> rfl
    refine ⟨_, rfl, lp, rfl, ⟨_, s03.seq hlp⟩, for_list (K := K) (a := lp) (xs := ev) (fun i σ H' => ∃ (u5 u9 u10 u11 u12 : Option V) (ms : List Int), σ = [some (.ref lg), some (.ref lw), some (.ref lp), some (.int b), none, u5, none, some (.int (R0 - psum (roomF gs ws b) (es.take i))), some (.ref lm), u9, u10, u11, u12, none, none, none] ∧ H' lm = some (.lst (ms.map V.int)) ∧ ms.length = gs.length ∧ (∀ g, ms.getD g 0 = psum (dlP ws g) (es.take i)) ∧ Same H H')
      ⟨_, _, _, _, _, _, by rw [show psum (roomF gs ws b) (es.take 0) = 0 from rfl, Int.sub_zero], e3, List.length_replicate, (fun g => by rw [ini g]; rfl), s03⟩ (fun i σ H' _ ⟨_, _, _, _, _, _, _, _, _, _, sm⟩ => sm.seq hlp) ?_ ?_⟩
    · rintro i v σ H6 hv ⟨u5, u9, u10, u11, u12, ms, rfl, hms, hml, hmg, sm⟩
      obtain ⟨e, he, a, pv', rfl, sq, pcv⟩ := al.get hv
      obtain ⟨k1, k2, k3⟩ := eok e (List.mem_of_getElem? he)
      obtain ⟨h1s, z1, h1p⟩ := id k1
      have h1e : endW ws e.1.1 e.1.2 < gs.length := by
        rw [endW_of h1p]
        exact h1p.lt N h1s
      refine ⟨a, _, rfl, (TK.same sm).seq sq, rfl, _, _, rfl, _, _, rfl, rfl, ?_⟩
      refine ⟨_, rfl, _, rfl, _, rfl, _, rfl, lg, lw, _, gs, ws, e.1, b, rfl, G.same' sm, W.same' sm, N, pcv.same sm, k1, fun tp H7 s7 htp etp => ?_⟩
      refine gn_norm (σ' := [some (.ref lg), some (.ref lw), some (.ref lp), some (.int b), none, u5, none, some (.int (R0 - psum (roomF gs ws b) (es.take i))), some (.ref lm), some pv', some (.int e.2), some (.ref tp), u12, none, none, none]) rfl ?_
      have sm7 := sm.trans s7
      have hms7 := s7 _ _ hms
      obtain ⟨ap, lpp, epp, sqp, slp⟩ := id (pcv.same sm7)
      subst epp
      refine ⟨_, rfl, rfl, false, rfl, iteF ⟨_, rfl, _, _, rfl, rfl, false, congrArg V.bl (decide_eq_false (by omega)), iteF ?_⟩⟩
      refine ⟨_, rfl, tp, _, rfl, .inl (.inl etp), rfl, _, _, rfl, _, _, rfl, rfl, ?_⟩
      refine ⟨_, rfl, _, rfl, ap, _, 0, _, rfl, rfl, sqp, atI_nat (j := 0) rfl, lm, _, e.1.1, _, rfl, rfl, SqL.of hms7, atI_nat (sgetD_at (by omega)), _, rfl, _, _, rfl, rfl, _, rfl, _, rfl, ap, _, 0, _, rfl, rfl, sqp, atI_nat (j := 0) rfl, lm, _, _, e.1.1, rfl, rfl, hms7, Evl.ixN_nat (by rw [List.length_map]; omega), ?_⟩
      have s9 : Same H (upd H7 lm (.lst ((ms.map V.int).set e.1.1 (.int (ms.getD e.1.1 0 + e.2))))) := same_mut sm7 hlm0
      have e9 : (upd H7 lm (.lst ((ms.map V.int).set e.1.1 (.int (ms.getD e.1.1 0 + e.2))))) lm = some (.lst ((ms.set e.1.1 (ms.getD e.1.1 0 + e.2)).map V.int)) := by rw [upd_same, List.map_set]
      have h9 := fun g => getD_add (ms := ms) (i := e.1.1) (g := g) (d := e.2) (by omega)
      have l9 : (ms.set e.1.1 (ms.getD e.1.1 0 + e.2)).length = gs.length := by rw [List.length_set]; exact hml
      generalize upd H7 lm (.lst ((ms.map V.int).set e.1.1 (.int (ms.getD e.1.1 0 + e.2)))) = H9 at s9 e9
      generalize ms.set e.1.1 (ms.getD e.1.1 0 + e.2) = ms1 at e9 h9 l9
      refine ⟨_, rfl, _, rfl, lm, _, endW ws e.1.1 e.1.2, _, rfl, rfl, SqL.of e9, atI_nat (sgetD_at (by omega)), _, rfl, _, _, rfl, rfl, _, rfl, _, rfl, lm, _, _, endW ws e.1.1 e.1.2, rfl, rfl, e9, Evl.ixN_nat (by rw [List.length_map]; omega), ?_⟩
      have s10 : Same H (upd H9 lm (.lst ((ms1.map V.int).set (endW ws e.1.1 e.1.2) (.int (ms1.getD (endW ws e.1.1 e.1.2) 0 - e.2))))) := same_mut s9 hlm0
      have e10 : (upd H9 lm (.lst ((ms1.map V.int).set (endW ws e.1.1 e.1.2) (.int (ms1.getD (endW ws e.1.1 e.1.2) 0 - e.2))))) lm = some (.lst ((ms1.set (endW ws e.1.1 e.1.2) (ms1.getD (endW ws e.1.1 e.1.2) 0 + -e.2)).map V.int)) := by rw [upd_same, List.map_set, Int.sub_eq_add_neg]
      have h10 := fun g => getD_add (ms := ms1) (i := endW ws e.1.1 e.1.2) (g := g) (d := -e.2) (by omega)
      have l10 : (ms1.set (endW ws e.1.1 e.1.2) (ms1.getD (endW ws e.1.1 e.1.2) 0 + -e.2)).length = gs.length := by rw [List.length_set]; exact l9
      generalize upd H9 lm (.lst ((ms1.map V.int).set (endW ws e.1.1 e.1.2) (.int (ms1.getD (endW ws e.1.1 e.1.2) 0 - e.2)))) = H10 at s10 e10
      generalize ms1.set (endW ws e.1.1 e.1.2) (ms1.getD (endW ws e.1.1 e.1.2) 0 + -e.2) = ms2 at e10 h10 l10
      have rb := room_bd (b := b) N k1 k2
      refine ⟨_, rfl, _, rfl, _, rfl, _, _, rfl, rfl, .inl ⟨by omega, by omega⟩, _, _, rfl, rfl, ?_⟩
      refine ⟨some (.int (endW ws e.1.1 e.1.2 : Nat)), some (.ref ap), some (.int e.2), some (.ref tp), some (.int (roomF gs ws b e.1)), ms2, ?_, e10, l10, fun g => ?_, s10⟩
      · rw [List.take_add_one, he, show (some e).toList = [e] from rfl, psum_snoc, ← Int.sub_sub]
        rfl
      · rw [h10 g, h9 g, hmg g, List.take_add_one, he]
        show _ = psum (dlP ws g) (es.take i ++ [e])
        rw [psum_snoc]
        unfold dlP
        have : dl g (endW ws e.1.1 e.1.2) * -e.2 = -(dl g (endW ws e.1.1 e.1.2) * e.2) := Int.mul_neg _ _
        rw [Int.sub_mul]
        omega
    rintro σ H6 ⟨u5, u9, u10, u11, u12, ms, rfl, hms, hml, hmg, sm⟩
    rw [hev, List.take_length] at hmg ⊢
    -- no gate without its balance
    refine ⟨_, rfl, lg, gv, rfl, .inl (SqL.of (sm _ _ hgv)), _, rfl, by omega, by omega, for_range (lo := 0) (n := ((gv.length : Nat) : Int).toNat) (fun i σ H' => ∃ (u13 u15 : Option V), σ = [some (.ref lg), some (.ref lw), some (.ref lp), some (.int b), none, u5, none, some (.int (R0 - psum (roomF gs ws b) es)), some (.ref lm), u9, u10, u11, u12, u13, none, u15] ∧ Same H6 H') ⟨_, _, rfl, Same.refl _⟩ ?_ ?_⟩
    · rintro i σ H7 hi ⟨u13, u15, rfl, sc⟩
      have hi : i < gs.length := by omega
      refine gn_norm (σ' := [some (.ref lg), some (.ref lw), some (.ref lp), some (.int b), none, u5, none, some (.int (R0 - psum (roomF gs ws b) es)), some (.ref lm), u9, u10, u11, u12, some (.int (i : Nat)), none, u15]) (by rw [Int.zero_add]; rfl) ?_
      have sc0 := sm.trans sc
      have cnt : ∀ (j : Nat) (hj : j = 0 ∨ j = 1), True := fun _ _ => trivial
      refine ⟨_, rfl, lw, rfl, ⟨_, SqL.of (sc0 _ _ hwv)⟩, fun D1 hD1 => ?_⟩
      refine lc_list (K := K) (a := lw) (xs := wv) (fun k Hc => Hc D1 = some (.lst (List.replicate (outN (ws.take k) i) (.int 1))) ∧ Same H7 Hc) ⟨upd_same, same_new hD1⟩ (fun k Hc _ ⟨_, sd⟩ => SqL.of ((sc0.trans sd) _ _ hwv)) ?_ ?_
      · rintro k v Hc hv ⟨hc, sd⟩
        obtain ⟨x, hx, a, b2, rfl, sq1, sq2⟩ := wa.get hv
        have hk : k < ws.length := (List.getElem?_eq_some_iff.mp hx).1
        have tk := TK.same (sc0.trans sd)
        have hn := outN_succ (i := i) hx
        have hle := outN_le ws k i
        refine ⟨rfl, _, rfl, a, _, 0, _, rfl, rfl, tk.seq sq1, atI_nat (j := 0) rfl, _, rfl, rfl, _, rfl, ite2 (fun e => ?_) (fun e => ?_)⟩
        · have e : x.1 = i := by have := V.int.inj (of_decide_eq_true e); omega
          rw [if_pos e] at hn
          refine ⟨_, hc, ?_, ?_, same_mut sd hD1⟩
          · rw [List.length_replicate]
            exact small1000 (by omega)
          · rw [upd_same, hn, List.replicate_succ']
        · have e : ¬ x.1 = i := fun z => e (decide_eq_true (congrArg V.int (by rw [z])))
          rw [if_neg e, Nat.add_zero] at hn
          exact ⟨by rw [hn]; exact hc, sd⟩
      rintro H8 ⟨h8, s8⟩
      rw [hlw, List.take_length] at h8
      have sc8 := sc0.trans s8
      refine ⟨D1, _, rfl, .inl (SqL.of h8), _, rfl, lw, rfl, ⟨_, SqL.of (sc8 _ _ hwv)⟩, fun D2 hD2 => ?_⟩
      refine lc_list (K := K) (a := lw) (xs := wv) (fun k Hc => Hc D2 = some (.lst (List.replicate (inN (ws.take k) i) (.int 1))) ∧ Same H8 Hc) ⟨upd_same, same_new hD2⟩ (fun k Hc _ ⟨_, sd⟩ => SqL.of ((sc8.trans sd) _ _ hwv)) ?_ ?_
      · rintro k v Hc hv ⟨hc, sd⟩
        obtain ⟨x, hx, a, b2, rfl, sq1, sq2⟩ := wa.get hv
        have hk : k < ws.length := (List.getElem?_eq_some_iff.mp hx).1
        have tk := TK.same (sc8.trans sd)
        have hn := inN_succ (i := i) hx
        have hle := inN_le ws k i
        refine ⟨rfl, _, rfl, a, _, 1, _, rfl, rfl, tk.seq sq1, atI_nat (j := 1) rfl, _, rfl, rfl, _, rfl, ite2 (fun e => ?_) (fun e => ?_)⟩
        · have e : x.2.1 = i := by have := V.int.inj (of_decide_eq_true e); omega
          rw [if_pos e] at hn
          refine ⟨_, hc, ?_, ?_, same_mut sd hD2⟩
          · rw [List.length_replicate]
            exact small1000 (by omega)
          · rw [upd_same, hn, List.replicate_succ']
        · have e : ¬ x.2.1 = i := fun z => e (decide_eq_true (congrArg V.int (by rw [z])))
          rw [if_neg e, Nat.add_zero] at hn
          exact ⟨by rw [hn]; exact hc, sd⟩
      rintro H9 ⟨h9, s9⟩
      rw [hlw, List.take_length] at h9
      have sc9 := sc8.trans s9
      refine ⟨D2, _, rfl, .inl (SqL.of h9), _, _, rfl, rfl, ?_⟩
      have ew : (((List.replicate (outN ws i) (V.int 1)).length : Nat) : Int) - (((List.replicate (inN ws i) (V.int 1)).length : Nat) : Int) = wdl (dl i) ws := by rw [List.length_replicate, List.length_replicate, wdl_out]
      refine gn_norm (σ' := [some (.ref lg), some (.ref lw), some (.ref lp), some (.int b), none, u5, none, some (.int (R0 - psum (roomF gs ws b) es)), some (.ref lm), u9, u10, u11, u12, some (.int (i : Nat)), none, some (.int (wdl (dl i) ws))]) (by rw [← ew]; rfl) ?_
      have hg := List.getElem?_eq_getElem hi
      obtain ⟨_, hgi, ag, rfl, sqg⟩ := ga.getR hg
      have hkk := kindAt_get hg
      generalize gs[i]'hi = gg at hg sqg hkk hgi
      refine ⟨_, rfl, _, rfl, lg, gv, i, _, rfl, rfl, SqL.of (sc9 _ _ hgv), atI_nat hgi, ag, _, 0, _, rfl, rfl, (TK.same sc9).seq sqg, atI_nat (j := 0) rfl, (by show 2 ≤ sizeLine; decide), fun l2 hl2 => ?_⟩
      have sk : Same H9 (upd H9 l2 (.lst [.str "in", .str "out"])) := same_new hl2
      have ek : (upd H9 l2 (.lst [.str "in", .str "out"])) l2 = some (.lst [.str "in", .str "out"]) := upd_same
      generalize upd H9 l2 (.lst [.str "in", .str "out"]) = HA at sk ek
      refine ⟨l2, _, rfl, .inl (SqL.of ek), rfl, rfl, _, rfl, ?_⟩
      by_cases hport : portK (kindAt gs i)
      · have ei : inV (.str gg.1) [.str "in", .str "out"] = true := by
          rw [hkk] at hport
          rcases hport with h | h <;> rw [h] <;> decide +kernel
        rw [ei]
        exact iteF ⟨_, _, rfl, sc.trans (s8.trans (s9.trans sk))⟩
      · have ei : inV (.str gg.1) [.str "in", .str "out"] = false := by
          rw [hkk] at hport
          have h1 : gg.1 ≠ "in" := fun h => hport (.inl h)
          have h2 : gg.1 ≠ "out" := fun h => hport (.inr h)
          have h3 : "in" ≠ gg.1 := fun h => h1 h.symm
          have h4 : "out" ≠ gg.1 := fun h => h2 h.symm
          unfold inV
          simp [eqV, h1, h2, h3, h4]
        rw [ei]
        refine iteT ⟨_, rfl, _, rfl, lm, _, i, _, rfl, rfl, SqL.of ((s8.trans (s9.trans sk)) _ _ (sc _ _ hms)), atI_nat (sgetD_at (by omega)), _, rfl, rfl, false, ?_, iteF ⟨_, _, rfl, sc.trans (s8.trans (s9.trans sk))⟩⟩
        rw [hmg i, bal i hi hport, decide_eq_true rfl]
        rfl
    rintro σ H7 ⟨u13, u15, rfl, sc⟩
    refine ⟨_, rfl, ?_⟩
    rw [hR0]
    exact q H7 (sm.trans sc)
end
end Lag

set_option maxRecDepth 100000
set_option maxHeartbeats 4100000
/-! ### lists walked while an exception is handled -/
namespace HotL
open PySem PySem.Spec PyProof.Rows L2 L2H HotX
/-- StopIteration that a list's iterator raises, the handled exception x1 behind it -/
theorem stop_raised {prog : Program} {w : World} {A : Around} {x1 : Addr} {t : Shared} {R : Fin → Shared → Prop} {Err : Value → Shared → Prop} (hot : HotAt A x1 t.heap)
    (out : ∀ v g, (∀ b ob, t.heap.get? b = some ob → g.get? b = some ob) → Shared.TypeIs { t with heap := g } v "StopIteration" → Err v { t with heap := g }) :
    wpAny (model prog w) A (newExc (.type "StopIteration") [] >>= fun v => (raiseNew v : Sem Fin)) R Err t := by
  obtain ⟨isX, oX, vX, getX, datX, ctxX⟩ := hot
  simp only [newExc, newTuple]
  refine wpAny_bind <| wpAny_bind <| wpAny_newObj_type ?_ (by size_fits)
  refine wpAny_bind (m := firstArgMember _ _) <| wpAny_of_eq (a := Value.none) (by first | rfl | (simp only [firstArgMember]; rfl)) ?_
  refine wpAny_newObj_type ?_ (by size_fits)
  have g2 := fun o2 o3 : Obj => Heap.get?_push_of_some o3 (Heap.get?_push_of_some o2 getX)
  refine raiseNew_hot (x1 := x1) ⟨isX, oX, vX, g2 _ _, datX, ctxX⟩ (Nat.ne_of_lt <| Heap.lt_size <| Heap.get?_push_of_some _ getX) (Heap.get?_push_size _ rfl) rfl (by first | (simp; done) | (simp; omega)) ?_
  refine out _ _ (fun b ob e => ?_) ⟨_, Heap.get?_update_self _ (Heap.get?_push_size _ rfl) rfl, rfl⟩
  have e1 := Heap.get?_push_of_some { cls := Value.type "tuple", data := Data.seq #[] } e
  exact (Heap.get?_update_other _ _ (Nat.ne_of_gt (Heap.lt_size e1))).trans (Heap.get?_push_of_some _ e1)
theorem HotAt.upd {A : Around} {x1 I : Addr} {h : Heap} {f : Obj → Obj} (c : HotAt A x1 h) (n : x1 ≠ I) : HotAt A x1 (h.update I f) := by
  obtain ⟨isX, oX, vX, getX, z⟩ := c
  exact ⟨isX, oX, vX, (Heap.get?_update_other _ _ n.symm).trans getX, z⟩
section
variable {prog : Program} {w : World} {A : Around} {Err : Value → Shared → Prop} {t : Shared} {x1 I L : Addr} {k : Nat} {xs : Array Value} {G : Option Value → Shared → Prop}
/-- __next__ of a list's iterator at its end -/
theorem special_stop {R : Option Value → Shared → Prop} (hot : HotAt A x1 t.heap) (nX : x1 ≠ I) (cI : t.heap.IsListIter I L k) (cL : t.heap.IsList L xs) (none : xs[k]? = none)
    (out : ∀ v g, (∀ b ob, b ≠ I → t.heap.get? b = some ob → g.get? b = some ob) → Shared.TypeIs { t with heap := g } v "StopIteration" → Err v { t with heap := g }) : wpAny (model prog w) A (callSpecial? (.ref I) "__next__") R Err t := by
  obtain ⟨oI, getI, clsI, datI⟩ := id cI
  obtain ⟨oL, getL, _, nL, datL⟩ := cL
  refine wpAny_callSpecial?_slot (name := Str.ofString "__next__") cI.typeIs slot_listiter_next <| wpAny_call_entry slot_listiter_next cI.typeIs entry_listiter_next ?_ <| args_listiter_next _
  refine wpAny_bind (m := field (.ref I) 0) <| wpAny_field getI datI (x := .ref L) rfl ?_
  have nn : ¬ ((Value.ref L == Value.none) = true) := fun z => Bool.noConfusion (show false = true from z)
  refine (?_ : wpAny _ _ (if (Value.ref L == Value.none) = true then _ else _) _ _ t)
  rw [if_neg nn]
  refine wpAny_bind (m := field (.ref I) 1) <| wpAny_field getI datI (x := .int k 0) rfl ?_
  refine wpAny_bind (m := seqItems? (.ref L)) <| wpAny_seqItems getL datL ?_
  simp only [Int.toNat_natCast, none]
  refine wpAny_bind <| wpAny_rule <| wpAny_bind <| wpAny_setField getI datI (by simp) ?_
  exact stop_raised (A := A.in1) (HotAt.upd hot nX) fun v g keep ty => out v g (fun b ob hb e => keep b ob ((Heap.get?_update_other _ _ (Ne.symm hb)).trans e)) ty
/-- a list's iterator at its end -/
theorem next_list_end (hot : HotAt A x1 t.heap) (nX : x1 ≠ I) (cI : t.heap.IsListIter I L k) (cL : t.heap.IsList L xs) (none : xs[k]? = none)
    (q : ∀ g, (∀ b ob, b ≠ I → t.heap.get? b = some ob → g.get? b = some ob) → G .none { t with heap := g }) : wpAny (model prog w) A (pyNext (.ref I)) G Err t := by
  unfold pyNext
  refine wpAny_bind <| wpAny_attempt <| special_stop hot nX cI cL none fun v g keep ty => ?_
  exact wpAny_bind <| wpAny_isInstance (b := true) ty isSubtype_stop <| wpAny_pure <| q g keep
/-- enumerate's iterator over it at its end -/
theorem next_enum_end {e : Addr} {n : Int} {old : Value} (hot : HotAt A x1 t.heap) (nX : x1 ≠ I) (cE : IsEnum t.heap e I n old) (cI : t.heap.IsListIter I L k) (cL : t.heap.IsList L xs) (none : xs[k]? = none)
    (q : ∀ g, (∀ b ob, b ≠ I → t.heap.get? b = some ob → g.get? b = some ob) → G .none { t with heap := g }) : wpAny (model prog w) A (pyNext (.ref e)) G Err t := by
  have isE : t.TypeIs (.ref e) "enumerate" := ⟨_, cE, rfl⟩
  unfold pyNext
  refine wpAny_bind <| wpAny_attempt <| wpAny_callSpecial?_slot (name := Str.ofString "__next__") isE F.slot_enumerate_next <| wpAny_call_entry F.slot_enumerate_next isE F.entry_enumerate_next ?_ <| F.args_enumerate_next_1 _
  refine wpAny_bind (m := field (.ref e) 2) <| wpAny_field cE rfl (x := .ref I) rfl ?_
  refine wpAny_bind (m := Builtin.SmallTypes.nextOf (.ref I)) ?_
  unfold Builtin.SmallTypes.nextOf
  refine wpAny_bind <| special_stop (A := A.in1) hot nX cI cL none fun v g keep ty => ?_
  exact wpAny_bind <| wpAny_isInstance (b := true) ty isSubtype_stop <| wpAny_pure <| q g keep
/-- a list's iterator, the handled exception besides -/
theorem walks_listH {oX : Obj} {vX : Array Value} (isX : A.handled = some (.ref x1)) (datX : oX.data = .fields vX) (ctxX : vX[2]? = some .none) (nL : L ≠ I) (nX : x1 ≠ I) :
    Walks prog w A I [I, L, x1] [I] xs.size (fun j v => xs[j]? = some v) (fun j h => (h.IsListIter I L j ∧ h.IsList L xs) ∧ h.get? x1 = some oX) where
  sub := fun b hb => by
    rw [List.mem_singleton.mp hb]
    exact List.mem_cons_self ..
  frame := fun _ _ _ st same => ⟨⟨st.1.1.at fun ob e => same I (by simp) ob e, st.1.2.at fun ob e => same L (by simp) ob e⟩, same x1 (by simp) oX st.2⟩
  item := fun j t' R Er lt st q => wpAny_pyNext_list_item st.1.1 st.1.2 (x := xs[j]) (by simp [lt]) fun g onI sb =>
    q _ g t'.toks (by simp [lt]) ⟨⟨onI, st.1.2.extBut sb.extBut nL⟩, sb.extBut _ _ nX st.2⟩ fun b ob hb e => sb.extBut b ob (fun z => hb (List.mem_singleton.mpr z)) e
  done := fun t' R Er st q => next_list_end (t := t') ⟨isX, oX, vX, st.2, datX, ctxX⟩ nX st.1.1 st.1.2 (Array.getElem?_eq_none (Nat.le_refl _)) fun g k => q g t'.toks fun b ob hb e => k b ob (fun z => hb (List.mem_singleton.mpr z)) e
  self := fun _ _ _ _ st q => wpAny_pyIter_listiter st.1.1 q
end
/-- what a hot context bears at a state of it -/
theorem hot_at {X : Cx} {pins : List (Addr × Obj)} {σ : L2.St} {H : Hp} {t : Shared} (c : HotC X) (J : Inv X pins σ H t) : ∃ x1 : Addr, HotAt X.A x1 t.heap ∧ ∀ b, FpOk X pins H b → x1 ≠ b := by
  obtain ⟨pX, ⟨isX, vX, datX, ctxX⟩, inX⟩ := c
  have inX := List.mem_append_left pins inX
  exact ⟨pX.1, ⟨isX, pX.2, vX, (J.pin pX inX).1, datX, ctxX⟩, fun b f => f.2.2.2.2.2 pX inX⟩
section
variable {P : Program} {w : World} {K : PySem.W.Frag}
theorem turn_listH {tg : Expr} (L I : Addr) : TurnH P w K tg (Itl K L) [I] I (fun j h => h.IsListIter I L j) where
  mem := (turn_list (P := P) (w := w) (K := K) (tg := tg) L I).mem
  obj := (turn_list (P := P) (w := w) (K := K) (tg := tg) L I).obj
  keep := (turn_list (P := P) (w := w) (K := K) (tg := tg) L I).keep
  self := (turn_list (P := P) (w := w) (K := K) (tg := tg) L I).self
  item := fun X eP eW eK c j pins t σ H Er J ft st ⟨ys, y, sq, at_⟩ => by
    cases eP
    cases eW
    cases eK
    obtain ⟨vals, rel, isL, _⟩ := J.list sq
    obtain ⟨v, isV, rv⟩ := rel.get at_
    obtain ⟨z0, z1, z2, z3, z4, z5⟩ := ft I (List.mem_singleton.mpr rfl)
    refine wpAny_pyNext_list_item st isL.isList (x := v) (by simpa using isV) fun g onI sb => ?_
    obtain ⟨oI, getI, clsI, datI⟩ := id onI
    have J1 := J.turned (t' := t.toks) (it := I) (fun b ob nb e => (sb.2 b nb).trans e) z0 z1 z3 z4 z5
    refine ⟨v, rfl, go_of (s := { t with heap := g }) getI clsI datI (by decide) ⟨y, H, J1, rv, ⟨rfl, fun zs sz => ?_⟩, onI, fun b hb => (ft b hb).1⟩⟩
    rw [J.list_inj sz sq]
    exact at_
  done := fun X eP eW eK c j pins t σ H Er J ft st ⟨ys, sq, le⟩ => by
    cases eP
    cases eW
    cases eK
    obtain ⟨vals, rel, isL, _⟩ := J.list sq
    obtain ⟨x1, hot, nX⟩ := hot_at c J
    have fI := ft I (List.mem_singleton.mpr rfl)
    have ln := rel.length
    obtain ⟨z0, z1, z2, z3, z4, z5⟩ := id fI
    exact next_list_end hot (nX I fI) st isL.isList (by simp; omega) fun g k => ⟨rfl, J.turned (t' := t.toks) (it := I) k z0 z1 z3 z4 z5⟩
theorem pi_listH {X : Cx} {tg l : Expr} {tl : TE} (hl : PE X l tl) : PIH X tg l (iList X.K tl) := by
  constructor
  intro pins t σ H R J q0
  refine thn (hl.run pins t σ H _ J q0) fun v t1 k => ?_
  obtain ⟨x, H1, J1, rx, L, rfl, ⟨ys, sq⟩, q⟩ := k
  cases rx
  obtain ⟨vals, rel, isL, _⟩ := J1.list sq
  refine wpAny_pyIter_list isL.isList ⟨_, [t1.heap.objs.size], _, _, H1, rfl, J1.kept (t' := t1.toks) fun _ _ e => Heap.get?_push_of_some _ e, turn_listH L _, ⟨_, Heap.get?_push_size _ rfl, rfl, rfl⟩, fun b hb => ?_, q⟩
  rw [List.mem_singleton.mp hb]
  exact J1.fpOk (Nat.le_refl _) (J1.hok.fresh (Nat.le_refl _))
theorem turn_enumH {elts : List Expr} {kk : Nat} {tpos : Pos} (L e I : Addr) : TurnH P w K (.Tuple elts kk tpos) (Ite K L) [e, I] e (fun j h => (∃ old, IsEnum h e I ((j : Nat) : Int) old) ∧ h.IsListIter I L j ∧ e ≠ I) where
  mem := (turn_enum (P := P) (w := w) (K := K) (elts := elts) (kk := kk) (tpos := tpos) L e I).mem
  obj := (turn_enum (P := P) (w := w) (K := K) (elts := elts) (kk := kk) (tpos := tpos) L e I).obj
  keep := (turn_enum (P := P) (w := w) (K := K) (elts := elts) (kk := kk) (tpos := tpos) L e I).keep
  self := (turn_enum (P := P) (w := w) (K := K) (elts := elts) (kk := kk) (tpos := tpos) L e I).self
  item := fun X eP eW eK c j pins t σ H Er J ft ⟨⟨old, isE⟩, isI, ne⟩ ⟨ys, y, sq, at_⟩ => by
    cases eP
    cases eW
    cases eK
    obtain ⟨vals, rel, isL, _⟩ := J.list sq
    obtain ⟨v, isV, rv⟩ := rel.get at_
    have ltE := Heap.lt_size isE
    have ltI : I < t.heap.objs.size := by
      obtain ⟨_, g, _⟩ := isI
      exact Heap.lt_size g
    refine wpAny_pyNext_enum_item isE isI isL.isList (x := v) (by simpa using isV) ne fun g onE onI newT _ kept => ?_
    refine ⟨_, rfl, wpAny_letOwnedTupleGo_enum (s := { t with heap := g, toks := t.toks + 1 }) onE fun g2 onE2 sb => ?_⟩
    have newT2 := (sb.2 _ (Nat.ne_of_gt ltE)).trans newT
    have okT : ObjOk X.prog X.w (upd H t.heap.objs.size (.tup [.int (j : Nat), y])) g2 t.heap.objs.size (.tup [.int (j : Nat), y]) := ⟨(by show 2 ≤ sizeLine; decide), [.int j t.toks, v], .cons ⟨_, rfl⟩ (.cons rv .nil), ⟨_, newT2, rfl, _, rfl⟩⟩
    have J1 : Inv X pins σ (upd H t.heap.objs.size (.tup [.int (j : Nat), y])) { t with heap := g2, toks := t.toks + 1 } :=
      J.turnedNew (ch := [e, I]) (fun b ob nb z => by
        simp only [List.mem_cons, List.not_mem_nil, or_false, not_or] at nb
        exact (sb.2 b nb.1).trans (kept b ob nb.1 nb.2 z)) ft (Nat.le_refl _) okT
    refine ⟨.ref t.heap.objs.size, _, J1, rfl, ⟨_, y, rfl, J.hok.fresh (Nat.le_refl _), rfl, fun zs sz => ?_⟩, ⟨⟨v, ?_⟩, onI.at fun ob z => (sb.2 I (Ne.symm ne)).trans z, ne⟩, fun b hb => ?_⟩
    · rw [J.list_inj sz sq]
      exact at_
    · rw [show ((j + 1 : Nat) : Int) = (j : Int) + 1 by omega]
      exact onE2
    · have lt : b < t.heap.objs.size := by
        simp only [List.mem_cons, List.not_mem_nil, or_false] at hb
        rcases hb with rfl | rfl
        · exact ltE
        · exact ltI
      rw [upd_ne (Nat.ne_of_lt lt)]
      exact (ft b hb).1
  done := fun X eP eW eK c j pins t σ H Er J ft ⟨⟨old, isE⟩, isI, ne⟩ ⟨ys, sq, le⟩ => by
    cases eP
    cases eW
    cases eK
    obtain ⟨vals, rel, isL, _⟩ := J.list sq
    obtain ⟨x1, hot, nX⟩ := hot_at c J
    have fI := ft I (by simp)
    have ln := rel.length
    obtain ⟨z0, z1, z2, z3, z4, z5⟩ := id fI
    exact next_enum_end hot (nX I fI) isE isI isL.isList (by simp; omega) fun g k => ⟨rfl, J.turned (t' := t.toks) (it := I) k z0 z1 z3 z4 z5⟩
theorem pi_enumH {X : Cx} {e : Expr} {ta : TA} {p pos tpos : Pos} {elts : List Expr} {kk : Nat} (hg : Gl X "enumerate") (hm : X.mg "enumerate" = none) (ha : PA X [e] ta) (hs : starEach [e] X.env = [(false, eval e X.env)] := by rfl) :
    PIH X (.Tuple elts kk tpos) (.Call (.Name "enumerate" p) [e] [] pos) (iEnum X.K ta) := by
  constructor
  intro pins t σ H R J q0
  refine Call_ (ld_blt J hg hm boot_enumerate <| PyProof.Rows.callWith_type1 (thn (ha.run pos pins t σ H _ J q0) fun us t1 k => ?_) hs rfl)
  obtain ⟨vs, H1, J1, rv, L, ys, rfl, sq, q⟩ := k
  match us, rv with
  | [_], .cons rx .nil =>
    cases rx
    obtain ⟨vals, rel, isL, _⟩ := J1.list sq
    refine call_enumerate_list isL.isList fun g isE isI _ kept => wpAny_pyIter_enum isE ?_
    have J2 : Inv X pins σ H1 { t1 with heap := g } := J1.kept (t' := t1.toks) kept
    refine ⟨_, [t1.heap.objs.size + 1, t1.heap.objs.size], _, _, H1, rfl, J2, turn_enumH L (t1.heap.objs.size + 1) t1.heap.objs.size, ⟨⟨.none, isE⟩, isI, Nat.succ_ne_self _⟩, fun b hb => ?_, q⟩
    have le : t1.heap.objs.size ≤ b := by
      simp only [List.mem_cons, List.not_mem_nil, or_false] at hb
      rcases hb with rfl | rfl
      · exact Nat.le_succ _
      · exact Nat.le_refl _
    exact J1.fpOk le (J1.hok.fresh le)
end
end HotL

set_option maxRecDepth 100000
set_option maxHeartbeats 4000000
/-! ### a comprehension whose element may raise -/
namespace L2X
open PySem PySem.Spec PyProof.Rows L2
section
variable {M : Model} {A : Around} {s : Shared} {env : Env} {E : Value → Shared → Prop}
/-- what must hold where an error leaves the block: its dict is let go, the error is handed on from the frame F -/
def ErrOut (M : Model) (A : Around) (E : Value → Shared → Prop) (x : Value) (L : Addr) (F : Option Addr) (s' : Shared) : Prop :=
  (∃ m, s'.heap.Ns L m) ∧ ∀ h' (cenv : Env), Heap.SameBut L s'.heap h' → cenv.frame = F → wpAny M A (passOn "comprehension.variables-let-go" x cenv : Sem Value) (fun _ _ => False) E { s' with heap := h' }
def OutOf (M : Model) (A : Around) (E : Value → Shared → Prop) (Q : Value → Shared → Prop) (acc : Value) (cenv : Env) : Result → Shared → Prop
  | .ok _, s' => ∃ m, s'.heap.Ns cenv.locals m ∧ ∀ h', Heap.SameBut cenv.locals s'.heap h' → Q acc { s' with heap := h' }
  | .error x, s' => ErrOut M A E x cenv.locals cenv.frame s'
theorem comp_err {e : Expr} {scope : Scope} {pos : Pos} {newAcc first : Sem Value} {g : Comprehension} {gs : List Comprehension} {cl : List (Str × Addr)} {Q : Value → Shared → Prop}
    (isCls : clausesOf e = g :: gs) (hs : ∀ y, foldedSetIterable g.iter env y = pure y) (isClo : closureFor scope env = pure cl)
    (isFun : scope.kind = .function) (isLoc : ∀ y ∈ scope.names, y.2 = .local → scope.names.lookup y.1 = some .local)
    (h : wpAny M A first (fun x t1 => wpAny M A (pyIter x) (fun it t2 => wpAny M A newAcc (fun acc t3 =>
      wpAny M A (newFunctionEnv scope env.globals cl [] env.qual none .none (some env)) (fun cenv t4 =>
        codeAny M A (.compStart e 0 it acc { cenv with scope := relabel scope env }) (OutOf M A E Q acc cenv) t4) E t3) E t2) E t1) E s) :
    wpAny M A (comprehension e scope env pos newAcc false first none) Q E s := by
  have loc : ∀ (cenv : Env), ∀ x ∈ (scope.names.filter fun x => (x.2 == .local || x.2 == .cell) && x.1 != (".0" : Str)).reverse, x.2 = .local → Env.kindOf { cenv with scope := relabel scope env } x.1 = some .local := fun cenv x hx hl =>
    lookup_relabel_local (isLoc x (List.mem_filter.mp (List.mem_reverse.mp hx)).1 hl)
  have inner : ∀ (cenv : Env) (it acc : Value) (t4 : Shared), codeAny M A (.compStart e 0 it acc { cenv with scope := relabel scope env }) (OutOf M A E Q acc cenv) t4 → True := fun _ _ _ _ _ => trivial
  unfold comprehension
  rw [isClo, isCls]
  refine wpAny_bind (wpAny_mono h (fun x t1 k1 => ?_) fun _ _ z => z)
  refine wpAny_bind (wpAny_standAt (wpAny_bind (wpAny_of_eq (hs x) ?_)))
  refine wpAny_bind (wpAny_holding (wpAny_mono k1 (fun it t2 k2 => ?_) fun _ _ z => z))
  refine wpAny_standIf (wpAny_bind (wpAny_mono k2 (fun acc t3 k3 => ?_) fun _ _ z => z))
  refine wpAny_bind (wpAny_pure (wpAny_bind (wpAny_mono k3 (fun cenv t4 k4 => ?_) fun _ _ z => z)))
  dsimp only
  refine wpAny_holding (wpAny_bind (wpAny_attempt (wpAny_holding (wpAny_run (codeAny_mono k4 fun r s' hr => ?_)))))
  cases r with
  | ok f =>
    obtain ⟨m, hn, q⟩ := hr
    exact wpAny_bind (wpAny_holding (wpAny_comp_letGo (cenv := { cenv with scope := relabel scope env }) isFun _ s' m (loc cenv) hn fun h' _ _ sb => wpAny_pure (q h' sb)))
  | error x =>
    obtain ⟨⟨m, hn⟩, q⟩ := hr
    exact wpAny_bind (wpAny_holding (wpAny_comp_letGo (cenv := { cenv with scope := relabel scope env }) isFun _ s' m (loc cenv) hn fun h' _ _ sb => wpAny_mono (q h' { cenv with scope := relabel scope env } sb rfl) (fun _ _ f => f.elim) fun _ _ z => z))
end
end L2X

set_option maxRecDepth 100000
set_option maxHeartbeats 4100000
/-! ### comprehensions while an exception is handled -/
namespace L2
open PySem PySem.Spec PyProof.Rows
/-- a block's context that keeps what X bears -/
abbrev Cx.blkH (X : Cx) (s : Shared) (H : Hp) (scope : Scope) (cenv : Env) (fp : List Addr) : Cx := { X.blk s H scope cenv fp with pn := X.pn }
end L2
namespace HotL
open PySem PySem.Spec PyProof.Rows L2 L2H HotX L2X
theorem ok_pn {X : Cx} (o : X.Ok) (pn : List (Addr × Obj)) : ({ X with pn := pn } : Cx).Ok := ⟨o.mod, o.kind, o.glob, o.blt, o.above, o.inj, o.has, o.cab, o.hd, o.frames, o.stk, o.exf, o.bs, o.bsz, o.noex, o.exfs, o.funs, o.frf⟩
theorem block_startH {X : Cx} {pins : List (Addr × Obj)} {σ : L2.St} {H : Hp} {s : Shared} {scope : Scope} {own : List (Str × Nat)} {fp : List Addr} (I : Inv X pins σ H s) (ok : BlkOk X.N X.env.scope scope own) (hN : X.N.Nodup) (hfp : ∀ b ∈ fp, FpOk X pins H b ∧ b < s.heap.objs.size) :
    Inv (X.blkH s H scope (compEnvC scope (cellsFrom (s.heap.objs.size + 1) scope.names (cloFrom X.env.cells scope.names [])) s.heap.objs.size X.env) fp) [] (wipe σ (own.map (·.2))) H { s with heap := pushCells (s.heap.push { cls := .type "dict", data := .dict #[] }) scope.names } := by
  have J := block_start I ok hN hfp
  refine ⟨ok_pn J.ok X.pn, J.os, J.bare, J.base, J.loc, J.cell, J.free, J.freeC, fun p hp => ?_, J.hok, J.len⟩
  have hp : p ∈ X.pn := by simpa using hp
  obtain ⟨k1, k2, k3, k4, k5⟩ := I.pin p (List.mem_append_left _ hp)
  refine ⟨pushCells_keeps _ _ _ _ (Heap.get?_push_of_some _ k1), k2, Nat.ne_of_lt (Heap.lt_size k1), fun z => ?_, k5⟩
  rcases List.mem_cons.mp (I.stkSub _ z) with y | y
  · exact k3 y
  · exact k4 y
section
variable {X : Cx} {pins : List (Addr × Obj)} {σ : L2.St} {sB : Shared} {HB : Hp} {scope : Scope} {ce : Env} {fp : List Addr} {elt tg iter : Expr} {ifs : List Expr} {pos : Pos} {g : TG} {tt : TT} {te : TE} {vs : List Nat}
/-- the loop in the block: St is what the new list and the turns have come to -/
theorem loopH {it D : Addr} {tn : Nat → Heap → Prop} {J : It} {Wi : Nat → Nat → Hp → Prop} {m0 : Nat} {sC : Shared} {R : Result → Shared → Prop} {QD : Hp → Prop}
    (hc : HotC X) (T : TurnH X.prog X.w X.K tg J fp it tn)
    (exl : ∀ b ∈ fp, b ≠ ce.locals ∧ (∀ x c, ce.cells.lookup x = some c → c ≠ b) ∧ b ∉ frs X.stack)
    (gPg : PG (X.blkH sB HB scope ce fp) tg g) (gPt : PTs (X.blkH sB HB scope ce fp) ifs tt) (gPe : PE (X.blkH sB HB scope ce fp) elt te)
    (J4 : Inv (X.blkH sB HB scope ce fp) [] (wipe σ vs) HB sC) (trC : tn 0 sC.heap) (n4 : ∀ b ∈ fp, HB b = none) (w0 : Wi 0 m0 HB)
    (step : ∀ i m H, Wi i m H → (J.stop i H ∧ QD H) ∨ (J.go i H ∧ ∃ Nx : Hp → Prop, (∀ H', Nx H' → ∃ m', m' < m ∧ Wi (i + 1) m' H') ∧ ∀ x H', J.yld i H x H' → g x (wipe σ vs) H' fun σ2 HA => wipe σ2 vs = wipe σ vs ∧ tt σ2 HA fun b HB =>
      if b = true then te σ2 HB fun y H4 => ∃ acc, H4 D = some (.lst acc) ∧ acc.length < sizeLine ∧ Nx (upd H4 D (.lst (acc ++ [y]))) else Nx HB))
    (exP : ∀ b ∈ fp, ∀ p ∈ X.pn, p.1 ≠ b) (fin : ∀ H' s', Inv (X.blkH sB HB scope ce fp) [] (wipe σ vs) H' s' → QD H' → R (.ok .next) s') :
    codeAny (model X.prog X.w) X.A (.compLoop (.ListComp elt [⟨tg, iter, ifs, 0⟩] scope pos) 0 (.ref it) (.ref D) ce) R sC := by
  have foot : ∀ {σ' : L2.St} {H' : Hp} {s' : Shared}, Inv (X.blkH sB HB scope ce fp) [] σ' H' s' → (∀ b ∈ fp, H' b = none) → ∀ b ∈ fp, FpOk (X.blkH sB HB scope ce fp) [] H' b := fun I' hn b hb =>
    ⟨hn b hb, (exl b hb).1, (exl b hb).2.2, .inl hb, (exl b hb).2.1, fun p hp => exP b hb p (by simpa using hp)⟩
  have hcB : HotC (X.blkH sB HB scope ce fp) := hc
  refine compLoop_any (fun n s' => ∃ i H', Inv (X.blkH sB HB scope ce fp) [] (wipe σ vs) H' s' ∧ tn i s'.heap ∧ (∀ b ∈ fp, H' b = none) ∧ Wi i n H') (fun n sD h5 => ?_) m0 ⟨0, HB, J4, trC, n4, w0⟩
  obtain ⟨i, H5, I5, trD, n5, w5⟩ := h5
  rcases step i n H5 w5 with ⟨stop, qq⟩ | ⟨go, Nx, isNx, nxt⟩
  · refine thnF (T.done (X.blkH sB HB scope ce fp) rfl rfl rfl hcB i [] sD _ H5 (fun _ _ => False) I5 (foot I5 n5) trD stop) fun r sE hr => ?_
    obtain ⟨rfl, I6⟩ := hr
    exact fin H5 sE I6 qq
  refine thnF (T.item (X.blkH sB HB scope ce fp) rfl rfl rfl hcB i [] sD _ H5 (fun _ _ => False) I5 (foot I5 n5) trD go) fun r sE hr => ?_
  obtain ⟨v, rfl, h6⟩ := hr
  refine thnF h6 fun _ sF h7 => ?_
  obtain ⟨x, H7, J7, rx, yl, trF, n7⟩ := h7
  have P7 := J7.pinned (foot J7 n7) (T.obj _ _ trF)
  refine thnF (gPg.run _ sF _ H7 x v _ P7 rx (nxt x H7 yl)) fun _ sG h8 => ?_
  obtain ⟨σ8, H8, J8, w8, q8⟩ := h8
  refine thnF (gPt.run _ sG σ8 H8 _ J8 q8) fun b sH h9 => ?_
  obtain ⟨H9, I9, qH⟩ := h9
  -- the next turn begins
  have again : ∀ {s' : Shared} {H' : Hp}, Inv (X.blkH sB HB scope ce fp) ([] ++ pinsAt fp sF.heap) σ8 H' s' → Nx H' → ∃ m, m < n ∧ ∃ i H', Inv (X.blkH sB HB scope ce fp) [] (wipe σ vs) H' s' ∧ tn i s'.heap ∧ (∀ b ∈ fp, H' b = none) ∧ Wi i m H' := fun {s' H'} I' nx => by
    obtain ⟨m', hm, w'⟩ := isNx H' nx
    have at_ : ∀ b ∈ fp, ∀ o, sF.heap.get? b = some o → s'.heap.get? b = some o ∧ H' b = none := fun b hb o e => by
      obtain ⟨k1, k2, _⟩ := I'.pin (b, o) (List.mem_append_right _ (List.mem_append_right _ (mem_pinsAt hb e)))
      exact ⟨k1, k2⟩
    have len : (wipe σ vs).length = σ8.length := by rw [← w8, wipe_length]
    refine ⟨m', hm, i + 1, H', (I'.unpinned (pins := [])).weak len (fun j y e => (wipe_some (by rw [w8]; exact e)).1), T.keep _ _ _ trF fun b hb o e => (at_ b hb o e).1, fun b hb => ?_, w'⟩
    obtain ⟨o, e, _⟩ := T.obj _ _ trF b hb
    exact (at_ b hb o e).2
  cases b with
  | false =>
    simp only [Bool.false_eq_true, if_false] at qH ⊢
    exact again I9 qH
  | true =>
    simp only [if_true] at qH ⊢
    refine thnF (gPe.run _ sH σ8 H9 _ I9 qH) fun z s10 h10 => ?_
    obtain ⟨yv, H10, I10, r10, acc, hD, hz, nx⟩ := h10
    exact app_ok (X := X.blkH sB HB scope ce fp) I10 hD hz r10 fun s11 I11 => again I11 nx
end
/-- [elt for target in iter if ..] as a value -/
theorem pe_lcH {X : Cx} {elt tg iter : Expr} {ifs : List Expr} {scope : Scope} {own : List (Str × Nat)} {pos : Pos} {wi : TI} {g : TG} {tt : TT} {te : TE}
    (hc : HotC X) (nodup : X.N.Nodup) (hi : PIH X tg iter wi) (ok : BlkOk X.N X.env.scope scope own)
    (hg : ∀ (s : Shared) (H : Hp) (C : Addr) (cl : List (Str × Addr)) (fp : List Addr), PG (X.blkH s H scope (compEnvC scope cl C X.env) fp) tg g)
    (ht : ∀ (s : Shared) (H : Hp) (C : Addr) (cl : List (Str × Addr)) (fp : List Addr), PTs (X.blkH s H scope (compEnvC scope cl C X.env) fp) ifs tt)
    (he : ∀ (s : Shared) (H : Hp) (C : Addr) (cl : List (Str × Addr)) (fp : List Addr), PE (X.blkH s H scope (compEnvC scope cl C X.env) fp) elt te) (hs : ∀ x, foldedSetIterable iter X.env x = pure x := by intro _; rfl) :
    PE X (.ListComp elt [⟨tg, iter, ifs, 0⟩] scope pos) (tLc wi g tt te (own.map (·.2))) := by
  constructor
  intro pins s σ H Q I h
  rw [eval_ListComp]
  have cells : ∀ y ∈ scope.names, y.2 = .free → ∃ c, X.env.cells.lookup y.1 = some c := fun y hy e => I.ok.has _ (ok.free y hy e)
  refine comp_err rfl hs (closure_ok cells) ok.kind (fun y hy e => by rw [ok.uniq y hy, e]) (thn (hi.run pins s σ H _ I h) fun xv s1 hx => thn hx fun itv sA h2 => ?_)
  obtain ⟨it, fp, tn, J, HA, rfl, J2, T, trA, ftA, q⟩ := h2
  refine wpAny_newObj_type (newEnv_comp ?_) (show 0 ≤ sizeLine by decide)
  -- the new list
  obtain ⟨D, hD⟩ : ∃ D, D = sA.heap.objs.size := ⟨_, rfl⟩
  rw [← hD]
  obtain ⟨Wi, ⟨m0, w0⟩, step⟩ := q D (J2.hok.fresh (Nat.le_of_eq hD.symm))
  obtain ⟨sB, hs3⟩ : ∃ sB : Shared, sB = { sA with heap := sA.heap.push { cls := .type "list", data := .seq ([] : List Value).toArray } } := ⟨_, rfl⟩
  have e3 : sB.heap = sA.heap.push { cls := .type "list", data := .seq ([] : List Value).toArray } := by rw [hs3]
  have J3 : Inv X pins σ (upd HA D (.lst [])) sB := by
    rw [hs3]
    refine J2.laid (t' := sA.toks) (fun b o e => Heap.get?_push_of_some _ e) (Nat.le_of_eq hD.symm) ⟨Nat.zero_le _, [], 0, .nil, ?_⟩
    rw [hD]
    exact (Heap.get?_push_size _ rfl)
  have old : ∀ b ∈ fp, b < sA.heap.objs.size := fun b hb => by
    obtain ⟨o, e, _⟩ := T.obj _ _ trA b hb
    exact Heap.lt_size e
  have ftB : ∀ b ∈ fp, FpOk X pins (upd HA D (.lst [])) b ∧ b < sB.heap.objs.size := fun b hb => by
    have isOld := old b hb
    refine ⟨⟨?_, (ftA b hb).2⟩, by rw [e3, Heap.size_push]; exact Nat.lt_succ_of_lt isOld⟩
    rw [upd_ne (by rw [hD]; exact Nat.ne_of_lt isOld)]
    exact (ftA b hb).1
  have J4 := block_startH J3 ok nodup ftB
  have trC : tn 0 (pushCells (sB.heap.push { cls := .type "dict", data := .dict #[] }) scope.names) := T.keep _ _ _ trA fun b _ o e => pushCells_keeps _ _ _ _ (Heap.get?_push_of_some _ (by rw [e3]; exact Heap.get?_push_of_some _ e))
  have gPg := hg sB (upd HA D (.lst [])) sB.heap.objs.size (cellsFrom (sB.heap.objs.size + 1) scope.names (cloFrom X.env.cells scope.names [])) fp
  have gPt := ht sB (upd HA D (.lst [])) sB.heap.objs.size (cellsFrom (sB.heap.objs.size + 1) scope.names (cloFrom X.env.cells scope.names [])) fp
  have gPe := he sB (upd HA D (.lst [])) sB.heap.objs.size (cellsFrom (sB.heap.objs.size + 1) scope.names (cloFrom X.env.cells scope.names [])) fp
  rw [← hs3]
  show codeAny _ _ (.compStart (.ListComp elt [⟨tg, iter, ifs, 0⟩] scope pos) 0 (.ref it) (.ref D) (compEnvC scope (cellsFrom (sB.heap.objs.size + 1) scope.names (cloFrom X.env.cells scope.names [])) sB.heap.objs.size X.env)) (OutOf (model X.prog X.w) X.A X.xe (EP X pins σ Q) (.ref D) _) { sB with heap := pushCells (sB.heap.push { cls := .type "dict", data := .dict #[] }) scope.names }
  have nC : ∀ {σ' : L2.St} {H' : Hp} {s' : Shared}, Inv (X.blkH sB (upd HA D (.lst [])) scope (compEnvC scope (cellsFrom (sB.heap.objs.size + 1) scope.names (cloFrom X.env.cells scope.names [])) sB.heap.objs.size X.env) fp) [] σ' H' s' → H' sB.heap.objs.size = none := fun I' => I'.free
  have loop : codeAny (model X.prog X.w) X.A (.compLoop (.ListComp elt [⟨tg, iter, ifs, 0⟩] scope pos) 0 (.ref it) (.ref D) (compEnvC scope (cellsFrom (sB.heap.objs.size + 1) scope.names (cloFrom X.env.cells scope.names [])) sB.heap.objs.size X.env)) (OutOf (model X.prog X.w) X.A X.xe (EP X pins σ Q) (.ref D) (compEnvC scope (cellsFrom (sB.heap.objs.size + 1) scope.names (cloFrom X.env.cells scope.names [])) sB.heap.objs.size X.env)) { sB with heap := pushCells (sB.heap.push { cls := .type "dict", data := .dict #[] }) scope.names } := by
    refine loopH (D := D) (sB := sB) (HB := upd HA D (.lst [])) (fp := fp) (vs := own.map (·.2)) (QD := fun H' => Q (.ref D) H') hc T (fun b hb => ?_) gPg gPt gPe J4 trC (fun b hb => (ftB b hb).1.1) w0 step (fun b hb p hp => (ftB b hb).1.2.2.2.2.2 p (List.mem_append_left _ hp)) ?_
    · obtain ⟨k1, k2⟩ := J4.ok.exf b hb
      exact ⟨k1, k2, J4.ok.exfs b hb⟩
    · intro H' s' I' qq
      have J7 : Inv X pins σ H' s' := J3.call' (ch := fp) I'.os I'.base I'.hok I'.bare fun b hb => ⟨(ftB b hb).1.2.2.2.1, (ftB b hb).1.2.1, (ftB b hb).1.2.2.2.2.1, (ftB b hb).1.2.2.2.2.2⟩
      obtain ⟨m, hn, _⟩ := I'.loc
      refine ⟨m, hn, fun h' sb => ?_⟩
      obtain ⟨k0, k1, k2, k3, k4, k5⟩ := J3.fpOk (Nat.le_refl _) (nC I')
      exact ⟨.ref D, H', J7.turned (t' := s'.toks) (fun b o hb e => (sb.2 b hb).trans e) k0 k1 k3 k4 k5, rfl, qq⟩
  exact codeAny_compStart_list loop (T.self X.A 0 { sB with heap := pushCells (sB.heap.push { cls := .type "dict", data := .dict #[] }) scope.names } _ _ trC loop)
end HotL

set_option maxRecDepth 100000
set_option maxHeartbeats 4100000
/-! ### all, sum of a list while an exception is handled -/
namespace HotL
open PySem PySem.Spec PyProof.Rows L2 L2H HotX L2X
theorem pre_sum (ns : List Int) : ∀ {j : Nat}, j ≤ ns.length → preSum (fun j => ns.getD j 0) j = (ns.take j).sum
  | 0, _ => by simp [preSum]
  | j + 1, h => by
    show preSum (fun j => ns.getD j 0) j + ns.getD j 0 = _
    have lt : j < ns.length := h
    rw [pre_sum ns (Nat.le_of_succ_le h), List.take_add_one, List.getD_eq_getElem?_getD, List.getElem?_eq_getElem lt, List.sum_append]
    simp
section
variable {X : Cx}
theorem cr_allH (hc : HotC X) : CallR X (.builtin "all") (rAll X.K) := by
  intro pins t σ H vs us Q J rv k
  obtain ⟨L, bs, rfl, sq, q⟩ := k
  obtain ⟨vals, rel, isL, _⟩ := J.list sq
  rw [Vals.ref1 rv]
  have isB := rel.bls
  obtain ⟨x1, ⟨isX, oX, vX, getX, datX, ctxX⟩, _⟩ := hot_at hc J
  refine call_all_walk (iter_any isL.isList fun t2 e2 st ne => ?_)
  subst e2
  refine ⟨_, _, _, _, _, _, _, rfl, walks_listH (A := X.A.in1) (xs := vals.toArray) isX datX ctxX ne (Nat.ne_of_lt (Heap.lt_size getX)), ⟨st, Heap.get?_push_of_some _ getX⟩, truth_bools isB, fun g tk keep => ?_⟩
  refine ⟨.bl _, H, J.kept fun b ob e => keep b ob (fun m => ?_) (Heap.get?_push_of_some _ e), ?_, q⟩
  · rw [List.mem_singleton.mp m] at e
    exact Nat.lt_irrefl _ (Heap.lt_size e)
  · show Value.bool _ = Value.bool _
    rw [← L2.all_range, isB, List.size_toArray, List.length_map]
theorem cr_sumH (hc : HotC X) : CallR X (.builtin "sum") (rSum X.K) := by
  intro pins t σ H vs us Q J rv k
  obtain ⟨L, ns, rfl, sq, q⟩ := k
  obtain ⟨vals, rel, isL, _⟩ := J.list sq
  rw [Vals.ref1 rv]
  obtain ⟨x1, ⟨isX, oX, vX, getX, datX, ctxX⟩, _⟩ := hot_at hc J
  refine call_sum_walkG (iter_any isL.isList fun t2 e2 st ne => ?_)
  subst e2
  have val : ∀ (j : Nat) (v : Value), vals.toArray[j]? = some v → ∃ tk, v = .int (ns.getD j 0) tk := fun j v e => by
    have e : vals[j]? = some v := by simpa using e
    have lt : j < ns.length := by
      have l1 := rel.length
      rw [List.length_map] at l1
      have l2 := (List.getElem?_eq_some_iff.mp e).1
      omega
    obtain ⟨u, e2, ⟨tk, rfl⟩⟩ := rel.get (i := j) (x := .int (ns.getD j 0)) (by rw [List.getElem?_map, List.getD_eq_getElem?_getD, List.getElem?_eq_getElem lt]; rfl)
    rw [e] at e2
    exact ⟨tk, Option.some.inj e2⟩
  have lv : vals.toArray.size = ns.length := by
    have l1 := rel.length
    rw [List.length_map] at l1
    rw [List.size_toArray, l1]
  refine ⟨_, _, _, _, _, _, fun j => ns.getD j 0, rfl, walks_listH (A := X.A.in1) (xs := vals.toArray) isX datX ctxX ne (Nat.ne_of_lt (Heap.lt_size getX)), ⟨st, Heap.get?_push_of_some _ getX⟩, fun b hb => ?_, val, fun g tk t' keep => ?_⟩
  · rw [Heap.size_push]
    simp only [List.mem_cons, List.not_mem_nil, or_false] at hb
    rcases hb with rfl | rfl | rfl
    · exact Nat.lt_succ_self _
    · obtain ⟨_, e, _⟩ := isL.isList
      exact Nat.lt_succ_of_lt (Heap.lt_size e)
    · exact Nat.lt_succ_of_lt (Heap.lt_size getX)
  · rw [lv, pre_sum ns (Nat.le_refl _), List.take_length]
    refine ⟨.int ns.sum, H, J.kept fun b ob e => keep b ob (fun m => ?_) (Heap.get?_push_of_some _ e), ⟨_, rfl⟩, q⟩
    rw [List.mem_singleton.mp m] at e
    exact Nat.lt_irrefl _ (Heap.lt_size e)
end
end HotL

set_option maxRecDepth 100000
set_option maxHeartbeats 4100000
/-! ### a tuple taken apart while an exception is handled -/
namespace HotL
open PySem PySem.Spec PyProof.Rows L2 L2H HotX L2X
section
variable {prog : Program} {w : World} {A : Around} {Err : Value → Shared → Prop} {t : Shared} {x1 I L : Addr} {k : Nat} {xs : Array Value} {G : Option Value → Shared → Prop}
theorem next_tup_end (hot : HotAt A x1 t.heap) (nX : x1 ≠ I) (cI : IsTupIter t.heap I L k) (cL : IsTup t.heap L xs) (none : xs[k]? = none)
    (q : ∀ g, (∀ b ob, b ≠ I → t.heap.get? b = some ob → g.get? b = some ob) → G .none { t with heap := g }) : wpAny (model prog w) A (pyNext (.ref I)) G Err t := by
  obtain ⟨oI, getI, clsI, datI⟩ := id cI
  obtain ⟨oL, getL, _, nL, datL⟩ := cL
  have ty : t.TypeIs (.ref I) "tuple_iterator" := ⟨_, getI, clsI⟩
  unfold pyNext
  refine wpAny_bind <| wpAny_attempt <| wpAny_callSpecial?_slot (name := Str.ofString "__next__") ty F.slot_tuple_iterator_next <| wpAny_call_entry F.slot_tuple_iterator_next ty F.entry_tuple_iterator_next ?_ <| F.args_tuple_iterator_next_1 _
  refine wpAny_bind (m := field (.ref I) 0) <| wpAny_field getI datI (x := .ref L) rfl ?_
  have nn : ¬ ((Value.ref L == Value.none) = true) := fun z => Bool.noConfusion (show false = true from z)
  refine (?_ : wpAny _ _ (if (Value.ref L == Value.none) = true then _ else _) _ _ t)
  rw [if_neg nn]
  refine wpAny_bind (m := field (.ref I) 1) <| wpAny_field getI datI (x := .int k 0) rfl ?_
  refine wpAny_bind (m := seqItems? (.ref L)) <| wpAny_seqItems getL datL ?_
  simp only [Int.toNat_natCast, none]
  refine wpAny_bind <| wpAny_rule <| wpAny_bind <| wpAny_setField getI datI (by simp) ?_
  refine stop_raised (A := A.in1) (HotAt.upd hot nX) fun v g keep ty => ?_
  exact wpAny_bind <| wpAny_isInstance (b := true) ty isSubtype_stop <| wpAny_pure <| q g fun b ob hb e => keep b ob ((Heap.get?_update_other _ _ (Ne.symm hb)).trans e)
/-- target = a tuple of that length -/
theorem assign_tupH {env : Env} {elts : List Expr} {kk : Nat} {pos : Pos} {R : Unit → Shared → Prop} (hot : HotAt A x1 t.heap) (cL : IsTup t.heap L xs) (len : (assignEach elts env).length = xs.size) (star : (assignEach elts env).findIdx? (·.1) = none)
    (q : ∀ g, (∀ b ob, t.heap.get? b = some ob → g.get? b = some ob) → wpAny (model prog w) A (assignInOrder ((assignEach elts env).map (·.2)) xs.toList) R Err { t with heap := g }) :
    wpAny (model prog w) A (assign (.Tuple elts kk pos) env (.ref L)) R Err t := by
  have nL : L ≠ t.heap.objs.size := by
    obtain ⟨_, e, _⟩ := cL
    exact Nat.ne_of_lt (Heap.lt_size e)
  have nX : x1 ≠ t.heap.objs.size := by
    obtain ⟨_, _, _, e, _⟩ := hot
    exact Nat.ne_of_lt (Heap.lt_size e)
  rw [assign_Tuple]
  refine wpAny_bind <| wpAny_standAt ?_
  unfold unpack unpackItems
  rw [len, star]
  refine wpAny_bind <| wpAny_holding <| wpAny_bind ?_
  unfold notIterableAtAll
  refine wpAny_bind <| wpAny_specialOf cL.typeIs slot_tuple_iter.lookup <| wpAny_pure ?_
  simp only [Bool.false_eq_true, if_false]
  refine wpAny_bind <| wpAny_holding <| iter_tuple cL ?_
  refine wpAny_bind <| wpAny_holding <| draw_tuple nL xs.size 0 _ _ ⟨_, Heap.get?_push_size _ rfl, rfl, rfl⟩ (cL.push _) (by omega) fun g onI sb => ?_
  have all : List.take xs.size (List.drop 0 xs.toList) = xs.toList := List.take_of_length_le (by simp)
  rw [all, if_neg (by simp)]
  obtain ⟨isX, oX, vX, getX, z⟩ := hot
  have hot1 : HotAt A x1 g := ⟨isX, oX, vX, sb.extBut _ _ nX (Heap.get?_push_of_some _ getX), z⟩
  refine wpAny_bind <| wpAny_holding <| next_tup_end hot1 nX onI ((cL.push _).extBut sb.extBut nL) (by simp) fun g2 keep => ?_
  simp only [Option.isSome_none, Bool.false_eq_true, if_false]
  refine wpAny_pure <| q g2 fun b ob e => ?_
  have nb : b ≠ t.heap.objs.size := Nat.ne_of_lt (Heap.lt_size e)
  exact keep b ob nb (sb.extBut b ob nb (Heap.get?_push_of_some _ e))
end
theorem pg_tupH {X : Cx} {es : List Expr} {kk : Nat} {t : TGs} {n : Nat} {pos : Pos} (c : HotC X) (h : PGs X es t)
    (len : (assignEach es X.env).length = n := by rfl) (star : (assignEach es X.env).findIdx? (·.1) = none := by rfl) : PG X (.Tuple es kk pos) (gTup X.K n t) := by
  constructor
  intro pins s σ H v u Q J rv q0
  obtain ⟨L, ys, rfl, sq, ln, q⟩ := q0
  cases rv
  obtain ⟨vals, rel, isT, _⟩ := J.tuple sq
  obtain ⟨x1, hot, _⟩ := hot_at c J
  refine assign_tupH hot isT (by simp [len, ← ln, rel.length]) star fun g keep => ?_
  have J1 : Inv X pins σ H { s with heap := g } := J.kept (t' := s.toks) keep
  exact h.run pins _ σ H ys _ Q J1 (by simpa using rel) q
end HotL

set_option maxRecDepth 100000
set_option maxHeartbeats 8000000
namespace HotL
open PySem PySem.Spec PyProof.Rows L2 L2H HotX
theorem hot_of {X : Cx} {p : Addr × Obj} (h : Hot1 X.A p) (e : p ∈ X.pn) : HotC X := ⟨p, h, e⟩
theorem passH {X : Cx} : ∀ σ, PassesAt CX0 X σ E0 := fun _ _ _ _ _ _ _ h => h.elim
theorem Fun.okH {P : Program} {w : World} {K : PySem.W.Frag} {mg : Str → Option Value} {base : Heap} {x qual : Str} {st : Stmt} {f : Addr} {fd : FuncData} {N ps : List Str} {k : Nat} {sp : Sp} (F : Fun K x qual st f fd) (S : FnScope N ps (defScope st))
    (len : ∀ vs H Q E, sp vs H Q E → vs.length = ps.length)
    (hbody : ∀ (cdv : Value) (A : Around) (outer : List Env) (s : Shared) (H : Hp) (vs : List V) (Q : VK) (E : XK) (p : Addr × Obj), Hot1 A p → RoomH k (A.deeper (envOfC qual (defScope st) s.heap.objs.size f cdv)) → sp vs H Q E →
      ∃ t, PSs (cxH CX0 P w K mg base N qual (defScope st) f cdv A outer s H E p).nox (defBody st) t ∧ t { nx := fun _ H' => Q .non H', rt := Q } (start N vs) H) : FnH P w K mg base CX0 (k + 1) f fd ps sp := by
  obtain ⟨oc, od, kV, doc, pm, an, cdv, ct, osl, rfl, lk, hcd⟩ := F.ex
  refine fn_ofH lk hcd S len fun A outer s H vs Q E p hp hr hsp => ?_
  have hp' : Hot1 (A.deeper (envOfC qual (defScope st) s.heap.objs.size f cdv)) p := hp
  obtain ⟨t, h, q⟩ := hbody cdv A outer s H vs Q E p hp hr hsp
  exact ⟨t, h.nox, q⟩
end HotL
namespace Lag
open PySem PySem.Spec PyProof.Rows L2 L2H HotX HotL
structure DfH (P : Program) (w : World) (K : PySem.W.Frag) (mg : Str → Option Value) (base : Heap) (k : Nat) (name : Str) (ps : List Str) (sp : Sp) (f : Addr) (fd : FuncData) : Prop where
  ok : FnH P w K mg base CX0 k f fd ps sp
  mg : mg name = some (.ref f)
  kp : PySem.W.keepIn K (.ref f) = true
  bd : Binds K fd ps []
section
variable {P : Program} {w : World} {K : PySem.W.Frag} {mg : Str → Option Value} {base : Heap}
abbrev HWhole (P : Program) (w : World) (K : PySem.W.Frag) (mg : Str → Option Value) (base : Heap) := DfH P w K mg base 1 "is_whole" ["thing"] spWhole
theorem hot_whole {f : Addr} {fd : FuncData} (F : Fun K "is_whole" "is_whole" sWhole f fd) (hm : mg "is_whole" = some (.ref f)) (B : Bt mg) : HWhole P w K mg base f fd := by
  refine ⟨?_, hm, F.kp, F.binds fun _ _ _ _ _ _ us hl => match us, hl with | [_], _ => rfl⟩
  refine Fun.okH F scWhole (fun vs H Q E h => ?_) (fun cdv A outer s H vs Q E px hp1 hr h => ?_)
  · obtain ⟨n, rfl, _⟩ := h
    rfl
  · obtain ⟨n, rfl, q⟩ := h
    refine ⟨_, pss_one <| ps_ret <| pe_and (pe_callB call_isi (by rfl) B.isi (by decide +kernel) (pa_cons (pv 0) (pa_cons (pe_bltn (v := .ty "int") (by rfl) B.int (by decide +kernel) rfl) pa_nil)))
      (pe_one (pe_not (pe_callB call_isi (by rfl) B.isi (by decide +kernel) (pa_cons (pv 0) (pa_cons (pe_bltn (v := .ty "bool") (by rfl) B.bool (by decide +kernel) rfl) pa_nil))))), ?_⟩
    refine ⟨_, rfl, _, _, _, _, true, rfl, .ty "int", .base (.int n), kit_ty (by decide +kernel), true, rfl, iteT ?_⟩
    exact ⟨_, rfl, _, _, _, _, false, rfl, .ty "bool", .base (.int n), kit_ty (by decide +kernel), false, rfl, q⟩
abbrev HFromTo (P : Program) (w : World) (K : PySem.W.Frag) (mg : Str → Option Value) (base : Heap) := DfH P w K mg base 2 "is_whole_from_to" ["thing", "least", "greatest"] spFromTo
theorem hot_fromTo {f fW : Addr} {fd fdW : FuncData} (F : Fun K "is_whole_from_to" "is_whole_from_to" sFromTo f fd) (hm : mg "is_whole_from_to" = some (.ref f)) (DW : HWhole P w K mg base fW fdW) : HFromTo P w K mg base f fd := by
  refine ⟨?_, hm, F.kp, F.binds fun _ _ _ _ _ _ us hl => match us, hl with | [_, _, _], _ => rfl⟩
  refine Fun.okH F scFromTo (fun vs H Q E h => ?_) (fun cdv A outer s H vs Q E px hp1 hr h => ?_)
  · obtain ⟨n, a, b, rfl, _⟩ := h
    rfl
  · obtain ⟨n, a, b, rfl, q⟩ := h
    refine ⟨_, pss_one <| ps_ret <| pe_and (pe_callH (E := fun _ => E0) DW.ok hr (hot_of hp1 List.mem_cons_self) (by rfl) DW.mg DW.kp DW.bd passH (pa_cons (pv 0) pa_nil)) (pe_one (pe_chain op_le op_le (pv 1) (pv 0) (pv 2))), ?_⟩
    refine ⟨_, rfl, n, rfl, true, rfl, iteT ?_⟩
    refine ⟨_, rfl, _, rfl, _, _, rfl, rfl, _, rfl, ?_⟩
    cases e : decide (a ≤ n) with
    | false =>
      rw [e] at q
      exact iteF q
    | true =>
      rw [e] at q
      exact iteT ⟨_, rfl, _, _, rfl, rfl, q⟩
abbrev HChkB (P : Program) (w : World) (K : PySem.W.Frag) (mg : Str → Option Value) (base : Heap) := DfH P w K mg base 2 "check_beat" ["thing"] spChkB
theorem hot_chkB {f fW : Addr} {fd fdW : FuncData} (F : Fun K "check_beat" "check_beat" sChkBeat f fd) (hm : mg "check_beat" = some (.ref f)) (DW : HWhole P w K mg base fW fdW) : HChkB P w K mg base f fd := by
  refine ⟨?_, hm, F.kp, F.binds fun _ _ _ _ _ _ us hl => match us, hl with | [_], _ => rfl⟩
  refine Fun.okH F scChkBeat (fun vs H Q E h => ?_) (fun cdv A outer s H vs Q E px hp1 hr h => ?_)
  · obtain ⟨b, rfl, _⟩ := h
    rfl
  · obtain ⟨b, rfl, hb, q⟩ := h
    refine ⟨_, pss_one (ps_if (PW.pt (pw_or (pt_not (pt_val (pe_callH (E := fun _ => E0) DW.ok (hr.mono (by decide)) (hot_of hp1 List.mem_cons_self) (by rfl) DW.mg DW.kp DW.bd passH (pa_cons (pv 0) pa_nil)))) (pw_or1 (pt_cmpR op_lt (pv 0) pe_int (nomark _))))) (pss_one (ps_never)) pss_nil), ?_⟩
    refine ⟨_, rfl, b, rfl, true, rfl, iteF ⟨_, rfl, _, _, rfl, rfl, _, rfl, ite2 (fun e => absurd (of_decide_eq_true e) (by omega)) (fun _ => q)⟩⟩
abbrev HOuter (P : Program) (w : World) (K : PySem.W.Frag) (mg : Str → Option Value) (base : Heap) := DfH P w K mg base 1 "is_outer" ["gate"] (spOuter K)
theorem hot_outer {f aK aW aF : Addr} {fd : FuncData} (F : Fun K "is_outer" "is_outer" sOuter f fd) (hm : mg "is_outer" = some (.ref f)) (C : Cns K mg aK aW aF) : HOuter P w K mg base f fd := by
  refine ⟨?_, hm, F.kp, F.binds fun _ _ _ _ _ _ us hl => match us, hl with | [_], _ => rfl⟩
  refine Fun.okH F scOuter (fun vs H Q E h => ?_) (fun cdv A outer s H vs Q E px hp1 hr h => ?_)
  · obtain ⟨v, g, rfl, _⟩ := h
    rfl
  · obtain ⟨v, g, rfl, ⟨a, rfl, sq⟩, q⟩ := h
    refine ⟨_, pss_one <| ps_ret <| pe_cmpR op_in_seq (pe_ix ix_tup (pv 0) pe_int (fun _ _ => rfl)) (pe_glob (v := .ref aW) (by rfl) C.mW rfl) (by rfl), ?_⟩
    exact ⟨_, rfl, a, _, 0, _, rfl, rfl, sq, atI_nat (j := 0) rfl, aW, _, rfl, .inr (C.sW H), rfl, rfl, q _ port_in⟩
abbrev HSpotsOf (P : Program) (w : World) (K : PySem.W.Frag) (mg : Str → Option Value) (base : Heap) (C : Addr) := DfH P w K mg base 2 "spots_of" ["net"] (spSpotsOf K C)
theorem hot_spotsOf {f fO C : Addr} {fd fdO : FuncData} (F : Fun K "spots_of" "spots_of" sSpotsOf f fd) (hm : mg "spots_of" = some (.ref f)) (B : Bt mg) (T : NT K mg C) (DO : HOuter P w K mg base fO fdO) : HSpotsOf P w K mg base C f fd := by
  refine ⟨?_, hm, F.kp, F.binds fun _ _ _ _ _ _ us hl => match us, hl with | [_], _ => rfl⟩
  refine Fun.okH F scSpotsOf (fun vs H Q E h => ?_) (fun cdv A outer s H vs Q E px hp1 hr h => ?_)
  · obtain ⟨p, ng, nw, gs, ws, rfl, _⟩ := h
    rfl
  · obtain ⟨p, ng, nw, gs, ws, rfl, NA, N, q⟩ := h
    have nd := scSpotsOf.nd
    refine ⟨_, pss_one (ps_ret (pe_lcH (own := [("number", 1), ("gate", 2)]) (g := (gTup K 2 (gCons (gName 1) (gCons (gName 2) gNil)))) (tt := tYes) (te := (tIf (tB (tCallS (spOuter K) (fun _ => E0) (tCons (tVar 2) tNil))) (tCB (Evl.rLenS K) (tCons (tFld K (tVar 0) "gates") tNil)) (tVar 1))) (hot_of hp1 List.mem_cons_self) nd (pi_enumH (by rfl) B.enum (pa_cons (pe_fld (pv 0) rfl) pa_nil)) (blkOk_by (N := nSpotsOf) (sc := defScope sSpotsOf) (own := [("number", 1), ("gate", 2)]) (by decide +kernel)) (fun _ _ _ _ _ => (pg_tupH (hot_of hp1 List.mem_cons_self) (pgs_cons (pg_name (i := 1) nd rfl (.inl rfl)) (pgs_cons (pg_name (i := 2) nd rfl (.inl rfl)) pgs_nil)))) (fun _ _ _ _ _ => pts_nil) (fun _ _ _ _ _ => (pe_ifExp (pt_val (pe_callH (E := fun _ => E0) DO.ok (hr.mono (by decide)) (hot_of hp1 List.mem_cons_self) (by rfl) DO.mg DO.kp DO.bd passH (pa_cons (pv 2) pa_nil))) (pe_callB call_len_seq (by rfl) B.len PySem.boot_len (pa_cons (pe_fld (pv 0) rfl) pa_nil)) (pv 1))))), ?_⟩
    have hgl := N.gl
    obtain ⟨dx, ob⟩ := id NA.ob
    obtain ⟨gv, hgv, ga⟩ := id NA.g
    have hlg : gv.length = gs.length := ga.1
    refine ⟨_, rfl, p, C, dx, _, _, rfl, ob, T.cl, T.nG, nf_gates _ _, ng, _, rfl, SqL.of hgv, fun D hD => ?_⟩
    refine lc_it (walk_enum (K := K) (a := ng) (xs := gv)) (fun i Hc => Hc D = some (.lst (nvs ((List.range i).map (spotF gs)))) ∧ Same H Hc) ⟨by rw [upd_same]; rfl, same_new hD⟩ (fun i Hc _ ⟨_, sm⟩ => SqL.of (sm _ _ hgv)) ?_ ?_
    · rintro i v Hc Hc' hi ⟨hc, sm⟩ ⟨T', x1, y, rfl, hT, rfl, ex, ey⟩
      cases ex
      obtain ⟨g, hg, gvv⟩ := ga.get ey
      have hi' : i < gs.length := (List.getElem?_eq_some_iff.mp hg).1
      have sT := same_new (o := .tup [.int (i : Nat), y]) hT
      have sm2 := sm.trans sT
      have hc2 := sT _ _ hc
      refine ⟨T', _, rfl, .inl (.inl upd_same), rfl, _, _, rfl, _, _, rfl, rfl, rfl, tyes ?_⟩
      generalize upd Hc T' (.tup [.int (i : Nat), y]) = H3 at sT sm2 hc2
      refine ⟨_, rfl, y, g, rfl, gvv.tk (TK.same sm2), fun b hb => ⟨b, rfl, ?_⟩⟩
      have fin : ∀ n : Nat, n = spotF gs i → ∀ z : V, z = .int (n : Nat) → (upd H3 D (.lst (nvs ((List.range i).map (spotF gs)) ++ [z]))) D = some (.lst (nvs ((List.range (i + 1)).map (spotF gs)))) := fun n hn z hz => by
        rw [upd_same, List.range_succ, List.map_append, hz, hn]
        unfold nvs
        rw [List.map_append]
        rfl
      have hll : (nvs ((List.range i).map (spotF gs))).length < sizeLine := by
        rw [nvs_len, List.length_map, List.length_range]
        exact small1000 (by omega)
      have hk := skind_get hg
      cases b with
      | true =>
        refine iteT ⟨_, rfl, p, C, dx, _, _, rfl, sm2 _ _ ob, T.cl, T.nG, nf_gates _ _, ng, gv, rfl, .inl (SqL.of (sm2 _ _ hgv)), _, hc2, hll, fin gv.length ?_ _ rfl, same_mut sm2 hD⟩
        unfold spotF
        rw [if_pos (by rw [hk]; exact hb.mp rfl), hlg]
      | false =>
        refine iteF ⟨_, rfl, _, hc2, hll, fin i ?_ _ rfl, same_mut sm2 hD⟩
        unfold spotF
        rw [if_neg (by rw [hk]; exact fun z => by have := hb.mpr z; cases this)]
    · rintro H2 ⟨hc, sm⟩
      rw [hlg] at hc
      exact q D H2 sm hD hc
abbrev HWaitOf (P : Program) (w : World) (K : PySem.W.Frag) (mg : Str → Option Value) (base : Heap) (C : Addr) := DfH P w K mg base 1 "wait_of" ["net", "piece"] (spWaitOf K C)
theorem hot_waitOf {f C : Addr} {fd : FuncData} (F : Fun K "wait_of" "wait_of" sWaitOf f fd) (hm : mg "wait_of" = some (.ref f)) (B : Bt mg) (ms : mg "sum" = none) (T : NT K mg C) : HWaitOf P w K mg base C f fd := by
  refine ⟨?_, hm, F.kp, F.binds fun _ _ _ _ _ _ us hl => match us, hl with | [_, _], _ => rfl⟩
  refine Fun.okH F scWaitOf (fun vs H Q E h => ?_) (fun cdv A outer s H vs Q E px hp1 hr h => ?_)
  · obtain ⟨p, ng, nw, gs, ws, v, pc, rfl, _⟩ := h
    rfl
  · obtain ⟨p, ng, nw, gs, ws, _, pc, rfl, NA, N, ⟨a, l, rfl, sa, sl⟩, ⟨hg, e0, hp⟩, hpl, q⟩ := h
    have nd := scWaitOf.nd
    refine ⟨_, pss_cons (ps_asg (pv 1) (pg_tupH (hot_of hp1 List.mem_cons_self) (pgs_cons (pg_name (i := 2) nd rfl (.inl rfl)) (pgs_cons (pg_name (i := 3) nd rfl (.inl rfl)) pgs_nil)))) <|
        pss_one (ps_ret (pe_op op_add (pe_ix ix_tup (pe_ix ix_list (pe_fld (pv 0) rfl) (pv 2) (fun _ _ => rfl)) pe_int (fun _ _ => rfl)) (pe_callB (cr_sumH (hot_of hp1 List.mem_cons_self)) (by rfl) ms (by decide +kernel) (pa_cons (pe_lcH (own := [("place", 4)]) (g := (gName 4)) (tt := tYes) (te := (tOp (rIxT K) (tOp (rIxL K) (tFld K (tVar 0) "gates") (tOp (rIxT K) (tOp (rIxL K) (tFld K (tVar 0) "wires") (tVar 4)) (tC (.int 1)))) (tC (.int 1)))) (hot_of hp1 List.mem_cons_self) nd (pi_listH (pv 3)) (blkOk_by (N := nWaitOf) (sc := defScope sWaitOf) (own := [("place", 4)]) (by decide +kernel)) (fun _ _ _ _ _ => (pg_name (i := 4) nd rfl (.inl rfl))) (fun _ _ _ _ _ => pts_nil) (fun _ _ _ _ _ => (pe_ix ix_tup (pe_ix ix_list (pe_fld (pv 0) rfl) (pe_ix ix_tup (pe_ix ix_list (pe_fld (pv 0) rfl) (pv 4) (fun _ _ => rfl)) pe_int (fun _ _ => rfl)) (fun _ _ => rfl)) pe_int (fun _ _ => rfl)))) pa_nil)))), ?_⟩
    obtain ⟨dx, ob⟩ := id NA.ob
    obtain ⟨gv, hgv, ga⟩ := id NA.g
    obtain ⟨wv, hwv, wa⟩ := id NA.w
    have gat : ∀ g, g < gs.length → ∀ H', Same H H' → ∃ b, gv[g]? = some (.ref b) ∧ ∃ k, SqT K H' b [.str k, .int (gw gs g)] := fun g hg H' s => by
      obtain ⟨_, hv, b, rfl, sq⟩ := ga.getR (List.getElem?_eq_getElem hg)
      refine ⟨b, hv, (gs[g]).1, ?_⟩
      rw [gw_get (List.getElem?_eq_getElem hg)]
      exact (TK.same s).seq sq
    refine ⟨_, rfl, a, _, rfl, sa, rfl, _, _, rfl, _, _, rfl, rfl, ?_⟩
    obtain ⟨b0, hb0, k0, sb0⟩ := gat pc.1 hg H (Same.refl _)
    refine ⟨_, rfl, p, C, dx, _, _, rfl, ob, T.cl, T.nG, nf_gates _ _, _, rfl, ng, _, pc.1, _, rfl, rfl, SqL.of hgv, atI_nat hb0, b0, _, 1, _, rfl, rfl, sb0, atI_nat (j := 1) rfl, ?_⟩
    refine ⟨_, rfl, l, rfl, ⟨_, sl⟩, fun D hD => ?_⟩
    refine lc_list (K := K) (a := l) (xs := nvs pc.2) (fun i Hc => Hc D = some (.lst ((((pc.2.take i).map fun p => gw gs (svW ws p).2.1)).map V.int)) ∧ Same H Hc) ⟨by rw [upd_same]; rfl, same_new hD⟩ (fun i Hc _ ⟨_, sm⟩ => sm.seq sl) ?_ ?_
    · rintro i v Hc hv ⟨hc, sm⟩
      obtain ⟨k, hk, rfl⟩ := nvs_of hv
      have hkw := hp.places k (List.mem_of_getElem? hk)
      have hx := List.getElem?_eq_getElem hkw
      obtain ⟨_, hv', b, b2, rfl, s1, s2⟩ := wa.getR hx
      have WX := N.wok _ (List.mem_of_getElem? hx)
      obtain ⟨b3, hb3, k3, sb3⟩ := gat _ WX.e Hc sm
      refine ⟨rfl, tyes ?_⟩
      refine ⟨_, rfl, p, C, dx, _, _, rfl, sm _ _ ob, T.cl, T.nG, nf_gates _ _, _, rfl, p, C, dx, _, _, rfl, sm _ _ ob, T.cl, T.nW, nf_wires _ _, _, rfl, nw, _, k, _, rfl, rfl, SqL.of (sm _ _ hwv), atI_nat hv', b, _, 1, _, rfl, rfl, (TK.same sm).seq s1, atI_nat (j := 1) rfl, ng, _, _, _, rfl, rfl, SqL.of (sm _ _ hgv), atI_nat hb3, b3, _, 1, _, rfl, rfl, sb3, atI_nat (j := 1) rfl, _, hc, ?_, ?_, same_mut sm hD⟩
      · rw [List.length_map, List.length_map, List.length_take]
        exact small1000 (by omega)
      · rw [upd_same, List.take_add_one, hk, List.map_append, List.map_append]
        show _ = some (HO.lst (_ ++ [V.int (gw gs (svW ws k).2.1)]))
        rw [svW_get hx]
    · rintro H2 ⟨hc, sm⟩
      rw [nvs_len, List.take_length] at hc
      exact ⟨D, _, rfl, SqL.of hc, _, _, rfl, rfl, q H2 sm⟩
abbrev HRoomOf (P : Program) (w : World) (K : PySem.W.Frag) (mg : Str → Option Value) (base : Heap) (C : Addr) := DfH P w K mg base 2 "room_of" ["net", "beat", "piece"] (spRoomOf K C)
theorem hot_roomOf {f fW C : Addr} {fd fdW : FuncData} (F : Fun K "room_of" "room_of" sRoomOf f fd) (hm : mg "room_of" = some (.ref f)) (B : Bt mg) (ms : mg "sum" = none) (T : NT K mg C) (DWt : HWaitOf P w K mg base C fW fdW) : HRoomOf P w K mg base C f fd := by
  refine ⟨?_, hm, F.kp, F.binds fun _ _ _ _ _ _ us hl => match us, hl with | [_, _, _], _ => rfl⟩
  refine Fun.okH F scRoomOf (fun vs H Q E h => ?_) (fun cdv A outer s H vs Q E px hp1 hr h => ?_)
  · obtain ⟨p, ng, nw, gs, ws, b, v, pc, rfl, _⟩ := h
    rfl
  · obtain ⟨p, ng, nw, gs, ws, bt, _, pc, rfl, NA, N, ⟨a, l, rfl, sa, sl⟩, ⟨hg, e0, hp⟩, hpl, q⟩ := h
    have nd := scRoomOf.nd
    refine ⟨_, pss_cons (ps_asg (pv 2) (pg_tupH (hot_of hp1 List.mem_cons_self) (pgs_cons (pg_name (i := 3) nd rfl (.inl rfl)) (pgs_cons (pg_name (i := 4) nd rfl (.inl rfl)) pgs_nil)))) <|
        pss_cons (ps_set (i := 6) nd rfl (.inl rfl) (pe_callB (cr_sumH (hot_of hp1 List.mem_cons_self)) (by rfl) ms (by decide +kernel) (pa_cons (pe_lcH (own := [("place", 5)]) (g := (gName 5)) (tt := tYes) (te := (tCB (Evl.rLenS K) (tCons (tOp (rIxT K) (tOp (rIxL K) (tFld K (tVar 0) "wires") (tVar 5)) (tC (.int 2))) tNil))) (hot_of hp1 List.mem_cons_self) nd (pi_listH (pv 4)) (blkOk_by (N := nRoomOf) (sc := defScope sRoomOf) (own := [("place", 5)]) (by decide +kernel)) (fun _ _ _ _ _ => (pg_name (i := 5) nd rfl (.inl rfl))) (fun _ _ _ _ _ => pts_nil) (fun _ _ _ _ _ => (pe_callB call_len_seq (by rfl) B.len PySem.boot_len (pa_cons (pe_ix ix_tup (pe_ix ix_list (pe_fld (pv 0) rfl) (pv 5) (fun _ _ => rfl)) pe_int (fun _ _ => rfl)) pa_nil)))) pa_nil))) <|
        pss_one (ps_ret (pe_ifExp (pt_cmpR op_gt (pe_callH (E := fun _ => E0) DWt.ok (hr.mono (by decide)) (hot_of hp1 List.mem_cons_self) (by rfl) DWt.mg DWt.kp DWt.bd passH (pa_cons (pv 0) (pa_cons (pv 2) pa_nil))) (pv 1) (nomark _)) (pe_op op_sub (pv 6) pe_int) (pv 6))), ?_⟩
    obtain ⟨dx, ob⟩ := id NA.ob
    obtain ⟨wv, hwv, wa⟩ := id NA.w
    refine ⟨_, rfl, a, _, rfl, sa, rfl, _, _, rfl, _, _, rfl, rfl, ?_⟩
    refine ⟨_, rfl, l, rfl, ⟨_, sl⟩, fun D hD => ?_⟩
    refine lc_list (K := K) (a := l) (xs := nvs pc.2) (fun i Hc => Hc D = some (.lst ((((pc.2.take i).map fun p => (((svW ws p).2.2.length : Nat) : Int))).map V.int)) ∧ Same H Hc) ⟨by rw [upd_same]; rfl, same_new hD⟩ (fun i Hc _ ⟨_, sm⟩ => sm.seq sl) ?_ ?_
    · rintro i v Hc hv ⟨hc, sm⟩
      obtain ⟨k, hk, rfl⟩ := nvs_of hv
      have hkw := hp.places k (List.mem_of_getElem? hk)
      have hx := List.getElem?_eq_getElem hkw
      obtain ⟨_, hv', b, b2, rfl, s1, s2⟩ := wa.getR hx
      refine ⟨rfl, tyes ?_⟩
      refine ⟨_, rfl, p, C, dx, _, _, rfl, sm _ _ ob, T.cl, T.nW, nf_wires _ _, _, rfl, nw, _, k, _, rfl, rfl, SqL.of (sm _ _ hwv), atI_nat hv', b, _, 2, _, rfl, rfl, (TK.same sm).seq s1, atI_nat (j := 2) rfl, b2, _, rfl, .inr ((TK.same sm).seq s2), _, hc, ?_, ?_, same_mut sm hD⟩
      · rw [List.length_map, List.length_map, List.length_take]
        exact small1000 (by omega)
      · rw [upd_same, List.take_add_one, hk, List.map_append, List.map_append]
        show _ = some (HO.lst (_ ++ [V.int (((svW ws k).2.2.length : Nat) : Int)]))
        rw [svW_get hx, List.length_map]
    · rintro H2 ⟨hc, sm⟩
      rw [nvs_len, List.take_length] at hc
      refine ⟨D, _, rfl, SqL.of hc, ?_⟩
      refine gn_norm (σ' := [some (.ref p), some (.int bt), some (.ref a), some (.int (pc.1 : Nat)), some (.ref l), none, some (.int (prg ws pc.2))]) rfl ?_
      refine ⟨_, rfl, _, rfl, p, ng, nw, gs, ws, _, pc, rfl, NA.same sm, N, PceV.same sm ⟨a, l, rfl, sa, sl⟩, ⟨hg, e0, hp⟩, hpl, fun H3 s3 => ?_⟩
      have qq := q H3 (sm.trans s3)
      unfold roomF at qq
      refine ⟨_, rfl, _, _, rfl, rfl, _, rfl, ?_⟩
      by_cases hb : bt < pwt gs ws pc.1 pc.2
      · rw [if_pos hb] at qq
        rw [decide_eq_true hb]
        exact iteT ⟨_, rfl, _, _, rfl, rfl, qq⟩
      · rw [if_neg hb] at qq
        rw [decide_eq_false hb]
        exact iteF ⟨_, rfl, qq⟩
abbrev HIsPiece (P : Program) (w : World) (K : PySem.W.Frag) (mg : Str → Option Value) (base : Heap) (C : Addr) := DfH P w K mg base 3 "is_piece" ["net", "thing"] (spIsPiece K C)
theorem hot_isPiece {f fF C : Addr} {fd fdF : FuncData} (F : Fun K "is_piece" "is_piece" sIsPiece f fd) (hm : mg "is_piece" = some (.ref f)) (B : Bt mg) (T : NT K mg C) (DF : HFromTo P w K mg base fF fdF) : HIsPiece P w K mg base C f fd := by
  refine ⟨?_, hm, F.kp, F.binds fun _ _ _ _ _ _ us hl => match us, hl with | [_, _], _ => rfl⟩
  refine Fun.okH F scIsPiece (fun vs H Q E h => ?_) (fun cdv A outer s H vs Q E px hp1 hr h => ?_)
  · obtain ⟨p, ng, nw, gs, ws, v, pc, rfl, _⟩ := h
    rfl
  · obtain ⟨p, ng, nw, gs, ws, _, pc, rfl, NA, N, ⟨a, l, rfl, sa, sl⟩, ⟨hg, e0, hp⟩, q⟩ := h
    have nd := scIsPiece.nd
    refine ⟨_, pss_cons (ps_if (PW.pt (pw_or (pt_not (pt_val (pe_callB call_isi (by rfl) B.isi (by decide +kernel) (pa_cons (pv 1) (pa_cons (pe_bltn (v := .ty "tuple") (by rfl) B.tuple (by decide +kernel) rfl) pa_nil))))) (pw_or1 (pt_cmpR op_ne (pe_callB call_len_seq (by rfl) B.len PySem.boot_len (pa_cons (pv 1) pa_nil)) pe_int (nomark _))))) (pss_one (ps_ret pe_bl)) pss_nil) <|
        pss_cons (ps_asg (pv 1) (pg_tupH (hot_of hp1 List.mem_cons_self) (pgs_cons (pg_name (i := 2) nd rfl (.inl rfl)) (pgs_cons (pg_name (i := 3) nd rfl (.inl rfl)) pgs_nil)))) <|
        pss_cons (ps_if (PW.pt (pw_or (pt_not (pt_val (pe_callH (E := fun _ => E0) DF.ok (hr.mono (by decide)) (hot_of hp1 List.mem_cons_self) (by rfl) DF.mg DF.kp DF.bd passH (pa_cons (pv 2) (pa_cons pe_int (pa_cons (pe_op op_sub (pe_callB call_len_seq (by rfl) B.len PySem.boot_len (pa_cons (pe_fld (pv 0) rfl) pa_nil)) pe_int) pa_nil)))))) (pw_or1 (pt_not (pt_val (pe_callB call_isi (by rfl) B.isi (by decide +kernel) (pa_cons (pv 3) (pa_cons (pe_bltn (v := .ty "list") (by rfl) B.list (by decide +kernel) rfl) pa_nil)))))))) (pss_one (ps_ret pe_bl)) pss_nil) <|
        pss_cons (ps_forH PassesOwn.never (hot_of hp1 List.mem_cons_self) (pi_listH (pv 3)) (pg_name (i := 4) nd rfl (.inl rfl)) (pss_cons (ps_if (PW.pt (pw_or (pt_not (pt_val (pe_callH (E := fun _ => E0) DF.ok (hr.mono (by decide)) (hot_of hp1 List.mem_cons_self) (by rfl) DF.mg DF.kp DF.bd passH (pa_cons (pv 4) (pa_cons pe_int (pa_cons (pe_op op_sub (pe_callB call_len_seq (by rfl) B.len PySem.boot_len (pa_cons (pe_fld (pv 0) rfl) pa_nil)) pe_int) pa_nil)))))) (pw_or1 (pt_cmpR op_ne (pe_ix ix_tup (pe_ix ix_list (pe_fld (pv 0) rfl) (pv 4) (fun _ _ => rfl)) pe_int (fun _ _ => rfl)) (pv 2) (nomark _))))) (pss_one (ps_ret pe_bl)) pss_nil) <|
        pss_one (ps_set (i := 2) nd rfl (.inl rfl) (pe_ix ix_tup (pe_ix ix_list (pe_fld (pv 0) rfl) (pv 4) (fun _ _ => rfl)) pe_int (fun _ _ => rfl))))) <|
        pss_one (ps_ret pe_bl), ?_⟩
    obtain ⟨dx, ob⟩ := id NA.ob
    obtain ⟨gv, hgv, ga⟩ := id NA.g
    obtain ⟨wv, hwv, wa⟩ := id NA.w
    have hlw : wv.length = ws.length := wa.1
    have hlg : gv.length = gs.length := ga.1
    refine ⟨_, rfl, _, _, _, _, true, rfl, .ty "tuple", ty_tup sa, kit_ty (by decide +kernel), true, rfl, iteF ?_⟩
    refine ⟨_, rfl, a, _, rfl, .inr sa, rfl, false, rfl, iteF ?_⟩
    refine ⟨_, rfl, a, _, rfl, sa, rfl, _, _, rfl, _, _, rfl, rfl, ?_⟩
    refine ⟨_, rfl, _, rfl, p, C, dx, _, _, rfl, ob, T.cl, T.nG, nf_gates _ _, ng, gv, rfl, .inl (SqL.of hgv), _, _, rfl, rfl, ((pc.1 : Nat) : Int), 0, _, rfl, true, ?_, iteF ?_⟩
    · show V.bl (decide ((0 : Int) ≤ ((pc.1 : Nat) : Int)) && decide (((pc.1 : Nat) : Int) ≤ ((gv.length : Nat) : Int) - 1)) = V.bl true
      rw [decide_eq_true (by omega), decide_eq_true (by omega)]
      rfl
    refine ⟨_, rfl, _, _, _, _, true, rfl, .ty "list", ty_lst sl, kit_ty (by decide +kernel), true, rfl, iteF ?_⟩
    refine ⟨_, rfl, l, rfl, ⟨_, sl⟩, for_list (K := K) (a := l) (xs := nvs pc.2) (fun i σ H' => ∃ (g : Nat) (u4 : Option V), σ = [some (.ref p), some (.ref a), some (.int ((g : Nat) : Int)), some (.ref l), u4] ∧ Pw ws pc.1 (pc.2.take i) g ∧ Same H H') ⟨pc.1, _, rfl, rfl, Same.refl H⟩ (fun i σ H2 _ ⟨_, _, _, _, sm⟩ => sm.seq sl) ?_ ?_⟩
    · rintro i v σ H1 hv ⟨g, u4, rfl, hpw, sm⟩
      obtain ⟨k, hk, rfl⟩ := nvs_of hv
      have hkw := hp.places k (List.mem_of_getElem? hk)
      have hx := List.getElem?_eq_getElem hkw
      obtain ⟨_, hv', b, b2, rfl, s1, s2⟩ := wa.getR hx
      obtain ⟨hil, hke⟩ := List.getElem?_eq_some_iff.mp hk
      have es : pc.2 = pc.2.take i ++ k :: pc.2.drop (i + 1) := by
        rw [← hke, List.getElem_cons_drop hil, List.take_append_drop]
      have hgx : ws[k].1 = g := by
        rw [es] at hp
        obtain ⟨m, h1, x, hx', hs, _⟩ := hp.split
        rw [hx] at hx'
        cases hx'
        rw [hs]
        exact h1.fn hpw
      have tk := TK.same sm
      refine gn_norm (σ' := [some (.ref p), some (.ref a), some (.int ((g : Nat) : Int)), some (.ref l), some (.int ((k : Nat) : Int))]) rfl ?_
      refine ⟨_, rfl, _, rfl, p, C, dx, _, _, rfl, sm _ _ ob, T.cl, T.nW, nf_wires _ _, nw, wv, rfl, .inl (SqL.of (sm _ _ hwv)), _, _, rfl, rfl, ((k : Nat) : Int), 0, _, rfl, true, ?_, iteF ?_⟩
      · show V.bl (decide ((0 : Int) ≤ ((k : Nat) : Int)) && decide (((k : Nat) : Int) ≤ ((wv.length : Nat) : Int) - 1)) = V.bl true
        rw [decide_eq_true (by omega), decide_eq_true (by omega)]
        rfl
      refine ⟨_, rfl, p, C, dx, _, _, rfl, sm _ _ ob, T.cl, T.nW, nf_wires _ _, _, rfl, nw, _, k, _, rfl, rfl, SqL.of (sm _ _ hwv), atI_nat hv', b, _, 0, _, rfl, rfl, tk.seq s1, atI_nat (j := 0) rfl, _, rfl, rfl, false, ?_, iteF ?_⟩
      · rw [hgx, decide_eq_true rfl]
        rfl
      refine ⟨_, rfl, p, C, dx, _, _, rfl, sm _ _ ob, T.cl, T.nW, nf_wires _ _, _, rfl, nw, _, k, _, rfl, rfl, SqL.of (sm _ _ hwv), atI_nat hv', b, _, 1, _, rfl, rfl, tk.seq s1, atI_nat (j := 1) rfl, ws[k].2.1, _, rfl, ?_, sm⟩
      rw [List.take_add_one, hk]
      exact hpw.snoc hx hgx
    · rintro σ H1 ⟨g, u4, rfl, hpw, sm⟩
      exact q H1 sm
abbrev HEndOf (P : Program) (w : World) (K : PySem.W.Frag) (mg : Str → Option Value) (base : Heap) (C : Addr) := DfH P w K mg base 1 "end_of" ["net", "piece"] (spEndOf K C)
theorem hot_endOf {f C : Addr} {fd : FuncData} (F : Fun K "end_of" "end_of" sEndOf f fd) (hm : mg "end_of" = some (.ref f)) (B : Bt mg) (T : NT K mg C) : HEndOf P w K mg base C f fd := by
  refine ⟨?_, hm, F.kp, F.binds fun _ _ _ _ _ _ us hl => match us, hl with | [_, _], _ => rfl⟩
  refine Fun.okH F scEndOf (fun vs H Q E h => ?_) (fun cdv A outer s H vs Q E px hp1 hr h => ?_)
  · obtain ⟨p, ng, nw, gs, ws, v, pc, rfl, _⟩ := h
    rfl
  · obtain ⟨p, ng, nw, gs, ws, _, pc, rfl, NA, N, ⟨a, l, rfl, sa, sl⟩, ⟨hg, e0, hp⟩, q⟩ := h
    have nd := scEndOf.nd
    refine ⟨_, pss_cons (ps_asg (pv 1) (pg_tupH (hot_of hp1 List.mem_cons_self) (pgs_cons (pg_name (i := 2) nd rfl (.inl rfl)) (pgs_cons (pg_name (i := 3) nd rfl (.inl rfl)) pgs_nil)))) <|
        pss_one (ps_ret (pe_ifExp (pt_cmpR op_gt (pe_callB call_len_seq (by rfl) B.len PySem.boot_len (pa_cons (pv 3) pa_nil)) pe_int (nomark _)) (pe_ix ix_tup (pe_ix ix_list (pe_fld (pv 0) rfl) (pe_ix ix_list (pv 3) (pe_un un_neg pe_int) (fun _ _ => rfl)) (fun _ _ => rfl)) pe_int (fun _ _ => rfl)) (pv 2))), ?_⟩
    obtain ⟨dx, ob⟩ := id NA.ob
    obtain ⟨wv, hwv, wa⟩ := id NA.w
    refine ⟨_, rfl, a, _, rfl, sa, rfl, _, _, rfl, _, _, rfl, rfl, ?_⟩
    refine ⟨_, rfl, l, nvs pc.2, rfl, .inl sl, _, _, rfl, rfl, _, rfl, ite2 (fun e => ?_) (fun e => ?_)⟩
    · have hne : 0 < pc.2.length := by
        have := of_decide_eq_true e
        rw [nvs_len] at this
        omega
      rcases List.eq_nil_or_concat pc.2 with z | ⟨r, k, z⟩
      · rw [z] at hne
        cases hne
      · rw [List.concat_eq_append] at z
        have hkk := hp.places k (by rw [z]; exact List.mem_append.mpr (.inr (List.mem_singleton.mpr rfl)))
        have hx := List.getElem?_eq_getElem hkk
        obtain ⟨_, hv', b, b2, rfl, s1, s2⟩ := wa.getR hx
        have hl : (nvs pc.2).length = r.length + 1 := by
          rw [nvs_len, z, List.length_append]
          rfl
        have hlast : (nvs pc.2)[r.length]? = some (.int ((k : Nat) : Int)) := nvs_at (by rw [z, List.getElem?_append_right (Nat.le_refl _), Nat.sub_self]; rfl)
        refine ⟨_, rfl, p, C, dx, _, _, rfl, ob, T.cl, T.nW, nf_wires _ _, _, rfl, _, rfl, l, nvs pc.2, -1, _, rfl, rfl, sl, at_last hl hlast, nw, _, k, _, rfl, rfl, SqL.of hwv, atI_nat hv', b, _, 1, _, rfl, rfl, s1, atI_nat (j := 1) rfl, ?_⟩
        have : endW ws pc.1 pc.2 = (ws[k]'hkk).2.1 := by
          rw [z]
          unfold endW
          rw [List.foldl_append]
          show (svW ws k).2.1 = _
          rw [svW_get hx]
        rw [← this]
        exact q
    · have h0 : pc.2 = [] := by
        refine List.length_eq_zero_iff.mp ?_
        have : ¬ (((nvs pc.2).length : Nat) : Int) > 0 := fun h => e (decide_eq_true h)
        rw [nvs_len] at this
        omega
      have : endW ws pc.1 pc.2 = pc.1 := by rw [h0]; rfl
      rw [this] at q
      exact ⟨_, rfl, q⟩
abbrev HEndsOf (P : Program) (w : World) (K : PySem.W.Frag) (mg : Str → Option Value) (base : Heap) (C : Addr) := DfH P w K mg base 2 "ends_of" ["net", "piece"] (spEndsOf K C)
theorem hot_endsOf {f fE C : Addr} {fd fdE : FuncData} (F : Fun K "ends_of" "ends_of" sEndsOf f fd) (hm : mg "ends_of" = some (.ref f)) (DEo : HEndOf P w K mg base C fE fdE) : HEndsOf P w K mg base C f fd := by
  refine ⟨?_, hm, F.kp, F.binds fun _ _ _ _ _ _ us hl => match us, hl with | [_, _], _ => rfl⟩
  refine Fun.okH F scEndsOf (fun vs H Q E h => ?_) (fun cdv A outer s H vs Q E px hp1 hr h => ?_)
  · obtain ⟨p, ng, nw, gs, ws, v, pc, rfl, _⟩ := h
    rfl
  · obtain ⟨p, ng, nw, gs, ws, _, pc, rfl, NA, N, pcv, pok, q⟩ := h
    have nd := scEndsOf.nd
    refine ⟨_, pss_one (ps_ret (pe_tup (pa_cons (pe_ix ix_tup (pv 1) pe_int (fun _ _ => rfl)) (pa_cons (pe_callH (E := fun _ => E0) DEo.ok (hr.mono (by decide)) (hot_of hp1 List.mem_cons_self) (by rfl) DEo.mg DEo.kp DEo.bd passH (pa_cons (pv 0) (pa_cons (pv 1) pa_nil))) pa_nil)))), ?_⟩
    obtain ⟨a, l, rfl, sa, sl⟩ := id pcv
    exact ⟨_, rfl, a, _, 0, _, rfl, rfl, sa, atI_nat (j := 0) rfl, _, rfl, _, rfl, p, ng, nw, gs, ws, _, pc, rfl, NA, N, pcv, pok, (by show 2 ≤ sizeLine; decide), fun t ht => q t _ (same_new ht) ht upd_same⟩
abbrev HFirstGap (P : Program) (w : World) (K : PySem.W.Frag) (mg : Str → Option Value) (base : Heap) (C : Addr) := DfH P w K mg base 3 "first_gap" ["net", "ends"] (spFirstGap K C)
theorem hot_firstGap {f fS C : Addr} {fd fdS : FuncData} (F : Fun K "first_gap" "first_gap" sFirstGap f fd) (hm : mg "first_gap" = some (.ref f)) (B : Bt mg) (DSp : HSpotsOf P w K mg base C fS fdS) : HFirstGap P w K mg base C f fd := by
  refine ⟨?_, hm, F.kp, F.binds fun _ _ _ _ _ _ us hl => match us, hl with | [_, _], _ => rfl⟩
  refine Fun.okH F scFirstGap (fun vs H Q E h => ?_) (fun cdv A outer s H vs Q E px hp1 hr h => ?_)
  · obtain ⟨p, ng, nw, le, gs, ws, ev, es, rfl, _⟩ := h
    rfl
  · obtain ⟨p, ng, nw, le, gs, ws, ev, es, rfl, NA, N, hev, ea, elt, ring, q⟩ := h
    have nd := scFirstGap.nd
    refine ⟨_, pss_cons (ps_set (i := 2) nd rfl (.inl rfl) (pe_callH (E := fun _ => E0) DSp.ok (hr.mono (by decide)) (hot_of hp1 List.mem_cons_self) (by rfl) DSp.mg DSp.kp DSp.bd passH (pa_cons (pv 0) pa_nil))) <|
        pss_cons (ps_forH PassesOwn.never (hot_of hp1 List.mem_cons_self) (pi_enumH (by rfl) B.enum (pa_cons (pv 1) pa_nil)) (pg_tupH (hot_of hp1 List.mem_cons_self) (pgs_cons (pg_name (i := 3) nd rfl (.inl rfl)) (pgs_cons (pg_tupH (hot_of hp1 List.mem_cons_self) (pgs_cons (pg_name (i := 4) nd rfl (.inl rfl)) (pgs_cons (pg_name (i := 5) nd rfl (.inl rfl)) pgs_nil))) pgs_nil))) (pss_cons (ps_set (i := 6) nd rfl (.inl rfl) (pe_ix ix_list (pv 1) (pe_op op_mod (pe_op op_add (pv 3) pe_int) (pe_callB call_len_seq (by rfl) B.len PySem.boot_len (pa_cons (pv 1) pa_nil))) (fun _ _ => rfl))) <|
        pss_one (ps_if (pt_cmpR op_ne (pe_ix ix_list (pv 2) (pv 5) (fun _ _ => rfl)) (pe_ix ix_list (pv 2) (pe_ix ix_tup (pv 6) pe_int (fun _ _ => rfl)) (fun _ _ => rfl)) (nomark _)) (pss_one (ps_ret (pv 3))) pss_nil))) <|
        pss_one (ps_ret pe_non), ?_⟩
    have hle : ev.length = es.length := ea.1
    refine ⟨_, rfl, p, ng, nw, gs, ws, rfl, NA, N, fun ls H1 s1 hls els => ?_⟩
    refine gn_norm (σ' := [some (.ref p), some (.ref le), some (.ref ls), none, none, none, none]) rfl ?_
    refine ⟨_, rfl, le, ev, rfl, SqL.of (s1 _ _ hev), for_it (walk_enum (K := K) (a := le) (xs := ev)) (fun j σ H' => ∃ (u3 u4 u5 u6 : Option V), σ = [some (.ref p), some (.ref le), some (.ref ls), u3, u4, u5, u6] ∧ Same H1 H') ⟨_, _, _, _, rfl, Same.refl _⟩ (fun j σ H' _ ⟨_, _, _, _, _, sm⟩ => SqL.of (sm _ _ (s1 _ _ hev))) ?_ ?_⟩
    · rintro j v σ H7 H7' hj ⟨u3, u4, u5, u6, rfl, sm⟩ ⟨T', x1, y, rfl, hT, rfl, ex, ey⟩
      cases ex
      obtain ⟨e, he, a, rfl, sq⟩ := ea.get ey
      have hji : j < es.length := (List.getElem?_eq_some_iff.mp he).1
      have sT := same_new (o := .tup [.int (j : Nat), .ref a]) hT
      have eT : (upd H7 T' (.tup [.int (j : Nat), .ref a])) T' = some (.tup [.int (j : Nat), .ref a]) := upd_same
      have sm8 := sm.trans sT
      generalize upd H7 T' (.tup [.int (j : Nat), .ref a]) = H8 at sT eT sm8
      have tk8 := TK.same (s1.trans sm8)
      obtain ⟨e', he', hsp⟩ := ring j e he
      obtain ⟨_, hve', a', rfl, sq'⟩ := ea.getR he'
      have hev8 := sm8 _ _ (s1 _ _ hev)
      have els8 := sm8 _ _ els
      have lt1 := (elt e (List.mem_of_getElem? he)).2
      have lt2 := (elt e' (List.mem_of_getElem? he')).1
      refine ⟨T', _, rfl, .inl (.inl eT), rfl, _, _, rfl, _, _, rfl, a, _, rfl, tk8.seq sq, rfl, _, _, rfl, _, _, rfl, rfl, rfl, ?_⟩
      refine ⟨_, rfl, _, rfl, _, _, rfl, rfl, _, rfl, le, ev, rfl, .inl (SqL.of hev8), _, _, rfl, rfl, (by show (0 : Int) < ((ev.length : Nat) : Int); omega), ?_⟩
      have em : (((j : Nat) : Int) + 1) % ((ev.length : Nat) : Int) = (((j + 1) % es.length : Nat) : Int) := by
        rw [hle, Int.natCast_emod]
        rfl
      refine ⟨le, ev, (((j + 1) % es.length : Nat) : Int), _, rfl, congrArg V.int em, SqL.of hev8, atI_nat hve', ?_⟩
      refine gn_norm (σ' := [some (.ref p), some (.ref le), some (.ref ls), some (.int ((j : Nat) : Int)), some (.int ((e.1 : Nat) : Int)), some (.int ((e.2 : Nat) : Int)), some (.ref a')]) rfl ?_
      refine ⟨_, rfl, _, rfl, ls, _, e.2, _, rfl, rfl, SqL.of els8, atI_nat (spots_at lt1), _, rfl, _, rfl, a', _, 0, _, rfl, rfl, tk8.seq sq', atI_nat (j := 0) rfl, ls, _, e'.1, _, rfl, rfl, SqL.of els8, atI_nat (spots_at lt2), rfl, false, ?_, iteF ⟨_, _, _, _, rfl, sm8⟩⟩
      rw [hsp, decide_eq_true rfl]
      rfl
    · rintro σ H7 ⟨u3, u4, u5, u6, rfl, sm⟩
      exact q H7 (s1.trans sm)
abbrev HBarFault (P : Program) (w : World) (K : PySem.W.Frag) (mg : Str → Option Value) (base : Heap) (C : Addr) := DfH P w K mg base 4 "bar_fault" ["net", "beat", "thing"] (spBarFault K C)
theorem hot_barFault {f fC fI fE fG fR C : Addr} {fd fdC fdI fdE fdG fdR : FuncData} (F : Fun K "bar_fault" "bar_fault" sBarFault f fd) (hm : mg "bar_fault" = some (.ref f)) (B : Bt mg) (ms : mg "sum" = none) (DCb : HChkB P w K mg base fC fdC) (DIp : HIsPiece P w K mg base C fI fdI) (DEs : HEndsOf P w K mg base C fE fdE) (DFg : HFirstGap P w K mg base C fG fdG) (DRm : HRoomOf P w K mg base C fR fdR) : HBarFault P w K mg base C f fd := by
  refine ⟨?_, hm, F.kp, F.binds fun _ _ _ _ _ _ us hl => match us, hl with | [_, _, _], _ => rfl⟩
  refine Fun.okH F scBarFault (fun vs H Q E h => ?_) (fun cdv A outer s H vs Q E px hp1 hr h => ?_)
  · obtain ⟨p, ng, nw, l, gs, ws, b, pcs, rfl, _⟩ := h
    rfl
  · obtain ⟨p, ng, nw, l, gs, ws, b, pcs, rfl, NA, N, hb, bar, hne, hl2, pok, ⟨v0, jn⟩, q1, q2⟩ := h
    have nd := scBarFault.nd
    refine ⟨_, pss_cons (ps_expr (pe_callH (E := fun _ => E0) DCb.ok (hr.mono (by decide)) (hot_of hp1 List.mem_cons_self) (by rfl) DCb.mg DCb.kp DCb.bd passH (pa_cons (pv 1) pa_nil))) <|
        pss_cons (ps_if (PW.pt (pw_or (pt_not (pt_val (pe_callB call_isi (by rfl) B.isi (by decide +kernel) (pa_cons (pv 2) (pa_cons (pe_bltn (v := .ty "list") (by rfl) B.list (by decide +kernel) rfl) pa_nil))))) (pw_or1 (pt_cmpR op_eq (pe_callB call_len_seq (by rfl) B.len PySem.boot_len (pa_cons (pv 2) pa_nil)) pe_int (nomark _))))) (pss_one (ps_ret (pe_tup (pa_cons pe_str pa_nil)))) pss_nil) <|
        pss_cons (ps_if (pt_not (pt_val (pe_callB (cr_allH (hot_of hp1 List.mem_cons_self)) (by rfl) B.all (by decide +kernel) (pa_cons (pe_lcH (own := [("piece", 3)]) (g := (gName 3)) (tt := tYes) (te := (tCallS (spIsPiece K C) (fun _ => E0) (tCons (tVar 0) (tCons (tVar 3) tNil)))) (hot_of hp1 List.mem_cons_self) nd (pi_listH (pv 2)) (blkOk_by (N := nBarFault) (sc := defScope sBarFault) (own := [("piece", 3)]) (by decide +kernel)) (fun _ _ _ _ _ => (pg_name (i := 3) nd rfl (.inl rfl))) (fun _ _ _ _ _ => pts_nil) (fun _ _ _ _ _ => (pe_callH (E := fun _ => E0) DIp.ok (hr.mono (by decide)) (hot_of hp1 List.mem_cons_self) (by rfl) DIp.mg DIp.kp DIp.bd passH (pa_cons (pv 0) (pa_cons (pv 3) pa_nil))))) pa_nil)))) (pss_one (ps_ret (pe_tup (pa_cons pe_str pa_nil)))) pss_nil) <|
        pss_cons (ps_set (i := 4) nd rfl (.inl rfl) (pe_callH (E := fun _ => E0) DFg.ok (hr.mono (by decide)) (hot_of hp1 List.mem_cons_self) (by rfl) DFg.mg DFg.kp DFg.bd passH (pa_cons (pv 0) (pa_cons (pe_lcH (own := [("piece", 3)]) (g := (gName 3)) (tt := tYes) (te := (tCallS (spEndsOf K C) (fun _ => E0) (tCons (tVar 0) (tCons (tVar 3) tNil)))) (hot_of hp1 List.mem_cons_self) nd (pi_listH (pv 2)) (blkOk_by (N := nBarFault) (sc := defScope sBarFault) (own := [("piece", 3)]) (by decide +kernel)) (fun _ _ _ _ _ => (pg_name (i := 3) nd rfl (.inl rfl))) (fun _ _ _ _ _ => pts_nil) (fun _ _ _ _ _ => (pe_callH (E := fun _ => E0) DEs.ok (hr.mono (by decide)) (hot_of hp1 List.mem_cons_self) (by rfl) DEs.mg DEs.kp DEs.bd passH (pa_cons (pv 0) (pa_cons (pv 3) pa_nil))))) pa_nil)))) <|
        pss_cons (ps_if (pt_cmpR op_notN (pv 4) pe_non (nomark _)) (pss_one (ps_ret (pe_tup (pa_cons pe_str (pa_cons (pv 4) pa_nil))))) pss_nil) <|
        pss_cons (ps_set (i := 5) nd rfl (.inl rfl) (pe_callB (cr_sumH (hot_of hp1 List.mem_cons_self)) (by rfl) ms (by decide +kernel) (pa_cons (pe_lcH (own := [("piece", 3)]) (g := (gName 3)) (tt := tYes) (te := (tCallS (spRoomOf K C) (fun _ => E0) (tCons (tVar 0) (tCons (tVar 1) (tCons (tVar 3) tNil))))) (hot_of hp1 List.mem_cons_self) nd (pi_listH (pv 2)) (blkOk_by (N := nBarFault) (sc := defScope sBarFault) (own := [("piece", 3)]) (by decide +kernel)) (fun _ _ _ _ _ => (pg_name (i := 3) nd rfl (.inl rfl))) (fun _ _ _ _ _ => pts_nil) (fun _ _ _ _ _ => (pe_callH (E := fun _ => E0) DRm.ok (hr.mono (by decide)) (hot_of hp1 List.mem_cons_self) (by rfl) DRm.mg DRm.kp DRm.bd passH (pa_cons (pv 0) (pa_cons (pv 1) (pa_cons (pv 3) pa_nil)))))) pa_nil))) <|
        pss_one (ps_ret (pe_ifExp (pt_cmpR op_ge (pv 5) pe_int (nomark _)) (pe_tup (pa_cons pe_str (pa_cons (pv 5) pa_nil))) pe_non)), ?_⟩
    obtain ⟨pv, hpv, pa⟩ := id bar
    have hpl : pv.length = pcs.length := pa.1
    have hpos : 0 < pcs.length := List.length_pos_iff.mpr hne
    refine ⟨_, rfl, b, rfl, hb, ?_⟩
    refine ⟨_, rfl, _, _, _, _, true, rfl, .ty "list", ty_lst (SqL.of hpv), kit_ty (by decide +kernel), true, rfl, iteF ?_⟩
    refine ⟨_, rfl, l, pv, rfl, .inl (SqL.of hpv), rfl, false, ?_, iteF ?_⟩
    · show V.bl (decide (V.int ((pv.length : Nat) : Int) = V.int 0)) = V.bl false
      rw [decide_eq_false fun z => by have := V.int.inj z; omega]
    -- all are pieces
    refine ⟨_, rfl, l, rfl, ⟨_, SqL.of hpv⟩, fun D hD => ?_⟩
    refine lc_list (K := K) (a := l) (xs := pv) (fun i Hc => Hc D = some (.lst ((List.replicate i true).map V.bl)) ∧ Same H Hc) ⟨upd_same, same_new hD⟩ (fun i Hc _ ⟨_, sm⟩ => SqL.of (sm _ _ hpv)) ?_ ?_
    · rintro i v Hc hv ⟨hc, sm⟩
      obtain ⟨pc, hpc, pcv⟩ := pa.get hv
      have hi : i < pcs.length := (List.getElem?_eq_some_iff.mp hpc).1
      refine ⟨rfl, tyes ?_⟩
      refine ⟨_, rfl, _, rfl, p, ng, nw, gs, ws, _, pc, rfl, NA.same sm, N, pcv.same sm, (pok pc (List.mem_of_getElem? hpc)).1, fun H2 s2 => ?_⟩
      refine ⟨_, s2 _ _ hc, ?_, ?_, same_mut (sm.trans s2) hD⟩
      · rw [List.length_map, List.length_replicate]
        exact small1000 (by omega)
      · rw [upd_same, List.replicate_succ', List.map_append]
        rfl
    rintro H1 ⟨h1, s1⟩
    refine ⟨D, List.replicate pv.length true, rfl, SqL.of h1, true, ?_, iteF ?_⟩
    · have : ∀ n : Nat, (List.replicate n true).all id = true := fun n => by
        rw [List.all_eq_true]
        intro x hx
        exact List.eq_of_mem_replicate hx
      rw [this]
    have hpv1 := s1 _ _ hpv
    have pa1 := pa.imp fun _ _ r => PceV.same s1 r
    -- no gap
    refine ⟨_, rfl, _, rfl, l, rfl, ⟨_, SqL.of hpv1⟩, fun D2 hD2 => ?_⟩
    refine lc_list (K := K) (a := l) (xs := pv) (fun i Hc => ∃ ev : List V, Hc D2 = some (.lst ev) ∧ ev.length = i ∧ All2 (NatsV K Hc) ev ((pcs.take i).map (endsF ws)) ∧ Same H1 Hc) ⟨[], upd_same, rfl, All2.nil, same_new hD2⟩ (fun i Hc _ ⟨_, _, _, _, sm⟩ => SqL.of (sm _ _ hpv1)) ?_ ?_
    · rintro i v Hc hv ⟨ev, hc, hel, ea, sm⟩
      obtain ⟨pc, hpc, pcv⟩ := pa1.get hv
      have hi : i < pcs.length := (List.getElem?_eq_some_iff.mp hpc).1
      refine ⟨rfl, tyes ?_⟩
      refine ⟨_, rfl, _, rfl, p, ng, nw, gs, ws, _, pc, rfl, (NA.same s1).same sm, N, pcv.same sm, (pok pc (List.mem_of_getElem? hpc)).1, fun t H2 s2 ht et => ?_⟩
      refine ⟨ev, s2 _ _ hc, small1000 (by omega), ev ++ [.ref t], upd_same, by rw [List.length_append, hel]; rfl, ?_, same_mut (sm.trans s2) hD2⟩
      rw [List.take_add_one, hpc, List.map_append]
      exact All2.pushT (fun t r => NatsV.tk t r) ea (s2 _ _ hc) (TK.same s2) ⟨t, rfl, .inl (.inl et)⟩
    rintro H2 ⟨ev, hev, hel, ea, s2⟩
    rw [hpl, List.take_length] at ea
    have s12 := s1.trans s2
    refine ⟨p, ng, nw, D2, gs, ws, ev, pcs.map (endsF ws), rfl, NA.same s12, N, hev, ea, fun e he => ?_, jn_ringed jn, fun H3 s3 => ?_⟩
    · obtain ⟨pc, hpc, rfl⟩ := List.mem_map.mp he
      obtain ⟨h1, e, h2⟩ := (pok pc hpc).1
      refine ⟨h1, ?_⟩
      show endW ws pc.1 pc.2 < gs.length
      rw [endW_of h2]
      exact h2.lt N h1
    refine gn_norm (σ' := [some (.ref p), some (.int b), some (.ref l), none, some .non, none]) rfl ?_
    refine ⟨_, rfl, rfl, _, rfl, iteF ?_⟩
    have s13 := s12.trans s3
    have hpv3 := s13 _ _ hpv
    have pa3 := pa.imp fun _ _ r => PceV.same s13 r
    -- the rooms
    refine ⟨_, rfl, l, rfl, ⟨_, SqL.of hpv3⟩, fun D3 hD3 => ?_⟩
    refine lc_list (K := K) (a := l) (xs := pv) (fun i Hc => Hc D3 = some (.lst (((pcs.take i).map (roomF gs ws b)).map V.int)) ∧ Same H3 Hc) ⟨upd_same, same_new hD3⟩ (fun i Hc _ ⟨_, sm⟩ => SqL.of (sm _ _ hpv3)) ?_ ?_
    · rintro i v Hc hv ⟨hc, sm⟩
      obtain ⟨pc, hpc, pcv⟩ := pa3.get hv
      have hi : i < pcs.length := (List.getElem?_eq_some_iff.mp hpc).1
      refine ⟨rfl, tyes ?_⟩
      refine ⟨_, rfl, _, rfl, _, rfl, p, ng, nw, gs, ws, b, _, pc, rfl, (NA.same s13).same sm, N, pcv.same sm, (pok pc (List.mem_of_getElem? hpc)).1, (pok pc (List.mem_of_getElem? hpc)).2, fun H4 s4 => ?_⟩
      refine ⟨_, s4 _ _ hc, ?_, ?_, same_mut (sm.trans s4) hD3⟩
      · rw [List.length_map, List.length_map, List.length_take]
        exact small1000 (by omega)
      · rw [upd_same, List.take_add_one, hpc, List.map_append, List.map_append]
        rfl
    rintro H4 ⟨h4, s4⟩
    rw [hpl, List.take_length] at h4
    have s14 := s13.trans s4
    refine ⟨D3, _, rfl, SqL.of h4, ?_⟩
    refine gn_norm (σ' := [some (.ref p), some (.int b), some (.ref l), none, some .non, some (.int (roomsF gs ws b pcs))]) rfl ?_
    refine ⟨_, rfl, _, _, rfl, rfl, _, rfl, ite2 (fun e => ?_) (fun e => ?_)⟩
    · refine ⟨_, rfl, (by show 2 ≤ sizeLine; decide), fun t ht => ?_⟩
      exact q2 (of_decide_eq_true e) t _ (s14.trans (same_new ht)) upd_same
    · refine q1 ?_ H4 s14
      have : ¬ roomsF gs ws b pcs ≥ 0 := fun h => e (decide_eq_true h)
      omega
end
end Lag

set_option maxRecDepth 100000
set_option maxHeartbeats 4000000
/-! ### try with several except clauses, each with a name or without -/
namespace L2
open PySem PySem.Spec PyProof.Rows
/-- a clause: the class that it names, the slot of its own name, what its suite does -/
structure Cl where
  c : Value
  i : Option Nat
  ts : Addr → Value → Option Addr → TS
/-- behind the suite the clause's own name is gone -/
def Cl.ends (k : Cl) (D : Ends) : Ends := match k.i with
  | none => D
  | some i => ⟨fun s h => D.nx (s.set i none) h, D.rt, fun s h => D.bk (s.set i none) h, fun s h => D.ct (s.set i none) h⟩
def Cl.in_ (k : Cl) (a : Addr) (σ : St) : St := match k.i with
  | none => σ
  | some i => σ.set i (some (.ref a))
def wCls (K : PySem.W.Frag) (Wo : WX) (D : Ends) : List Cl → WX
  | [] => Wo
  | k :: l => fun cls d σ H => ∃ b : Bool, PySem.W.exmOne K cls k.c = some b ∧ (b = true → ∀ a, H a = none → k.ts a cls d (k.ends D) (k.in_ a σ) H) ∧ (b = false → wCls K Wo D l cls d σ H)
inductive ClsOk (X : Cx) : List ExceptHandler → List Cl → Prop
  | nil : ClsOk X [] []
  | bare {x : Str} {c : Value} {ts : Addr → Value → Option Addr → TS} {b1 : Stmt} {ss : List Stmt} {p1 p2 : Pos} {hs : List ExceptHandler} {l : List Cl} (hc : Names X x c)
      (su : ∀ (a : Addr) (oe : Obj) (cls : Value) (d : Option Addr) (pn : List (Addr × Obj)), Zc cls d oe → (∃ vs, oe.data = .fields vs) → PSs (X.suite a ((a, oe) :: pn)) (b1 :: ss) (ts a cls d)) (r : ClsOk X hs l) :
      ClsOk X (.ExceptHandler (some (.Name x p1)) none (b1 :: ss) p2 :: hs) (⟨c, none, ts⟩ :: l)
  | named {x n : Str} {c : Value} {i : Nat} {ts : Addr → Value → Option Addr → TS} {b1 : Stmt} {ss : List Stmt} {p1 p2 : Pos} {hs : List ExceptHandler} {l : List Cl} (hi : X.N[i]? = some n) (hl : X.env.kindOf n = some .local) (hc : Names X x c)
      (su : ∀ (a : Addr) (oe : Obj) (cls : Value) (d : Option Addr) (pn : List (Addr × Obj)), Zc cls d oe → (∃ vs, oe.data = .fields vs) → PSs (X.suite a ((a, oe) :: pn)) (b1 :: ss) (ts a cls d)) (r : ClsOk X hs l) :
      ClsOk X (.ExceptHandler (some (.Name x p1)) (some n) (b1 :: ss) p2 :: hs) (⟨c, some i, ts⟩ :: l)
section
variable {X : Cx} {body : List Stmt} {h0 : ExceptHandler} {hs : List ExceptHandler} {l : List Cl} {pos : Pos} {tb : WX → TS} {Wo : WX}
theorem ps_try_cls (hst : X.stack = X.env :: X.outer) (hfr : X.env.frame = some X.env.locals) (hN : X.N.Nodup) (tk : Takes X Wo)
    (hb : ∀ (W : WX) (pn : List (Addr × Obj)) (xe : Value → Shared → Prop), Takes (X.tr pn xe) W → PassesOwn (model X.prog X.w) X.A X.env xe → PSs (X.tr pn xe) body (tb W))
    (hh : ClsOk X (h0 :: hs) l) : PS X (.Try body (h0 :: hs) [] [] pos) (fun D σ H => tb (wCls X.K Wo D l) D σ H) := by
  constructor
  intro pins s σ H D I h
  have ok := I.ok
  have frs0 : X.A.frames = some (X.env :: X.outer) := hst ▸ ok.frames
  refine wpAny_Try_except (wpAny_mono ((hb (wCls X.K Wo D l) (X.pn ++ pins)
    (fun e t1 => wpAny (model X.prog X.w) X.A (noteFrame e X.env)
      (fun _ t2 => wpAny (model X.prog X.w) X.A (setFlight e none)
        (fun _ t3 => wpAny (model X.prog X.w) X.A (handleBy e X.env (h0 :: hs)) (SP X pins D) X.xe t3) X.xe t2) X.xe t1)
    ?_ PassesOwn.looking).run [] s σ H D (I.toTry _) h) ?_ fun e t1 he => he)
  · intro u t xx
    have goal : wpAny (model X.prog X.w) X.A (noteFrame u X.env) (fun _ t2 => wpAny (model X.prog X.w) X.A (setFlight u none) (fun _ t3 => wpAny (model X.prog X.w) X.A (handleBy u X.env (h0 :: hs)) (SP X pins D) X.xe t3) X.xe t2) X.xe t := by
      obtain ⟨a, B, sI, pins', σ', H', cls, d, rfl, J0, nb, up, sky0, na, os, ag, w⟩ := xx
      have J : Inv X pins σ' H' sI := J0.ofTry ok
      have sky : Sky B (X.env :: X.outer) a (Zc cls d) X.env.locals t.heap := hst ▸ sky0
      refine Sky.land Zc.steady frs0 hfr sky fun h3 fl3 up3 => ?_
      have J3 : Inv X pins σ' H' { t with heap := h3 } := J.landed nb fl3.1 (up.trans up3) os ag
      obtain ⟨oe, vs, he, hz, hd⟩ := fl3.there
      have off : a ∉ frs (X.env :: X.outer) := fun hm => by
        obtain ⟨_, o', e', no⟩ := fl3.2.2.1.mem hm
        rw [he] at e'
        cases e'
        exact no _ hd
      have offL : a ≠ X.env.locals := fun z => off (List.mem_filterMap.mpr ⟨X.env, by simp, by rw [hfr, z]⟩)
      have offF : a ∉ X.fs := fun hm => by
        obtain ⟨e, hm2, q⟩ := List.mem_filterMap.mp hm
        exact off (List.mem_filterMap.mpr ⟨e, List.mem_cons_of_mem _ hm2, q⟩)
      have S3 := J3.suite he hd na offL offF
      -- is it of the class that is named
      suffices go : ∀ {hs' : List ExceptHandler} {l' : List Cl}, ClsOk X hs' l' → wCls X.K Wo D l' cls d σ' H' → wpAny (model X.prog X.w) X.A (handleBy (.ref a) X.env hs') (SP X pins D) X.xe { t with heap := h3 } from go hh w
      have typ : PySem.W.Looks (model X.prog X.w) h3 (typeOf (.ref a)) cls := by
        intro A Q E s k q
        exact wpAny_typeOf_ref (k _ _ he) (by rw [hz.1]; exact q)
      have nm : ∀ {x : Str} {c : Value} {p1 : Pos} {Q E : Value → Shared → Prop}, Names X x c → Q c { t with heap := h3 } → wpAny (model X.prog X.w) (X.A.mark (some (.ref a))) (eval (.Name x p1) X.env) Q E { t with heap := h3 } := by
        intro x c p1 Q E hc q
        rcases hc with ⟨g1, g2, g3 | ⟨g3, g4, g5⟩⟩
        · exact ld_glob (X := X.suite a ((a, oe) :: (X.pn ++ pins))) S3 g1 g3 q g2
        · exact ld_blt (X := X.suite a ((a, oe) :: (X.pn ++ pins))) S3 g1 g3 g4 q g5 g2
      intro hs' l' ck
      induction ck with
      | nil =>
        intro w
        apply wpAny_handleBy_nil
        obtain ⟨_, _, _, ob, us, T, oT, ts', g1, _, g3, g4, _⟩ := id fl3
        unfold PySem.passOn
        refine wpAny_bind (wpAny_field g1 g3 g4 ?_)
        have nn : ¬ ((Value.ref T == Value.none) = true) := by simp
        rw [if_neg nn]
        have out : wpAny (model X.prog X.w) X.A (setFlight (.ref a) X.env.frame) (fun _ t4 => wpAny (model X.prog X.w) X.A (throw (.ref a) : Sem Flow) (SP X pins D) X.xe t4) X.xe { t with heap := h3 } := by
          rw [hfr]
          refine HandSPX.setFlight_upZ fl3 fun h4 hh4 up4 => wpAny_throw (tk _ _ ?_)
          exact ⟨a, B, sI, pins, σ', H', cls, d, rfl, J, nb, (up.trans up3).trans up4, .inr (.inr (hst ▸ hh4)), na, os, ag, w⟩
        first
          | exact wpAny_bind (wpAny_pure (wpAny_bind out))
          | exact wpAny_bind out
      | bare hc su r ih =>
        rintro ⟨b, eb, yes, no⟩
        refine wpAny_handleBy_cons (codeAny_handlers_test (nm hc ((PySem.W.exm_one (M := model X.prog X.w) J3.kIn typ eb).here ?_))) (fun q => by cases q)
        cases b
        · exact ih (no rfl)
        · refine codeAny_handlers_suite (HandSPX.lands_againZ fl3 fun h4 fl4 up4 => ?_)
          have J4 : Inv X pins σ' H' { t with heap := h4 } := J.landed nb fl4.1 ((up.trans up3).trans up4) os ag
          obtain ⟨o4, v4, he4, hz4, hd4⟩ := fl4.there
          have S4 := J4.suite he4 hd4 na offL offF
          refine wpAny_mono ((su a o4 cls d (X.pn ++ pins) hz4 ⟨_, hd4⟩).run [] _ _ H' _ S4 (yes rfl a na)) (fun f t6 hp => ?_) (fun _ _ z => False.elim z)
          cases f
          case next => exact ⟨_, _, hp.choose_spec.choose_spec.1.unsuite ok, hp.choose_spec.choose_spec.2⟩
          case brk => exact ⟨_, _, hp.choose_spec.choose_spec.1.unsuite ok, hp.choose_spec.choose_spec.2⟩
          case cont => exact ⟨_, _, hp.choose_spec.choose_spec.1.unsuite ok, hp.choose_spec.choose_spec.2⟩
          case ret u =>
            obtain ⟨v6, σ6, H6, S6, r6, q6⟩ := hp
            exact ⟨v6, σ6, H6, S6.unsuite ok, r6, q6⟩
      | @named x n c i ts b1 ss p1 p2 hs2 l2 hi hl hc su r ih =>
        rintro ⟨b, eb, yes, no⟩
        refine wpAny_handleBy_cons (codeAny_handlers_test (nm hc ((PySem.W.exm_one (M := model X.prog X.w) J3.kIn typ eb).here ?_))) (fun q => by cases q)
        cases b
        · exact ih (no rfl)
        · refine codeAny_handlers_suite_as (HandSPX.lands_againZ fl3 fun h4 fl4 up4 => ?_)
          have J4 : Inv X pins σ' H' { t with heap := h4 } := J.landed nb fl4.1 ((up.trans up3).trans up4) os ag
          obtain ⟨o4, v4, he4, hz4, hd4⟩ := fl4.there
          have S4 := J4.suite he4 hd4 na offL offF
          refine store_ok (X := X.suite a ((a, o4) :: (X.pn ++ pins))) (v := .ref a) S4 hN hi (.inl hl) rfl (fun t5 S5 => ?_) (.inr hl)
          refine wpAny_mono ((su a o4 cls d (X.pn ++ pins) hz4 ⟨_, hd4⟩).run [] t5 _ H' _ S5 (yes rfl a na)) (fun f t6 hp => ?_) (fun _ _ z => False.elim z)
          have gone : ∀ {σ6 : St} {H6 : Hp} {Q : Shared → Prop}, Inv (X.suite a ((a, o4) :: (X.pn ++ pins))) [] σ6 H6 t6 → (∀ t7, Inv X pins (σ6.set i none) H6 t7 → Q t7) →
              wpAny (model X.prog X.w) X.A (do bindName X.env n .none; unbindBehindTheSuite X.env n p2) (fun _ t7 => Q t7) X.xe t6 := by
            intro σ6 H6 Q S6 hq
            exact gone_ok (S6.unsuite ok) hN hi hl hq
          cases f
          case next =>
            obtain ⟨σ6, H6, S6, q6⟩ := hp
            exact gone S6 fun t7 J7 => ⟨_, _, J7, q6⟩
          case brk =>
            obtain ⟨σ6, H6, S6, q6⟩ := hp
            exact gone S6 fun t7 J7 => ⟨_, _, J7, q6⟩
          case cont =>
            obtain ⟨σ6, H6, S6, q6⟩ := hp
            exact gone S6 fun t7 J7 => ⟨_, _, J7, q6⟩
          case ret u =>
            obtain ⟨v6, σ6, H6, S6, r6, q6⟩ := hp
            exact gone S6 fun t7 J7 => ⟨_, _, _, J7, r6, q6⟩
    exact goal
  · intro f t1 hp
    cases f
    case next =>
      obtain ⟨σ', H', J', q⟩ := hp
      exact wpAny_execs_nil ⟨σ', H', J'.ofTry ok, q⟩
    case brk =>
      obtain ⟨σ', H', J', q⟩ := hp
      exact ⟨σ', H', J'.ofTry ok, q⟩
    case cont =>
      obtain ⟨σ', H', J', q⟩ := hp
      exact ⟨σ', H', J'.ofTry ok, q⟩
    case ret u =>
      obtain ⟨v, σ', H', J', r, q⟩ := hp
      exact ⟨v, σ', H', J'.ofTry ok, r, q⟩
end
end L2

set_option maxRecDepth 100000
set_option maxHeartbeats 4000000
/-! ### refusals whose context is None -/
namespace L2
open PySem PySem.Spec PyProof.Rows
section
variable {P : Program} {w : World} {K : PySem.W.Frag} {mg : Str → Option Value} {base : Heap}
theorem Fun.okXN {x qual : Str} {st : Stmt} {f : Addr} {fd : FuncData} {N ps : List Str} {k : Nat} {sp : Sp} (F : Fun K x qual st f fd) (S : FnScope N ps (defScope st))
    (len : ∀ vs H Q E, sp vs H Q E → vs.length = ps.length)
    (hbody : ∀ (cdv : Value) (A : Around) (outer : List Env) (s : Shared) (H : Hp) (vs : List V) (Q : VK) (E : XK), Room k (A.deeper (envOfC qual (defScope st) s.heap.objs.size f cdv)) →
      sp vs H Q E → ∃ t, PSs (cxOf (L2N.CX P w) P w K mg base N qual (defScope st) f cdv A outer s H E) (defBody st) t ∧
        t { nx := fun _ H' => Q .non H', rt := Q } (start N vs) H) : FnOk P w K mg base (L2N.CX P w) (k + 1) f fd ps sp := by
  obtain ⟨oc, od, kV, doc, pm, an, cdv, ct, osl, rfl, lk, hcd⟩ := F.ex
  refine fn_of lk hcd S len ?_
  intro A outer s H vs Q E hr hsp
  exact hbody cdv A outer s H vs Q E hr hsp
end
section
variable {X : Cx} {e : Expr} {es : List Expr} {ta : TA} {p pos : Pos}
/-- C(e) of a class with an __init__ of its own, as what is raised: its context is None -/
theorem pmk_oexN {x : Str} {C fI : Addr} {k : Nat} {fd : FuncData} {ps : List Str} {sp : Sp} (T : OexC X.K C) (iC : PySem.W.findIn X.K (.ref C) "__init__" = some (some (.ref fI)))
    (tI : PySem.W.typeIn X.K (.ref fI) = some (.type "function")) (F1 : FnOk X.prog X.w X.K X.mg X.base CX0 k fI fd ps sp) (hr : Room (k + 1) X.A) (hb : Binds X.K fd ps []) (hg : Gl X x) (hm : X.mg x = some (.ref C))
    (ha : PA X (e :: es) ta) (hdb : (x == ("__debug__" : Str)) = false := by decide) (he : starEach (e :: es) X.env = (false, eval e X.env) :: starEach es X.env := by rfl)
    (hpl : (backTo pos (starEach es X.env)).any (·.1) = false := by rfl) : L2N.PMk X (.Call (.Name x p) (e :: es) [] pos) (tMkO C sp [] ta) := by
  intro pins s σ H Q I h
  obtain ⟨nm, q, N, bs, bm, sn, sub, ab, col, dd, k0, k1, k2, k3, k5, hC, hbm⟩ := T.cls
  refine wpAny_Call_Name_kw (ld_glob I hg hm ?_ hdb)
  refine PySem.W.callWith_K (h₀ := X.base) I.ok.mod.kin T.kC ?_ he hpl
  refine thn (ha.run pos pins s σ H _ I h) fun us s1 ⟨vs, H1, I1, r1, hz, q1⟩ => ⟨I1.kIn, ?_⟩
  show wpAny _ _ (call (.ref C) us) _ _ _
  obtain ⟨hp, g, dr, tk, os⟩ := s1
  have hsz : hp.objs.size ≤ hp.objs.size + 1 := Nat.le_succ _
  have hn : H1 (hp.objs.size + 1) = none := I1.hok.fresh hsz
  have hq := q1 _ hn
  rw [List.append_nil] at hq
  have up : ∀ b o, hp.get? b = some o → ((hp.push (PySem.W.kdv_tup us)).push (PySem.HandSPX.excO C hp.objs.size)).get? b = some o := fun b o z =>
    Heap.get?_push_of_some _ (Heap.get?_push_of_some _ z)
  have here : ((hp.push (PySem.W.kdv_tup us)).push (PySem.HandSPX.excO C hp.objs.size)).get? (hp.objs.size + 1) = some (PySem.HandSPX.excO C hp.objs.size) := by
    heap_get
  have I2 := I1.laid (t' := tk) (a := hp.objs.size + 1) (o := exo (hp.objs.size + 1) C none) (h' := (hp.push (PySem.W.kdv_tup us)).push (PySem.HandSPX.excO C hp.objs.size)) up hsz (exo_ok here)
  have r2 : Vals (V.ref (hp.objs.size + 1) :: vs) (Value.ref (hp.objs.size + 1) :: us) := .cons rfl r1
  have hl : (Value.ref (hp.objs.size + 1) :: us).length = ps.length := by
    rw [← F1.len _ _ _ _ hq]
    exact r2.length.symm
  have hus : us.length ≤ sizeLine := by
    rw [← Paired.length r1, sizeLine_eq]
    omega
  refine wpAny_call (PySem.HandSPX.call_own F.excBase_ValueError (fun Y => PySem.HandSPX.refsVE_contains Y bm hbm) (I1.kIn _ _ hC) (PySem.W.looks_findIn I1.kIn iC) (fun me => PySem.W.bind_fn I1.kIn me tI) hus ?_)
  refine codeAny_mono (F1.run _ X.stack _ _ ⟨Value.ref (hp.objs.size + 1) :: us, []⟩ (Value.ref (hp.objs.size + 1) :: us) _ _ E0 (hr.make C us []) (I2.env0.make C us []) ?_ r2 hq) fun r s' hq' => ?_
  · have := hb _ (Value.ref (hp.objs.size + 1) :: us) I2.kIn (by rw [List.append_nil]; exact hl)
    rw [List.append_nil] at this
    exact this
  cases r with
  | error er => exact False.elim hq'
  | ok fl =>
    cases fl with
    | ret u =>
      obtain ⟨v, H2, os2, bare2, un2, hok2, rv, ev, d, fs, ea, ed, hd1, q2⟩ := hq'
      subst ev
      obtain ⟨h2, g2, d2, t2, os'⟩ := s'
      obtain ⟨t0, G, J, kG, ge, hoe, na⟩ := mk_end0 (d2 := d2) (t2 := t2) I1 hsz up un2 hok2 os2 bare2 ea ed hd1
      refine ⟨rv, hp.objs.size + 1, _, _, ⟨G, g2, d2, t2, os'⟩, _, .ref C, some d, rfl, J, kG, ge, hoe, ⟨rfl, rfl, ?_⟩, rfl, rfl, na, rfl, bare2, raises_own T.exC T.tyC, q2⟩
      intro vs' hv
      cases hv
      rfl
    | next => exact False.elim hq'
    | brk => exact False.elim hq'
    | cont => exact False.elim hq'
end
end L2

set_option maxRecDepth 100000
set_option maxHeartbeats 4100000
/-! ### the clauses' suites know that the exception is handled -/
namespace L2
open PySem PySem.Spec PyProof.Rows L2H
inductive ClsOkN (X : Cx) : List ExceptHandler → List Cl → Prop
  | nil : ClsOkN X [] []
  | bare {x : Str} {c : Value} {ts : Addr → Value → Option Addr → TS} {b1 : Stmt} {ss : List Stmt} {p1 p2 : Pos} {hs : List ExceptHandler} {l : List Cl} (hc : Names X x c)
      (su : ∀ (a : Addr) (oe : Obj) (cls : Value) (d : Option Addr) (pn : List (Addr × Obj)), L2N.Zn cls d oe → (∃ vs, oe.data = .fields vs) → HotC (X.suite a ((a, oe) :: pn)) → PSs (X.suite a ((a, oe) :: pn)) (b1 :: ss) (ts a cls d)) (r : ClsOkN X hs l) :
      ClsOkN X (.ExceptHandler (some (.Name x p1)) none (b1 :: ss) p2 :: hs) (⟨c, none, ts⟩ :: l)
  | named {x n : Str} {c : Value} {i : Nat} {ts : Addr → Value → Option Addr → TS} {b1 : Stmt} {ss : List Stmt} {p1 p2 : Pos} {hs : List ExceptHandler} {l : List Cl} (hi : X.N[i]? = some n) (hl : X.env.kindOf n = some .local) (hc : Names X x c)
      (su : ∀ (a : Addr) (oe : Obj) (cls : Value) (d : Option Addr) (pn : List (Addr × Obj)), L2N.Zn cls d oe → (∃ vs, oe.data = .fields vs) → HotC (X.suite a ((a, oe) :: pn)) → PSs (X.suite a ((a, oe) :: pn)) (b1 :: ss) (ts a cls d)) (r : ClsOkN X hs l) :
      ClsOkN X (.ExceptHandler (some (.Name x p1)) (some n) (b1 :: ss) p2 :: hs) (⟨c, some i, ts⟩ :: l)
section
variable {X : Cx} {body : List Stmt} {h0 : ExceptHandler} {hs : List ExceptHandler} {l : List Cl} {pos : Pos} {tb : WX → TS} {Wo : WX}
theorem ps_try_clsN (hst : X.stack = X.env :: X.outer) (hfr : X.env.frame = some X.env.locals) (hN : X.N.Nodup) (tk : L2N.Takes X Wo)
    (hb : ∀ (W : WX) (pn : List (Addr × Obj)) (xe : Value → Shared → Prop), L2N.Takes (X.tr pn xe) W → PassesOwn (model X.prog X.w) X.A X.env xe → PSs (X.tr pn xe) body (tb W))
    (hh : ClsOkN X (h0 :: hs) l) : PS X (.Try body (h0 :: hs) [] [] pos) (fun D σ H => tb (wCls X.K Wo D l) D σ H) := by
  constructor
  intro pins s σ H D I h
  have ok := I.ok
  have frs0 : X.A.frames = some (X.env :: X.outer) := hst ▸ ok.frames
  refine wpAny_Try_except (wpAny_mono ((hb (wCls X.K Wo D l) (X.pn ++ pins)
    (fun e t1 => wpAny (model X.prog X.w) X.A (noteFrame e X.env)
      (fun _ t2 => wpAny (model X.prog X.w) X.A (setFlight e none)
        (fun _ t3 => wpAny (model X.prog X.w) X.A (handleBy e X.env (h0 :: hs)) (SP X pins D) X.xe t3) X.xe t2) X.xe t1)
    ?_ PassesOwn.looking).run [] s σ H D (I.toTry _) h) ?_ fun e t1 he => he)
  · intro u t xx
    have goal : wpAny (model X.prog X.w) X.A (noteFrame u X.env) (fun _ t2 => wpAny (model X.prog X.w) X.A (setFlight u none) (fun _ t3 => wpAny (model X.prog X.w) X.A (handleBy u X.env (h0 :: hs)) (SP X pins D) X.xe t3) X.xe t2) X.xe t := by
      obtain ⟨a, B, sI, pins', σ', H', cls, d, rfl, J0, nb, up, sky0, na, os, ag, w⟩ := xx
      have J : Inv X pins σ' H' sI := J0.ofTry ok
      have sky : Sky B (X.env :: X.outer) a (L2N.Zn cls d) X.env.locals t.heap := hst ▸ sky0
      refine L2N.Sky.land L2N.Zn.steady frs0 hfr sky fun h3 fl3 up3 => ?_
      have J3 : Inv X pins σ' H' { t with heap := h3 } := J.landed nb fl3.1 (up.trans up3) os ag
      obtain ⟨oe, vs, he, hz, hd⟩ := fl3.there
      have off : a ∉ frs (X.env :: X.outer) := fun hm => by
        obtain ⟨_, o', e', no⟩ := fl3.2.2.1.mem hm
        rw [he] at e'
        cases e'
        exact no _ hd
      have offL : a ≠ X.env.locals := fun z => off (List.mem_filterMap.mpr ⟨X.env, by simp, by rw [hfr, z]⟩)
      have offF : a ∉ X.fs := fun hm => by
        obtain ⟨e, hm2, q⟩ := List.mem_filterMap.mp hm
        exact off (List.mem_filterMap.mpr ⟨e, List.mem_cons_of_mem _ hm2, q⟩)
      have S3 := J3.suite he hd na offL offF
      -- is it of the class that is named
      suffices go : ∀ {hs' : List ExceptHandler} {l' : List Cl}, ClsOkN X hs' l' → wCls X.K Wo D l' cls d σ' H' → wpAny (model X.prog X.w) X.A (handleBy (.ref a) X.env hs') (SP X pins D) X.xe { t with heap := h3 } from go hh w
      have typ : PySem.W.Looks (model X.prog X.w) h3 (typeOf (.ref a)) cls := by
        intro A Q E s k q
        exact wpAny_typeOf_ref (k _ _ he) (by rw [hz.1]; exact q)
      have nm : ∀ {x : Str} {c : Value} {p1 : Pos} {Q E : Value → Shared → Prop}, Names X x c → Q c { t with heap := h3 } → wpAny (model X.prog X.w) (X.A.mark (some (.ref a))) (eval (.Name x p1) X.env) Q E { t with heap := h3 } := by
        intro x c p1 Q E hc q
        rcases hc with ⟨g1, g2, g3 | ⟨g3, g4, g5⟩⟩
        · exact ld_glob (X := X.suite a ((a, oe) :: (X.pn ++ pins))) S3 g1 g3 q g2
        · exact ld_blt (X := X.suite a ((a, oe) :: (X.pn ++ pins))) S3 g1 g3 g4 q g5 g2
      intro hs' l' ck
      induction ck with
      | nil =>
        intro w
        apply wpAny_handleBy_nil
        obtain ⟨_, _, _, ob, us, T, oT, ts', g1, _, g3, g4, _⟩ := id fl3
        unfold PySem.passOn
        refine wpAny_bind (wpAny_field g1 g3 g4 ?_)
        have nn : ¬ ((Value.ref T == Value.none) = true) := by simp
        rw [if_neg nn]
        have out : wpAny (model X.prog X.w) X.A (setFlight (.ref a) X.env.frame) (fun _ t4 => wpAny (model X.prog X.w) X.A (throw (.ref a) : Sem Flow) (SP X pins D) X.xe t4) X.xe { t with heap := h3 } := by
          rw [hfr]
          refine HandSPX.setFlight_upZ fl3 fun h4 hh4 up4 => wpAny_throw (tk _ _ ?_)
          exact ⟨a, B, sI, pins, σ', H', cls, d, rfl, J, nb, (up.trans up3).trans up4, .inr (.inr (hst ▸ hh4)), na, os, ag, w⟩
        first
          | exact wpAny_bind (wpAny_pure (wpAny_bind out))
          | exact wpAny_bind out
      | bare hc su r ih =>
        rintro ⟨b, eb, yes, no⟩
        refine wpAny_handleBy_cons (codeAny_handlers_test (nm hc ((PySem.W.exm_one (M := model X.prog X.w) J3.kIn typ eb).here ?_))) (fun q => by cases q)
        cases b
        · exact ih (no rfl)
        · refine codeAny_handlers_suite (HandSPX.lands_againZ fl3 fun h4 fl4 up4 => ?_)
          have J4 : Inv X pins σ' H' { t with heap := h4 } := J.landed nb fl4.1 ((up.trans up3).trans up4) os ag
          obtain ⟨o4, v4, he4, hz4, hd4⟩ := fl4.there
          have S4 := J4.suite he4 hd4 na offL offF
          refine wpAny_mono ((su a o4 cls d (X.pn ++ pins) hz4 ⟨_, hd4⟩ ⟨(a, o4), ⟨rfl, v4, hd4, hz4.2.2 v4 hd4⟩, List.mem_cons_self⟩).run [] _ _ H' _ S4 (yes rfl a na)) (fun f t6 hp => ?_) (fun _ _ z => False.elim z)
          cases f
          case next => exact ⟨_, _, hp.choose_spec.choose_spec.1.unsuite ok, hp.choose_spec.choose_spec.2⟩
          case brk => exact ⟨_, _, hp.choose_spec.choose_spec.1.unsuite ok, hp.choose_spec.choose_spec.2⟩
          case cont => exact ⟨_, _, hp.choose_spec.choose_spec.1.unsuite ok, hp.choose_spec.choose_spec.2⟩
          case ret u =>
            obtain ⟨v6, σ6, H6, S6, r6, q6⟩ := hp
            exact ⟨v6, σ6, H6, S6.unsuite ok, r6, q6⟩
      | @named x n c i ts b1 ss p1 p2 hs2 l2 hi hl hc su r ih =>
        rintro ⟨b, eb, yes, no⟩
        refine wpAny_handleBy_cons (codeAny_handlers_test (nm hc ((PySem.W.exm_one (M := model X.prog X.w) J3.kIn typ eb).here ?_))) (fun q => by cases q)
        cases b
        · exact ih (no rfl)
        · refine codeAny_handlers_suite_as (HandSPX.lands_againZ fl3 fun h4 fl4 up4 => ?_)
          have J4 : Inv X pins σ' H' { t with heap := h4 } := J.landed nb fl4.1 ((up.trans up3).trans up4) os ag
          obtain ⟨o4, v4, he4, hz4, hd4⟩ := fl4.there
          have S4 := J4.suite he4 hd4 na offL offF
          refine store_ok (X := X.suite a ((a, o4) :: (X.pn ++ pins))) (v := .ref a) S4 hN hi (.inl hl) rfl (fun t5 S5 => ?_) (.inr hl)
          refine wpAny_mono ((su a o4 cls d (X.pn ++ pins) hz4 ⟨_, hd4⟩ ⟨(a, o4), ⟨rfl, v4, hd4, hz4.2.2 v4 hd4⟩, List.mem_cons_self⟩).run [] t5 _ H' _ S5 (yes rfl a na)) (fun f t6 hp => ?_) (fun _ _ z => False.elim z)
          have gone : ∀ {σ6 : St} {H6 : Hp} {Q : Shared → Prop}, Inv (X.suite a ((a, o4) :: (X.pn ++ pins))) [] σ6 H6 t6 → (∀ t7, Inv X pins (σ6.set i none) H6 t7 → Q t7) →
              wpAny (model X.prog X.w) X.A (do bindName X.env n .none; unbindBehindTheSuite X.env n p2) (fun _ t7 => Q t7) X.xe t6 := by
            intro σ6 H6 Q S6 hq
            exact gone_ok (S6.unsuite ok) hN hi hl hq
          cases f
          case next =>
            obtain ⟨σ6, H6, S6, q6⟩ := hp
            exact gone S6 fun t7 J7 => ⟨_, _, J7, q6⟩
          case brk =>
            obtain ⟨σ6, H6, S6, q6⟩ := hp
            exact gone S6 fun t7 J7 => ⟨_, _, J7, q6⟩
          case cont =>
            obtain ⟨σ6, H6, S6, q6⟩ := hp
            exact gone S6 fun t7 J7 => ⟨_, _, J7, q6⟩
          case ret u =>
            obtain ⟨v6, σ6, H6, S6, r6, q6⟩ := hp
            exact gone S6 fun t7 J7 => ⟨_, _, _, J7, r6, q6⟩
    exact goal
  · intro f t1 hp
    cases f
    case next =>
      obtain ⟨σ', H', J', q⟩ := hp
      exact wpAny_execs_nil ⟨σ', H', J'.ofTry ok, q⟩
    case brk =>
      obtain ⟨σ', H', J', q⟩ := hp
      exact ⟨σ', H', J'.ofTry ok, q⟩
    case cont =>
      obtain ⟨σ', H', J', q⟩ := hp
      exact ⟨σ', H', J'.ofTry ok, q⟩
    case ret u =>
      obtain ⟨v, σ', H', J', r, q⟩ := hp
      exact ⟨v, σ', H', J'.ofTry ok, r, q⟩
end
end L2

set_option maxRecDepth 100000
set_option maxHeartbeats 8000000
namespace Lag
open PySem PySem.Spec PyProof.Rows L2 L2H HotL
abbrev sNTinit : Stmt := inClass (topS 8 /- @NoLagsThere -/) 0
theorem exm_self {K : PySem.W.Frag} {S : Addr} (h1 : PySem.W.subIn K (.ref S) (.type "BaseException") = some true) (h2 : PySem.W.isClsIn K S = true) (h3 : PySem.W.typeIn K (.ref S) = some (.type "type")) (h4 : PySem.W.subIn K (.ref S) (.ref S) = some true) :
    PySem.W.exmOne K (.ref S) (.ref S) = some true := by
  have e1 : (PySem.W.subIn K (.ref S) (.type "BaseException") == some true) = true := by rw [h1] <;> rfl
  have e2 : ((PySem.W.clsIn K S).isSome && PySem.W.typeIn K (.ref S) == some (.type "type")) = true := by
    have h2' : (PySem.W.clsIn K S).isSome = true := h2
    rw [h2', h3] <;> rfl
  show (if (PySem.W.subIn K (.ref S) (.type "BaseException") == some true) = true then (if ((PySem.W.clsIn K S).isSome && PySem.W.typeIn K (.ref S) == some (.type "type")) = true then PySem.W.subIn K (.ref S) (.ref S) else none) else none) = some true
  rw [if_pos e1, if_pos e2]
  exact h4
/-- what the top tells of a class under LagError that has nothing of its own -/
structure PEx (K : PySem.W.Frag) (mg : Str → Option Value) (x : Str) (C : Addr) : Prop where
  g : mg x = some (.ref C)
  q : PySem.W.excIn K C [.type "ValueError", .type "Exception", .type "BaseException", .type "object"] "ValueError.__new__" = true
  k : PySem.W.keepIn K (.ref C) = true
  e : PySem.W.subIn K (.ref C) (.type "BaseException") = some true
  t : PySem.W.typeIn K (.ref C) = some (.type "type")
  te : PySem.W.exmOne K (.ref C) (.ref C) = some true
/-! ### things that may stand where a number is asked -/
inductive OdV (H : Hp) : V → Option Int → Prop where
  | int (n : Int) : OdV H (.int n) (some n)
  | bl (b : Bool) : OdV H (.bl b) none
  | non : OdV H .non none
  | str (x : Str) : OdV H (.str x) none
  | tup {a : Addr} {xs : List V} (e : H a = some (.tup xs)) : OdV H (.ref a) none
  | lst {a : Addr} {xs : List V} (e : H a = some (.lst xs)) : OdV H (.ref a) none
theorem OdV.same {H H' : Hp} {v : V} {o : Option Int} (h : OdV H v o) (s : Same H H') : OdV H' v o := by
  cases h with
  | int n => exact .int n
  | bl b => exact .bl b
  | non => exact .non
  | str x => exact .str x
  | tup e => exact .tup (s _ _ e)
  | lst e => exact .lst (s _ _ e)
theorem OdV.ty {K : PySem.W.Frag} {H : Hp} {v : V} {o : Option Int} (h : OdV H v o) : ∃ (t : String) (b1 b2 : Bool), TyX K H v (.type t) ∧ kitB t "int" = some b1 ∧ kitB t "bool" = some b2 ∧ (b1 && !b2) = o.isSome := by
  cases h with
  | int n => exact ⟨"int", true, false, .base (.int n), by decide +kernel, by decide +kernel, rfl⟩
  | bl b => exact ⟨"bool", true, true, .base (.bl b), by decide +kernel, by decide +kernel, rfl⟩
  | non => exact ⟨"NoneType", false, false, .base .non, by decide +kernel, by decide +kernel, rfl⟩
  | str x => exact ⟨"str", false, false, .base (.str x), by decide +kernel, by decide +kernel, rfl⟩
  | tup e => exact ⟨"tuple", false, false, .base (.tup e), by decide +kernel, by decide +kernel, rfl⟩
  | lst e => exact ⟨"list", false, false, .base (.lst e), by decide +kernel, by decide +kernel, rfl⟩
/-- from .. to .., of any thing -/
def fromO (o : Option Int) (a b : Int) : Bool := match o with
  | some n => decide (a ≤ n) && decide (n ≤ b)
  | none => false
def spWholeX : Sp := fun vs H Q _ => ∃ (v : V) (o : Option Int), vs = [v] ∧ OdV H v o ∧ Q (.bl o.isSome) H
def spFromToX : Sp := fun vs H Q _ => ∃ (v : V) (o : Option Int) (a b : Int), vs = [v, .int a, .int b] ∧ OdV H v o ∧ Q (.bl (fromO o a b)) H
theorem OdV.num {H : Hp} {v : V} {n : Int} (h : OdV H v (some n)) : v = .int n := by
  cases h
  rfl
/-! ### an exception with its own __init__, which calls that of LagError -/
section
variable {X : Cx} {e : Expr} {es : List Expr} {ta : TA} {p1 p2 pos : Pos}
theorem pe_leinit {x : Str} {C0 : Addr} {pl : Sem Bool} (hg : Gl X x) (hm : X.mg x = some (.ref C0)) (gA : PySem.W.specialIn X.K (.ref C0) "__getattribute__" = some (some (.builtin "type.__getattribute__"))) (tC : PySem.W.typeIn X.K (.ref C0) = some (.type "type")) (rC : PySem.W.readsIn X.K C0 (.type "type") = true)
    (vV : PySem.W.findCls X.K (.ref C0) (.type "type") "__init__" = some (.val (.builtin "ValueError.__init__"))) (ha : PA X (e :: es) ta) (hdb : (x == ("__debug__" : Str)) = false := by decide)
    (hc : eval (.Call (.Attribute (.Name x p1) "__init__" p2) (e :: es) [] pos) X.env = (do
      let ov ← eval (.Name x p1) X.env
      standAt p2.atName
      let (f, first) ← holding [ov] (getMethod ov "__init__" pl)
      callWith pos f first (backTo pos (starEach (e :: es) X.env)) (backToKw pos (keywordEach [] X.env))) := by rfl)
    (he : starEach (e :: es) X.env = (false, eval e X.env) :: starEach es X.env := by rfl) (hpl : (backTo pos (starEach es X.env)).any (·.1) = false := by rfl) :
    PE X (.Call (.Attribute (.Name x p1) "__init__" p2) (e :: es) [] pos) (tVeI X.K ta) := by
  refine ⟨fun pins s σ H Q I h => ?_⟩
  refine PySem.W.methodCall_KW (ld_glob I hg hm ?_ hdb) hc
  obtain ⟨m, fr⟩ := I.fr
  refine PySem.W.method_of_cls fr I.ok.mod.kin gA (PySem.W.cls_val fr I.ok.mod.kin tC rC vV (by decide +kernel) ?_)
  show wpAny _ _ (callWith pos (Value.builtin "ValueError.__init__") [] (backTo pos (starEach (e :: es) X.env)) []) _ _ _
  refine PyProof.Rows.callWith_method1 (thn (ha.run pos pins _ σ H _ (I.tok _) h) fun us s1 ⟨vs, H1, I1, r1, a, C, ws, ev, hl, T, ea, q⟩ => ?_) he hpl
  subst ev
  cases r1 with
  | @cons _ u0 _ ur ra rw' =>
    obtain rfl : u0 = Value.ref a := ra
    have hlen : ur.length ≤ sizeLine := by
      rw [← Paired.length rw', sizeLine_eq]
      omega
    exact oinit_ok T I1 ea hlen fun s' J => ⟨.non, H1, J, rfl, q⟩
end
/-- what the top tells of LagError -/
structure LEx (K : PySem.W.Frag) (mg : Str → Option Value) (C0 : Addr) : Prop where
  g : mg "LagError" = some (.ref C0)
  gA : PySem.W.specialIn K (.ref C0) "__getattribute__" = some (some (.builtin "type.__getattribute__"))
  tC : PySem.W.typeIn K (.ref C0) = some (.type "type")
  rC : PySem.W.readsIn K C0 (.type "type") = true
  vV : PySem.W.findCls K (.ref C0) (.type "type") "__init__" = some (.val (.builtin "ValueError.__init__"))
/-- .. and of a class under it with a field of its own -/
structure TEx (K : PySem.W.Frag) (mg : Str → Option Value) (x f : Str) (C fI : Addr) : Prop where
  g : mg x = some (.ref C)
  T : OexC K C
  iC : PySem.W.findIn K (.ref C) "__init__" = some (some (.ref fI))
  tI : PySem.W.typeIn K (.ref fI) = some (.type "function")
  no : PySem.W.findIn K (.ref C) f = some none
  xf : XfC K C
  te : PySem.W.exmOne K (.ref C) (.ref C) = some true
def spXI (f : Str) (C : Addr) : Sp := fun vs H Q _ => ∃ (a : Addr) (v : V), vs = [.ref a, v] ∧ H a = some (exo a C none) ∧ ∀ dx, H dx = none → dx ≠ a → Q .non (upd (upd H dx (exd dx [(f, v)])) a (exo a C (some dx)))
theorem mk_heap {H : Hp} {a d : Addr} {o1 o2 o3 o : HO} (ha : H a = none) (hd : d ≠ a) : upd (del (upd (upd (upd H a o1) d o2) a o3) a) d o = upd H d o := by
  funext b
  by_cases hb : b = d
  · rw [hb, upd_same, upd_same]
  · rw [upd_ne hb, upd_ne hb]
    by_cases hba : b = a
    · rw [hba, del_same, ha]
    · rw [del_ne hba, upd_ne hba, upd_ne hb, upd_ne hba]
theorem fn_cx0 {P : Program} {w : World} {K : PySem.W.Frag} {mg : Str → Option Value} {base : Heap} {CX : CXT} {k : Nat} {f : Addr} {fd : FuncData} {ps : List Str} {sp : Sp} (F : FnOk P w K mg base CX0 k f fd ps sp) : FnOk P w K mg base CX k f fd ps sp :=
  ⟨F.len, fun A outer s H args us vs Q E hr he hb hv hs => codeAny_mono (F.run A outer s H args us vs Q E hr he hb hv hs) fun r s' h => by
    cases r with
    | error e => exact False.elim h
    | ok fl =>
      cases fl with
      | ret u => exact h
      | next => exact False.elim h
      | brk => exact False.elim h
      | cont => exact False.elim h⟩
theorem fn_or {P : Program} {w : World} {K : PySem.W.Frag} {mg : Str → Option Value} {base : Heap} {CX : CXT} {k : Nat} {f : Addr} {fd : FuncData} {ps : List Str} {sp sp' : Sp} (F : FnOk P w K mg base CX k f fd ps sp) (F' : FnOk P w K mg base CX k f fd ps sp') : FnOk P w K mg base CX k f fd ps (fun vs H Q E => sp vs H Q E ∨ sp' vs H Q E) :=
  ⟨fun vs H Q E h => h.elim (F.len vs H Q E) (F'.len vs H Q E), fun A outer s H args us vs Q E hr he hb hv hs => hs.elim (F.run A outer s H args us vs Q E hr he hb hv) (F'.run A outer s H args us vs Q E hr he hb hv)⟩
/-- what is no beat -/
def OddB (H : Hp) (v : V) : Prop := ∃ o, OdV H v o ∧ ∀ n, o = some n → n < 0
theorem OddB.same {H H' : Hp} {v : V} (h : OddB H v) (s : Same H H') : OddB H' v := by
  obtain ⟨o, h1, h2⟩ := h
  exact ⟨o, h1.same s, h2⟩
def spOdd1 (CB : Addr) : Sp := fun vs H Q E => ∃ v, vs = [v] ∧ OddB H v ∧ E (.ref CB) none H
def spOdd2 (CB : Addr) : Sp := fun vs H Q E => ∃ u v, vs = [u, v] ∧ OddB H v ∧ E (.ref CB) none H
def spOdd3 (CB : Addr) : Sp := fun vs H Q E => ∃ u v x, vs = [u, v, x] ∧ OddB H v ∧ E (.ref CB) none H
def spOdd3' (CB : Addr) : Sp := fun vs H Q E => ∃ u x v, vs = [u, x, v] ∧ OddB H v ∧ E (.ref CB) none H
/-- no lags for b: refused with a bar -/
def spLetBar (K : PySem.W.Frag) (C CT : Addr) : Sp := fun vs H Q E => ∃ (p ng nw : Addr) (gs : List Gt) (ws : List Wr) (b : Int), vs = [.ref p, .int b] ∧ NetAt K C H p ng nw gs ws ∧ NetOk gs ws ∧ 0 ≤ b ∧ ¬ FeasE gs ws b ∧
  ∀ (l d : Addr) (pcs : List Pce) (H' : Hp), Same H H' → H' d = none → H l = none → BarV K H' l pcs → IsBar gs ws b pcs → (∀ pc ∈ pcs, PceOk gs ws pc ∧ pc.2.length ≤ 1000) → pcs.length ≤ 200 → E (.ref CT) (some d) (upd H' d (.xd [(("bar" : Str), .ref l)]))
abbrev sRefused : Stmt := topS 88 -- @_law_refused
abbrev sLone : Stmt := topS 89 -- @_law_lone_right
theorem pss_if {X : Cx} {ss : List Stmt} {p : Prop} {t : TS} (h : p → PSs X ss t) : PSs X ss (fun D σ H => p ∧ (σ.length = X.N.length → t D σ H)) := ⟨fun pins s σ H D I hh => (h hh.1).run pins s σ H D I (hh.2 I.len)⟩
def spRefused (K : PySem.W.Frag) (C : Addr) : Sp := fun vs H Q _ => ∃ (p ng nw : Addr) (gs : List Gt) (ws : List Wr) (b : Int), vs = [.ref p, .int b] ∧ NetAt K C H p ng nw gs ws ∧ NetOk gs ws ∧ 0 ≤ b ∧ ¬ FeasE gs ws b ∧ ∀ H', Same H H' → Q (.bl true) H'
def spLone : Sp := fun vs H Q _ => vs = [] ∧ ∀ H', Same H H' → Q (.bl true) H'
/-! ### one gate alone -/
def loneG : List Gt := [("sum", 7)]
theorem lone_ok : NetOk loneG [] := by
  refine ⟨List.cons_ne_nil _ _, by decide, by decide, fun g hg => ?_, (fun x hx => nomatch hx), fun e he hk => ?_, fun e he hk => ?_, ⟨fun _ => 0, (fun x hx => nomatch hx)⟩⟩
  · rw [List.mem_singleton.mp hg]
    exact ⟨by decide +kernel, by decide, by decide, fun h => absurd h (by decide +kernel)⟩
  · have : e = 0 := Nat.lt_one_iff.mp he
    subst this
    exact absurd hk (by decide +kernel)
  · have : e = 0 := Nat.lt_one_iff.mp he
    subst this
    exact absurd hk (by decide +kernel)
theorem lone_pw {s e : Nat} {ps : List Nat} (h : Pw [] s ps e) : ps = [] := by
  cases ps with
  | nil => rfl
  | cons p r =>
    obtain ⟨x, hx, _⟩ := h
    cases hx
theorem lone_gw {s : Nat} (h : s < loneG.length) : gw loneG s = 7 := by
  have : s = 0 := Nat.lt_one_iff.mp h
  subst this
  rfl
theorem lone_feas : FeasE loneG [] 7 := by
  refine ⟨fun _ => 0, fun _ _ _ => rfl, (fun x hx => nomatch hx), fun s ps e hs hp _ => ?_⟩
  have := lone_pw hp
  subst this
  show gw loneG s + 0 ≤ 7
  rw [lone_gw hs]
  decide
theorem lone_not : ¬ FeasE loneG [] 6 := by
  rintro ⟨L, f⟩
  have := f.wt 0 [] 0 (by decide) rfl (fun p h => nomatch h)
  revert this
  show ¬ (gw loneG 0 + 0 ≤ 6)
  rw [lone_gw (by decide)]
  decide
section
variable {P : Program} {w : World} {K : PySem.W.Frag} {mg : Str → Option Value} {base : Heap}
theorem ok_wholeX {f : Addr} {fd : FuncData} (F : Fun K "is_whole" "is_whole" sWhole f fd) (B : Bt mg) : FnOk P w K mg base CX0 1 f fd ["thing"] spWholeX := by
  refine F.ok scWhole (fun vs H Q E h => ?_) (fun cdv A outer s H vs Q E hr h => ?_)
  · obtain ⟨v, o, rfl, _⟩ := h
    rfl
  · obtain ⟨v, o, rfl, ho, q⟩ := h
    refine ⟨_, pss_one <| ps_ret <| pe_and (pe_callB call_isi (by rfl) B.isi (by decide +kernel) (pa_cons (pv 0) (pa_cons (pe_bltn (v := .ty "int") (by rfl) B.int (by decide +kernel) rfl) pa_nil)))
      (pe_one (pe_not (pe_callB call_isi (by rfl) B.isi (by decide +kernel) (pa_cons (pv 0) (pa_cons (pe_bltn (v := .ty "bool") (by rfl) B.bool (by decide +kernel) rfl) pa_nil))))), ?_⟩
    obtain ⟨t, b1, b2, ty, k1, k2, e⟩ := ho.ty (K := K)
    refine ⟨_, rfl, _, _, _, _, b1, rfl, .ty "int", ty, kit_ty k1, b1, rfl, ite2 (fun e1 => ?_) (fun e1 => ?_)⟩
    · subst e1
      refine ⟨_, rfl, _, _, _, _, b2, rfl, .ty "bool", ty, kit_ty k2, b2, rfl, ?_⟩
      rw [← e] at q
      exact q
    · have e2 : b1 = false := by simpa using e1
      subst e2
      rw [← e] at q
      exact q
theorem ok_fromToX {f fW : Addr} {fd fdW : FuncData} (F : Fun K "is_whole_from_to" "is_whole_from_to" sFromTo f fd) (DW : DWhole P w K mg base fW fdW) (DX : FnOk P w K mg base CX0 1 fW fdW ["thing"] spWholeX) : FnOk P w K mg base CX0 2 f fd ["thing", "least", "greatest"] spFromToX := by
  refine F.ok scFromTo (fun vs H Q E h => ?_) (fun cdv A outer s H vs Q E hr h => ?_)
  · obtain ⟨v, o, a, b, rfl, _⟩ := h
    rfl
  · obtain ⟨v, o, a, b, rfl, ho, q⟩ := h
    have hr1 : Room 1 _ := hr.mono (by decide)
    refine ⟨_, pss_one <| ps_ret <| pe_and (pe_call DX hr1 (by rfl) DW.mg DW.kp DW.bd .nil pass0 (pa_cons (pv 0) pa_nil)) (pe_one (pe_chain op_le op_le (pv 1) (pv 0) (pv 2))), ?_⟩
    refine ⟨_, rfl, v, o, rfl, ho, o.isSome, rfl, ?_⟩
    cases ho with
    | int n =>
      refine iteT ?_
      refine ⟨_, rfl, _, rfl, _, _, rfl, rfl, _, rfl, ?_⟩
      have q : Q (.bl (decide (a ≤ n) && decide (n ≤ b))) H := q
      cases e : decide (a ≤ n) with
      | false =>
        rw [e] at q
        exact iteF q
      | true =>
        rw [e] at q
        exact iteT ⟨_, rfl, _, _, rfl, rfl, q⟩
    | bl b' => exact iteF q
    | non => exact iteF q
    | str x => exact iteF q
    | tup e => exact iteF q
    | lst e => exact iteF q
theorem scNTinit : FnScope ["self", "bar"] ["self", "bar"] (defScope sNTinit) := ⟨rfl, rfl, rfl, by decide +kernel, rfl, by decide +kernel, by decide +kernel⟩
theorem ok_ntInit {f C0 C fI : Addr} {fd : FuncData} (F : Fun K "__init__" "NoLagsThere.__init__" sNTinit f fd) (L : LEx K mg C0) (TE : TEx K mg "NoLagsThere" "bar" C fI) : FnOk P w K mg base CX0 1 f fd ["self", "bar"] (spXI "bar" C) := by
  refine F.ok scNTinit (fun vs H Q E h => ?_) (fun cdv A outer s H vs Q E hr h => ?_)
  · obtain ⟨a, v, rfl, _⟩ := h
    rfl
  · obtain ⟨a, v, rfl, ha, q⟩ := h
    refine ⟨_, pss_cons (ps_expr (pe_leinit (by rfl) L.g L.gA L.tC L.rC L.vV (pa_cons (pv 0) (pa_cons pe_str pa_nil)))) <| pss_one (ps_ost (pv 0) (pv 1)), ?_⟩
    exact ⟨_, rfl, a, C, _, rfl, (by show 1 ≤ 1000; decide), TE.T, ha, _, rfl, _, rfl, a, C, rfl, TE.T, TE.no, .inl ⟨ha, fun dx hdx ne => q dx hdx ne⟩⟩
theorem ok_letBarN {f fF C CT fT : Addr} {fd fdF fdT : FuncData} (F : Fun K "let_bounds" "let_bounds" sLetBounds f fd) (DFb : DForBeat P w K mg base C fF fdF) (TE : TEx K mg "NoLagsThere" "bar" CT fT) (ntI : FnOk P w K mg base CX0 1 fT fdT ["self", "bar"] (spXI "bar" CT)) (bT : Binds K fdT ["self", "bar"] []) : FnOk P w K mg base (L2N.CX P w) 5 f fd ["net", "beat"] (spLetBar K C CT) := by
  refine F.okXN scLetBounds (fun vs H Q E h => ?_) (fun cdv A outer s H vs Q E hr h => ?_)
  · obtain ⟨p, ng, nw, gs, ws, b, rfl, _⟩ := h
    rfl
  · obtain ⟨p, ng, nw, gs, ws, b, rfl, NA, N, hb, nf, q⟩ := h
    have nd := scLetBounds.nd
    refine ⟨_, pss_cons (ps_asg (pe_call DFb.ok (hr.mono (by decide)) (by rfl) DFb.mg DFb.kp DFb.bd .nil pass0 (pa_cons (pv 0) (pa_cons (pv 1) pa_nil))) (pg_tup rfl (pgs_cons (pg_name (i := 2) nd rfl (.inl rfl)) (pgs_cons (pg_name (i := 3) nd rfl (.inl rfl)) pgs_nil)))) <|
        pss_cons (ps_if (pt_cmpR op_eq (pv 2) pe_str (nomark _)) (pss_one (L2N.ps_raise rfl (L2N.takes_of rfl rfl rfl rfl) (pmk_oexN TE.T TE.iC TE.tI ntI (hr.mono (by decide)) bT (by rfl) TE.g (pa_cons (pv 3) pa_nil)))) pss_nil) <|
        pss_one ps_never, ?_⟩
    refine ⟨_, rfl, _, rfl, p, ng, nw, gs, ws, b, rfl, NA, N, hb, fun t H1 s1 ht fr => ?_⟩
    rcases fr with ⟨l, L, _, _, _, fe, _⟩ | ⟨l, pcs, et, hl, bv, bar, pok, plen⟩
    · exact absurd ⟨L, fe⟩ nf
    refine ⟨t, _, rfl, .inl (.inl et), rfl, _, _, rfl, _, _, rfl, rfl, ?_⟩
    refine ⟨_, rfl, rfl, true, rfl, iteT ?_⟩
    refine ⟨_, rfl, (by show 1 ≤ 1000; decide), fun a ha => ⟨a, _, rfl, upd_same, fun dx hdx ne => ⟨rfl, dx, _, upd_same, by rw [upd_ne ne, upd_same], ?_, ?_⟩⟩⟩
    · rw [upd_ne ne] at hdx
      exact hdx
    · rw [mk_heap ha ne]
      rw [upd_ne ne] at hdx
      exact q l dx pcs H1 s1 hdx hl bv bar pok plen
theorem ok_fewBarN {f fL C CT : Addr} {fd fdL : FuncData} (F : Fun K "fewest" "fewest" sFewest f fd) (DS : DLetBounds P w K mg base C fL fdL) (DX : FnOk P w K mg base (L2N.CX P w) 5 fL fdL ["net", "beat"] (spLetBar K C CT)) : FnOk P w K mg base (L2N.CX P w) 8 f fd ["net", "beat"] (spLetBar K C CT) := by
  refine F.okXN scFewest (fun vs H Q E h => ?_) (fun cdv A outer s H vs Q E hr h => ?_)
  · obtain ⟨p, ng, nw, gs, ws, b, rfl, _⟩ := h
    rfl
  · obtain ⟨p, ng, nw, gs, ws, b, rfl, h⟩ := h
    have nd := scFewest.nd
    refine ⟨_, pss_cons (ps_set (i := 2) nd rfl (.inl rfl) (pe_callS DX (hr.mono (by decide)) (by rfl) DS.mg DS.kp DS.bd (fun σ => L2N.passAt (L2N.takes_of rfl rfl rfl rfl) σ) (pa_cons (pv 0) (pa_cons (pv 1) pa_nil)))) <| pss_cons ps_never <| pss_cons ps_never <| pss_one ps_never, ?_⟩
    exact ⟨_, rfl, _, rfl, p, ng, nw, gs, ws, b, rfl, h⟩
theorem net_in {Q : Addr → Hp → Prop} {lg lw : Addr} {gs : List Gt} {ws : List Wr} (R : RG K H lg gs) (R2 : RW K H lw ws) (N : NetOk gs ws)
    (q : ∀ p ng nw H', NetAt K C H' p ng nw gs ws → Same H H' → H p = none → H ng = none → H nw = none → Q p H') :
    ∀ x dx, H x = none → H dx = none → dx ≠ x → spInit K C (.ref x :: ([.ref lg, .ref lw] ++ [])) (upd (upd H dx (.own x)) x (.ins C dx [])) (fun v H' => v = .non ∧ Q x H') E0 := by
  intro x dx hx hdx ne
  have s0 : Same H (upd (upd H dx (.own x)) x (.ins C dx [])) := fun b o e => by
    rw [upd_ne (ne_of_none e hx), upd_ne (ne_of_none e hdx)]
    exact e
  refine ⟨x, dx, lg, lw, gs, ws, rfl, upd_same, R.same s0, R2.same s0, N, fun H' ng nw A h1 h2 k => ⟨rfl, ?_⟩⟩
  exact q x ng nw H' A (Same.made hx hdx k) hx (s0.free h1) (s0.free h2)
abbrev nRefused : List Str := ["_law_net", "_law_most", "e"]
theorem scRefused : FnScope nRefused ["_law_net", "_law_most"] (defScope sRefused) := ⟨rfl, rfl, rfl, by decide +kernel, rfl, by decide +kernel, by decide +kernel⟩
abbrev DRefused (P : Program) (w : World) (K : PySem.W.Frag) (mg : Str → Option Value) (base : Heap) (C : Addr) := Df P w K mg base 9 "_law_refused" ["_law_net", "_law_most"] (spRefused K C)
theorem takes0N {X : Cx} : L2N.Takes X (fun _ _ _ _ => False) := fun u s' ⟨_, _, _, _, _, _, _, _, _, _, _, _, _, _, _, _, w⟩ => w.elim
theorem ok_refused {f fF fB C CT fT : Addr} {fd fdF fdB : FuncData} (F : Fun K "_law_refused" "_law_refused" sRefused f fd) (hm : mg "_law_refused" = some (.ref f)) (B : Bt mg) (TT : TEx K mg "NoLagsThere" "bar" CT fT) (DFw : DFewest P w K mg base C fF fdF) (DX : FnOk P w K mg base (L2N.CX P w) 8 fF fdF ["net", "beat"] (spLetBar K C CT)) (DBf : HBarFault P w K mg base C fB fdB) : DRefused P w K mg base C f fd := by
  refine ⟨?_, hm, F.kp, F.binds fun _ _ _ _ _ _ us hl => match us, hl with | [_, _], _ => rfl⟩
  refine F.ok scRefused (fun vs H Q E h => ?_) (fun cdv A outer s H vs Q E hr h => ?_)
  · obtain ⟨p, ng, nw, gs, ws, b, rfl, _⟩ := h
    rfl
  · obtain ⟨p, ng, nw, gs, ws, b, rfl, NA, N, hb, nf, q⟩ := h
    have nd := scRefused.nd
    refine ⟨_, pss_cons (ps_try_clsN (tb := fun W => tDrop (tCallS (spLetBar K C CT) (WE W) (tCons (tVar 0) (tCons (tVar 1) tNil)))) (Wo := fun _ _ _ _ => False)
        (l := [⟨.ref CT, some 2, fun a cls d D σ H => (cls = .ref CT) ∧ (σ.length = 3 → tRet (tOp (fun x y H Q => y = .non ∧ Q (.bl (decide (x = .non))) H) (tCallS (spBarFault K C) (fun _ => E0) (tCons (tVar 0) (tCons (tVar 1) (tCons (tXf a (.ref CT) d CT "bar" (tVar 2)) tNil)))) (tC .non)) D σ H)⟩])
        rfl rfl nd takes0N (fun W pn xe tk _ => pss_one (ps_expr (pe_callS DX (hr.mono (by decide)) (by rfl) DFw.mg DFw.kp DFw.bd (fun σ => L2N.passAt tk σ) (pa_cons (pv 0) (pa_cons (pv 1) pa_nil)))))
        (ClsOkN.named rfl rfl ⟨rfl, by decide, .inl TT.g⟩ (fun a oe cls d pn hz hf hot => pss_if fun e1 => by
          subst e1
          exact pss_one (ps_ret (pe_cmpR op_isN (pe_callH (E := fun _ => E0) DBf.ok ⟨(hr.mono (by decide : 4 ≤ 8)).dp, (hr.mono (by decide : 4 ≤ 8)).un⟩ hot (by rfl) DBf.mg DBf.kp DBf.bd passH (pa_cons (pv 0) (pa_cons (pv 1) (pa_cons (pe_xf TT.xf TT.no ⟨hz.1, hz.2.1⟩ hf (pv 2)) pa_nil)))) pe_non (nomark _)))) .nil)) <|
        pss_one (ps_ret pe_bl), ?_⟩
    refine ⟨_, rfl, _, rfl, p, ng, nw, gs, ws, b, rfl, NA, N, hb, nf, fun l d pcs H3 s3 hd hl bv bar pok pl => ?_⟩
    refine ⟨true, TT.te, fun _ a ha => ⟨rfl, fun _ => ?_⟩, fun z => by cases z⟩
    have sd : Same H3 (upd H3 d (.xd [(("bar" : Str), .ref l)])) := same_new hd
    have ed : (upd H3 d (.xd [(("bar" : Str), .ref l)])) d = some (.xd [(("bar" : Str), .ref l)]) := upd_same
    generalize upd H3 d (.xd [(("bar" : Str), .ref l)]) = H4 at sd ed
    have s14 := s3.trans sd
    have bv4 := bv.same sd
    obtain ⟨hne, v0, jn, hneg⟩ := id bar
    refine ⟨_, rfl, _, rfl, _, rfl, rfl, rfl, d, _, .ref l, rfl, ed, rfl, p, ng, nw, l, gs, ws, b, pcs, rfl, NA.same s14, N, hb, bv4, hne, pl, pok, ⟨v0, jn⟩, (fun _ H5 s5 => ⟨rfl, q H5 (s14.trans s5)⟩), fun h => absurd h (by omega)⟩
abbrev nLone : List Str := ["_law_lone", "_law_many", "_law_lags_here", "_law_paper"]
theorem scLone : FnScope nLone [] (defScope sLone) := ⟨rfl, rfl, rfl, by decide +kernel, rfl, by decide +kernel, by decide +kernel⟩
abbrev DLone (P : Program) (w : World) (K : PySem.W.Frag) (mg : Str → Option Value) (base : Heap) := Df P w K mg base 11 "_law_lone_right" [] spLone
theorem ok_lone {f C fI fFw fPf fBo fRf : Addr} {fd fdI fdFw fdPf fdBo fdRf : FuncData} (F : Fun K "_law_lone_right" "_law_lone_right" sLone f fd) (hm : mg "_law_lone_right" = some (.ref f)) (B : Bt mg) (T : NT K mg C) (MK : Mk K C fI) (init : FnOk P w K mg base CX0 6 fI fdI ["self", "gates", "wires"] (spInit K C)) (bI : Binds K fdI ["self", "gates", "wires"] [])
    (DFw : DFewest P w K mg base C fFw fdFw) (DPf : DPaperFault P w K mg base C fPf fdPf) (DBo : DBoundOf P w K mg base C fBo fdBo) (DRf : DRefused P w K mg base C fRf fdRf) : DLone P w K mg base f fd := by
  refine ⟨?_, hm, F.kp, F.binds fun _ _ _ _ _ _ us hl => match us, hl with | [], _ => rfl⟩
  refine F.ok scLone (fun vs H Q E h => ?_) (fun cdv A outer s H vs Q E hr h => ?_)
  · obtain ⟨rfl, _⟩ := h
    rfl
  · obtain ⟨rfl, q⟩ := h
    have nd := scLone.nd
    refine ⟨_, pss_cons (ps_set (i := 0) nd rfl (.inl rfl) (pe_make MK init (hr.mono (by decide)) (by rfl) T.mg bI .nil pass0 (pa_cons (pe_lst (pa_cons (pe_tup (pa_cons pe_str (pa_cons pe_int pa_nil))) pa_nil)) (pa_cons (pe_lst pa_nil) pa_nil)))) <|
        pss_cons (ps_asg (pe_call DFw.ok (hr.mono (by decide)) (by rfl) DFw.mg DFw.kp DFw.bd .nil pass0 (pa_cons (pv 0) (pa_cons pe_int pa_nil))) (pg_tup rfl (pgs_cons (pg_name (i := 1) nd rfl (.inl rfl)) (pgs_cons (pg_name (i := 2) nd rfl (.inl rfl)) (pgs_cons (pg_name (i := 3) nd rfl (.inl rfl)) pgs_nil))))) <|
        pss_cons (ps_if (PW.pt (pw_or (pt_cmpR op_ne (pv 1) pe_int (nomark _)) (pw_or (pt_cmpR op_ne (pe_callB call_len_seq (by rfl) B.len PySem.boot_len (pa_cons (pv 2) pa_nil)) pe_int (nomark _)) (pw_or1 (pt_cmpR op_notN (pe_call DPf.ok (hr.mono (by decide)) (by rfl) DPf.mg DPf.kp DPf.bd .nil pass0 (pa_cons (pv 0) (pa_cons pe_int (pa_cons (pv 3) pa_nil)))) pe_non (nomark _)))))) (pss_one (ps_ret pe_bl)) pss_nil) <|
        pss_one (ps_ret (pe_and (pe_cmpR op_eq (pe_call DBo.ok (hr.mono (by decide)) (by rfl) DBo.mg DBo.kp DBo.bd .nil pass0 (pa_cons (pv 0) (pa_cons (pv 3) (pa_cons pe_int pa_nil)))) pe_int (nomark _)) (pe_one (pe_call DRf.ok (hr.mono (by decide)) (by rfl) DRf.mg DRf.kp DRf.bd .nil pass0 (pa_cons (pv 0) (pa_cons pe_int pa_nil)))))), ?_⟩
    refine ⟨(by show 2 ≤ sizeLine; decide), fun t1 ht1 => ?_⟩
    have s1 : Same H (upd H t1 (.tup [.str "sum", .int 7])) := same_new ht1
    have e1 : (upd H t1 (.tup [.str "sum", .int 7])) t1 = some (.tup [.str "sum", .int 7]) := upd_same
    generalize upd H t1 (.tup [.str "sum", .int 7]) = H1 at s1 e1
    refine ⟨(by show 1 ≤ sizeLine; decide), fun l2 hl2 => ?_⟩
    have s2 : Same H1 (upd H1 l2 (.lst [.ref t1])) := same_new hl2
    have e2 : (upd H1 l2 (.lst [.ref t1])) l2 = some (.lst [.ref t1]) := upd_same
    generalize upd H1 l2 (.lst [.ref t1]) = H2 at s2 e2
    refine ⟨(by show 0 ≤ sizeLine; decide), fun l3 hl3 => ?_⟩
    have s3 : Same H2 (upd H2 l3 (.lst [])) := same_new hl3
    have e3 : (upd H2 l3 (.lst [])) l3 = some (.lst []) := upd_same
    generalize upd H2 l3 (.lst []) = H3 at s3 e3
    have G3 : LG K H3 l2 loneG := ⟨[.ref t1], s3 _ _ e2, .cons ⟨t1, rfl, .inl (.inl ((s2.trans s3) _ _ e1))⟩ .nil⟩
    have W3 : LW K H3 l3 [] := ⟨[], e3, .nil⟩
    refine net_in G3.rg W3.rw lone_ok fun p ng nw H4 NA4 s4 hp hng hnw => ?_
    refine gn_norm (σ' := [some (.ref p), none, none, none]) rfl ?_
    refine ⟨_, rfl, p, ng, nw, loneG, [], 7, rfl, NA4, lone_ok, by decide, lone_feas, fun t ll lp m L ev es H5 s5 et hll ell hlp elp al eok hel bal fe hm1 hm2 _ => ?_⟩
    refine ⟨t, _, rfl, .inl (.inl et), rfl, _, _, rfl, _, _, rfl, _, _, rfl, rfl, ?_⟩
    have em : m = 0 := hm1
    subst em
    refine gn_norm (σ' := [some (.ref p), some (.int 0), some (.ref ll), some (.ref lp)]) rfl ?_
    refine ⟨_, rfl, rfl, false, rfl, iteF ⟨_, rfl, ll, _, rfl, .inl (SqL.of ell), rfl, false, rfl, iteF ?_⟩⟩
    refine ⟨_, rfl, _, rfl, p, ng, nw, lp, loneG, [], 7, ev, es, rfl, NA4.same s5, lone_ok, by decide, SqL.of elp, al, eok, hel, bal, fun H6 s6 => ⟨rfl, false, rfl, iteF ?_⟩⟩
    have s56 := s5.trans s6
    refine ⟨_, rfl, _, rfl, p, ng, nw, lp, loneG, [], 7, ev, es, rfl, NA4.same s56, lone_ok, by decide, SqL.of (s6 _ _ elp), al.imp fun _ _ r => EntV.same s6 r, eok, hel, bal, fun H7 s7 => ⟨rfl, ?_⟩⟩
    have s57 := s56.trans s7
    rw [← hm2]
    refine ⟨true, rfl, ?_⟩
    exact ⟨_, rfl, p, ng, nw, loneG, [], 6, rfl, NA4.same s57, lone_ok, by decide, lone_not, fun H8 s8 => q H8 (s1.trans (s2.trans (s3.trans (s4.trans (s57.trans s8)))))⟩
end
end Lag

set_option maxRecDepth 100000
set_option maxHeartbeats 8000000
namespace Lag
open PySem PySem.Spec PyProof.Rows L2
abbrev sLaw : Stmt := topS 90 -- @law
def spLaw (K : PySem.W.Frag) : Sp := fun vs H Q _ => ∃ (a : Addr) (ns : List Int), vs = [.ref a] ∧ SqL K H a (ns.map V.int) ∧ ns.length ≤ 63 ∧ ∀ H', Q (.bl true) H'
theorem NetAt.dr {K : PySem.W.Frag} {C wl p ng nw : Addr} {H H' : Hp} {gs : List Gt} {ws : List Wr} (n : NetAt K C H p ng nw gs ws) (W : WellAt wl H) (n3 : p ≠ wl) (n4 : ng ≠ wl) (n5 : nw ≠ wl) (d : Dr wl H H') : NetAt K C H' p ng nw gs ws := by
  obtain ⟨dx, h⟩ := n.ob
  exact ⟨⟨dx, d.but _ _ n3 h⟩, n.g.dr n4 W d, n.w.dr n5 W d, n.ne⟩
structure NetN (K : PySem.W.Frag) (C wl : Addr) (H : Hp) (p ng nw : Addr) (gs : List Gt) (ws : List Wr) : Prop where
  n : NetAt K C H p ng nw gs ws
  n1 : p ≠ wl
  n2 : ng ≠ wl
  n3 : nw ≠ wl
theorem NetN.dr {K : PySem.W.Frag} {C wl p ng nw : Addr} {H H' : Hp} {gs : List Gt} {ws : List Wr} (h : NetN K C wl H p ng nw gs ws) (W : WellAt wl H) (d : Dr wl H H') : NetN K C wl H' p ng nw gs ws := ⟨h.n.dr W h.n1 h.n2 h.n3 d, h.n1, h.n2, h.n3⟩
theorem NetN.same {K : PySem.W.Frag} {C wl p ng nw : Addr} {H H' : Hp} {gs : List Gt} {ws : List Wr} (h : NetN K C wl H p ng nw gs ws) (s : Same H H') : NetN K C wl H' p ng nw gs ws := ⟨h.n.same s, h.n1, h.n2, h.n3⟩
theorem Dr.ofSame {wl : Addr} {H H' : Hp} (W : WellAt wl H) (s : Same H H') : Dr wl H H' := ⟨But.same s, W.same s⟩
theorem lcnt_sum {gs : List Gt} {ws : List Wr} (N : NetOk gs ws) (L : Nat → Int) : (lcntL ws (lagsL gs L)).sum = cntsum ws L := by
  unfold lcntL cntsum
  congr 1
  refine List.map_congr_left fun x hx => ?_
  have W := N.wok x hx
  unfold lcntX
  rw [lagsL_at W.s, lagsL_at W.e]
section
variable {P : Program} {w : World} {K : PySem.W.Frag} {mg : Str → Option Value} {base : Heap}
abbrev nLaw : List Str := ["_law_script", "_law_k", "_law_state", "_law_gates_here", "_law_wires_here", "_law_net", "_law_least", "_law_most", "_law_many", "_law_lags_here", "_law_paper", "_law_other", "_law_others", "_law_some"]
theorem scLaw : FnScope nLaw ["_law_script"] (defScope sLaw) := ⟨rfl, rfl, rfl, by decide +kernel, rfl, by decide +kernel, by decide +kernel⟩
theorem ok_law {f fC fP fD fL fFw fDo fLc fAl fBn fPf fBo fRf fLn C fI : Addr} {fd fdC fdP fdD fdL fdFw fdDo fdLc fdAl fdBn fdPf fdBo fdRf fdLn fdI : FuncData} (F : Fun K "law" "law" sLaw f fd) (B : Bt mg) (mn : mg "min" = none) (ms : mg "sum" = none) (T : NT K mg C) (MK : Mk K C fI) (init : FnOk P w K mg base CX0 6 fI fdI ["self", "gates", "wires"] (spInit K C)) (bI : Binds K fdI ["self", "gates", "wires"] [])
    (DC : DCellAt P w K mg base fC fdC) (DP : DLParts P w K mg base fP fdP) (DD : DDraw P w K mg base fD fdD) (DLB : DLeastBeat P w K mg base C fL fdL) (DFw : DFewest P w K mg base C fFw fdFw) (DDo : DLDoes P w K mg base fDo fdDo) (DLc : DLCounts P w K mg base fLc fdLc) (DAl : DAllLags P w K mg base fAl fdAl) (DBn : DLBound P w K mg base fBn fdBn)
    (DPf : DPaperFault P w K mg base C fPf fdPf) (DBo : DBoundOf P w K mg base C fBo fdBo) (DRf : DRefused P w K mg base C fRf fdRf) (DLn : DLone P w K mg base fLn fdLn) : FnOk P w K mg base CX0 14 f fd ["_law_script"] (spLaw K) := by
  refine F.ok scLaw (fun vs H Q E h => ?_) (fun cdv A outer s H vs Q E hr h => ?_)
  · obtain ⟨a, ns, rfl, _⟩ := h
    rfl
  · obtain ⟨a, ns, rfl, hS, hlen, q⟩ := h
    have nd := scLaw.nd
    refine ⟨_, pss_cons (ps_if (pt_not (pt_val (pe_call0 DLn.ok (hr.mono (by decide)) (by rfl) DLn.mg DLn.kp DLn.bd .nil pass0))) (pss_one (ps_ret pe_bl)) pss_nil) <|
        pss_cons (ps_for PassesOwn.never rfl (pi_range1 (by rfl) B.range (pa_cons (pe_callB (call_max2 rfl) (by rfl) B.max (by decide +kernel) (pa_cons pe_int (pa_cons (pe_callB (call_min2 rfl) (by rfl) mn (by decide +kernel) (pa_cons pe_int (pa_cons (pe_callB call_len_seq (by rfl) B.len PySem.boot_len (pa_cons (pv 0) pa_nil)) pa_nil))) pa_nil))) pa_nil)) (pg_name (i := 1) nd rfl (.inl rfl)) (pss_cons (ps_set (i := 2) nd rfl (.inl rfl) (pe_lst (pa_cons (pe_op op_add (pe_call DC.ok (hr.mono (by decide)) (by rfl) DC.mg DC.kp DC.bd .nil pass0 (pa_cons (pv 0) (pa_cons (pv 1) pa_nil))) (pe_op op_mul pe_int (pv 1))) pa_nil))) <|
        pss_cons (ps_asg (pe_call DP.ok (hr.mono (by decide)) (by rfl) DP.mg DP.kp DP.bd .nil pass0 (pa_cons (pv 2) (pa_cons pe_int pa_nil))) (pg_tup rfl (pgs_cons (pg_name (i := 3) nd rfl (.inr rfl)) (pgs_cons (pg_name (i := 4) nd rfl (.inr rfl)) pgs_nil)))) <|
        pss_cons (ps_set (i := 5) nd rfl (.inl rfl) (pe_make MK init (hr.mono (by decide)) (by rfl) T.mg bI .nil pass0 (pa_cons (pv 3) (pa_cons (pv 4) pa_nil)))) <|
        pss_cons (ps_set (i := 6) nd rfl (.inl rfl) (pe_ix ix_tup (pe_call DLB.ok (hr.mono (by decide)) (by rfl) DLB.mg DLB.kp DLB.bd .nil pass0 (pa_cons (pv 5) pa_nil)) pe_int (fun _ _ => rfl))) <|
        pss_cons (ps_set (i := 7) nd rfl (.inr rfl) (pe_op op_add (pv 6) (pe_ix ix_list (pe_lst (pa_cons pe_int (pa_cons pe_int (pa_cons (pe_call DD.ok (hr.mono (by decide)) (by rfl) DD.mg DD.kp DD.bd .nil pass0 (pa_cons (pv 2) (pa_cons pe_int pa_nil))) pa_nil)))) (pe_call DD.ok (hr.mono (by decide)) (by rfl) DD.mg DD.kp DD.bd .nil pass0 (pa_cons (pv 2) (pa_cons pe_int pa_nil))) (fun _ _ => rfl)))) <|
        pss_cons (ps_asg (pe_call DFw.ok (hr.mono (by decide)) (by rfl) DFw.mg DFw.kp DFw.bd .nil pass0 (pa_cons (pv 5) (pa_cons (pv 7) pa_nil))) (pg_tup rfl (pgs_cons (pg_name (i := 8) nd rfl (.inl rfl)) (pgs_cons (pg_name (i := 9) nd rfl (.inl rfl)) (pgs_cons (pg_name (i := 10) nd rfl (.inl rfl)) pgs_nil))))) <|
        pss_cons (ps_if (PW.pt (pw_or (pt_not (pt_val (pe_call DDo.ok (hr.mono (by decide)) (by rfl) DDo.mg DDo.kp DDo.bd .nil pass0 (pa_cons (pv 3) (pa_cons (pv 4) (pa_cons (pv 9) (pa_cons (pv 7) pa_nil))))))) (pw_or1 (pt_cmpR op_ne (pe_callB (cr_sum rfl) (by rfl) ms (by decide +kernel) (pa_cons (pe_call DLc.ok (hr.mono (by decide)) (by rfl) DLc.mg DLc.kp DLc.bd .nil pass0 (pa_cons (pv 4) (pa_cons (pv 9) pa_nil))) pa_nil)) (pv 8) (nomark _))))) (pss_one (ps_ret pe_bl)) pss_nil) <|
        pss_cons (ps_setLc (i := 12) (own := [("_law_other", 11)]) (g := (gName 11)) (tt := (tB (tCall (spLDoes K) [] E0 (tCons (tVar 3) (tCons (tVar 4) (tCons (tVar 11) (tCons (tVar 7) tNil))))))) (te := (tVar 11)) rfl nd rfl rfl (sw_true rfl rfl rfl (by decide +kernel)) (pi_list (pe_call DAl.ok (hr.mono (by decide)) (by rfl) DAl.mg DAl.kp DAl.bd .nil pass0 (pa_cons (pv 3) (pa_cons pe_int pa_nil)))) (blkOk_by (N := nLaw) (sc := defScope sLaw) (own := [("_law_other", 11)]) (by decide +kernel)) (fun _ _ _ _ _ => (pg_name (i := 11) nd rfl (.inl rfl))) (fun _ _ _ _ _ => pts_one (pt_val (pe_call DDo.ok (hr.mono (by decide)) (by rfl) DDo.mg DDo.kp DDo.bd .nil pass0 (pa_cons (pv 3) (pa_cons (pv 4) (pa_cons (pv 11) (pa_cons (pv 7) pa_nil))))))) (fun _ _ _ _ _ => (pv 11))) <|
        pss_cons (ps_setLc (i := 13) (own := [("_law_other", 11)]) (g := (gName 11)) (tt := tYes) (te := (tCB (rSum K) (tCons (tCall (spLCounts K) [] E0 (tCons (tVar 4) (tCons (tVar 11) tNil))) tNil))) rfl nd rfl rfl (sw_true rfl rfl rfl (by decide +kernel)) (pi_list (pv 12)) (blkOk_by (N := nLaw) (sc := defScope sLaw) (own := [("_law_other", 11)]) (by decide +kernel)) (fun _ _ _ _ _ => (pg_name (i := 11) nd rfl (.inl rfl))) (fun _ _ _ _ _ => pts_nil) (fun _ _ _ _ _ => (pe_callB (cr_sum rfl) (by rfl) ms (by decide +kernel) (pa_cons (pe_call DLc.ok (hr.mono (by decide)) (by rfl) DLc.mg DLc.kp DLc.bd .nil pass0 (pa_cons (pv 4) (pa_cons (pv 11) pa_nil))) pa_nil)))) <|
        pss_cons (ps_if (PW.pt (pw_or (pt_cmpR op_lt (pe_callB (cr_min rfl) (by rfl) mn (by decide +kernel) (pa_cons (pe_op op_cat (pv 13) (pe_lst (pa_cons (pv 8) pa_nil))) pa_nil)) (pv 8) (nomark _)) (pw_or1 (pt_cmpR op_ne (pe_call DBn.ok (hr.mono (by decide)) (by rfl) DBn.mg DBn.kp DBn.bd .nil pass0 (pa_cons (pv 3) (pa_cons (pv 4) (pa_cons (pv 10) (pa_cons (pv 7) pa_nil))))) (pv 8) (nomark _))))) (pss_one (ps_ret pe_bl)) pss_nil) <|
        pss_cons (ps_if (PW.pt (pw_or (pt_cmpR op_notN (pe_call DPf.ok (hr.mono (by decide)) (by rfl) DPf.mg DPf.kp DPf.bd .nil pass0 (pa_cons (pv 5) (pa_cons (pv 7) (pa_cons (pv 10) pa_nil)))) pe_non (nomark _)) (pw_or1 (pt_cmpR op_ne (pe_call DBo.ok (hr.mono (by decide)) (by rfl) DBo.mg DBo.kp DBo.bd .nil pass0 (pa_cons (pv 5) (pa_cons (pv 10) (pa_cons (pv 7) pa_nil)))) (pv 8) (nomark _))))) (pss_one (ps_ret pe_bl)) pss_nil) <|
        pss_one (ps_if (PW.pt (pw_and (pt_cmpR op_gt (pv 6) pe_int (nomark _)) (pw_and1 (pt_not (pt_val (pe_call DRf.ok (hr.mono (by decide)) (by rfl) DRf.mg DRf.kp DRf.bd .nil pass0 (pa_cons (pv 5) (pa_cons (pe_call DD.ok (hr.mono (by decide)) (by rfl) DD.mg DD.kp DD.bd .nil pass0 (pa_cons (pv 2) (pa_cons (pv 6) pa_nil))) pa_nil)))))))) (pss_one (ps_ret pe_bl)) pss_nil))) <|
        pss_one (ps_ret pe_bl), ?_⟩
    refine ⟨rfl, fun Hs ss => ⟨true, rfl, iteF ?_⟩⟩
    have hS := ss.seq hS
    refine ⟨_, rfl, a, _, rfl, .inl hS, 6, _, rfl, 1, _, rfl, _, rfl, ?_, ?_, ?_⟩
    · split <;> split <;> omega
    · split <;> split <;> omega
    refine for_range (lo := 0) (fun i σ H' => ∃ o1 o2 o3 o4 o5 o6 o7 o8 o9 oa oc od : Option V, σ = [some (.ref a), o1, o2, o3, o4, o5, o6, o7, o8, o9, oa, none, oc, od] ∧ Same Hs H') ⟨_, _, _, _, _, _, _, _, _, _, _, _, rfl, Same.refl _⟩ ?_ (fun σ H' ⟨_, _, _, _, _, _, _, _, _, _, _, _, e, _⟩ => by subst e; exact q H')
    rintro i σ H0 hi ⟨o1, o2, o3, o4, o5, o6, o7, o8, o9, oa, oc, od, rfl, s0⟩
    have ek : (0 : Int) + (i : Nat) = ((i : Nat) : Int) := Int.zero_add _
    rw [ek]
    refine ⟨_, rfl, _, rfl, a, ns, _, rfl, by omega, s0.seq hS, fun z => ?_⟩
    refine ⟨_, rfl, _, _, rfl, rfl, .inl ⟨by decide, by decide⟩, _, _, rfl, rfl, (by show 1 ≤ sizeLine; decide), fun wl hwl => ?_⟩
    have s1 : Same H0 (upd H0 wl (.lst [.int (z + 43 * (i : Nat))])) := same_new hwl
    have W1 : WellAt wl (upd H0 wl (.lst [.int (z + 43 * (i : Nat))])) := ⟨_, upd_same, .inl ⟨_, rfl⟩⟩
    have sm : ∀ {H' : Hp}, Dr wl (upd H0 wl (.lst [.int (z + 43 * (i : Nat))])) H' → Same Hs H' := fun {H'} d a' o h => by
      have h0 := s0 _ _ h
      exact d.but _ _ (ne_of_none h0 hwl) (s1 _ _ h0)
    generalize upd H0 wl (.lst [.int (z + 43 * (i : Nat))]) = H1 at s1 W1 sm
    refine gn_norm (σ' := [some (.ref a), some (.int (i : Nat)), some (.ref wl), o3, o4, o5, o6, o7, o8, o9, oa, none, oc, od]) rfl ?_
    refine ⟨_, rfl, wl, 3, rfl, by decide, by decide, W1, fun gs ws lg lw p H2 N gl24 glm hnI hwg rl3 hw72 wne inner D2 hlg hlw nlgw LG2 LW2 ep => ?_⟩
    refine ⟨p, _, rfl, .inl (.inl ep), rfl, _, _, rfl, _, _, rfl, rfl, ?_⟩
    have nlg : lg ≠ wl := (W1.ne hlg).symm
    have nlw : lw ≠ wl := (W1.ne hlw).symm
    refine gn_norm (σ' := [some (.ref a), some (.int (i : Nat)), some (.ref wl), some (.ref lg), some (.ref lw), o5, o6, o7, o8, o9, oa, none, oc, od]) rfl ?_
    refine ⟨_, rfl, _, rfl, ?_⟩
    refine net_in LG2.rg LW2.rw N fun p1 ng1 nw1 H3 NA3 s3 hp1 hng1 hnw1 => ?_
    have W2 := D2.well
    have X3 : NetN K C wl H3 p1 ng1 nw1 gs ws := ⟨NA3, (W2.ne hp1).symm, (W2.ne hng1).symm, (W2.ne hnw1).symm⟩
    have D3 := D2.trans (Dr.ofSame W2 s3)
    have G3 := LG2.same' s3
    have V3 := LW2.same' s3
    refine gn_norm (σ' := [some (.ref a), some (.int (i : Nat)), some (.ref wl), some (.ref lg), some (.ref lw), some (.ref p1), o6, o7, o8, o9, oa, none, oc, od]) rfl ?_
    -- the least beat
    refine ⟨_, rfl, p1, ng1, nw1, gs, ws, rfl, X3.n, N, by omega, fun t4 l4 Bt L0 H4 s4 et4 hl4 el4 IL0 F0 bd0 hB => ?_⟩
    refine ⟨t4, _, 0, _, rfl, rfl, .inl (.inl et4), atI_nat (j := 0) rfl, ?_⟩
    have hB1 := IL0.bd N
    have D4 := D3.trans (Dr.ofSame D3.well s4)
    have X4 := X3.same s4
    have G4 := G3.same' s4
    have V4 := V3.same' s4
    refine gn_norm (σ' := [some (.ref a), some (.int (i : Nat)), some (.ref wl), some (.ref lg), some (.ref lw), some (.ref p1), some (.int Bt), o7, o8, o9, oa, none, oc, od]) rfl ?_
    -- the beat
    refine ⟨_, rfl, _, rfl, wl, 60, rfl, by decide, by decide, D4.well, fun d5 H5 y0 y1 E5 => ?_⟩
    have D5 := D4.trans E5
    refine ⟨(by show 3 ≤ sizeLine; decide), fun l6 hl6 => ?_⟩
    have n6 : l6 ≠ wl := (D5.well.ne hl6).symm
    have s6 : Same H5 (upd H5 l6 (.lst [.int 0, .int 1, .int d5])) := same_new hl6
    have e6 : (upd H5 l6 (.lst [.int 0, .int 1, .int d5])) l6 = some (.lst [.int 0, .int 1, .int d5]) := upd_same
    generalize upd H5 l6 (.lst [.int 0, .int 1, .int d5]) = H6 at s6 e6
    have D6 := D5.trans (Dr.ofSame D5.well s6)
    refine ⟨_, rfl, wl, 3, rfl, by decide, by decide, D6.well, fun d7 H7 z0 z1 E7 => ?_⟩
    have D7 := D6.trans E7
    have e67 := E7.but _ _ n6 e6
    obtain ⟨c, hc, hc0⟩ : ∃ c : Int, ([.int 0, .int 1, .int d5] : List V)[d7.toNat]? = some (.int c) ∧ 0 ≤ c := by
      have h3 : d7 = 0 ∨ d7 = 1 ∨ d7 = 2 := by omega
      rcases h3 with rfl | rfl | rfl
      · exact ⟨0, rfl, by decide⟩
      · exact ⟨1, rfl, by decide⟩
      · exact ⟨d5, rfl, y0⟩
    refine ⟨l6, _, d7, _, rfl, rfl, SqL.of e67, at_of (j := d7.toNat) (by omega) hc, _, _, rfl, rfl, ?_⟩
    have X7 := ((X4.dr D4.well E5).same s6).dr D6.well E7
    have G7 := ((G4.dr nlg D4.well E5).same' s6).dr nlg D6.well E7
    have V7 := ((V4.dr nlw D4.well E5).same' s6).dr nlw D6.well E7
    refine gn_norm (σ' := [some (.ref a), some (.int (i : Nat)), some (.ref wl), some (.ref lg), some (.ref lw), some (.ref p1), some (.int Bt), some (.int (Bt + c)), o8, o9, oa, none, oc, od]) rfl ?_
    have FE : FeasE gs ws (Bt + c) := ⟨L0, F0.mono (by omega)⟩
    have hbc : 0 ≤ Bt + c := by omega
    -- the fewest
    refine ⟨_, rfl, _, rfl, p1, ng1, nw1, gs, ws, Bt + c, rfl, X7.n, N, hbc, FE, fun t8 ll lp m L ev es H8 s8 et8 hll ell hlp elp al eok hel bal fe hm1 hm2 _ => ?_⟩
    refine ⟨t8, _, rfl, .inl (.inl et8), rfl, _, _, rfl, _, _, rfl, _, _, rfl, rfl, ?_⟩
    have D8 := D7.trans (Dr.ofSame D7.well s8)
    have X8 := X7.same s8
    have G8 := G7.same' s8
    have V8 := V7.same' s8
    refine gn_norm (σ' := [some (.ref a), some (.int (i : Nat)), some (.ref wl), some (.ref lg), some (.ref lw), some (.ref p1), some (.int Bt), some (.int (Bt + c)), some (.int m), some (.ref ll), some (.ref lp), none, oc, od]) rfl ?_
    -- the lags do
    refine ⟨_, rfl, _, rfl, _, rfl, _, rfl, lg, lw, ll, gs, ws, lagsL gs L, Bt + c, rfl, G8, V8, N, wne, ell, lagsL_len gs L, fun d9 H9 s9 hd9 => ?_⟩
    rw [hd9.mpr (Feas.doP N fe)]
    refine ⟨true, rfl, iteF ?_⟩
    refine ⟨_, rfl, _, rfl, lw, ll, gs, ws, lagsL gs L, rfl, V8.same' s9, N, s9 _ _ ell, lagsL_len gs L, fun la Ha sa hla ea => ?_⟩
    refine ⟨la, _, rfl, SqL.of ea, _, rfl, rfl, false, ?_, iteF ?_⟩
    · rw [lcnt_sum N L, ← hm1, decide_eq_true rfl]
      rfl
    have s8a := s9.trans sa
    -- all lags that do
    refine ⟨_, rfl, lg, gs, rfl, G8.same' s8a, gl24, (by omega), fun l7 rv7 rows Hb sb hl7 el7 al7 rok hlen7 => ?_⟩
    have s8b := s8a.trans sb
    refine ⟨l7, rfl, ⟨_, SqL.of el7⟩, fun D hD => ?_⟩
    refine lc_list (K := K) (a := l7) (xs := rv7) (fun j Hc => ∃ (acc : List V) (os : List (List Int)), Hc D = some (.lst acc) ∧ acc.length ≤ j ∧ All2 (RowV Hb) acc os ∧ (∀ r ∈ os, RowP gs gs.length r ∧ DoP gs ws r (Bt + c)) ∧ Same Hb Hc) ⟨[], [], upd_same, Nat.le_refl _, .nil, (fun r hr => nomatch hr), same_new hD⟩ (fun j Hc _ ⟨_, _, _, _, _, _, sc⟩ => SqL.of (sc _ _ el7)) ?_ ?_
    · rintro j v Hc hv ⟨acc, os, hcD, hal, aos, pos, sc⟩
      obtain ⟨r, hr, b8, rfl, hb8⟩ := al7.get hv
      have hj : j < rows.length := (List.getElem?_eq_some_iff.mp hr).1
      have rp := rok r (List.mem_of_getElem? hr)
      have scc := s8b.trans sc
      refine ⟨rfl, _, rfl, _, rfl, _, rfl, _, rfl, lg, lw, b8, gs, ws, r, Bt + c, rfl, G8.same' scc, V8.same' scc, N, wne, sc _ _ hb8, rp.len, fun d Hd sd hd => ⟨d, rfl, ?_⟩⟩
      cases d with
      | true =>
        refine iteT ⟨_, rfl, acc, sd _ _ hcD, small1000 (by omega), acc ++ [.ref b8], os ++ [r], upd_same, ?_, aos.snoc ⟨b8, rfl, hb8⟩, fun r' hr' => ?_, same_mut (sc.trans sd) hD⟩
        · rw [List.length_append]
          show _ + 1 ≤ _
          omega
        · rcases List.mem_append.mp hr' with h | h
          · exact pos r' h
          · rw [List.mem_singleton.mp h]
            exact ⟨rp, hd.mp rfl⟩
      | false => exact iteF ⟨acc, os, sd _ _ hcD, by omega, aos, pos, sc.trans sd⟩
    rintro Hc ⟨acc, os, hcD, hal, aos, pos, sc⟩
    have hrl : rv7.length = rows.length := al7.1
    have hol : os.length ≤ 343 := by
      have := aos.1
      omega
    have s8c := s8b.trans sc
    refine gn_norm (σ' := [some (.ref a), some (.int (i : Nat)), some (.ref wl), some (.ref lg), some (.ref lw), some (.ref p1), some (.int Bt), some (.int (Bt + c)), some (.int m), some (.ref ll), some (.ref lp), none, some (.ref D), od]) rfl ?_
    -- their registers
    refine ⟨_, rfl, D, rfl, ⟨_, SqL.of hcD⟩, fun D2 hD2 => ?_⟩
    refine lc_list (K := K) (a := D) (xs := acc) (fun j Hd => Hd D2 = some (.lst ((((os.take j).map fun r => (lcntL ws r).sum)).map V.int)) ∧ Same Hc Hd) ⟨upd_same, same_new hD2⟩ (fun j Hd _ ⟨_, sd⟩ => SqL.of (sd _ _ hcD)) ?_ ?_
    · rintro j v Hd hv ⟨hd2, sd⟩
      obtain ⟨r, hr, b8, rfl, hb8⟩ := aos.get hv
      have hj : j < os.length := (List.getElem?_eq_some_iff.mp hr).1
      have rp := (pos r (List.mem_of_getElem? hr)).1
      refine ⟨rfl, tyes ?_⟩
      refine ⟨_, rfl, _, rfl, lw, b8, gs, ws, r, rfl, V8.same' (s8c.trans sd), N, sd _ _ (sc _ _ hb8), rp.len, fun lx Hx sx hlx ex => ⟨lx, _, rfl, SqL.of ex, _, sx _ _ hd2, ?_, ?_, same_mut (sd.trans sx) hD2⟩⟩
      · rw [List.length_map, List.length_map, List.length_take]
        exact small1000 (by omega)
      · rw [upd_same, List.take_add_one, hr, List.map_append, List.map_append]
        rfl
    rintro Hd ⟨hd2, sd⟩
    have hao : acc.length = os.length := aos.1
    rw [hao, List.take_length] at hd2
    have s8d := s8c.trans sd
    refine gn_norm (σ' := [some (.ref a), some (.int (i : Nat)), some (.ref wl), some (.ref lg), some (.ref lw), some (.ref p1), some (.int Bt), some (.int (Bt + c)), some (.int m), some (.ref ll), some (.ref lp), none, some (.ref D), some (.ref D2)]) rfl ?_
    -- none has fewer
    refine ⟨_, rfl, _, rfl, (by show 1 ≤ sizeLine; decide), fun l1 hl1 => ?_⟩
    have se : Same Hd (upd Hd l1 (.lst [.int m])) := same_new hl1
    have ee : (upd Hd l1 (.lst [.int m])) l1 = some (.lst [.int m]) := upd_same
    generalize upd Hd l1 (.lst [.int m]) = He at se ee
    refine ⟨D2, l1, _, _, rfl, rfl, se _ _ hd2, ee, ?_, fun l2 hl2 => ?_⟩
    · rw [List.length_map, List.length_map]
      exact Nat.le_of_lt (small1000 (by show os.length + 1 ≤ 1000; omega))
    obtain ⟨xs, hxs⟩ : ∃ xs : List Int, xs = os.map fun r => (lcntL ws r).sum := ⟨_, rfl⟩
    have exs : (((os.map fun r => (lcntL ws r).sum).map V.int) ++ [V.int m] : List V) = (xs ++ [m]).map V.int := by
      rw [hxs, List.map_append]
      rfl
    rw [exs]
    have sf : Same He (upd He l2 (.lst ((xs ++ [m]).map V.int))) := same_new hl2
    have ef : (upd He l2 (.lst ((xs ++ [m]).map V.int))) l2 = some (.lst ((xs ++ [m]).map V.int)) := upd_same
    generalize upd He l2 (.lst ((xs ++ [m]).map V.int)) = Hf at sf ef
    have s8f := s8d.trans (se.trans sf)
    refine ⟨l2, xs ++ [m], rfl, SqL.of ef, by rw [List.length_append]; show 0 < _ + 1; omega, fun v hv _ => ?_⟩
    have hvm : m ≤ v := by
      rcases List.mem_append.mp hv with h | h
      · rw [hxs] at h
        obtain ⟨r, hr, rfl⟩ := List.mem_map.mp h
        obtain ⟨rp, dp⟩ := pos r hr
        have fr : Feas gs ws (Bt + c) (fun g => r.getD g 0) := DoP.feas N (fun g hg hp => rp.port g hg hp) (by rw [row_eq rp.len]; exact dp)
        have h1 := pap_le N bal eok fr
        have h2 := lcnt_sum N (fun g => r.getD g 0)
        rw [row_eq rp.len] at h2
        rw [h2, hm2]
        exact h1
      · rw [List.mem_singleton.mp h]
        exact Int.le_refl m
    refine ⟨_, rfl, _, _, rfl, rfl, false, ?_, iteF ?_⟩
    · show V.bl (decide (v < m)) = V.bl false
      rw [decide_eq_false (by omega)]
    have EV : ∀ {H' : Hp}, Same H8 H' → All2 (EntV K H') ev es := fun s => al.imp fun _ _ r => EntV.same s r
    have nem : ∀ x : Int, x = m → V.bl (!decide (V.int x = V.int m)) = V.bl false := fun x e => by
      rw [e, decide_eq_true rfl]
      rfl
    -- the bound
    refine ⟨_, rfl, _, rfl, _, rfl, _, rfl, lg, lw, lp, gs, ws, Bt + c, ev, es, rfl, G8.same' s8f, V8.same' s8f, N, SqL.of (s8f _ _ elp), EV s8f, eok, hel, bal, fun Hg sg => ?_⟩
    have s8g := s8f.trans sg
    refine ⟨_, rfl, rfl, false, nem _ hm2.symm, iteF ?_⟩
    refine ⟨_, rfl, _, rfl, _, rfl, p1, ng1, nw1, lp, gs, ws, Bt + c, ev, es, rfl, X8.n.same s8g, N, hbc, SqL.of (s8g _ _ elp), EV s8g, eok, hel, bal, fun Hh sh => ⟨rfl, false, rfl, iteF ?_⟩⟩
    have s8h := s8g.trans sh
    refine ⟨_, rfl, _, rfl, _, rfl, p1, ng1, nw1, lp, gs, ws, Bt + c, ev, es, rfl, X8.n.same s8h, N, hbc, SqL.of (s8h _ _ elp), EV s8h, eok, hel, bal, fun Hi si => ?_⟩
    have s8i := s8h.trans si
    refine ⟨_, rfl, rfl, false, nem _ hm2.symm, iteF ?_⟩
    have Di := D8.trans (Dr.ofSame D8.well s8i)
    -- refused below
    refine ⟨_, rfl, _, _, rfl, rfl, _, rfl, ite2 (fun e => ?_) (fun e => ?_)⟩
    · have e := of_decide_eq_true e
      refine ⟨_, rfl, _, rfl, _, rfl, wl, Bt, rfl, e, by omega, Di.well, fun dd Hj j0 j1 Ej => ?_⟩
      have Dj := Di.trans Ej
      refine ⟨p1, ng1, nw1, gs, ws, dd, rfl, ((X8.same s8i).dr Di.well Ej).n, N, j0, IL0.no dd j1, fun Hk sk => ⟨true, rfl, iteF ⟨_, _, _, _, _, _, _, _, _, _, _, _, rfl, sm (Dj.trans (Dr.ofSame Dj.well sk))⟩⟩⟩
    · exact iteF ⟨_, _, _, _, _, _, _, _, _, _, _, _, rfl, sm Di⟩
end
end Lag

set_option maxRecDepth 100000
set_option maxHeartbeats 8000000
namespace Lag
open PySem PySem.Spec PyProof.Rows L2
theorem all_mk {l : PySem.W.OpenLaw} {w : World} {K : PySem.W.Frag} {h : Heap} {mg : Str → Option Value} {fa C : Addr} (X : K.In h) (G : h.Ns mainGlobals mg) (hfa : mg "law" = some (.ref fa))
    {C0 CT fT : Addr} {nmTT qTT : Str} {NTTT : Addr} {bsTT : List Value} {snTT : List Str} {subTT : List Value} {abTT : Bool} {colTT : Option Bool} {ddTT : Option Addr} {m0TT m1TT m2TT m3TT m5TT : Option Value} {odTT anTT : Option Addr} {slTT : Array (Option Value)} {ocTT kVTT dcTT pmTT cdvTT ctTT : Value}
    {fd0 : Addr} {odd0 and0 : Option Addr} {sld0 : Array (Option Value)} {ocd0 kVd0 dcd0 pmd0 cdd0 ctd0 : Value}
    {fd1 : Addr} {odd1 and1 : Option Addr} {sld1 : Array (Option Value)} {ocd1 kVd1 dcd1 pmd1 cdd1 ctd1 : Value}
    {fd2 : Addr} {odd2 and2 : Option Addr} {sld2 : Array (Option Value)} {ocd2 kVd2 dcd2 pmd2 cdd2 ctd2 : Value}
    {fd3 : Addr} {odd3 and3 : Option Addr} {sld3 : Array (Option Value)} {ocd3 kVd3 dcd3 pmd3 cdd3 ctd3 : Value}
    {fd4 : Addr} {odd4 and4 : Option Addr} {sld4 : Array (Option Value)} {ocd4 kVd4 dcd4 pmd4 cdd4 ctd4 : Value}
    {fd5 : Addr} {odd5 and5 : Option Addr} {sld5 : Array (Option Value)} {ocd5 kVd5 dcd5 pmd5 cdd5 ctd5 : Value}
    {fd6 : Addr} {odd6 and6 : Option Addr} {sld6 : Array (Option Value)} {ocd6 kVd6 dcd6 pmd6 cdd6 ctd6 : Value}
    {fd7 : Addr} {odd7 and7 : Option Addr} {sld7 : Array (Option Value)} {ocd7 kVd7 dcd7 pmd7 cdd7 ctd7 : Value}
    {fd8 : Addr} {odd8 and8 : Option Addr} {sld8 : Array (Option Value)} {ocd8 kVd8 dcd8 pmd8 cdd8 ctd8 : Value}
    {fd9 : Addr} {odd9 and9 : Option Addr} {sld9 : Array (Option Value)} {ocd9 kVd9 dcd9 pmd9 cdd9 ctd9 : Value}
    {fd10 : Addr} {odd10 and10 : Option Addr} {sld10 : Array (Option Value)} {ocd10 kVd10 dcd10 pmd10 cdd10 ctd10 : Value}
    {fd11 : Addr} {odd11 and11 : Option Addr} {sld11 : Array (Option Value)} {ocd11 kVd11 dcd11 pmd11 cdd11 ctd11 : Value}
    {fd12 : Addr} {odd12 and12 : Option Addr} {sld12 : Array (Option Value)} {ocd12 kVd12 dcd12 pmd12 cdd12 ctd12 : Value}
    {fd13 : Addr} {odd13 and13 : Option Addr} {sld13 : Array (Option Value)} {ocd13 kVd13 dcd13 pmd13 cdd13 ctd13 : Value}
    {fd14 : Addr} {odd14 and14 : Option Addr} {sld14 : Array (Option Value)} {ocd14 kVd14 dcd14 pmd14 cdd14 ctd14 : Value}
    {fd15 : Addr} {odd15 and15 : Option Addr} {sld15 : Array (Option Value)} {ocd15 kVd15 dcd15 pmd15 cdd15 ctd15 : Value}
    {fd16 : Addr} {odd16 and16 : Option Addr} {sld16 : Array (Option Value)} {ocd16 kVd16 dcd16 pmd16 cdd16 ctd16 : Value}
    {fd17 : Addr} {odd17 and17 : Option Addr} {sld17 : Array (Option Value)} {ocd17 kVd17 dcd17 pmd17 cdd17 ctd17 : Value}
    {fd18 : Addr} {odd18 and18 : Option Addr} {sld18 : Array (Option Value)} {ocd18 kVd18 dcd18 pmd18 cdd18 ctd18 : Value}
    {fd19 : Addr} {odd19 and19 : Option Addr} {sld19 : Array (Option Value)} {ocd19 kVd19 dcd19 pmd19 cdd19 ctd19 : Value}
    {fd20 : Addr} {odd20 and20 : Option Addr} {sld20 : Array (Option Value)} {ocd20 kVd20 dcd20 pmd20 cdd20 ctd20 : Value}
    {fd21 : Addr} {odd21 and21 : Option Addr} {sld21 : Array (Option Value)} {ocd21 kVd21 dcd21 pmd21 cdd21 ctd21 : Value}
    {fd22 : Addr} {odd22 and22 : Option Addr} {sld22 : Array (Option Value)} {ocd22 kVd22 dcd22 pmd22 cdd22 ctd22 : Value}
    {fd23 : Addr} {odd23 and23 : Option Addr} {sld23 : Array (Option Value)} {ocd23 kVd23 dcd23 pmd23 cdd23 ctd23 : Value}
    {fd24 : Addr} {odd24 and24 : Option Addr} {sld24 : Array (Option Value)} {ocd24 kVd24 dcd24 pmd24 cdd24 ctd24 : Value}
    {fd25 : Addr} {odd25 and25 : Option Addr} {sld25 : Array (Option Value)} {ocd25 kVd25 dcd25 pmd25 cdd25 ctd25 : Value}
    {fd26 : Addr} {odd26 and26 : Option Addr} {sld26 : Array (Option Value)} {ocd26 kVd26 dcd26 pmd26 cdd26 ctd26 : Value}
    {fd27 : Addr} {odd27 and27 : Option Addr} {sld27 : Array (Option Value)} {ocd27 kVd27 dcd27 pmd27 cdd27 ctd27 : Value}
    {fd28 : Addr} {odd28 and28 : Option Addr} {sld28 : Array (Option Value)} {ocd28 kVd28 dcd28 pmd28 cdd28 ctd28 : Value}
    {fd29 : Addr} {odd29 and29 : Option Addr} {sld29 : Array (Option Value)} {ocd29 kVd29 dcd29 pmd29 cdd29 ctd29 : Value}
    {fd30 : Addr} {odd30 and30 : Option Addr} {sld30 : Array (Option Value)} {ocd30 kVd30 dcd30 pmd30 cdd30 ctd30 : Value}
    {fd31 : Addr} {odd31 and31 : Option Addr} {sld31 : Array (Option Value)} {ocd31 kVd31 dcd31 pmd31 cdd31 ctd31 : Value}
    {fd32 : Addr} {odd32 and32 : Option Addr} {sld32 : Array (Option Value)} {ocd32 kVd32 dcd32 pmd32 cdd32 ctd32 : Value}
    {fd33 : Addr} {odd33 and33 : Option Addr} {sld33 : Array (Option Value)} {ocd33 kVd33 dcd33 pmd33 cdd33 ctd33 : Value}
    {fd34 : Addr} {odd34 and34 : Option Addr} {sld34 : Array (Option Value)} {ocd34 kVd34 dcd34 pmd34 cdd34 ctd34 : Value}
    {fd35 : Addr} {odd35 and35 : Option Addr} {sld35 : Array (Option Value)} {ocd35 kVd35 dcd35 pmd35 cdd35 ctd35 : Value}
    {fd36 : Addr} {odd36 and36 : Option Addr} {sld36 : Array (Option Value)} {ocd36 kVd36 dcd36 pmd36 cdd36 ctd36 : Value}
    {fd37 : Addr} {odd37 and37 : Option Addr} {sld37 : Array (Option Value)} {ocd37 kVd37 dcd37 pmd37 cdd37 ctd37 : Value}
    {fd38 : Addr} {odd38 and38 : Option Addr} {sld38 : Array (Option Value)} {ocd38 kVd38 dcd38 pmd38 cdd38 ctd38 : Value}
    {fd39 : Addr} {odd39 and39 : Option Addr} {sld39 : Array (Option Value)} {ocd39 kVd39 dcd39 pmd39 cdd39 ctd39 : Value}
    {fd40 : Addr} {odd40 and40 : Option Addr} {sld40 : Array (Option Value)} {ocd40 kVd40 dcd40 pmd40 cdd40 ctd40 : Value}
    {fd41 : Addr} {odd41 and41 : Option Addr} {sld41 : Array (Option Value)} {ocd41 kVd41 dcd41 pmd41 cdd41 ctd41 : Value}
    {fd42 : Addr} {odd42 and42 : Option Addr} {sld42 : Array (Option Value)} {ocd42 kVd42 dcd42 pmd42 cdd42 ctd42 : Value}
    {fd43 : Addr} {odd43 and43 : Option Addr} {sld43 : Array (Option Value)} {ocd43 kVd43 dcd43 pmd43 cdd43 ctd43 : Value}
    {fd44 : Addr} {odd44 and44 : Option Addr} {sld44 : Array (Option Value)} {ocd44 kVd44 dcd44 pmd44 cdd44 ctd44 : Value}
    {fd45 : Addr} {odd45 and45 : Option Addr} {sld45 : Array (Option Value)} {ocd45 kVd45 dcd45 pmd45 cdd45 ctd45 : Value}
    {fd46 : Addr} {odd46 and46 : Option Addr} {sld46 : Array (Option Value)} {ocd46 kVd46 dcd46 pmd46 cdd46 ctd46 : Value}
    {fd47 : Addr} {odd47 and47 : Option Addr} {sld47 : Array (Option Value)} {ocd47 kVd47 dcd47 pmd47 cdd47 ctd47 : Value}
    {fd48 : Addr} {odd48 and48 : Option Addr} {sld48 : Array (Option Value)} {ocd48 kVd48 dcd48 pmd48 cdd48 ctd48 : Value}
    {fd49 : Addr} {odd49 and49 : Option Addr} {sld49 : Array (Option Value)} {ocd49 kVd49 dcd49 pmd49 cdd49 ctd49 : Value}
    {fd50 : Addr} {odd50 and50 : Option Addr} {sld50 : Array (Option Value)} {ocd50 kVd50 dcd50 pmd50 cdd50 ctd50 : Value}
    {fd51 : Addr} {odd51 and51 : Option Addr} {sld51 : Array (Option Value)} {ocd51 kVd51 dcd51 pmd51 cdd51 ctd51 : Value}
    {fd52 : Addr} {odd52 and52 : Option Addr} {sld52 : Array (Option Value)} {ocd52 kVd52 dcd52 pmd52 cdd52 ctd52 : Value}
    {fd53 : Addr} {odd53 and53 : Option Addr} {sld53 : Array (Option Value)} {ocd53 kVd53 dcd53 pmd53 cdd53 ctd53 : Value}
    {fd54 : Addr} {odd54 and54 : Option Addr} {sld54 : Array (Option Value)} {ocd54 kVd54 dcd54 pmd54 cdd54 ctd54 : Value}
    {fd55 : Addr} {odd55 and55 : Option Addr} {sld55 : Array (Option Value)} {ocd55 kVd55 dcd55 pmd55 cdd55 ctd55 : Value}
    {fd56 : Addr} {odd56 and56 : Option Addr} {sld56 : Array (Option Value)} {ocd56 kVd56 dcd56 pmd56 cdd56 ctd56 : Value}
    {fd57 : Addr} {odd57 and57 : Option Addr} {sld57 : Array (Option Value)} {ocd57 kVd57 dcd57 pmd57 cdd57 ctd57 : Value}
    {fd58 : Addr} {odd58 and58 : Option Addr} {sld58 : Array (Option Value)} {ocd58 kVd58 dcd58 pmd58 cdd58 ctd58 : Value}
    {fd59 : Addr} {odd59 and59 : Option Addr} {sld59 : Array (Option Value)} {ocd59 kVd59 dcd59 pmd59 cdd59 ctd59 : Value}
    {fd60 : Addr} {odd60 and60 : Option Addr} {sld60 : Array (Option Value)} {ocd60 kVd60 dcd60 pmd60 cdd60 ctd60 : Value}
    {fm0 : Addr} {odm0 anm0 : Option Addr} {slm0 : Array (Option Value)} {ocm0 kVm0 dcm0 pmm0 cdm0 ctm0 : Value}
    {tGW tGA tGL : Tok}
    {aK nnK : Nat} {ddK : Option Addr} {ssK : Array (Option Value)} {tK0 tK1 tK2 tK3 tK4 tK5 tK6 tK7 : Tok}
    {aW nnW : Nat} {ddW : Option Addr} {ssW : Array (Option Value)} {tW0 tW1 : Tok}
    {aF nnF : Nat} {ddF : Option Addr} {ssF : Array (Option Value)} {tF0 tF1 : Tok}
    (aC : PySem.W.nsIn K mainGlobals "Net" = some (some (.ref C)))
    (ad0 : PySem.W.nsIn K mainGlobals "is_whole" = some (some (.ref fd0)))
    (ld0 : K.lookup fd0 = some ⟨ocd0, odd0, .func (PySem.W.fnOf "is_whole" "is_whole" (defArgs sWhole) (defBody sWhole) (defScope sWhole) .none kVd0 dcd0 pmd0 and0 cdd0 ctd0), sld0⟩)
    (cd0 : PySem.W.codeIn K cdd0 "is_whole" = true)
    (kd0 : PySem.W.keepIn K (.ref fd0) = true)
    (ad1 : PySem.W.nsIn K mainGlobals "is_whole_from_to" = some (some (.ref fd1)))
    (ld1 : K.lookup fd1 = some ⟨ocd1, odd1, .func (PySem.W.fnOf "is_whole_from_to" "is_whole_from_to" (defArgs sFromTo) (defBody sFromTo) (defScope sFromTo) .none kVd1 dcd1 pmd1 and1 cdd1 ctd1), sld1⟩)
    (cd1 : PySem.W.codeIn K cdd1 "is_whole_from_to" = true)
    (kd1 : PySem.W.keepIn K (.ref fd1) = true)
    (ad2 : PySem.W.nsIn K mainGlobals "is_worth" = some (some (.ref fd2)))
    (ld2 : K.lookup fd2 = some ⟨ocd2, odd2, .func (PySem.W.fnOf "is_worth" "is_worth" (defArgs sWorth) (defBody sWorth) (defScope sWorth) .none kVd2 dcd2 pmd2 and2 cdd2 ctd2), sld2⟩)
    (cd2 : PySem.W.codeIn K cdd2 "is_worth" = true)
    (kd2 : PySem.W.keepIn K (.ref fd2) = true)
    (ad3 : PySem.W.nsIn K mainGlobals "is_gate" = some (some (.ref fd3)))
    (ld3 : K.lookup fd3 = some ⟨ocd3, odd3, .func (PySem.W.fnOf "is_gate" "is_gate" (defArgs sIsGate) (defBody sIsGate) (defScope sIsGate) .none kVd3 dcd3 pmd3 and3 cdd3 ctd3), sld3⟩)
    (cd3 : PySem.W.codeIn K cdd3 "is_gate" = true)
    (kd3 : PySem.W.keepIn K (.ref fd3) = true)
    (ad4 : PySem.W.nsIn K mainGlobals "check_gates" = some (some (.ref fd4)))
    (ld4 : K.lookup fd4 = some ⟨ocd4, odd4, .func (PySem.W.fnOf "check_gates" "check_gates" (defArgs sChkGates) (defBody sChkGates) (defScope sChkGates) .none kVd4 dcd4 pmd4 and4 cdd4 ctd4), sld4⟩)
    (cd4 : PySem.W.codeIn K cdd4 "check_gates" = true)
    (kd4 : PySem.W.keepIn K (.ref fd4) = true)
    (ad5 : PySem.W.nsIn K mainGlobals "is_wire" = some (some (.ref fd5)))
    (ld5 : K.lookup fd5 = some ⟨ocd5, odd5, .func (PySem.W.fnOf "is_wire" "is_wire" (defArgs sIsWire) (defBody sIsWire) (defScope sIsWire) .none kVd5 dcd5 pmd5 and5 cdd5 ctd5), sld5⟩)
    (cd5 : PySem.W.codeIn K cdd5 "is_wire" = true)
    (kd5 : PySem.W.keepIn K (.ref fd5) = true)
    (ad6 : PySem.W.nsIn K mainGlobals "is_taken" = some (some (.ref fd6)))
    (ld6 : K.lookup fd6 = some ⟨ocd6, odd6, .func (PySem.W.fnOf "is_taken" "is_taken" (defArgs sTaken) (defBody sTaken) (defScope sTaken) .none kVd6 dcd6 pmd6 and6 cdd6 ctd6), sld6⟩)
    (cd6 : PySem.W.codeIn K cdd6 "is_taken" = true)
    (kd6 : PySem.W.keepIn K (.ref fd6) = true)
    (ad7 : PySem.W.nsIn K mainGlobals "check_wires" = some (some (.ref fd7)))
    (ld7 : K.lookup fd7 = some ⟨ocd7, odd7, .func (PySem.W.fnOf "check_wires" "check_wires" (defArgs sChkWires) (defBody sChkWires) (defScope sChkWires) .none kVd7 dcd7 pmd7 and7 cdd7 ctd7), sld7⟩)
    (cd7 : PySem.W.codeIn K cdd7 "check_wires" = true)
    (kd7 : PySem.W.keepIn K (.ref fd7) = true)
    (ad8 : PySem.W.nsIn K mainGlobals "order_along" = some (some (.ref fd8)))
    (ld8 : K.lookup fd8 = some ⟨ocd8, odd8, .func (PySem.W.fnOf "order_along" "order_along" (defArgs sAlong) (defBody sAlong) (defScope sAlong) .none kVd8 dcd8 pmd8 and8 cdd8 ctd8), sld8⟩)
    (cd8 : PySem.W.codeIn K cdd8 "order_along" = true)
    (kd8 : PySem.W.keepIn K (.ref fd8) = true)
    (ad9 : PySem.W.nsIn K mainGlobals "bare_order" = some (some (.ref fd9)))
    (ld9 : K.lookup fd9 = some ⟨ocd9, odd9, .func (PySem.W.fnOf "bare_order" "bare_order" (defArgs sOrder) (defBody sOrder) (defScope sOrder) .none kVd9 dcd9 pmd9 and9 cdd9 ctd9), sld9⟩)
    (cd9 : PySem.W.codeIn K cdd9 "bare_order" = true)
    (kd9 : PySem.W.keepIn K (.ref fd9) = true)
    (ad10 : PySem.W.nsIn K mainGlobals "check_rings" = some (some (.ref fd10)))
    (ld10 : K.lookup fd10 = some ⟨ocd10, odd10, .func (PySem.W.fnOf "check_rings" "check_rings" (defArgs sChkRings) (defBody sChkRings) (defScope sChkRings) .none kVd10 dcd10 pmd10 and10 cdd10 ctd10), sld10⟩)
    (cd10 : PySem.W.codeIn K cdd10 "check_rings" = true)
    (kd10 : PySem.W.keepIn K (.ref fd10) = true)
    (ad11 : PySem.W.nsIn K mainGlobals "is_outer" = some (some (.ref fd11)))
    (ld11 : K.lookup fd11 = some ⟨ocd11, odd11, .func (PySem.W.fnOf "is_outer" "is_outer" (defArgs sOuter) (defBody sOuter) (defScope sOuter) .none kVd11 dcd11 pmd11 and11 cdd11 ctd11), sld11⟩)
    (cd11 : PySem.W.codeIn K cdd11 "is_outer" = true)
    (kd11 : PySem.W.keepIn K (.ref fd11) = true)
    (ad12 : PySem.W.nsIn K mainGlobals "best_from" = some (some (.ref fd12)))
    (ld12 : K.lookup fd12 = some ⟨ocd12, odd12, .func (PySem.W.fnOf "best_from" "best_from" (defArgs sBestFrom) (defBody sBestFrom) (defScope sBestFrom) .none kVd12 dcd12 pmd12 and12 cdd12 ctd12), sld12⟩)
    (cd12 : PySem.W.codeIn K cdd12 "best_from" = true)
    (kd12 : PySem.W.keepIn K (.ref fd12) = true)
    (ad13 : PySem.W.nsIn K mainGlobals "way_to" = some (some (.ref fd13)))
    (ld13 : K.lookup fd13 = some ⟨ocd13, odd13, .func (PySem.W.fnOf "way_to" "way_to" (defArgs sWayTo) (defBody sWayTo) (defScope sWayTo) .none kVd13 dcd13 pmd13 and13 cdd13 ctd13), sld13⟩)
    (cd13 : PySem.W.codeIn K cdd13 "way_to" = true)
    (kd13 : PySem.W.keepIn K (.ref fd13) = true)
    (ad14 : PySem.W.nsIn K mainGlobals "wait_of" = some (some (.ref fd14)))
    (ld14 : K.lookup fd14 = some ⟨ocd14, odd14, .func (PySem.W.fnOf "wait_of" "wait_of" (defArgs sWaitOf) (defBody sWaitOf) (defScope sWaitOf) .none kVd14 dcd14 pmd14 and14 cdd14 ctd14), sld14⟩)
    (cd14 : PySem.W.codeIn K cdd14 "wait_of" = true)
    (kd14 : PySem.W.keepIn K (.ref fd14) = true)
    (ad15 : PySem.W.nsIn K mainGlobals "room_of" = some (some (.ref fd15)))
    (ld15 : K.lookup fd15 = some ⟨ocd15, odd15, .func (PySem.W.fnOf "room_of" "room_of" (defArgs sRoomOf) (defBody sRoomOf) (defScope sRoomOf) .none kVd15 dcd15 pmd15 and15 cdd15 ctd15), sld15⟩)
    (cd15 : PySem.W.codeIn K cdd15 "room_of" = true)
    (kd15 : PySem.W.keepIn K (.ref fd15) = true)
    (ad16 : PySem.W.nsIn K mainGlobals "spots_in" = some (some (.ref fd16)))
    (ld16 : K.lookup fd16 = some ⟨ocd16, odd16, .func (PySem.W.fnOf "spots_in" "spots_in" (defArgs sSpotsIn) (defBody sSpotsIn) (defScope sSpotsIn) .none kVd16 dcd16 pmd16 and16 cdd16 ctd16), sld16⟩)
    (cd16 : PySem.W.codeIn K cdd16 "spots_in" = true)
    (kd16 : PySem.W.keepIn K (.ref fd16) = true)
    (ad17 : PySem.W.nsIn K mainGlobals "spots_of" = some (some (.ref fd17)))
    (ld17 : K.lookup fd17 = some ⟨ocd17, odd17, .func (PySem.W.fnOf "spots_of" "spots_of" (defArgs sSpotsOf) (defBody sSpotsOf) (defScope sSpotsOf) .none kVd17 dcd17 pmd17 and17 cdd17 ctd17), sld17⟩)
    (cd17 : PySem.W.codeIn K cdd17 "spots_of" = true)
    (kd17 : PySem.W.keepIn K (.ref fd17) = true)
    (ad18 : PySem.W.nsIn K mainGlobals "lags_at" = some (some (.ref fd18)))
    (ld18 : K.lookup fd18 = some ⟨ocd18, odd18, .func (PySem.W.fnOf "lags_at" "lags_at" (defArgs sLagsAt) (defBody sLagsAt) (defScope sLagsAt) .none kVd18 dcd18 pmd18 and18 cdd18 ctd18), sld18⟩)
    (cd18 : PySem.W.codeIn K cdd18 "lags_at" = true)
    (kd18 : PySem.W.keepIn K (.ref fd18) = true)
    (ad19 : PySem.W.nsIn K mainGlobals "bounds_for" = some (some (.ref fd19)))
    (ld19 : K.lookup fd19 = some ⟨ocd19, odd19, .func (PySem.W.fnOf "bounds_for" "bounds_for" (defArgs sBoundsFor) (defBody sBoundsFor) (defScope sBoundsFor) .none kVd19 dcd19 pmd19 and19 cdd19 ctd19), sld19⟩)
    (cd19 : PySem.W.codeIn K cdd19 "bounds_for" = true)
    (kd19 : PySem.W.keepIn K (.ref fd19) = true)
    (ad20 : PySem.W.nsIn K mainGlobals "ring_from" = some (some (.ref fd20)))
    (ld20 : K.lookup fd20 = some ⟨ocd20, odd20, .func (PySem.W.fnOf "ring_from" "ring_from" (defArgs sRingFrom) (defBody sRingFrom) (defScope sRingFrom) .none kVd20 dcd20 pmd20 and20 cdd20 ctd20), sld20⟩)
    (cd20 : PySem.W.codeIn K cdd20 "ring_from" = true)
    (kd20 : PySem.W.keepIn K (.ref fd20) = true)
    (ad21 : PySem.W.nsIn K mainGlobals "settle" = some (some (.ref fd21)))
    (ld21 : K.lookup fd21 = some ⟨ocd21, odd21, .func (PySem.W.fnOf "settle" "settle" (defArgs sSettle) (defBody sSettle) (defScope sSettle) .none kVd21 dcd21 pmd21 and21 cdd21 ctd21), sld21⟩)
    (cd21 : PySem.W.codeIn K cdd21 "settle" = true)
    (kd21 : PySem.W.keepIn K (.ref fd21) = true)
    (ad22 : PySem.W.nsIn K mainGlobals "check_beat" = some (some (.ref fd22)))
    (ld22 : K.lookup fd22 = some ⟨ocd22, odd22, .func (PySem.W.fnOf "check_beat" "check_beat" (defArgs sChkBeat) (defBody sChkBeat) (defScope sChkBeat) .none kVd22 dcd22 pmd22 and22 cdd22 ctd22), sld22⟩)
    (cd22 : PySem.W.codeIn K cdd22 "check_beat" = true)
    (kd22 : PySem.W.keepIn K (.ref fd22) = true)
    (ad23 : PySem.W.nsIn K mainGlobals "for_beat" = some (some (.ref fd23)))
    (ld23 : K.lookup fd23 = some ⟨ocd23, odd23, .func (PySem.W.fnOf "for_beat" "for_beat" (defArgs sForBeat) (defBody sForBeat) (defScope sForBeat) .none kVd23 dcd23 pmd23 and23 cdd23 ctd23), sld23⟩)
    (cd23 : PySem.W.codeIn K cdd23 "for_beat" = true)
    (kd23 : PySem.W.keepIn K (.ref fd23) = true)
    (ad24 : PySem.W.nsIn K mainGlobals "between" = some (some (.ref fd24)))
    (ld24 : K.lookup fd24 = some ⟨ocd24, odd24, .func (PySem.W.fnOf "between" "between" (defArgs sBetween) (defBody sBetween) (defScope sBetween) .none kVd24 dcd24 pmd24 and24 cdd24 ctd24), sld24⟩)
    (cd24 : PySem.W.codeIn K cdd24 "between" = true)
    (kd24 : PySem.W.keepIn K (.ref fd24) = true)
    (ad25 : PySem.W.nsIn K mainGlobals "least_beat" = some (some (.ref fd25)))
    (ld25 : K.lookup fd25 = some ⟨ocd25, odd25, .func (PySem.W.fnOf "least_beat" "least_beat" (defArgs sLeastBeat) (defBody sLeastBeat) (defScope sLeastBeat) .none kVd25 dcd25 pmd25 and25 cdd25 ctd25), sld25⟩)
    (cd25 : PySem.W.codeIn K cdd25 "least_beat" = true)
    (kd25 : PySem.W.keepIn K (.ref fd25) = true)
    (ad26 : PySem.W.nsIn K mainGlobals "is_piece" = some (some (.ref fd26)))
    (ld26 : K.lookup fd26 = some ⟨ocd26, odd26, .func (PySem.W.fnOf "is_piece" "is_piece" (defArgs sIsPiece) (defBody sIsPiece) (defScope sIsPiece) .none kVd26 dcd26 pmd26 and26 cdd26 ctd26), sld26⟩)
    (cd26 : PySem.W.codeIn K cdd26 "is_piece" = true)
    (kd26 : PySem.W.keepIn K (.ref fd26) = true)
    (ad27 : PySem.W.nsIn K mainGlobals "end_of" = some (some (.ref fd27)))
    (ld27 : K.lookup fd27 = some ⟨ocd27, odd27, .func (PySem.W.fnOf "end_of" "end_of" (defArgs sEndOf) (defBody sEndOf) (defScope sEndOf) .none kVd27 dcd27 pmd27 and27 cdd27 ctd27), sld27⟩)
    (cd27 : PySem.W.codeIn K cdd27 "end_of" = true)
    (kd27 : PySem.W.keepIn K (.ref fd27) = true)
    (ad28 : PySem.W.nsIn K mainGlobals "ends_of" = some (some (.ref fd28)))
    (ld28 : K.lookup fd28 = some ⟨ocd28, odd28, .func (PySem.W.fnOf "ends_of" "ends_of" (defArgs sEndsOf) (defBody sEndsOf) (defScope sEndsOf) .none kVd28 dcd28 pmd28 and28 cdd28 ctd28), sld28⟩)
    (cd28 : PySem.W.codeIn K cdd28 "ends_of" = true)
    (kd28 : PySem.W.keepIn K (.ref fd28) = true)
    (ad29 : PySem.W.nsIn K mainGlobals "first_gap" = some (some (.ref fd29)))
    (ld29 : K.lookup fd29 = some ⟨ocd29, odd29, .func (PySem.W.fnOf "first_gap" "first_gap" (defArgs sFirstGap) (defBody sFirstGap) (defScope sFirstGap) .none kVd29 dcd29 pmd29 and29 cdd29 ctd29), sld29⟩)
    (cd29 : PySem.W.codeIn K cdd29 "first_gap" = true)
    (kd29 : PySem.W.keepIn K (.ref fd29) = true)
    (ad30 : PySem.W.nsIn K mainGlobals "bar_fault" = some (some (.ref fd30)))
    (ld30 : K.lookup fd30 = some ⟨ocd30, odd30, .func (PySem.W.fnOf "bar_fault" "bar_fault" (defArgs sBarFault) (defBody sBarFault) (defScope sBarFault) .none kVd30 dcd30 pmd30 and30 cdd30 ctd30), sld30⟩)
    (cd30 : PySem.W.codeIn K cdd30 "bar_fault" = true)
    (kd30 : PySem.W.keepIn K (.ref fd30) = true)
    (ad31 : PySem.W.nsIn K mainGlobals "both_ways" = some (some (.ref fd31)))
    (ld31 : K.lookup fd31 = some ⟨ocd31, odd31, .func (PySem.W.fnOf "both_ways" "both_ways" (defArgs sBothWays) (defBody sBothWays) (defScope sBothWays) .none kVd31 dcd31 pmd31 and31 cdd31 ctd31), sld31⟩)
    (cd31 : PySem.W.codeIn K cdd31 "both_ways" = true)
    (kd31 : PySem.W.keepIn K (.ref fd31) = true)
    (ad32 : PySem.W.nsIn K mainGlobals "change_along" = some (some (.ref fd32)))
    (ld32 : K.lookup fd32 = some ⟨ocd32, odd32, .func (PySem.W.fnOf "change_along" "change_along" (defArgs sChange) (defBody sChange) (defScope sChange) .none kVd32 dcd32 pmd32 and32 cdd32 ctd32), sld32⟩)
    (cd32 : PySem.W.codeIn K cdd32 "change_along" = true)
    (kd32 : PySem.W.keepIn K (.ref fd32) = true)
    (ad33 : PySem.W.nsIn K mainGlobals "least_flow" = some (some (.ref fd33)))
    (ld33 : K.lookup fd33 = some ⟨ocd33, odd33, .func (PySem.W.fnOf "least_flow" "least_flow" (defArgs sLeastFlow) (defBody sLeastFlow) (defScope sLeastFlow) .none kVd33 dcd33 pmd33 and33 cdd33 ctd33), sld33⟩)
    (cd33 : PySem.W.codeIn K cdd33 "least_flow" = true)
    (kd33 : PySem.W.keepIn K (.ref fd33) = true)
    (ad34 : PySem.W.nsIn K mainGlobals "near_lags" = some (some (.ref fd34)))
    (ld34 : K.lookup fd34 = some ⟨ocd34, odd34, .func (PySem.W.fnOf "near_lags" "near_lags" (defArgs sNearLags) (defBody sNearLags) (defScope sNearLags) .none kVd34 dcd34 pmd34 and34 cdd34 ctd34), sld34⟩)
    (cd34 : PySem.W.codeIn K cdd34 "near_lags" = true)
    (kd34 : PySem.W.keepIn K (.ref fd34) = true)
    (ad35 : PySem.W.nsIn K mainGlobals "registers" = some (some (.ref fd35)))
    (ld35 : K.lookup fd35 = some ⟨ocd35, odd35, .func (PySem.W.fnOf "registers" "registers" (defArgs sRegisters) (defBody sRegisters) (defScope sRegisters) .none kVd35 dcd35 pmd35 and35 cdd35 ctd35), sld35⟩)
    (cd35 : PySem.W.codeIn K cdd35 "registers" = true)
    (kd35 : PySem.W.keepIn K (.ref fd35) = true)
    (ad36 : PySem.W.nsIn K mainGlobals "plain_flow" = some (some (.ref fd36)))
    (ld36 : K.lookup fd36 = some ⟨ocd36, odd36, .func (PySem.W.fnOf "plain_flow" "plain_flow" (defArgs sPlainFlow) (defBody sPlainFlow) (defScope sPlainFlow) .none kVd36 dcd36 pmd36 and36 cdd36 ctd36), sld36⟩)
    (cd36 : PySem.W.codeIn K cdd36 "plain_flow" = true)
    (kd36 : PySem.W.keepIn K (.ref fd36) = true)
    (ad37 : PySem.W.nsIn K mainGlobals "paper_of" = some (some (.ref fd37)))
    (ld37 : K.lookup fd37 = some ⟨ocd37, odd37, .func (PySem.W.fnOf "paper_of" "paper_of" (defArgs sPaperOf) (defBody sPaperOf) (defScope sPaperOf) .none kVd37 dcd37 pmd37 and37 cdd37 ctd37), sld37⟩)
    (cd37 : PySem.W.codeIn K cdd37 "paper_of" = true)
    (kd37 : PySem.W.keepIn K (.ref fd37) = true)
    (ad38 : PySem.W.nsIn K mainGlobals "room_in" = some (some (.ref fd38)))
    (ld38 : K.lookup fd38 = some ⟨ocd38, odd38, .func (PySem.W.fnOf "room_in" "room_in" (defArgs sRoomIn) (defBody sRoomIn) (defScope sRoomIn) .none kVd38 dcd38 pmd38 and38 cdd38 ctd38), sld38⟩)
    (cd38 : PySem.W.codeIn K cdd38 "room_in" = true)
    (kd38 : PySem.W.keepIn K (.ref fd38) = true)
    (ad39 : PySem.W.nsIn K mainGlobals "is_numbered_piece" = some (some (.ref fd39)))
    (ld39 : K.lookup fd39 = some ⟨ocd39, odd39, .func (PySem.W.fnOf "is_numbered_piece" "is_numbered_piece" (defArgs sNumPiece) (defBody sNumPiece) (defScope sNumPiece) .none kVd39 dcd39 pmd39 and39 cdd39 ctd39), sld39⟩)
    (cd39 : PySem.W.codeIn K cdd39 "is_numbered_piece" = true)
    (kd39 : PySem.W.keepIn K (.ref fd39) = true)
    (ad40 : PySem.W.nsIn K mainGlobals "is_paper" = some (some (.ref fd40)))
    (ld40 : K.lookup fd40 = some ⟨ocd40, odd40, .func (PySem.W.fnOf "is_paper" "is_paper" (defArgs sIsPaper) (defBody sIsPaper) (defScope sIsPaper) .none kVd40 dcd40 pmd40 and40 cdd40 ctd40), sld40⟩)
    (cd40 : PySem.W.codeIn K cdd40 "is_paper" = true)
    (kd40 : PySem.W.keepIn K (.ref fd40) = true)
    (ad41 : PySem.W.nsIn K mainGlobals "gate_fault" = some (some (.ref fd41)))
    (ld41 : K.lookup fd41 = some ⟨ocd41, odd41, .func (PySem.W.fnOf "gate_fault" "gate_fault" (defArgs sGateFault) (defBody sGateFault) (defScope sGateFault) .none kVd41 dcd41 pmd41 and41 cdd41 ctd41), sld41⟩)
    (cd41 : PySem.W.codeIn K cdd41 "gate_fault" = true)
    (kd41 : PySem.W.keepIn K (.ref fd41) = true)
    (ad42 : PySem.W.nsIn K mainGlobals "paper_fault" = some (some (.ref fd42)))
    (ld42 : K.lookup fd42 = some ⟨ocd42, odd42, .func (PySem.W.fnOf "paper_fault" "paper_fault" (defArgs sPaperFault) (defBody sPaperFault) (defScope sPaperFault) .none kVd42 dcd42 pmd42 and42 cdd42 ctd42), sld42⟩)
    (cd42 : PySem.W.codeIn K cdd42 "paper_fault" = true)
    (kd42 : PySem.W.keepIn K (.ref fd42) = true)
    (ad43 : PySem.W.nsIn K mainGlobals "bound_of" = some (some (.ref fd43)))
    (ld43 : K.lookup fd43 = some ⟨ocd43, odd43, .func (PySem.W.fnOf "bound_of" "bound_of" (defArgs sBoundOf) (defBody sBoundOf) (defScope sBoundOf) .none kVd43 dcd43 pmd43 and43 cdd43 ctd43), sld43⟩)
    (cd43 : PySem.W.codeIn K cdd43 "bound_of" = true)
    (kd43 : PySem.W.keepIn K (.ref fd43) = true)
    (ad44 : PySem.W.nsIn K mainGlobals "let_bounds" = some (some (.ref fd44)))
    (ld44 : K.lookup fd44 = some ⟨ocd44, odd44, .func (PySem.W.fnOf "let_bounds" "let_bounds" (defArgs sLetBounds) (defBody sLetBounds) (defScope sLetBounds) .none kVd44 dcd44 pmd44 and44 cdd44 ctd44), sld44⟩)
    (cd44 : PySem.W.codeIn K cdd44 "let_bounds" = true)
    (kd44 : PySem.W.keepIn K (.ref fd44) = true)
    (ad45 : PySem.W.nsIn K mainGlobals "fewest" = some (some (.ref fd45)))
    (ld45 : K.lookup fd45 = some ⟨ocd45, odd45, .func (PySem.W.fnOf "fewest" "fewest" (defArgs sFewest) (defBody sFewest) (defScope sFewest) .none kVd45 dcd45 pmd45 and45 cdd45 ctd45), sld45⟩)
    (cd45 : PySem.W.codeIn K cdd45 "fewest" = true)
    (kd45 : PySem.W.keepIn K (.ref fd45) = true)
    (ad46 : PySem.W.nsIn K mainGlobals "_law_cell_at" = some (some (.ref fd46)))
    (ld46 : K.lookup fd46 = some ⟨ocd46, odd46, .func (PySem.W.fnOf "_law_cell_at" "_law_cell_at" (defArgs sCellAt) (defBody sCellAt) (defScope sCellAt) .none kVd46 dcd46 pmd46 and46 cdd46 ctd46), sld46⟩)
    (cd46 : PySem.W.codeIn K cdd46 "_law_cell_at" = true)
    (kd46 : PySem.W.keepIn K (.ref fd46) = true)
    (ad47 : PySem.W.nsIn K mainGlobals "_law_digit" = some (some (.ref fd47)))
    (ld47 : K.lookup fd47 = some ⟨ocd47, odd47, .func (PySem.W.fnOf "_law_digit" "_law_digit" (defArgs sDigit) (defBody sDigit) (defScope sDigit) .none kVd47 dcd47 pmd47 and47 cdd47 ctd47), sld47⟩)
    (cd47 : PySem.W.codeIn K cdd47 "_law_digit" = true)
    (kd47 : PySem.W.keepIn K (.ref fd47) = true)
    (ad48 : PySem.W.nsIn K mainGlobals "_law_gates" = some (some (.ref fd48)))
    (ld48 : K.lookup fd48 = some ⟨ocd48, odd48, .func (PySem.W.fnOf "_law_gates" "_law_gates" (defArgs sGates) (defBody sGates) (defScope sGates) .none kVd48 dcd48 pmd48 and48 cdd48 ctd48), sld48⟩)
    (cd48 : PySem.W.codeIn K cdd48 "_law_gates" = true)
    (kd48 : PySem.W.keepIn K (.ref fd48) = true)
    (ad49 : PySem.W.nsIn K mainGlobals "_law_worths" = some (some (.ref fd49)))
    (ld49 : K.lookup fd49 = some ⟨ocd49, odd49, .func (PySem.W.fnOf "_law_worths" "_law_worths" (defArgs sLWorths) (defBody sLWorths) (defScope sLWorths) .none kVd49 dcd49 pmd49 and49 cdd49 ctd49), sld49⟩)
    (cd49 : PySem.W.codeIn K cdd49 "_law_worths" = true)
    (kd49 : PySem.W.keepIn K (.ref fd49) = true)
    (ad50 : PySem.W.nsIn K mainGlobals "_law_wires" = some (some (.ref fd50)))
    (ld50 : K.lookup fd50 = some ⟨ocd50, odd50, .func (PySem.W.fnOf "_law_wires" "_law_wires" (defArgs sLWires) (defBody sLWires) (defScope sLWires) .none kVd50 dcd50 pmd50 and50 cdd50 ctd50), sld50⟩)
    (cd50 : PySem.W.codeIn K cdd50 "_law_wires" = true)
    (kd50 : PySem.W.keepIn K (.ref fd50) = true)
    (ad51 : PySem.W.nsIn K mainGlobals "_law_parts" = some (some (.ref fd51)))
    (ld51 : K.lookup fd51 = some ⟨ocd51, odd51, .func (PySem.W.fnOf "_law_parts" "_law_parts" (defArgs sLParts) (defBody sLParts) (defScope sLParts) .none kVd51 dcd51 pmd51 and51 cdd51 ctd51), sld51⟩)
    (cd51 : PySem.W.codeIn K cdd51 "_law_parts" = true)
    (kd51 : PySem.W.keepIn K (.ref fd51) = true)
    (ad52 : PySem.W.nsIn K mainGlobals "_law_counts" = some (some (.ref fd52)))
    (ld52 : K.lookup fd52 = some ⟨ocd52, odd52, .func (PySem.W.fnOf "_law_counts" "_law_counts" (defArgs sLCounts) (defBody sLCounts) (defScope sLCounts) .none kVd52 dcd52 pmd52 and52 cdd52 ctd52), sld52⟩)
    (cd52 : PySem.W.codeIn K cdd52 "_law_counts" = true)
    (kd52 : PySem.W.keepIn K (.ref fd52) = true)
    (ad53 : PySem.W.nsIn K mainGlobals "_law_all_lags" = some (some (.ref fd53)))
    (ld53 : K.lookup fd53 = some ⟨ocd53, odd53, .func (PySem.W.fnOf "_law_all_lags" "_law_all_lags" (defArgs sAllLags) (defBody sAllLags) (defScope sAllLags) .none kVd53 dcd53 pmd53 and53 cdd53 ctd53), sld53⟩)
    (cd53 : PySem.W.codeIn K cdd53 "_law_all_lags" = true)
    (kd53 : PySem.W.keepIn K (.ref fd53) = true)
    (ad54 : PySem.W.nsIn K mainGlobals "_law_need" = some (some (.ref fd54)))
    (ld54 : K.lookup fd54 = some ⟨ocd54, odd54, .func (PySem.W.fnOf "_law_need" "_law_need" (defArgs sLNeed) (defBody sLNeed) (defScope sLNeed) .none kVd54 dcd54 pmd54 and54 cdd54 ctd54), sld54⟩)
    (cd54 : PySem.W.codeIn K cdd54 "_law_need" = true)
    (kd54 : PySem.W.keepIn K (.ref fd54) = true)
    (ad55 : PySem.W.nsIn K mainGlobals "_law_does" = some (some (.ref fd55)))
    (ld55 : K.lookup fd55 = some ⟨ocd55, odd55, .func (PySem.W.fnOf "_law_does" "_law_does" (defArgs sLDoes) (defBody sLDoes) (defScope sLDoes) .none kVd55 dcd55 pmd55 and55 cdd55 ctd55), sld55⟩)
    (cd55 : PySem.W.codeIn K cdd55 "_law_does" = true)
    (kd55 : PySem.W.keepIn K (.ref fd55) = true)
    (ad56 : PySem.W.nsIn K mainGlobals "_law_piece" = some (some (.ref fd56)))
    (ld56 : K.lookup fd56 = some ⟨ocd56, odd56, .func (PySem.W.fnOf "_law_piece" "_law_piece" (defArgs sLPiece) (defBody sLPiece) (defScope sLPiece) .none kVd56 dcd56 pmd56 and56 cdd56 ctd56), sld56⟩)
    (cd56 : PySem.W.codeIn K cdd56 "_law_piece" = true)
    (kd56 : PySem.W.keepIn K (.ref fd56) = true)
    (ad57 : PySem.W.nsIn K mainGlobals "_law_bound" = some (some (.ref fd57)))
    (ld57 : K.lookup fd57 = some ⟨ocd57, odd57, .func (PySem.W.fnOf "_law_bound" "_law_bound" (defArgs sLBound) (defBody sLBound) (defScope sLBound) .none kVd57 dcd57 pmd57 and57 cdd57 ctd57), sld57⟩)
    (cd57 : PySem.W.codeIn K cdd57 "_law_bound" = true)
    (kd57 : PySem.W.keepIn K (.ref fd57) = true)
    (ad58 : PySem.W.nsIn K mainGlobals "_law_refused" = some (some (.ref fd58)))
    (ld58 : K.lookup fd58 = some ⟨ocd58, odd58, .func (PySem.W.fnOf "_law_refused" "_law_refused" (defArgs sRefused) (defBody sRefused) (defScope sRefused) .none kVd58 dcd58 pmd58 and58 cdd58 ctd58), sld58⟩)
    (cd58 : PySem.W.codeIn K cdd58 "_law_refused" = true)
    (kd58 : PySem.W.keepIn K (.ref fd58) = true)
    (ad59 : PySem.W.nsIn K mainGlobals "_law_lone_right" = some (some (.ref fd59)))
    (ld59 : K.lookup fd59 = some ⟨ocd59, odd59, .func (PySem.W.fnOf "_law_lone_right" "_law_lone_right" (defArgs sLone) (defBody sLone) (defScope sLone) .none kVd59 dcd59 pmd59 and59 cdd59 ctd59), sld59⟩)
    (cd59 : PySem.W.codeIn K cdd59 "_law_lone_right" = true)
    (kd59 : PySem.W.keepIn K (.ref fd59) = true)
    (ad60 : PySem.W.nsIn K mainGlobals "law" = some (some (.ref fd60)))
    (ld60 : K.lookup fd60 = some ⟨ocd60, odd60, .func (PySem.W.fnOf "law" "law" (defArgs sLaw) (defBody sLaw) (defScope sLaw) .none kVd60 dcd60 pmd60 and60 cdd60 ctd60), sld60⟩)
    (cd60 : PySem.W.codeIn K cdd60 "law" = true)
    (kd60 : PySem.W.keepIn K (.ref fd60) = true)
    (am0 : PySem.W.findIn K (.ref C) "__init__" = some (some (.ref fm0)))
    (im0 : PySem.W.isFn K (.ref fm0) = true)
    (lm0 : K.lookup fm0 = some ⟨ocm0, odm0, .func (PySem.W.fnOf "__init__" "Net.__init__" (defArgs sInit) (defBody sInit) (defScope sInit) .none kVm0 dcm0 pmm0 anm0 cdm0 ctm0), slm0⟩)
    (cm0 : PySem.W.codeIn K cdm0 "Net.__init__" = true)
    (km0 : PySem.W.keepIn K (.ref fm0) = true)
    (pgC : PySem.W.plainGet K C Str.empty = true)
    (hdC : PySem.W.hasDictIn K C = true)
    (poC : PySem.W.plainOver K C = true)
    (saC : PySem.W.findIn K (.ref C) "__setattr__" = some (some (.builtin "object.__setattr__")))
    (mkC : PySem.W.makesIn K C = true)
    (kcC : PySem.W.keepIn K (.ref C) = true)
    (nG : PySem.W.findIn K (.ref C) "gates" = some none)
    (nW : PySem.W.findIn K (.ref C) "wires" = some none)
    (aL0 : PySem.W.nsIn K mainGlobals "LagError" = some (some (.ref C0)))
    (gL : PySem.W.specialIn K (.ref C0) "__getattribute__" = some (some (.builtin "type.__getattribute__")))
    (rL : PySem.W.readsIn K C0 (.type "type") = true)
    (vL : PySem.W.findCls K (.ref C0) (.type "type") "__init__" = some (.val (.builtin "ValueError.__init__")))
    (tC0 : PySem.W.typeIn K (.ref C0) = some (.type "type"))
    (aTT : PySem.W.nsIn K mainGlobals "NoLagsThere" = some (some (.ref CT)))
    (xTT : K.lookup CT = some (excClassObj nmTT qTT CT NTTT bsTT [.ref C0, .type "ValueError", .type "Exception", .type "BaseException", .type "object"] true snTT subTT abTT colTT ddTT m0TT m1TT m2TT m3TT m5TT "ValueError.__new__"))
    (saTT : PySem.W.findIn K (.ref CT) "__setattr__" = some (some (.builtin "object.__setattr__")))
    (noTT : PySem.W.findIn K (.ref CT) "bar" = some none)
    (iTT : PySem.W.findIn K (.ref CT) "__init__" = some (some (.ref fT)))
    (ftTT : PySem.W.typeIn K (.ref fT) = some (.type "function"))
    (lTT : K.lookup fT = some ⟨ocTT, odTT, .func (PySem.W.fnOf "__init__" "NoLagsThere.__init__" (defArgs sNTinit) (defBody sNTinit) (defScope sNTinit) .none kVTT dcTT pmTT anTT cdvTT ctTT), slTT⟩)
    (cdTT : PySem.W.codeIn K cdvTT "NoLagsThere.__init__" = true)
    (kfTT : PySem.W.keepIn K (.ref fT) = true)
    (kkTT : PySem.W.keepIn K (.ref CT) = true)
    (eTT : PySem.W.subIn K (.ref CT) (.type "BaseException") = some true)
    (ttTT : PySem.W.typeIn K (.ref CT) = some (.type "type"))
    (ciTT : PySem.W.isClsIn K CT = true)
    (sTT : PySem.W.subIn K (.ref CT) (.ref CT) = some true)
    (xgTT : PySem.W.findIn K (.ref CT) "__getattribute__" = some (some (.builtin "BaseException.__getattribute__")))
    (xkTT : PySem.W.findIn K (.ref CT) "__getattr__" = some none)
    (xdTT : PySem.W.hasDictIn K CT = true)
    (zisi : PySem.W.nsIn K mainGlobals "isinstance" = some none)
    (zint : PySem.W.nsIn K mainGlobals "int" = some none)
    (zbool : PySem.W.nsIn K mainGlobals "bool" = some none)
    (zlen : PySem.W.nsIn K mainGlobals "len" = some none)
    (ztuple : PySem.W.nsIn K mainGlobals "tuple" = some none)
    (zstr : PySem.W.nsIn K mainGlobals "str" = some none)
    (zlist : PySem.W.nsIn K mainGlobals "list" = some none)
    (zall : PySem.W.nsIn K mainGlobals "all" = some none)
    (zenum : PySem.W.nsIn K mainGlobals "enumerate" = some none)
    (zzip : PySem.W.nsIn K mainGlobals "zip" = some none)
    (zrange : PySem.W.nsIn K mainGlobals "range" = some none)
    (zmax : PySem.W.nsIn K mainGlobals "max" = some none)
    (zsum : PySem.W.nsIn K mainGlobals "sum" = some none)
    (zmin : PySem.W.nsIn K mainGlobals "min" = some none)
    (zsorted : PySem.W.nsIn K mainGlobals "sorted" = some none)
    (zset : PySem.W.nsIn K mainGlobals "set" = some none)
    (gGW : PySem.W.nsIn K mainGlobals "GREATEST_WORTH" = some (some (.int 96 tGW)))
    (gGA : PySem.W.nsIn K mainGlobals "GREATEST_WAIT" = some (some (.int 100 tGA)))
    (gGL : PySem.W.nsIn K mainGlobals "GREATEST_LAG" = some (some (.int 500 tGL)))
    (gK : PySem.W.nsIn K mainGlobals "KINDS" = some (some (.ref aK)))
    (oK : K.lookup aK = some ⟨.type "tuple", ddK, .seq #[.str "in" tK0, .str "out" tK1, .str "sum" tK2, .str "times" tK3, .str "most" tK4, .str "least" tK5, .str "first" tK6, .str "one" tK7] nnK, ssK⟩)
    (gW : PySem.W.nsIn K mainGlobals "OUTER_KINDS" = some (some (.ref aW)))
    (oW : K.lookup aW = some ⟨.type "tuple", ddW, .seq #[.str "in" tW0, .str "out" tW1] nnW, ssW⟩)
    (gF : PySem.W.nsIn K mainGlobals "KINDS_WITH_A_WIRE" = some (some (.ref aF)))
    (oF : K.lookup aF = some ⟨.type "tuple", ddF, .seq #[.str "out" tF0, .str "first" tF1] nnF, ssF⟩) :
    ∃ fd : FuncData, (∀ (s : Shared) (v : Value), BindsTo s fd ⟨[v], []⟩ [("_law_script", v)]) ∧ ∀ base : Heap, K.In base → base.Ns mainGlobals mg → FnOk l.prog w K mg base CX0 14 fa fd ["_law_script"] (spLaw K) := by
  have e := hfa.symm.trans (PySem.W.mg_of X G ad60)
  cases e
  have Fd0 := fun_mk (st := sWhole) ld0 cd0 kd0
  have Fd1 := fun_mk (st := sFromTo) ld1 cd1 kd1
  have Fd2 := fun_mk (st := sWorth) ld2 cd2 kd2
  have Fd3 := fun_mk (st := sIsGate) ld3 cd3 kd3
  have Fd4 := fun_mk (st := sChkGates) ld4 cd4 kd4
  have Fd5 := fun_mk (st := sIsWire) ld5 cd5 kd5
  have Fd6 := fun_mk (st := sTaken) ld6 cd6 kd6
  have Fd7 := fun_mk (st := sChkWires) ld7 cd7 kd7
  have Fd8 := fun_mk (st := sAlong) ld8 cd8 kd8
  have Fd9 := fun_mk (st := sOrder) ld9 cd9 kd9
  have Fd10 := fun_mk (st := sChkRings) ld10 cd10 kd10
  have Fd11 := fun_mk (st := sOuter) ld11 cd11 kd11
  have Fd12 := fun_mk (st := sBestFrom) ld12 cd12 kd12
  have Fd13 := fun_mk (st := sWayTo) ld13 cd13 kd13
  have Fd14 := fun_mk (st := sWaitOf) ld14 cd14 kd14
  have Fd15 := fun_mk (st := sRoomOf) ld15 cd15 kd15
  have Fd16 := fun_mk (st := sSpotsIn) ld16 cd16 kd16
  have Fd17 := fun_mk (st := sSpotsOf) ld17 cd17 kd17
  have Fd18 := fun_mk (st := sLagsAt) ld18 cd18 kd18
  have Fd19 := fun_mk (st := sBoundsFor) ld19 cd19 kd19
  have Fd20 := fun_mk (st := sRingFrom) ld20 cd20 kd20
  have Fd21 := fun_mk (st := sSettle) ld21 cd21 kd21
  have Fd22 := fun_mk (st := sChkBeat) ld22 cd22 kd22
  have Fd23 := fun_mk (st := sForBeat) ld23 cd23 kd23
  have Fd24 := fun_mk (st := sBetween) ld24 cd24 kd24
  have Fd25 := fun_mk (st := sLeastBeat) ld25 cd25 kd25
  have Fd26 := fun_mk (st := sIsPiece) ld26 cd26 kd26
  have Fd27 := fun_mk (st := sEndOf) ld27 cd27 kd27
  have Fd28 := fun_mk (st := sEndsOf) ld28 cd28 kd28
  have Fd29 := fun_mk (st := sFirstGap) ld29 cd29 kd29
  have Fd30 := fun_mk (st := sBarFault) ld30 cd30 kd30
  have Fd31 := fun_mk (st := sBothWays) ld31 cd31 kd31
  have Fd32 := fun_mk (st := sChange) ld32 cd32 kd32
  have Fd33 := fun_mk (st := sLeastFlow) ld33 cd33 kd33
  have Fd34 := fun_mk (st := sNearLags) ld34 cd34 kd34
  have Fd35 := fun_mk (st := sRegisters) ld35 cd35 kd35
  have Fd36 := fun_mk (st := sPlainFlow) ld36 cd36 kd36
  have Fd37 := fun_mk (st := sPaperOf) ld37 cd37 kd37
  have Fd38 := fun_mk (st := sRoomIn) ld38 cd38 kd38
  have Fd39 := fun_mk (st := sNumPiece) ld39 cd39 kd39
  have Fd40 := fun_mk (st := sIsPaper) ld40 cd40 kd40
  have Fd41 := fun_mk (st := sGateFault) ld41 cd41 kd41
  have Fd42 := fun_mk (st := sPaperFault) ld42 cd42 kd42
  have Fd43 := fun_mk (st := sBoundOf) ld43 cd43 kd43
  have Fd44 := fun_mk (st := sLetBounds) ld44 cd44 kd44
  have Fd45 := fun_mk (st := sFewest) ld45 cd45 kd45
  have Fd46 := fun_mk (st := sCellAt) ld46 cd46 kd46
  have Fd47 := fun_mk (st := sDigit) ld47 cd47 kd47
  have Fd48 := fun_mk (st := sGates) ld48 cd48 kd48
  have Fd49 := fun_mk (st := sLWorths) ld49 cd49 kd49
  have Fd50 := fun_mk (st := sLWires) ld50 cd50 kd50
  have Fd51 := fun_mk (st := sLParts) ld51 cd51 kd51
  have Fd52 := fun_mk (st := sLCounts) ld52 cd52 kd52
  have Fd53 := fun_mk (st := sAllLags) ld53 cd53 kd53
  have Fd54 := fun_mk (st := sLNeed) ld54 cd54 kd54
  have Fd55 := fun_mk (st := sLDoes) ld55 cd55 kd55
  have Fd56 := fun_mk (st := sLPiece) ld56 cd56 kd56
  have Fd57 := fun_mk (st := sLBound) ld57 cd57 kd57
  have Fd58 := fun_mk (st := sRefused) ld58 cd58 kd58
  have Fd59 := fun_mk (st := sLone) ld59 cd59 kd59
  have Fd60 := fun_mk (st := sLaw) ld60 cd60 kd60
  have Fm0 := fun_mk (st := sInit) lm0 cm0 km0
  have B : Bt mg := ⟨PySem.W.mg_none_of X G zisi, PySem.W.mg_none_of X G zint, PySem.W.mg_none_of X G zbool, PySem.W.mg_none_of X G zlen, PySem.W.mg_none_of X G ztuple, PySem.W.mg_none_of X G zstr, PySem.W.mg_none_of X G zlist, PySem.W.mg_none_of X G zall, PySem.W.mg_none_of X G zenum, PySem.W.mg_none_of X G zzip, PySem.W.mg_none_of X G zrange, PySem.W.mg_none_of X G zmax⟩
  have b_sum := PySem.W.mg_none_of X G zsum
  have b_min := PySem.W.mg_none_of X G zmin
  have b_sorted := PySem.W.mg_none_of X G zsorted
  have b_set := PySem.W.mg_none_of X G zset
  have Cn : Cns K mg aK aW aF := ⟨⟨_, PySem.W.mg_of X G gGW⟩, ⟨_, PySem.W.mg_of X G gGA⟩, PySem.W.mg_of X G gK, fun _ => .inr ⟨_, _, _, oK, rfl, rfl, (by show 8 ≤ sizeLine; decide), .cons ⟨_, rfl⟩ (.cons ⟨_, rfl⟩ (.cons ⟨_, rfl⟩ (.cons ⟨_, rfl⟩ (.cons ⟨_, rfl⟩ (.cons ⟨_, rfl⟩ (.cons ⟨_, rfl⟩ (.cons ⟨_, rfl⟩ (.nil))))))))⟩, PySem.W.mg_of X G gW, fun _ => .inr ⟨_, _, _, oW, rfl, rfl, (by show 2 ≤ sizeLine; decide), .cons ⟨_, rfl⟩ (.cons ⟨_, rfl⟩ (.nil))⟩, PySem.W.mg_of X G gF, fun _ => .inr ⟨_, _, _, oF, rfl, rfl, (by show 2 ≤ sizeLine; decide), .cons ⟨_, rfl⟩ (.cons ⟨_, rfl⟩ (.nil))⟩⟩
  have i_GL : ∃ t, mg "GREATEST_LAG" = some (.int 500 t) := ⟨_, PySem.W.mg_of X G gGL⟩
  have T : NT K mg C := ⟨⟨pgC, hdC, poC, saC⟩, nG, nW, PySem.W.mg_of X G aC⟩
  have bm0 := Fm0.binds (ps := ["self", "gates", "wires"]) fun _ _ _ _ _ _ us hl => match us, hl with | [_, _, _], _ => rfl
  refine ⟨PySem.W.fnOf "law" "law" (defArgs sLaw) (defBody sLaw) (defScope sLaw) .none kVd60 dcd60 pmd60 and60 cdd60 ctd60, fun s v => .of_eq rfl, fun base _ _ => ?_⟩
  have whole := ok_whole (P := l.prog) (w := w) (base := base) Fd0 (PySem.W.mg_of X G ad0) B
  have ft := ok_fromTo (P := l.prog) (w := w) (base := base) Fd1 (PySem.W.mg_of X G ad1) whole
  have wo := ok_worth (P := l.prog) (w := w) (base := base) Fd2 (PySem.W.mg_of X G ad2) Cn ft
  have ig := ok_isGate (P := l.prog) (w := w) (base := base) Fd3 (PySem.W.mg_of X G ad3) B Cn ft
  have cg := ok_chkGates (P := l.prog) (w := w) (base := base) Fd4 (PySem.W.mg_of X G ad4) B ig
  have iw := ok_isWire (P := l.prog) (w := w) (base := base) Fd5 (PySem.W.mg_of X G ad5) B ft wo
  have tk := ok_taken (P := l.prog) (w := w) (base := base) Fd6 (PySem.W.mg_of X G ad6)
  have cw := ok_chkWires (P := l.prog) (w := w) (base := base) Fd7 (PySem.W.mg_of X G ad7) B Cn iw tk
  have al := ok_along (P := l.prog) (w := w) (base := base) Fd8 (PySem.W.mg_of X G ad8) B
  have od := ok_order (P := l.prog) (w := w) (base := base) Fd9 (PySem.W.mg_of X G ad9) B al
  have cr := ok_chkRings (P := l.prog) (w := w) (base := base) Fd10 (PySem.W.mg_of X G ad10) B od
  have init := ok_init (P := l.prog) (w := w) (base := base) Fm0 T B cg cw cr
  have MK : Mk K C fm0 := ⟨mkC, am0, im0, kcC⟩
  have ou := ok_outer (P := l.prog) (w := w) (base := base) Fd11 (PySem.W.mg_of X G ad11) Cn
  have bf := ok_bestFrom (P := l.prog) (w := w) (base := base) Fd12 (PySem.W.mg_of X G ad12) B T
  have wy := ok_wayTo (P := l.prog) (w := w) (base := base) Fd13 (PySem.W.mg_of X G ad13) B T
  have wto := ok_waitOf (P := l.prog) (w := w) (base := base) Fd14 (PySem.W.mg_of X G ad14) B b_sum T
  have rmo := ok_roomOf (P := l.prog) (w := w) (base := base) Fd15 (PySem.W.mg_of X G ad15) B b_sum T wto
  have spi := ok_spotsIn (P := l.prog) (w := w) (base := base) Fd16 (PySem.W.mg_of X G ad16) B T
  have spo := ok_spotsOf (P := l.prog) (w := w) (base := base) Fd17 (PySem.W.mg_of X G ad17) B T ou
  have lat := ok_lagsAt (P := l.prog) (w := w) (base := base) Fd18 (PySem.W.mg_of X G ad18) B T spo
  have bdf := ok_boundsFor (P := l.prog) (w := w) (base := base) Fd19 (PySem.W.mg_of X G ad19) B b_sorted T spo bf wy rmo
  have rgf := ok_ringF (P := l.prog) (w := w) (base := base) Fd20 (PySem.W.mg_of X G ad20) B
  have stl := ok_settle (P := l.prog) (w := w) (base := base) Fd21 (PySem.W.mg_of X G ad21) B rgf
  have chb := ok_chkB (P := l.prog) (w := w) (base := base) Fd22 (PySem.W.mg_of X G ad22) whole
  have fbt := ok_forBeat (P := l.prog) (w := w) (base := base) Fd23 (PySem.W.mg_of X G ad23) B T chb stl spi bdf lat
  have btw := ok_between (P := l.prog) (w := w) (base := base) Fd24 (PySem.W.mg_of X G ad24) B b_sorted T bf
  have lbt := ok_leastBeat (P := l.prog) (w := w) (base := base) Fd25 (PySem.W.mg_of X G ad25) B b_sorted b_set btw fbt
  have isp := ok_isPiece (P := l.prog) (w := w) (base := base) Fd26 (PySem.W.mg_of X G ad26) B T ft
  have eof := ok_endOf (P := l.prog) (w := w) (base := base) Fd27 (PySem.W.mg_of X G ad27) B T
  have eso := ok_endsOf (P := l.prog) (w := w) (base := base) Fd28 (PySem.W.mg_of X G ad28) eof
  have fgp := ok_firstGap (P := l.prog) (w := w) (base := base) Fd29 (PySem.W.mg_of X G ad29) B spo
  have bft := ok_barFault (P := l.prog) (w := w) (base := base) Fd30 (PySem.W.mg_of X G ad30) B b_sum chb isp eso fgp rmo
  have bw := ok_bothWays (P := l.prog) (w := w) (base := base) Fd31 (PySem.W.mg_of X G ad31) B
  have ca := ok_change (P := l.prog) (w := w) (base := base) Fd32 (PySem.W.mg_of X G ad32) B b_min
  have lf := ok_leastFlow (P := l.prog) (w := w) (base := base) Fd33 (PySem.W.mg_of X G ad33) B bw stl ca
  have nl := ok_nearLags (P := l.prog) (w := w) (base := base) Fd34 (PySem.W.mg_of X G ad34) B T i_GL stl lat
  have rg := ok_registers (P := l.prog) (w := w) (base := base) Fd35 (PySem.W.mg_of X G ad35) B T b_sum
  have pl := ok_plainFlow (P := l.prog) (w := w) (base := base) Fd36 (PySem.W.mg_of X G ad36) B T eso
  have po := ok_paperOf (P := l.prog) (w := w) (base := base) Fd37 (PySem.W.mg_of X G ad37) B
  have ri := ok_roomIn (P := l.prog) (w := w) (base := base) Fd38 (PySem.W.mg_of X G ad38) B b_sum rmo
  have np := ok_numPiece (P := l.prog) (w := w) (base := base) Fd39 (PySem.W.mg_of X G ad39) B isp whole
  have pp := ok_isPaper (P := l.prog) (w := w) (base := base) Fd40 (PySem.W.mg_of X G ad40) B np
  have gf := ok_gateFault (P := l.prog) (w := w) (base := base) Fd41 (PySem.W.mg_of X G ad41) B T eof ou
  have pf := ok_paperFault (P := l.prog) (w := w) (base := base) Fd42 (PySem.W.mg_of X G ad42) B T chb pp gf
  have bo := ok_boundOf (P := l.prog) (w := w) (base := base) Fd43 (PySem.W.mg_of X G ad43) pf rg ri
  have lb := ok_letBounds (P := l.prog) (w := w) (base := base) Fd44 (PySem.W.mg_of X G ad44) fbt bdf
  have fw := ok_fewest (P := l.prog) (w := w) (base := base) Fd45 (PySem.W.mg_of X G ad45) B T lb lf spi pl po bo nl
  have hwh := hot_whole (P := l.prog) (w := w) (base := base) Fd0 (PySem.W.mg_of X G ad0) B
  have hft := hot_fromTo (P := l.prog) (w := w) (base := base) Fd1 (PySem.W.mg_of X G ad1) hwh
  have hcb := hot_chkB (P := l.prog) (w := w) (base := base) Fd22 (PySem.W.mg_of X G ad22) hwh
  have hou := hot_outer (P := l.prog) (w := w) (base := base) Fd11 (PySem.W.mg_of X G ad11) Cn
  have hso := hot_spotsOf (P := l.prog) (w := w) (base := base) Fd17 (PySem.W.mg_of X G ad17) B T hou
  have hwt := hot_waitOf (P := l.prog) (w := w) (base := base) Fd14 (PySem.W.mg_of X G ad14) B b_sum T
  have hrm := hot_roomOf (P := l.prog) (w := w) (base := base) Fd15 (PySem.W.mg_of X G ad15) B b_sum T hwt
  have hip := hot_isPiece (P := l.prog) (w := w) (base := base) Fd26 (PySem.W.mg_of X G ad26) B T hft
  have heo := hot_endOf (P := l.prog) (w := w) (base := base) Fd27 (PySem.W.mg_of X G ad27) B T
  have hes := hot_endsOf (P := l.prog) (w := w) (base := base) Fd28 (PySem.W.mg_of X G ad28) heo
  have hfg := hot_firstGap (P := l.prog) (w := w) (base := base) Fd29 (PySem.W.mg_of X G ad29) B hso
  have hbf := hot_barFault (P := l.prog) (w := w) (base := base) Fd30 (PySem.W.mg_of X G ad30) B b_sum hcb hip hes hfg hrm
  have LX : LEx K mg C0 := ⟨PySem.W.mg_of X G aL0, gL, tC0, rL, vL⟩
  have TT : TEx K mg "NoLagsThere" "bar" CT fT := ⟨PySem.W.mg_of X G aTT, ⟨⟨_, _, _, _, _, _, _, _, _, _, _, _, _, _, _, xTT, by rfl⟩, saTT, eTT, ttTT, kkTT⟩, iTT, ftTT, noTT, ⟨xgTT, xkTT, eTT, xdTT⟩, exm_self eTT ciTT ttTT sTT⟩
  have FT := fun_mk (st := sNTinit) lTT cdTT kfTT
  have bT := FT.binds (ps := ["self", "bar"]) fun _ _ _ _ _ _ us hl => match us, hl with | [_, _], _ => rfl
  have ntI := ok_ntInit (P := l.prog) (w := w) (base := base) FT LX TT
  have lbN := ok_letBarN (P := l.prog) (w := w) (base := base) Fd44 fbt TT ntI bT
  have fwN := ok_fewBarN (P := l.prog) (w := w) (base := base) Fd45 lb lbN
  have cla := ok_cellAt (P := l.prog) (w := w) (base := base) Fd46 (PySem.W.mg_of X G ad46) B.len
  have dg := ok_digit (P := l.prog) (w := w) (base := base) Fd47 (PySem.W.mg_of X G ad47) B
  have ga := ok_gates (P := l.prog) (w := w) (base := base) Fd48 (PySem.W.mg_of X G ad48) B dg
  have lw := ok_lworths (P := l.prog) (w := w) (base := base) Fd49 (PySem.W.mg_of X G ad49) B dg
  have wi := ok_lwires (P := l.prog) (w := w) (base := base) Fd50 (PySem.W.mg_of X G ad50) B dg lw
  have pa := ok_lparts (P := l.prog) (w := w) (base := base) Fd51 (PySem.W.mg_of X G ad51) B dg ga wi
  have lcn := ok_lcounts (P := l.prog) (w := w) (base := base) Fd52 (PySem.W.mg_of X G ad52) B
  have alg := ok_allLags (P := l.prog) (w := w) (base := base) Fd53 (PySem.W.mg_of X G ad53) B
  have lne := ok_lneed (P := l.prog) (w := w) (base := base) Fd54 (PySem.W.mg_of X G ad54) B
  have ldo := ok_ldoes (P := l.prog) (w := w) (base := base) Fd55 (PySem.W.mg_of X G ad55) B b_min lcn lne
  have lpi := ok_lpiece (P := l.prog) (w := w) (base := base) Fd56 (PySem.W.mg_of X G ad56) B
  have lbo := ok_lbound (P := l.prog) (w := w) (base := base) Fd57 (PySem.W.mg_of X G ad57) B b_sum lpi
  have rfd := ok_refused (P := l.prog) (w := w) (base := base) Fd58 (PySem.W.mg_of X G ad58) B TT fw fwN hbf
  have lon := ok_lone (P := l.prog) (w := w) (base := base) Fd59 (PySem.W.mg_of X G ad59) B T MK init bm0 fw pf bo rfd
  exact ok_law Fd60 B b_min b_sum T MK init bm0 cla pa dg lbt fw ldo lcn alg lbo pf bo rfd lon
end Lag

set_option maxRecDepth 100000
open PySem PySem.W PyProof.Rows
set_option maxRecDepth 100000 in
set_option maxHeartbeats 0 in
theorem PySem.Challenge.cw_lagshift_k54_whole_fewest_registers_holds : PySem.Challenge.rw_lagshift_k54_whole_fewest_registers.Holds := by
  w_on; o_law; k_head; (case hw => w_witness2)
  k_fill
  refine L2.walk_of (l := PySem.Challenge.rw_lagshift_k54_whole_fewest_registers) (n := 63) (k := 14) (x := "_law_script") (CX := fun _ => L2.CX0) (sp := fun w => Lag.spLaw _) rfl (by decide) rfl ⟨rfl, by decide, by decide⟩ (fun w h Y => PySem.W.kIn_of Y) ?F (fun _ _ a ns hl _ hS => ⟨a, ns, rfl, hS, hl, fun _ => rfl⟩) (fun _ _ _ _ _ h => h)
  case F =>
    intro w mg fa h KX G hmg
    refine' Lag.all_mk KX G hmg ?aC ?ad0 ?ld0 ?cd0 ?kd0 ?ad1 ?ld1 ?cd1 ?kd1 ?ad2 ?ld2 ?cd2 ?kd2 ?ad3 ?ld3 ?cd3 ?kd3 ?ad4 ?ld4 ?cd4 ?kd4 ?ad5 ?ld5 ?cd5 ?kd5 ?ad6 ?ld6 ?cd6 ?kd6 ?ad7 ?ld7 ?cd7 ?kd7 ?ad8 ?ld8 ?cd8 ?kd8 ?ad9 ?ld9 ?cd9 ?kd9 ?ad10 ?ld10 ?cd10 ?kd10 ?ad11 ?ld11 ?cd11 ?kd11 ?ad12 ?ld12 ?cd12 ?kd12 ?ad13 ?ld13 ?cd13 ?kd13 ?ad14 ?ld14 ?cd14 ?kd14 ?ad15 ?ld15 ?cd15 ?kd15 ?ad16 ?ld16 ?cd16 ?kd16 ?ad17 ?ld17 ?cd17 ?kd17 ?ad18 ?ld18 ?cd18 ?kd18 ?ad19 ?ld19 ?cd19 ?kd19 ?ad20 ?ld20 ?cd20 ?kd20 ?ad21 ?ld21 ?cd21 ?kd21 ?ad22 ?ld22 ?cd22 ?kd22 ?ad23 ?ld23 ?cd23 ?kd23 ?ad24 ?ld24 ?cd24 ?kd24 ?ad25 ?ld25 ?cd25 ?kd25 ?ad26 ?ld26 ?cd26 ?kd26 ?ad27 ?ld27 ?cd27 ?kd27 ?ad28 ?ld28 ?cd28 ?kd28 ?ad29 ?ld29 ?cd29 ?kd29 ?ad30 ?ld30 ?cd30 ?kd30 ?ad31 ?ld31 ?cd31 ?kd31 ?ad32 ?ld32 ?cd32 ?kd32 ?ad33 ?ld33 ?cd33 ?kd33 ?ad34 ?ld34 ?cd34 ?kd34 ?ad35 ?ld35 ?cd35 ?kd35 ?ad36 ?ld36 ?cd36 ?kd36 ?ad37 ?ld37 ?cd37 ?kd37 ?ad38 ?ld38 ?cd38 ?kd38 ?ad39 ?ld39 ?cd39 ?kd39 ?ad40 ?ld40 ?cd40 ?kd40 ?ad41 ?ld41 ?cd41 ?kd41 ?ad42 ?ld42 ?cd42 ?kd42 ?ad43 ?ld43 ?cd43 ?kd43 ?ad44 ?ld44 ?cd44 ?kd44 ?ad45 ?ld45 ?cd45 ?kd45 ?ad46 ?ld46 ?cd46 ?kd46 ?ad47 ?ld47 ?cd47 ?kd47 ?ad48 ?ld48 ?cd48 ?kd48 ?ad49 ?ld49 ?cd49 ?kd49 ?ad50 ?ld50 ?cd50 ?kd50 ?ad51 ?ld51 ?cd51 ?kd51 ?ad52 ?ld52 ?cd52 ?kd52 ?ad53 ?ld53 ?cd53 ?kd53 ?ad54 ?ld54 ?cd54 ?kd54 ?ad55 ?ld55 ?cd55 ?kd55 ?ad56 ?ld56 ?cd56 ?kd56 ?ad57 ?ld57 ?cd57 ?kd57 ?ad58 ?ld58 ?cd58 ?kd58 ?ad59 ?ld59 ?cd59 ?kd59 ?ad60 ?ld60 ?cd60 ?kd60 ?am0 ?im0 ?lm0 ?cm0 ?km0 ?pgC ?hdC ?poC ?saC ?mkC ?kcC ?nG ?nW ?aL0 ?gL ?rL ?vL ?tC0 ?aTT ?xTT ?saTT ?noTT ?iTT ?ftTT ?lTT ?cdTT ?kfTT ?kkTT ?eTT ?ttTT ?ciTT ?sTT ?xgTT ?xkTT ?xdTT ?zisi ?zint ?zbool ?zlen ?ztuple ?zstr ?zlist ?zall ?zenum ?zzip ?zrange ?zmax ?zsum ?zmin ?zsorted ?zset ?gGW ?gGA ?gGL ?gK ?oK ?gW ?oW ?gF ?oF
    (case aC => k_is)
    (case ad0 => k_is)
    (case ld0 => k_is)
    (case cd0 => k_is)
    (case kd0 => k_is)
    (case ad1 => k_is)
    (case ld1 => k_is)
    (case cd1 => k_is)
    (case kd1 => k_is)
    (case ad2 => k_is)
    (case ld2 => k_is)
    (case cd2 => k_is)
    (case kd2 => k_is)
    (case ad3 => k_is)
    (case ld3 => k_is)
    (case cd3 => k_is)
    (case kd3 => k_is)
    (case ad4 => k_is)
    (case ld4 => k_is)
    (case cd4 => k_is)
    (case kd4 => k_is)
    (case ad5 => k_is)
    (case ld5 => k_is)
    (case cd5 => k_is)
    (case kd5 => k_is)
    (case ad6 => k_is)
    (case ld6 => k_is)
    (case cd6 => k_is)
    (case kd6 => k_is)
    (case ad7 => k_is)
    (case ld7 => k_is)
    (case cd7 => k_is)
    (case kd7 => k_is)
    (case ad8 => k_is)
    (case ld8 => k_is)
    (case cd8 => k_is)
    (case kd8 => k_is)
    (case ad9 => k_is)
    (case ld9 => k_is)
    (case cd9 => k_is)
    (case kd9 => k_is)
    (case ad10 => k_is)
    (case ld10 => k_is)
    (case cd10 => k_is)
    (case kd10 => k_is)
    (case ad11 => k_is)
    (case ld11 => k_is)
    (case cd11 => k_is)
    (case kd11 => k_is)
    (case ad12 => k_is)
    (case ld12 => k_is)
    (case cd12 => k_is)
    (case kd12 => k_is)
    (case ad13 => k_is)
    (case ld13 => k_is)
    (case cd13 => k_is)
    (case kd13 => k_is)
    (case ad14 => k_is)
    (case ld14 => k_is)
    (case cd14 => k_is)
    (case kd14 => k_is)
    (case ad15 => k_is)
    (case ld15 => k_is)
    (case cd15 => k_is)
    (case kd15 => k_is)
    (case ad16 => k_is)
    (case ld16 => k_is)
    (case cd16 => k_is)
    (case kd16 => k_is)
    (case ad17 => k_is)
    (case ld17 => k_is)
    (case cd17 => k_is)
    (case kd17 => k_is)
    (case ad18 => k_is)
    (case ld18 => k_is)
    (case cd18 => k_is)
    (case kd18 => k_is)
    (case ad19 => k_is)
    (case ld19 => k_is)
    (case cd19 => k_is)
    (case kd19 => k_is)
    (case ad20 => k_is)
    (case ld20 => k_is)
    (case cd20 => k_is)
    (case kd20 => k_is)
    (case ad21 => k_is)
    (case ld21 => k_is)
    (case cd21 => k_is)
    (case kd21 => k_is)
    (case ad22 => k_is)
    (case ld22 => k_is)
    (case cd22 => k_is)
    (case kd22 => k_is)
    (case ad23 => k_is)
    (case ld23 => k_is)
    (case cd23 => k_is)
    (case kd23 => k_is)
    (case ad24 => k_is)
    (case ld24 => k_is)
    (case cd24 => k_is)
    (case kd24 => k_is)
    (case ad25 => k_is)
    (case ld25 => k_is)
    (case cd25 => k_is)
    (case kd25 => k_is)
    (case ad26 => k_is)
    (case ld26 => k_is)
    (case cd26 => k_is)
    (case kd26 => k_is)
    (case ad27 => k_is)
    (case ld27 => k_is)
    (case cd27 => k_is)
    (case kd27 => k_is)
    (case ad28 => k_is)
    (case ld28 => k_is)
    (case cd28 => k_is)
    (case kd28 => k_is)
    (case ad29 => k_is)
    (case ld29 => k_is)
    (case cd29 => k_is)
    (case kd29 => k_is)
    (case ad30 => k_is)
    (case ld30 => k_is)
    (case cd30 => k_is)
    (case kd30 => k_is)
    (case ad31 => k_is)
    (case ld31 => k_is)
    (case cd31 => k_is)
    (case kd31 => k_is)
    (case ad32 => k_is)
    (case ld32 => k_is)
    (case cd32 => k_is)
    (case kd32 => k_is)
    (case ad33 => k_is)
    (case ld33 => k_is)
    (case cd33 => k_is)
    (case kd33 => k_is)
    (case ad34 => k_is)
    (case ld34 => k_is)
    (case cd34 => k_is)
    (case kd34 => k_is)
    (case ad35 => k_is)
    (case ld35 => k_is)
    (case cd35 => k_is)
    (case kd35 => k_is)
    (case ad36 => k_is)
    (case ld36 => k_is)
    (case cd36 => k_is)
    (case kd36 => k_is)
    (case ad37 => k_is)
    (case ld37 => k_is)
    (case cd37 => k_is)
    (case kd37 => k_is)
    (case ad38 => k_is)
    (case ld38 => k_is)
    (case cd38 => k_is)
    (case kd38 => k_is)
    (case ad39 => k_is)
    (case ld39 => k_is)
    (case cd39 => k_is)
    (case kd39 => k_is)
    (case ad40 => k_is)
    (case ld40 => k_is)
    (case cd40 => k_is)
    (case kd40 => k_is)
    (case ad41 => k_is)
    (case ld41 => k_is)
    (case cd41 => k_is)
    (case kd41 => k_is)
    (case ad42 => k_is)
    (case ld42 => k_is)
    (case cd42 => k_is)
    (case kd42 => k_is)
    (case ad43 => k_is)
    (case ld43 => k_is)
    (case cd43 => k_is)
    (case kd43 => k_is)
    (case ad44 => k_is)
    (case ld44 => k_is)
    (case cd44 => k_is)
    (case kd44 => k_is)
    (case ad45 => k_is)
    (case ld45 => k_is)
    (case cd45 => k_is)
    (case kd45 => k_is)
    (case ad46 => k_is)
    (case ld46 => k_is)
    (case cd46 => k_is)
    (case kd46 => k_is)
    (case ad47 => k_is)
    (case ld47 => k_is)
    (case cd47 => k_is)
    (case kd47 => k_is)
    (case ad48 => k_is)
    (case ld48 => k_is)
    (case cd48 => k_is)
    (case kd48 => k_is)
    (case ad49 => k_is)
    (case ld49 => k_is)
    (case cd49 => k_is)
    (case kd49 => k_is)
    (case ad50 => k_is)
    (case ld50 => k_is)
    (case cd50 => k_is)
    (case kd50 => k_is)
    (case ad51 => k_is)
    (case ld51 => k_is)
    (case cd51 => k_is)
    (case kd51 => k_is)
    (case ad52 => k_is)
    (case ld52 => k_is)
    (case cd52 => k_is)
    (case kd52 => k_is)
    (case ad53 => k_is)
    (case ld53 => k_is)
    (case cd53 => k_is)
    (case kd53 => k_is)
    (case ad54 => k_is)
    (case ld54 => k_is)
    (case cd54 => k_is)
    (case kd54 => k_is)
    (case ad55 => k_is)
    (case ld55 => k_is)
    (case cd55 => k_is)
    (case kd55 => k_is)
    (case ad56 => k_is)
    (case ld56 => k_is)
    (case cd56 => k_is)
    (case kd56 => k_is)
    (case ad57 => k_is)
    (case ld57 => k_is)
    (case cd57 => k_is)
    (case kd57 => k_is)
    (case ad58 => k_is)
    (case ld58 => k_is)
    (case cd58 => k_is)
    (case kd58 => k_is)
    (case ad59 => k_is)
    (case ld59 => k_is)
    (case cd59 => k_is)
    (case kd59 => k_is)
    (case ad60 => k_is)
    (case ld60 => k_is)
    (case cd60 => k_is)
    (case kd60 => k_is)
    (case am0 => k_is)
    (case im0 => k_is)
    (case lm0 => k_is)
    (case cm0 => k_is)
    (case km0 => k_is)
    (case pgC => k_is)
    (case hdC => k_is)
    (case poC => k_is)
    (case saC => k_is)
    (case mkC => k_is)
    (case kcC => k_is)
    (case nG => k_is)
    (case nW => k_is)
    (case aL0 => k_is)
    (case gL => k_is)
    (case rL => k_is)
    (case vL => k_is)
    (case tC0 => k_is)
    (case aTT => k_is)
    (case xTT => k_is)
    (case saTT => k_is)
    (case noTT => k_is)
    (case iTT => k_is)
    (case ftTT => k_is)
    (case lTT => k_is)
    (case cdTT => k_is)
    (case kfTT => k_is)
    (case kkTT => k_is)
    (case eTT => k_is)
    (case ttTT => k_is)
    (case ciTT => k_is)
    (case sTT => first | rfl | k_is)
    (case xgTT => k_is)
    (case xkTT => k_is)
    (case xdTT => k_is)
    (case zisi => k_is)
    (case zint => k_is)
    (case zbool => k_is)
    (case zlen => k_is)
    (case ztuple => k_is)
    (case zstr => k_is)
    (case zlist => k_is)
    (case zall => k_is)
    (case zenum => k_is)
    (case zzip => k_is)
    (case zrange => k_is)
    (case zmax => k_is)
    (case zsum => k_is)
    (case zmin => k_is)
    (case zsorted => k_is)
    (case zset => k_is)
    (case gGW => k_is)
    (case gGA => k_is)
    (case gGL => k_is)
    (case gK => k_is)
    (case oK => k_is)
    (case gW => k_is)
    (case oW => k_is)
    (case gF => k_is)
    (case oF => k_is)

