import PyProof.Rows.All
import Wide.All
import OpenK.AllK
import Wide.FinOn
import HandS.ForMost
import HandS.IsInst
import HandS.Evl
import HandS.Flow
import HandS.Conv
import HandS.Wide
import HandS.Walk
import HandS.Zip
import HandS.OwnEq
import HandS.Style
import HandS.TupAny
import KE.KMinKey
import HandS.SortKw
import HandS.CallLocal
import HandS.More
import HandS.Text
import HandS.FStr
import HandS.StrMore
import PyProof.EqAt
import PyProof.EqKinds
import PyProof.NeKinds
import PyProof.TupleCall
import HandS.MakeKwOnly
import HandS.TupMul
import PyProof.CompFree
import HandS.Comp
import HandS.Exc
import HandS.ExcOwn
import HandS.WordsExc
import HandS.Codes
import HandS.TryMany
import HandS.ExcIs
import HandS.ExcField
import PySem.Challenge.RW_lagshift_k97_lags_as_texts
set_option Elab.async false
set_option linter.all false
set_option maxRecDepth 100000
set_option maxHeartbeats 4000000
namespace Lag
open PySem PySem.Spec PyProof.Rows L2
/-! ### the text by its places -/
def topS (i : Nat) : Stmt := PySem.Challenge.pw_lagshift_k97_lags_as_texts.main.body.getD i (.Pass ⟨0, 0, 0, 0⟩)
abbrev sCellAt : Stmt := topS 14
abbrev sWell : Stmt := topS 15
abbrev sDraw : Stmt := topS 16
/-! ### heaps -/
/-- all stands as it stood but at w -/
def But (w : Addr) (H H' : Hp) : Prop := ∀ b o, b ≠ w → H b = some o → H' b = some o
theorem But.refl (w : Addr) (H : Hp) : But w H H := fun _ _ _ h => h
theorem But.trans {w : Addr} {H H1 H2 : Hp} (a : But w H H1) (b : But w H1 H2) : But w H H2 := fun c o n h => b c o n (a c o n h)
theorem But.same {w : Addr} {H H1 : Hp} (a : Same H H1) : But w H H1 := fun c o _ h => a c o h
theorem But.upd {w : Addr} {H : Hp} {o : HO} : But w H (upd H w o) := fun c u n h => by rw [upd_ne n]; exact h
theorem But.new {w p : Addr} {H : Hp} {o : HO} (h : H p = none) : But w H (L2.upd H p o) := fun c u n e => by rw [upd_ne (ne_of_none e h)]; exact e
theorem same_new {H : Hp} {p : Addr} {o : HO} (h : H p = none) : Same H (upd H p o) := fun b x e => by rw [upd_ne (ne_of_none e h)]; exact e
/-- an object that H does not know may be changed -/
theorem same_mut {H H' : Hp} {p : Addr} {o : HO} (e : Same H H') (h : H p = none) : Same H (upd H' p o) := fun a u ha => by rw [upd_ne (ne_of_none ha h)]; exact e a u ha
theorem But.mut {w p : Addr} {H H' : Hp} {o : HO} (e : But w H H') (h : H p = none) : But w H (L2.upd H' p o) := fun a u n ha => by rw [upd_ne (ne_of_none ha h)]; exact e a u n ha
theorem But.seq {K : PySem.W.Frag} {w a : Addr} {H H' : Hp} {xs : List V} (e : But w H H') (n : a ≠ w) (h : SqL K H a xs) : SqL K H' a xs := by
  rcases h with (h | ⟨o, h⟩) | h
  · exact .inl (.inl (e _ _ n h))
  · exact .inl (.inr ⟨o, e _ _ n h⟩)
  · exact .inr h
/-- at w the well: three numbers -/
def WellAt (w : Addr) (H : Hp) : Prop := ∃ a b c : Int, H w = some (.lst [.int a, .int b, .int c])
theorem WellAt.new {w p : Addr} {H : Hp} {o : HO} (W : WellAt w H) (h : H p = none) : WellAt w (upd H p o) := by
  obtain ⟨a, b, c, e⟩ := W
  exact ⟨a, b, c, by rw [upd_ne (ne_of_none e h)]; exact e⟩
theorem WellAt.same {w : Addr} {H H' : Hp} (W : WellAt w H) (s : Same H H') : WellAt w H' := by
  obtain ⟨a, b, c, e⟩ := W
  exact ⟨a, b, c, s _ _ e⟩
theorem WellAt.ne {w p : Addr} {H : Hp} (W : WellAt w H) (h : H p = none) : w ≠ p := by
  obtain ⟨a, b, c, e⟩ := W
  exact ne_of_none e h
theorem WellAt.tup {K : PySem.W.Frag} {w p : Addr} {H : Hp} {xs : List V} (W : WellAt w H) (h : H p = some (.tup xs)) : p ≠ w := by
  obtain ⟨a, b, c, e⟩ := W
  exact ne_of h e (by intro q; cases q)
/-- a draw of the well: what stood stands, the well is one -/
structure Dr (w : Addr) (H H' : Hp) : Prop where
  but : But w H H'
  well : WellAt w H'
theorem Dr.trans {w : Addr} {H H1 H2 : Hp} (a : Dr w H H1) (b : Dr w H1 H2) : Dr w H H2 := ⟨a.but.trans b.but, b.well⟩
theorem Dr.free {w p : Addr} {H H' : Hp} (d : Dr w H H') (W : WellAt w H) (h : H' p = none) : H p = none := by
  cases q : H p with
  | none => rfl
  | some o =>
    have n : p ≠ w := (d.well.ne h).symm
    rw [d.but _ _ n q] at h
    cases h
/-! ### the promises of the draws -/
def spCellAt (K : PySem.W.Frag) : Sp := fun vs H Q _ => ∃ (a : Addr) (ns : List Int) (k : Int), vs = [.ref a, .int k] ∧ 0 ≤ k ∧ SqL K H a (ns.map V.int) ∧ ∀ z : Int, Q (.int z) H
def spWell : Sp := fun vs H Q _ => ∃ z : Int, vs = [.int z] ∧ ∀ p H', H p = none → Same H H' → WellAt p H' → Q (.ref p) H'
def spDraw : Sp := fun vs H Q _ => ∃ (w : Addr) (n : Int), vs = [.ref w, .int n] ∧ 0 < n ∧ n < 1000000 ∧ WellAt w H ∧ ∀ d H', 0 ≤ d → d < n → Dr w H H' → Q (.int d) H'
def spOne (K : PySem.W.Frag) : Sp := fun vs H Q _ => ∃ (w l : Addr) (xs : List V), vs = [.ref w, .ref l] ∧ l ≠ w ∧ WellAt w H ∧ SqL K H l xs ∧ xs ≠ [] ∧ xs.length < 1000000 ∧ ∀ v H', v ∈ xs → Dr w H H' → Q v H'
section
variable {P : Program} {w : World} {K : PySem.W.Frag} {mg : Str → Option Value} {base : Heap}
/-- a def at its name: it keeps its promise, its name holds it, its arguments bind -/
structure Df (P : Program) (w : World) (K : PySem.W.Frag) (mg : Str → Option Value) (base : Heap) (k : Nat) (name : Str) (ps : List Str) (sp : Sp) (f : Addr) (fd : FuncData) : Prop where
  ok : FnOk P w K mg base CX0 k f fd ps sp
  mg : mg name = some (.ref f)
  kp : PySem.W.keepIn K (.ref f) = true
  bd : Binds K fd ps []
/-! ### _law_cell_at -/
theorem scCellAt : FnScope ["_law_script", "_law_k"] ["_law_script", "_law_k"] (defScope sCellAt) := ⟨rfl, rfl, rfl, by decide +kernel, rfl, by decide +kernel, by decide +kernel⟩
abbrev DCellAt (P : Program) (w : World) (K : PySem.W.Frag) (mg : Str → Option Value) (base : Heap) := Df P w K mg base 1 "_law_cell_at" ["_law_script", "_law_k"] (spCellAt K)
theorem ok_cellAt {f : Addr} {fd : FuncData} (F : Fun K "_law_cell_at" "_law_cell_at" sCellAt f fd) (hm : mg "_law_cell_at" = some (.ref f)) (ml : mg "len" = none) : DCellAt P w K mg base f fd := by
  refine ⟨?_, hm, F.kp, F.binds fun _ _ _ _ _ _ us hl => match us, hl with | [_, _], _ => rfl⟩
  refine F.ok scCellAt (fun vs H Q E h => ?_) (fun cdv A outer s H vs Q E hr h => ?_)
  · obtain ⟨a, ns, k, rfl, _⟩ := h
    rfl
  · obtain ⟨a, ns, k, rfl, hk, hS, q⟩ := h
    refine ⟨_, pss_cons (ps_if (pt_cmpR op_lt (pv 1) (pe_callB call_len_seq (by rfl) ml PySem.boot_len (pa_cons (pv 0) pa_nil)) (nomark _))
        (pss_one (ps_ret (pe_ix ix_list (pv 0) (pv 1) (fun _ _ => rfl)))) pss_nil)
      (pss_one (ps_ret pe_int)), ?_⟩
    refine ⟨_, rfl, .ref a, rfl, a, _, rfl, .inl hS, _, _, rfl, rfl, _, rfl, ite2 (fun e => ?_) (fun e => ?_)⟩
    · have e1 : k < ((ns.map V.int).length : Int) := of_decide_eq_true e
      rw [List.length_map] at e1
      have hj : k.toNat < ns.length := by omega
      refine ⟨_, rfl, _, rfl, a, _, k, .int (ns[k.toNat]), rfl, rfl, hS, at_of (j := k.toNat) (by omega) ?_, q _⟩
      rw [List.getElem?_map, List.getElem?_eq_getElem hj]
      rfl
    · exact q 0
/-! ### _law_well -/
theorem scWell : FnScope ["_law_cell"] ["_law_cell"] (defScope sWell) := ⟨rfl, rfl, rfl, by decide +kernel, rfl, by decide +kernel, by decide +kernel⟩
abbrev DWell (P : Program) (w : World) (K : PySem.W.Frag) (mg : Str → Option Value) (base : Heap) := Df P w K mg base 1 "_law_well" ["_law_cell"] spWell
theorem ok_well {f : Addr} {fd : FuncData} (F : Fun K "_law_well" "_law_well" sWell f fd) (hm : mg "_law_well" = some (.ref f)) (mi : mg "int" = none) : DWell P w K mg base f fd := by
  refine ⟨?_, hm, F.kp, F.binds fun _ _ _ _ _ _ us hl => match us, hl with | [_], _ => rfl⟩
  refine F.ok scWell (fun vs H Q E h => ?_) (fun cdv A outer s H vs Q E hr h => ?_)
  · obtain ⟨z, rfl, _⟩ := h
    rfl
  · obtain ⟨z, rfl, q⟩ := h
    refine ⟨_, pss_one (ps_ret (pe_lst (pa_cons (pe_op op_mul (pv 0) (pe_callTy call_int1 (by rfl) mi (by decide +kernel) (pa_cons (pe_cmpR op_ge (pv 0) (pe_op op_pow pe_int pe_int) (nomark _)) pa_nil)))
      (pa_cons (pe_op op_mod (pv 0) pe_int) (pa_cons pe_int pa_nil))))), ?_⟩
    refine ⟨_, rfl, _, rfl, _, _, rfl, rfl, ⟨by decide, by decide, by decide⟩, _, _, rfl, rfl, .inr ⟨_, rfl, _, _, rfl, rfl, .inr ?_, ?_⟩⟩
    · cases decide (10 ^ (18 : Int).toNat ≤ z) with
      | true => exact ⟨by decide, by decide⟩
      | false => exact ⟨by decide, by decide⟩
    · refine ⟨_, rfl, _, _, rfl, rfl, (by show (0 : Int) < 2147483629; decide), (by show 3 ≤ sizeLine; decide), fun p hp => ?_⟩
      exact q p _ hp (same_new hp) ⟨_, _, _, upd_same⟩
end
end Lag


set_option maxRecDepth 100000
set_option maxHeartbeats 4000000
namespace Lag
open PySem PySem.Spec PyProof.Rows L2
section
variable {P : Program} {w : World} {K : PySem.W.Frag} {mg : Str → Option Value} {base : Heap}
/-! ### _law_draw -/
theorem scDraw : FnScope ["_law_well_here", "_law_many", "_law_found", "_law_number"] ["_law_well_here", "_law_many"] (defScope sDraw) := ⟨rfl, rfl, rfl, by decide +kernel, rfl, by decide +kernel, by decide +kernel⟩
theorem mod_b {x n : Int} (h : 0 < n) (hn : n ≤ 4294967296) : -(2 ^ 64) < x % n ∧ x % n < 2 ^ 64 := by
  have h1 := Int.emod_nonneg x (show n ≠ 0 by omega)
  have h2 := Int.emod_lt_of_pos x h
  constructor
  · have e : (-(2 ^ 64) : Int) = -18446744073709551616 := by decide
    omega
  · have e : (2 ^ 64 : Int) = 18446744073709551616 := by decide
    omega
abbrev DDraw (P : Program) (w : World) (K : PySem.W.Frag) (mg : Str → Option Value) (base : Heap) := Df P w K mg base 1 "_law_draw" ["_law_well_here", "_law_many"] spDraw
theorem ok_draw {f : Addr} {fd : FuncData} (F : Fun K "_law_draw" "_law_draw" sDraw f fd) (hm : mg "_law_draw" = some (.ref f)) : DDraw P w K mg base f fd := by
  refine ⟨?_, hm, F.kp, F.binds fun _ _ _ _ _ _ us hl => match us, hl with | [_, _], _ => rfl⟩
  refine F.ok scDraw (fun vs H Q E h => ?_) (fun cdv A outer s H vs Q E hr h => ?_)
  · obtain ⟨wl, n, rfl, _⟩ := h
    rfl
  · obtain ⟨wl, n, rfl, hn, hn2, ⟨a, b, c, hw⟩, q⟩ := h
    refine ⟨_, pss_cons (ps_if (pt_cmpR op_gt (pe_ix ix_list (pv 0) pe_int (fun _ _ => rfl)) pe_int (nomark _))
        (pss_cons (ps_set (i := 2) scDraw.nd rfl (Or.inl rfl) (pe_op op_mod (pe_ix ix_list (pv 0) pe_int (fun _ _ => rfl)) (pv 1)))
        (pss_cons (ps_asg (pe_op op_fdiv (pe_ix ix_list (pv 0) pe_int (fun _ _ => rfl)) (pv 1)) (pg_sub (pv 0) pe_int set_list))
        (pss_one (ps_ret (pv 2))))) pss_nil)
      (pss_cons (ps_asg (pe_op op_add (pe_ix ix_list (pv 0) pe_int (fun _ _ => rfl)) pe_int) (pg_sub (pv 0) pe_int set_list))
      (pss_cons (ps_set (i := 3) scDraw.nd rfl (Or.inl rfl) (pe_op op_mod (pe_op op_mul (pe_op op_add (pe_op op_add (pe_ix ix_list (pv 0) pe_int (fun _ _ => rfl)) (pe_op op_mul pe_int (pe_ix ix_list (pv 0) pe_int (fun _ _ => rfl)))) pe_int) pe_int) pe_int))
      (pss_cons (ps_set (i := 3) scDraw.nd rfl (Or.inl rfl) (pe_op op_mod (pe_op op_mul (pv 3) (pe_op op_add (pe_op op_add (pe_op op_fdiv (pv 3) pe_int) pe_int) (pe_ix ix_list (pv 0) pe_int (fun _ _ => rfl)))) pe_int))
      (pss_one (ps_ret (pe_op op_mod (pe_op op_fdiv (pe_op op_mod (pe_op op_mul (pv 3) (pe_op op_add (pe_op op_fdiv (pv 3) pe_int) pe_int)) pe_int) pe_int) (pv 1))))))), ?_⟩
    refine ⟨_, rfl, wl, _, 0, .int a, rfl, rfl, SqL.of hw, atI_nat (j := 0) rfl, _, _, rfl, rfl, _, rfl, ite2 (fun e => ?_) (fun e => ?_)⟩
    · refine ⟨_, rfl, wl, _, 0, .int a, rfl, rfl, SqL.of hw, atI_nat (j := 0) rfl, _, rfl, _, _, rfl, rfl, hn, ?_⟩
      refine ⟨_, rfl, wl, _, 0, .int a, rfl, rfl, SqL.of hw, atI_nat (j := 0) rfl, _, rfl, _, _, rfl, rfl, ⟨hn, by omega⟩, ?_⟩
      refine ⟨_, rfl, wl, _, 0, 0, rfl, rfl, hw, rfl, ?_⟩
      refine ⟨_, rfl, ?_⟩
      exact q _ _ (Int.emod_nonneg _ (by omega)) (Int.emod_lt_of_pos _ hn) ⟨But.upd, ⟨_, _, _, upd_same⟩⟩
    · have h1 : (upd H wl (HO.lst [.int a, .int b, .int (c + 1)])) wl = some (.lst [.int a, .int b, .int (c + 1)]) := upd_same
      refine ⟨_, rfl, wl, _, 2, .int c, rfl, rfl, SqL.of hw, atI_nat (j := 2) rfl, _, _, rfl, rfl, ?_⟩
      refine ⟨_, rfl, wl, _, 2, 2, rfl, rfl, hw, rfl, ?_⟩
      refine ⟨_, rfl, wl, _, 1, .int b, rfl, rfl, SqL.of h1, atI_nat (j := 1) rfl, _, rfl, wl, _, 2, .int (c + 1), rfl, rfl, SqL.of h1, atI_nat (j := 2) rfl, _, _, rfl, rfl, .inl ⟨by decide, by decide⟩, _, _, rfl, rfl, _, _, rfl, rfl, _, _, rfl, rfl, .inr ⟨by decide, by decide⟩, _, _, rfl, rfl, (by show (0 : Int) < 2147483629; decide), ?_⟩
      refine ⟨_, rfl, _, rfl, _, _, rfl, rfl, ⟨by decide, by decide⟩, _, _, rfl, rfl, _, rfl, wl, _, 2, .int (c + 1), rfl, rfl, SqL.of h1, atI_nat (j := 2) rfl, _, _, rfl, rfl, _, _, rfl, rfl, .inl (mod_b (by decide) (by decide)), _, _, rfl, rfl, (by show (0 : Int) < 2147483587; decide), ?_⟩
      refine ⟨_, rfl, _, rfl, _, _, rfl, rfl, ⟨by decide, by decide⟩, _, _, rfl, rfl, _, _, rfl, rfl, .inl (mod_b (by decide) (by decide)), _, _, rfl, rfl, (by show (0 : Int) < 2147483563; decide), _, _, rfl, rfl, ⟨by decide, by decide⟩, _, rfl, _, _, rfl, rfl, hn, ?_⟩
      exact q _ _ (Int.emod_nonneg _ (by omega)) (Int.emod_lt_of_pos _ hn) ⟨But.upd, ⟨_, _, _, h1⟩⟩
/-! ### _law_one -/
abbrev DOne (P : Program) (w : World) (K : PySem.W.Frag) (mg : Str → Option Value) (base : Heap) := Df P w K mg base 2 "_law_one" ["_law_well_here", "_law_some"] (spOne K)
end
end Lag


set_option maxRecDepth 100000
set_option maxHeartbeats 4000000
namespace Lag
open PySem PySem.Spec PyProof.Rows L2
/-! ### what is kept of tuples -/
def isT : HO → Prop
  | .tup _ => True
  | .frz _ _ => True
  | _ => False
/-- tuples, and what is locked, stand as they stood -/
def TK (H H' : Hp) : Prop := ∀ a o, isT o → H a = some o → H' a = some o
theorem TK.refl (H : Hp) : TK H H := fun _ _ _ h => h
theorem TK.trans {H H1 H2 : Hp} (a : TK H H1) (b : TK H1 H2) : TK H H2 := fun c o t h => b c o t (a c o t h)
theorem TK.same {H H1 : Hp} (a : Same H H1) : TK H H1 := fun c o _ h => a c o h
theorem TK.new {p : Addr} {H : Hp} {o : HO} (h : H p = none) : TK H (upd H p o) := TK.same (same_new h)
theorem TK.lst {l : Addr} {H : Hp} {xs : List V} {o : HO} (h : H l = some (.lst xs)) : TK H (upd H l o) := fun c u t e => by
  have n : c ≠ l := fun z => by
    rw [z, h] at e
    cases e
    exact t
  rw [upd_ne n]
  exact e
theorem TK.dr {w : Addr} {H H' : Hp} (W : WellAt w H) (d : But w H H') : TK H H' := fun c u t e => by
  obtain ⟨x, y, z, h⟩ := W
  have n : c ≠ w := fun z => by
    rw [z, h] at e
    cases e
    exact t
  exact d _ _ n e
theorem TK.seq {K : PySem.W.Frag} {H H' : Hp} {a : Addr} {xs : List V} (t : TK H H') (h : SqT K H a xs) : SqT K H' a xs := by
  rcases h with (h | ⟨o, h⟩) | h
  · exact .inl (.inl (t _ _ trivial h))
  · exact .inl (.inr ⟨o, t _ _ trivial h⟩)
  · exact .inr h
/-! ### gates and wires as data -/
abbrev Gt := Str × Int
abbrev Wr := Nat × Nat × List Int
def kinds : List Str := ["in", "out", "sum", "times", "most", "least", "first", "one"]
def portK (k : Str) : Prop := k = "in" ∨ k = "out"
/-- a gate -/
def GOk (g : Gt) : Prop := g.1 ∈ kinds ∧ 0 ≤ g.2 ∧ g.2 ≤ 100 ∧ (portK g.1 → g.2 = 0)
def GateV (K : PySem.W.Frag) (H : Hp) (v : V) (g : Gt) : Prop := ∃ a, v = .ref a ∧ SqT K H a [.str g.1, .int g.2]
def WireV (K : PySem.W.Frag) (H : Hp) (v : V) (x : Wr) : Prop := ∃ a b, v = .ref a ∧ SqT K H a [.int x.1, .int x.2.1, .ref b] ∧ SqT K H b (x.2.2.map V.int)
theorem GateV.tk {K : PySem.W.Frag} {H H' : Hp} {v : V} {g : Gt} (t : TK H H') (h : GateV K H v g) : GateV K H' v g := by
  obtain ⟨a, e, s⟩ := h
  exact ⟨a, e, t.seq s⟩
theorem WireV.tk {K : PySem.W.Frag} {H H' : Hp} {v : V} {x : Wr} (t : TK H H') (h : WireV K H v x) : WireV K H' v x := by
  obtain ⟨a, b, e, s, s2⟩ := h
  exact ⟨a, b, e, t.seq s, t.seq s2⟩
/-! ### _law_gate -/
def kinds11 : List Str := ["in", "in", "sum", "times", "most", "least", "first", "one", "sum", "out", "out"]
theorem k11 : ∀ k ∈ kinds11, k ∈ kinds := by decide +kernel
def spGate (K : PySem.W.Frag) : Sp := fun vs H Q _ => ∃ (wl : Addr) (b : Bool), vs = [.ref wl, .bl b] ∧ WellAt wl H ∧ ∀ (g : Gt) p H', GOk g → (b = true → g.1 ≠ "out") → Dr wl H H' → H p = none → H' p = some (.tup [.str g.1, .int g.2]) → Q (.ref p) H'
section
variable {P : Program} {w : World} {K : PySem.W.Frag} {mg : Str → Option Value} {base : Heap}
abbrev DGate (P : Program) (w : World) (K : PySem.W.Frag) (mg : Str → Option Value) (base : Heap) := Df P w K mg base 3 "_law_gate" ["_law_well_here", "_law_first"] (spGate K)
theorem Dr.new {wl p : Addr} {H : Hp} {o : HO} (W : WellAt wl H) (h : H p = none) : Dr wl H (upd H p o) := ⟨But.new h, W.new h⟩
end
end Lag


set_option maxRecDepth 100000
set_option maxHeartbeats 4000000
namespace Lag
open PySem PySem.Spec PyProof.Rows L2
/-- registers' worths -/
def ROk (r : List Int) : Prop := ∀ x ∈ r, 0 ≤ x ∧ x ≤ 96
def spWire (K : PySem.W.Frag) : Sp := fun vs H Q _ => ∃ (wl : Addr) (a b : Nat), vs = [.ref wl, .int a, .int b] ∧ WellAt wl H ∧ ∀ (r : List Int) v H', ROk r → r.length ≤ 2 → (b ≤ a → r ≠ []) → Dr wl H H' → WireV K H' v (a, b, r) → Q v H'
/-- a comprehension without a test keeps each item -/
theorem tyes {σ : L2.St} {H : Hp} {A B : Hp → Prop} (h : A H) : tYes σ H (fun b H3 => if b = true then A H3 else B H3) := by
  show if true = true then A H else B H
  rw [if_pos rfl]
  exact h
theorem menu3 {d1 d2 : Int} {v : V} (hv : v ∈ [V.int d1, V.int d2, V.int 96]) (a1 : 0 ≤ d1) (b1 : d1 < 97) (a2 : 0 ≤ d2) (b2 : d2 < 97) : ∃ x, v = V.int x ∧ 0 ≤ x ∧ x ≤ 96 := by
  simp only [List.mem_cons, List.not_mem_nil, or_false] at hv
  rcases hv with rfl | rfl | rfl
  · exact ⟨d1, rfl, a1, by omega⟩
  · exact ⟨d2, rfl, a2, by omega⟩
  · exact ⟨96, rfl, by decide, by decide⟩
section
variable {P : Program} {w : World} {K : PySem.W.Frag} {mg : Str → Option Value} {base : Heap}
abbrev DWire (P : Program) (w : World) (K : PySem.W.Frag) (mg : Str → Option Value) (base : Heap) := Df P w K mg base 3 "_law_wire" ["_law_well_here", "_law_start", "_law_end"] (spWire K)
end
end Lag


set_option maxRecDepth 100000
set_option maxHeartbeats 4000000
namespace Lag
open PySem PySem.Spec PyProof.Rows L2
/-! ### two lists, place by place -/
def All2 {α β : Type} (R : α → β → Prop) (xs : List α) (ys : List β) : Prop := xs.length = ys.length ∧ ∀ (i : Nat) (x : α) (y : β), xs[i]? = some x → ys[i]? = some y → R x y
section
variable {α β : Type} {R S : α → β → Prop} {xs : List α} {ys : List β} {x : α} {y : β}
theorem All2.nil : All2 R [] [] := ⟨rfl, fun i x y h => by simp at h⟩
theorem All2.imp (h : All2 R xs ys) (f : ∀ x y, R x y → S x y) : All2 S xs ys := ⟨h.1, fun i x y a b => f x y (h.2 i x y a b)⟩
theorem All2.snoc (h : All2 R xs ys) (r : R x y) : All2 R (xs ++ [x]) (ys ++ [y]) := by
  refine ⟨by simp [h.1], fun i a b ha hb => ?_⟩
  by_cases hi : i < xs.length
  · rw [List.getElem?_append_left hi] at ha
    rw [List.getElem?_append_left (by rw [← h.1]; exact hi)] at hb
    exact h.2 i a b ha hb
  · rw [List.getElem?_append_right (by omega)] at ha
    rw [List.getElem?_append_right (by rw [← h.1]; omega), ← h.1] at hb
    cases e : i - xs.length with
    | zero =>
      rw [e] at ha hb
      simp at ha hb
      subst ha hb
      exact r
    | succ n =>
      rw [e] at ha
      simp at ha
theorem All2.cons (r : R x y) (h : All2 R xs ys) : All2 R (x :: xs) (y :: ys) := by
  refine ⟨by simp [h.1], fun i a b ha hb => ?_⟩
  cases i with
  | zero =>
    simp at ha hb
    subst ha hb
    exact r
  | succ n => exact h.2 n a b (by simpa using ha) (by simpa using hb)
theorem All2.head {x : α} {y : β} (h : All2 R (x :: xs) (y :: ys)) : R x y := h.2 0 x y rfl rfl
theorem All2.tail {x : α} {y : β} (h : All2 R (x :: xs) (y :: ys)) : All2 R xs ys := ⟨by have := h.1; simp at this; exact this, fun i a b ha hb => h.2 (i + 1) a b (by simpa using ha) (by simpa using hb)⟩
theorem All2.get (h : All2 R xs ys) {i : Nat} {x : α} (e : xs[i]? = some x) : ∃ y, ys[i]? = some y ∧ R x y := by
  have hi := (List.getElem?_eq_some_iff.mp e).1
  have hj : i < ys.length := by rw [← h.1]; exact hi
  exact ⟨ys[i], List.getElem?_eq_getElem hj, h.2 i x _ e (List.getElem?_eq_getElem hj)⟩
theorem All2.getR (h : All2 R xs ys) {i : Nat} {y : β} (e : ys[i]? = some y) : ∃ x, xs[i]? = some x ∧ R x y := by
  have hi := (List.getElem?_eq_some_iff.mp e).1
  have hj : i < xs.length := by rw [h.1]; exact hi
  exact ⟨xs[i], List.getElem?_eq_getElem hj, h.2 i _ y (List.getElem?_eq_getElem hj) e⟩
theorem All2.perm {xs' : List α} (p : xs'.Perm xs) : ∀ {ys : List β}, All2 R xs ys → ∃ ys', ys'.Perm ys ∧ All2 R xs' ys' := by
  induction p with
  | nil => intro ys h; exact ⟨ys, .refl _, h⟩
  | @cons a l1 l2 p ih =>
    intro ys h
    cases ys with
    | nil => have := h.1; simp at this
    | cons y ys =>
      obtain ⟨ys', p', h'⟩ := ih h.tail
      exact ⟨y :: ys', p'.cons y, h'.cons h.head⟩
  | swap a b l =>
    intro ys h
    match ys, h with
    | [], h => have := h.1; simp at this
    | [_], h => have := h.1; simp at this
    | y :: z :: ys, h => exact ⟨z :: y :: ys, .swap _ _ _, All2.cons h.tail.head (All2.cons h.head h.tail.tail)⟩
  | trans p1 p2 ih1 ih2 =>
    intro ys h
    obtain ⟨ys1, q1, h1⟩ := ih2 h
    obtain ⟨ys2, q2, h2⟩ := ih1 h1
    exact ⟨ys2, q2.trans q1, h2⟩
end
/-! ### nets as data -/
def kindAt (gs : List Gt) (i : Nat) : Str := (gs.getD i ("", 0)).1
def cnt (ws : List Wr) (e : Nat) : Nat := ws.countP (fun x => x.2.1 == e)
/-- a wire between these gates -/
structure WOk (gs : List Gt) (x : Wr) : Prop where
  s : x.1 < gs.length
  e : x.2.1 < gs.length
  ks : kindAt gs x.1 ≠ "out"
  ke : kindAt gs x.2.1 ≠ "in"
  r : ROk x.2.2
  rl : x.2.2.length ≤ 100
structure NetOk (gs : List Gt) (ws : List Wr) : Prop where
  ne : gs ≠ []
  gl : gs.length ≤ 100
  wl : ws.length ≤ 1000
  gok : ∀ g ∈ gs, GOk g
  wok : ∀ x ∈ ws, WOk gs x
  one : ∀ e, e < gs.length → kindAt gs e = "out" → cnt ws e = 1
  some : ∀ e, e < gs.length → kindAt gs e = "first" → 1 ≤ cnt ws e
  rank : ∃ ρ : Nat → Nat, ∀ x ∈ ws, x.2.2 = [] → ρ x.1 < ρ x.2.1
/-- numbered anew: the gate k is the old gate at left's place k -/
theorem NetOk.anew {gs : List Gt} {ws : List Wr} {left : List Nat} (N : NetOk gs ws) (p : left.Perm (List.range gs.length)) {ws' : List Wr} (pw : ws'.Perm ws) :
    NetOk (left.map fun k => gs.getD k ("", 0)) (ws'.map fun x => (left.idxOf x.1, left.idxOf x.2.1, x.2.2)) := by
  have hl : left.length = gs.length := by rw [p.length_eq, List.length_range]
  have nd : left.Nodup := p.nodup_iff.mpr List.nodup_range
  have mem : ∀ i, i < gs.length → i ∈ left := fun i hi => p.mem_iff.mpr (List.mem_range.mpr hi)
  have memb : ∀ i, i ∈ left → i < gs.length := fun i hi => List.mem_range.mp (p.mem_iff.mp hi)
  have il : ∀ i, i < gs.length → left.idxOf i < left.length := fun i hi => List.idxOf_lt_length_iff.mpr (mem i hi)
  have ge : ∀ i (h : i < gs.length), left[left.idxOf i]? = Option.some i := fun i h => by
    rw [List.getElem?_eq_getElem (il i h), List.getElem_idxOf]
  have kk : ∀ i, i < gs.length → kindAt (left.map fun k => gs.getD k ("", 0)) (left.idxOf i) = kindAt gs i := fun i h => by
    unfold kindAt
    rw [List.getD_eq_getElem?_getD, List.getElem?_map, ge i h]
    rfl
  have inj : ∀ i j, i < gs.length → j < gs.length → left.idxOf i = left.idxOf j → i = j := fun i j hi hj e => by
    have h1 := ge i hi
    rw [e, ge j hj] at h1
    exact (Option.some.inj h1).symm
  have cc : ∀ e, e < gs.length → cnt (ws'.map fun x => (left.idxOf x.1, left.idxOf x.2.1, x.2.2)) (left.idxOf e) = cnt ws e := fun e he => by
    unfold cnt
    rw [List.countP_map, ← pw.countP_eq]
    refine List.countP_congr fun x hx => ?_
    have := (N.wok x (pw.mem_iff.mp hx)).e
    simp only [Function.comp, beq_iff_eq]
    exact ⟨fun z => inj _ _ this he z, fun z => by rw [z]⟩
  have back : ∀ e, e < left.length → ∃ i, i < gs.length ∧ left.idxOf i = e := fun e he => by
    refine ⟨left[e], memb _ (List.getElem_mem he), ?_⟩
    exact List.Nodup.idxOf_getElem nd e he
  obtain ⟨ρ, hρ⟩ := N.rank
  refine ⟨?_, by simpa [hl] using N.gl, by simpa [pw.length_eq] using N.wl, ?_, ?_, ?_, ?_, ?_⟩
  · intro z
    have := congrArg List.length z
    simp [hl] at this
    exact N.ne this
  · intro g hg
    obtain ⟨k, hk, rfl⟩ := List.mem_map.mp hg
    refine N.gok _ ?_
    rw [List.getD_eq_getElem?_getD, List.getElem?_eq_getElem (memb k hk)]
    exact List.getElem_mem _
  · intro y hy
    obtain ⟨x, hx, rfl⟩ := List.mem_map.mp hy
    have W := N.wok x (pw.mem_iff.mp hx)
    refine ⟨by simpa using il _ W.s, by simpa using il _ W.e, ?_, ?_, W.r, W.rl⟩
    · show kindAt _ (left.idxOf x.1) ≠ _
      rw [kk _ W.s]
      exact W.ks
    · show kindAt _ (left.idxOf x.2.1) ≠ _
      rw [kk _ W.e]
      exact W.ke
  · intro e he hk
    obtain ⟨i, hi, rfl⟩ := back e (by simpa using he)
    rw [kk i hi] at hk
    rw [cc i hi]
    exact N.one i hi hk
  · intro e he hk
    obtain ⟨i, hi, rfl⟩ := back e (by simpa using he)
    rw [kk i hi] at hk
    rw [cc i hi]
    exact N.some i hi hk
  · refine ⟨fun k => ρ (left.getD k 0), fun y hy h => ?_⟩
    obtain ⟨x, hx, rfl⟩ := List.mem_map.mp hy
    have W := N.wok x (pw.mem_iff.mp hx)
    have := hρ x (pw.mem_iff.mp hx) h
    simp only [List.getD_eq_getElem?_getD, ge _ W.s, ge _ W.e, Option.getD_some]
    exact this
end Lag


set_option maxRecDepth 100000
set_option maxHeartbeats 4000000
namespace Lag
open PySem PySem.Spec PyProof.Rows L2
/-! ### [left.pop(draw(well, len(left))) for k in range(len(left))] -/
theorem set_well {wl D : Addr} {H0 H : Hp} {o : HO} (d : Dr wl H0 H) (h0 : H0 D = none) (n : D ≠ wl) : Dr wl H0 (upd H D o) := by
  refine ⟨fun c u nc e => ?_, ?_⟩
  · rw [upd_ne (ne_of_none e h0)]
    exact d.but c u nc e
  · obtain ⟨x1, x2, x3, hx⟩ := d.well
    exact ⟨x1, x2, x3, by rw [upd_ne n.symm]; exact hx⟩
theorem perm_erase {α : Type} : ∀ (l : List α) (k : Nat) (h : k < l.length), (l[k] :: l.eraseIdx k).Perm l
  | [], k, h => by simp at h
  | a :: l, 0, _ => .refl _
  | a :: l, k + 1, h => by
    have h' : k < l.length := by simpa using h
    show (l[k] :: a :: l.eraseIdx k).Perm (a :: l)
    exact (List.Perm.swap _ _ _).trans ((perm_erase l k h').cons a)
theorem perm_pop {α : Type} {acc rem xs : List α} {k : Nat} {y : α} (h : (acc ++ rem).Perm xs) (e : rem[k]? = some y) : ((acc ++ [y]) ++ rem.eraseIdx k).Perm xs := by
  obtain ⟨hk, rfl⟩ := List.getElem?_eq_some_iff.mp e
  refine List.Perm.trans ?_ h
  rw [List.append_assoc]
  refine List.Perm.append_left acc ?_
  exact perm_erase rem k hk
def tLen (K : PySem.W.Frag) (i : Nat) : TE := tCB (Evl.rLenS K) (tCons (tVar i) tNil)
def popT (K : PySem.W.Frag) : TE := tLc (iRng1 (tCons (tLen K 10) tNil)) (gName 3) tYes (tBM K "list" rPopAt (tVar 10) (tCons (tCall spDraw [] E0 (tCons (tVar 0) (tCons (tLen K 10) tNil))) tNil)) [3]
theorem popAll {K : PySem.W.Frag} {σ : L2.St} {H : Hp} {Q : VK} {wl L : Addr} {vs : List V} (h0 : σ[0]? = some (some (.ref wl))) (h10 : σ[10]? = some (some (.ref L))) (hL : H L = some (.lst vs)) (hw : WellAt wl H) (hn : L ≠ wl) (hz : vs.length ≤ 1000)
    (q : ∀ D vs' H', vs'.Perm vs → H D = none → H' D = some (.lst vs') → (∀ b o, b ≠ wl → b ≠ L → H b = some o → H' b = some o) → WellAt wl H' → Q (.ref D) H') : popT K σ H Q := by
  have s0 : ∀ x, (((wipe σ [3]).set 3 x))[0]? = some (some (.ref wl)) := fun x => by
    show (((σ.set 3 none).set 3 x))[0]? = _
    rw [List.getElem?_set_ne (by decide), List.getElem?_set_ne (by decide)]
    exact h0
  have s10 : ∀ x, (((wipe σ [3]).set 3 x))[10]? = some (some (.ref L)) := fun x => by
    show (((σ.set 3 none).set 3 x))[10]? = _
    rw [List.getElem?_set_ne (by decide), List.getElem?_set_ne (by decide)]
    exact h10
  refine ⟨_, h10, L, vs, rfl, .inl (SqL.of hL), _, rfl, by omega, by omega, fun D hD => ?_⟩
  have nDL : L ≠ D := ne_of_none hL hD
  have nDw : D ≠ wl := (hw.ne hD).symm
  refine lc_range (lo := 0) (n := ((vs.length : Int)).toNat) (fun i H3 => ∃ acc rem : List V, acc.length = i ∧ (acc ++ rem).Perm vs ∧ H3 D = some (.lst acc) ∧ H3 L = some (.lst rem) ∧ (∀ b o, b ≠ wl → b ≠ L → H b = some o → H3 b = some o) ∧ WellAt wl H3)
    ⟨[], vs, rfl, by simp, upd_same, by rw [upd_ne nDL]; exact hL, fun b o _ _ e => by rw [upd_ne (ne_of_none e hD)]; exact e, hw.new hD⟩ ?_ ?_
  · rintro i H3 hi ⟨acc, rem, hal, hp, hDa, hLr, hk, hw3⟩
    have hlen : acc.length + rem.length = vs.length := by
      have := hp.length_eq
      simpa using this
    have hrem : 0 < rem.length := by omega
    refine ⟨?_, tyes ?_⟩
    · show ((σ.set 3 none).set 3 _).set 3 none = σ.set 3 none
      simp
    refine ⟨_, s10 _, .inl ⟨rfl, _, SqL.of hLr⟩, _, s0 _, _, s10 _, L, rem, rfl, .inl (SqL.of hLr), wl, _, rfl, by omega, by omega, hw3, fun d H4 d0 d1 E1 => ?_⟩
    have hj : d.toNat < rem.length := by omega
    have hLr4 := E1.but _ _ hn hLr
    have hDa4 := E1.but _ _ nDw hDa
    have hg : rem[d.toNat]? = some rem[d.toNat] := List.getElem?_eq_getElem hj
    refine ⟨L, rem, d, d.toNat, rem[d.toNat], rfl, rfl, hLr4, by omega, by omega, PySem.seqIndex_of d0 d1, hg, ?_⟩
    refine ⟨acc, by rw [upd_ne nDL.symm]; exact hDa4, small1000 (by omega), acc ++ [rem[d.toNat]], rem.eraseIdx d.toNat, by simp [hal], perm_pop hp hg, upd_same, ?_, ?_, ?_⟩
    · rw [upd_ne nDL, upd_same]
    · intro b o nb nL e
      rw [upd_ne (ne_of_none e hD), upd_ne nL]
      exact E1.but _ _ nb (hk b o nb nL e)
    · obtain ⟨x1, x2, x3, hx⟩ := E1.well
      exact ⟨x1, x2, x3, by rw [upd_ne nDw.symm, upd_ne hn.symm]; exact hx⟩
  · rintro H3 ⟨acc, rem, hal, hp, hDa, hLr, hk, hw3⟩
    have hlen : acc.length + rem.length = vs.length := by
      have := hp.length_eq
      simpa using this
    have hr : rem = [] := by
      cases rem with
      | nil => rfl
      | cons _ _ => simp at hlen; omega
    subst hr
    rw [List.append_nil] at hp
    exact q D acc H3 hp hD hDa hk hw3
end Lag


set_option maxRecDepth 100000
set_option maxHeartbeats 4000000
namespace Lag
open PySem PySem.Spec PyProof.Rows L2
/-! ### what stands while the parts are made -/
structure PS1 (K : PySem.W.Frag) (wl : Addr) (H0 H : Hp) (g : Addr) (gs : List Gt) : Prop where
  w0 : WellAt wl H0
  dr : Dr wl H0 H
  gn : H0 g = none
  gl : ∃ vs, H g = some (.lst vs) ∧ All2 (GateV K H) vs gs
  gok : ∀ x ∈ gs, GOk x
  g0 : ∀ x : Gt, gs[0]? = some x → x.1 ≠ ("out" : Str)
theorem PS1.step {K : PySem.W.Frag} {wl g : Addr} {H0 H H' : Hp} {gs : List Gt} (p : PS1 K wl H0 H g gs) (d : Dr wl H H') : PS1 K wl H0 H' g gs := by
  obtain ⟨vs, h, a⟩ := p.gl
  exact ⟨p.w0, p.dr.trans d, p.gn, ⟨vs, d.but _ _ (p.w0.ne p.gn).symm h, a.imp fun _ _ r => r.tk (TK.dr p.dr.well d.but)⟩, p.gok, p.g0⟩
structure PS2 (K : PySem.W.Frag) (wl : Addr) (H0 H : Hp) (g st wi : Addr) (gs : List Gt) (sts : List Nat) (ws : List Wr) : Prop extends PS1 K wl H0 H g gs where
  sn : H0 st = none
  sl : H st = some (.lst (sts.map fun i => V.int (i : Nat)))
  wn : H0 wi = none
  wv : ∃ vs, H wi = some (.lst vs) ∧ All2 (WireV K H) vs ws
  nsw : st ≠ wi
  ngw : g ≠ wi
theorem PS2.step {K : PySem.W.Frag} {wl g st wi : Addr} {H0 H H' : Hp} {gs : List Gt} {sts : List Nat} {ws : List Wr} (p : PS2 K wl H0 H g st wi gs sts ws) (d : Dr wl H H') : PS2 K wl H0 H' g st wi gs sts ws := by
  obtain ⟨vs, h, a⟩ := p.wv
  exact ⟨p.toPS1.step d, p.sn, d.but _ _ (p.w0.ne p.sn).symm p.sl, p.wn, ⟨vs, d.but _ _ (p.w0.ne p.wn).symm h, a.imp fun _ _ r => r.tk (TK.dr p.dr.well d.but)⟩, p.nsw, p.ngw⟩
theorem PS2.app {K : PySem.W.Frag} {wl g st wi : Addr} {H0 H : Hp} {gs : List Gt} {sts : List Nat} {ws : List Wr} {vs : List V} {v : V} {x : Wr} (p : PS2 K wl H0 H g st wi gs sts ws) (hv : H wi = some (.lst vs)) (hx : WireV K H v x) :
    PS2 K wl H0 (upd H wi (.lst (vs ++ [v]))) g st wi gs sts (ws ++ [x]) := by
  obtain ⟨vs', h, a⟩ := p.wv
  obtain ⟨gv, hg, ag⟩ := p.gl
  rw [hv] at h
  cases h
  have t : TK H (upd H wi (.lst (vs ++ [v]))) := TK.lst hv
  exact ⟨⟨p.w0, set_well p.dr p.wn (p.w0.ne p.wn).symm, p.gn, ⟨gv, by rw [upd_ne p.ngw]; exact hg, ag.imp fun _ _ r => r.tk t⟩, p.gok, p.g0⟩, p.sn, by rw [upd_ne p.nsw]; exact p.sl, p.wn, ⟨_, upd_same, (a.imp fun _ _ r => r.tk t).snoc (hx.tk t)⟩, p.nsw, p.ngw⟩
/-- the wires into the gates ahead of i -/
structure WInv (gs : List Gt) (ws : List Wr) (i : Nat) : Prop where
  ok : ∀ x ∈ ws, WOk gs x ∧ (x.2.2 = [] → x.1 < x.2.1) ∧ x.2.1 < i
  one : ∀ e, e < i → kindAt gs e = "out" → cnt ws e = 1
  some : ∀ e, e < i → kindAt gs e = "first" → 1 ≤ cnt ws e
  len : ws.length ≤ 3 * i
  r2 : ∀ x ∈ ws, x.2.2.length ≤ 2
/-- .. and j wires into the gate i -/
structure WInv2 (gs : List Gt) (ws : List Wr) (i j : Nat) : Prop where
  ok : ∀ x ∈ ws, WOk gs x ∧ (x.2.2 = [] → x.1 < x.2.1) ∧ x.2.1 < i + 1
  one : ∀ e, e < i → kindAt gs e = "out" → cnt ws e = 1
  some : ∀ e, e < i → kindAt gs e = "first" → 1 ≤ cnt ws e
  here : cnt ws i = j
  len : ws.length ≤ 3 * i + j
  r2 : ∀ x ∈ ws, x.2.2.length ≤ 2
theorem WInv.go {gs : List Gt} {ws : List Wr} {i : Nat} (h : WInv gs ws i) : WInv2 gs ws i 0 := by
  refine ⟨fun x hx => ⟨(h.ok x hx).1, (h.ok x hx).2.1, by have := (h.ok x hx).2.2; omega⟩, h.one, h.some, ?_, h.len, h.r2⟩
  unfold cnt
  rw [List.countP_eq_zero]
  intro x hx z
  have := (h.ok x hx).2.2
  simp at z
  omega
theorem WInv2.app {gs : List Gt} {ws : List Wr} {i j : Nat} {x : Wr} (h : WInv2 gs ws i j) (hx : WOk gs x) (hr : x.2.2 = [] → x.1 < x.2.1) (he : x.2.1 = i) (h2 : x.2.2.length ≤ 2) : WInv2 gs (ws ++ [x]) i (j + 1) := by
  have c : ∀ e, e < i → cnt (ws ++ [x]) e = cnt ws e := fun e he' => by
    unfold cnt
    rw [List.countP_append]
    have : (x.2.1 == e) = false := by simp; omega
    simp [List.countP_cons, this]
  refine ⟨fun y hy => ?_, fun e h1 h2 => by rw [c e h1]; exact h.one e h1 h2, fun e h1 h2 => by rw [c e h1]; exact h.some e h1 h2, ?_, by have := h.len; simp; omega, fun y hy => ?_⟩
  · rcases List.mem_append.mp hy with hy | hy
    · exact h.ok y hy
    · simp at hy
      subst hy
      exact ⟨hx, hr, by omega⟩
  · have := h.here
    unfold cnt at this ⊢
    rw [List.countP_append, this]
    simp [List.countP_cons, he]
  · rcases List.mem_append.mp hy with hy | hy
    · exact h.r2 y hy
    · simp at hy
      subst hy
      exact h2
theorem WInv2.done {gs : List Gt} {ws : List Wr} {i j : Nat} (h : WInv2 gs ws i j) (h1 : kindAt gs i = "out" → j = 1) (h2 : kindAt gs i = "first" → 1 ≤ j) (hj : j ≤ 3) : WInv gs ws (i + 1) := by
  refine ⟨fun x hx => h.ok x hx, fun e he hk => ?_, fun e he hk => ?_, by have := h.len; omega, h.r2⟩
  · by_cases hi : e = i
    · subst hi
      rw [h.here]
      exact h1 hk
    · exact h.one e (by omega) hk
  · by_cases hi : e = i
    · subst hi
      rw [h.here]
      exact h2 hk
    · exact h.some e (by omega) hk
theorem WInv.net {gs : List Gt} {ws : List Wr} (h : WInv gs ws gs.length) (ne : gs ≠ []) (gl : gs.length ≤ 100) (gok : ∀ g ∈ gs, GOk g) : NetOk gs ws :=
  ⟨ne, gl, by have := h.len; omega, gok, fun x hx => (h.ok x hx).1, h.one, h.some, id, fun x hx hr => (h.ok x hx).2.1 hr⟩
theorem many_ok (k : Str) (d2 d4 : Int) (a2 : 0 ≤ d2) (b2 : d2 < 2) (a4 : 0 ≤ d4) (b4 : d4 < 4) :
    ∃ m : Int, (valV (mergeK [] [((Sum.inr "in" : Key), V.int 0), (Sum.inr "out", V.int 1), (Sum.inr "first", V.int (1 + d2))]) (Sum.inr k)).getD (V.int d4) = V.int m ∧ 0 ≤ m ∧ m ≤ 3 ∧ (k = "in" → m = 0) ∧ (k = "out" → m = 1) ∧ (k = "first" → 1 ≤ m) := by
  have n1 : ¬ (("in" : Str) = "out") := by decide +kernel
  have n2 : ¬ (("in" : Str) = "first") := by decide +kernel
  have n3 : ¬ (("out" : Str) = "first") := by decide +kernel
  have e : mergeK [] [((Sum.inr "in" : Key), V.int 0), (Sum.inr "out", V.int 1), (Sum.inr "first", V.int (1 + d2))] = [((Sum.inr "in" : Key), V.int 0), (Sum.inr "out", V.int 1), (Sum.inr "first", V.int (1 + d2))] := by
    simp [mergeK, putK, n1, n2, n3]
  rw [e]
  by_cases h1 : k = "in"
  · subst h1
    rw [valV_pos rfl]
    exact ⟨0, rfl, by decide, by decide, fun _ => rfl, fun z => absurd z n1, fun z => absurd z n2⟩
  · rw [valV_neg (by intro z; exact h1 (Sum.inr.inj z).symm)]
    by_cases h2 : k = "out"
    · subst h2
      rw [valV_pos rfl]
      exact ⟨1, rfl, by decide, by decide, fun z => absurd z h1, fun _ => rfl, fun z => absurd z n3⟩
    · rw [valV_neg (by intro z; exact h2 (Sum.inr.inj z).symm)]
      by_cases h3 : k = "first"
      · subst h3
        rw [valV_pos rfl]
        exact ⟨1 + d2, rfl, by omega, by omega, fun z => absurd z h1, fun z => absurd z h2, fun _ => by omega⟩
      · rw [valV_neg (by intro z; exact h3 (Sum.inr.inj z).symm), valV_nil]
        exact ⟨d4, rfl, by omega, by omega, fun z => absurd z h1, fun z => absurd z h2, fun z => absurd z h3⟩
end Lag


set_option maxRecDepth 100000
set_option maxHeartbeats 8000000
namespace Lag
open PySem PySem.Spec PyProof.Rows L2
/-- lists of gates, of wires, that stand tracked -/
def LG (K : PySem.W.Frag) (H : Hp) (l : Addr) (gs : List Gt) : Prop := ∃ vs, H l = some (.lst vs) ∧ All2 (GateV K H) vs gs
def LW (K : PySem.W.Frag) (H : Hp) (l : Addr) (ws : List Wr) : Prop := ∃ vs, H l = some (.lst vs) ∧ All2 (WireV K H) vs ws
theorem kindAt_get {gs : List Gt} {i : Nat} {g : Gt} (h : gs[i]? = some g) : kindAt gs i = g.1 := by
  unfold kindAt
  rw [List.getD_eq_getElem?_getD, h]
  rfl
/-- all but the well and one list is kept -/
theorem TK.two {wl L : Addr} {H H' : Hp} {vs : List V} (W : WellAt wl H) (hL : H L = some (.lst vs)) (k : ∀ b o, b ≠ wl → b ≠ L → H b = some o → H' b = some o) : TK H H' := fun c u t e => by
  obtain ⟨x, y, z, h⟩ := W
  refine k c u (fun z => ?_) (fun z => ?_) e
  · rw [z, h] at e
    cases e
    exact t
  · rw [z, hL] at e
    cases e
    exact t
theorem PS1.two {K : PySem.W.Frag} {wl g L : Addr} {H0 H H' : Hp} {gs : List Gt} {vs : List V} (p : PS1 K wl H0 H g gs) (hL : H L = some (.lst vs)) (h0 : H0 L = none) (ng : g ≠ L) (k : ∀ b o, b ≠ wl → b ≠ L → H b = some o → H' b = some o) (W : WellAt wl H') : PS1 K wl H0 H' g gs := by
  obtain ⟨gv, h, a⟩ := p.gl
  exact ⟨p.w0, ⟨fun b o n e => k b o n (ne_of_none e h0) (p.dr.but b o n e), W⟩, p.gn, ⟨gv, k _ _ (p.w0.ne p.gn).symm ng h, a.imp fun _ _ r => r.tk (TK.two p.dr.well hL k)⟩, p.gok, p.g0⟩
theorem all2_eq {α β : Type} {f : β → α} : ∀ {xs : List α} {ys : List β}, All2 (fun x y => x = f y) xs ys → xs = ys.map f
  | [], [], _ => rfl
  | [], _ :: _, h => by have := h.1; simp at this
  | _ :: _, [], h => by have := h.1; simp at this
  | x :: xs, y :: ys, h => by rw [List.map_cons, ← all2_eq h.tail, ← h.head]
theorem eq_all2 {α β : Type} {f : β → α} (ys : List β) : All2 (fun x y => x = f y) (ys.map f) ys := ⟨by simp, fun i x y h1 h2 => by
  rw [List.getElem?_map, h2] at h1
  exact (Option.some.inj h1).symm⟩
theorem rgV_nat (n : Nat) : rgV 0 (n : Int) = (List.range n).map fun i => V.int (i : Nat) := by
  unfold rgV
  have : ((n : Int) - 0).toNat = n := by omega
  rw [this]
  refine List.map_congr_left fun i _ => ?_
  rw [Int.zero_add]
theorem flat_ints (l : List Nat) : (l.map fun i => V.int (i : Nat)).all flatV = true := by
  rw [List.all_eq_true]
  intro x hx
  obtain ⟨i, _, rfl⟩ := List.mem_map.mp hx
  rfl
/-- where a number stands among numbers without two alike -/
theorem idx_at {left : List Nat} {a : Nat} (h : a ∈ left) : (left.map fun i => V.int (i : Nat))[left.idxOf a]? = some (V.int (a : Nat)) := by
  rw [List.getElem?_map, List.getElem?_eq_getElem (List.idxOf_lt_length_iff.mpr h), List.getElem_idxOf]
  rfl
theorem eqV_int (a b : Int) : eqV (V.int a) (V.int b) = decide (a = b) := rfl
theorem idx_no {left : List Nat} {a m : Nat} {z : V} (nd : left.Nodup) (hm : m < left.idxOf a) (h : (left.map fun i => V.int (i : Nat))[m]? = some z) : eqV z (V.int (a : Nat)) = false := by
  rw [List.getElem?_map] at h
  cases e : left[m]? with
  | none =>
    rw [e] at h
    cases h
  | some b =>
    rw [e] at h
    cases h
    rw [eqV_int]
    refine decide_eq_false fun z => ?_
    have z : b = a := by omega
    obtain ⟨hm', eb⟩ := List.getElem?_eq_some_iff.mp e
    have := List.Nodup.idxOf_getElem nd m hm'
    rw [eb, z] at this
    omega
section
variable {P : Program} {w : World} {K : PySem.W.Frag} {mg : Str → Option Value} {base : Heap}
end
end Lag


set_option maxRecDepth 100000
set_option maxHeartbeats 4000000
namespace Lag
open PySem PySem.Spec PyProof.Rows L2
abbrev sWhole : Stmt := topS 5
/-! ### o[i] of a list, by values -/
def rGetL (K : PySem.W.Frag) : V → V → Hp → VK → Prop := fun o i H Q => ∃ (p : Addr) (xs : List V) (j : Nat) (v : V), o = .ref p ∧ i = .int (j : Nat) ∧ SqL K H p xs ∧ xs[j]? = some v ∧ Q v H
theorem get_list {X : Cx} : PGet X (rGetL X.K) := by
  intro pins s σ H o i ov iv Q I ro ri h
  obtain ⟨p, xs, j, v, rfl, rfl, hq, he, q⟩ := h
  cases ro
  obtain ⟨t, rfl⟩ := ri
  obtain ⟨its, r, pl, hz⟩ := I.list hq
  obtain ⟨w, ew, rw'⟩ := r.get he
  have hl := r.length
  have hn := line63
  have hj : j < its.length := (List.getElem?_eq_some_iff.mp ew).1
  exact wpAny_getItem_list pl.isList (by omega) (by omega) (by simpa using ew) ⟨v, H, I, rw', q⟩
/-! ### names of built-ins, constants of the text -/
structure Bt (mg : Str → Option Value) : Prop where
  isi : mg "isinstance" = none
  int : mg "int" = none
  bool : mg "bool" = none
  len : mg "len" = none
  tuple : mg "tuple" = none
  str : mg "str" = none
  list : mg "list" = none
  all : mg "all" = none
  enum : mg "enumerate" = none
  zip : mg "zip" = none
  range : mg "range" = none
  max : mg "max" = none
structure Cns (K : PySem.W.Frag) (mg : Str → Option Value) (aK aW aF : Addr) : Prop where
  gw : ∃ t, mg "GREATEST_WORTH" = some (.int 96 t)
  ga : ∃ t, mg "GREATEST_WAIT" = some (.int 100 t)
  mK : mg "KINDS" = some (.ref aK)
  sK : ∀ H, SqT K H aK (kinds.map V.str)
  mW : mg "OUTER_KINDS" = some (.ref aW)
  sW : ∀ H, SqT K H aW [.str "in", .str "out"]
  mF : mg "KINDS_WITH_A_WIRE" = some (.ref aF)
  sF : ∀ H, SqT K H aF [.str "out", .str "first"]
theorem ty_tup {K : PySem.W.Frag} {H : Hp} {a : Addr} {xs : List V} (h : SqT K H a xs) : TyX K H (.ref a) (.type "tuple") := by
  rcases h with (h | ⟨o, h⟩) | ⟨o, its, n, hk, hc, _⟩
  · exact .base (.tup h)
  · exact .fTuple h
  · exact .kTuple hk hc
theorem ty_lst {K : PySem.W.Frag} {H : Hp} {a : Addr} {xs : List V} (h : SqL K H a xs) : TyX K H (.ref a) (.type "list") := by
  rcases h with (h | ⟨o, h⟩) | ⟨o, its, n, hk, hc, _⟩
  · exact .base (.lst h)
  · exact .base (.frz h)
  · exact .kList hk hc
/-! ### promises -/
def spWhole : Sp := fun vs H Q _ => ∃ n : Int, vs = [.int n] ∧ Q (.bl true) H
def spFromTo : Sp := fun vs H Q _ => ∃ n a b : Int, vs = [.int n, .int a, .int b] ∧ Q (.bl (decide (a ≤ n) && decide (n ≤ b))) H
def spWorth : Sp := fun vs H Q _ => ∃ n : Int, vs = [.int n] ∧ Q (.bl (decide (0 ≤ n) && decide (n ≤ 96))) H
def spIsGate (K : PySem.W.Frag) : Sp := fun vs H Q _ => ∃ (v : V) (g : Gt), vs = [v] ∧ GateV K H v g ∧ GOk g ∧ ∀ H', Same H H' → Q (.bl true) H'
/-- lists that are read -/
def RG (K : PySem.W.Frag) (H : Hp) (l : Addr) (gs : List Gt) : Prop := ∃ vs, SqL K H l vs ∧ All2 (GateV K H) vs gs
def RW (K : PySem.W.Frag) (H : Hp) (l : Addr) (ws : List Wr) : Prop := ∃ vs, SqL K H l vs ∧ All2 (WireV K H) vs ws
theorem RG.same {K : PySem.W.Frag} {H H' : Hp} {l : Addr} {gs : List Gt} (h : RG K H l gs) (s : Same H H') : RG K H' l gs := by
  obtain ⟨vs, q, a⟩ := h
  exact ⟨vs, s.seq q, a.imp fun _ _ r => r.tk (TK.same s)⟩
theorem RW.same {K : PySem.W.Frag} {H H' : Hp} {l : Addr} {ws : List Wr} (h : RW K H l ws) (s : Same H H') : RW K H' l ws := by
  obtain ⟨vs, q, a⟩ := h
  exact ⟨vs, s.seq q, a.imp fun _ _ r => r.tk (TK.same s)⟩
def spChkGates (K : PySem.W.Frag) : Sp := fun vs H Q _ => ∃ (l : Addr) (gs : List Gt), vs = [.ref l] ∧ RG K H l gs ∧ gs ≠ [] ∧ (∀ g ∈ gs, GOk g) ∧ ∀ H', Same H H' → Q .non H'
section
variable {P : Program} {w : World} {K : PySem.W.Frag} {mg : Str → Option Value} {base : Heap}
/-! ### is_whole, is_whole_from_to, is_worth -/
theorem scWhole : FnScope ["thing"] ["thing"] (defScope sWhole) := ⟨rfl, rfl, rfl, by decide +kernel, rfl, by decide +kernel, by decide +kernel⟩
abbrev DWhole (P : Program) (w : World) (K : PySem.W.Frag) (mg : Str → Option Value) (base : Heap) := Df P w K mg base 1 "is_whole" ["thing"] spWhole
theorem ok_whole {f : Addr} {fd : FuncData} (F : Fun K "is_whole" "is_whole" sWhole f fd) (hm : mg "is_whole" = some (.ref f)) (B : Bt mg) : DWhole P w K mg base f fd := by
  refine ⟨?_, hm, F.kp, F.binds fun _ _ _ _ _ _ us hl => match us, hl with | [_], _ => rfl⟩
  refine F.ok scWhole (fun vs H Q E h => ?_) (fun cdv A outer s H vs Q E hr h => ?_)
  · obtain ⟨n, rfl, _⟩ := h
    rfl
  · obtain ⟨n, rfl, q⟩ := h
    refine ⟨_, pss_one <| ps_ret <| pe_and (pe_callB call_isi (by rfl) B.isi (by decide +kernel) (pa_cons (pv 0) (pa_cons (pe_bltn (v := .ty "int") (by rfl) B.int (by decide +kernel) rfl) pa_nil)))
      (pe_one (pe_not (pe_callB call_isi (by rfl) B.isi (by decide +kernel) (pa_cons (pv 0) (pa_cons (pe_bltn (v := .ty "bool") (by rfl) B.bool (by decide +kernel) rfl) pa_nil))))), ?_⟩
    refine ⟨_, rfl, _, _, _, _, true, rfl, .ty "int", .base (.int n), kit_ty (by decide +kernel), true, rfl, iteT ?_⟩
    exact ⟨_, rfl, _, _, _, _, false, rfl, .ty "bool", .base (.int n), kit_ty (by decide +kernel), false, rfl, q⟩
abbrev DFromTo (P : Program) (w : World) (K : PySem.W.Frag) (mg : Str → Option Value) (base : Heap) := Df P w K mg base 2 "is_whole_from_to" ["thing", "least", "greatest"] spFromTo
abbrev DWorth (P : Program) (w : World) (K : PySem.W.Frag) (mg : Str → Option Value) (base : Heap) := Df P w K mg base 3 "is_worth" ["thing"] spWorth
/-! ### is_gate -/
abbrev DIsGate (P : Program) (w : World) (K : PySem.W.Frag) (mg : Str → Option Value) (base : Heap) := Df P w K mg base 3 "is_gate" ["thing"] (spIsGate K)
theorem kinds_in {k : Str} (h : k ∈ kinds) : inV (.str k) (kinds.map V.str) = true := by
  unfold inV
  rw [List.any_eq_true]
  exact ⟨.str k, List.mem_map.mpr ⟨k, h, rfl⟩, beq_self_eq_true k⟩
theorem flat_strs (l : List Str) : (l.map V.str).all flatV = true := by
  rw [List.all_eq_true]
  intro x hx
  obtain ⟨i, _, rfl⟩ := List.mem_map.mp hx
  rfl
end
end Lag


set_option maxRecDepth 100000
set_option maxHeartbeats 4000000
namespace Lag
open PySem PySem.Spec PyProof.Rows L2
def spIsWire (K : PySem.W.Frag) : Sp := fun vs H Q _ => ∃ (v : V) (x : Wr) (n : Nat), vs = [v, .int (n : Nat)] ∧ WireV K H v x ∧ x.1 < n ∧ x.2.1 < n ∧ ROk x.2.2 ∧ x.2.2.length ≤ 1000 ∧ ∀ H', Same H H' → Q (.bl true) H'
def spTaken (K : PySem.W.Frag) : Sp := fun vs H Q _ => ∃ (v : V) (x : Wr) (lg lc : Addr) (gs : List Gt) (cs : List Nat), vs = [v, .ref lg, .ref lc] ∧ WireV K H v x ∧ RG K H lg gs ∧ SqL K H lc (cs.map fun i => V.int (i : Nat)) ∧ WOk gs x ∧ cs.length = gs.length ∧
  (kindAt gs x.2.1 = "out" → cs[x.2.1]? = some 0) ∧ Q (.bl true) H
section
variable {P : Program} {w : World} {K : PySem.W.Frag} {mg : Str → Option Value} {base : Heap}
/-! ### check_gates -/
abbrev DChkGates (P : Program) (w : World) (K : PySem.W.Frag) (mg : Str → Option Value) (base : Heap) := Df P w K mg base 4 "check_gates" ["gates"] (spChkGates K)
/-! ### is_wire -/
abbrev nIsWire : List Str := ["thing", "many_gates", "start", "end", "held", "worth"]
abbrev DIsWire (P : Program) (w : World) (K : PySem.W.Frag) (mg : Str → Option Value) (base : Heap) := Df P w K mg base 4 "is_wire" ["thing", "many_gates"] (spIsWire K)
/-! ### is_taken -/
abbrev DTaken (P : Program) (w : World) (K : PySem.W.Frag) (mg : Str → Option Value) (base : Heap) := Df P w K mg base 1 "is_taken" ["wire", "gates", "come"] (spTaken K)
end
end Lag


set_option maxRecDepth 100000
set_option maxHeartbeats 4000000
namespace Lag
open PySem PySem.Spec PyProof.Rows L2
def cntL (n : Nat) (ws : List Wr) : List Nat := (List.range n).map (cnt ws)
theorem cntL_len (n : Nat) (ws : List Wr) : (cntL n ws).length = n := by simp [cntL]
theorem cntL_get {n e : Nat} {ws : List Wr} (h : e < n) : (cntL n ws)[e]? = some (cnt ws e) := by
  unfold cntL
  rw [List.getElem?_map, List.getElem?_range h]
  rfl
theorem cntL_nil (n : Nat) : cntL n [] = List.replicate n 0 := by
  refine List.ext_getElem? fun i => ?_
  by_cases h : i < n
  · rw [cntL_get h, List.getElem?_replicate, if_pos h]
    rfl
  · rw [List.getElem?_eq_none (by rw [cntL_len]; omega), List.getElem?_eq_none (by simp; omega)]
theorem cnt_app (ws : List Wr) (x : Wr) (e : Nat) : cnt (ws ++ [x]) e = cnt ws e + if x.2.1 = e then 1 else 0 := by
  unfold cnt
  rw [List.countP_append, List.countP_cons, List.countP_nil]
  by_cases h : x.2.1 = e <;> simp [h]
theorem cntL_app {n : Nat} {ws : List Wr} {x : Wr} (h : x.2.1 < n) : (cntL n ws).set x.2.1 (cnt ws x.2.1 + 1) = cntL n (ws ++ [x]) := by
  refine List.ext_getElem? fun i => ?_
  by_cases hi : i < n
  · rw [cntL_get hi, cnt_app, List.getElem?_set]
    by_cases e : x.2.1 = i
    · rw [if_pos e, if_pos e, if_pos (by rw [cntL_len]; exact h), e]
    · rw [if_neg e, if_neg e, cntL_get hi]
      rfl
  · rw [List.getElem?_eq_none (by rw [List.length_set, cntL_len]; omega), List.getElem?_eq_none (by rw [cntL_len]; omega)]
theorem cnt_take_lt {ws : List Wr} {i : Nat} {x : Wr} (h : ws[i]? = some x) : cnt (ws.take i) x.2.1 + 1 ≤ cnt ws x.2.1 := by
  have e : ws.take (i + 1) = ws.take i ++ [x] := by rw [List.take_add_one, h]; rfl
  have h1 : cnt (ws.take (i + 1)) x.2.1 ≤ cnt ws x.2.1 := by
    unfold cnt
    exact List.Sublist.countP_le (List.take_sublist _ _)
  rw [e, cnt_app, if_pos rfl] at h1
  exact h1
def spChkWires (K : PySem.W.Frag) : Sp := fun vs H Q _ => ∃ (lg lw : Addr) (gs : List Gt) (ws : List Wr), vs = [.ref lg, .ref lw] ∧ RG K H lg gs ∧ RW K H lw ws ∧ NetOk gs ws ∧ ∀ H', Same H H' → Q .non H'
theorem map_set' {α β : Type} (f : α → β) (l : List α) (i : Nat) (a : α) : (l.map f).set i (f a) = (l.set i a).map f := by simp [List.map_set]
section
variable {P : Program} {w : World} {K : PySem.W.Frag} {mg : Str → Option Value} {base : Heap}
abbrev DChkWires (P : Program) (w : World) (K : PySem.W.Frag) (mg : Str → Option Value) (base : Heap) := Df P w K mg base 5 "check_wires" ["gates", "wires"] (spChkWires K)
end
end Lag


set_option maxRecDepth 100000
set_option maxHeartbeats 4000000
namespace Lag
open PySem PySem.Spec PyProof.Rows L2
/-! ### the order of gates along wires without registers: the mathematics -/
def bare (ws : List Wr) : List (Nat × Nat) := (ws.filter fun x => x.2.2.isEmpty).map fun x => (x.1, x.2.1)
/-- how many wires of B lead into e from gates that are not in dn -/
def mis (B : List (Nat × Nat)) (dn : List Nat) (e : Nat) : Nat := B.countP fun b => b.2 == e && !dn.contains b.1
def frm (B : List (Nat × Nat)) (g e : Nat) : Nat := B.countP fun b => b.1 == g && b.2 == e
theorem mis_split {B : List (Nat × Nat)} {dn : List Nat} {g : Nat} (h : g ∉ dn) (e : Nat) : mis B dn e = mis B (dn ++ [g]) e + frm B g e := by
  unfold mis frm
  induction B with
  | nil => rfl
  | cons b B ih =>
    rw [List.countP_cons, List.countP_cons, List.countP_cons, ih]
    by_cases h1 : b.2 = e
    · by_cases h2 : b.1 = g
      · have : b.1 ∉ dn := by rw [h2]; exact h
        simp [h1, h2, h]
        omega
      · by_cases h3 : b.1 ∈ dn
        · simp [h1, h2, h3]
        · simp [h1, h2, h3]
          omega
    · simp [h1]
theorem mis_zero {B : List (Nat × Nat)} {dn : List Nat} {e : Nat} (h : mis B dn e = 0) {b : Nat × Nat} (hb : b ∈ B) (he : b.2 = e) : b.1 ∈ dn := by
  unfold mis at h
  rw [List.countP_eq_zero] at h
  have := h b hb
  simp [he] at this
  exact this
theorem frm_drop {B : List (Nat × Nat)} {j : Nat} {b : Nat × Nat} (h : B[j]? = some b) (g e : Nat) : frm (B.drop j) g e = frm (B.drop (j + 1)) g e + if b.1 = g ∧ b.2 = e then 1 else 0 := by
  obtain ⟨hj, rfl⟩ := List.getElem?_eq_some_iff.mp h
  rw [List.drop_eq_getElem_cons hj]
  unfold frm
  rw [List.countP_cons]
  by_cases h1 : B[j].1 = g <;> by_cases h2 : B[j].2 = e <;> simp [h1, h2]
structure KI (B : List (Nat × Nat)) (n : Nat) (placed : List Nat) (d : Nat) : Prop where
  nd : placed.Nodup
  lt : ∀ e ∈ placed, e < n
  le : d ≤ placed.length
  iff : ∀ e, e < n → (e ∈ placed ↔ mis B (placed.take d) e = 0)
  top : ∀ (j e : Nat), placed[j]? = some e → ∀ b ∈ B, b.2 = e → b.1 ∈ placed.take j
structure KJ (B : List (Nat × Nat)) (n : Nat) (placed : List Nat) (d g j : Nat) : Prop where
  nd : placed.Nodup
  lt : ∀ e ∈ placed, e < n
  at_ : placed[d]? = some g
  iff : ∀ e, e < n → (e ∈ placed ↔ mis B (placed.take (d + 1)) e + frm (B.drop j) g e = 0)
  top : ∀ (j e : Nat), placed[j]? = some e → ∀ b ∈ B, b.2 = e → b.1 ∈ placed.take j
theorem take_add {l : List Nat} {d g : Nat} (h : l[d]? = some g) : l.take (d + 1) = l.take d ++ [g] := by rw [List.take_add_one, h]; rfl
theorem nodup_take {l : List Nat} {d g : Nat} (nd : l.Nodup) (h : l[d]? = some g) : g ∉ l.take d := by
  intro hm
  obtain ⟨i, hi⟩ := List.getElem?_of_mem hm
  have h1 : i < d := by
    have := (List.getElem?_eq_some_iff.mp hi).1
    rw [List.length_take] at this
    omega
  rw [List.getElem?_take_of_lt h1] at hi
  have := nd_ix nd hi h
  omega
theorem KI.go {B : List (Nat × Nat)} {n : Nat} {placed : List Nat} {d g : Nat} (h : KI B n placed d) (hg : placed[d]? = some g) : KJ B n placed d g 0 :=
  ⟨h.nd, h.lt, hg, fun e he => by rw [h.iff e he, take_add hg, mis_split (nodup_take h.nd hg), List.drop_zero], h.top⟩
theorem KJ.done {B : List (Nat × Nat)} {n : Nat} {placed : List Nat} {d g : Nat} (h : KJ B n placed d g B.length) : KI B n placed (d + 1) := by
  have hd : d < placed.length := (List.getElem?_eq_some_iff.mp h.at_).1
  refine ⟨h.nd, h.lt, hd, fun e he => ?_, h.top⟩
  rw [h.iff e he, List.drop_length]
  rfl
theorem KJ.skip {B : List (Nat × Nat)} {n : Nat} {placed : List Nat} {d g j : Nat} {b : Nat × Nat} (h : KJ B n placed d g j) (hb : B[j]? = some b) (hg : b.1 ≠ g) : KJ B n placed d g (j + 1) :=
  ⟨h.nd, h.lt, h.at_, fun e he => by rw [h.iff e he, frm_drop hb, if_neg (fun z => hg z.1)]; rfl, h.top⟩
theorem KJ.not {B : List (Nat × Nat)} {n : Nat} {placed : List Nat} {d g j : Nat} {b : Nat × Nat} (h : KJ B n placed d g j) (hb : B[j]? = some b) (hg : b.1 = g) (hn : mis B (placed.take (d + 1)) b.2 + frm (B.drop (j + 1)) g b.2 ≠ 0) : KJ B n placed d g (j + 1) := by
  refine ⟨h.nd, h.lt, h.at_, fun e he => ?_, h.top⟩
  rw [h.iff e he, frm_drop hb]
  by_cases h2 : b.2 = e
  · subst h2
    rw [if_pos ⟨hg, rfl⟩]
    omega
  · rw [if_neg (fun z => h2 z.2)]
    rfl
theorem KJ.put {B : List (Nat × Nat)} {n : Nat} {placed : List Nat} {d g j : Nat} {b : Nat × Nat} (h : KJ B n placed d g j) (hb : B[j]? = some b) (hg : b.1 = g) (hlt : b.2 < n) (hn : mis B (placed.take (d + 1)) b.2 + frm (B.drop (j + 1)) g b.2 = 0) : KJ B n (placed ++ [b.2]) d g (j + 1) := by
  have hd : d < placed.length := (List.getElem?_eq_some_iff.mp h.at_).1
  have hnot : b.2 ∉ placed := fun z => by
    have := (h.iff _ hlt).mp z
    rw [frm_drop hb, if_pos ⟨hg, rfl⟩] at this
    omega
  have et : (placed ++ [b.2]).take (d + 1) = placed.take (d + 1) := List.take_append_of_le_length (by omega)
  refine ⟨?_, ?_, ?_, ?_, ?_⟩
  · rw [List.nodup_append]
    refine ⟨h.nd, by simp, fun a ha c hc => ?_⟩
    simp at hc
    subst hc
    intro z
    exact hnot (by rw [← z]; exact ha)
  · intro e he
    rcases List.mem_append.mp he with he | he
    · exact h.lt e he
    · simp at he
      subst he
      exact hlt
  · rw [List.getElem?_append_left hd]
    exact h.at_
  · intro e he
    rw [et, List.mem_append]
    by_cases h2 : b.2 = e
    · subst h2
      simp [hn]
    · have := h.iff e he
      rw [frm_drop hb, if_neg (fun z => h2 z.2)] at this
      rw [this]
      simp
      intro z
      exact absurd z.symm h2
  · intro k e hk c hc hce
    by_cases hk' : k < placed.length
    · rw [List.getElem?_append_left hk'] at hk
      rw [List.take_append_of_le_length (by omega)]
      exact h.top k e hk c hc hce
    · have hkl : k = placed.length := by
        have := (List.getElem?_eq_some_iff.mp hk).1
        simp at this
        omega
      subst hkl
      rw [List.getElem?_append_right (by omega)] at hk
      simp at hk
      subst hk
      rw [List.take_left']
      · have := mis_zero (show mis B (placed.take (d + 1)) b.2 = 0 by omega) hc hce
        exact List.mem_of_mem_take this
      · rfl
/-- what the order is: gates without two alike, each behind those it hangs on; all whose wires come from such -/
def Ord (n : Nat) (ws : List Wr) (ord : List Nat) : Prop := KI (bare ws) n ord ord.length
theorem Ord.full {n : Nat} {ws : List Wr} {ord : List Nat} (h : Ord n ws ord) (hw : ∀ x ∈ ws, x.1 < n ∧ x.2.1 < n) (rk : ∃ ρ : Nat → Nat, ∀ x ∈ ws, x.2.2 = [] → ρ x.1 < ρ x.2.1) : ord.Perm (List.range n) := by
  obtain ⟨ρ, hρ⟩ := rk
  have all : ∀ r e, e < n → ρ e = r → e ∈ ord := by
    intro r
    induction r using Nat.strongRecOn with
    | ind r ih =>
      intro e he hr
      rw [h.iff e he, List.take_length]
      unfold mis
      rw [List.countP_eq_zero]
      intro b hb
      obtain ⟨x, hx, rfl⟩ := List.mem_map.mp hb
      rw [List.mem_filter] at hx
      have hr0 : x.2.2 = [] := by simpa using hx.2
      have := hρ x hx.1 hr0
      simp
      intro z
      exact ih (ρ x.1) (by rw [← hr, ← z]; exact this) x.1 (hw x hx.1).1 rfl
  rw [List.perm_iff_count]
  intro a
  rw [h.nd.count, List.nodup_range.count]
  by_cases ha : a < n
  · rw [if_pos (all _ a ha rfl), if_pos (List.mem_range.mpr ha)]
  · rw [if_neg (fun z => ha (h.lt a z)), if_neg (fun z => ha (List.mem_range.mp z))]
end Lag


set_option maxRecDepth 100000
set_option maxHeartbeats 8000000
namespace Lag
open PySem PySem.Spec PyProof.Rows L2
def PairV (K : PySem.W.Frag) (H : Hp) (v : V) (b : Nat × Nat) : Prop := ∃ a, v = .ref a ∧ SqT K H a [.int (b.1 : Nat), .int (b.2 : Nat)]
theorem PairV.tk {K : PySem.W.Frag} {H H' : Hp} {v : V} {b : Nat × Nat} (t : TK H H') (h : PairV K H v b) : PairV K H' v b := by
  obtain ⟨a, e, s⟩ := h
  exact ⟨a, e, t.seq s⟩
/-- numbers by a function of the place -/
def fnL (n : Nat) (f : Nat → Nat) : List V := (List.range n).map fun e => V.int (f e : Nat)
theorem fnL_len (n : Nat) (f : Nat → Nat) : (fnL n f).length = n := by simp [fnL]
theorem fnL_get {n e : Nat} {f : Nat → Nat} (h : e < n) : (fnL n f)[e]? = some (V.int (f e : Nat)) := by
  unfold fnL
  rw [List.getElem?_map, List.getElem?_range h]
  rfl
theorem fnL_set {n e : Nat} {f f' : Nat → Nat} {z : Int} (h : e < n) (he : (f' e : Int) = z) (ho : ∀ i, i ≠ e → f' i = f i) : (fnL n f).set e (V.int z) = fnL n f' := by
  refine List.ext_getElem? fun i => ?_
  by_cases hi : i < n
  · rw [fnL_get hi, List.getElem?_set]
    by_cases ei : e = i
    · subst ei
      rw [if_pos rfl, if_pos (by rw [fnL_len]; exact h), he]
    · rw [if_neg ei, fnL_get hi, ho i (fun z => ei z.symm)]
  · rw [List.getElem?_eq_none (by rw [List.length_set, fnL_len]; omega), List.getElem?_eq_none (by rw [fnL_len]; omega)]
theorem fnL_zero (n : Nat) (f : Nat → Nat) (h : ∀ e, f e = 0) : (List.replicate n [V.int 0]).flatten = fnL n f := by
  have e : f = fun _ => 0 := funext h
  subst e
  unfold fnL
  induction n with
  | zero => rfl
  | succ n ih =>
    rw [List.replicate_succ', List.flatten_append, ih, List.range_succ, List.map_append]
    rfl
def spOrder (K : PySem.W.Frag) : Sp := fun vs H Q _ => ∃ (n : Nat) (lw : Addr) (ws : List Wr), vs = [.int (n : Nat), .ref lw] ∧ RW K H lw ws ∧ (∀ x ∈ ws, x.1 < n ∧ x.2.1 < n) ∧ n ≤ 1000 ∧ ws.length ≤ 1000 ∧
  ∀ (ord : List Nat) (p : Addr) (H' : Hp), Ord n ws ord → Same H H' → H p = none → H' p = some (.lst (ord.map fun i => V.int (i : Nat))) → Q (.ref p) H'
def spAlong (K : PySem.W.Frag) : Sp := fun vs H Q _ => ∃ (n : Nat) (lb : Addr) (bv : List V) (B : List (Nat × Nat)), vs = [.int (n : Nat), .ref lb] ∧ SqL K H lb bv ∧ All2 (PairV K H) bv B ∧ (∀ b ∈ B, b.1 < n ∧ b.2 < n) ∧ n ≤ 1000 ∧ B.length ≤ 1000 ∧
  ∀ (ord : List Nat) (p : Addr) (H' : Hp), KI B n ord ord.length → Same H H' → H p = none → H' p = some (.lst (ord.map fun i => V.int (i : Nat))) → Q (.ref p) H'
abbrev nAlong : List Str := ["many", "pairs", "missing", "start", "end", "placed", "done", "place"]
abbrev nOrder : List Str := ["many_gates", "wires", "start", "end", "held"]
theorem bare_take {ws : List Wr} {i : Nat} {x : Wr} (h : ws[i]? = some x) : bare (ws.take (i + 1)) = if x.2.2.isEmpty then bare (ws.take i) ++ [(x.1, x.2.1)] else bare (ws.take i) := by
  unfold bare
  rw [List.take_add_one, h]
  show ((ws.take i ++ [x]).filter _).map _ = _
  rw [List.filter_append]
  by_cases e : x.2.2.isEmpty
  · rw [if_pos e, List.filter_cons, if_pos e, List.map_append]
    rfl
  · rw [if_neg e, List.filter_cons, if_neg e, List.filter_nil, List.append_nil]
theorem bare_len (ws : List Wr) : (bare ws).length ≤ ws.length := by
  unfold bare
  rw [List.length_map]
  exact List.length_filter_le _ _
theorem mis_take {B : List (Nat × Nat)} {i : Nat} {b : Nat × Nat} (h : B[i]? = some b) (e : Nat) : mis (B.take (i + 1)) [] e = mis (B.take i) [] e + if b.2 = e then 1 else 0 := by
  unfold mis
  rw [List.take_add_one, h]
  show (B.take i ++ [b]).countP _ = _
  rw [List.countP_append, List.countP_cons, List.countP_nil]
  by_cases h1 : b.2 = e <;> simp [h1]
section
variable {P : Program} {w : World} {K : PySem.W.Frag} {mg : Str → Option Value} {base : Heap}
abbrev DAlong (P : Program) (w : World) (K : PySem.W.Frag) (mg : Str → Option Value) (base : Heap) := Df P w K mg base 1 "order_along" ["many", "pairs"] (spAlong K)
abbrev DOrder (P : Program) (w : World) (K : PySem.W.Frag) (mg : Str → Option Value) (base : Heap) := Df P w K mg base 2 "bare_order" ["many_gates", "wires"] (spOrder K)
end
end Lag


set_option maxRecDepth 100000
set_option maxHeartbeats 8000000
namespace Lag
open PySem PySem.Spec PyProof.Rows L2
theorem gn_norm {i : Nat} {x : V} {σ σ' : L2.St} {H : Hp} {N : L2.St → Hp → Prop} (e : σ.set i (some x) = σ') (h : N σ' H) : gName i x σ H N := by
  subst e
  exact h
/-! ### the texts of nets -/
abbrev numT (n : Int) : Str := Str.ofString (toString n)
def natT (n : Nat) : Str := numT (n : Int)
theorem natT_tl (n : Nat) : TL.tl (natT n) = TL.numL n := TL.tl_num n
theorem natT_free {n s : Nat} (h : s < 48 ∨ 57 < s) : s ∉ TL.tl (natT n) := by
  rw [natT_tl]
  exact TL.numL_free h
theorem natT_len {n : Nat} (h : n < 1000) : (natT n).length ≤ 3 := by
  rw [TL.len_tl, natT_tl]
  exact TL.numL_len (by decide) h
theorem natT_int {n : Nat} (h : n < 1000) : intText? (natT n) = some (n : Int) := by
  refine TL.int_num ?_
  have := TL.numL_len (k := 3) (by decide) h
  omega
theorem natT_digits (n : Nat) : ∀ c ∈ TL.tl (natT n), 48 ≤ c ∧ c ≤ 57 := fun c hc => by
  by_cases h : c < 48 ∨ 57 < c
  · exact absurd hc (natT_free h)
  · omega
theorem natT_pos (n : Nat) : 0 < (natT n).length := by
  rw [TL.len_tl, natT_tl]
  exact List.length_pos_iff.mpr (TL.numL_ne n)
theorem isDigit_at : ∀ c, c < 58 → 48 ≤ c → Unicode.isDigit c = true := by decide +kernel
theorem natT_isdigit (n : Nat) : Txt.isdigit (natT n) = true := by
  unfold Txt.isdigit
  rw [Bool.and_eq_true, decide_eq_true_iff, ← Array.all_toList, List.all_eq_true]
  refine ⟨natT_pos n, fun c hc => ?_⟩
  have := natT_digits n c hc
  exact isDigit_at c (by omega) this.1
theorem natT_isascii (n : Nat) : Txt.isascii (natT n) = true := by
  unfold Txt.isascii
  rw [← Array.all_toList, List.all_eq_true]
  intro c hc
  have := natT_digits n c hc
  exact decide_eq_true (by omega)
theorem natT_starts (n : Nat) : Txt.startswith (natT n) "-" = false := by
  unfold Txt.startswith
  rw [Bool.and_eq_false_iff]
  refine .inr ?_
  rw [Bool.eq_false_iff]
  intro h
  rw [StrLaws.subAt_eq] at h
  have e := eq_of_beq h
  have hm : 45 ∈ (("-" : Str)).cps.toList := by decide +kernel
  rw [← e] at hm
  exact natT_free (n := n) (s := 45) (.inl (by decide)) (List.mem_of_mem_drop (List.mem_of_mem_take hm))
def gateT (g : Gt) : Str := "gate " ++ g.1 ++ " " ++ numT g.2
def wireN (x : Wr) : List Int := ((x.1 : Nat) : Int) :: ((x.2.1 : Nat) : Int) :: x.2.2
def wireT (x : Wr) : Str := "wire " ++ Txt.join " " ((wireN x).map numT)
def rowsT (gs : List Gt) (ws : List Wr) : List Str := gs.map gateT ++ ws.map wireT
def netT (gs : List Gt) (ws : List Wr) : Str := Txt.join "\n" (rowsT gs ws)
theorem tl_blank : TL.tl (" " : Str) = [32] := by decide +kernel
theorem tl_feed : TL.tl ("\n" : Str) = [10] := by decide +kernel
theorem blank_all : ((" " : Str)).cps.all (· < 256) = true := by decide +kernel
theorem feed_all : (("\n" : Str)).cps.all (· < 256) = true := by decide +kernel
theorem kinds_free : ∀ k ∈ kinds, (32 ∉ TL.tl k ∧ 10 ∉ TL.tl k) ∧ k.length ≤ 5 := by decide +kernel
theorem nat_of {i : Int} (h : 0 ≤ i) : numT i = natT i.toNat := by
  unfold natT
  rw [Int.toNat_of_nonneg h]
theorem num_free {i : Int} {s : Nat} (h0 : 0 ≤ i) (h : s < 48 ∨ 57 < s) : s ∉ TL.tl (numT i) := by
  rw [nat_of h0]
  exact natT_free h
theorem join_two (y a b : Str) (r : List Str) : Txt.join y (a :: b :: r) = a ++ y ++ Txt.join y (b :: r) := by
  rw [TL.join_eq, TL.join_eq]
  rfl
theorem join_one (y a : Str) : Txt.join y [a] = a := by
  rw [TL.join_eq]
  rfl
theorem str_assoc (a b c : Str) : a ++ b ++ c = a ++ (b ++ c) := TL.ext_tl (by simp only [TL.tl_append, List.append_assoc])
theorem gateT_join (g : Gt) : gateT g = Txt.join " " ["gate", g.1, numT g.2] := by
  rw [join_two, join_two, join_one]
  unfold gateT
  refine TL.ext_tl ?_
  simp only [TL.tl_append, List.append_assoc]
  have : TL.tl ("gate " : Str) = TL.tl ("gate" : Str) ++ TL.tl (" " : Str) := by decide +kernel
  rw [this, List.append_assoc]
theorem wireT_join (x : Wr) : wireT x = Txt.join " " ("wire" :: (wireN x).map numT) := by
  unfold wireT wireN
  rw [List.map_cons, join_two]
  congr 1
  all_goals exact TL.ext_tl (by rw [TL.tl_append]; decide +kernel)
theorem gateT_split {g : Gt} (h : GOk g) : Txt.split (gateT g) " " = [("gate" : Str), g.1, numT g.2] := by
  rw [gateT_join]
  refine TL.split_join tl_blank blank_all (by simp) fun p hp => ?_
  simp only [List.mem_cons, List.not_mem_nil, or_false] at hp
  rcases hp with rfl | rfl | rfl
  · decide +kernel
  · exact (kinds_free _ h.1).1.1
  · exact num_free h.2.1 (.inl (by decide))
theorem wireN_pos {x : Wr} (h : ROk x.2.2) : ∀ i ∈ wireN x, 0 ≤ i := fun i hi => by
  unfold wireN at hi
  rcases List.mem_cons.mp hi with e | hi
  · omega
  · rcases List.mem_cons.mp hi with e | hi
    · omega
    · exact (h i hi).1
theorem wireT_split {x : Wr} (h : ROk x.2.2) : Txt.split (wireT x) " " = ("wire" : Str) :: (wireN x).map numT := by
  rw [wireT_join]
  refine TL.split_join tl_blank blank_all (by simp) fun p hp => ?_
  rcases List.mem_cons.mp hp with rfl | hp
  · decide +kernel
  · obtain ⟨i, hi, rfl⟩ := List.mem_map.mp hp
    exact num_free (wireN_pos h i hi) (.inl (by decide))
theorem joinL_free {s : Nat} {S : List Nat} (hs : s ∉ S) : ∀ {l : List (List Nat)}, (∀ p ∈ l, s ∉ p) → s ∉ TL.joinL S l
  | [], _ => by simp [TL.joinL]
  | [p], h => by
    show s ∉ p
    exact h p (by simp)
  | p :: q :: r, h => by
    show s ∉ p ++ (S ++ TL.joinL S (q :: r))
    rw [List.mem_append, List.mem_append]
    rintro (z | z | z)
    · exact h p (by simp) z
    · exact hs z
    · exact joinL_free hs (fun a ha => h a (List.mem_cons_of_mem _ ha)) z
theorem join_free {s : Nat} {y : Str} (hs : s ∉ TL.tl y) {l : List Str} (h : ∀ p ∈ l, s ∉ TL.tl p) : s ∉ TL.tl (Txt.join y l) := by
  rw [TL.join_eq, TL.tl_join]
  refine joinL_free hs fun p hp => ?_
  obtain ⟨z, hz, rfl⟩ := List.mem_map.mp hp
  exact h z hz
theorem row_free {gs : List Gt} {ws : List Wr} (N : NetOk gs ws) : ∀ p ∈ rowsT gs ws, 10 ∉ TL.tl p := fun p hp => by
  rcases List.mem_append.mp hp with h | h
  · obtain ⟨g, hg, rfl⟩ := List.mem_map.mp h
    have G := N.gok g hg
    rw [gateT_join]
    refine join_free (by decide +kernel) fun q hq => ?_
    simp only [List.mem_cons, List.not_mem_nil, or_false] at hq
    rcases hq with rfl | rfl | rfl
    · decide +kernel
    · exact (kinds_free _ G.1).1.2
    · exact num_free G.2.1 (.inl (by decide))
  · obtain ⟨x, hx, rfl⟩ := List.mem_map.mp h
    have W := N.wok x hx
    rw [wireT_join]
    refine join_free (by decide +kernel) fun q hq => ?_
    rcases List.mem_cons.mp hq with rfl | hq
    · decide +kernel
    · obtain ⟨i, hi, rfl⟩ := List.mem_map.mp hq
      exact num_free (wireN_pos W.r i hi) (.inl (by decide))
theorem netT_split {gs : List Gt} {ws : List Wr} (N : NetOk gs ws) : Txt.split (netT gs ws) "\n" = rowsT gs ws := by
  refine TL.split_join tl_feed feed_all ?_ (row_free N)
  unfold rowsT
  intro h
  have := (List.append_eq_nil_iff.mp h).1
  exact N.ne (List.map_eq_nil_iff.mp this)
/-! lengths -/
theorem num_len {i : Int} (h0 : 0 ≤ i) (h : i < 1000) : (numT i).length ≤ 3 := by
  rw [nat_of h0]
  exact natT_len (by omega)
theorem gateT_len {g : Gt} (h : GOk g) : (gateT g).length ≤ 14 := by
  unfold gateT
  rw [Str.length_append, Str.length_append, Str.length_append]
  have h1 := (kinds_free _ h.1).2
  have h2 := num_len h.2.1 (by have := h.2.2.1; omega)
  have h3 : ("gate " : Str).length = 5 := by decide +kernel
  have h4 : (" " : Str).length = 1 := by decide +kernel
  omega
theorem sum_le {l : List Str} {b : Nat} (h : ∀ p ∈ l, p.length ≤ b) : (l.map (·.length)).sum ≤ l.length * b := by
  induction l with
  | nil => simp
  | cons a l ih =>
    rw [List.map_cons, List.sum_cons, List.length_cons, Nat.succ_mul]
    have h1 := h a (by simp)
    have h2 := ih fun p hp => h p (List.mem_cons_of_mem _ hp)
    omega
theorem wireN_bd {gs : List Gt} {ws : List Wr} (N : NetOk gs ws) {x : Wr} (hx : x ∈ ws) : ∀ i ∈ wireN x, 0 ≤ i ∧ i < 1000 := fun i hi => by
  have W := N.wok x hx
  have hg := N.gl
  have h1 := W.s
  have h2 := W.e
  refine ⟨wireN_pos W.r i hi, ?_⟩
  unfold wireN at hi
  rcases List.mem_cons.mp hi with e | hi
  · omega
  · rcases List.mem_cons.mp hi with e | hi
    · omega
    · have := (W.r i hi).2
      omega
theorem wireN_len (x : Wr) : (wireN x).length = x.2.2.length + 2 := rfl
theorem nums_sum {gs : List Gt} {ws : List Wr} (N : NetOk gs ws) {x : Wr} (hx : x ∈ ws) : (((wireN x).map numT).map (·.length)).sum ≤ 306 ∧ ((wireN x).map numT).length ≤ 102 := by
  have W := N.wok x hx
  have hl : ((wireN x).map numT).length ≤ 102 := by
    rw [List.length_map, wireN_len]
    have := W.rl
    omega
  refine ⟨?_, hl⟩
  have := sum_le (l := (wireN x).map numT) (b := 3) fun p hp => by
    obtain ⟨i, hi, rfl⟩ := List.mem_map.mp hp
    have := wireN_bd N hx i hi
    exact num_len this.1 this.2
  omega
theorem join_len (y : Str) (l : List Str) : (Txt.join y l).length ≤ (l.map (·.length)).sum + l.length * y.length := by
  rw [TL.join_eq]
  exact StrLaws.join_length_le y l
theorem blank_len : (" " : Str).length = 1 := by decide +kernel
theorem wireT_len {gs : List Gt} {ws : List Wr} (N : NetOk gs ws) {x : Wr} (hx : x ∈ ws) : (Txt.join " " ((wireN x).map numT)).length ≤ 408 ∧ (wireT x).length ≤ 413 := by
  have h1 := nums_sum N hx
  have h2 := join_len " " ((wireN x).map numT)
  rw [blank_len] at h2
  refine ⟨by omega, ?_⟩
  unfold wireT
  rw [Str.length_append]
  have h3 : ("wire " : Str).length = 5 := by decide +kernel
  omega
theorem rows_sum {gs : List Gt} {ws : List Wr} (N : NetOk gs ws) : ((rowsT gs ws).map (·.length)).sum ≤ 454300 ∧ (rowsT gs ws).length ≤ 1100 := by
  have hl : (rowsT gs ws).length ≤ 1100 := by
    unfold rowsT
    rw [List.length_append, List.length_map, List.length_map]
    have := N.gl
    have := N.wl
    omega
  refine ⟨?_, hl⟩
  have := sum_le (l := rowsT gs ws) (b := 413) fun p hp => by
    rcases List.mem_append.mp hp with h | h
    · obtain ⟨g, hg, rfl⟩ := List.mem_map.mp h
      have := gateT_len (N.gok g hg)
      omega
    · obtain ⟨x, hx, rfl⟩ := List.mem_map.mp h
      exact (wireT_len N hx).2
  omega
theorem netT_len {gs : List Gt} {ws : List Wr} (N : NetOk gs ws) : (netT gs ws).length ≤ 455400 := by
  have h1 := rows_sum N
  have h2 := join_len "\n" (rowsT gs ws)
  have h3 : ("\n" : Str).length = 1 := by decide +kernel
  rw [h3] at h2
  unfold netT
  omega
/-! a text tells its net -/
theorem numT_inj {i j : Int} (hi : 0 ≤ i) (hj : 0 ≤ j) (h : numT i = numT j) : i = j := by
  rw [nat_of hi, nat_of hj] at h
  have h1 : TL.numL i.toNat = TL.numL j.toNat := by rw [← natT_tl, ← natT_tl, h]
  have := TL.numL_inj h1
  omega
theorem nums_inj : ∀ {a b : List Int}, (∀ i ∈ a, 0 ≤ i) → (∀ i ∈ b, 0 ≤ i) → a.map numT = b.map numT → a = b
  | [], [], _, _, _ => rfl
  | [], _ :: _, _, _, h => by simp at h
  | _ :: _, [], _, _, h => by simp at h
  | i :: a, j :: b, ha, hb, h => by
    rw [List.map_cons, List.map_cons] at h
    injection h with h1 h2
    rw [numT_inj (ha i (by simp)) (hb j (by simp)) h1, nums_inj (fun i hi => ha i (List.mem_cons_of_mem _ hi)) (fun i hi => hb i (List.mem_cons_of_mem _ hi)) h2]
theorem gateT_inj {g g' : Gt} (h : GOk g) (h' : GOk g') (e : gateT g = gateT g') : g = g' := by
  have e1 := congrArg (fun z => Txt.split z " ") e
  simp only [gateT_split h, gateT_split h'] at e1
  injection e1 with _ e2
  injection e2 with e3 e4
  injection e4 with e5 _
  exact Prod.ext e3 (numT_inj h.2.1 h'.2.1 e5)
theorem wireT_inj {x x' : Wr} (h : ROk x.2.2) (h' : ROk x'.2.2) (e : wireT x = wireT x') : x = x' := by
  have e1 := congrArg (fun z => Txt.split z " ") e
  simp only [wireT_split h, wireT_split h'] at e1
  injection e1 with _ e2
  have e3 := nums_inj (wireN_pos h) (wireN_pos h') e2
  unfold wireN at e3
  injection e3 with a1 e4
  injection e4 with a2 a3
  exact Prod.ext (by omega) (Prod.ext (by omega) a3)
theorem gateT_ne_wireT {g : Gt} {x : Wr} (h : GOk g) (h' : ROk x.2.2) : gateT g ≠ wireT x := fun e => by
  have e1 := congrArg (fun z => Txt.split z " ") e
  simp only [gateT_split h, wireT_split h'] at e1
  injection e1 with e2 _
  exact absurd e2 (by decide +kernel)
theorem rowsT_inj : ∀ {gs gs' : List Gt} {ws ws' : List Wr}, (∀ g ∈ gs, GOk g) → (∀ g ∈ gs', GOk g) → (∀ x ∈ ws, ROk x.2.2) → (∀ x ∈ ws', ROk x.2.2) → rowsT gs ws = rowsT gs' ws' → gs = gs' ∧ ws = ws'
  | [], [], [], [], _, _, _, _, _ => ⟨rfl, rfl⟩
  | [], [], [], _ :: _, _, _, _, _, h => by simp [rowsT] at h
  | [], [], _ :: _, [], _, _, _, _, h => by simp [rowsT] at h
  | [], [], x :: ws, x' :: ws', h1, h2, h3, h4, h => by
    have h' : wireT x :: ws.map wireT = wireT x' :: ws'.map wireT := h
    injection h' with e1 e2
    have e3 := wireT_inj (h3 x (by simp)) (h4 x' (by simp)) e1
    have e4 := (rowsT_inj (gs := []) (gs' := []) h1 h2 (fun y hy => h3 y (List.mem_cons_of_mem _ hy)) (fun y hy => h4 y (List.mem_cons_of_mem _ hy)) e2).2
    rw [e3, e4]
    exact ⟨rfl, rfl⟩
  | g :: gs, g' :: gs', ws, ws', h1, h2, h3, h4, h => by
    have h' : gateT g :: rowsT gs ws = gateT g' :: rowsT gs' ws' := h
    injection h' with e1 e2
    have e3 := gateT_inj (h1 g (by simp)) (h2 g' (by simp)) e1
    have e4 := rowsT_inj (fun y hy => h1 y (List.mem_cons_of_mem _ hy)) (fun y hy => h2 y (List.mem_cons_of_mem _ hy)) h3 h4 e2
    rw [e3, e4.1, e4.2]
    exact ⟨rfl, rfl⟩
  | g :: gs, [], ws, ws', h1, h2, h3, h4, h => by
    have h' : gateT g :: rowsT gs ws = ws'.map wireT := h
    cases ws' with
    | nil => simp at h'
    | cons x' ws' =>
      rw [List.map_cons] at h'
      injection h' with e1 _
      exact absurd e1 (gateT_ne_wireT (h1 g (by simp)) (h4 x' (by simp)))
  | [], g' :: gs', ws, ws', h1, h2, h3, h4, h => by
    have h' : ws.map wireT = gateT g' :: rowsT gs' ws' := h
    cases ws with
    | nil => simp at h'
    | cons x ws =>
      rw [List.map_cons] at h'
      injection h' with e1 _
      exact absurd e1.symm (gateT_ne_wireT (h2 g' (by simp)) (h3 x (by simp)))
theorem netT_inj {gs gs' : List Gt} {ws ws' : List Wr} (N : NetOk gs ws) (N' : NetOk gs' ws') (h : netT gs ws = netT gs' ws') : gs = gs' ∧ ws = ws' := by
  have e := congrArg (fun z => Txt.split z "\n") h
  simp only [netT_split N, netT_split N'] at e
  exact rowsT_inj N.gok N'.gok (fun x hx => (N.wok x hx).r) (fun x hx => (N'.wok x hx).r) e
end Lag


set_option maxRecDepth 100000
set_option maxHeartbeats 4000000
/-! ### a comprehension whose element may raise -/
namespace L2X
open PySem PySem.Spec PyProof.Rows L2
section
variable {M : Model} {A : Around} {s : Shared} {env : Env} {E : Value → Shared → Prop}
/-- what must hold where an error leaves the block: its dict is let go, the error is handed on from the frame F -/
def ErrOut (M : Model) (A : Around) (E : Value → Shared → Prop) (x : Value) (L : Addr) (F : Option Addr) (s' : Shared) : Prop :=
  (∃ m, s'.heap.Ns L m) ∧ ∀ h' (cenv : Env), Heap.SameBut L s'.heap h' → cenv.frame = F → wpAny M A (passOn "comprehension.variables-let-go" x cenv : Sem Value) (fun _ _ => False) E { s' with heap := h' }
def OutOf (M : Model) (A : Around) (E : Value → Shared → Prop) (Q : Value → Shared → Prop) (acc : Value) (cenv : Env) : Result → Shared → Prop
  | .ok _, s' => ∃ m, s'.heap.Ns cenv.locals m ∧ ∀ h', Heap.SameBut cenv.locals s'.heap h' → Q acc { s' with heap := h' }
  | .error x, s' => ErrOut M A E x cenv.locals cenv.frame s'
theorem comp_err {e : Expr} {scope : Scope} {pos : Pos} {newAcc first : Sem Value} {g : Comprehension} {gs : List Comprehension} {cl : List (Str × Addr)} {Q : Value → Shared → Prop}
    (isCls : clausesOf e = g :: gs) (hs : ∀ y, foldedSetIterable g.iter env y = pure y) (isClo : closureFor scope env = pure cl)
    (isFun : scope.kind = .function) (isLoc : ∀ y ∈ scope.names, y.2 = .local → scope.names.lookup y.1 = some .local)
    (h : wpAny M A first (fun x t1 => wpAny M A (pyIter x) (fun it t2 => wpAny M A newAcc (fun acc t3 =>
      wpAny M A (newFunctionEnv scope env.globals cl [] env.qual none .none (some env)) (fun cenv t4 =>
        codeAny M A (.compStart e 0 it acc { cenv with scope := relabel scope env }) (OutOf M A E Q acc cenv) t4) E t3) E t2) E t1) E s) :
    wpAny M A (comprehension e scope env pos newAcc false first none) Q E s := by
  have loc : ∀ (cenv : Env), ∀ x ∈ (scope.names.filter fun x => (x.2 == .local || x.2 == .cell) && x.1 != (".0" : Str)).reverse, x.2 = .local → Env.kindOf { cenv with scope := relabel scope env } x.1 = some .local := fun cenv x hx hl =>
    lookup_relabel_local (isLoc x (List.mem_filter.mp (List.mem_reverse.mp hx)).1 hl)
  have inner : ∀ (cenv : Env) (it acc : Value) (t4 : Shared), codeAny M A (.compStart e 0 it acc { cenv with scope := relabel scope env }) (OutOf M A E Q acc cenv) t4 → True := fun _ _ _ _ _ => trivial
  unfold comprehension
  rw [isClo, isCls]
  refine wpAny_bind (wpAny_mono h (fun x t1 k1 => ?_) fun _ _ z => z)
  refine wpAny_bind (wpAny_standAt (wpAny_bind (wpAny_of_eq (hs x) ?_)))
  refine wpAny_bind (wpAny_holding (wpAny_mono k1 (fun it t2 k2 => ?_) fun _ _ z => z))
  refine wpAny_standIf (wpAny_bind (wpAny_mono k2 (fun acc t3 k3 => ?_) fun _ _ z => z))
  refine wpAny_bind (wpAny_pure (wpAny_bind (wpAny_mono k3 (fun cenv t4 k4 => ?_) fun _ _ z => z)))
  dsimp only
  refine wpAny_holding (wpAny_bind (wpAny_attempt (wpAny_holding (wpAny_run (codeAny_mono k4 fun r s' hr => ?_)))))
  cases r with
  | ok f =>
    obtain ⟨m, hn, q⟩ := hr
    exact wpAny_bind (wpAny_holding (wpAny_comp_letGo (cenv := { cenv with scope := relabel scope env }) isFun _ s' m (loc cenv) hn fun h' _ _ sb => wpAny_pure (q h' sb)))
  | error x =>
    obtain ⟨⟨m, hn⟩, q⟩ := hr
    exact wpAny_bind (wpAny_holding (wpAny_comp_letGo (cenv := { cenv with scope := relabel scope env }) isFun _ s' m (loc cenv) hn fun h' _ _ sb => wpAny_mono (q h' { cenv with scope := relabel scope env } sb rfl) (fun _ _ f => f.elim) fun _ _ z => z))
end
end L2X

set_option maxRecDepth 100000
set_option maxHeartbeats 4000000
namespace L2X
open PySem PySem.Spec PyProof.Rows L2
/-! ### Inv does not speak of what an exception is to meet -/
section
variable {X : Cx} {pins : List (Addr × Obj)} {σ : L2.St} {H : Hp} {s : Shared}
theorem ok_xe (o : X.Ok) (E : Value → Shared → Prop) : ({ X with xe := E } : Cx).Ok := ⟨o.mod, o.kind, o.glob, o.blt, o.above, o.inj, o.has, o.cab, o.hd, o.frames, o.stk, o.exf, o.bs, o.bsz, o.noex, o.exfs, o.funs, o.frf⟩
theorem inv_xe (I : Inv X pins σ H s) (E : Value → Shared → Prop) : Inv { X with xe := E } pins σ H s := ⟨ok_xe I.ok E, I.os, I.bare, I.base, I.loc, I.cell, I.free, I.freeC, I.pin, I.hok, I.len⟩
theorem inv_xe' {E : Value → Shared → Prop} (I : Inv { X with xe := E } pins σ H s) : Inv X pins σ H s := inv_xe I X.xe
/-- an exception that flies over the frames of X, and nothing else -/
def XF (X : Cx) (W : WX) (u : Value) (s' : Shared) : Prop :=
  ∃ (a : Addr) (B : Heap) (sI : Shared) (pins : List (Addr × Obj)) (σ : L2.St) (H : Hp) (cls : Value) (d : Option Addr),
    u = .ref a ∧ Inv X pins σ H sI ∧ (∀ b ob, sI.heap.get? b = some ob → b ∉ frs X.stack → B.get? b = some ob) ∧ sI.heap.UpToSlots s'.heap ∧
      HandSPX.FlyingZ B X.stack a (Zc cls d) s'.heap ∧ H a = none ∧ s'.os = sI.os ∧ AllBare s'.gens ∧ W cls d σ H
/-- a call's exception flies -/
theorem xf_call {W : WX} {E : XK} (I : Inv X pins σ H s) (hW : ∀ cls d H', E cls d H' → W cls d σ H') {u : Value} {s' : Shared} (c : L2.CX X.prog X.w X.stack H s E u s') : XF X W u s' := by
  obtain ⟨a0, _, _, _, _, e0, fl, _⟩ := id c
  obtain ⟨a, B, sI, pins', σ', H', cls, d, rfl, I', nb, up, sky, na, os, ag, w⟩ := XE.of_call I hW c
  cases e0
  obtain ⟨_, _, _, oe, vs, T, oT, ts, h1, _, h3, h4, _, _, h7, h8, h9⟩ := fl
  rcases sky with ⟨_, _, _, oe', vs', k1, _, k3, k4⟩ | fl' | ⟨_, _, _, oe', vs', T', oT', ts', k1, _, k3, k4, _, _, k7, k8, k9⟩
  · exfalso
    rw [h1] at k1
    cases k1
    rw [h3] at k3
    cases k3
    rw [h4] at k4
    cases k4
  · exact ⟨a0, B, sI, pins', σ', H', cls, d, rfl, I', nb, up, fl', na, os, ag, w⟩
  · exfalso
    rw [h1] at k1
    cases k1
    rw [h3] at k3
    cases k3
    rw [h4] at k4
    cases k4
    rw [h7] at k7
    cases k7
    rw [h8] at k8
    cases k8
    rw [h9] at k9
    cases k9
theorem xf_xe {W : WX} {E : Value → Shared → Prop} {u : Value} {s' : Shared} (x : XF { X with xe := E } W u s') : XF X W u s' := by
  obtain ⟨a, B, sI, pins', σ', H', cls, d, e, I', r⟩ := x
  exact ⟨a, B, sI, pins', σ', H', cls, d, e, inv_xe' I', r⟩
end
theorem note_frame {e : Value} {env env' : Env} (h : env.frame = env'.frame) : noteFrame e env = noteFrame e env' := by
  unfold noteFrame PySem.frameOf
  rw [h]
theorem ff_but {h h' B B' : Heap} {C : Addr} (k : ∀ b, b ≠ C → h'.get? b = h.get? b) (kB : ∀ b, B.get? b = none → B'.get? b = none) : ∀ {l : List Env}, h.FunFrames B l → (∀ L ∈ frs l, L ≠ C) → h'.FunFrames B' l
  | [], _, _ => trivial
  | env :: l, ⟨h1, ⟨L, o, e1, e2, e3, e4⟩, h3⟩, hn => by
    have hL : L ∈ frs (env :: l) := by
      unfold frs
      rw [List.filterMap_cons, e1]
      exact List.mem_cons_self ..
    refine ⟨h1, ⟨L, o, e1, kB _ e2, (k L (hn L hL)).trans e3, e4⟩, ff_but k kB h3 fun L' hL' => hn L' ?_⟩
    unfold frs
    rw [List.filterMap_cons, e1]
    exact List.mem_cons_of_mem _ hL'
end L2X

set_option maxRecDepth 100000
set_option maxHeartbeats 4000000
namespace L2X
open PySem PySem.Spec PyProof.Rows L2
/-- out of a comprehension's block: noted in the def's frame, the block's dict let go, handed on -/
theorem block_out {X : Cx} {pins : List (Addr × Obj)} {σ : L2.St} {H3 : Hp} {s3 : Shared} {scope : Scope} {ce : Env} {fp : List Addr} {W Wb : WX} {E : Value → Shared → Prop}
    (I3 : Inv X pins σ H3 s3) (hst : X.stack = X.env :: X.outer) (hfr : X.env.frame = some X.env.locals) (cL : ce.locals = s3.heap.objs.size) (cF : ce.frame = X.env.frame)
    (f3 : ∀ b ∈ fp, FpOk X pins H3 b) (tk : Takes X W) (hW : ∀ cls d σ' H', Wb cls d σ' H' → W cls d σ H')
    {u : Value} {s' : Shared} (x : XF (X.blk s3 H3 scope ce fp) Wb u s') :
    wpAny (model X.prog X.w) X.A (noteFrame u ce) (fun _ s'' => ErrOut (model X.prog X.w) X.A X.xe u s3.heap.objs.size ce.frame s'') E s' := by
  obtain ⟨a, B, sI, pinsI, σI, HI, cls, d, rfl, I, nb, up, fl, na, os, ag, w⟩ := x
  have nb : ∀ b o, sI.heap.get? b = some o → b ∉ frs X.stack → B.get? b = some o := nb
  have fl : HandSPX.FlyingZ B X.stack a (Zc cls d) s'.heap := fl
  -- where the block's dict lies
  obtain ⟨C, hC⟩ : ∃ C, C = s3.heap.objs.size := ⟨_, rfl⟩
  rw [← hC] at cL ⊢
  have nC : HI C = none := by
    have z : HI ce.locals = none := I.free
    rw [cL] at z
    exact z
  have fC : FpOk X pins HI C := I3.fpOk (Nat.le_of_eq hC.symm) nC
  have nS : C ∉ frs X.stack := fun hm => by
    rcases List.mem_cons.mp (I3.stkSub C hm) with z | z
    · exact fC.2.1 z
    · exact fC.2.2.1 z
  obtain ⟨m, hn, _⟩ := I.loc
  have hn : sI.heap.Ns ce.locals m := hn
  rw [cL] at hn
  obtain ⟨oC, esC, epC, hoC, restC⟩ := id hn
  have bC := nb C oC hoC nS
  -- the def's state with it
  have I7 : Inv X pins σ HI sI := I3.call' (ch := fp) I.os I.base I.hok I.bare fun b hb => ⟨(f3 b hb).2.2.2.1, (f3 b hb).2.1, (f3 b hb).2.2.2.2.1, (f3 b hb).2.2.2.2.2⟩
  have frm : X.A.frames = some (X.env :: X.outer) := by rw [I3.ok.frames, hst]
  rw [hst] at fl
  rw [note_frame (e := .ref a) cF]
  refine HandSPX.looks_onZ Zc.steady frm hfr fl fun h1 hh up1 => ?_
  obtain ⟨st1, na1, ff1, tr1⟩ := hh
  refine ⟨⟨m, oC, esC, epC, st1 C oC bC, restC⟩, fun h' cenv sb cf => ?_⟩
  -- the ground without the dict
  obtain ⟨oe, vs, T, oT, ts, t1, t2, t3, t4, t5, t6, t7, t8, t9⟩ := tr1
  have aC : a ≠ C := fun z => by rw [z, bC] at na1; cases na1
  have TC : T ≠ C := fun z => by rw [z, bC] at t5; cases t5
  have nB : ∀ b, B.get? b = none → (PySem.W.hideAll B [C]).get? b = none := fun b e => by
    cases q : (PySem.W.hideAll B [C]).get? b with
    | none => rfl
    | some o => rw [PySem.W.of_hideAll _ q] at e; cases e
  have hC0 : (PySem.W.hideAll B [C]).get? C = none := PySem.W.hideAll_none _ (List.mem_cons_self ..)
  have held : HandSPX.HeldZ (PySem.W.hideAll B [C]) (X.env :: X.outer) a (Zc cls d) X.env.locals h' := by
    refine ⟨fun b o e => ?_, nB a na1, ff_but (C := C) (fun b hb => sb.2 b hb) nB ff1 (fun L hL z => nS (by rw [hst]; rw [← z]; exact hL)), oe, vs, T, oT, ts, (sb.2 a aC).trans t1, t2, t3, t4, nB T t5, t6, (sb.2 T TC).trans t7, t8, t9⟩
    have hb : b ≠ C := fun z => by rw [z, hC0] at e; cases e
    exact (sb.2 b hb).trans (st1 b o (PySem.W.of_hideAll _ e))
  unfold PySem.passOn
  refine wpAny_bind (wpAny_field ((sb.2 a aC).trans t1) t3 t4 ?_)
  rw [if_neg (by simp : ¬ ((Value.ref T == Value.none) = true))]
  refine wpAny_bind ?_
  rw [cf, cF, hfr]
  refine HandSPX.setFlight_onZ (s := { s' with heap := h' }) held fun h2 held2 up2 => ?_
  refine wpAny_throw (tk _ _ ?_)
  -- the def's state without it
  have I8 : Inv X pins σ HI { sI with heap := PySem.W.hideAll sI.heap [C] } := I7.turned (t' := sI.toks) (it := C) (fun b o hb e => PySem.W.hideAll_get _ e (fun z => hb (List.mem_singleton.mp z))) nC fC.2.1 fC.2.2.2.1 fC.2.2.2.2.1 fC.2.2.2.2.2
  have notC : ∀ b o, (PySem.W.hideAll sI.heap [C]).get? b = some o → b ≠ C := fun b o e z => by
    rw [z, PySem.W.hideAll_none [C] (List.mem_cons_self ..)] at e
    cases e
  refine ⟨a, PySem.W.hideAll B [C], _, pins, σ, HI, cls, d, rfl, I8, fun b o e hb => PySem.W.hideAll_get _ (nb b o (PySem.W.of_hideAll _ e) hb) (fun z => notC b o e (List.mem_singleton.mp z)), fun b o e hnf => ?_, .inr (.inr (by rw [hst]; exact held2)), na, os, ag, hW _ _ _ _ w⟩
  obtain ⟨sl1, e1⟩ := up b o (PySem.W.of_hideAll _ e) hnf
  obtain ⟨sl2, e2⟩ := up1 b _ e1 hnf
  obtain ⟨sl3, e3⟩ := up2 b _ ((sb.2 b (notC b o e)).trans e2) hnf
  exact ⟨sl3, e3⟩
end L2X

set_option maxRecDepth 100000
set_option maxHeartbeats 4000000
namespace L2X
open PySem PySem.Spec PyProof.Rows L2
/-- the block, where the element may let an exception out -/
abbrev blkE (X : Cx) (s : Shared) (H : Hp) (scope : Scope) (ce : Env) (fp : List Addr) (EX : XK) : Cx := { X.blk s H scope ce fp with xe := XF (X.blk s H scope ce fp) (fun cls d _ H' => EX cls d H') }
theorem pass_blk {X : Cx} {s : Shared} {H : Hp} {scope : Scope} {ce : Env} {fp : List Addr} {EX : XK} : Passes (L2.CX X.prog X.w) (blkE X s H scope ce fp EX) EX :=
  fun _ _ _ _ _ _ I c => xf_call (inv_xe' I) (fun _ _ _ h => h) c
section
variable {X : Cx} {pins : List (Addr × Obj)} {σ : L2.St} {sB : Shared} {HB : Hp} {scope : Scope} {ce : Env} {fp : List Addr} {elt tg iter : Expr} {ifs : List Expr} {pos : Pos} {g : TG} {tt : TT} {te : TE} {vs : List Nat} {EX : XK}
/-- the loop in the block: St is what the new list and the turns have come to -/
theorem loopX {it D : Addr} {tn : Nat → Heap → Prop} {J : It} {Wi : Nat → Nat → Hp → Prop} {m0 : Nat} {sC : Shared} {R : Result → Shared → Prop} {QD : Hp → Prop}
    (hc : X.calm = true) (T : Turn X.prog X.w X.K tg J fp it tn)
    (exl : ∀ b ∈ fp, b ≠ ce.locals ∧ (∀ x c, ce.cells.lookup x = some c → c ≠ b) ∧ b ∉ frs X.stack)
    (gPg : PG (X.blk sB HB scope ce fp) tg g) (gPt : PTs (X.blk sB HB scope ce fp) ifs tt) (gPe : PE (blkE X sB HB scope ce fp EX) elt te)
    (J4 : Inv (X.blk sB HB scope ce fp) [] (wipe σ vs) HB sC) (trC : tn 0 sC.heap) (n4 : ∀ b ∈ fp, HB b = none) (w0 : Wi 0 m0 HB)
    (step : ∀ i m H, Wi i m H → (J.stop i H ∧ QD H) ∨ (J.go i H ∧ ∃ Nx : Hp → Prop, (∀ H', Nx H' → ∃ m', m' < m ∧ Wi (i + 1) m' H') ∧ ∀ x H', J.yld i H x H' → g x (wipe σ vs) H' fun σ2 HA => wipe σ2 vs = wipe σ vs ∧ tt σ2 HA fun b HB =>
      if b = true then te σ2 HB fun y H4 => ∃ acc, H4 D = some (.lst acc) ∧ acc.length < sizeLine ∧ Nx (upd H4 D (.lst (acc ++ [y]))) else Nx HB))
    (fin : ∀ H' s', Inv (X.blk sB HB scope ce fp) [] (wipe σ vs) H' s' → QD H' → R (.ok .next) s')
    (err : ∀ u s', XF (X.blk sB HB scope ce fp) (fun cls d _ H' => EX cls d H') u s' → wpAny (model X.prog X.w) X.A (noteFrame u ce) (fun _ s'' => R (.error u) s'') (fun _ _ => False) s') :
    codeAny (model X.prog X.w) X.A (.compLoop (.ListComp elt [⟨tg, iter, ifs, 0⟩] scope pos) 0 (.ref it) (.ref D) ce) R sC := by
  have foot : ∀ {σ' : L2.St} {H' : Hp} {s' : Shared}, Inv (X.blk sB HB scope ce fp) [] σ' H' s' → (∀ b ∈ fp, H' b = none) → ∀ b ∈ fp, FpOk (X.blk sB HB scope ce fp) [] H' b := fun I' hn b hb =>
    ⟨hn b hb, (exl b hb).1, (exl b hb).2.2, .inl hb, (exl b hb).2.1, fun p hp => absurd (show p ∈ ([] : List (Addr × Obj)) ++ [] from hp) (by simp)⟩
  refine compLoop_any (fun n s' => ∃ i H', Inv (X.blk sB HB scope ce fp) [] (wipe σ vs) H' s' ∧ tn i s'.heap ∧ (∀ b ∈ fp, H' b = none) ∧ Wi i n H') (fun n sD h5 => ?_) m0 ⟨0, HB, J4, trC, n4, w0⟩
  obtain ⟨i, H5, I5, trD, n5, w5⟩ := h5
  rcases step i n H5 w5 with ⟨stop, qq⟩ | ⟨go, Nx, isNx, nxt⟩
  · refine thnF (T.done (X.blk sB HB scope ce fp) rfl rfl rfl hc i [] sD _ H5 (fun _ _ => False) I5 (foot I5 n5) trD stop) fun r sE hr => ?_
    obtain ⟨rfl, I6⟩ := hr
    exact fin H5 sE I6 qq
  refine thnF (T.item (X.blk sB HB scope ce fp) rfl rfl rfl hc i [] sD _ H5 (fun _ _ => False) I5 (foot I5 n5) trD go) fun r sE hr => ?_
  obtain ⟨v, rfl, h6⟩ := hr
  refine thnF h6 fun _ sF h7 => ?_
  obtain ⟨x, H7, J7, rx, yl, trF, n7⟩ := h7
  have P7 := J7.pinned (foot J7 n7) (T.obj _ _ trF)
  refine thnF (gPg.run _ sF _ H7 x v _ P7 rx (nxt x H7 yl)) fun _ sG h8 => ?_
  obtain ⟨σ8, H8, J8, w8, q8⟩ := h8
  refine thnF (gPt.run _ sG σ8 H8 _ J8 q8) fun b sH h9 => ?_
  obtain ⟨H9, I9, qH⟩ := h9
  -- the next turn begins
  have again : ∀ {s' : Shared} {H' : Hp}, Inv (X.blk sB HB scope ce fp) ([] ++ pinsAt fp sF.heap) σ8 H' s' → Nx H' → ∃ m, m < n ∧ ∃ i H', Inv (X.blk sB HB scope ce fp) [] (wipe σ vs) H' s' ∧ tn i s'.heap ∧ (∀ b ∈ fp, H' b = none) ∧ Wi i m H' := fun {s' H'} I' nx => by
    obtain ⟨m', hm, w'⟩ := isNx H' nx
    have at_ : ∀ b ∈ fp, ∀ o, sF.heap.get? b = some o → s'.heap.get? b = some o ∧ H' b = none := fun b hb o e => by
      obtain ⟨k1, k2, _⟩ := I'.pin (b, o) (List.mem_append_right _ (List.mem_append_right _ (mem_pinsAt hb e)))
      exact ⟨k1, k2⟩
    have len : (wipe σ vs).length = σ8.length := by rw [← w8, wipe_length]
    refine ⟨m', hm, i + 1, H', (I'.unpinned (pins := [])).weak len (fun j y e => (wipe_some (by rw [w8]; exact e)).1), T.keep _ _ _ trF fun b hb o e => (at_ b hb o e).1, fun b hb => ?_, w'⟩
    obtain ⟨o, e, _⟩ := T.obj _ _ trF b hb
    exact (at_ b hb o e).2
  cases b with
  | false =>
    simp only [Bool.false_eq_true, if_false] at qH ⊢
    exact again I9 qH
  | true =>
    simp only [if_true] at qH ⊢
    refine wpAny_mono (gPe.run _ sH σ8 H9 _ (inv_xe I9 _) qH) (fun z s10 h10 => ?_) fun u s' hx => ?_
    · obtain ⟨yv, H10, I10, r10, acc, hD, hz, nx⟩ := h10
      exact app_ok (X := X.blk sB HB scope ce fp) (inv_xe' I10) hD hz r10 fun s11 I11 => again I11 nx
    · exact wpAny_mono (err u s' hx) (fun _ _ z => z) fun _ _ z => z.elim
end
/-- [elt for target in iter if ..] as a value, where the element may raise -/
theorem pe_lcX {X : Cx} {elt tg iter : Expr} {ifs : List Expr} {scope : Scope} {own : List (Str × Nat)} {pos : Pos} {wi : TI} {g : TG} {tt : TT} {te : XK → TE} {W : WX}
    (hst : X.stack = X.env :: X.outer) (hfr : X.env.frame = some X.env.locals) (tk : Takes X W) (hc : X.calm = true) (nodup : X.N.Nodup) (hi : PI X tg iter wi) (ok : BlkOk X.N X.env.scope scope own)
    (hg : ∀ (s : Shared) (H : Hp) (C : Addr) (cl : List (Str × Addr)) (fp : List Addr), PG (X.blk s H scope (compEnvC scope cl C X.env) fp) tg g)
    (ht : ∀ (s : Shared) (H : Hp) (C : Addr) (cl : List (Str × Addr)) (fp : List Addr), PTs (X.blk s H scope (compEnvC scope cl C X.env) fp) ifs tt)
    (he : ∀ (EX : XK) (s : Shared) (H : Hp) (C : Addr) (cl : List (Str × Addr)) (fp : List Addr), PE (blkE X s H scope (compEnvC scope cl C X.env) fp EX) elt (te EX)) (hs : ∀ x, foldedSetIterable iter X.env x = pure x := by intro _; rfl) :
    PE X (.ListComp elt [⟨tg, iter, ifs, 0⟩] scope pos) (fun σ H Q => tLc wi g tt (te fun cls d H' => W cls d σ H') (own.map (·.2)) σ H Q) := by
  constructor
  intro pins s σ H Q I h
  have h : tLc wi g tt (te fun cls d H' => W cls d σ H') (own.map (·.2)) σ H Q := h
  rw [eval_ListComp]
  have cells : ∀ y ∈ scope.names, y.2 = .free → ∃ c, X.env.cells.lookup y.1 = some c := fun y hy e => I.ok.has _ (ok.free y hy e)
  refine comp_err rfl hs (closure_ok cells) ok.kind (fun y hy e => by rw [ok.uniq y hy, e]) (thn (hi.run pins s σ H _ I h) fun xv s1 hx => thn hx fun itv sA h2 => ?_)
  obtain ⟨it, fp, tn, J, HA, rfl, J2, T, trA, ftA, q⟩ := h2
  refine wpAny_newObj_type (newEnv_comp ?_) (show 0 ≤ sizeLine by decide)
  -- the new list
  obtain ⟨D, hD⟩ : ∃ D, D = sA.heap.objs.size := ⟨_, rfl⟩
  rw [← hD]
  obtain ⟨Wi, ⟨m0, w0⟩, step⟩ := q D (J2.hok.fresh (Nat.le_of_eq hD.symm))
  obtain ⟨sB, hs3⟩ : ∃ sB : Shared, sB = { sA with heap := sA.heap.push { cls := .type "list", data := .seq ([] : List Value).toArray } } := ⟨_, rfl⟩
  have e3 : sB.heap = sA.heap.push { cls := .type "list", data := .seq ([] : List Value).toArray } := by rw [hs3]
  have J3 : Inv X pins σ (upd HA D (.lst [])) sB := by
    rw [hs3]
    refine J2.laid (t' := sA.toks) (fun b o e => Heap.get?_push_of_some _ e) (Nat.le_of_eq hD.symm) ⟨Nat.zero_le _, [], 0, .nil, ?_⟩
    rw [hD]
    exact (Heap.get?_push_size _ rfl)
  have old : ∀ b ∈ fp, b < sA.heap.objs.size := fun b hb => by
    obtain ⟨o, e, _⟩ := T.obj _ _ trA b hb
    exact Heap.lt_size e
  have ftB : ∀ b ∈ fp, FpOk X pins (upd HA D (.lst [])) b ∧ b < sB.heap.objs.size := fun b hb => by
    have isOld := old b hb
    refine ⟨⟨?_, (ftA b hb).2⟩, by rw [e3, Heap.size_push]; exact Nat.lt_succ_of_lt isOld⟩
    rw [upd_ne (by rw [hD]; exact Nat.ne_of_lt isOld)]
    exact (ftA b hb).1
  have J4 := block_start J3 ok nodup ftB
  have trC : tn 0 (pushCells (sB.heap.push { cls := .type "dict", data := .dict #[] }) scope.names) := T.keep _ _ _ trA fun b _ o e => pushCells_keeps _ _ _ _ (Heap.get?_push_of_some _ (by rw [e3]; exact Heap.get?_push_of_some _ e))
  have gPg := hg sB (upd HA D (.lst [])) sB.heap.objs.size (cellsFrom (sB.heap.objs.size + 1) scope.names (cloFrom X.env.cells scope.names [])) fp
  have gPt := ht sB (upd HA D (.lst [])) sB.heap.objs.size (cellsFrom (sB.heap.objs.size + 1) scope.names (cloFrom X.env.cells scope.names [])) fp
  have gPe := he (fun cls d H' => W cls d σ H') sB (upd HA D (.lst [])) sB.heap.objs.size (cellsFrom (sB.heap.objs.size + 1) scope.names (cloFrom X.env.cells scope.names [])) fp
  rw [← hs3]
  show codeAny _ _ (.compStart (.ListComp elt [⟨tg, iter, ifs, 0⟩] scope pos) 0 (.ref it) (.ref D) (compEnvC scope (cellsFrom (sB.heap.objs.size + 1) scope.names (cloFrom X.env.cells scope.names [])) sB.heap.objs.size X.env)) (OutOf (model X.prog X.w) X.A X.xe (EP X pins σ Q) (.ref D) _) { sB with heap := pushCells (sB.heap.push { cls := .type "dict", data := .dict #[] }) scope.names }
  have nC : ∀ {σ' : L2.St} {H' : Hp} {s' : Shared}, Inv (X.blk sB (upd HA D (.lst [])) scope (compEnvC scope (cellsFrom (sB.heap.objs.size + 1) scope.names (cloFrom X.env.cells scope.names [])) sB.heap.objs.size X.env) fp) [] σ' H' s' → H' sB.heap.objs.size = none := fun I' => I'.free
  have loop : codeAny (model X.prog X.w) X.A (.compLoop (.ListComp elt [⟨tg, iter, ifs, 0⟩] scope pos) 0 (.ref it) (.ref D) (compEnvC scope (cellsFrom (sB.heap.objs.size + 1) scope.names (cloFrom X.env.cells scope.names [])) sB.heap.objs.size X.env)) (OutOf (model X.prog X.w) X.A X.xe (EP X pins σ Q) (.ref D) (compEnvC scope (cellsFrom (sB.heap.objs.size + 1) scope.names (cloFrom X.env.cells scope.names [])) sB.heap.objs.size X.env)) { sB with heap := pushCells (sB.heap.push { cls := .type "dict", data := .dict #[] }) scope.names } := by
    refine loopX (D := D) (sB := sB) (HB := upd HA D (.lst [])) (fp := fp) (vs := own.map (·.2)) (EX := fun cls d H' => W cls d σ H') (QD := fun H' => Q (.ref D) H') hc T (fun b hb => ?_) gPg gPt gPe J4 trC (fun b hb => (ftB b hb).1.1) w0 step ?_ ?_
    · obtain ⟨k1, k2⟩ := J4.ok.exf b hb
      exact ⟨k1, k2, J4.ok.exfs b hb⟩
    · intro H' s' I' qq
      have J7 : Inv X pins σ H' s' := J3.call' (ch := fp) I'.os I'.base I'.hok I'.bare fun b hb => ⟨(ftB b hb).1.2.2.2.1, (ftB b hb).1.2.1, (ftB b hb).1.2.2.2.2.1, (ftB b hb).1.2.2.2.2.2⟩
      obtain ⟨m, hn, _⟩ := I'.loc
      refine ⟨m, hn, fun h' sb => ?_⟩
      obtain ⟨k0, k1, k2, k3, k4, k5⟩ := J3.fpOk (Nat.le_refl _) (nC I')
      exact ⟨.ref D, H', J7.turned (t' := s'.toks) (fun b o hb e => (sb.2 b hb).trans e) k0 k1 k3 k4 k5, rfl, qq⟩
    · intro u s' x
      exact block_out (ce := compEnvC scope (cellsFrom (sB.heap.objs.size + 1) scope.names (cloFrom X.env.cells scope.names [])) sB.heap.objs.size X.env) (scope := scope) (Wb := fun cls d _ H' => W cls d σ H') J3 hst hfr rfl rfl (fun b hb => (ftB b hb).1) tk (fun _ _ _ _ z => z) x
  exact codeAny_compStart_list loop (T.self X.A 0 { sB with heap := pushCells (sB.heap.push { cls := .type "dict", data := .dict #[] }) scope.names } _ _ trC loop)
end L2X

set_option maxRecDepth 100000
set_option maxHeartbeats 4000000
namespace L2X
open PySem PySem.Spec PyProof.Rows L2
section
variable {M : Model} {A : Around} {s : Shared} {env : Env} {E : Value → Shared → Prop}
/-- as OutOf, where the list is handed to u before the block's names are let go -/
def OutU (M : Model) (A : Around) (E : Value → Shared → Prop) (Q : Value → Shared → Prop) (u : Value → Sem Unit) (acc : Value) (cenv : Env) : Result → Shared → Prop
  | .ok _, s' => wpAny M A (u acc) (fun _ s'' => ∃ m, s''.heap.Ns cenv.locals m ∧ ∀ h', Heap.SameBut cenv.locals s''.heap h' → Q .none { s'' with heap := h' }) E s'
  | .error x, s' => ErrOut M A E x cenv.locals cenv.frame s'
theorem comp_errU {e : Expr} {scope : Scope} {pos : Pos} {newAcc first : Sem Value} {g : Comprehension} {gs : List Comprehension} {cl : List (Str × Addr)} {Q : Value → Shared → Prop} {u : Value → Sem Unit}
    (isCls : clausesOf e = g :: gs) (hs : ∀ y, foldedSetIterable g.iter env y = pure y) (isClo : closureFor scope env = pure cl)
    (isFun : scope.kind = .function) (isLoc : ∀ y ∈ scope.names, y.2 = .local → scope.names.lookup y.1 = some .local)
    (h : wpAny M A first (fun x t1 => wpAny M A (pyIter x) (fun it t2 => wpAny M A newAcc (fun acc t3 =>
      wpAny M A (newFunctionEnv scope env.globals cl [] env.qual none .none (some env)) (fun cenv t4 =>
        codeAny M A (.compStart e 0 it acc { cenv with scope := relabel scope env }) (OutU M A E Q u acc cenv) t4) E t3) E t2) E t1) E s) :
    wpAny M A (comprehension e scope env pos newAcc false first (.some u)) Q E s := by
  have loc : ∀ (cenv : Env), ∀ x ∈ (scope.names.filter fun x => (x.2 == .local || x.2 == .cell) && x.1 != (".0" : Str)).reverse, x.2 = .local → Env.kindOf { cenv with scope := relabel scope env } x.1 = some .local := fun cenv x hx hl =>
    lookup_relabel_local (isLoc x (List.mem_filter.mp (List.mem_reverse.mp hx)).1 hl)
  unfold comprehension
  rw [isClo, isCls]
  refine wpAny_bind (wpAny_mono h (fun x t1 k1 => ?_) fun _ _ z => z)
  refine wpAny_bind (wpAny_standAt (wpAny_bind (wpAny_of_eq (hs x) ?_)))
  refine wpAny_bind (wpAny_holding (wpAny_mono k1 (fun it t2 k2 => ?_) fun _ _ z => z))
  refine wpAny_standIf (wpAny_bind (wpAny_mono k2 (fun acc t3 k3 => ?_) fun _ _ z => z))
  refine wpAny_bind (wpAny_pure (wpAny_bind (wpAny_mono k3 (fun cenv t4 k4 => ?_) fun _ _ z => z)))
  dsimp only
  refine wpAny_holding (wpAny_bind (wpAny_attempt (wpAny_holding (wpAny_run (codeAny_mono k4 fun r s' hr => ?_)))))
  cases r with
  | ok f =>
    refine wpAny_bind (wpAny_rule (wpAny_bind (wpAny_holding (wpAny_mono hr (fun _ s'' q => ?_) fun _ _ z => z))))
    obtain ⟨m, hn, q⟩ := q
    refine wpAny_bind (wpAny_comp_letGo (cenv := { cenv with scope := relabel scope env }) isFun _ s'' m (fun x hx hl => ?_) hn fun h' _ _ sb => wpAny_pure (q h' sb))
    rcases List.mem_append.mp hx with z | z
    · exact loc cenv x (List.mem_of_mem_drop z) hl
    · exact loc cenv x (List.mem_of_mem_take z) hl
  | error x =>
    obtain ⟨⟨m, hn⟩, q⟩ := hr
    exact wpAny_bind (wpAny_holding (wpAny_comp_letGo (cenv := { cenv with scope := relabel scope env }) isFun _ s' m (loc cenv) hn fun h' _ _ sb => wpAny_mono (q h' { cenv with scope := relabel scope env } sb rfl) (fun _ _ f => f.elim) fun _ _ z => z))
end
/-- name = [elt for target in iter if ..] on one row, where the element may raise -/
theorem ps_setLcX {X : Cx} {i : Nat} {y : Str} {py : Pos} {elt tg iter : Expr} {ifs : List Expr} {scope : Scope} {own : List (Str × Nat)} {pos spos : Pos} {wi : TI} {g : TG} {tt : TT} {te : XK → TE} {W : WX}
    (hst : X.stack = X.env :: X.outer) (hfr : X.env.frame = some X.env.locals) (tk : Takes X W) (hc : X.calm = true) (nodup : X.N.Nodup) (hy : X.N[i]? = some y) (hyl : X.env.scope.names.lookup y = some .local)
    (swp : swapsWith (.ListComp elt [⟨tg, iter, ifs, 0⟩] scope pos) (some (.Name y py)) spos.line X.env = pure true) (hi : PI X tg iter wi) (ok : BlkOk X.N X.env.scope scope own)
    (hg : ∀ (s : Shared) (H : Hp) (C : Addr) (cl : List (Str × Addr)) (fp : List Addr), PG (X.blk s H scope (compEnvC scope cl C X.env) fp) tg g)
    (ht : ∀ (s : Shared) (H : Hp) (C : Addr) (cl : List (Str × Addr)) (fp : List Addr), PTs (X.blk s H scope (compEnvC scope cl C X.env) fp) ifs tt)
    (he : ∀ (EX : XK) (s : Shared) (H : Hp) (C : Addr) (cl : List (Str × Addr)) (fp : List Addr), PE (blkE X s H scope (compEnvC scope cl C X.env) fp EX) elt (te EX)) (hs : ∀ x, foldedSetIterable iter X.env x = pure x := by intro _; rfl) :
    PS X (.Assign [.Name y py] (.ListComp elt [⟨tg, iter, ifs, 0⟩] scope pos) spos) (tAsg (fun σ H Q => tLc wi g tt (te fun cls d H' => W cls d σ H') (own.map (·.2)) σ H Q) (gName i)) := by
  refine ⟨fun pins s σ H D0 I h => ?_⟩
  have h : tLc wi g tt (te fun cls d H' => W cls d σ H') (own.map (·.2)) σ H (fun x H1 => gName i x σ H1 D0.nx) := h
  rw [exec_Assign_Name_used _ _ _ _ swp]
  refine wpAny_bind (wpAny_standAt ?_)
  refine wpAny_bind ?_
  show wpAny _ X.A (do let _z ← comprehension (.ListComp elt [⟨tg, iter, ifs, 0⟩] scope pos) scope X.env (firstIterPos [⟨tg, iter, ifs, 0⟩] pos) (newList []) false (eval iter X.env) (some (assign (.Name y py) X.env))) _ _ s
  have cells : ∀ y ∈ scope.names, y.2 = .free → ∃ c, X.env.cells.lookup y.1 = some c := fun y hy e => I.ok.has _ (ok.free y hy e)
  refine wpAny_bind (wpAny_mono (comp_errU (Q := fun _ s' => SP X pins D0 .next s') rfl hs (closure_ok cells) ok.kind (fun y hy e => by rw [ok.uniq y hy, e]) (thn (hi.run pins s σ H _ I h) fun xv s1 hx => thn hx fun itv sA h2 => ?_)) (fun _ s' hq => wpAny_pure (wpAny_pure hq)) fun _ _ z => z)
  obtain ⟨it, fp, tn, J, HA, rfl, J2, T, trA, ftA, q⟩ := h2
  refine wpAny_newObj_type (newEnv_comp ?_) (show 0 ≤ sizeLine by decide)
  obtain ⟨D, hD⟩ : ∃ D, D = sA.heap.objs.size := ⟨_, rfl⟩
  rw [← hD]
  obtain ⟨Wi, ⟨m0, w0⟩, step⟩ := q D (J2.hok.fresh (Nat.le_of_eq hD.symm))
  obtain ⟨sB, hs3⟩ : ∃ sB : Shared, sB = { sA with heap := sA.heap.push { cls := .type "list", data := .seq ([] : List Value).toArray } } := ⟨_, rfl⟩
  have e3 : sB.heap = sA.heap.push { cls := .type "list", data := .seq ([] : List Value).toArray } := by rw [hs3]
  have J3 : Inv X pins σ (upd HA D (.lst [])) sB := by
    rw [hs3]
    refine J2.laid (t' := sA.toks) (fun b o e => Heap.get?_push_of_some _ e) (Nat.le_of_eq hD.symm) ⟨Nat.zero_le _, [], 0, .nil, ?_⟩
    rw [hD]
    exact (Heap.get?_push_size _ rfl)
  have old : ∀ b ∈ fp, b < sA.heap.objs.size := fun b hb => by
    obtain ⟨o, e, _⟩ := T.obj _ _ trA b hb
    exact Heap.lt_size e
  have ftB : ∀ b ∈ fp, FpOk X pins (upd HA D (.lst [])) b ∧ b < sB.heap.objs.size := fun b hb => by
    have isOld := old b hb
    refine ⟨⟨?_, (ftA b hb).2⟩, by rw [e3, Heap.size_push]; exact Nat.lt_succ_of_lt isOld⟩
    rw [upd_ne (by rw [hD]; exact Nat.ne_of_lt isOld)]
    exact (ftA b hb).1
  have J4 := block_start J3 ok nodup ftB
  have trC : tn 0 (pushCells (sB.heap.push { cls := .type "dict", data := .dict #[] }) scope.names) := T.keep _ _ _ trA fun b _ o e => pushCells_keeps _ _ _ _ (Heap.get?_push_of_some _ (by rw [e3]; exact Heap.get?_push_of_some _ e))
  have gPg := hg sB (upd HA D (.lst [])) sB.heap.objs.size (cellsFrom (sB.heap.objs.size + 1) scope.names (cloFrom X.env.cells scope.names [])) fp
  have gPt := ht sB (upd HA D (.lst [])) sB.heap.objs.size (cellsFrom (sB.heap.objs.size + 1) scope.names (cloFrom X.env.cells scope.names [])) fp
  have gPe := he (fun cls d H' => W cls d σ H') sB (upd HA D (.lst [])) sB.heap.objs.size (cellsFrom (sB.heap.objs.size + 1) scope.names (cloFrom X.env.cells scope.names [])) fp
  rw [← hs3]
  show codeAny _ _ (.compStart (.ListComp elt [⟨tg, iter, ifs, 0⟩] scope pos) 0 (.ref it) (.ref D) (compEnvC scope (cellsFrom (sB.heap.objs.size + 1) scope.names (cloFrom X.env.cells scope.names [])) sB.heap.objs.size X.env)) (OutU (model X.prog X.w) X.A X.xe _ (assign (.Name y py) X.env) (.ref D) _) { sB with heap := pushCells (sB.heap.push { cls := .type "dict", data := .dict #[] }) scope.names }
  have nC : ∀ {σ' : L2.St} {H' : Hp} {s' : Shared}, Inv (X.blk sB (upd HA D (.lst [])) scope (compEnvC scope (cellsFrom (sB.heap.objs.size + 1) scope.names (cloFrom X.env.cells scope.names [])) sB.heap.objs.size X.env) fp) [] σ' H' s' → H' sB.heap.objs.size = none := fun I' => I'.free
  have loop : codeAny (model X.prog X.w) X.A (.compLoop (.ListComp elt [⟨tg, iter, ifs, 0⟩] scope pos) 0 (.ref it) (.ref D) (compEnvC scope (cellsFrom (sB.heap.objs.size + 1) scope.names (cloFrom X.env.cells scope.names [])) sB.heap.objs.size X.env)) (OutU (model X.prog X.w) X.A X.xe (fun _ s' => SP X pins D0 .next s') (assign (.Name y py) X.env) (.ref D) (compEnvC scope (cellsFrom (sB.heap.objs.size + 1) scope.names (cloFrom X.env.cells scope.names [])) sB.heap.objs.size X.env)) { sB with heap := pushCells (sB.heap.push { cls := .type "dict", data := .dict #[] }) scope.names } := by
    refine loopX (D := D) (sB := sB) (HB := upd HA D (.lst [])) (fp := fp) (vs := own.map (·.2)) (EX := fun cls d H' => W cls d σ H') (QD := fun H' => gName i (.ref D) σ H' D0.nx) hc T (fun b hb => ?_) gPg gPt gPe J4 trC (fun b hb => (ftB b hb).1.1) w0 step ?_ ?_
    · obtain ⟨k1, k2⟩ := J4.ok.exf b hb
      exact ⟨k1, k2, J4.ok.exfs b hb⟩
    · intro H' s' I' qq
      have J7 : Inv X pins σ H' s' := J3.call' (ch := fp) I'.os I'.base I'.hok I'.bare fun b hb => ⟨(ftB b hb).1.2.2.2.1, (ftB b hb).1.2.1, (ftB b hb).1.2.2.2.2.1, (ftB b hb).1.2.2.2.2.2⟩
      obtain ⟨m, hn, _⟩ := I'.loc
      have hn : s'.heap.Ns sB.heap.objs.size m := hn
      obtain ⟨k0, k1, k2, k3, k4, k5⟩ := J3.fpOk (Nat.le_refl _) (nC I')
      show wpAny _ _ (assign (.Name y py) X.env (.ref D)) _ _ _
      refine wpAny_assign_Name (store_ok2 (v := V.ref D) J7 nodup hy (.inl hyl) rfl (fun sA J8 ⟨a, sb, ha⟩ => ?_) (.inr hyl))
      have neC : sB.heap.objs.size ≠ a := by
        rcases ha with z | z
        · rw [z]
          exact k1
        · exact fun e => k4 y a z e.symm
      refine ⟨m, hn.sameBut sb neC, fun h3 sb3 => ?_⟩
      exact ⟨_, H', J8.turned (t' := sA.toks) (fun b o hb e => (sb3.2 b hb).trans e) k0 k1 k3 k4 k5, qq⟩
    · intro u s' x
      exact block_out (ce := compEnvC scope (cellsFrom (sB.heap.objs.size + 1) scope.names (cloFrom X.env.cells scope.names [])) sB.heap.objs.size X.env) (scope := scope) (Wb := fun cls d _ H' => W cls d σ H') J3 hst hfr rfl rfl (fun b hb => (ftB b hb).1) tk (fun _ _ _ _ z => z) x
  exact codeAny_compStart_list loop (T.self X.A 0 { sB with heap := pushCells (sB.heap.push { cls := .type "dict", data := .dict #[] }) scope.names } _ _ trC loop)
end L2X

set_option maxRecDepth 100000
set_option maxHeartbeats 400000
/-! ### words that tell whole numbers -/
namespace LW
open PySem
def figs : List Nat → List Nat
  | 45 :: r => r
  | l => l
def ws (w : Str) : List Nat := w.cps.toList
structure FigOk (w : Str) : Prop where
  ne : figs (ws w) ≠ []
  dg : NumText.AllDigits (figs (ws w))
  le : (figs (ws w)).length ≤ 60
def valW (w : Str) : Int := if (ws w).head? = some 45 then -((NumText.digitsVal (figs (ws w)) : Nat) : Int) else ((NumText.digitsVal (figs (ws w)) : Nat) : Int)
structure Canon (w : Str) : Prop where
  f : FigOk w
  h : (figs (ws w)).head? ≠ some 48 ∨ figs (ws w) = [48]
  z : ws w ≠ [45, 48]
theorem figs_neg (r : List Nat) : figs (45 :: r) = r := rfl
theorem figs_pos {l : List Nat} (h : l.head? ≠ some 45) : figs l = l := by
  match l, h with
  | [], _ => rfl
  | c :: r, h =>
    have h : c ≠ 45 := fun z => h (by rw [z]; rfl)
    unfold figs
    split
    · rename_i r' e
      cases e
      exact absurd rfl h
    · rfl
theorem ws_len (w : Str) : (ws w).length = w.length := Array.length_toList
theorem figs_len (l : List Nat) : l.length ≤ (figs l).length + 1 := by
  unfold figs
  split <;> simp
theorem int_val {w : Str} (h : FigOk w) : intText? w = some (valW w) := by
  have hl : w.length ≤ 4300 := by
    have h1 := figs_len (ws w)
    have h2 := h.le
    rw [ws_len] at h1
    omega
  unfold valW
  by_cases e : (ws w).head? = some 45
  · rw [if_pos e]
    obtain ⟨r, hr⟩ : ∃ r, ws w = 45 :: r := by
      match q : ws w, e with
      | c :: r, e => cases e; exact ⟨r, rfl⟩
    have hd := h.dg
    have hn := h.ne
    rw [hr, figs_neg] at hd hn ⊢
    exact intText_neg hr hd hn hl
  · rw [if_neg e, figs_pos e]
    have hd := h.dg
    have hn := h.ne
    rw [figs_pos e] at hd hn
    exact intText_digits hd hn hl
/-! ### figures -/
abbrev dF (acc c : Nat) : Nat := acc * 10 + (c - 48)
theorem dv_def (cs : List Nat) : NumText.digitsVal cs = List.foldl dF 0 cs := by
  unfold NumText.digitsVal
  rfl
theorem dv_zero (r : List Nat) : NumText.digitsVal (48 :: r) = NumText.digitsVal r := by
  rw [dv_def, dv_def, List.foldl_cons]
theorem dv_ge (r : List Nat) : ∀ a : Nat, a ≤ List.foldl dF a r := by
  induction r with
  | nil => exact fun a => Nat.le_refl _
  | cons c r ih =>
    intro a
    rw [List.foldl_cons]
    exact Nat.le_trans (by show a ≤ a * 10 + (c - 48); omega) (ih _)
theorem dv_pos {c : Nat} {r : List Nat} (h : 49 ≤ c) : 0 < NumText.digitsVal (c :: r) := by
  rw [dv_def, List.foldl_cons]
  exact Nat.lt_of_lt_of_le (by show 0 < 0 * 10 + (c - 48); omega) (dv_ge r _)
/-- without the noughts ahead -/
theorem bare : ∀ {cs : List Nat}, NumText.AllDigits cs → cs ≠ [] → ∃ ds : List Nat, NumText.AllDigits ds ∧ (∃ n, ds.length = n + 1 ∧ (n = 0 ∨ ∃ c r, ds = c :: r ∧ 49 ≤ c)) ∧ NumText.digitsVal ds = NumText.digitsVal cs ∧ (cs.head? = some 48 ∧ 1 < cs.length → ds.length < cs.length) ∧ (cs.head? ≠ some 48 ∨ cs.length = 1 → ds = cs)
  | [], _, h => absurd rfl h
  | [c], hd, _ => ⟨[c], hd, ⟨0, rfl, .inl rfl⟩, rfl, fun h => absurd h.2 (by simp), fun _ => rfl⟩
  | c :: b :: r, hd, _ => by
    by_cases e : c = 48
    · subst e
      obtain ⟨ds, k1, k2, k3, k4, k5⟩ := bare (cs := b :: r) (fun x hx => hd x (List.mem_cons_of_mem _ hx)) (by simp)
      refine ⟨ds, k1, k2, by rw [k3, dv_zero], fun _ => ?_, fun h => ?_⟩
      · have : ds.length ≤ (b :: r).length := by
          by_cases q : (b :: r).head? = some 48 ∧ 1 < (b :: r).length
          · exact Nat.le_of_lt (k4 q)
          · rw [k5 (by
              by_cases q1 : (b :: r).head? = some 48
              · refine .inr ?_
                have : ¬ 1 < (b :: r).length := fun z => q ⟨q1, z⟩
                simp only [List.length_cons] at this ⊢
                omega
              · exact .inl q1)]
            exact Nat.le_refl _
        simp only [List.length_cons] at this ⊢
        omega
      · rcases h with h | h
        · exact absurd rfl h
        · simp at h
    · have h1 := hd c (List.mem_cons_self ..)
      exact ⟨c :: b :: r, hd, ⟨(b :: r).length, rfl, .inr ⟨c, b :: r, rfl, by omega⟩⟩, rfl, fun h => absurd (Option.some.inj h.1) e, fun _ => rfl⟩
theorem nat_of_char : ∀ {cs : List Nat}, NumText.AllDigits cs → (cs.map Char.ofNat).map Char.toNat = cs
  | [], _ => rfl
  | c :: r, h => by
    have h1 := h c (List.mem_cons_self ..)
    rw [List.map_cons, List.map_cons, nat_of_char fun x hx => h x (List.mem_cons_of_mem _ hx)]
    congr 1
    obtain ⟨h2, h3⟩ := h1
    rcases (by omega : c = 48 ∨ c = 49 ∨ c = 50 ∨ c = 51 ∨ c = 52 ∨ c = 53 ∨ c = 54 ∨ c = 55 ∨ c = 56 ∨ c = 57) with e | e | e | e | e | e | e | e | e | e <;> subst e <;> rfl
theorem ws_of (s : String) : ws (Str.ofString s) = s.toList.map Char.toNat := by
  show (cpsOfBytes 0 0 s.toByteArray.data.toList).toArray.toList = _
  rw [cpsOfBytes_string]
theorem nat_text (n : Nat) : ws (Str.ofString (toString ((n : Nat) : Int))) = (Nat.toDigits 10 n).map Char.toNat := by
  rw [ws_of]
  show (Nat.repr n).toList.map Char.toNat = _
  unfold Nat.repr
  rw [String.toList_ofList]
theorem neg_text (n : Nat) : ws (Str.ofString (toString (-((n + 1 : Nat) : Int)))) = 45 :: (Nat.toDigits 10 (n + 1)).map Char.toNat := by
  rw [ws_of]
  show ("-" ++ Nat.repr (n + 1)).toList.map Char.toNat = _
  rw [String.toList_append]
  unfold Nat.repr
  rw [show (String.ofList (Nat.toDigits 10 (n + 1))).toList = Nat.toDigits 10 (n + 1) from String.toList_ofList]
  rfl
theorem str_eq {v w : Str} (h : ws v = ws w) : v = w := by
  obtain ⟨a⟩ := v
  obtain ⟨b⟩ := w
  have h : a.toList = b.toList := h
  rw [Array.toList_inj.mp h]
/-- the figures that a number is told by -/
theorem digits_text {ds : List Nat} (h : NumText.AllDigits ds) (k : ∃ n, ds.length = n + 1 ∧ (n = 0 ∨ ∃ c r, ds = c :: r ∧ 49 ≤ c)) : (Nat.toDigits 10 (NumText.digitsVal ds)).map Char.toNat = ds := by
  obtain ⟨n, k1, k2⟩ := k
  rw [NumText.toDigits_digitsVal n ds k1 h k2, nat_of_char h]
theorem bare_eq {cs ds : List Nat} (ne : cs ≠ []) (k4 : cs.head? = some 48 ∧ 1 < cs.length → ds.length < cs.length) (k5 : cs.head? ≠ some 48 ∨ cs.length = 1 → ds = cs) : ds = cs ↔ (cs.head? ≠ some 48 ∨ cs = [48]) := by
  constructor
  · intro e
    by_cases q : cs.head? = some 48
    · refine .inr ?_
      match cs, ne, q with
      | c :: r, _, q =>
        cases q
        cases r with
        | nil => rfl
        | cons b r =>
          have := k4 ⟨rfl, by simp⟩
          rw [e] at this
          exact absurd this (Nat.lt_irrefl _)
    · exact .inl q
  · rintro (h | h)
    · exact k5 (.inl h)
    · exact k5 (.inr (by rw [h]; rfl))
/-- a word is told as it stands just where it is written as the law has it -/
theorem num_canon {w : Str} (h : FigOk w) : Str.ofString (toString (valW w)) = w ↔ Canon w := by
  obtain ⟨ds, k1, k2, k3, k4, k5⟩ := bare h.dg h.ne
  have be := bare_eq h.ne k4 k5
  have tx := digits_text k1 k2
  rw [k3] at tx
  by_cases e : (ws w).head? = some 45
  · obtain ⟨cs, hr⟩ : ∃ r, ws w = 45 :: r := by
      match q : ws w, e with
      | c :: r, e => cases e; exact ⟨r, rfl⟩
    have hf : figs (ws w) = cs := by rw [hr]; rfl
    have hv : valW w = -((NumText.digitsVal cs : Nat) : Int) := by
      unfold valW
      rw [if_pos e, hf]
    rw [hf] at be k3 tx
    rw [hv]
    cases q : NumText.digitsVal cs with
    | zero =>
      have no : ¬ Canon w := fun ca => by
        have hh := ca.h
        rw [hf] at hh
        have := be.mpr hh
        obtain ⟨n, n1, n2⟩ := k2
        rw [q] at k3
        have hs : ds = [48] := by
          rcases n2 with n2 | ⟨c, r, e1, e2⟩
          · match ds, n1, k1, k3 with
            | [c], _, k1, k3 =>
              have h1 := k1 c (List.mem_cons_self ..)
              have h2 : 0 * 10 + (c - 48) = 0 := by
                rw [dv_def] at k3
                exact k3
              rw [show c = 48 by omega]
            | _ :: _ :: _, n1, _, _ => simp at n1; omega
          · rw [e1] at k3
            have := dv_pos (r := r) e2
            omega
        refine ca.z ?_
        rw [hr, ← this, hs]
      refine ⟨fun z => ?_, fun z => absurd z no⟩
      have z2 := congrArg ws z
      rw [hr] at z2
      have z3 : ws (Str.ofString (toString (-((0 : Nat) : Int)))) = [48] := by decide +kernel
      rw [z3] at z2
      cases z2
    | succ m =>
      rw [q] at tx
      have ht : ws (Str.ofString (toString (-((m + 1 : Nat) : Int)))) = 45 :: ds := by rw [neg_text, tx]
      constructor
      · intro z
        have z2 := congrArg ws z
        rw [ht, hr] at z2
        injection z2 with _ z2
        refine ⟨h, by rw [hf]; exact be.mp z2, fun z => ?_⟩
        rw [hr] at z
        injection z with _ z
        rw [z, dv_zero] at q
        cases q
      · intro ca
        have hh := ca.h
        rw [hf] at hh
        refine str_eq ?_
        rw [ht, hr, be.mpr hh]
  · have hf : figs (ws w) = ws w := figs_pos e
    have hv : valW w = ((NumText.digitsVal (ws w) : Nat) : Int) := by
      unfold valW
      rw [if_neg e, hf]
    rw [hf] at be tx
    have ht : ws (Str.ofString (toString (valW w))) = ds := by rw [hv, nat_text, tx]
    constructor
    · intro z
      have z2 := congrArg ws z
      rw [ht] at z2
      exact ⟨h, by rw [hf]; exact be.mp z2, fun z => e (by rw [z]; rfl)⟩
    · intro ca
      have hh := ca.h
      rw [hf] at hh
      refine str_eq ?_
      rw [ht, be.mpr hh]
end LW

set_option maxRecDepth 100000
set_option maxHeartbeats 400000
/-! ### texts of words -/
namespace LW
open PySem
theorem blankS : (" " : Str) = { cps := #[32] } := by decide +kernel
theorem blank_tl : TL.tl (" " : Str) = [32] := by decide +kernel
theorem blank_cps : ((" " : Str)).cps.all (· < 256) = true := by decide +kernel
theorem words_free {t p : Str} (h : p ∈ Txt.split t " ") : 32 ∉ ws p := by
  rw [blankS] at h
  exact StrLaws.split_free t 32 p h
theorem words_join (t : Str) : Txt.join " " (Txt.split t " ") = t := by
  rw [TL.join_eq]
  exact StrLaws.join_split t " "
theorem words_ne (t : Str) : Txt.split t " " ≠ [] := fun e => by
  by_cases h : t = ""
  · subst h
    have : Txt.split "" " " ≠ [] := by decide +kernel
    exact this e
  · have := words_join t
    rw [e] at this
    exact h (this.symm.trans (by decide +kernel))
theorem num_free (z : Int) : 32 ∉ ws (Str.ofString (toString z)) := by
  have k : ∀ n : Nat, 32 ∉ (Nat.toDigits 10 n).map Char.toNat := fun n h => by
    have := (TL.numL_digits n 32 h).1
    omega
  cases z with
  | ofNat n =>
    intro h
    have h : 32 ∈ ws (Str.ofString (toString ((n : Nat) : Int))) := h
    rw [nat_text] at h
    exact k n h
  | negSucc n =>
    intro h
    have h : 32 ∈ ws (Str.ofString (toString (-((n + 1 : Nat) : Int)))) := h
    rw [neg_text] at h
    rcases List.mem_cons.mp h with h | h
    · cases h
    · exact k _ h
/-- told word by word -/
theorem text_iff {t : Str} {us : List Str} (hl : us.length = (Txt.split t " ").length) (hu : ∀ u ∈ us, 32 ∉ ws u) : Txt.join " " us = t ↔ us = Txt.split t " " := by
  constructor
  · intro h
    have ne : us ≠ [] := fun e => by
      rw [e] at hl
      exact words_ne t (List.length_eq_zero_iff.mp hl.symm)
    have := TL.split_join blank_tl blank_cps ne fun p hp => hu p hp
    rw [h] at this
    exact this.symm
  · intro h
    rw [h, words_join]
/-- the program's look at a word -/
theorem dig_at : ∀ c, c < 128 → (Unicode.isDigit c = true ↔ 48 ≤ c ∧ c ≤ 57) := by decide +kernel
theorem look_iff (f : Str) : (Txt.isascii f = true ∧ Txt.isdigit f = true) ↔ (ws f ≠ [] ∧ NumText.AllDigits (ws f)) := by
  unfold Txt.isascii Txt.isdigit
  rw [Bool.and_eq_true, decide_eq_true_iff, ← Array.all_toList, ← Array.all_toList, List.all_eq_true, List.all_eq_true]
  have hl : f.length = (ws f).length := (ws_len f).symm
  constructor
  · rintro ⟨h1, h2, h3⟩
    refine ⟨fun e => ?_, fun c hc => ?_⟩
    · rw [hl, e] at h2
      exact absurd h2 (by simp)
    · exact (dig_at c (of_decide_eq_true (h1 c hc))).mp (h3 c hc)
  · rintro ⟨h1, h2⟩
    refine ⟨fun c hc => decide_eq_true (by have := (h2 c hc).2; omega), ?_, fun c hc => ?_⟩
    · rw [hl]
      exact List.length_pos_iff.mpr h1
    · have := h2 c hc
      exact (dig_at c (by omega)).mpr this
/-- a text of words is told as it stands just where each word is written as the law has it -/
theorem lags_iff {t : Str} (h : ∀ w ∈ Txt.split t " ", FigOk w) : Txt.join " " ((Txt.split t " ").map fun w => Str.ofString (toString (valW w))) = t ↔ ∀ w ∈ Txt.split t " ", Canon w := by
  rw [text_iff (List.length_map _) fun u hu => by
    obtain ⟨w, _, rfl⟩ := List.mem_map.mp hu
    exact num_free _]
  constructor
  · intro e w hw
    obtain ⟨i, hi⟩ := List.getElem?_of_mem hw
    have h2 : ((Txt.split t " ").map fun w => Str.ofString (toString (valW w)))[i]? = some w := by rw [e]; exact hi
    rw [List.getElem?_map, hi] at h2
    exact (num_canon (h w hw)).mp (Option.some.inj h2)
  · intro c
    conv => rhs; rw [← List.map_id (Txt.split t " ")]
    exact List.map_congr_left fun w hw => (num_canon (h w hw)).mpr (c w hw)
end LW

set_option maxRecDepth 100000
set_option maxHeartbeats 400000
namespace LW
open PySem
theorem dash : ("-" : Str) = ⟨#[45]⟩ := by decide +kernel
theorem starts_iff (w : Str) : Txt.startswith w "-" = decide ((ws w).head? = some 45) := by
  unfold Txt.startswith
  rw [dash]
  simp only [Builtin.Str.subAt]
  obtain ⟨a⟩ := w
  show (decide (0 + 1 ≤ a.size) && (a.extract 0 (0 + 1) == #[45])) = decide (a.toList.head? = some 45)
  obtain ⟨l⟩ := a
  cases l with
  | nil => rfl
  | cons c r =>
    have e : (⟨c :: r⟩ : Array Nat).extract 0 (0 + 1) = #[c] := by simp
    rw [e]
    by_cases h : c = 45
    · subst h
      simp
    · have h1 : ¬ (#[c] = #[45]) := fun z => h (by simpa using z)
      have h2 : ¬ ((c :: r).head? = some 45) := fun z => h (Option.some.inj z)
      simp [h]
theorem cut1 (w : Str) : ws (L2.cutS w (some 1) none) = (ws w).drop 1 := by
  have hl : (ws w).length = w.length := ws_len w
  unfold L2.cutS
  show ((((ws w).drop _).take _).toArray).toList = _
  have e : HT.sIx w.length 0 (some 1) = min 1 w.length := HT.sIx_nat w.length 0 1
  rw [e, HT.sIx_none, List.toList_toArray]
  by_cases h : 1 ≤ w.length
  · rw [Nat.min_eq_left h]
    exact List.take_of_length_le (by rw [List.length_drop]; omega)
  · have h0 : ws w = [] := List.length_eq_zero_iff.mp (by omega)
    rw [h0]
    simp
/-- the figures as the program takes them -/
def figS (w : Str) : Str := if Txt.startswith w "-" = true then L2.cutS w (some 1) none else w
theorem figS_ws (w : Str) : ws (figS w) = figs (ws w) := by
  unfold figS
  rw [starts_iff]
  by_cases h : (ws w).head? = some 45
  · rw [decide_eq_true h, if_pos rfl, cut1]
    match q : ws w, h with
    | c :: r, h =>
      cases h
      rfl
  · rw [decide_eq_false h, if_neg (by decide), figs_pos h]
theorem figOk_iff (w : Str) : FigOk w ↔ (Txt.isascii (figS w) = true ∧ Txt.isdigit (figS w) = true ∧ (figS w).length ≤ 60) := by
  have hl : (figS w).length = (figs (ws w)).length := by rw [← figS_ws, ws_len]
  have k := look_iff (figS w)
  rw [figS_ws] at k
  constructor
  · intro h
    obtain ⟨k1, k2⟩ := k.mpr ⟨h.ne, h.dg⟩
    exact ⟨k1, k2, by rw [hl]; exact h.le⟩
  · rintro ⟨h1, h2, h3⟩
    obtain ⟨k1, k2⟩ := k.mp ⟨h1, h2⟩
    exact ⟨k1, k2, by rw [← hl]; exact h3⟩
theorem figS_len (w : Str) : w.length ≤ (figS w).length + 1 := by
  rw [← ws_len, ← ws_len, figS_ws]
  exact figs_len (ws w)
end LW
namespace Lag
open PySem PySem.Spec PyProof.Rows L2
/-- what the top tells of a class under LagError that has nothing of its own -/
structure PEx (K : PySem.W.Frag) (mg : Str → Option Value) (x : Str) (C : Addr) : Prop where
  g : mg x = some (.ref C)
  q : PySem.W.excIn K C [.type "ValueError", .type "Exception", .type "BaseException", .type "object"] "ValueError.__new__" = true
  k : PySem.W.keepIn K (.ref C) = true
  e : PySem.W.subIn K (.ref C) (.type "BaseException") = some true
  t : PySem.W.typeIn K (.ref C) = some (.type "type")
  te : PySem.W.exmOne K (.ref C) (.ref C) = some true
abbrev sReadNum : Stmt := topS 10 -- @read_number
def spReadNumX (CT : Addr) : Sp := fun vs H Q E => ∃ w : Str, vs = [.str w] ∧ w.length ≤ 5000 ∧ (LW.FigOk w → Q (.int (LW.valW w)) H) ∧ (¬ LW.FigOk w → E (.ref CT) none H)
section
variable {P : Program} {w : World} {K : PySem.W.Frag} {mg : Str → Option Value} {base : Heap}
theorem scReadNum : FnScope ["word", "figures"] ["word"] (defScope sReadNum) := ⟨rfl, rfl, rfl, by decide +kernel, rfl, by decide +kernel, by decide +kernel⟩
theorem ok_readNumX {f CT : Addr} {fd : FuncData} (F : Fun K "read_number" "read_number" sReadNum f fd) (B : Bt mg) (hf : ∃ t, mg "MOST_FIGURES" = some (.int 60 t)) (NX : PEx K mg "NoText" CT) : FnOk P w K mg base (L2.CX P w) 1 f fd ["word"] (spReadNumX CT) := by
  obtain ⟨tf, hf⟩ := hf
  refine F.okX scReadNum (fun vs H Q E h => ?_) (fun cdv A outer s H vs Q E hr h => ?_)
  · obtain ⟨t, rfl, _⟩ := h
    rfl
  · obtain ⟨t, rfl, hlen, q, qn⟩ := h
    have nd := scReadNum.nd
    refine ⟨_, Evl.pss_cut (ps_set (i := 1) nd rfl (.inl rfl) (pe_ifExp (pt_val (pe_m1 PySem.F.slot_str_startswith PySem.F.type_str_startswith mt_startswith (pv 0) pe_str)) (pe_slice sl_str (pv 0) (po_some pe_int) po_none) (pv 0))) <|
      pss_cons (ps_if (PW.pt (pw_or (pt_not (pt_val (pe_m0 PySem.F.slot_str_isascii PySem.F.type_str_isascii mt_isascii (pv 1)))) (pw_or (pt_not (pt_val (pe_m0 PySem.F.slot_str_isdigit PySem.F.type_str_isdigit mt_isdigit (pv 1)))) (pw_or1 (pt_cmpR op_gt (pe_callB call_len_str (by rfl) B.len PySem.boot_len (pa_cons (pv 1) pa_nil)) (pe_glob (v := .int 60) (by rfl) hf ⟨_, rfl⟩) (nomark _)))))) (pss_one (ps_raise rfl (takes_of rfl rfl rfl rfl) (pmk_own PySem.F.excBase_ValueError NX.q NX.g NX.k (raises_own NX.e NX.t) (by rfl)))) pss_nil) <|
      pss_one <| ps_ret (pe_callTy call_int_str (by rfl) B.int (by decide +kernel) (pa_cons (pv 0) pa_nil)), ?_⟩
    have fl := LW.figS_len t
    have fk := LW.figOk_iff t
    refine ⟨fun σ H' => σ = [some (.str t), some (.str (LW.figS t))] ∧ H' = H, ?_, ?_⟩
    · refine ⟨_, rfl, ⟨_, rfl⟩, _, _, rfl, rfl, _, rfl, ite2 (fun e => ?_) (fun e => ?_)⟩
      · refine ⟨_, rfl, _, rfl, _, rfl, Nat.le_trans hlen (by decide), ?_⟩
        refine gn_norm (σ' := [some (.str t), some (.str (LW.figS t))]) ?_ ⟨rfl, rfl⟩
        unfold LW.figS
        rw [if_pos e]
        rfl
      · refine ⟨_, rfl, ?_⟩
        refine gn_norm (σ' := [some (.str t), some (.str (LW.figS t))]) ?_ ⟨rfl, rfl⟩
        unfold LW.figS
        rw [if_neg e]
        rfl
    rintro σ H' ⟨rfl, rfl⟩
    have fS : (LW.figS t).length ≤ 5000 := by
      unfold LW.figS
      split
      · exact Nat.le_trans (cutS_length _ _ _) hlen
      · exact hlen
    refine ⟨_, rfl, ⟨_, rfl⟩, _, rfl, rfl, trivial, Txt.isascii (LW.figS t), rfl, ?_⟩
    cases h1 : Txt.isascii (LW.figS t) with
    | false => exact iteT (qn fun z => by have := (fk.mp z).1; rw [h1] at this; cases this)
    | true =>
    refine iteF ?_
    refine ⟨_, rfl, ⟨_, rfl⟩, _, rfl, rfl, trivial, Txt.isdigit (LW.figS t), rfl, ?_⟩
    cases h2 : Txt.isdigit (LW.figS t) with
    | false => exact iteT (qn fun z => by have := (fk.mp z).2.1; rw [h2] at this; cases this)
    | true =>
    refine iteF ?_
    refine ⟨_, rfl, _, rfl, Nat.le_trans fS (by decide), _, _, rfl, rfl, _, rfl, ite2 (fun e => ?_) (fun e => ?_)⟩
    · have e := of_decide_eq_true e
      exact qn fun z => by
        have := (fk.mp z).2.2
        omega
    · have e : ¬ ((60 : Int) < (((LW.figS t).length : Nat) : Int)) := fun z => e (decide_eq_true z)
      have ok : LW.FigOk t := fk.mpr ⟨h1, h2, by omega⟩
      exact ⟨_, rfl, _, _, rfl, LW.int_val ok, by have := ok.le; have := LW.figS_ws t; have := LW.ws_len (LW.figS t); have := fk.mp ok; omega, q ok⟩
end
end Lag

set_option maxRecDepth 100000
set_option maxHeartbeats 4000000
namespace LW
open PySem
theorem dv_lt (r : List Nat) (h : NumText.AllDigits r) : ∀ a : Nat, List.foldl dF a r < (a + 1) * 10 ^ r.length := by
  induction r with
  | nil =>
    intro a
    show a < (a + 1) * 1
    omega
  | cons c r ih =>
    intro a
    have hc := h c (List.mem_cons_self ..)
    rw [List.foldl_cons, List.length_cons, Nat.pow_succ]
    have h1 := ih (fun x hx => h x (List.mem_cons_of_mem _ hx)) (dF a c)
    have h2 : dF a c + 1 ≤ (a + 1) * 10 := by show a * 10 + (c - 48) + 1 ≤ _; omega
    have h3 := Nat.mul_le_mul_right (10 ^ r.length) h2
    rw [show (a + 1) * (10 ^ r.length * 10) = (a + 1) * 10 * 10 ^ r.length by rw [Nat.mul_comm (10 ^ r.length) 10, Nat.mul_assoc]]
    omega
theorem val_abs {w : Str} (h : FigOk w) : (valW w).natAbs < 10 ^ 60 := by
  have h1 := dv_lt _ h.dg 0
  rw [← dv_def, Nat.zero_add, Nat.one_mul] at h1
  have h2 : 10 ^ (figs (ws w)).length ≤ 10 ^ 60 := Nat.pow_le_pow_right (by decide) h.le
  have h3 : (valW w).natAbs = NumText.digitsVal (figs (ws w)) := by
    unfold valW
    split
    · rw [Int.natAbs_neg, Int.natAbs_natCast]
    · rw [Int.natAbs_natCast]
  rw [h3]
  exact Nat.lt_of_lt_of_le h1 h2
theorem log_of {z : Int} (h : z.natAbs < 10 ^ 61) : z.natAbs.log2 < 1920 := by
  by_cases e : z.natAbs = 0
  · rw [e]
    decide
  · refine Nat.lt_of_lt_of_le ((Nat.log2_lt e).mpr (Nat.lt_of_lt_of_le h (show 10 ^ 61 ≤ 2 ^ 210 by decide))) (by decide)
theorem num_len {z : Int} (h : z.natAbs < 10 ^ 61) : (Str.ofString (toString z)).length ≤ 62 := by
  rw [← ws_len]
  cases z with
  | ofNat n =>
    show (ws (Str.ofString (toString ((n : Nat) : Int)))).length ≤ 62
    rw [nat_text, List.length_map]
    exact Nat.le_trans (PyProof.Rows.digits10_le (k := 61) (by decide) h) (by decide)
  | negSucc n =>
    show (ws (Str.ofString (toString (-((n + 1 : Nat) : Int))))).length ≤ 62
    rw [neg_text, List.length_cons, List.length_map]
    have := PyProof.Rows.digits10_le (k := 61) (by decide) (show n + 1 < 10 ^ 61 from h)
    omega
theorem sum_bd {l : List Nat} {b : Nat} (h : ∀ x ∈ l, x ≤ b) : l.sum ≤ l.length * b := by
  induction l with
  | nil => exact Nat.zero_le _
  | cons x r ih =>
    rw [List.sum_cons, List.length_cons, Nat.succ_mul]
    have h1 := h x (List.mem_cons_self ..)
    have h2 := ih fun y hy => h y (List.mem_cons_of_mem _ hy)
    omega
end LW
namespace Lag
open PySem PySem.Spec PyProof.Rows L2
abbrev sNumsT : Stmt := topS 8 -- @numbers_text
abbrev sChkText : Stmt := topS 9 -- @check_text
abbrev sLagsT : Stmt := topS 11 -- @lags_text
abbrev tStrI (i : Nat) : TE := tCB (fun xs H Q => ∃ z, xs = [.int z] ∧ z.natAbs.log2 < 1920 ∧ Q (.str (toString z)) H) (tCons (tVar i) tNil)
/-- whole numbers of at most sixty-one figures -/
def ShortZ (ns : List Int) : Prop := (∀ z ∈ ns, z.natAbs < 10 ^ 61) ∧ ns.length ≤ 5001
def lagsS (ns : List Int) : Str := Txt.join " " (ns.map fun z => Str.ofString (toString z))
def spNumsZ (K : PySem.W.Frag) : Sp := fun vs H Q _ => ∃ (l : Addr) (ns : List Int), vs = [.ref l] ∧ SqL K H l (ns.map V.int) ∧ ShortZ ns ∧ ∀ H', Same H H' → Q (.str (lagsS ns)) H'
theorem intv_at {ns : List Int} {i : Nat} {v : V} (h : (ns.map V.int)[i]? = some v) : ∃ z, ns[i]? = some z ∧ v = .int z := by
  rw [List.getElem?_map] at h
  cases e : ns[i]? with
  | none => rw [e] at h; cases h
  | some z =>
    rw [e] at h
    cases h
    exact ⟨z, rfl, rfl⟩
theorem small6k {n : Nat} (h : n ≤ 6000) : n < sizeLine := Nat.lt_of_le_of_lt h (by decide)
section
variable {P : Program} {w : World} {K : PySem.W.Frag} {mg : Str → Option Value} {base : Heap}
abbrev nNumsT : List Str := ["numbers", "number"]
theorem scNumsT : FnScope nNumsT ["numbers"] (defScope sNumsT) := ⟨rfl, rfl, rfl, by decide +kernel, rfl, by decide +kernel, by decide +kernel⟩
theorem ok_numsZ {f : Addr} {fd : FuncData} (F : Fun K "numbers_text" "numbers_text" sNumsT f fd) (B : Bt mg) : FnOk P w K mg base CX0 1 f fd ["numbers"] (spNumsZ K) := by
  refine F.ok scNumsT (fun vs H Q E h => ?_) (fun cdv A outer s H vs Q E hr h => ?_)
  · obtain ⟨l, ns, rfl, _⟩ := h
    rfl
  · obtain ⟨l, ns, rfl, sq, ⟨hz, hl⟩, q⟩ := h
    have nd := scNumsT.nd
    refine ⟨_, pss_one <| ps_ret <| pe_join pe_str (pe_lc (own := [("number", 1)]) (g := gName 1) (tt := tYes) (te := tStrI 1) rfl nd (pi_list (pv 0)) (blkOk_by (N := nNumsT) (sc := defScope sNumsT) (own := [("number", 1)]) (by decide +kernel)) (fun _ _ _ _ _ => pg_name (i := 1) nd rfl (.inl rfl)) (fun _ _ _ _ _ => pts_nil) (fun _ _ _ _ _ => pe_callTy call_str_int (by rfl) B.str (by decide +kernel) (pa_cons (pv 1) pa_nil))), ?_⟩
    refine ⟨⟨_, rfl⟩, _, rfl, l, rfl, ⟨_, sq⟩, fun D hD => ?_⟩
    refine lc_list (K := K) (a := l) (xs := ns.map V.int) (fun i Hc => Hc D = some (.lst (((ns.take i).map fun z => Str.ofString (toString z)).map V.str)) ∧ Same H Hc) ⟨upd_same, same_new hD⟩ (fun i Hc _ ⟨_, sm⟩ => sm.seq sq) ?_ ?_
    · rintro i v Hc hv ⟨hc, sm⟩
      obtain ⟨z, hzi, rfl⟩ := intv_at hv
      have hi : i < ns.length := (List.getElem?_eq_some_iff.mp hzi).1
      refine ⟨rfl, tyes ?_⟩
      refine ⟨_, rfl, z, rfl, LW.log_of (hz z (List.mem_of_getElem? hzi)), _, hc, ?_, ?_, same_mut sm hD⟩
      · rw [List.length_map, List.length_map, List.length_take]
        exact small6k (by omega)
      · rw [upd_same, List.take_add_one, hzi, List.map_append, List.map_append]
        rfl
    · rintro H2 ⟨hc, sm⟩
      rw [List.length_map, List.take_length] at hc
      refine ⟨" ", D, ns.map fun z => Str.ofString (toString z), rfl, rfl, .inl (SqL.of hc), ?_, q H2 sm⟩
      have hb : (" " : Str).length = 1 := by decide +kernel
      have hs := LW.sum_bd (l := (ns.map fun z => Str.ofString (toString z)).map (·.length)) (b := 62) fun x hx => by
        obtain ⟨y, hy, rfl⟩ := List.mem_map.mp hx
        obtain ⟨z, hzm, rfl⟩ := List.mem_map.mp hy
        exact LW.num_len (hz z hzm)
      rw [hb]
      rw [List.length_map, List.length_map] at hs
      rw [List.length_map]
      omega
theorem scChkText : FnScope ["text"] ["text"] (defScope sChkText) := ⟨rfl, rfl, rfl, by decide +kernel, rfl, by decide +kernel, by decide +kernel⟩
def spChkTextS : Sp := fun vs H Q _ => ∃ t : Str, vs = [.str t] ∧ Q .non H
theorem ok_chkTextS {f : Addr} {fd : FuncData} (F : Fun K "check_text" "check_text" sChkText f fd) (B : Bt mg) : FnOk P w K mg base CX0 1 f fd ["text"] spChkTextS := by
  refine F.ok scChkText (fun vs H Q E h => ?_) (fun cdv A outer s H vs Q E hr h => ?_)
  · obtain ⟨t, rfl, _⟩ := h
    rfl
  · obtain ⟨t, rfl, q⟩ := h
    refine ⟨_, pss_one (ps_if (pt_not (pt_val (pe_callB call_isi (by rfl) B.isi (by decide +kernel) (pa_cons (pv 0) (pa_cons (pe_bltn (v := .ty "str") (by rfl) B.str (by decide +kernel) rfl) pa_nil))))) (pss_one ps_never) pss_nil), ?_⟩
    exact ⟨_, rfl, _, _, _, _, true, rfl, .ty "str", .base (.str t), kit_ty (by decide +kernel), true, rfl, iteF q⟩
abbrev nLagsT : List Str := ["lags", "lag"]
theorem scLagsT : FnScope nLagsT ["lags"] (defScope sLagsT) := ⟨rfl, rfl, rfl, by decide +kernel, rfl, by decide +kernel, by decide +kernel⟩
theorem ok_lagsZ {f fW fN : Addr} {fd fdW fdN : FuncData} (F : Fun K "lags_text" "lags_text" sLagsT f fd) (B : Bt mg) (DW : DWhole P w K mg base fW fdW) (gN : mg "numbers_text" = some (.ref fN)) (kN : PySem.W.keepIn K (.ref fN) = true) (bN : Binds K fdN ["numbers"] []) (DNX : FnOk P w K mg base CX0 1 fN fdN ["numbers"] (spNumsZ K)) : FnOk P w K mg base CX0 2 f fd ["lags"] (spNumsZ K) := by
  refine F.ok scLagsT (fun vs H Q E h => ?_) (fun cdv A outer s H vs Q E hr h => ?_)
  · obtain ⟨l, ns, rfl, _⟩ := h
    rfl
  · obtain ⟨l, ns, rfl, sq, sz, q⟩ := h
    have nd := scLagsT.nd
    refine ⟨_, pss_cons (ps_if (PW.pt (pw_or (pt_not (pt_val (pe_callB call_isi (by rfl) B.isi (by decide +kernel) (pa_cons (pv 0) (pa_cons (pe_bltn (v := .ty "list") (by rfl) B.list (by decide +kernel) rfl) pa_nil)))))
          (pw_or1 (pt_not (pt_val (pe_callB (cr_all rfl) (by rfl) B.all (by decide +kernel) (pa_cons (pe_lc (own := [("lag", 1)]) (g := gName 1) (tt := tYes) (te := tCall spWhole [] E0 (tCons (tVar 1) tNil)) rfl nd (pi_list (pv 0)) (blkOk_by (N := nLagsT) (sc := defScope sLagsT) (own := [("lag", 1)]) (by decide +kernel)) (fun _ _ _ _ _ => pg_name (i := 1) nd rfl (.inl rfl)) (fun _ _ _ _ _ => pts_nil) (fun _ _ _ _ _ => pe_call DW.ok hr (by rfl) DW.mg DW.kp DW.bd .nil pass0 (pa_cons (pv 1) pa_nil))) pa_nil))))))) (pss_one ps_never) pss_nil) <|
      pss_one <| ps_ret <| pe_call DNX hr (by rfl) gN kN bN .nil pass0 (pa_cons (pv 0) pa_nil), ?_⟩
    have hl := sz.2
    refine ⟨_, rfl, _, _, _, _, true, rfl, .ty "list", ty_lst sq, kit_ty (by decide +kernel), true, rfl, iteF ?_⟩
    refine ⟨_, rfl, l, rfl, ⟨_, sq⟩, fun D hD => ?_⟩
    refine lc_list (K := K) (a := l) (xs := ns.map V.int) (fun i Hc => Hc D = some (.lst ((List.replicate i true).map V.bl)) ∧ Same H Hc) ⟨upd_same, same_new hD⟩ (fun i Hc _ ⟨_, sm⟩ => sm.seq sq) ?_ ?_
    · rintro i v Hc hv ⟨hc, sm⟩
      obtain ⟨z, hz, rfl⟩ := intv_at hv
      have hi : i < ns.length := (List.getElem?_eq_some_iff.mp hz).1
      refine ⟨rfl, tyes ?_⟩
      refine ⟨_, rfl, z, rfl, _, hc, ?_, ?_, same_mut sm hD⟩
      · rw [List.length_map, List.length_replicate]
        exact small6k (by omega)
      · rw [upd_same, List.replicate_succ', List.map_append]
        rfl
    rintro H1 ⟨hc, sm⟩
    have ea : (List.replicate (ns.map V.int).length true).all id = true := by
      rw [List.all_eq_true]
      intro y hy
      rw [List.mem_replicate] at hy
      rw [hy.2]
      rfl
    refine ⟨D, _, rfl, SqL.of hc, true, ?_, iteF ?_⟩
    · rw [ea]
    exact ⟨_, rfl, l, ns, rfl, sm.seq sq, sz, fun H2 s2 => q H2 (sm.trans s2)⟩
end
end Lag

set_option maxRecDepth 100000
set_option maxHeartbeats 4000000
namespace LW
open PySem
theorem words_len (t : Str) : (Txt.split t " ").length ≤ t.length + 1 ∧ ∀ w ∈ Txt.split t " ", w.length ≤ t.length := by
  have h := PyProof.Rows.split_weight t " " (by decide +kernel)
  have hp : 1 ≤ (Txt.split t " ").length := List.length_pos_iff.mpr (words_ne t)
  refine ⟨by omega, fun w hw => ?_⟩
  have gen : ∀ L : List Str, w ∈ L → w.length ≤ (L.map fun x => x.length).sum := fun L => by
    induction L with
    | nil => exact fun h => nomatch h
    | cons a r ih =>
      intro h
      rw [List.map_cons, List.sum_cons]
      rcases List.mem_cons.mp h with e | e
      · rw [e]
        omega
      · have := ih e
        omega
  have := gen _ hw
  omega
/-- the text of lags, as the law has it -/
def Good (t : Str) : Prop := t.length = 0 ∨ ∀ w ∈ Txt.split t " ", Canon w
def vals (t : Str) : List Int := if t.length = 0 then [] else (Txt.split t " ").map valW
end LW
namespace Lag
open PySem PySem.Spec PyProof.Rows L2
abbrev sReadLags : Stmt := topS 12 -- @read_lags
def spReadLagsX (K : PySem.W.Frag) (CT : Addr) : Sp := fun vs H Q E => ∃ t : Str, vs = [.str t] ∧ t.length ≤ 4000 ∧ (LW.Good t → ∀ l H', Same H H' → H l = none → H' l = some (.lst ((LW.vals t).map V.int)) → Q (.ref l) H') ∧ (¬ LW.Good t → ∀ H', Same H H' → E (.ref CT) none H')
section
variable {P : Program} {w : World} {K : PySem.W.Frag} {mg : Str → Option Value} {base : Heap}
abbrev nReadLags : List Str := ["text", "words", "word", "lags"]
theorem scReadLags : FnScope nReadLags ["text"] (defScope sReadLags) := ⟨rfl, rfl, rfl, by decide +kernel, rfl, by decide +kernel, by decide +kernel⟩
theorem ok_readLagsX {f fT fN fL CT : Addr} {fd fdT fdN fdL : FuncData} (F : Fun K "read_lags" "read_lags" sReadLags f fd) (B : Bt mg) (NX : PEx K mg "NoText" CT)
    (gT : mg "check_text" = some (.ref fT)) (kT : PySem.W.keepIn K (.ref fT) = true) (bT : Binds K fdT ["text"] []) (DT : FnOk P w K mg base CX0 1 fT fdT ["text"] spChkTextS)
    (gN : mg "read_number" = some (.ref fN)) (kN : PySem.W.keepIn K (.ref fN) = true) (bN : Binds K fdN ["word"] []) (DN : FnOk P w K mg base (L2.CX P w) 1 fN fdN ["word"] (spReadNumX CT))
    (gL : mg "lags_text" = some (.ref fL)) (kL : PySem.W.keepIn K (.ref fL) = true) (bL : Binds K fdL ["lags"] []) (DL : FnOk P w K mg base CX0 2 fL fdL ["lags"] (spNumsZ K)) : FnOk P w K mg base (L2.CX P w) 3 f fd ["text"] (spReadLagsX K CT) := by
  refine F.okX scReadLags (fun vs H Q E h => ?_) (fun cdv A outer s H vs Q E hr h => ?_)
  · obtain ⟨t, rfl, _⟩ := h
    rfl
  · obtain ⟨t, rfl, hlen, q, qn⟩ := h
    have nd := scReadLags.nd
    refine ⟨_, pss_cons (ps_expr (pe_call DT (hr.mono (by decide)) (by rfl) gT kT bT .nil pass0 (pa_cons (pv 0) pa_nil))) <|
      Evl.pss_cut (ps_set (i := 1) nd rfl (.inl rfl) (pe_ifExp (pt_cmpR op_gt (pe_callB call_len_str (by rfl) B.len PySem.boot_len (pa_cons (pv 0) pa_nil)) pe_int (nomark _)) (pe_split (pv 0) pe_str) (pe_lst pa_nil))) <|
      pss_cons (L2X.ps_setLcX (i := 3) (own := [("word", 2)]) (g := gName 2) (tt := tYes) (te := fun EX => tCall (spReadNumX CT) [] EX (tCons (tVar 2) tNil)) (W := fun cls d _ H' => E cls d H') rfl rfl (takes_of rfl rfl rfl rfl) rfl nd rfl rfl (sw_true rfl rfl rfl (by decide +kernel)) (pi_list (pv 1)) (blkOk_by (N := nReadLags) (sc := defScope sReadLags) (own := [("word", 2)]) (by decide +kernel)) (fun _ _ _ _ _ => pg_name (i := 2) nd rfl (.inl rfl)) (fun _ _ _ _ _ => pts_nil) (fun EX _ _ _ _ _ => pe_call DN (hr.mono (by decide)) (by rfl) gN kN bN .nil L2X.pass_blk (pa_cons (pv 2) pa_nil))) <|
      pss_cons (ps_if (pt_cmpR op_ne (pe_call DL (hr.mono (by decide)) (by rfl) gL kL bL .nil pass0 (pa_cons (pv 3) pa_nil)) (pv 0) (nomark _)) (pss_one (ps_raise rfl (takes_of rfl rfl rfl rfl) (pmk_own PySem.F.excBase_ValueError NX.q NX.g NX.k (raises_own NX.e NX.t) (by rfl)))) pss_nil) <|
      pss_one <| ps_ret (pv 3), ?_⟩
    obtain ⟨wl1, wl2⟩ := LW.words_len t
    refine ⟨_, rfl, _, rfl, ?_⟩
    -- the words
    refine ⟨fun σ H1 => ∃ (l1 : Addr) (W : List Str), σ = [some (.str t), some (.ref l1), none, none] ∧ H1 l1 = some (.lst (W.map V.str)) ∧ Same H H1 ∧ ((t.length = 0 ∧ W = []) ∨ (t.length ≠ 0 ∧ W = Txt.split t " ")), ?_, ?_⟩
    · refine ⟨_, rfl, _, rfl, Nat.le_trans hlen (by decide), _, _, rfl, rfl, _, rfl, ite2 (fun e => ?_) (fun e => ?_)⟩
      · have e := of_decide_eq_true e
        refine ⟨_, rfl, ⟨_, rfl⟩, _, _, rfl, rfl, (by decide +kernel), Nat.le_trans (Nat.add_le_add_right hlen 2) (by decide), fun l1 hl1 => ?_⟩
        refine gn_norm (σ' := [some (.str t), some (.ref l1), none, none]) rfl ⟨l1, _, rfl, upd_same, same_new hl1, .inr ⟨by omega, rfl⟩⟩
      · have e : ¬ ((0 : Int) < ((t.length : Nat) : Int)) := fun z => e (decide_eq_true z)
        refine ⟨(by show 0 ≤ sizeLine; decide), fun l1 hl1 => ?_⟩
        refine gn_norm (σ' := [some (.str t), some (.ref l1), none, none]) rfl ⟨l1, [], rfl, upd_same, same_new hl1, .inl ⟨by omega, rfl⟩⟩
    rintro σ H1 ⟨l1, W, rfl, e1, s1, hW⟩
    have hWl : W.length ≤ 4001 := by
      rcases hW with ⟨_, rfl⟩ | ⟨_, rfl⟩
      · exact Nat.zero_le _
      · omega
    have hWw : ∀ w ∈ W, w ∈ Txt.split t " " ∧ t.length ≠ 0 := fun w hw => by
      rcases hW with ⟨_, rfl⟩ | ⟨h0, rfl⟩
      · cases hw
      · exact ⟨hw, h0⟩
    have bad : ∀ w ∈ W, ¬ LW.Canon w → ¬ LW.Good t := fun w hw nc g => by
      obtain ⟨k1, k2⟩ := hWw w hw
      rcases g with g | g
      · exact k2 g
      · exact nc (g w k1)
    refine ⟨_, rfl, l1, rfl, ⟨_, SqL.of e1⟩, fun D hD => ?_⟩
    refine lc_list (K := K) (a := l1) (xs := W.map V.str) (fun i Hc => Hc D = some (.lst (((W.take i).map LW.valW).map V.int)) ∧ Same H1 Hc ∧ ∀ w ∈ W.take i, LW.FigOk w) ⟨upd_same, same_new hD, fun w h => by rw [List.take_zero] at h; cases h⟩ (fun i Hc _ ⟨_, sm, _⟩ => SqL.of (sm _ _ e1)) ?_ ?_
    · rintro i v Hc hv ⟨hc, sm, fo⟩
      obtain ⟨x, hx, rfl⟩ : ∃ x, W[i]? = some x ∧ v = .str x := by
        rw [List.getElem?_map] at hv
        cases e : W[i]? with
        | none => rw [e] at hv; cases hv
        | some z => rw [e] at hv; cases hv; exact ⟨z, rfl, rfl⟩
      have hxm := List.mem_of_getElem? hx
      refine ⟨rfl, tyes ?_⟩
      refine ⟨_, rfl, x, rfl, Nat.le_trans (wl2 x (hWw x hxm).1) (by omega), fun ok => ⟨_, hc, ?_, ?_, same_mut sm hD, fun w hw => ?_⟩, fun no => qn (bad x hxm fun ca => no ca.f) Hc (s1.trans sm)⟩
      · rw [List.length_map, List.length_map, List.length_take]
        exact small6k (by omega)
      · rw [upd_same, List.take_add_one, hx, List.map_append, List.map_append]
        rfl
      · rw [List.take_add_one, hx] at hw
        rcases List.mem_append.mp hw with z | z
        · exact fo w z
        · rw [List.mem_singleton.mp (show w ∈ [x] from z)]
          exact ok
    rintro H2 ⟨hc, sm, fo⟩
    rw [List.length_map, List.take_length] at hc fo
    refine gn_norm (σ' := [some (.str t), some (.ref l1), none, some (.ref D)]) rfl ?_
    have sz : ShortZ (W.map LW.valW) := ⟨fun z hz => by
      obtain ⟨w, hw, rfl⟩ := List.mem_map.mp hz
      exact Nat.lt_of_lt_of_le (LW.val_abs (fo w hw)) (by decide), by rw [List.length_map]; omega⟩
    refine ⟨_, rfl, D, W.map LW.valW, rfl, SqL.of hc, sz, fun H3 s3 => ?_⟩
    have s03 := (s1.trans sm).trans s3
    have key : lagsS (W.map LW.valW) = t ↔ LW.Good t := by
      unfold lagsS
      rw [List.map_map]
      rcases hW with ⟨h0, rfl⟩ | ⟨h0, rfl⟩
      · refine ⟨fun _ => .inl h0, fun _ => ?_⟩
        refine LW.str_eq ?_
        have e2 : LW.ws t = [] := List.length_eq_zero_iff.mp (by rw [LW.ws_len]; exact h0)
        rw [e2]
        decide +kernel
      · have k := LW.lags_iff (t := t) fo
        refine ⟨fun e => .inr (k.mp e), fun g => k.mpr ?_⟩
        rcases g with g | g
        · exact absurd g h0
        · exact g
    have hv : LW.vals t = W.map LW.valW := by
      unfold LW.vals
      rcases hW with ⟨h0, rfl⟩ | ⟨h0, rfl⟩
      · rw [if_pos h0]
        rfl
      · rw [if_neg h0]
    refine ⟨_, rfl, rfl, _, rfl, ?_⟩
    by_cases e : lagsS (W.map LW.valW) = t
    · rw [decide_eq_true (by rw [e])]
      refine iteF ?_
      exact ⟨_, rfl, q (key.mp e) D H3 s03 (s1.free hD) (by rw [hv]; exact s3 _ _ hc)⟩
    · rw [decide_eq_false fun z => e (V.str.inj z)]
      exact iteT (qn (fun g => e (key.mpr g)) H3 s03)
end
end Lag

set_option maxRecDepth 100000
set_option maxHeartbeats 4000000
namespace Lag
open PySem PySem.Spec PyProof.Rows L2
/-- what is no text -/
def NoStr (K : PySem.W.Frag) (H : Hp) (v : V) : Prop := ∃ t : String, TyX K H v (.type t) ∧ kitB t "str" = some false
def spChkTextN (K : PySem.W.Frag) (CT : Addr) : Sp := fun vs H _ E => ∃ v : V, vs = [v] ∧ NoStr K H v ∧ E (.ref CT) none H
def spReadLagsN (K : PySem.W.Frag) (CT : Addr) : Sp := fun vs H _ E => ∃ v : V, vs = [v] ∧ NoStr K H v ∧ E (.ref CT) none H
section
variable {P : Program} {w : World} {K : PySem.W.Frag} {mg : Str → Option Value} {base : Heap}
theorem ok_chkTextN {f CT : Addr} {fd : FuncData} (F : Fun K "check_text" "check_text" sChkText f fd) (B : Bt mg) (NX : PEx K mg "NoText" CT) : FnOk P w K mg base (L2.CX P w) 1 f fd ["text"] (spChkTextN K CT) := by
  refine F.okX scChkText (fun vs H Q E h => ?_) (fun cdv A outer s H vs Q E hr h => ?_)
  · obtain ⟨v, rfl, _⟩ := h
    rfl
  · obtain ⟨v, rfl, ⟨t, ty, hk⟩, qn⟩ := h
    refine ⟨_, pss_one (ps_if (pt_not (pt_val (pe_callB call_isi (by rfl) B.isi (by decide +kernel) (pa_cons (pv 0) (pa_cons (pe_bltn (v := .ty "str") (by rfl) B.str (by decide +kernel) rfl) pa_nil))))) (pss_one (ps_raise rfl (takes_of rfl rfl rfl rfl) (pmk_own PySem.F.excBase_ValueError NX.q NX.g NX.k (raises_own NX.e NX.t) (by rfl)))) pss_nil), ?_⟩
    exact ⟨_, rfl, _, _, _, _, false, rfl, .ty "str", ty, kit_ty hk, false, rfl, iteT qn⟩
theorem ok_readLagsN {f fT fN fL CT : Addr} {fd fdT fdN fdL : FuncData} (F : Fun K "read_lags" "read_lags" sReadLags f fd) (B : Bt mg) (NX : PEx K mg "NoText" CT)
    (gT : mg "check_text" = some (.ref fT)) (kT : PySem.W.keepIn K (.ref fT) = true) (bT : Binds K fdT ["text"] []) (DT : FnOk P w K mg base (L2.CX P w) 1 fT fdT ["text"] (spChkTextN K CT))
    (gN : mg "read_number" = some (.ref fN)) (kN : PySem.W.keepIn K (.ref fN) = true) (bN : Binds K fdN ["word"] []) (DN : FnOk P w K mg base (L2.CX P w) 1 fN fdN ["word"] (spReadNumX CT))
    (gL : mg "lags_text" = some (.ref fL)) (kL : PySem.W.keepIn K (.ref fL) = true) (bL : Binds K fdL ["lags"] []) (DL : FnOk P w K mg base CX0 2 fL fdL ["lags"] (spNumsZ K)) : FnOk P w K mg base (L2.CX P w) 3 f fd ["text"] (spReadLagsN K CT) := by
  refine F.okX scReadLags (fun vs H Q E h => ?_) (fun cdv A outer s H vs Q E hr h => ?_)
  · obtain ⟨v, rfl, _⟩ := h
    rfl
  · obtain ⟨v, rfl, hv, qn⟩ := h
    have nd := scReadLags.nd
    refine ⟨_, pss_cons (ps_expr (pe_call (E := E) DT (hr.mono (by decide)) (by rfl) gT kT bT .nil (passes_call (W := fun cls d _ H' => E cls d H') (takes_of rfl rfl rfl rfl) fun _ _ _ _ h => h) (pa_cons (pv 0) pa_nil))) <|
      Evl.pss_cut (ps_set (i := 1) nd rfl (.inl rfl) (pe_ifExp (pt_cmpR op_gt (pe_callB call_len_str (by rfl) B.len PySem.boot_len (pa_cons (pv 0) pa_nil)) pe_int (nomark _)) (pe_split (pv 0) pe_str) (pe_lst pa_nil))) <|
      pss_cons (L2X.ps_setLcX (i := 3) (own := [("word", 2)]) (g := gName 2) (tt := tYes) (te := fun EX => tCall (spReadNumX CT) [] EX (tCons (tVar 2) tNil)) (W := fun cls d _ H' => E cls d H') rfl rfl (takes_of rfl rfl rfl rfl) rfl nd rfl rfl (sw_true rfl rfl rfl (by decide +kernel)) (pi_list (pv 1)) (blkOk_by (N := nReadLags) (sc := defScope sReadLags) (own := [("word", 2)]) (by decide +kernel)) (fun _ _ _ _ _ => pg_name (i := 2) nd rfl (.inl rfl)) (fun _ _ _ _ _ => pts_nil) (fun EX _ _ _ _ _ => pe_call DN (hr.mono (by decide)) (by rfl) gN kN bN .nil L2X.pass_blk (pa_cons (pv 2) pa_nil))) <|
      pss_cons (ps_if (pt_cmpR op_ne (pe_call DL (hr.mono (by decide)) (by rfl) gL kL bL .nil pass0 (pa_cons (pv 3) pa_nil)) (pv 0) (nomark _)) (pss_one (ps_raise rfl (takes_of rfl rfl rfl rfl) (pmk_own PySem.F.excBase_ValueError NX.q NX.g NX.k (raises_own NX.e NX.t) (by rfl)))) pss_nil) <|
      pss_one <| ps_ret (pv 3), ?_⟩
    exact ⟨_, rfl, v, rfl, hv, qn⟩
end
end Lag

set_option maxRecDepth 100000
set_option maxHeartbeats 4000000
namespace Lag
open PySem PySem.Spec PyProof.Rows L2
/-- whether a thing is a whole number -/
def WhT (K : PySem.W.Frag) (H : Hp) (v : V) (b : Bool) : Prop := ∃ (t : String) (bi bb : Bool), TyX K H v (.type t) ∧ kitB t "int" = some bi ∧ kitB t "bool" = some bb ∧ b = (bi && !bb)
def spWholeT (K : PySem.W.Frag) : Sp := fun vs H Q _ => ∃ (v : V) (b : Bool), vs = [v] ∧ WhT K H v b ∧ Q (.bl b) H
/-- what is no list of whole numbers -/
def spLagsTN (K : PySem.W.Frag) (CL : Addr) : Sp := fun vs H _ E => ∃ v : V, vs = [v] ∧ (∀ H', Same H H' → E (.ref CL) none H') ∧
  ((∃ t : String, TyX K H v (.type t) ∧ kitB t "list" = some false) ∨ ∃ (l : Addr) (xs : List V) (bs : List Bool), v = .ref l ∧ H l = some (.lst xs) ∧ (∀ H', Same H H' → All2 (WhT K H') xs bs) ∧ bs.all id = false ∧ bs.length ≤ 5000)
section
variable {P : Program} {w : World} {K : PySem.W.Frag} {mg : Str → Option Value} {base : Heap}
theorem ok_wholeT {f : Addr} {fd : FuncData} (F : Fun K "is_whole" "is_whole" sWhole f fd) (B : Bt mg) : FnOk P w K mg base CX0 1 f fd ["thing"] (spWholeT K) := by
  refine F.ok scWhole (fun vs H Q E h => ?_) (fun cdv A outer s H vs Q E hr h => ?_)
  · obtain ⟨v, b, rfl, _⟩ := h
    rfl
  · obtain ⟨v, b, rfl, ⟨t, bi, bb, ty, k1, k2, rfl⟩, q⟩ := h
    refine ⟨_, pss_one <| ps_ret <| pe_and (pe_callB call_isi (by rfl) B.isi (by decide +kernel) (pa_cons (pv 0) (pa_cons (pe_bltn (v := .ty "int") (by rfl) B.int (by decide +kernel) rfl) pa_nil)))
      (pe_one (pe_not (pe_callB call_isi (by rfl) B.isi (by decide +kernel) (pa_cons (pv 0) (pa_cons (pe_bltn (v := .ty "bool") (by rfl) B.bool (by decide +kernel) rfl) pa_nil))))), ?_⟩
    refine ⟨_, rfl, _, _, _, _, bi, rfl, .ty "int", ty, kit_ty k1, bi, rfl, ?_⟩
    cases bi with
    | true => exact iteT ⟨_, rfl, _, _, _, _, bb, rfl, .ty "bool", ty, kit_ty k2, bb, rfl, q⟩
    | false => exact iteF q
theorem ok_lagsTN {f fW fN CL : Addr} {fd fdW fdN : FuncData} (F : Fun K "lags_text" "lags_text" sLagsT f fd) (B : Bt mg) (NX : PEx K mg "NoLags" CL) (DW : DWhole P w K mg base fW fdW) (DWT : FnOk P w K mg base CX0 1 fW fdW ["thing"] (spWholeT K)) (gN : mg "numbers_text" = some (.ref fN)) (kN : PySem.W.keepIn K (.ref fN) = true) (bN : Binds K fdN ["numbers"] []) (DNX : FnOk P w K mg base CX0 1 fN fdN ["numbers"] (spNumsZ K)) : FnOk P w K mg base (L2.CX P w) 2 f fd ["lags"] (spLagsTN K CL) := by
  refine F.okX scLagsT (fun vs H Q E h => ?_) (fun cdv A outer s H vs Q E hr h => ?_)
  · obtain ⟨v, rfl, _⟩ := h
    rfl
  · obtain ⟨v, rfl, qn, alt⟩ := h
    have nd := scLagsT.nd
    refine ⟨_, pss_cons (ps_if (PW.pt (pw_or (pt_not (pt_val (pe_callB call_isi (by rfl) B.isi (by decide +kernel) (pa_cons (pv 0) (pa_cons (pe_bltn (v := .ty "list") (by rfl) B.list (by decide +kernel) rfl) pa_nil)))))
          (pw_or1 (pt_not (pt_val (pe_callB (cr_all rfl) (by rfl) B.all (by decide +kernel) (pa_cons (pe_lc (own := [("lag", 1)]) (g := gName 1) (tt := tYes) (te := tCall (spWholeT K) [] E0 (tCons (tVar 1) tNil)) rfl nd (pi_list (pv 0)) (blkOk_by (N := nLagsT) (sc := defScope sLagsT) (own := [("lag", 1)]) (by decide +kernel)) (fun _ _ _ _ _ => pg_name (i := 1) nd rfl (.inl rfl)) (fun _ _ _ _ _ => pts_nil) (fun _ _ _ _ _ => pe_call DWT (hr.mono (by decide)) (by rfl) DW.mg DW.kp DW.bd .nil pass0 (pa_cons (pv 1) pa_nil))) pa_nil))))))) (pss_one (ps_raise rfl (takes_of rfl rfl rfl rfl) (pmk_own PySem.F.excBase_ValueError NX.q NX.g NX.k (raises_own NX.e NX.t) (by rfl)))) pss_nil) <|
      pss_one <| ps_ret <| pe_call DNX hr (by rfl) gN kN bN .nil pass0 (pa_cons (pv 0) pa_nil), ?_⟩
    rcases alt with ⟨t, ty, hk⟩ | ⟨l, xs, bs, rfl, el, al, ab, hb⟩
    · exact ⟨_, rfl, _, _, _, _, false, rfl, .ty "list", ty, kit_ty hk, false, rfl, iteT (qn H (Same.refl H))⟩
    refine ⟨_, rfl, _, _, _, _, true, rfl, .ty "list", ty_lst (SqL.of el), kit_ty (by decide +kernel), true, rfl, iteF ?_⟩
    refine ⟨_, rfl, l, rfl, ⟨_, SqL.of el⟩, fun D hD => ?_⟩
    refine lc_list (K := K) (a := l) (xs := xs) (fun i Hc => Hc D = some (.lst ((bs.take i).map V.bl)) ∧ Same H Hc) ⟨upd_same, same_new hD⟩ (fun i Hc _ ⟨_, sm⟩ => SqL.of (sm _ _ el)) ?_ ?_
    · rintro i x Hc hx ⟨hc, sm⟩
      have a := al Hc sm
      obtain ⟨b, hbi, wt⟩ := a.get hx
      have hi : i < bs.length := (List.getElem?_eq_some_iff.mp hbi).1
      refine ⟨rfl, tyes ?_⟩
      refine ⟨_, rfl, x, b, rfl, wt, _, hc, ?_, ?_, same_mut sm hD⟩
      · rw [List.length_map, List.length_take]
        exact small6k (by omega)
      · rw [upd_same, List.take_add_one, hbi, List.map_append]
        rfl
    rintro H1 ⟨hc, sm⟩
    rw [(al H (Same.refl H)).1, List.take_length] at hc
    refine ⟨D, _, rfl, SqL.of hc, false, ?_, iteT (qn H1 sm)⟩
    rw [ab]
end
end Lag

set_option maxRecDepth 100000
set_option maxHeartbeats 4000000
namespace LW
open PySem
theorem cutHead (w : Str) : ws (L2.cutS w none (some 1)) = (ws w).take 1 := by
  have hl : (ws w).length = w.length := ws_len w
  unfold L2.cutS
  show ((((ws w).drop _).take _).toArray).toList = _
  have e : HT.sIx w.length w.length (some 1) = min 1 w.length := HT.sIx_nat w.length w.length 1
  rw [e, HT.sIx_none, List.toList_toArray, List.drop_zero, Nat.sub_zero]
  by_cases h : 1 ≤ w.length
  · rw [Nat.min_eq_left h]
  · have h0 : ws w = [] := List.length_eq_zero_iff.mp (by omega)
    rw [h0]
    simp
theorem dash_ws : ws ("-" : Str) = [45] := by decide +kernel
theorem head_dash (w : Str) : L2.cutS w none (some 1) = "-" ↔ (ws w).head? = some 45 := by
  constructor
  · intro h
    have := congrArg ws h
    rw [cutHead, dash_ws] at this
    match q : ws w with
    | [] => rw [q] at this; cases this
    | c :: r =>
      rw [q] at this
      injection this with this _
      rw [this]
      rfl
  · intro h
    refine str_eq ?_
    rw [cutHead, dash_ws]
    match q : ws w, h with
    | c :: r, h => cases h; rfl
/-- the signs of the law -/
theorem sign_at : ∀ c, c < 128 → ((!(!(Builtin.Str.occurrences ("0123456789" : Str) ⟨#[c]⟩ 0 ("0123456789" : Str).length 1).isEmpty)) = true ↔ ¬ (48 ≤ c ∧ c ≤ 57)) ∧ PyData.strOk ⟨#[c]⟩ = true := by decide +kernel
end LW

set_option maxRecDepth 100000
set_option maxHeartbeats 4000000
namespace Lag
open PySem PySem.Spec PyProof.Rows L2
theorem list_nilU {ds : List PyData} : PyData.eqv (.list ds) (.list []) = decide (ds = []) := by
  cases ds with
  | nil => rfl
  | cons _ _ => rfl
theorem lay_all {ds : List PyData} : (∀ d ∈ ds, PyData.canLay0 d = true) → PyData.canLayAll0 ds = true := by
  induction ds with
  | nil => intro _; rfl
  | cons d ds ih =>
    intro h
    show (PyData.canLay0 d && PyData.canLayAll0 ds) = true
    rw [h d (List.mem_cons_self ..), ih fun x hx => h x (List.mem_cons_of_mem _ hx)]
    rfl
theorem depth_all {ds : List PyData} {k : Nat} : (∀ d ∈ ds, PyData.depth d ≤ k) → PyData.depthAll ds ≤ k := by
  induction ds with
  | nil => intro _; exact Nat.zero_le _
  | cons d ds ih =>
    intro h
    show max (PyData.depth d) (PyData.depthAll ds) ≤ k
    have h1 := h d (List.mem_cons_self ..)
    have h2 := ih fun x hx => h x (List.mem_cons_of_mem _ hx)
    omega
/-- such data may be compared, to the depth k -/
def Sh (k : Nat) (d : PyData) : Prop := PyData.canLay0 d = true ∧ PyData.depth d ≤ k
theorem Sh.ok {k : Nat} {d : PyData} (h : Sh k d) (hk : k ≤ 64) : SeqAt.shaped d = true := by
  show (PyData.canLay0 d && decide (PyData.depth d ≤ 64)) = true
  rw [h.1, decide_eq_true (Nat.le_trans h.2 hk)]
  rfl
theorem sh_list {k : Nat} {ds : List PyData} (h : ∀ d ∈ ds, Sh k d) : Sh (k + 1) (.list ds) := ⟨lay_all fun d hd => (h d hd).1, Nat.succ_le_succ (depth_all fun d hd => (h d hd).2)⟩
theorem dp_signs {K : PySem.W.Frag} {H : Hp} : ∀ bad : List Nat, DpAll K H (bad.map fun c => V.str ⟨#[c]⟩) (bad.map fun c => PyData.str ⟨#[c]⟩)
  | [] => .nil
  | c :: r => .cons (.str _) (dp_signs r)
abbrev sLNum : Stmt := topS 19 -- @_law_is_number
def spLNum (K : PySem.W.Frag) : Sp := fun vs H Q _ => ∃ t : Str, vs = [.str t] ∧ t.length ≤ 4000 ∧ (∀ c ∈ LW.ws t, c < 128) ∧ ∀ b H', Same H H' → (b = true ↔ LW.Canon t) → Q (.bl b) H'
section
variable {P : Program} {w : World} {K : PySem.W.Frag} {mg : Str → Option Value} {base : Heap}
abbrev nLNum : List Str := ["_law_word", "_law_figures", "_law_sign"]
theorem scLNum : FnScope nLNum ["_law_word"] (defScope sLNum) := ⟨rfl, rfl, rfl, by decide +kernel, rfl, by decide +kernel, by decide +kernel⟩
theorem ok_lnumW {f : Addr} {fd : FuncData} (F : Fun K "_law_is_number" "_law_is_number" sLNum f fd) (B : Bt mg) : FnOk P w K mg base CX0 1 f fd ["_law_word"] (spLNum K) := by
  refine F.ok scLNum (fun vs H Q E h => ?_) (fun cdv A outer s H vs Q E hr h => ?_)
  · obtain ⟨t, rfl, _⟩ := h
    rfl
  · obtain ⟨t, rfl, hlen, has, q⟩ := h
    have nd := scLNum.nd
    refine ⟨_, pss_cons (ps_set (i := 1) nd rfl (.inl rfl) (pv 0)) <|
        Evl.pss_cut (ps_if (pt_cmpR op_eq (pe_slice sl_str (pv 0) po_none (po_some pe_int)) pe_str (nomark _)) (pss_one (ps_set (i := 1) nd rfl (.inl rfl) (pe_slice sl_str (pv 0) (po_some pe_int) po_none))) pss_nil) <|
        pss_cons (ps_if (PW.pt (pw_or (pt_cmpR op_eq (pv 1) pe_str (nomark _)) (pw_or (pt_cmpR op_gt (pe_callB call_len_str (by rfl) B.len PySem.boot_len (pa_cons (pv 1) pa_nil)) pe_int (nomark _)) (pw_or1 (pt_cmpR (op_neD hr.units) (pe_lc (own := [("_law_sign", 2)]) (g := (gName 2)) (tt := _) (te := (tVar 2)) rfl nd (pi_str (pv 1)) (blkOk_by (N := nLNum) (sc := defScope sLNum) (own := [("_law_sign", 2)]) (by decide +kernel)) (fun _ _ _ _ _ => (pg_name (i := 2) nd rfl (.inl rfl))) (fun _ _ _ _ _ => pts_one (pt_cmpR op_notIn_str (pv 2) pe_str (by rfl))) (fun _ _ _ _ _ => (pv 2))) (pe_lst pa_nil) (nomark _)))))) (pss_one (ps_ret pe_bl)) pss_nil) <|
        pss_one (ps_ret (pe_and (pe_or (pe_cmpR op_ne (pe_ix ix_str (pv 1) pe_int (fun _ _ => rfl)) pe_str (nomark _)) (pe_one (pe_cmpR op_eq (pv 1) pe_str (nomark _)))) (pe_one (pe_cmpR op_ne (pv 0) pe_str (nomark _))))), ?_⟩
    refine ⟨_, rfl, ?_⟩
    refine gn_norm (σ' := [some (.str t), some (.str t), none]) rfl ?_
    refine ⟨fun σ H' => σ = [some (.str t), some (.str (LW.figS t)), none] ∧ H' = H, ?_, ?_⟩
    · refine ⟨_, rfl, _, rfl, _, rfl, Nat.le_trans hlen (by decide), rfl, _, rfl, ite2 (fun e => ?_) (fun e => ?_)⟩
      · have e1 := (LW.head_dash t).mp (V.str.inj (of_decide_eq_true e))
        refine ⟨_, rfl, _, rfl, _, rfl, Nat.le_trans hlen (by decide), ?_⟩
        refine gn_norm (σ' := [some (.str t), some (.str (LW.figS t)), none]) ?_ ⟨rfl, rfl⟩
        unfold LW.figS
        rw [LW.starts_iff, decide_eq_true e1, if_pos rfl]
        rfl
      · have e1 : ¬ ((LW.ws t).head? = some 45) := fun z => e (decide_eq_true (by rw [(LW.head_dash t).mpr z]))
        refine ⟨?_, rfl⟩
        unfold LW.figS
        rw [LW.starts_iff, decide_eq_false e1, if_neg (by decide)]
    rintro σ H' ⟨rfl, rfl⟩
    have hf := LW.figS_ws t
    have fl : (LW.figS t).length = (LW.figs (LW.ws t)).length := by rw [← LW.ws_len, hf]
    have ft : (LW.figS t).length ≤ 4000 := by
      unfold LW.figS
      split
      · exact Nat.le_trans (cutS_length _ _ _) hlen
      · exact hlen
    have fa : ∀ c ∈ LW.ws (LW.figS t), c < 128 := fun c hc => by
      rw [hf] at hc
      refine has c ?_
      unfold LW.figs at hc
      split at hc
      · rename_i r e
        rw [e]
        exact List.mem_cons_of_mem _ hc
      · exact hc
    have no : ∀ {H' : Hp}, Same H' H' → ¬ LW.Canon t → Q (.bl false) H' → Q (.bl false) H' := fun _ _ z => z
    refine ⟨_, rfl, rfl, _, rfl, ite2 (fun e => ?_) (fun e => ?_)⟩
    · have e1 := V.str.inj (of_decide_eq_true e)
      refine q false _ (Same.refl _) ⟨(fun z => nomatch z), fun ca => absurd ?_ ca.f.ne⟩
      rw [← hf, e1]
      decide +kernel
    have ne : LW.figs (LW.ws t) ≠ [] := fun z => e (decide_eq_true (by
      have : LW.figS t = "" := LW.str_eq (by rw [hf, z]; decide +kernel)
      rw [this]))
    refine ⟨_, rfl, _, rfl, Nat.le_trans ft (by decide), _, _, rfl, rfl, _, rfl, ite2 (fun e2 => ?_) (fun e2 => ?_)⟩
    · have e2 := of_decide_eq_true e2
      refine q false _ (Same.refl _) ⟨(fun z => nomatch z), fun ca => ?_⟩
      have := ca.f.le
      omega
    have le60 : (LW.figs (LW.ws t)).length ≤ 60 := by
      have : ¬ ((60 : Int) < (((LW.figS t).length : Nat) : Int)) := fun z => e2 (decide_eq_true z)
      omega
    -- the signs that are no figures
    refine ⟨_, rfl, _, rfl, fun D hD => ?_⟩
    have wl : (LW.ws (LW.figS t)).length ≤ 4000 := by rw [LW.ws_len]; exact ft
    have hsz : (LW.figS t).cps.size = (LW.ws (LW.figS t)).length := Array.length_toList.symm
    refine lc_it walk_str (fun i Hc => ∃ bad : List Nat, Hc D = some (.lst (bad.map fun c => V.str ⟨#[c]⟩)) ∧ (bad = [] ↔ ∀ c ∈ (LW.ws (LW.figS t)).take i, 48 ≤ c ∧ c ≤ 57) ∧ (∀ c ∈ bad, c < 128) ∧ bad.length ≤ i ∧ Same _ Hc) ⟨[], upd_same, ⟨fun _ c hc => (by rw [List.take_zero] at hc; cases hc), fun _ => rfl⟩, (fun c h => nomatch h), Nat.le_refl _, same_new hD⟩ (fun _ _ _ _ => trivial) ?_ ?_
    · rintro i x Hc H' hi ⟨bad, hc, biff, b128, bl, sm⟩ ⟨rfl, c, hci, rfl⟩
      rw [hsz] at hi
      have hcl : (LW.ws (LW.figS t))[i]? = some c := by
        rw [← hci]
        exact Array.getElem?_toList
      have hcm := List.mem_of_getElem? hcl
      have hc128 := fa c hcm
      obtain ⟨sg, _⟩ := LW.sign_at c hc128
      have tk : (LW.ws (LW.figS t)).take (i + 1) = (LW.ws (LW.figS t)).take i ++ [c] := by rw [List.take_add_one, hcl]; rfl
      refine ⟨rfl, _, rfl, _, _, rfl, rfl, _, rfl, ite2 (fun e => ?_) (fun e => ?_)⟩
      · have bad' := sg.mp e
        refine ⟨_, rfl, _, hc, ?_, bad ++ [c], ?_, ⟨fun z => by simp at z, fun z => absurd (z c (by rw [tk]; exact List.mem_append_right _ (List.mem_cons_self ..))) bad'⟩, fun d hd => ?_, ?_, same_mut sm hD⟩
        · rw [List.length_map]
          exact small6k (by omega)
        · rw [upd_same, List.map_append]
          rfl
        · rcases List.mem_append.mp hd with z | z
          · exact b128 d z
          · rw [List.mem_singleton.mp z]
            exact hc128
        · rw [List.length_append]
          show _ + 1 ≤ _
          omega
      · have okc : 48 ≤ c ∧ c ≤ 57 := by
          by_cases z : 48 ≤ c ∧ c ≤ 57
          · exact z
          · exact absurd (sg.mpr z) e
        refine ⟨bad, hc, ?_, b128, by omega, sm⟩
        rw [biff, tk]
        constructor
        · intro k d hd
          rcases List.mem_append.mp hd with z | z
          · exact k d z
          · rw [List.mem_singleton.mp z]
            exact okc
        · exact fun k d hd => k d (List.mem_append_left _ hd)
    rintro H1 ⟨bad, h1, biff, b128, bl, s1⟩
    rw [hsz, List.take_length] at biff
    refine ⟨(by show 0 ≤ sizeLine; decide), fun l6 hl6 => ?_⟩
    have s6 : Same H1 (upd H1 l6 (.lst [])) := same_new hl6
    have e6 : (upd H1 l6 (.lst [])) l6 = some (.lst []) := upd_same
    generalize upd H1 l6 (.lst []) = H6 at s6 e6
    have s16 := s1.trans s6
    have shb : Sh 1 (.list (bad.map fun c => PyData.str ⟨#[c]⟩)) := sh_list fun d hd => by
      obtain ⟨c, hc, rfl⟩ := List.mem_map.mp hd
      exact ⟨(LW.sign_at c (b128 c hc)).2, Nat.zero_le _⟩
    refine ⟨_, _, Dp.lst (SqL.of (s6 _ _ h1)) (dp_signs bad), Dp.lst (SqL.of e6) .nil, shb.ok (by decide), by decide +kernel, _, rfl, ?_⟩
    rw [list_nilU]
    by_cases hb : bad = []
    rotate_left
    · rw [decide_eq_false (fun z => hb (List.map_eq_nil_iff.mp z))]
      refine iteT (q false H6 s16 ⟨(fun z => nomatch z), fun ca => absurd (biff.mpr fun c hc => ca.f.dg c (by rw [← hf]; exact hc)) hb⟩)
    rw [decide_eq_true (by rw [hb]; rfl)]
    refine iteF ?_
    have dg : NumText.AllDigits (LW.figs (LW.ws t)) := fun c hc => biff.mp hb c (by rw [hf]; exact hc)
    have ok : LW.FigOk t := ⟨ne, dg, le60⟩
    obtain ⟨c0, r0, hcr⟩ : ∃ c r, LW.figs (LW.ws t) = c :: r := by
      match q : LW.figs (LW.ws t), ne with
      | c :: r, _ => exact ⟨c, r, rfl⟩
    have at0 : atI (LW.figS t).cps.toList 0 = some c0 := by
      show atI (LW.ws (LW.figS t)) 0 = some c0
      rw [hf, hcr]
      exact atI_nat (j := 0) rfl
    refine ⟨_, rfl, _, 0, c0, rfl, rfl, Nat.le_trans ft (by decide), at0, rfl, ?_⟩
    have zS : ("0" : Str) = ⟨#[48]⟩ := by decide +kernel
    have zW : LW.ws ("0" : Str) = [48] := by decide +kernel
    have mW : LW.ws ("-0" : Str) = [45, 48] := by decide +kernel
    have last : (LW.figs (LW.ws t)).head? ≠ some 48 ∨ LW.figs (LW.ws t) = [48] → ((!decide (V.str t = V.str "-0")) = true ↔ LW.Canon t) := fun hh => by
      constructor
      · intro z
        refine ⟨ok, hh, fun y => ?_⟩
        have : t = "-0" := LW.str_eq (by rw [mW]; exact y)
        rw [decide_eq_true (by rw [this])] at z
        cases z
      · intro ca
        rw [decide_eq_false fun y => ca.z (by rw [V.str.inj y]; exact mW)]
        rfl
    refine ⟨_, rfl, ite2 (fun e3 => ?_) (fun e3 => ?_)⟩
    · have n48 : c0 ≠ 48 := fun y => by
        rw [decide_eq_true (by rw [y, zS])] at e3
        cases e3
      refine ⟨true, rfl, iteT ⟨_, rfl, rfl, q _ H6 s16 (last (.inl fun y => ?_))⟩⟩
      rw [hcr] at y
      exact n48 (Option.some.inj y)
    · have y48 : c0 = 48 := by
        by_cases y : c0 = 48
        · exact y
        · refine absurd ?_ e3
          rw [decide_eq_false fun z => y ?_]
          · rfl
          · have z2 := V.str.inj z
            rw [zS] at z2
            injection z2 with z2
            simpa using z2
      refine ⟨_, rfl, rfl, _, rfl, ite2 (fun e4 => ?_) (fun e4 => ?_)⟩
      · have f0 := V.str.inj (of_decide_eq_true e4)
        refine ⟨_, rfl, rfl, q _ H6 s16 (last (.inr ?_))⟩
        rw [← hf, f0, zW]
      · refine q false H6 s16 ⟨(fun z => nomatch z), fun ca => ?_⟩
        rcases ca.h with k | k
        · exact absurd (by rw [hcr, y48]; rfl) k
        · exact absurd (decide_eq_true (by rw [LW.str_eq (v := LW.figS t) (w := "0") (by rw [hf, k, zW])])) e4
end
end Lag

set_option maxRecDepth 100000
set_option maxHeartbeats 4000000
namespace LW
open PySem
theorem words_ascii {t : Str} (h : ∀ c ∈ ws t, c < 128) : ∀ w ∈ Txt.split t " ", ∀ c ∈ ws w, c < 128 := fun w hw c hc => by
  refine h c ?_
  have := words_join t
  rw [TL.join_eq] at this
  rw [← this]
  exact (PyProof.Rows.mem_join _ _ _).mpr (.inl ⟨w, hw, hc⟩)
end LW
namespace Lag
open PySem PySem.Spec PyProof.Rows L2
abbrev sLDue : Stmt := topS 20 -- @_law_due
def spLDue (K : PySem.W.Frag) : Sp := fun vs H Q _ => ∃ t : Str, vs = [.str t] ∧ t.length ≤ 4000 ∧ (∀ c ∈ LW.ws t, c < 128) ∧ (LW.Good t → ∀ l H', Same H H' → H l = none → H' l = some (.lst ((LW.vals t).map V.int)) → Q (.ref l) H') ∧ (¬ LW.Good t → ∀ H', Same H H' → Q .non H')
theorem in_false (bs : List Bool) : inV (.bl false) (bs.map V.bl) = decide (false ∈ bs) := by
  induction bs with
  | nil => rfl
  | cons b r ih =>
    show (eqV (.bl b) (.bl false) || inV (.bl false) (r.map V.bl)) = _
    rw [ih]
    cases b with
    | true =>
      have e : eqV (.bl true) (.bl false) = false := by decide +kernel
      rw [e, Bool.false_or]
      simp
    | false =>
      have e : eqV (.bl false) (.bl false) = true := by decide +kernel
      rw [e, Bool.true_or]
      simp
section
variable {P : Program} {w : World} {K : PySem.W.Frag} {mg : Str → Option Value} {base : Heap}
abbrev nLDue : List Str := ["_law_text", "_law_words", "_law_word"]
theorem scLDue : FnScope nLDue ["_law_text"] (defScope sLDue) := ⟨rfl, rfl, rfl, by decide +kernel, rfl, by decide +kernel, by decide +kernel⟩
theorem ok_ldueW {f fI : Addr} {fd fdI : FuncData} (F : Fun K "_law_due" "_law_due" sLDue f fd) (B : Bt mg) (gI : mg "_law_is_number" = some (.ref fI)) (kI : PySem.W.keepIn K (.ref fI) = true) (bI : Binds K fdI ["_law_word"] []) (DIn : FnOk P w K mg base CX0 1 fI fdI ["_law_word"] (spLNum K)) : FnOk P w K mg base CX0 2 f fd ["_law_text"] (spLDue K) := by
  refine F.ok scLDue (fun vs H Q E h => ?_) (fun cdv A outer s H vs Q E hr h => ?_)
  · obtain ⟨t, rfl, _⟩ := h
    rfl
  · obtain ⟨t, rfl, hlen, has, q, qn⟩ := h
    have nd := scLDue.nd
    refine ⟨_, pss_cons (ps_if (pt_cmpR op_eq (pv 0) pe_str (nomark _)) (pss_one (ps_ret (pe_lst pa_nil))) pss_nil) <|
        pss_cons (ps_set (i := 1) nd rfl (.inl rfl) (pe_split (pv 0) pe_str)) <|
        pss_cons (ps_if (pt_cmpR op_in_seq pe_bl (pe_lc (own := [("_law_word", 2)]) (g := (gName 2)) (tt := tYes) (te := (tCall (spLNum K) [] E0 (tCons (tVar 2) tNil))) rfl nd (pi_list (pv 1)) (blkOk_by (N := nLDue) (sc := defScope sLDue) (own := [("_law_word", 2)]) (by decide +kernel)) (fun _ _ _ _ _ => (pg_name (i := 2) nd rfl (.inl rfl))) (fun _ _ _ _ _ => pts_nil) (fun _ _ _ _ _ => (pe_call DIn (hr.mono (by decide)) (by rfl) gI kI bI .nil pass0 (pa_cons (pv 2) pa_nil)))) (by rfl)) (pss_one (ps_ret pe_non)) pss_nil) <|
        pss_one (ps_ret (pe_lc (own := [("_law_word", 2)]) (g := (gName 2)) (tt := tYes) (te := _) rfl nd (pi_list (pv 1)) (blkOk_by (N := nLDue) (sc := defScope sLDue) (own := [("_law_word", 2)]) (by decide +kernel)) (fun _ _ _ _ _ => (pg_name (i := 2) nd rfl (.inl rfl))) (fun _ _ _ _ _ => pts_nil) (fun _ _ _ _ _ => (pe_callTy call_int_str (by rfl) B.int (by decide +kernel) (pa_cons (pv 2) pa_nil))))), ?_⟩
    obtain ⟨wl1, wl2⟩ := LW.words_len t
    have wa := LW.words_ascii has
    refine ⟨_, rfl, rfl, _, rfl, ite2 (fun e => ?_) (fun e => ?_)⟩
    · have e1 := V.str.inj (of_decide_eq_true e)
      have h0 : t.length = 0 := by rw [e1]; decide +kernel
      refine ⟨(by show 0 ≤ sizeLine; decide), fun l hl => q (.inl h0) l _ (same_new hl) hl ?_⟩
      rw [upd_same]
      unfold LW.vals
      rw [if_pos h0]
      rfl
    have h0 : t.length ≠ 0 := fun z => e (decide_eq_true (by
      have : t = "" := LW.str_eq (by rw [List.length_eq_zero_iff.mp (show (LW.ws t).length = 0 by rw [LW.ws_len]; exact z)]; decide +kernel)
      rw [this]))
    refine ⟨_, rfl, ⟨_, rfl⟩, _, _, rfl, rfl, (by decide +kernel), Nat.le_trans (Nat.add_le_add_right hlen 2) (by decide), fun l1 hl1 => ?_⟩
    have s1 := same_new (o := .lst ((Txt.split t " ").map V.str)) hl1
    have e1 : (upd H l1 (.lst ((Txt.split t " ").map V.str))) l1 = some (.lst ((Txt.split t " ").map V.str)) := upd_same
    obtain ⟨W, hW⟩ : ∃ W, W = Txt.split t " " := ⟨_, rfl⟩
    obtain ⟨H1, hH1⟩ : ∃ H1, H1 = upd H l1 (.lst ((Txt.split t " ").map V.str)) := ⟨_, rfl⟩
    rw [← hW] at wl1 wl2 wa e1 s1 hH1
    rw [← hH1] at e1 s1
    refine gn_norm (σ' := [some (.str t), some (.ref l1), none]) rfl ?_
    have hgo : (upd H l1 (.lst ((Txt.split t " ").map V.str))) = H1 := by rw [hH1, hW]
    first | rw [hgo] | (show _; skip)
    refine ⟨_, rfl, l1, rfl, ⟨_, SqL.of e1⟩, fun D hD => ?_⟩
    refine lc_list (K := K) (a := l1) (xs := W.map V.str) (fun i Hc => ∃ bs : List Bool, Hc D = some (.lst (bs.map V.bl)) ∧ bs.length = i ∧ (false ∈ bs ↔ ∃ w ∈ W.take i, ¬ LW.Canon w) ∧ Same H1 Hc) ⟨[], upd_same, rfl, ⟨(fun h => nomatch h), fun ⟨w, hw, _⟩ => (by rw [List.take_zero] at hw; cases hw)⟩, same_new hD⟩ (fun i Hc _ ⟨_, _, _, _, sm⟩ => SqL.of (sm _ _ e1)) ?_ ?_
    · rintro i v Hc hv ⟨bs, hc, bl, biff, sm⟩
      obtain ⟨x, hx, rfl⟩ : ∃ x, W[i]? = some x ∧ v = .str x := by
        rw [List.getElem?_map] at hv
        cases e : W[i]? with
        | none => rw [e] at hv; cases hv
        | some z => rw [e] at hv; cases hv; exact ⟨z, rfl, rfl⟩
      have hxm := List.mem_of_getElem? hx
      have hi : i < W.length := (List.getElem?_eq_some_iff.mp hx).1
      refine ⟨rfl, tyes ?_⟩
      refine ⟨_, rfl, x, rfl, Nat.le_trans (wl2 x hxm) hlen, wa x hxm, fun b H' s' hb => ⟨_, s' _ _ hc, ?_, bs ++ [b], ?_, ?_, ?_, same_mut (sm.trans s') hD⟩⟩
      · rw [List.length_map]
        exact small6k (by omega)
      · rw [upd_same, List.map_append]
        rfl
      · rw [List.length_append, bl]
        rfl
      · rw [List.take_add_one, hx]
        constructor
        · intro h
          rcases List.mem_append.mp h with h | h
          · obtain ⟨w, hw, nc⟩ := biff.mp h
            exact ⟨w, List.mem_append_left _ hw, nc⟩
          · refine ⟨x, List.mem_append_right _ (List.mem_cons_self ..), fun ca => ?_⟩
            have := hb.mpr ca
            rw [← List.mem_singleton.mp h] at this
            cases this
        · rintro ⟨w, hw, nc⟩
          rcases List.mem_append.mp hw with h | h
          · exact List.mem_append_left _ (biff.mpr ⟨w, h, nc⟩)
          · have : w = x := List.mem_singleton.mp h
            subst this
            refine List.mem_append_right _ ?_
            cases b with
            | true => exact absurd (hb.mp rfl) nc
            | false => exact List.mem_cons_self ..
    rintro H2 ⟨bs, h2, bl, biff, s2⟩
    rw [List.length_map] at bl
    rw [List.length_map, List.take_length] at biff
    have s02 := s1.trans s2
    have good : LW.Good t ↔ false ∉ bs := by
      rw [biff]
      constructor
      · rintro (g | g) ⟨w, hw, nc⟩
        · exact h0 g
        · exact nc (g w (by rw [← hW]; exact hw))
      · intro g
        refine .inr fun w hw => ?_
        by_cases c : LW.Canon w
        · exact c
        · exact absurd ⟨w, by rw [hW]; exact hw, c⟩ g
    refine ⟨D, _, rfl, .inl (SqL.of h2), rfl, ?_, ?_⟩
    · rw [List.all_eq_true]
      intro v hv
      obtain ⟨b, _, rfl⟩ := List.mem_map.mp hv
      rfl
    refine ⟨_, rfl, ?_⟩
    rw [in_false]
    by_cases hb : false ∈ bs
    · rw [decide_eq_true hb]
      exact iteT (qn (fun g => good.mp g hb) H2 s02)
    rw [decide_eq_false hb]
    refine iteF ?_
    have g := good.mpr hb
    have allC : ∀ w ∈ W, LW.Canon w := fun w hw => by
      rcases g with k | k
      · exact absurd k h0
      · exact k w (by rw [← hW]; exact hw)
    refine ⟨_, rfl, l1, rfl, ⟨_, SqL.of (s2 _ _ e1)⟩, fun D2 hD2 => ?_⟩
    refine lc_list (K := K) (a := l1) (xs := W.map V.str) (fun i Hc => Hc D2 = some (.lst (((W.take i).map LW.valW).map V.int)) ∧ Same H2 Hc) ⟨upd_same, same_new hD2⟩ (fun i Hc _ ⟨_, sm⟩ => SqL.of ((s2.trans sm) _ _ e1)) ?_ ?_
    · rintro i v Hc hv ⟨hc, sm⟩
      obtain ⟨x, hx, rfl⟩ : ∃ x, W[i]? = some x ∧ v = .str x := by
        rw [List.getElem?_map] at hv
        cases e : W[i]? with
        | none => rw [e] at hv; cases hv
        | some z => rw [e] at hv; cases hv; exact ⟨z, rfl, rfl⟩
      have hi : i < W.length := (List.getElem?_eq_some_iff.mp hx).1
      have ca := allC x (List.mem_of_getElem? hx)
      have l61 : x.length ≤ 640 := by
        have k1 := LW.figs_len (LW.ws x)
        have k2 := ca.f.le
        rw [LW.ws_len] at k1
        omega
      refine ⟨rfl, tyes ?_⟩
      refine ⟨_, rfl, _, _, rfl, LW.int_val ca.f, l61, _, hc, ?_, ?_, same_mut sm hD2⟩
      · rw [List.length_map, List.length_map, List.length_take]
        exact small6k (by omega)
      · rw [upd_same, List.take_add_one, hx, List.map_append, List.map_append]
        rfl
    rintro H3 ⟨h3, s3⟩
    rw [List.length_map, List.take_length] at h3
    have hv : LW.vals t = W.map LW.valW := by
      unfold LW.vals
      rw [if_neg h0, hW]
    exact q g D2 H3 (s02.trans s3) (s02.free hD2) (by rw [hv]; exact h3)
end
end Lag

set_option maxRecDepth 100000
set_option maxHeartbeats 4000000
namespace L2
open PySem PySem.Spec PyProof.Rows
def repS (t : Str) (k : Nat) : Str := ⟨(List.replicate k t.cps).foldl (fun a b => a ++ b) #[]⟩
theorem repS_len (t : Str) : ∀ (k : Nat), (repS t k).length = k * t.length := by
  have gen : ∀ (k : Nat) (a : Array Nat), ((List.replicate k t.cps).foldl (fun a b => a ++ b) a).size = a.size + k * t.cps.size := by
    intro k
    induction k with
    | zero => intro a; simp
    | succ k ih =>
      intro a
      rw [List.replicate_succ, List.foldl_cons, ih, Array.size_append, Nat.succ_mul]
      omega
  intro k
  have := gen k #[]
  show ((List.replicate k t.cps).foldl (fun a b => a ++ b) #[]).size = _
  rw [this]
  show 0 + _ = _
  rw [Nat.zero_add]
  rfl
/-- a text times a number above one -/
theorem op_repS {X : Cx} : OpR X (binaryOp .Mult) (fun x y H Q => ∃ (t : Str) (k : Nat), x = .str t ∧ y = .int k ∧ 2 ≤ k ∧ 1 ≤ t.length ∧ t.length * k ≤ sizeLine ∧ Q (.str (repS t k)) H) := by
  intro pins s σ H x y v u Q I rx ry h
  obtain ⟨t, k, rfl, rfl, h2, h1, hz, q⟩ := h
  obtain ⟨tk, rfl⟩ := rx
  obtain ⟨tk', rfl⟩ := ry
  have hk : k ≤ sizeLine := Nat.le_trans (Nat.le_mul_of_pos_left k h1) hz
  have hsz : sizeLine = 16777216 := by decide
  have hl1 : t.length ≤ sizeLine := Nat.le_trans (Nat.le_mul_of_pos_right t.length (by omega)) hz
  have n1 : ¬ ((k : Int) < 1) := by omega
  have n2 : ((k : Int) == 1 || t.length == 0) = false := by
    have e1 : ((k : Int) == 1) = false := by
      rw [beq_eq_false_iff_ne]
      omega
    have e2 : (t.length == 0) = false := by
      rw [beq_eq_false_iff_ne]
      omega
    rw [e1, e2]
    rfl
  have notLong : Builtin.Str.tooLong (t.length * (k : Int).toNat) = false := by
    unfold Builtin.Str.tooLong
    rw [Int.toNat_natCast]
    exact decide_eq_false (by omega)
  refine PySem.P.mul_str ?_ ?_ ?_ ?_
  · have a : ¬ ((k : Int) < -(2 ^ 63 : Int)) := by omega
    have b : ¬ ((k : Int) ≥ 2 ^ 63) := by omega
    rw [decide_eq_false a, decide_eq_false b]
    rfl
  · intro _ _ z
    have h3 : ((t.length * k : Nat) : Int) ≤ 16777216 := by omega
    rw [Int.natCast_mul] at h3
    have hlt : ((2 ^ 63 - 1 : Int) / (k : Int)) < (t.length : Int) := z
    have := (Int.ediv_lt_iff_lt_mul (show (0 : Int) < (k : Int) by omega)).mp hlt
    omega
  · intro _ _
    exact notLong
  · rw [if_neg n1, if_neg (by rw [n2]; exact Bool.false_ne_true)]
    refine ⟨?_, ?_⟩
    · show (repS t (k : Int).toNat).length ≤ sizeLine
      rw [Int.toNat_natCast, repS_len, Nat.mul_comm]
      exact hz
    · rw [Int.toNat_natCast]
      exact ⟨.str (repS t k), H, I.tok _, ⟨_, rfl⟩, q⟩
end L2
namespace LW
open PySem
theorem mem_cut {w : Str} {lo hi : Option Int} {c : Nat} (h : c ∈ ws (L2.cutS w lo hi)) : c ∈ ws w := by
  unfold L2.cutS at h
  have h : c ∈ ((((ws w).drop (HT.sIx w.length 0 lo)).take _).toArray).toList := h
  rw [List.toList_toArray] at h
  exact List.mem_of_mem_drop (List.mem_of_mem_take h)
theorem ws_app (a b : Str) : ws (a ++ b) = ws a ++ ws b := TL.tl_append a b
theorem len_app (a b : Str) : (a ++ b).length = a.length + b.length := by
  rw [← ws_len, ws_app, List.length_append, ws_len, ws_len]
/-- a text of signs below 128 -/
def Asc (t : Str) : Prop := ∀ c ∈ ws t, c < 128
theorem Asc.cut {t : Str} (h : Asc t) (lo hi : Option Int) : Asc (L2.cutS t lo hi) := fun c hc => h c (mem_cut hc)
theorem Asc.app {a b : Str} (h : Asc a) (k : Asc b) : Asc (a ++ b) := fun c hc => by
  rw [ws_app] at hc
  rcases List.mem_append.mp hc with z | z
  · exact h c z
  · exact k c z
end LW
namespace Lag
open PySem PySem.Spec PyProof.Rows L2
abbrev sLLags : Stmt := topS 18 -- @_law_lags
abbrev sSpoilt : Stmt := topS 21 -- @_law_spoilt
def spDrawG : Sp := fun vs H Q _ => ∃ (w : Addr) (n : Int), vs = [.ref w, .int n] ∧ 0 < n ∧ n ≤ 1000000000 ∧ WellAt w H ∧ ∀ d H', 0 ≤ d → d < n → Dr w H H' → Q (.int d) H'
def spLLags : Sp := fun vs H Q _ => ∃ wl : Addr, vs = [.ref wl] ∧ WellAt wl H ∧ ∀ l (ns : List Int) H', Dr wl H H' → H l = none → H' l = some (.lst (ns.map V.int)) → (∀ z ∈ ns, z.natAbs < 10 ^ 60) → ns.length ≤ 12 → Q (.ref l) H'
def spSpoilt : Sp := fun vs H Q _ => ∃ (wl : Addr) (t : Str), vs = [.ref wl, .str t] ∧ WellAt wl H ∧ t.length ≤ 1900 ∧ LW.Asc t ∧ ∀ (u : Str) H', Dr wl H H' → u.length ≤ 3900 → LW.Asc u → Q (.str u) H'
section
variable {P : Program} {w : World} {K : PySem.W.Frag} {mg : Str → Option Value} {base : Heap}
theorem ok_drawG {f : Addr} {fd : FuncData} (F : Fun K "_law_draw" "_law_draw" sDraw f fd)  : FnOk P w K mg base CX0 1 f fd ["_law_well_here", "_law_many"] spDrawG := by
  refine F.ok scDraw (fun vs H Q E h => ?_) (fun cdv A outer s H vs Q E hr h => ?_)
  · obtain ⟨wl, n, rfl, _⟩ := h
    rfl
  · obtain ⟨wl, n, rfl, hn, hn2, ⟨a, b, c, hw⟩, q⟩ := h
    refine ⟨_, pss_cons (ps_if (pt_cmpR op_gt (pe_ix ix_list (pv 0) pe_int (fun _ _ => rfl)) pe_int (nomark _))
        (pss_cons (ps_set (i := 2) scDraw.nd rfl (Or.inl rfl) (pe_op op_mod (pe_ix ix_list (pv 0) pe_int (fun _ _ => rfl)) (pv 1)))
        (pss_cons (ps_asg (pe_op op_fdiv (pe_ix ix_list (pv 0) pe_int (fun _ _ => rfl)) (pv 1)) (pg_sub (pv 0) pe_int set_list))
        (pss_one (ps_ret (pv 2))))) pss_nil)
      (pss_cons (ps_asg (pe_op op_add (pe_ix ix_list (pv 0) pe_int (fun _ _ => rfl)) pe_int) (pg_sub (pv 0) pe_int set_list))
      (pss_cons (ps_set (i := 3) scDraw.nd rfl (Or.inl rfl) (pe_op op_mod (pe_op op_mul (pe_op op_add (pe_op op_add (pe_ix ix_list (pv 0) pe_int (fun _ _ => rfl)) (pe_op op_mul pe_int (pe_ix ix_list (pv 0) pe_int (fun _ _ => rfl)))) pe_int) pe_int) pe_int))
      (pss_cons (ps_set (i := 3) scDraw.nd rfl (Or.inl rfl) (pe_op op_mod (pe_op op_mul (pv 3) (pe_op op_add (pe_op op_add (pe_op op_fdiv (pv 3) pe_int) pe_int) (pe_ix ix_list (pv 0) pe_int (fun _ _ => rfl)))) pe_int))
      (pss_one (ps_ret (pe_op op_mod (pe_op op_fdiv (pe_op op_mod (pe_op op_mul (pv 3) (pe_op op_add (pe_op op_fdiv (pv 3) pe_int) pe_int)) pe_int) pe_int) (pv 1))))))), ?_⟩
    refine ⟨_, rfl, wl, _, 0, .int a, rfl, rfl, SqL.of hw, atI_nat (j := 0) rfl, _, _, rfl, rfl, _, rfl, ite2 (fun e => ?_) (fun e => ?_)⟩
    · refine ⟨_, rfl, wl, _, 0, .int a, rfl, rfl, SqL.of hw, atI_nat (j := 0) rfl, _, rfl, _, _, rfl, rfl, hn, ?_⟩
      refine ⟨_, rfl, wl, _, 0, .int a, rfl, rfl, SqL.of hw, atI_nat (j := 0) rfl, _, rfl, _, _, rfl, rfl, ⟨hn, by omega⟩, ?_⟩
      refine ⟨_, rfl, wl, _, 0, 0, rfl, rfl, hw, rfl, ?_⟩
      refine ⟨_, rfl, ?_⟩
      exact q _ _ (Int.emod_nonneg _ (by omega)) (Int.emod_lt_of_pos _ hn) ⟨But.upd, ⟨_, _, _, upd_same⟩⟩
    · have h1 : (upd H wl (HO.lst [.int a, .int b, .int (c + 1)])) wl = some (.lst [.int a, .int b, .int (c + 1)]) := upd_same
      refine ⟨_, rfl, wl, _, 2, .int c, rfl, rfl, SqL.of hw, atI_nat (j := 2) rfl, _, _, rfl, rfl, ?_⟩
      refine ⟨_, rfl, wl, _, 2, 2, rfl, rfl, hw, rfl, ?_⟩
      refine ⟨_, rfl, wl, _, 1, .int b, rfl, rfl, SqL.of h1, atI_nat (j := 1) rfl, _, rfl, wl, _, 2, .int (c + 1), rfl, rfl, SqL.of h1, atI_nat (j := 2) rfl, _, _, rfl, rfl, .inl ⟨by decide, by decide⟩, _, _, rfl, rfl, _, _, rfl, rfl, _, _, rfl, rfl, .inr ⟨by decide, by decide⟩, _, _, rfl, rfl, (by show (0 : Int) < 2147483629; decide), ?_⟩
      refine ⟨_, rfl, _, rfl, _, _, rfl, rfl, ⟨by decide, by decide⟩, _, _, rfl, rfl, _, rfl, wl, _, 2, .int (c + 1), rfl, rfl, SqL.of h1, atI_nat (j := 2) rfl, _, _, rfl, rfl, _, _, rfl, rfl, .inl (mod_b (by decide) (by decide)), _, _, rfl, rfl, (by show (0 : Int) < 2147483587; decide), ?_⟩
      refine ⟨_, rfl, _, rfl, _, _, rfl, rfl, ⟨by decide, by decide⟩, _, _, rfl, rfl, _, _, rfl, rfl, .inl (mod_b (by decide) (by decide)), _, _, rfl, rfl, (by show (0 : Int) < 2147483563; decide), _, _, rfl, rfl, ⟨by decide, by decide⟩, _, rfl, _, _, rfl, rfl, hn, ?_⟩
      exact q _ _ (Int.emod_nonneg _ (by omega)) (Int.emod_lt_of_pos _ hn) ⟨But.upd, ⟨_, _, _, h1⟩⟩
abbrev nLLags : List Str := ["_law_well_here", "_law_found", "_law_k", "_law_most", "_law_number"]
theorem scLLags : FnScope nLLags ["_law_well_here"] (defScope sLLags) := ⟨rfl, rfl, rfl, by decide +kernel, rfl, by decide +kernel, by decide +kernel⟩
theorem ok_llags {f fD fO : Addr} {fd fdD fdO : FuncData} (F : Fun K "_law_lags" "_law_lags" sLLags f fd) (B : Bt mg) (mn : mg "min" = none) (DD : DDraw P w K mg base fD fdD) (DG : FnOk P w K mg base CX0 1 fD fdD ["_law_well_here", "_law_many"] spDrawG) (DOn : DOne P w K mg base fO fdO) : FnOk P w K mg base CX0 3 f fd ["_law_well_here"] spLLags := by
  refine F.ok scLLags (fun vs H Q E h => ?_) (fun cdv A outer s H vs Q E hr h => ?_)
  · obtain ⟨wl, rfl, _⟩ := h
    rfl
  · obtain ⟨wl, rfl, hw, q⟩ := h
    have nd := scLLags.nd
    refine ⟨_, pss_cons (ps_set (i := 1) nd rfl (.inl rfl) (pe_lst pa_nil)) <|
        pss_cons (ps_for PassesOwn.never rfl (pi_range1 (by rfl) B.range (pa_cons (pe_call DD.ok (hr.mono (by decide)) (by rfl) DD.mg DD.kp DD.bd .nil pass0 (pa_cons (pv 0) (pa_cons pe_int pa_nil))) pa_nil)) (pg_name (i := 2) nd rfl (.inl rfl)) (pss_cons (ps_set (i := 3) nd rfl (.inl rfl) (pe_call DOn.ok (hr.mono (by decide)) (by rfl) DOn.mg DOn.kp DOn.bd .nil pass0 (pa_cons (pv 0) (pa_cons (pe_lst (pa_cons pe_int (pa_cons pe_int (pa_cons (pe_op op_pow pe_int pe_int) (pa_cons (pe_op op_pow pe_int pe_int) pa_nil))))) pa_nil)))) <|
        pss_cons (ps_set (i := 4) nd rfl (.inl rfl) (pe_call DG (hr.mono (by decide)) (by rfl) DD.mg DD.kp DD.bd .nil pass0 (pa_cons (pv 0) (pa_cons (pe_callB (call_min2 rfl) (by rfl) mn (by decide +kernel) (pa_cons (pv 3) (pa_cons (pe_op op_pow pe_int pe_int) pa_nil))) pa_nil)))) <|
        Evl.pss_cut (ps_if (pt_cmpR op_eq (pv 3) (pe_op op_pow pe_int pe_int) (nomark _)) (pss_one (ps_set (i := 4) nd rfl (.inl rfl) (pe_call DOn.ok (hr.mono (by decide)) (by rfl) DOn.mg DOn.kp DOn.bd .nil pass0 (pa_cons (pv 0) (pa_cons (pe_lst (pa_cons (pe_op op_sub (pe_op op_pow pe_int pe_int) pe_int) (pa_cons (pe_op op_add (pe_op op_pow pe_int pe_int) (pv 4)) (pa_cons (pe_op op_mul (pv 4) (pe_op op_pow pe_int pe_int)) pa_nil)))) pa_nil))))) pss_nil) <|
        pss_one (ps_expr (pe_bm PySem.F.plainAttrs_list PySem.F.slot_list_append PySem.F.type_list_append mt_append (pv 1) (pa_cons (pe_op op_mul (pv 4) (pe_op op_sub pe_int (pe_op op_mul pe_int (pe_call DD.ok (hr.mono (by decide)) (by rfl) DD.mg DD.kp DD.bd .nil pass0 (pa_cons (pv 0) (pa_cons pe_int pa_nil)))))) pa_nil))))) <|
        pss_one (ps_ret (pv 1)), ?_⟩
    refine ⟨(by show 0 ≤ sizeLine; decide), fun l hl => ?_⟩
    have nl : l ≠ wl := (hw.ne hl).symm
    have D1 : Dr wl H (upd H l (.lst [])) := Dr.new hw hl
    have e1 : (upd H l (.lst [])) l = some (.lst []) := upd_same
    generalize upd H l (.lst []) = H1 at D1 e1
    refine gn_norm (σ' := [some (.ref wl), some (.ref l), none, none, none]) rfl ?_
    refine ⟨_, rfl, wl, 13, rfl, by decide, by decide, D1.well, fun d H2 d0 d1 E2 => ?_⟩
    refine ⟨_, rfl, by omega, by omega, ?_⟩
    refine for_range (lo := 0) (n := d.toNat) (fun i σ Hc => ∃ (s2 s3 s4 : Option V) (ns : List Int), σ = [some (.ref wl), some (.ref l), s2, s3, s4] ∧ Dr wl H Hc ∧ Hc l = some (.lst (ns.map V.int)) ∧ ns.length = i ∧ ∀ z ∈ ns, z.natAbs < 10 ^ 60) ⟨none, none, none, [], rfl, D1.trans E2, E2.but _ _ nl e1, rfl, fun _ h => nomatch h⟩ ?_ ?_
    · rintro i σ Hc hi ⟨s2, s3, s4, ns, rfl, Dc, ec, nlen, hz⟩
      refine gn_norm (σ' := [some (.ref wl), some (.ref l), some (.int (0 + (i : Nat))), s3, s4]) rfl ?_
      refine ⟨_, rfl, _, _, rfl, rfl, ⟨by decide, by decide, by decide⟩, _, _, rfl, rfl, ⟨by decide, by decide, by decide⟩, (by show 4 ≤ sizeLine; decide), fun l3 hl3 => ?_⟩
      have n3 : l3 ≠ wl := (Dc.well.ne hl3).symm
      have E3 := Dr.new (o := .lst [.int 3, .int 20, .int (10 ^ (9 : Int).toNat), .int (10 ^ (60 : Int).toNat)]) Dc.well hl3
      have e3 : (upd Hc l3 (.lst [.int 3, .int 20, .int (10 ^ (9 : Int).toNat), .int (10 ^ (60 : Int).toNat)])) l3 = some (.lst [.int 3, .int 20, .int (10 ^ (9 : Int).toNat), .int (10 ^ (60 : Int).toNat)]) := upd_same
      generalize upd Hc l3 (.lst [.int 3, .int 20, .int (10 ^ (9 : Int).toNat), .int (10 ^ (60 : Int).toNat)]) = H3 at E3 e3
      refine ⟨wl, l3, _, rfl, n3, E3.well, SqL.of e3, by simp, by show 4 < 1000000; decide, fun v H4 hv E4 => ?_⟩
      obtain ⟨m, rfl, hm⟩ : ∃ m : Int, v = .int m ∧ 1 ≤ m := by
        simp only [List.mem_cons, List.not_mem_nil, or_false] at hv
        rcases hv with rfl | rfl | rfl | rfl
        · exact ⟨_, rfl, by decide⟩
        · exact ⟨_, rfl, by decide⟩
        · exact ⟨_, rfl, by decide⟩
        · exact ⟨_, rfl, by decide⟩
      clear hv
      have Dc4 := (Dc.trans E3).trans E4
      have ec4 := E4.but _ _ nl (E3.but _ _ nl ec)
      refine gn_norm (σ' := [some (.ref wl), some (.ref l), some (.int (0 + (i : Nat))), some (.int m), s4]) rfl ?_
      refine ⟨_, rfl, _, rfl, _, _, rfl, rfl, ⟨by decide, by decide, by decide⟩, _, _, rfl, wl, (if (10 : Int) ^ (9 : Int).toNat < m then (10 : Int) ^ (9 : Int).toNat else m), rfl, ?_, ?_, Dc4.well, fun n H5 n0 n1 E5 => ?_⟩
      · split
        · decide
        · omega
      · have e9 : (10 : Int) ^ (9 : Int).toNat = 1000000000 := by decide
        rw [e9]
        split <;> omega
      have n9 : n < 1000000000 := by
        have e9 : (10 : Int) ^ (9 : Int).toNat = 1000000000 := by decide
        rw [e9] at n1
        split at n1 <;> omega
      clear n1
      have Dc5 := Dc4.trans E5
      have ec5 := E5.but _ _ nl ec4
      refine gn_norm (σ' := [some (.ref wl), some (.ref l), some (.int (0 + (i : Nat))), some (.int m), some (.int n)]) rfl ?_
      refine ⟨fun σ Hd => ∃ z : Int, σ = [some (.ref wl), some (.ref l), some (.int (0 + (i : Nat))), some (.int m), some (.int z)] ∧ Dr wl H Hd ∧ Hd l = some (.lst (ns.map V.int)) ∧ z.natAbs < 10 ^ 60, ?_, ?_⟩
      · refine ⟨_, rfl, _, _, rfl, rfl, ⟨by decide, by decide, by decide⟩, rfl, _, rfl, ite2 (fun _ => ?_) (fun _ => ?_)⟩
        · refine ⟨_, rfl, _, _, rfl, rfl, ⟨by decide, by decide, by decide⟩, _, _, rfl, rfl, _, _, rfl, rfl, ⟨by decide, by decide, by decide⟩, _, rfl, _, _, rfl, rfl, _, rfl, _, _, rfl, rfl, ⟨by decide, by decide, by decide⟩, _, _, rfl, rfl, .inl ⟨by omega, by omega⟩, (by show 3 ≤ sizeLine; decide), fun l6 hl6 => ?_⟩
          have n6 : l6 ≠ wl := (Dc5.well.ne hl6).symm
          have E6 := Dr.new (o := .lst [.int (10 ^ (60 : Int).toNat - 1), .int (10 ^ (59 : Int).toNat + n), .int (n * 10 ^ (40 : Int).toNat)]) Dc5.well hl6
          have e6 : (upd H5 l6 (.lst [.int (10 ^ (60 : Int).toNat - 1), .int (10 ^ (59 : Int).toNat + n), .int (n * 10 ^ (40 : Int).toNat)])) l6 = some (.lst [.int (10 ^ (60 : Int).toNat - 1), .int (10 ^ (59 : Int).toNat + n), .int (n * 10 ^ (40 : Int).toNat)]) := upd_same
          refine ⟨wl, l6, _, rfl, n6, E6.well, SqL.of e6, by simp, by show 3 < 1000000; decide, fun v H7 hv E7 => ?_⟩
          obtain ⟨z, rfl, hz'⟩ : ∃ z : Int, v = .int z ∧ z.natAbs < 10 ^ 60 := by
            simp only [List.mem_cons, List.not_mem_nil, or_false] at hv
            rcases hv with rfl | rfl | rfl
            · exact ⟨_, rfl, by decide⟩
            · refine ⟨_, rfl, ?_⟩
              have e59 : (10 : Int) ^ (59 : Int).toNat = 100000000000000000000000000000000000000000000000000000000000 := by decide
              rw [e59]
              have e60 : 10 ^ 60 = 1000000000000000000000000000000000000000000000000000000000000 := by decide
              rw [e60]
              omega
            · refine ⟨_, rfl, ?_⟩
              have e40 : (10 : Int) ^ (40 : Int).toNat = 10000000000000000000000000000000000000000 := by decide
              rw [e40]
              have e60 : 10 ^ 60 = 1000000000000000000000000000000000000000000000000000000000000 := by decide
              rw [e60]
              omega
          exact gn_norm (σ' := [some (.ref wl), some (.ref l), some (.int (0 + (i : Nat))), some (.int m), some (.int z)]) rfl ⟨z, rfl, (Dc5.trans E6).trans E7, E7.but _ _ nl (E6.but _ _ nl ec5), hz'⟩
        · exact ⟨n, rfl, Dc5, ec5, by
            have e60 : 10 ^ 60 = 1000000000000000000000000000000000000000000000000000000000000 := by decide
            rw [e60]
            omega⟩
      rintro σ Hd ⟨z, rfl, Dd, ed, hz'⟩
      refine ⟨_, rfl, .inl ⟨rfl, _, SqL.of ed⟩, _, rfl, _, rfl, wl, 2, rfl, by decide, by decide, Dd.well, fun b H8 b0 b1 E8 => ?_⟩
      refine ⟨_, _, rfl, rfl, .inr ⟨by omega, by omega⟩, _, _, rfl, rfl, _, _, rfl, rfl, .inr ⟨by omega, by omega⟩, ?_⟩
      refine ⟨l, ns.map V.int, .int (z * (1 - 2 * b)), rfl, rfl, E8.but _ _ nl ed, ?_, ?_⟩
      · rw [List.length_map]
        exact small6k (by omega)
      refine ⟨_, _, _, ns ++ [z * (1 - 2 * b)], rfl, set_well (Dd.trans E8) hl nl, ?_, ?_, ?_⟩
      · rw [upd_same, List.map_append]
        rfl
      · rw [List.length_append, nlen]
        rfl
      · intro y hy
        rcases List.mem_append.mp hy with h | h
        · exact hz y h
        · rw [List.mem_singleton.mp h]
          have : b = 0 ∨ b = 1 := by omega
          rcases this with rfl | rfl
          · rw [show z * (1 - 2 * 0) = z by omega]
            exact hz'
          · rw [show z * (1 - 2 * 1) = -z by omega, Int.natAbs_neg]
            exact hz'
    · rintro σ Hc ⟨s2, s3, s4, ns, rfl, Dc, ec, nlen, hz⟩
      exact ⟨_, rfl, q l ns Hc Dc hl ec hz (by omega)⟩
abbrev nSpoilt : List Str := ["_law_well_here", "_law_text", "_law_at", "_law_sign", "_law_way"]
theorem scSpoilt : FnScope nSpoilt ["_law_well_here", "_law_text"] (defScope sSpoilt) := ⟨rfl, rfl, rfl, by decide +kernel, rfl, by decide +kernel, by decide +kernel⟩
abbrev signs15 : List Str := [" ", "-", "0", "+", ".", "x", "7", ",", "  ", "-0", " 01", " -0 ", repS "9" 61, " 9", "~"]
theorem signs_ok : ∀ t ∈ signs15, t.length ≤ 61 ∧ LW.Asc t := by
  have h : ∀ t ∈ signs15, t.length ≤ 61 ∧ (LW.ws t).all (fun c => decide (c < 128)) = true := by decide +kernel
  exact fun t ht => ⟨(h t ht).1, fun c hc => of_decide_eq_true (List.all_eq_true.mp (h t ht).2 c hc)⟩
theorem ok_spoilt {f fD fO : Addr} {fd fdD fdO : FuncData} (F : Fun K "_law_spoilt" "_law_spoilt" sSpoilt f fd) (B : Bt mg) (DD : DDraw P w K mg base fD fdD) (DOn : DOne P w K mg base fO fdO) : FnOk P w K mg base CX0 3 f fd ["_law_well_here", "_law_text"] spSpoilt := by
  refine F.ok scSpoilt (fun vs H Q E h => ?_) (fun cdv A outer s H vs Q E hr h => ?_)
  · obtain ⟨wl, t, rfl, _⟩ := h
    rfl
  · obtain ⟨wl, t, rfl, hw, ht, ha, q⟩ := h
    have nd := scSpoilt.nd
    refine ⟨_, pss_cons (ps_set (i := 2) nd rfl (.inl rfl) (pe_call DD.ok (hr.mono (by decide)) (by rfl) DD.mg DD.kp DD.bd .nil pass0 (pa_cons (pv 0) (pa_cons (pe_op op_add (pe_callB call_len_str (by rfl) B.len PySem.boot_len (pa_cons (pv 1) pa_nil)) pe_int) pa_nil)))) <|
        pss_cons (ps_set (i := 3) nd rfl (.inl rfl) (pe_call DOn.ok (hr.mono (by decide)) (by rfl) DOn.mg DOn.kp DOn.bd .nil pass0 (pa_cons (pv 0) (pa_cons (pe_lst (pa_cons pe_str (pa_cons pe_str (pa_cons pe_str (pa_cons pe_str (pa_cons pe_str (pa_cons pe_str (pa_cons pe_str (pa_cons pe_str (pa_cons pe_str (pa_cons pe_str (pa_cons pe_str (pa_cons pe_str (pa_cons (pe_op op_repS pe_str pe_int) (pa_cons pe_str (pa_cons pe_str pa_nil)))))))))))))))) pa_nil)))) <|
        pss_cons (ps_set (i := 4) nd rfl (.inl rfl) (pe_call DD.ok (hr.mono (by decide)) (by rfl) DD.mg DD.kp DD.bd .nil pass0 (pa_cons (pv 0) (pa_cons pe_int pa_nil)))) <|
        pss_cons (ps_if (pt_cmpR op_eq (pv 4) pe_int (nomark _)) (pss_one (ps_ret (pe_op op_add_str (pe_slice sl_str (pv 1) po_none (po_some (pv 2))) (pe_slice sl_str (pv 1) (po_some (pe_op op_add (pv 2) pe_int)) po_none)))) pss_nil) <|
        pss_cons (ps_if (pt_cmpR op_eq (pv 4) pe_int (nomark _)) (pss_one (ps_ret (pe_op op_add_str (pe_op op_add_str (pe_slice sl_str (pv 1) po_none (po_some (pv 2))) (pv 3)) (pe_slice sl_str (pv 1) (po_some (pe_op op_add (pv 2) pe_int)) po_none)))) pss_nil) <|
        pss_cons (ps_if (pt_cmpR op_eq (pv 4) pe_int (nomark _)) (pss_one (ps_ret (pv 1))) pss_nil) <|
        pss_one (ps_ret (pe_op op_add_str (pe_op op_add_str (pe_slice sl_str (pv 1) po_none (po_some (pv 2))) (pv 3)) (pe_slice sl_str (pv 1) (po_some (pv 2)) po_none))), ?_⟩
    refine ⟨_, rfl, _, rfl, _, rfl, Nat.le_trans ht (by decide), _, _, rfl, rfl, wl, _, rfl, by omega, by omega, hw, fun d H1 d0 d1 E1 => ?_⟩
    refine gn_norm (σ' := [some (.ref wl), some (.str t), some (.int d), none, none]) rfl ?_
    refine ⟨_, rfl, _, 61, rfl, rfl, by decide, by decide +kernel, by decide +kernel, (by show 15 ≤ sizeLine; decide), fun l2 hl2 => ?_⟩
    have n2 : l2 ≠ wl := (E1.well.ne hl2).symm
    have E2 := Dr.new (o := .lst (signs15.map V.str)) E1.well hl2
    have e2 : (upd H1 l2 (.lst (signs15.map V.str))) l2 = some (.lst (signs15.map V.str)) := upd_same
    obtain ⟨H2, hH2⟩ : ∃ H2, H2 = upd H1 l2 (.lst (signs15.map V.str)) := ⟨_, rfl⟩
    rw [← hH2] at E2 e2
    refine ⟨wl, l2, signs15.map V.str, rfl, n2, ?_, ?_, by simp, by show 15 < 1000000; decide, ?_⟩
    · show WellAt wl (upd H1 l2 (.lst (signs15.map V.str)))
      rw [← hH2]
      exact E2.well
    · show SqL K (upd H1 l2 (.lst (signs15.map V.str))) l2 _
      rw [← hH2]
      exact SqL.of e2
    show ∀ v H', v ∈ signs15.map V.str → Dr wl (upd H1 l2 (.lst (signs15.map V.str))) H' → _
    rw [← hH2]
    intro v H3 hv E3
    obtain ⟨g, hg, rfl⟩ := List.mem_map.mp hv
    obtain ⟨gl, ga⟩ := signs_ok g hg
    clear hv hg
    refine gn_norm (σ' := [some (.ref wl), some (.str t), some (.int d), some (.str g), none]) rfl ?_
    have D3 := (E1.trans E2).trans E3
    refine ⟨_, rfl, wl, 5, rfl, by decide, by decide, D3.well, fun y H4 y0 y1 E4 => ?_⟩
    refine gn_norm (σ' := [some (.ref wl), some (.str t), some (.int d), some (.str g), some (.int y)]) rfl ?_
    have D4 := D3.trans E4
    have tz : t.length ≤ sizeLine := Nat.le_trans ht (by decide)
    have cl : ∀ lo hi, (cutS t lo hi).length ≤ 1900 := fun lo hi => Nat.le_trans (cutS_length _ _ _) ht
    have zz : ∀ {n : Nat}, n ≤ 6000 → n ≤ sizeLine := fun h => Nat.le_of_lt (small6k h)
    refine ⟨_, rfl, rfl, _, rfl, ite2 (fun _ => ?_) (fun _ => ?_)⟩
    · refine ⟨_, rfl, _, rfl, _, rfl, _, rfl, tz, _, rfl, _, rfl, _, _, rfl, rfl, _, rfl, _, rfl, tz, _, _, rfl, rfl, ?_, ?_⟩
      · have := cl none (some d)
        have := cl (some (d + 1)) none
        exact zz (by omega)
      · exact q _ H4 D4 (by rw [LW.len_app]; have := cl none (some d); have := cl (some (d + 1)) none; omega) ((ha.cut _ _).app (ha.cut _ _))
    refine ⟨_, rfl, rfl, _, rfl, ite2 (fun _ => ?_) (fun _ => ?_)⟩
    · refine ⟨_, rfl, _, rfl, _, rfl, _, rfl, tz, _, rfl, _, _, rfl, rfl, ?_, _, rfl, _, rfl, _, _, rfl, rfl, _, rfl, _, rfl, tz, _, _, rfl, rfl, ?_, ?_⟩
      · have := cl none (some d)
        exact zz (by omega)
      · have := cl none (some d)
        have := cl (some (d + 1)) none
        exact zz (by rw [LW.len_app]; omega)
      · exact q _ H4 D4 (by rw [LW.len_app, LW.len_app]; have := cl none (some d); have := cl (some (d + 1)) none; omega) (((ha.cut _ _).app ga).app (ha.cut _ _))
    refine ⟨_, rfl, rfl, _, rfl, ite2 (fun _ => ?_) (fun _ => ?_)⟩
    · exact ⟨_, rfl, q t H4 D4 (by omega) ha⟩
    refine ⟨_, rfl, _, rfl, _, rfl, _, rfl, tz, _, rfl, _, _, rfl, rfl, ?_, _, rfl, _, rfl, _, rfl, _, rfl, tz, _, _, rfl, rfl, ?_, ?_⟩
    · have := cl none (some d)
      exact zz (by omega)
    · have := cl none (some d)
      have := cl (some d) none
      exact zz (by rw [LW.len_app]; omega)
    · exact q _ H4 D4 (by rw [LW.len_app, LW.len_app]; have := cl none (some d); have := cl (some d) none; omega) (((ha.cut _ _).app ga).app (ha.cut _ _))
end
end Lag

set_option maxRecDepth 100000
set_option maxHeartbeats 4000000
/-! ### try with several except clauses, each with a name or without -/
namespace L2
open PySem PySem.Spec PyProof.Rows
/-- a clause: the class that it names, the slot of its own name, what its suite does -/
structure Cl where
  c : Value
  i : Option Nat
  ts : Addr → Value → Option Addr → TS
/-- behind the suite the clause's own name is gone -/
def Cl.ends (k : Cl) (D : Ends) : Ends := match k.i with
  | none => D
  | some i => ⟨fun s h => D.nx (s.set i none) h, D.rt, fun s h => D.bk (s.set i none) h, fun s h => D.ct (s.set i none) h⟩
def Cl.in_ (k : Cl) (a : Addr) (σ : St) : St := match k.i with
  | none => σ
  | some i => σ.set i (some (.ref a))
def wCls (K : PySem.W.Frag) (Wo : WX) (D : Ends) : List Cl → WX
  | [] => Wo
  | k :: l => fun cls d σ H => ∃ b : Bool, PySem.W.exmOne K cls k.c = some b ∧ (b = true → ∀ a, H a = none → k.ts a cls d (k.ends D) (k.in_ a σ) H) ∧ (b = false → wCls K Wo D l cls d σ H)
inductive ClsOk (X : Cx) : List ExceptHandler → List Cl → Prop
  | nil : ClsOk X [] []
  | bare {x : Str} {c : Value} {ts : Addr → Value → Option Addr → TS} {b1 : Stmt} {ss : List Stmt} {p1 p2 : Pos} {hs : List ExceptHandler} {l : List Cl} (hc : Names X x c)
      (su : ∀ (a : Addr) (oe : Obj) (cls : Value) (d : Option Addr) (pn : List (Addr × Obj)), Zc cls d oe → (∃ vs, oe.data = .fields vs) → PSs (X.suite a ((a, oe) :: pn)) (b1 :: ss) (ts a cls d)) (r : ClsOk X hs l) :
      ClsOk X (.ExceptHandler (some (.Name x p1)) none (b1 :: ss) p2 :: hs) (⟨c, none, ts⟩ :: l)
  | named {x n : Str} {c : Value} {i : Nat} {ts : Addr → Value → Option Addr → TS} {b1 : Stmt} {ss : List Stmt} {p1 p2 : Pos} {hs : List ExceptHandler} {l : List Cl} (hi : X.N[i]? = some n) (hl : X.env.kindOf n = some .local) (hc : Names X x c)
      (su : ∀ (a : Addr) (oe : Obj) (cls : Value) (d : Option Addr) (pn : List (Addr × Obj)), Zc cls d oe → (∃ vs, oe.data = .fields vs) → PSs (X.suite a ((a, oe) :: pn)) (b1 :: ss) (ts a cls d)) (r : ClsOk X hs l) :
      ClsOk X (.ExceptHandler (some (.Name x p1)) (some n) (b1 :: ss) p2 :: hs) (⟨c, some i, ts⟩ :: l)
section
variable {X : Cx} {body : List Stmt} {h0 : ExceptHandler} {hs : List ExceptHandler} {l : List Cl} {pos : Pos} {tb : WX → TS} {Wo : WX}
theorem ps_try_cls (hst : X.stack = X.env :: X.outer) (hfr : X.env.frame = some X.env.locals) (hN : X.N.Nodup) (tk : Takes X Wo)
    (hb : ∀ (W : WX) (pn : List (Addr × Obj)) (xe : Value → Shared → Prop), Takes (X.tr pn xe) W → PassesOwn (model X.prog X.w) X.A X.env xe → PSs (X.tr pn xe) body (tb W))
    (hh : ClsOk X (h0 :: hs) l) : PS X (.Try body (h0 :: hs) [] [] pos) (fun D σ H => tb (wCls X.K Wo D l) D σ H) := by
  constructor
  intro pins s σ H D I h
  have ok := I.ok
  have frs0 : X.A.frames = some (X.env :: X.outer) := hst ▸ ok.frames
  refine wpAny_Try_except (wpAny_mono ((hb (wCls X.K Wo D l) (X.pn ++ pins)
    (fun e t1 => wpAny (model X.prog X.w) X.A (noteFrame e X.env)
      (fun _ t2 => wpAny (model X.prog X.w) X.A (setFlight e none)
        (fun _ t3 => wpAny (model X.prog X.w) X.A (handleBy e X.env (h0 :: hs)) (SP X pins D) X.xe t3) X.xe t2) X.xe t1)
    ?_ PassesOwn.looking).run [] s σ H D (I.toTry _) h) ?_ fun e t1 he => he)
  · intro u t xx
    have goal : wpAny (model X.prog X.w) X.A (noteFrame u X.env) (fun _ t2 => wpAny (model X.prog X.w) X.A (setFlight u none) (fun _ t3 => wpAny (model X.prog X.w) X.A (handleBy u X.env (h0 :: hs)) (SP X pins D) X.xe t3) X.xe t2) X.xe t := by
      obtain ⟨a, B, sI, pins', σ', H', cls, d, rfl, J0, nb, up, sky0, na, os, ag, w⟩ := xx
      have J : Inv X pins σ' H' sI := J0.ofTry ok
      have sky : Sky B (X.env :: X.outer) a (Zc cls d) X.env.locals t.heap := hst ▸ sky0
      refine Sky.land Zc.steady frs0 hfr sky fun h3 fl3 up3 => ?_
      have J3 : Inv X pins σ' H' { t with heap := h3 } := J.landed nb fl3.1 (up.trans up3) os ag
      obtain ⟨oe, vs, he, hz, hd⟩ := fl3.there
      have off : a ∉ frs (X.env :: X.outer) := fun hm => by
        obtain ⟨_, o', e', no⟩ := fl3.2.2.1.mem hm
        rw [he] at e'
        cases e'
        exact no _ hd
      have offL : a ≠ X.env.locals := fun z => off (List.mem_filterMap.mpr ⟨X.env, by simp, by rw [hfr, z]⟩)
      have offF : a ∉ X.fs := fun hm => by
        obtain ⟨e, hm2, q⟩ := List.mem_filterMap.mp hm
        exact off (List.mem_filterMap.mpr ⟨e, List.mem_cons_of_mem _ hm2, q⟩)
      have S3 := J3.suite he hd na offL offF
      -- is it of the class that is named
      suffices go : ∀ {hs' : List ExceptHandler} {l' : List Cl}, ClsOk X hs' l' → wCls X.K Wo D l' cls d σ' H' → wpAny (model X.prog X.w) X.A (handleBy (.ref a) X.env hs') (SP X pins D) X.xe { t with heap := h3 } from go hh w
      have typ : PySem.W.Looks (model X.prog X.w) h3 (typeOf (.ref a)) cls := by
        intro A Q E s k q
        exact wpAny_typeOf_ref (k _ _ he) (by rw [hz.1]; exact q)
      have nm : ∀ {x : Str} {c : Value} {p1 : Pos} {Q E : Value → Shared → Prop}, Names X x c → Q c { t with heap := h3 } → wpAny (model X.prog X.w) (X.A.mark (some (.ref a))) (eval (.Name x p1) X.env) Q E { t with heap := h3 } := by
        intro x c p1 Q E hc q
        rcases hc with ⟨g1, g2, g3 | ⟨g3, g4, g5⟩⟩
        · exact ld_glob (X := X.suite a ((a, oe) :: (X.pn ++ pins))) S3 g1 g3 q g2
        · exact ld_blt (X := X.suite a ((a, oe) :: (X.pn ++ pins))) S3 g1 g3 g4 q g5 g2
      intro hs' l' ck
      induction ck with
      | nil =>
        intro w
        apply wpAny_handleBy_nil
        obtain ⟨_, _, _, ob, us, T, oT, ts', g1, _, g3, g4, _⟩ := id fl3
        unfold PySem.passOn
        refine wpAny_bind (wpAny_field g1 g3 g4 ?_)
        have nn : ¬ ((Value.ref T == Value.none) = true) := by simp
        rw [if_neg nn]
        have out : wpAny (model X.prog X.w) X.A (setFlight (.ref a) X.env.frame) (fun _ t4 => wpAny (model X.prog X.w) X.A (throw (.ref a) : Sem Flow) (SP X pins D) X.xe t4) X.xe { t with heap := h3 } := by
          rw [hfr]
          refine HandSPX.setFlight_upZ fl3 fun h4 hh4 up4 => wpAny_throw (tk _ _ ?_)
          exact ⟨a, B, sI, pins, σ', H', cls, d, rfl, J, nb, (up.trans up3).trans up4, .inr (.inr (hst ▸ hh4)), na, os, ag, w⟩
        first
          | exact wpAny_bind (wpAny_pure (wpAny_bind out))
          | exact wpAny_bind out
      | bare hc su r ih =>
        rintro ⟨b, eb, yes, no⟩
        refine wpAny_handleBy_cons (codeAny_handlers_test (nm hc ((PySem.W.exm_one (M := model X.prog X.w) J3.kIn typ eb).here ?_))) (fun q => by cases q)
        cases b
        · exact ih (no rfl)
        · refine codeAny_handlers_suite (HandSPX.lands_againZ fl3 fun h4 fl4 up4 => ?_)
          have J4 : Inv X pins σ' H' { t with heap := h4 } := J.landed nb fl4.1 ((up.trans up3).trans up4) os ag
          obtain ⟨o4, v4, he4, hz4, hd4⟩ := fl4.there
          have S4 := J4.suite he4 hd4 na offL offF
          refine wpAny_mono ((su a o4 cls d (X.pn ++ pins) hz4 ⟨_, hd4⟩).run [] _ _ H' _ S4 (yes rfl a na)) (fun f t6 hp => ?_) (fun _ _ z => False.elim z)
          cases f
          case next => exact ⟨_, _, hp.choose_spec.choose_spec.1.unsuite ok, hp.choose_spec.choose_spec.2⟩
          case brk => exact ⟨_, _, hp.choose_spec.choose_spec.1.unsuite ok, hp.choose_spec.choose_spec.2⟩
          case cont => exact ⟨_, _, hp.choose_spec.choose_spec.1.unsuite ok, hp.choose_spec.choose_spec.2⟩
          case ret u =>
            obtain ⟨v6, σ6, H6, S6, r6, q6⟩ := hp
            exact ⟨v6, σ6, H6, S6.unsuite ok, r6, q6⟩
      | @named x n c i ts b1 ss p1 p2 hs2 l2 hi hl hc su r ih =>
        rintro ⟨b, eb, yes, no⟩
        refine wpAny_handleBy_cons (codeAny_handlers_test (nm hc ((PySem.W.exm_one (M := model X.prog X.w) J3.kIn typ eb).here ?_))) (fun q => by cases q)
        cases b
        · exact ih (no rfl)
        · refine codeAny_handlers_suite_as (HandSPX.lands_againZ fl3 fun h4 fl4 up4 => ?_)
          have J4 : Inv X pins σ' H' { t with heap := h4 } := J.landed nb fl4.1 ((up.trans up3).trans up4) os ag
          obtain ⟨o4, v4, he4, hz4, hd4⟩ := fl4.there
          have S4 := J4.suite he4 hd4 na offL offF
          refine store_ok (X := X.suite a ((a, o4) :: (X.pn ++ pins))) (v := .ref a) S4 hN hi (.inl hl) rfl (fun t5 S5 => ?_) (.inr hl)
          refine wpAny_mono ((su a o4 cls d (X.pn ++ pins) hz4 ⟨_, hd4⟩).run [] t5 _ H' _ S5 (yes rfl a na)) (fun f t6 hp => ?_) (fun _ _ z => False.elim z)
          have gone : ∀ {σ6 : St} {H6 : Hp} {Q : Shared → Prop}, Inv (X.suite a ((a, o4) :: (X.pn ++ pins))) [] σ6 H6 t6 → (∀ t7, Inv X pins (σ6.set i none) H6 t7 → Q t7) →
              wpAny (model X.prog X.w) X.A (do bindName X.env n .none; unbindBehindTheSuite X.env n p2) (fun _ t7 => Q t7) X.xe t6 := by
            intro σ6 H6 Q S6 hq
            exact gone_ok (S6.unsuite ok) hN hi hl hq
          cases f
          case next =>
            obtain ⟨σ6, H6, S6, q6⟩ := hp
            exact gone S6 fun t7 J7 => ⟨_, _, J7, q6⟩
          case brk =>
            obtain ⟨σ6, H6, S6, q6⟩ := hp
            exact gone S6 fun t7 J7 => ⟨_, _, J7, q6⟩
          case cont =>
            obtain ⟨σ6, H6, S6, q6⟩ := hp
            exact gone S6 fun t7 J7 => ⟨_, _, J7, q6⟩
          case ret u =>
            obtain ⟨v6, σ6, H6, S6, r6, q6⟩ := hp
            exact gone S6 fun t7 J7 => ⟨_, _, _, J7, r6, q6⟩
    exact goal
  · intro f t1 hp
    cases f
    case next =>
      obtain ⟨σ', H', J', q⟩ := hp
      exact wpAny_execs_nil ⟨σ', H', J'.ofTry ok, q⟩
    case brk =>
      obtain ⟨σ', H', J', q⟩ := hp
      exact ⟨σ', H', J'.ofTry ok, q⟩
    case cont =>
      obtain ⟨σ', H', J', q⟩ := hp
      exact ⟨σ', H', J'.ofTry ok, q⟩
    case ret u =>
      obtain ⟨v, σ', H', J', r, q⟩ := hp
      exact ⟨v, σ', H', J'.ofTry ok, r, q⟩
end
end L2


set_option maxRecDepth 100000
set_option maxHeartbeats 4000000
/-! ### isinstance of a caught error that has fields of its own, and of several classes at once -/
namespace PySem.W
open PySem PySem.Spec PySem.Calls PyProof.Rows
section
variable {prog : Program} {w : World} {A : Around} {E : Value → Shared → Prop} {s : Shared} {K : Frag} {x D : Addr} {ox : Obj} {od : Option Obj}
theorem cls_found {D : Addr} {a g : Value} {n : Str} (hd : hasDictIn K D = true) (h1 : findIn K (.ref D) n = some (some a)) (h2 : specialIn K a "__get__" = some (some g)) (h3 : takesIn K a = some true) : findObj K D od n = some (.bind g a) := by
  obtain ⟨cd, hc, _⟩ := any_some hd
  unfold findObj
  rw [hc, Option.bind_some, h1, Option.bind_some]
  simp [h2, h3]
theorem cls_of_exc {Q : Option Value → Shared → Prop} (C1 : findIn K (.ref D) "__getattribute__" = some (some (.builtin "BaseException.__getattribute__"))) (C2 : findIn K (.ref D) "__getattr__" = some none) (C3 : subIn K (.ref D) (.type "BaseException") = some true)
    (C4 : hasDictIn K D = true) (C5 : findIn K (.ref D) "__class__" = some (some (.builtin "object.__class__"))) (C6 : specialIn K (.builtin "object.__class__") "__get__" = some (some (.builtin "getset_descriptor.__get__"))) (C7 : takesIn K (.builtin "object.__class__") = some true) (C8 : mroIn K D (.type "object") = some true)
    (X : K.In s.heap) (I : InstAt s.heap x ox D od) (h : Q (some (.ref D)) { s with toks := s.toks + 1 }) : wpAny (model prog w) A (getAttr? (.ref x) "__class__") Q E s := by
  have fnd := cls_found (od := od) C4 C5 C6 C7
  obtain ⟨hp, g, d, t, os⟩ := s
  have t0 := I.type (M := model prog w)
  have t1 := looks_findIn (M := model prog w) X C1
  have t2 := looks_findIn (M := model prog w) X C2
  have t3 := looks_find (M := model prog w) X I fnd
  have isE : Looks (model prog w) hp (isInstance (.ref x) (.type "BaseException")) true := t0.andThen (looks_subIn X C3)
  have own : (Value.builtin "BaseException.__getattribute__" == Value.builtin "object.__getattribute__") = false := by decide +kernel
  have q1 : (onTheHeap (Value.ref D) && Value.builtin "BaseException.__getattribute__" == Value.builtin "object.__getattribute__") = false := by rw [own]; rfl
  unfold getAttr? getAttrBy? getAttrBy
  refine wpAny_bind (wpAny_mkText (wpAny_bind (wpAny_attempt (wpAny_holding (wpAny_bind (t0.at (wpAny_bind (t1.at ?_))))))))
  show wpAny _ _ (if (onTheHeap (Value.ref D) && Value.builtin "BaseException.__getattribute__" == Value.builtin "object.__getattribute__") = true then _ else _) _ _ _
  rw [q1, if_neg Bool.false_ne_true]
  unfold getAttrByItsOwn hookBefore
  refine wpAny_bind ?_
  rw [if_pos (show onTheHeap (Value.ref D) = true from rfl)]
  refine t2.at (wpAny_bind (wpAny_attempt (wpAny_holding ?_)))
  unfold callGetattribute
  rw [show (false && onTheHeap (Value.builtin "BaseException.__getattribute__")) = false from rfl, if_neg Bool.false_ne_true]
  unfold boundAndCalled
  rw [PySem.F.excAttr_ValueError.ga.bind (.ref x)]
  refine wpAny_bind (wpAny_pure ?_)
  show wpAny _ _ (call (.builtin "BaseException.__getattribute__") [.ref x, .str "__class__" t]) _ _ _
  refine wpAny_call (codeAny_call_builtin PySem.F.excAttr_ValueError.ga.plain PySem.F.entry_bexc_ga ?_)
  refine @check_slot (model prog w) _ _ ⟨hp, g, d, t + 1, os⟩ "BaseException.__getattribute__" "BaseException" "__getattribute__" (.ref x) [.str "__class__" t] [] _ (by decide +kernel) (by decide +kernel) isE (PySem.F.args_bexc_ga (.ref x) (.str "__class__" t)) ?_
  unfold Builtin.«object.__getattribute__»
  refine wpAny_bind (wpAny_of_eq (a := ((Value.ref x : Value), [Value.str "__class__" t])) (by first | rfl | (simp only [slotArgs]; rfl)) ?_)
  refine wpAny_bind (wpAny_pure (wpAny_bind (t0.at (wpAny_bind (t3.at ?_)))))
  show wpAny _ _ (holding [Value.builtin "object.__class__"] (call (.builtin "getset_descriptor.__get__") [.builtin "object.__class__", .ref x, .ref D]) >>= ret) _ _ _
  refine wpAny_bind (wpAny_holding (wpAny_call (class_get (s := ⟨hp, g, d, t + 1, os⟩) (ox := ox) (od := od) X I C8 ?_)))
  refine wpAny_pure ?_
  show wpAny _ _ (handedOut (.ref D)) _ _ _
  rw [handedOut_of (v := .ref D) rfl]
  first
    | exact wpAny_pure (wpAny_pure h)
    | exact wpAny_pure h
    | exact wpAny_pure (wpAny_bind (wpAny_pure (wpAny_pure h)))
theorem kitD (C1 : findIn K (.ref D) "__getattribute__" = some (some (.builtin "BaseException.__getattribute__"))) (C2 : findIn K (.ref D) "__getattr__" = some none) (C3 : subIn K (.ref D) (.type "BaseException") = some true)
    (C4 : hasDictIn K D = true) (C5 : findIn K (.ref D) "__class__" = some (some (.builtin "object.__class__"))) (C6 : specialIn K (.builtin "object.__class__") "__get__" = some (some (.builtin "getset_descriptor.__get__"))) (C7 : takesIn K (.builtin "object.__class__") = some true) (C8 : mroIn K D (.type "object") = some true) :
    KitX K (.ref x) (.ref D) (fun h => InstAt h x ox D od) := by
  have isC : ∃ c d cd sl, K.lookup D = some ⟨c, d, .cls cd, sl⟩ := by
    obtain ⟨cd, hc, _⟩ := any_some C4
    unfold clsIn at hc
    split at hc
    · exact ⟨_, _, _, _, by assumption⟩
    · cases hc
  obtain ⟨c, d, cd, sl, ho⟩ := isC
  refine ⟨fun _ _ _ I => I.type, fun M h X _ => ?_, fun h tp dd its n sl' X htp => ?_, fun X I k => cls_of_exc C1 C2 C3 C4 C5 C6 C7 C8 X I k⟩
  · intro A' Q' E' s' k q
    unfold isType loadHead
    exact wpAny_bind (wpAny_loadPart (k _ _ (X _ _ ho)) (wpAny_pure q))
  · refine Bool.eq_false_iff.mpr fun q => ?_
    have e : D = tp := Value.ref.inj (beq_iff_eq.mp q)
    rw [← e, X _ _ ho] at htp
    cases htp
end
end PySem.W
namespace L2
open PySem PySem.Spec PyProof.Rows
/-- the fields of the error, where it has some -/
def XdAt (d : Option Addr) (H : Hp) : Prop := d = none ∨ ∃ (dd : Addr) (fs : List (Str × V)), d = some dd ∧ H dd = some (.xd fs)
def rIs1 (K : PySem.W.Frag) (D a : Addr) (d : Option Addr) : List V → Hp → VK → Prop := fun xs H Q => ∃ (c : V) (cv : Value) (b : Bool), xs = [.ref a, c] ∧ XdAt d H ∧ (∀ u, RelV c u → u = cv) ∧ PySem.W.kitOne K (.ref D) cv = some b ∧ Q (.bl b) H
def rIsN (K : PySem.W.Frag) (D a : Addr) (d : Option Addr) : List V → Hp → VK → Prop := fun xs H Q => ∃ (t : Addr) (cs : List V) (cvs : List Value) (b : Bool), xs = [.ref a, .ref t] ∧ XdAt d H ∧ SqT K H t cs ∧ (∀ us, Vals cs us → us = cvs) ∧ PySem.W.kitAny K (.ref D) cvs = some b ∧ Q (.bl b) H
section
variable {X : Cx} {a D : Addr} {oe : Obj} {d : Option Addr} {pn pins : List (Addr × Obj)} {σ : St} {H : Hp} {s : Shared}
theorem inst_suite (I : Inv (X.suite a ((a, oe) :: pn)) pins σ H s) (hz : Zc (.ref D) d oe) (hf : ∃ vs, oe.data = .fields vs) (hx : XdAt d H) : ∃ od, PySem.W.InstAt s.heap a oe D od := by
  obtain ⟨hget, _⟩ := I.pin (a, oe) (List.mem_append.mpr (.inl List.mem_cons_self))
  obtain ⟨vs, hv⟩ := hf
  rcases hx with rfl | ⟨dd, fs, rfl, ea⟩
  · exact ⟨none, hget, hz.1, by unfold PySem.W.notCls; rw [hv] <;> rfl, by rw [hz.2]; trivial⟩
  · have hx : ObjOk X.prog X.w H s.heap dd (.xd fs) := I.hok dd _ ea
    obtain ⟨mA, hns, _⟩ := hx
    obtain ⟨od, ho, _⟩ := lookIn_ns hns
    exact ⟨some od, hget, hz.1, by unfold PySem.W.notCls; rw [hv] <;> rfl, by rw [hz.2]; exact ho⟩
theorem call_is1 (C : ExcC X.K D) (hz : Zc (.ref D) d oe) (hf : ∃ vs, oe.data = .fields vs) : CallR (X.suite a ((a, oe) :: pn)) (.builtin "isinstance") (rIs1 X.K D a d) := by
  intro pins s σ H xs us Q I r h
  obtain ⟨c, cv, b, rfl, hx, hcv, e, q⟩ := h
  obtain ⟨u1, u2, rfl, rx, rt⟩ := vals2 r
  cases rx
  have ec := hcv _ rt
  subst ec
  obtain ⟨od, J⟩ := inst_suite I hz hf hx
  exact PySem.W.kia_one (PySem.W.kitD C.hg C.hk C.hs C.hd C.ha C.hn C.ht C.hm) I.kIn J e (fun z => nomatch z) fun tk => ⟨.bl b, H, I.kept (t' := tk) fun _ _ z => z, rfl, q⟩
theorem call_isN (C : ExcC X.K D) (hz : Zc (.ref D) d oe) (hf : ∃ vs, oe.data = .fields vs) : CallR (X.suite a ((a, oe) :: pn)) (.builtin "isinstance") (rIsN X.K D a d) := by
  intro pins s σ H xs us Q I r h
  obtain ⟨t, cs, cvs, b, rfl, hx, sq, hcv, e, q⟩ := h
  obtain ⟨u1, u2, rfl, rx, rt⟩ := vals2 r
  cases rx
  cases rt
  obtain ⟨od, J⟩ := inst_suite I hz hf hx
  obtain ⟨its, rv, ⟨o, ho, hc, n, hd⟩, _⟩ := I.tuple sq
  have ei := hcv _ rv
  subst ei
  obtain ⟨o1, o2, o3, o4⟩ := o
  dsimp only at hc hd
  subst hc hd
  exact PySem.W.kia_tup (PySem.W.kitD C.hg C.hk C.hs C.hd C.ha C.hn C.ht C.hm) I.kIn J ho e (fun z => nomatch z) fun tk => ⟨.bl b, H, I.kept (t' := tk) fun _ _ z => z, rfl, q⟩
end
end L2


set_option maxRecDepth 100000
set_option maxHeartbeats 4000000
namespace Lag
open PySem PySem.Spec PyProof.Rows L2
abbrev sLRead : Stmt := topS 22 -- @_law_read
abbrev sLRef : Stmt := topS 23 -- @_law_refused
theorem pss_when {X : Cx} {ss : List Stmt} {p : Prop} {t : TS} (h : p → PSs X ss t) : PSs X ss (fun D σ H => p ∧ (σ.length = X.N.length → t D σ H)) := ⟨fun pins s σ H D I hh => (h hh.1).run pins s σ H D I (hh.2 I.len)⟩
theorem fn_or {P : Program} {w : World} {K : PySem.W.Frag} {mg : Str → Option Value} {base : Heap} {CX : CXT} {k : Nat} {f : Addr} {fd : FuncData} {ps : List Str} {sp sp' : Sp} (F : FnOk P w K mg base CX k f fd ps sp) (F' : FnOk P w K mg base CX k f fd ps sp') : FnOk P w K mg base CX k f fd ps (fun vs H Q E => sp vs H Q E ∨ sp' vs H Q E) :=
  ⟨fun vs H Q E h => h.elim (F.len vs H Q E) (F'.len vs H Q E), fun A outer s H args us vs Q E hr he hb hv hs => hs.elim (F.run A outer s H args us vs Q E hr he hb hv) (F'.run A outer s H args us vs Q E hr he hb hv)⟩
def rInt1 : List V → Hp → VK → Prop := fun xs H Q => (∃ i, xs = [.int i] ∧ Q (.int i) H) ∨ ∃ k, xs = [.bl k] ∧ Q (.int (if k then 1 else 0)) H
/-- the classes that the law asks for -/
structure RdC (K : PySem.W.Frag) (mg : Str → Option Value) (C0 CT CL : Addr) : Prop where
  g0 : mg "LagError" = some (.ref C0)
  gT : mg "NoText" = some (.ref CT)
  gL : mg "NoLags" = some (.ref CL)
  mI : mg "isinstance" = none
  mV : mg "ValueError" = none
  eT : PySem.W.exmOne K (.ref CT) (.ref CT) = some true
  eL : PySem.W.exmOne K (.ref CL) (.ref CL) = some true
  kTV : PySem.W.kitOne K (.ref CT) (.type "ValueError") = some true
  kTL : PySem.W.kitOne K (.ref CT) (.ref CL) = some false
  kLT : PySem.W.kitOne K (.ref CL) (.ref CT) = some false
  xT : ExcC K CT
  xL : ExcC K CL
def spReadBoth (K : PySem.W.Frag) (CT : Addr) : Sp := fun vs H Q E => spReadLagsX K CT vs H Q E ∨ spReadLagsN K CT vs H Q E
def spLRead (K : PySem.W.Frag) : Sp := fun vs H Q _ => ∃ v : V, vs = [v] ∧ ((∃ t : Str, v = .str t ∧ t.length ≤ 4000 ∧ (LW.Good t → ∀ l H', Same H H' → H l = none → H' l = some (.lst ((LW.vals t).map V.int)) → Q (.ref l) H') ∧ (¬ LW.Good t → ∀ H', Same H H' → Q (.str "no text") H')) ∨ (NoStr K H v ∧ ∀ H', Same H H' → Q (.str "no text") H'))
/-- no list of whole numbers -/
def NoWh (K : PySem.W.Frag) (H : Hp) (v : V) : Prop := (∃ t : String, TyX K H v (.type t) ∧ kitB t "list" = some false) ∨ ∃ (l : Addr) (xs : List V) (bs : List Bool), v = .ref l ∧ H l = some (.lst xs) ∧ (∀ H', Same H H' → All2 (WhT K H') xs bs) ∧ bs.all id = false ∧ bs.length ≤ 5000
def spLRef (K : PySem.W.Frag) : Sp := fun vs H Q _ => ∃ v : V, vs = [v] ∧ NoWh K H v ∧ ∀ H', Same H H' → Q (.bl true) H'
section
variable {P : Program} {w : World} {K : PySem.W.Frag} {mg : Str → Option Value} {base : Heap}
theorem fn_both {CT f : Addr} {fd : FuncData} {k : Nat} {CX : CXT} (F : FnOk P w K mg base CX k f fd ["text"] (spReadLagsX K CT)) (F' : FnOk P w K mg base CX k f fd ["text"] (spReadLagsN K CT)) : FnOk P w K mg base CX k f fd ["text"] (spReadBoth K CT) := fn_or F F'
abbrev nLRead : List Str := ["_law_text", "e"]
theorem scLRead : FnScope nLRead ["_law_text"] (defScope sLRead) := ⟨rfl, rfl, rfl, by decide +kernel, rfl, by decide +kernel, by decide +kernel⟩
theorem ok_lread {f fR C0 CT CL : Addr} {fd fdR : FuncData} (F : Fun K "_law_read" "_law_read" sLRead f fd) (B : Bt mg) (R : RdC K mg C0 CT CL) (gR : mg "read_lags" = some (.ref fR)) (kR : PySem.W.keepIn K (.ref fR) = true) (bR : Binds K fdR ["text"] []) (DR : FnOk P w K mg base (L2.CX P w) 3 fR fdR ["text"] (spReadBoth K CT)) : FnOk P w K mg base CX0 4 f fd ["_law_text"] (spLRead K) := by
  refine F.ok scLRead (fun vs H Q E h => ?_) (fun cdv A outer s H vs Q E hr h => ?_)
  · obtain ⟨v, rfl, _⟩ := h
    rfl
  · obtain ⟨v, rfl, alt⟩ := h
    have nd := scLRead.nd
    refine ⟨_, pss_one (ps_try_cls (tb := fun W => tRet (tCallS (spReadBoth K CT) (WE W) (tCons (tVar 0) tNil))) (Wo := fun _ _ _ _ => False)
        (l := [⟨.ref CT, some 1, fun a cls d D σ H => (cls = .ref CT ∧ d = none) ∧ (σ.length = 2 → tRet (tOp (rIxL K) (tLst (tCons (tC (.str "other")) (tCons (tC (.str "no text")) tNil))) (tCB rInt1 (tCons (tAndV (tCB (rIs1 K CT a none) (tCons (tVar 1) (tCons (tC (.ty "ValueError")) tNil))) (tNotV (tCB (rIs1 K CT a none) (tCons (tVar 1) (tCons (tC (.ref CL)) tNil))))) tNil))) D σ H)⟩, ⟨.ref C0, none, fun _ _ _ => tRet (tC (.str "other"))⟩])
        rfl rfl nd takes0 (fun W pn xe tk _ => pss_one (ps_ret (pe_callS DR (hr.mono (by decide)) (by rfl) gR kR bR (fun σ => passAt tk σ) (pa_cons (pv 0) pa_nil))))
        (ClsOk.named rfl rfl ⟨rfl, by decide, .inl R.gT⟩ (fun a oe cls d pn hz hf => pss_when (fun ⟨e1, e2⟩ => by
          subst e1 e2
          exact pss_one (ps_ret (pe_ix ix_list (pe_lst (pa_cons pe_str (pa_cons pe_str pa_nil))) (pe_callTy call_int1 (by rfl) B.int (by decide +kernel) (pa_cons (pe_and (pe_callB (call_is1 R.xT hz hf) (by rfl) R.mI (by decide +kernel) (pa_cons (pv 1) (pa_cons (pe_bltn (v := .ty "ValueError") (by rfl) R.mV (by decide +kernel) rfl) pa_nil))) (pe_one (pe_not (pe_callB (call_is1 R.xT hz hf) (by rfl) R.mI (by decide +kernel) (pa_cons (pv 1) (pa_cons (pe_glob (v := .ref CL) (by rfl) R.gL rfl) pa_nil)))))) pa_nil)) (fun _ _ => rfl))))) (.bare ⟨rfl, by decide, .inl R.g0⟩ (fun _ _ _ _ _ _ _ => pss_one (ps_ret pe_str)) .nil))), ?_⟩
    refine ⟨_, rfl, ?_⟩
    rcases alt with ⟨t, rfl, ht, q, qn⟩ | ⟨hv, qn⟩
    · refine .inl ⟨t, rfl, ht, fun g l H' s n e => q g l H' s n e, fun g H' s => ?_⟩
      refine ⟨true, R.eT, fun _ a ha => ⟨⟨rfl, rfl⟩, fun hl => ?_⟩, fun z => by cases z⟩
      refine ⟨(by show 2 ≤ sizeLine; decide), fun l1 hl1 => ?_⟩
      have s2 := same_new (o := .lst [.str "other", .str "no text"]) hl1
      have e2 : (upd H' l1 (.lst [.str "other", .str "no text"])) l1 = some (.lst [.str "other", .str "no text"]) := upd_same
      generalize upd H' l1 (.lst [.str "other", .str "no text"]) = H2 at s2 e2
      refine ⟨_, rfl, .ty "ValueError", .type "ValueError", true, rfl, .inl rfl, (fun u hu => hu), R.kTV, true, rfl, iteT ?_⟩
      refine ⟨_, rfl, .ref CL, .ref CL, false, rfl, .inl rfl, (fun u hu => hu), R.kTL, false, rfl, .inr ⟨_, rfl, ?_⟩⟩
      exact ⟨l1, _, 1, _, rfl, rfl, SqL.of e2, atI_nat (j := 1) rfl, qn g _ (s.trans s2)⟩
    · refine .inr ⟨v, rfl, hv, ?_⟩
      refine ⟨true, R.eT, fun _ a ha => ⟨⟨rfl, rfl⟩, fun hl => ?_⟩, fun z => by cases z⟩
      refine ⟨(by show 2 ≤ sizeLine; decide), fun l1 hl1 => ?_⟩
      have s2 := same_new (o := .lst [.str "other", .str "no text"]) hl1
      have e2 : (upd H l1 (.lst [.str "other", .str "no text"])) l1 = some (.lst [.str "other", .str "no text"]) := upd_same
      generalize upd H l1 (.lst [.str "other", .str "no text"]) = H2 at s2 e2
      refine ⟨_, rfl, .ty "ValueError", .type "ValueError", true, rfl, .inl rfl, (fun u hu => hu), R.kTV, true, rfl, iteT ?_⟩
      refine ⟨_, rfl, .ref CL, .ref CL, false, rfl, .inl rfl, (fun u hu => hu), R.kTL, false, rfl, .inr ⟨_, rfl, ?_⟩⟩
      exact ⟨l1, _, 1, _, rfl, rfl, SqL.of e2, atI_nat (j := 1) rfl, qn _ s2⟩
abbrev nLRef : List Str := ["_law_thing", "e"]
theorem scLRef : FnScope nLRef ["_law_thing"] (defScope sLRef) := ⟨rfl, rfl, rfl, by decide +kernel, rfl, by decide +kernel, by decide +kernel⟩
theorem ok_lref {f fL C0 CT CL : Addr} {fd fdL : FuncData} (F : Fun K "_law_refused" "_law_refused" sLRef f fd) (B : Bt mg) (R : RdC K mg C0 CT CL) (gL : mg "lags_text" = some (.ref fL)) (kL : PySem.W.keepIn K (.ref fL) = true) (bL : Binds K fdL ["lags"] []) (DL : FnOk P w K mg base (L2.CX P w) 2 fL fdL ["lags"] (spLagsTN K CL)) : FnOk P w K mg base CX0 3 f fd ["_law_thing"] (spLRef K) := by
  refine F.ok scLRef (fun vs H Q E h => ?_) (fun cdv A outer s H vs Q E hr h => ?_)
  · obtain ⟨v, rfl, _⟩ := h
    rfl
  · obtain ⟨v, rfl, hv, q⟩ := h
    have nd := scLRef.nd
    refine ⟨_, pss_cons (ps_try_cls (tb := fun W => tDrop (tCallS (spLagsTN K CL) (WE W) (tCons (tVar 0) tNil))) (Wo := fun _ _ _ _ => False)
        (l := [⟨.ref CL, some 1, fun a cls d D σ H => (cls = .ref CL ∧ d = none) ∧ (σ.length = 2 → tRet (tNotV (tCB (rIs1 K CL a none) (tCons (tVar 1) (tCons (tC (.ref CT)) tNil)))) D σ H)⟩, ⟨.ref C0, none, fun _ _ _ => tRet (tC (.bl false))⟩])
        rfl rfl nd takes0 (fun W pn xe tk _ => pss_one (ps_expr (pe_callS DL (hr.mono (by decide)) (by rfl) gL kL bL (fun σ => passAt tk σ) (pa_cons (pv 0) pa_nil))))
        (ClsOk.named rfl rfl ⟨rfl, by decide, .inl R.gL⟩ (fun a oe cls d pn hz hf => pss_when (fun ⟨e1, e2⟩ => by
          subst e1 e2
          exact pss_one (ps_ret (pe_not (pe_callB (call_is1 R.xL hz hf) (by rfl) R.mI (by decide +kernel) (pa_cons (pv 1) (pa_cons (pe_glob (v := .ref CT) (by rfl) R.gT rfl) pa_nil))))))) (.bare ⟨rfl, by decide, .inl R.g0⟩ (fun _ _ _ _ _ _ _ => pss_one (ps_ret pe_bl)) .nil))) <|
      pss_one (ps_ret pe_bl), ?_⟩
    refine ⟨_, rfl, v, rfl, fun H1 s1 => ?_, hv⟩
    refine ⟨true, R.eL, fun _ a ha => ⟨⟨rfl, rfl⟩, fun hl => ?_⟩, fun z => by cases z⟩
    exact ⟨_, rfl, .ref CT, .ref CT, false, rfl, .inl rfl, (fun u hu => hu), R.kLT, false, rfl, q H1 s1⟩
end
end Lag

set_option maxRecDepth 100000
set_option maxHeartbeats 4000000
namespace LW
open PySem
theorem word_of {z : Int} (h : z.natAbs < 10 ^ 60) : FigOk (Str.ofString (toString z)) ∧ valW (Str.ofString (toString z)) = z ∧ 1 ≤ (Str.ofString (toString z)).length := by
  have dg : ∀ n : Nat, NumText.AllDigits ((Nat.toDigits 10 n).map Char.toNat) := fun n => TL.numL_digits n
  have dv : ∀ n : Nat, NumText.digitsVal ((Nat.toDigits 10 n).map Char.toNat) = n := fun n => TL.numL_val n
  have ne : ∀ n : Nat, (Nat.toDigits 10 n).map Char.toNat ≠ [] := fun n e => by
    have h1 := dv n
    have h2 := Nat.toDigits_ne_nil (n := n) (b := 10)
    exact h2 (List.map_eq_nil_iff.mp e)
  have hd : ∀ n : Nat, ((Nat.toDigits 10 n).map Char.toNat).head? ≠ some 45 := fun n e => by
    have := dg n 45 (List.mem_of_mem_head? e)
    omega
  rw [← ws_len]
  cases z with
  | ofNat n =>
    have hn : n < 10 ^ 60 := h
    have e : ws (Str.ofString (toString (Int.ofNat n))) = (Nat.toDigits 10 n).map Char.toNat := nat_text n
    have f : figs (ws (Str.ofString (toString (Int.ofNat n)))) = (Nat.toDigits 10 n).map Char.toNat := by rw [e, figs_pos (hd n)]
    refine ⟨⟨by rw [f]; exact ne n, by rw [f]; exact dg n, by rw [f, List.length_map]; exact PyProof.Rows.digits10_le (by decide) hn⟩, ?_, ?_⟩
    · unfold valW
      rw [f, dv, e, if_neg (hd n)]
      rfl
    · rw [e]
      exact List.length_pos_iff.mpr (ne n)
  | negSucc n =>
    have hn : n + 1 < 10 ^ 60 := h
    have e : ws (Str.ofString (toString (Int.negSucc n))) = 45 :: (Nat.toDigits 10 (n + 1)).map Char.toNat := neg_text n
    have f : figs (ws (Str.ofString (toString (Int.negSucc n)))) = (Nat.toDigits 10 (n + 1)).map Char.toNat := by rw [e, figs_neg]
    refine ⟨⟨by rw [f]; exact ne _, by rw [f]; exact dg _, by rw [f, List.length_map]; exact PyProof.Rows.digits10_le (by decide) hn⟩, ?_, ?_⟩
    · unfold valW
      rw [f, dv, e]
      exact (if_pos rfl).trans rfl
    · rw [e, List.length_cons]
      omega
theorem joinL_len (S : List Nat) : ∀ ps : List (List Nat), (TL.joinL S ps).length ≤ (ps.map (·.length)).sum + ps.length * S.length
  | [] => Nat.zero_le _
  | [p] => by
    show p.length ≤ (p.length + 0) + _
    omega
  | p :: q :: r => by
    have := joinL_len S (q :: r)
    show (p ++ (S ++ TL.joinL S (q :: r))).length ≤ _
    rw [List.length_append, List.length_append, List.map_cons, List.sum_cons, List.length_cons (a := p), Nat.succ_mul]
    omega
theorem join_bd {us : List Str} {b : Nat} (h : ∀ u ∈ us, u.length ≤ b) : (Txt.join " " us).length ≤ us.length * (b + 1) := by
  rw [TL.join_eq, ← ws_len]
  show (TL.tl (Str.join " " us)).length ≤ _
  rw [TL.tl_join, blank_tl]
  refine Nat.le_trans (joinL_len _ _) ?_
  have := sum_bd (l := (us.map TL.tl).map (·.length)) (b := b) fun x hx => by
    obtain ⟨y, hy, rfl⟩ := List.mem_map.mp hx
    obtain ⟨u, hu, rfl⟩ := List.mem_map.mp hy
    rw [← TL.len_tl]
    exact h u hu
  rw [List.length_map, List.length_map] at this
  rw [List.length_map, Nat.mul_succ]
  show _ + us.length * 1 ≤ _
  omega
end LW
namespace Lag
open PySem PySem.Spec PyProof.Rows L2
theorem lags_split {ns : List Int} (ne : ns ≠ []) : Txt.split (lagsS ns) " " = ns.map fun z => Str.ofString (toString z) := by
  unfold lagsS
  exact TL.split_join LW.blank_tl LW.blank_cps (fun e => ne (List.map_eq_nil_iff.mp e)) fun p hp => by
    obtain ⟨z, _, rfl⟩ := List.mem_map.mp hp
    exact LW.num_free z
theorem lags_good {ns : List Int} (h : ∀ z ∈ ns, z.natAbs < 10 ^ 60) (hl : ns.length ≤ 12) : LW.Good (lagsS ns) ∧ LW.vals (lagsS ns) = ns ∧ (lagsS ns).length ≤ 1900 := by
  have ln : (lagsS ns).length ≤ 1900 := by
    refine Nat.le_trans (LW.join_bd (b := 62) fun u hu => ?_) (by rw [List.length_map]; omega)
    obtain ⟨z, hz, rfl⟩ := List.mem_map.mp hu
    exact LW.num_len (Nat.lt_of_lt_of_le (h z hz) (by decide))
  by_cases ne : ns = []
  · subst ne
    have e0 : (lagsS []).length = 0 := by decide +kernel
    refine ⟨.inl e0, ?_, ln⟩
    unfold LW.vals
    rw [if_pos e0]
  · have sp := lags_split ne
    have h0 : (lagsS ns).length ≠ 0 := fun e => by
      obtain ⟨z, r, rfl⟩ : ∃ z r, ns = z :: r := by
        match q : ns, ne with
        | z :: r, _ => exact ⟨z, r, rfl⟩
      have h1 := (LW.words_len (lagsS (z :: r))).2 (Str.ofString (toString z)) (by rw [sp]; exact List.mem_cons_self ..)
      have h2 := (LW.word_of (h z (List.mem_cons_self ..))).2.2
      omega
    refine ⟨.inr fun w hw => ?_, ?_, ln⟩
    · rw [sp] at hw
      obtain ⟨z, hz, rfl⟩ := List.mem_map.mp hw
      obtain ⟨fo, ev, _⟩ := LW.word_of (h z hz)
      exact (LW.num_canon fo).mp (by rw [ev])
    · unfold LW.vals
      rw [if_neg h0, sp, List.map_map]
      conv => rhs; rw [← List.map_id ns]
      exact List.map_congr_left fun z hz => (LW.word_of (h z hz)).2.1
theorem lags_asc (ns : List Int) : LW.Asc (lagsS ns) := fun c hc => by
  unfold lagsS at hc
  rw [TL.join_eq] at hc
  rcases (PyProof.Rows.mem_join _ _ _).mp hc with ⟨t, ht, h⟩ | ⟨_, h⟩
  · obtain ⟨z, _, rfl⟩ := List.mem_map.mp ht
    have h : c ∈ LW.ws (Str.ofString (toString z)) := h
    have dg : ∀ n : Nat, c ∈ (Nat.toDigits 10 n).map Char.toNat → c < 128 := fun n hn => by
      have := TL.numL_digits n c hn
      omega
    cases z with
    | ofNat n =>
      rw [show LW.ws (Str.ofString (toString (Int.ofNat n))) = (Nat.toDigits 10 n).map Char.toNat from LW.nat_text n] at h
      exact dg n h
    | negSucc n =>
      rw [show LW.ws (Str.ofString (toString (Int.negSucc n))) = 45 :: (Nat.toDigits 10 (n + 1)).map Char.toNat from LW.neg_text n] at h
      rcases List.mem_cons.mp h with h | h
      · omega
      · exact dg _ h
  · have h : c ∈ TL.tl (" " : Str) := h
    rw [LW.blank_tl] at h
    have := List.mem_singleton.mp h
    omega
/-- a text of lags is told again as it stands -/
theorem lags_back {u : Str} (g : LW.Good u) (hu : u.length ≤ 3900) : lagsS (LW.vals u) = u ∧ ShortZ (LW.vals u) := by
  unfold LW.vals
  by_cases h0 : u.length = 0
  · rw [if_pos h0]
    refine ⟨LW.str_eq ?_, ⟨(fun z h => nomatch h), Nat.zero_le _⟩⟩
    rw [show LW.ws u = [] from List.length_eq_zero_iff.mp (by rw [LW.ws_len]; exact h0)]
    decide +kernel
  · rw [if_neg h0]
    have ca : ∀ w ∈ Txt.split u " ", LW.Canon w := by
      rcases g with g | g
      · exact absurd g h0
      · exact g
    refine ⟨?_, ⟨fun z hz => ?_, ?_⟩⟩
    · unfold lagsS
      rw [List.map_map]
      exact (LW.lags_iff fun w hw => (ca w hw).f).mpr ca
    · obtain ⟨w, hw, rfl⟩ := List.mem_map.mp hz
      exact Nat.lt_of_lt_of_le (LW.val_abs (ca w hw).f) (by decide)
    · rw [List.length_map]
      have := (LW.words_len u).1
      omega
end Lag

set_option maxRecDepth 100000
set_option maxHeartbeats 4000000
namespace Lag
open PySem PySem.Spec PyProof.Rows L2
abbrev sRight : Stmt := topS 24 -- @_law_right
def spRight : Sp := fun vs H Q _ => ∃ wl : Addr, vs = [.ref wl] ∧ WellAt wl H ∧ ∀ H', Dr wl H H' → Q (.bl true) H'
theorem passX0 {P : Program} {w : World} {X : Cx} : Passes (L2.CX P w) X E0 := fun _ _ _ _ _ _ _ h => by
  obtain ⟨_, _, _, _, _, _, _, _, _, _, _, _, e⟩ := h
  exact e.elim
theorem Dr.ofSame {w : Addr} {H H' : Hp} (W : WellAt w H) (s : Same H H') : Dr w H H' := ⟨But.same s, W.same s⟩
def numsY (l : List Int) : PyData := .list (l.map PyData.int)
theorem intY_eq (a b : Int) : PyData.eqv (.int a) (.int b) = decide (a = b) := by
  show (a == b) = _
  by_cases h : a = b
  · rw [decide_eq_true h, h, beq_self_eq_true]
  · rw [decide_eq_false h, beq_eq_false_iff_ne.mpr h]
theorem numsY_eq : ∀ (a b : List Int), PyData.eqv (numsY a) (numsY b) = decide (a = b)
  | [], [] => rfl
  | [], _ :: _ => rfl
  | _ :: _, [] => rfl
  | x :: xs, y :: ys => by
    show (PyData.eqv (.int x) (.int y) && PyData.eqv (numsY xs) (numsY ys)) = _
    rw [intY_eq, numsY_eq xs ys, ← Bool.decide_and]
    exact decide_eq_decide.mpr ⟨fun ⟨a, b⟩ => by rw [a, b], fun h => by injection h with a b; exact ⟨a, b⟩⟩
theorem sh_numsY (l : List Int) : Sh 1 (numsY l) := sh_list fun d hd => by
  obtain ⟨i, _, rfl⟩ := List.mem_map.mp hd
  exact ⟨rfl, Nat.zero_le _⟩
theorem dp_intsY {K : PySem.W.Frag} {H : Hp} : ∀ l : List Int, DpAll K H (l.map V.int) (l.map PyData.int)
  | [] => .nil
  | i :: r => .cons (.int i) (dp_intsY r)
theorem dp_numsY {K : PySem.W.Frag} {H : Hp} {l : Addr} {xs : List Int} (h : SqL K H l (xs.map V.int)) : Dp K H (.ref l) (numsY xs) := .lst h (dp_intsY xs)
theorem true_notin (n : Nat) : inV (.bl true) ((List.replicate n false).map V.bl) = false := by
  induction n with
  | zero => rfl
  | succ n ih =>
    rw [List.replicate_succ, List.map_cons]
    show (eqV (.bl false) (.bl true) || inV (.bl true) ((List.replicate n false).map V.bl)) = false
    rw [ih]
    decide +kernel
theorem wh_int {K : PySem.W.Frag} {H : Hp} (z : Int) : WhT K H (.int z) true := ⟨"int", true, false, .base (.int z), by decide +kernel, by decide +kernel, rfl⟩
theorem wh_bl {K : PySem.W.Frag} {H : Hp} (b : Bool) : WhT K H (.bl b) false := ⟨"bool", true, true, .base (.bl b), by decide +kernel, by decide +kernel, rfl⟩
theorem wh_non {K : PySem.W.Frag} {H : Hp} : WhT K H .non false := ⟨"NoneType", false, false, .base .non, by decide +kernel, by decide +kernel, rfl⟩
theorem wh_str {K : PySem.W.Frag} {H : Hp} {x : Str} : WhT K H (.str x) false := ⟨"str", false, false, .base (.str x), by decide +kernel, by decide +kernel, rfl⟩
theorem wh_lst {K : PySem.W.Frag} {H : Hp} {a : Addr} {xs : List V} (h : H a = some (.lst xs)) : WhT K H (.ref a) false := ⟨"list", false, false, ty_lst (SqL.of h), by decide +kernel, by decide +kernel, rfl⟩
theorem whs_ints {K : PySem.W.Frag} {H : Hp} : ∀ ns : List Int, All2 (WhT K H) (ns.map V.int) (ns.map fun _ => true)
  | [] => All2.nil
  | z :: r => All2.cons (wh_int z) (whs_ints r)
theorem fn_imp {P : Program} {w : World} {K : PySem.W.Frag} {mg : Str → Option Value} {base : Heap} {CX : CXT} {k : Nat} {f : Addr} {fd : FuncData} {ps : List Str} {sp sp' : Sp} (F : FnOk P w K mg base CX k f fd ps sp) (i : ∀ vs H Q E, sp' vs H Q E → sp vs H Q E) : FnOk P w K mg base CX k f fd ps sp' :=
  ⟨fun vs H Q E h => F.len vs H Q E (i _ _ _ _ h), fun A outer s H args us vs Q E hr he hb hv hs => F.run A outer s H args us vs Q E hr he hb hv (i _ _ _ _ hs)⟩
def DueP (u : Str) (due : V) (Hd : Hp) : Prop := (LW.Good u ∧ ∃ l5, due = .ref l5 ∧ Hd l5 = some (.lst ((LW.vals u).map V.int))) ∨ (¬ LW.Good u ∧ due = .non)
def spDue1 : Sp := fun vs H Q _ => ∃ t : Str, vs = [.str t] ∧ t.length ≤ 4000 ∧ LW.Asc t ∧ ∀ due H', Same H H' → DueP t due H' → Q due H'
theorem due_one {P : Program} {w : World} {K : PySem.W.Frag} {mg : Str → Option Value} {base : Heap} {f : Addr} {fd : FuncData} (F : FnOk P w K mg base CX0 2 f fd ["_law_text"] (spLDue K)) : FnOk P w K mg base CX0 2 f fd ["_law_text"] spDue1 := fn_imp F fun vs H Q E ⟨t, e, ht, ha, q⟩ => ⟨t, e, ht, ha, fun g l H' s _ el => q _ H' s (.inl ⟨g, l, rfl, el⟩), fun g H' s => q _ H' s (.inr ⟨g, rfl⟩)⟩
theorem lags_room {ns : List Int} (sz : ShortZ ns) : ((ns.map fun z => Str.ofString (toString z)).map (·.length)).sum + (ns.map fun z => Str.ofString (toString z)).length * (" " : Str).length ≤ 16777216 := by
  have hb : (" " : Str).length = 1 := by decide +kernel
  have hs := LW.sum_bd (l := (ns.map fun z => Str.ofString (toString z)).map (·.length)) (b := 62) fun x hx => by
    obtain ⟨y, hy, rfl⟩ := List.mem_map.mp hx
    obtain ⟨z, hzm, rfl⟩ := List.mem_map.mp hy
    exact LW.num_len (sz.1 z hzm)
  have hl := sz.2
  rw [hb]
  rw [List.length_map, List.length_map] at hs
  rw [List.length_map]
  omega
section
variable {P : Program} {w : World} {K : PySem.W.Frag} {mg : Str → Option Value} {base : Heap}
abbrev nRight : List Str := ["_law_well_here", "_law_lags_here", "_law_handed", "_law_number", "_law_text", "_law_due_here", "_law_spoilt_here", "_law_turn", "_law_found", "_law_odd", "_law_bad"]
theorem scRight : FnScope nRight ["_law_well_here"] (defScope sRight) := ⟨rfl, rfl, rfl, by decide +kernel, rfl, by decide +kernel, by decide +kernel⟩
abbrev DRight (P : Program) (w : World) (K : PySem.W.Frag) (mg : Str → Option Value) (base : Heap) := Df P w K mg base 11 "_law_right" ["_law_well_here"] spRight
theorem ok_right {f fLg fLt fRl fSp fDu fRd fRf fO CT : Addr} {fd fdLg fdLt fdRl fdSp fdDu fdRd fdRf fdO : FuncData} (F : Fun K "_law_right" "_law_right" sRight f fd) (hm : mg "_law_right" = some (.ref f)) (B : Bt mg) (DOn : DOne P w K mg base fO fdO)
    (gLg : mg "_law_lags" = some (.ref fLg)) (kLg : PySem.W.keepIn K (.ref fLg) = true) (bLg : Binds K fdLg ["_law_well_here"] []) (DLg : FnOk P w K mg base CX0 3 fLg fdLg ["_law_well_here"] spLLags) (gLt : mg "lags_text" = some (.ref fLt)) (kLt : PySem.W.keepIn K (.ref fLt) = true) (bLt : Binds K fdLt ["lags"] []) (DLt : FnOk P w K mg base CX0 2 fLt fdLt ["lags"] (spNumsZ K)) (gRl : mg "read_lags" = some (.ref fRl)) (kRl : PySem.W.keepIn K (.ref fRl) = true) (bRl : Binds K fdRl ["text"] []) (DRl : FnOk P w K mg base (L2.CX P w) 3 fRl fdRl ["text"] (spReadLagsX K CT)) (gSp : mg "_law_spoilt" = some (.ref fSp)) (kSp : PySem.W.keepIn K (.ref fSp) = true) (bSp : Binds K fdSp ["_law_well_here", "_law_text"] []) (DSp : FnOk P w K mg base CX0 3 fSp fdSp ["_law_well_here", "_law_text"] spSpoilt) (gDu : mg "_law_due" = some (.ref fDu)) (kDu : PySem.W.keepIn K (.ref fDu) = true) (bDu : Binds K fdDu ["_law_text"] []) (DDu : FnOk P w K mg base CX0 2 fDu fdDu ["_law_text"] spDue1) (gRd : mg "_law_read" = some (.ref fRd)) (kRd : PySem.W.keepIn K (.ref fRd) = true) (bRd : Binds K fdRd ["_law_text"] []) (DRd : FnOk P w K mg base CX0 4 fRd fdRd ["_law_text"] (spLRead K)) (gRf : mg "_law_refused" = some (.ref fRf)) (kRf : PySem.W.keepIn K (.ref fRf) = true) (bRf : Binds K fdRf ["_law_thing"] []) (DRf : FnOk P w K mg base CX0 3 fRf fdRf ["_law_thing"] (spLRef K)) : DRight P w K mg base f fd := by
  refine ⟨?_, hm, F.kp, F.binds fun _ _ _ _ _ _ us hl => match us, hl with | [_], _ => rfl⟩
  refine F.ok scRight (fun vs H Q E h => ?_) (fun cdv A outer s H vs Q E hr h => ?_)
  · obtain ⟨wl, rfl, _⟩ := h
    rfl
  · obtain ⟨wl, rfl, hw, q⟩ := h
    have nd := scRight.nd
    refine ⟨_, pss_cons (ps_set (i := 1) nd rfl (.inl rfl) (pe_call DLg (hr.mono (by decide)) (by rfl) gLg kLg bLg .nil pass0 (pa_cons (pv 0) pa_nil))) <|
        pss_cons (ps_set (i := 2) nd rfl (.inl rfl) (pe_callTy call_list_of (by rfl) B.list (by decide +kernel) (pa_cons (pv 1) pa_nil))) <|
        pss_cons (ps_set (i := 4) nd rfl (.inl rfl) (pe_join pe_str (pe_lc (own := [("_law_number", 3)]) (g := gName 3) (tt := tYes) (te := tStrI 3) rfl nd (pi_list (pv 1)) (blkOk_by (N := nRight) (sc := defScope sRight) (own := [("_law_number", 3)]) (by decide +kernel)) (fun _ _ _ _ _ => pg_name (i := 3) nd rfl (.inl rfl)) (fun _ _ _ _ _ => pts_nil) (fun _ _ _ _ _ => pe_callTy call_str_int (by rfl) B.str (by decide +kernel) (pa_cons (pv 3) pa_nil))))) <|
        pss_cons (ps_if (PW.pt (pw_or (pt_cmpR op_ne (pe_call DLt (hr.mono (by decide)) (by rfl) gLt kLt bLt .nil pass0 (pa_cons (pv 2) pa_nil)) (pv 4) (nomark _)) (pw_or (pt_cmpR (op_neD hr.units) (pv 2) (pv 1) (nomark _)) (pw_or1 (pt_cmpR (op_neD hr.units) (pe_call (E := E0) DRl (hr.mono (by decide)) (by rfl) gRl kRl bRl .nil passX0 (pa_cons (pv 4) pa_nil)) (pv 1) (nomark _)))))) (pss_one (ps_ret pe_bl)) pss_nil) <|
        Evl.pss_cut (ps_if (pt_cmpR (op_neD hr.units) (pv 2) (pe_lst pa_nil) (nomark _)) (pss_one (ps_asg (pe_op op_sub pe_int (pe_ix ix_list (pv 2) pe_int (fun _ _ => rfl))) (pg_sub (pv 2) pe_int set_list))) pss_nil) <|
        pss_cons (ps_expr (pe_bm PySem.F.plainAttrs_list PySem.F.slot_list_append PySem.F.type_list_append mt_append (pv 2) (pa_cons pe_int pa_nil))) <|
        pss_cons (ps_set (i := 5) nd rfl (.inl rfl) (pe_join pe_str (pe_lc (own := [("_law_number", 3)]) (g := gName 3) (tt := tYes) (te := tStrI 3) rfl nd (pi_list (pv 2)) (blkOk_by (N := nRight) (sc := defScope sRight) (own := [("_law_number", 3)]) (by decide +kernel)) (fun _ _ _ _ _ => pg_name (i := 3) nd rfl (.inl rfl)) (fun _ _ _ _ _ => pts_nil) (fun _ _ _ _ _ => pe_callTy call_str_int (by rfl) B.str (by decide +kernel) (pa_cons (pv 3) pa_nil))))) <|
        pss_cons (ps_if (PW.pt (pw_or (pt_cmpR op_ne (pe_call DLt (hr.mono (by decide)) (by rfl) gLt kLt bLt .nil pass0 (pa_cons (pv 2) pa_nil)) (pv 5) (nomark _)) (pw_or1 (pt_cmpR op_ne (pe_call DLt (hr.mono (by decide)) (by rfl) gLt kLt bLt .nil pass0 (pa_cons (pv 1) pa_nil)) (pv 4) (nomark _))))) (pss_one (ps_ret pe_bl)) pss_nil) <|
        pss_cons (ps_set (i := 6) nd rfl (.inl rfl) (pe_call DSp (hr.mono (by decide)) (by rfl) gSp kSp bSp .nil pass0 (pa_cons (pv 0) (pa_cons (pv 4) pa_nil)))) <|
        pss_cons (ps_set (i := 5) nd rfl (.inl rfl) (pe_call DDu (hr.mono (by decide)) (by rfl) gDu kDu bDu .nil pass0 (pa_cons (pv 6) pa_nil))) <|
        pss_cons (ps_for PassesOwn.never rfl (pi_range1 (by rfl) B.range (pa_cons pe_int pa_nil)) (pg_name (i := 7) nd rfl (.inl rfl)) (pss_cons (ps_set (i := 8) nd rfl (.inl rfl) (pe_call DRd (hr.mono (by decide)) (by rfl) gRd kRd bRd .nil pass0 (pa_cons (pv 6) pa_nil))) <|
        pss_cons (ps_if (PW.pt (pw_or (PW.pt (pw_and (pt_cmpR op_isN (pv 5) pe_non (nomark _)) (pw_and1 (pt_cmpR op_ne (pv 8) pe_str (nomark _))))) (pw_or1 (PW.pt (pw_and (pt_cmpR op_notN (pv 5) pe_non (nomark _)) (pw_and1 (pt_cmpR (op_neD hr.units) (pv 8) (pv 5) (nomark _)))))))) (pss_one (ps_ret pe_bl)) pss_nil) <|
        pss_one (ps_if (pt_val (pe_callB call_isi (by rfl) B.isi (by decide +kernel) (pa_cons (pv 8) (pa_cons (pe_bltn (v := .ty "list") (by rfl) B.list (by decide +kernel) rfl) pa_nil)))) (pss_cons (ps_if (PW.pt (pw_or (pt_cmpR op_in_seq pe_bl (pe_lc (own := [("_law_number", 3)]) (g := (gName 3)) (tt := tYes) (te := (tCB (rIsi K) (tCons (tVar 3) (tCons (tC (.ty "bool")) tNil)))) rfl nd (pi_list (pv 8)) (blkOk_by (N := nRight) (sc := defScope sRight) (own := [("_law_number", 3)]) (by decide +kernel)) (fun _ _ _ _ _ => (pg_name (i := 3) nd rfl (.inl rfl))) (fun _ _ _ _ _ => pts_nil) (fun _ _ _ _ _ => (pe_callB call_isi (by rfl) B.isi (by decide +kernel) (pa_cons (pv 3) (pa_cons (pe_bltn (v := .ty "bool") (by rfl) B.bool (by decide +kernel) rfl) pa_nil))))) (by rfl)) (pw_or1 (pt_cmpR op_ne (pe_call DLt (hr.mono (by decide)) (by rfl) gLt kLt bLt .nil pass0 (pa_cons (pv 8) pa_nil)) (pv 6) (nomark _))))) (pss_one (ps_ret pe_bl)) pss_nil) <|
        pss_one (ps_expr (pe_bm PySem.F.plainAttrs_list PySem.F.slot_list_append PySem.F.type_list_append mt_append (pv 8) (pa_cons pe_int pa_nil)))) pss_nil))) <|
        pss_cons (ps_set (i := 9) nd rfl (.inl rfl) (pe_call DOn.ok (hr.mono (by decide)) (by rfl) DOn.mg DOn.kp DOn.bd .nil pass0 (pa_cons (pv 0) (pa_cons (pe_lst (pa_cons pe_non (pa_cons (pe_callTy call_tuple_of (by rfl) B.tuple (by decide +kernel) (pa_cons (pv 1) pa_nil)) (pa_cons pe_str (pa_cons pe_int (pa_cons (pe_op op_cat (pv 1) (pe_lst (pa_cons pe_bl pa_nil))) (pa_cons (pe_op op_cat (pe_lst (pa_cons pe_non pa_nil)) (pv 1)) (pa_cons (pe_lst (pa_cons pe_str pa_nil)) (pa_cons (pe_op op_cat (pv 1) (pe_lst (pa_cons pe_bl pa_nil))) (pa_cons pe_dnewK (pa_cons (pe_lst (pa_cons (pe_lst pa_nil) pa_nil)) pa_nil))))))))))) pa_nil)))) <|
        pss_cons (ps_set (i := 10) nd rfl (.inl rfl) (pe_call DOn.ok (hr.mono (by decide)) (by rfl) DOn.mg DOn.kp DOn.bd .nil pass0 (pa_cons (pv 0) (pa_cons (pe_lst (pa_cons pe_non (pa_cons pe_int (pa_cons (pv 1) (pa_cons (pe_tup (pa_cons (pv 4) pa_nil)) (pa_cons pe_bl (pa_cons pe_dnewK pa_nil))))))) pa_nil)))) <|
        pss_one (ps_ret (pe_and (pe_call DRf (hr.mono (by decide)) (by rfl) gRf kRf bRf .nil pass0 (pa_cons (pv 9) pa_nil)) (pe_one (pe_cmpR op_eq (pe_call DRd (hr.mono (by decide)) (by rfl) gRd kRd bRd .nil pass0 (pa_cons (pv 10) pa_nil)) pe_str (nomark _))))), ?_⟩
    refine ⟨_, rfl, wl, rfl, hw, fun l1 ns G1 D1 hl1 el1 hns hn12 => ?_⟩
    have nl1 : l1 ≠ wl := (hw.ne hl1).symm
    have sz : ShortZ ns := ⟨fun z h => Nat.lt_of_lt_of_le (hns z h) (by decide), by omega⟩
    refine gn_norm (σ' := [some (.ref wl), some (.ref l1), none, none, none, none, none, none, none, none, none]) rfl ?_
    refine ⟨_, rfl, l1, _, rfl, .inl (SqL.of el1), fun l2 hl2 => ?_⟩
    have n12 : l1 ≠ l2 := ne_of_none el1 hl2
    have nl2 : l2 ≠ wl := (D1.well.ne hl2).symm
    have S2 : Same G1 (upd G1 l2 (.lst (ns.map V.int))) := same_new hl2
    have el2 : (upd G1 l2 (.lst (ns.map V.int))) l2 = some (.lst (ns.map V.int)) := upd_same
    have D2 := D1.trans (Dr.ofSame D1.well S2)
    have el1 := S2 _ _ el1
    generalize upd G1 l2 (.lst (ns.map V.int)) = G2 at S2 el2 D2 el1  
    refine gn_norm (σ' := [some (.ref wl), some (.ref l1), some (.ref l2), none, none, none, none, none, none, none, none]) rfl ?_
    refine ⟨⟨_, rfl⟩, _, rfl, l1, rfl, ⟨_, SqL.of el1⟩, fun j1 hj1 => ?_⟩
    refine lc_list (K := K) (a := l1) (xs := (ns).map V.int) (fun i Hc => Hc j1 = some (.lst ((((ns).take i).map fun z => Str.ofString (toString z)).map V.str)) ∧ Same G2 Hc) ⟨upd_same, same_new hj1⟩ (fun i Hc _ ⟨_, sm⟩ => SqL.of (sm _ _ el1)) ?_ ?_
    · rintro i v Hc hv ⟨hc, sm⟩
      obtain ⟨z, hzi, rfl⟩ := intv_at hv
      have hi : i < (ns).length := (List.getElem?_eq_some_iff.mp hzi).1
      have hl13 := (sz).2
      refine ⟨rfl, tyes ?_⟩
      refine ⟨_, rfl, z, rfl, LW.log_of ((sz).1 z (List.mem_of_getElem? hzi)), _, hc, ?_, ?_, same_mut sm hj1⟩
      · rw [List.length_map, List.length_map, List.length_take]
        exact small6k (by omega)
      · rw [upd_same, List.take_add_one, hzi, List.map_append, List.map_append]
        rfl
    rintro G3 ⟨hj, S3⟩
    rw [List.length_map, List.take_length] at hj
    refine ⟨" ", j1, (ns).map fun z => Str.ofString (toString z), rfl, rfl, .inl (SqL.of hj), lags_room sz, ?_⟩
    clear hj
    have D3 := D2.trans (Dr.ofSame D2.well S3)
    have el1 := S3 _ _ el1
    have el2 := S3 _ _ el2
    refine gn_norm (σ' := [some (.ref wl), some (.ref l1), some (.ref l2), none, some (.str (lagsS ns)), none, none, none, none, none, none]) rfl ?_
    refine ⟨_, rfl, l2, ns, rfl, SqL.of el2, sz, fun G4 S4 => ?_⟩
    have D4 := D3.trans (Dr.ofSame D3.well S4)
    have el1 := S4 _ _ el1
    have el2 := S4 _ _ el2
    refine ⟨_, rfl, rfl, _, rfl, ?_⟩
    rw [decide_eq_true rfl]
    refine iteF ?_
    refine ⟨_, rfl, _, rfl, _, _, dp_numsY (SqL.of el2), dp_numsY (SqL.of el1), (sh_numsY ns).ok (by decide), (sh_numsY ns).ok (by decide), _, rfl, ?_⟩
    rw [numsY_eq, decide_eq_true rfl]
    refine iteF ?_
    obtain ⟨gd, vl, ln⟩ := lags_good hns hn12
    have asc : LW.Asc (lagsS ns) := lags_asc ns
    refine ⟨_, rfl, lagsS ns, rfl, Nat.le_trans ln (by decide), fun _ l3 G5 S5 hl3 el3 => ?_, fun ng => absurd gd ng⟩
    rw [vl] at el3
    have D5 := D4.trans (Dr.ofSame D4.well S5)
    have el1 := S5 _ _ el1
    have el2 := S5 _ _ el2
    refine ⟨_, rfl, _, _, dp_numsY (SqL.of el3), dp_numsY (SqL.of el1), (sh_numsY ns).ok (by decide), (sh_numsY ns).ok (by decide), _, rfl, ?_⟩
    rw [numsY_eq, decide_eq_true rfl]
    refine iteF ?_
    clear el3 hl3
    refine ⟨fun σ Hd => ∃ ms : List Int, σ = [some (.ref wl), some (.ref l1), some (.ref l2), none, some (.str (lagsS ns)), none, none, none, none, none, none] ∧ Dr wl H Hd ∧ Hd l1 = some (.lst (ns.map V.int)) ∧ Hd l2 = some (.lst (ms.map V.int)) ∧ (∀ z ∈ ms, z.natAbs < 10 ^ 60) ∧ ms.length ≤ 12, ?_, ?_⟩
    · refine ⟨_, rfl, (by show 0 ≤ sizeLine; decide), fun l4 hl4 => ?_⟩
      have nl4 : l4 ≠ wl := (D5.well.ne hl4).symm
      have S6 : Same G5 (upd G5 l4 (.lst [])) := same_new hl4
      have el4 : (upd G5 l4 (.lst [])) l4 = some (.lst []) := upd_same
      have D6 := D5.trans (Dr.ofSame D5.well S6)
      have el1 := S6 _ _ el1
      have el2 := S6 _ _ el2
      generalize upd G5 l4 (.lst []) = G6 at S6 el4 D6 el1 el2  
      refine ⟨_, _, dp_numsY (SqL.of el2), Dp.lst (SqL.of el4) .nil, (sh_numsY ns).ok (by decide), by decide +kernel, _, rfl, ?_⟩
      refine ite2 (fun e => ?_) (fun _ => ?_)
      · have ne : ns ≠ [] := fun z => by
          rw [z] at e
          cases e
        obtain ⟨z0, r0, rfl⟩ : ∃ z r, ns = z :: r := by
          match q0 : ns, ne with
          | z :: r, _ => exact ⟨z, r, rfl⟩
        refine ⟨_, rfl, l2, _, 0, .int z0, rfl, rfl, SqL.of el2, atI_nat (j := 0) rfl, _, _, rfl, rfl, ?_⟩
        refine ⟨_, rfl, l2, _, 0, 0, rfl, rfl, el2, Evl.ixN_nat (show 0 < ((z0 :: r0).map V.int).length from Nat.succ_pos _), ?_⟩
        refine ⟨(0 - z0) :: r0, rfl, set_well D6 (D1.free hw (by first | exact hl2 | exact hl2)) nl2, ?_, upd_same, ?_, hn12⟩
        · rw [upd_ne n12]
          exact el1
        · intro z hz
          rcases List.mem_cons.mp hz with h | h
          · rw [h]
            have := hns z0 (List.mem_cons_self ..)
            omega
          · exact hns z (List.mem_cons_of_mem _ h)
      · exact ⟨ns, rfl, D6, el1, el2, hns, hn12⟩
    rintro σ G50 ⟨ms, rfl, D50, fl1, fl2, hms, hm12⟩
    clear el1 el2
    refine ⟨_, rfl, .inl ⟨rfl, _, SqL.of fl2⟩, l2, _, .int 7, rfl, rfl, fl2, (by rw [List.length_map]; exact small6k (by omega)), ?_⟩
    have D51 : Dr wl H (upd G50 l2 (.lst ((ms ++ [7]).map V.int))) := set_well D50 (D1.free hw hl2) nl2
    have el2 : (upd G50 l2 (.lst ((ms ++ [7]).map V.int))) l2 = some (.lst ((ms ++ [7]).map V.int)) := upd_same
    have el1 : (upd G50 l2 (.lst ((ms ++ [7]).map V.int))) l1 = some (.lst (ns.map V.int)) := by rw [upd_ne n12]; exact fl1
    rw [show ms.map V.int ++ [V.int 7] = (ms ++ [7]).map V.int by rw [List.map_append]; rfl]
    generalize upd G50 l2 (.lst ((ms ++ [7]).map V.int)) = G51 at D51 el1 el2
    have sz7 : ShortZ (ms ++ [7]) := ⟨fun z h => by
      rcases List.mem_append.mp h with h | h
      · exact Nat.lt_of_lt_of_le (hms z h) (by decide)
      · rw [List.mem_singleton.mp h]
        decide, by rw [List.length_append]; show ms.length + 1 ≤ 5001; omega⟩
    clear fl1 fl2
    refine ⟨⟨_, rfl⟩, _, rfl, l2, rfl, ⟨_, SqL.of el2⟩, fun j2 hj2 => ?_⟩
    refine lc_list (K := K) (a := l2) (xs := (ms ++ [7]).map V.int) (fun i Hc => Hc j2 = some (.lst ((((ms ++ [7]).take i).map fun z => Str.ofString (toString z)).map V.str)) ∧ Same G51 Hc) ⟨upd_same, same_new hj2⟩ (fun i Hc _ ⟨_, sm⟩ => SqL.of (sm _ _ el2)) ?_ ?_
    · rintro i v Hc hv ⟨hc, sm⟩
      obtain ⟨z, hzi, rfl⟩ := intv_at hv
      have hi : i < (ms ++ [7]).length := (List.getElem?_eq_some_iff.mp hzi).1
      have hl13 := (sz7).2
      refine ⟨rfl, tyes ?_⟩
      refine ⟨_, rfl, z, rfl, LW.log_of ((sz7).1 z (List.mem_of_getElem? hzi)), _, hc, ?_, ?_, same_mut sm hj2⟩
      · rw [List.length_map, List.length_map, List.length_take]
        exact small6k (by omega)
      · rw [upd_same, List.take_add_one, hzi, List.map_append, List.map_append]
        rfl
    rintro G52 ⟨hj, S52⟩
    rw [List.length_map, List.take_length] at hj
    refine ⟨" ", j2, (ms ++ [7]).map fun z => Str.ofString (toString z), rfl, rfl, .inl (SqL.of hj), lags_room sz7, ?_⟩
    clear hj
    have D52 := D51.trans (Dr.ofSame D51.well S52)
    have el1 := S52 _ _ el1
    have el2 := S52 _ _ el2
    refine gn_norm (σ' := [some (.ref wl), some (.ref l1), some (.ref l2), none, some (.str (lagsS ns)), some (.str (lagsS (ms ++ [7]))), none, none, none, none, none]) rfl ?_
    refine ⟨_, rfl, l2, ms ++ [7], rfl, SqL.of el2, sz7, fun G53 S53 => ?_⟩
    have D53 := D52.trans (Dr.ofSame D52.well S53)
    have el1 := S53 _ _ el1
    have el2 := S53 _ _ el2
    refine ⟨_, rfl, rfl, _, rfl, ?_⟩
    rw [decide_eq_true rfl]
    refine iteF ?_
    refine ⟨_, rfl, l1, ns, rfl, SqL.of el1, sz, fun G54 S54 => ?_⟩
    have D54 := D53.trans (Dr.ofSame D53.well S54)
    have el1 := S54 _ _ el1
    have el2 := S54 _ _ el2
    refine ⟨_, rfl, rfl, _, rfl, ?_⟩
    rw [decide_eq_true rfl]
    refine iteF ?_
    clear el2
    refine ⟨_, rfl, _, rfl, wl, lagsS ns, rfl, D54.well, ln, asc, fun u G55 E55 ul ua => ?_⟩
    have D55 := D54.trans E55
    have el1 := E55.but _ _ nl1 el1
    refine gn_norm (σ' := [some (.ref wl), some (.ref l1), some (.ref l2), none, some (.str (lagsS ns)), some (.str (lagsS (ms ++ [7]))), some (.str u), none, none, none, none]) rfl ?_
    refine ⟨_, rfl, u, rfl, Nat.le_trans ul (by decide), ua, fun due G70 S70 hdue => ?_⟩
    have D70 := D55.trans (Dr.ofSame D55.well S70)
    have el1 := S70 _ _ el1
    refine gn_norm (σ' := [some (.ref wl), some (.ref l1), some (.ref l2), none, some (.str (lagsS ns)), some due, some (.str u), none, none, none, none]) rfl ?_
    refine ⟨_, rfl, by decide, by decide, ?_⟩
    refine for_range (lo := 0) (n := 2) (fun i σ Hc => ∃ s7 s8 : Option V, σ = [some (.ref wl), some (.ref l1), some (.ref l2), none, some (.str (lagsS ns)), some due, some (.str u), s7, s8, none, none] ∧ Dr wl H Hc ∧ Hc l1 = some (.lst (ns.map V.int)) ∧ DueP u due Hc) ⟨none, none, rfl, D70, el1, hdue⟩ ?_ ?_
    · rintro i σ Hc hi ⟨s7, s8, rfl, Dc, ec, hd⟩
      refine gn_norm (σ' := [some (.ref wl), some (.ref l1), some (.ref l2), none, some (.str (lagsS ns)), some due, some (.str u), some (.int (0 + (i : Nat))), s8, none, none]) rfl ?_
      refine ⟨_, rfl, .str u, rfl, .inl ⟨u, rfl, Nat.le_trans ul (by decide), fun g l8 H8 s8' hl8 el8 => ?_, fun g H8 s8' => ?_⟩⟩
      · rcases hd with ⟨_, l5, rfl, e5⟩ | ⟨ng, _⟩
        rotate_left
        · exact absurd g ng
        obtain ⟨back, szv⟩ := lags_back g ul
        have D8 := Dc.trans (Dr.ofSame Dc.well s8')
        have n58 : l5 ≠ l8 := ne_of_none e5 hl8
        have n18 : l1 ≠ l8 := ne_of_none ec hl8
        have nl8 : l8 ≠ wl := (Dc.well.ne hl8).symm
        have hl80 : H l8 = none := Dc.free hw hl8
        have e58 := s8' _ _ e5
        have ec8 := s8' _ _ ec
        refine gn_norm (σ' := [some (.ref wl), some (.ref l1), some (.ref l2), none, some (.str (lagsS ns)), some (.ref l5), some (.str u), some (.int (0 + (i : Nat))), some (.ref l8), none, none]) rfl ?_
        refine ⟨_, rfl, rfl, _, rfl, ?_⟩
        rw [show decide (V.ref l5 = V.non) = false from rfl]
        refine iteF (iteF ?_)
        refine ⟨_, rfl, rfl, _, rfl, ?_⟩
        rw [show (!decide (V.ref l5 = V.non)) = true from rfl]
        refine iteT ?_
        refine ⟨_, rfl, _, rfl, _, _, dp_numsY (SqL.of el8), dp_numsY (SqL.of e58), (sh_numsY _).ok (by decide), (sh_numsY _).ok (by decide), _, rfl, ?_⟩
        rw [numsY_eq, decide_eq_true rfl]
        refine iteF ?_
        refine ⟨_, rfl, _, _, _, _, true, rfl, .ty "list", ty_lst (SqL.of el8), kit_ty (by decide +kernel), true, rfl, iteT ?_⟩
        refine ⟨_, rfl, l8, rfl, ⟨_, SqL.of el8⟩, fun D9 hD9 => ?_⟩
        refine lc_list (K := K) (a := l8) (xs := (LW.vals u).map V.int) (fun i Hd => Hd D9 = some (.lst ((List.replicate i false).map V.bl)) ∧ Same H8 Hd) ⟨upd_same, same_new hD9⟩ (fun i Hd _ ⟨_, sm⟩ => SqL.of (sm _ _ el8)) ?_ ?_
        · rintro i v Hd hv ⟨hc, sm⟩
          obtain ⟨z, hz, rfl⟩ := intv_at hv
          have hi2 : i < (LW.vals u).length := (List.getElem?_eq_some_iff.mp hz).1
          have hvl := szv.2
          refine ⟨rfl, tyes ?_⟩
          refine ⟨_, rfl, _, _, _, _, false, rfl, .ty "bool", .base (.int z), kit_ty (by decide +kernel), _, hc, ?_, ?_, same_mut sm hD9⟩
          · rw [List.length_map, List.length_replicate]
            exact small6k (by omega)
          · rw [upd_same, List.replicate_succ', List.map_append]
            rfl
        rintro H9 ⟨h9, s9⟩
        refine ⟨D9, _, rfl, .inl (SqL.of h9), rfl, ?_, ?_⟩
        · rw [List.all_eq_true]
          intro v hv
          obtain ⟨b, _, rfl⟩ := List.mem_map.mp hv
          rfl
        refine ⟨_, rfl, ?_⟩
        rw [true_notin]
        refine iteF ?_
        have D9' := D8.trans (Dr.ofSame D8.well s9)
        refine ⟨_, rfl, l8, LW.vals u, rfl, SqL.of (s9 _ _ el8), szv, fun H10 s10 => ?_⟩
        refine ⟨_, rfl, rfl, _, rfl, ?_⟩
        rw [back, decide_eq_true rfl]
        refine iteF ?_
        have D10 := D9'.trans (Dr.ofSame D9'.well s10)
        have el10 := s10 _ _ (s9 _ _ el8)
        refine ⟨_, rfl, .inl ⟨rfl, _, SqL.of el10⟩, l8, _, .int 1, rfl, rfl, el10, (by rw [List.length_map]; exact small6k (by have := szv.2; omega)), ?_⟩
        refine ⟨_, _, rfl, set_well D10 hl80 nl8, ?_, .inl ⟨g, l5, rfl, ?_⟩⟩
        · rw [upd_ne n18]
          exact s10 _ _ (s9 _ _ ec8)
        · rw [upd_ne n58]
          exact s10 _ _ (s9 _ _ e58)
      · rcases hd with ⟨yg, _⟩ | ⟨_, rfl⟩
        · exact absurd yg g
        have D8 := Dc.trans (Dr.ofSame Dc.well s8')
        refine gn_norm (σ' := [some (.ref wl), some (.ref l1), some (.ref l2), none, some (.str (lagsS ns)), some .non, some (.str u), some (.int (0 + (i : Nat))), some (.str "no text"), none, none]) rfl ?_
        refine ⟨_, rfl, rfl, _, rfl, ?_⟩
        rw [show decide (V.non = V.non) = true from rfl]
        refine iteT ?_
        refine ⟨_, rfl, rfl, _, rfl, ?_⟩
        rw [decide_eq_true rfl]
        refine iteF ?_
        refine ⟨_, rfl, rfl, _, rfl, ?_⟩
        rw [show (!decide (V.non = V.non)) = false from rfl]
        refine iteF (iteF ?_)
        refine ⟨_, rfl, _, _, _, _, false, rfl, .ty "list", .base (.str _), kit_ty (by decide +kernel), false, rfl, iteF ?_⟩
        exact ⟨_, _, rfl, D8, s8' _ _ ec, .inr ⟨g, rfl⟩⟩
    rintro σ G80 ⟨t7, t8, rfl, D80, el1, _⟩
    clear hdue D70
    refine ⟨_, rfl, _, rfl, l1, _, rfl, .inl ⟨SqL.of el1, fun t1 ht1 => ?_⟩⟩
    have nt1 : t1 ≠ wl := (D80.well.ne ht1).symm
    have S81 : Same G80 (upd G80 t1 (.tup (ns.map V.int))) := same_new ht1
    have ft1 : (upd G80 t1 (.tup (ns.map V.int))) t1 = some (.tup (ns.map V.int)) := upd_same
    have D81 := D80.trans (Dr.ofSame D80.well S81)
    have el1 := S81 _ _ el1
    generalize upd G80 t1 (.tup (ns.map V.int)) = G81 at S81 ft1 D81 el1  
    refine ⟨_, rfl, (by show 1 ≤ sizeLine; decide), fun a1 ha1 => ?_⟩
    have na1 : a1 ≠ wl := (D81.well.ne ha1).symm
    have S82 : Same G81 (upd G81 a1 (.lst [.bl true])) := same_new ha1
    have fa1 : (upd G81 a1 (.lst [.bl true])) a1 = some (.lst [.bl true]) := upd_same
    have D82 := D81.trans (Dr.ofSame D81.well S82)
    have el1 := S82 _ _ el1
    have ft1 := S82 _ _ ft1
    generalize upd G81 a1 (.lst [.bl true]) = G82 at S82 fa1 D82 el1 ft1  
    refine ⟨l1, a1, _, _, rfl, rfl, el1, fa1, (by rw [List.length_map]; exact Nat.le_of_lt (small6k (show ns.length + 1 ≤ 6000 by omega))), fun a2 ha2 => ?_⟩
    have na2 : a2 ≠ wl := (D82.well.ne ha2).symm
    have S83 : Same G82 (upd G82 a2 (.lst (ns.map V.int ++ [.bl true]))) := same_new ha2
    have fa2 : (upd G82 a2 (.lst (ns.map V.int ++ [.bl true]))) a2 = some (.lst (ns.map V.int ++ [.bl true])) := upd_same
    have D83 := D82.trans (Dr.ofSame D82.well S83)
    have el1 := S83 _ _ el1
    have ft1 := S83 _ _ ft1
    have fa1 := S83 _ _ fa1
    generalize upd G82 a2 (.lst (ns.map V.int ++ [.bl true])) = G83 at S83 fa2 D83 el1 ft1 fa1  
    refine ⟨(by show 1 ≤ sizeLine; decide), fun a3 ha3 => ?_⟩
    have na3 : a3 ≠ wl := (D83.well.ne ha3).symm
    have S84 : Same G83 (upd G83 a3 (.lst [.non])) := same_new ha3
    have fa3 : (upd G83 a3 (.lst [.non])) a3 = some (.lst [.non]) := upd_same
    have D84 := D83.trans (Dr.ofSame D83.well S84)
    have el1 := S84 _ _ el1
    have ft1 := S84 _ _ ft1
    have fa1 := S84 _ _ fa1
    have fa2 := S84 _ _ fa2
    generalize upd G83 a3 (.lst [.non]) = G84 at S84 fa3 D84 el1 ft1 fa1 fa2  
    refine ⟨_, rfl, ?_⟩
    refine ⟨a3, l1, _, _, rfl, rfl, fa3, el1, (by rw [List.length_map]; exact Nat.le_of_lt (small6k (show 1 + ns.length ≤ 6000 by omega))), fun a4 ha4 => ?_⟩
    have na4 : a4 ≠ wl := (D84.well.ne ha4).symm
    have S85 : Same G84 (upd G84 a4 (.lst ([.non] ++ ns.map V.int))) := same_new ha4
    have fa4 : (upd G84 a4 (.lst ([.non] ++ ns.map V.int))) a4 = some (.lst ([.non] ++ ns.map V.int)) := upd_same
    have D85 := D84.trans (Dr.ofSame D84.well S85)
    have el1 := S85 _ _ el1
    have ft1 := S85 _ _ ft1
    have fa1 := S85 _ _ fa1
    have fa2 := S85 _ _ fa2
    have fa3 := S85 _ _ fa3
    generalize upd G84 a4 (.lst ([.non] ++ ns.map V.int)) = G85 at S85 fa4 D85 el1 ft1 fa1 fa2 fa3  
    refine ⟨(by show 1 ≤ sizeLine; decide), fun a5 ha5 => ?_⟩
    have na5 : a5 ≠ wl := (D85.well.ne ha5).symm
    have S86 : Same G85 (upd G85 a5 (.lst [.str "1"])) := same_new ha5
    have fa5 : (upd G85 a5 (.lst [.str "1"])) a5 = some (.lst [.str "1"]) := upd_same
    have D86 := D85.trans (Dr.ofSame D85.well S86)
    have el1 := S86 _ _ el1
    have ft1 := S86 _ _ ft1
    have fa1 := S86 _ _ fa1
    have fa2 := S86 _ _ fa2
    have fa3 := S86 _ _ fa3
    have fa4 := S86 _ _ fa4
    generalize upd G85 a5 (.lst [.str "1"]) = G86 at S86 fa5 D86 el1 ft1 fa1 fa2 fa3 fa4  
    refine ⟨_, rfl, (by show 1 ≤ sizeLine; decide), fun a6 ha6 => ?_⟩
    have na6 : a6 ≠ wl := (D86.well.ne ha6).symm
    have S87 : Same G86 (upd G86 a6 (.lst [.bl false])) := same_new ha6
    have fa6 : (upd G86 a6 (.lst [.bl false])) a6 = some (.lst [.bl false]) := upd_same
    have D87 := D86.trans (Dr.ofSame D86.well S87)
    have el1 := S87 _ _ el1
    have ft1 := S87 _ _ ft1
    have fa1 := S87 _ _ fa1
    have fa2 := S87 _ _ fa2
    have fa3 := S87 _ _ fa3
    have fa4 := S87 _ _ fa4
    have fa5 := S87 _ _ fa5
    generalize upd G86 a6 (.lst [.bl false]) = G87 at S87 fa6 D87 el1 ft1 fa1 fa2 fa3 fa4 fa5  
    refine ⟨l1, a6, _, _, rfl, rfl, el1, fa6, (by rw [List.length_map]; exact Nat.le_of_lt (small6k (show ns.length + 1 ≤ 6000 by omega))), fun a7 ha7 => ?_⟩
    have na7 : a7 ≠ wl := (D87.well.ne ha7).symm
    have S88 : Same G87 (upd G87 a7 (.lst (ns.map V.int ++ [.bl false]))) := same_new ha7
    have fa7 : (upd G87 a7 (.lst (ns.map V.int ++ [.bl false]))) a7 = some (.lst (ns.map V.int ++ [.bl false])) := upd_same
    have D88 := D87.trans (Dr.ofSame D87.well S88)
    have el1 := S88 _ _ el1
    have ft1 := S88 _ _ ft1
    have fa1 := S88 _ _ fa1
    have fa2 := S88 _ _ fa2
    have fa3 := S88 _ _ fa3
    have fa4 := S88 _ _ fa4
    have fa5 := S88 _ _ fa5
    have fa6 := S88 _ _ fa6
    generalize upd G87 a7 (.lst (ns.map V.int ++ [.bl false])) = G88 at S88 fa7 D88 el1 ft1 fa1 fa2 fa3 fa4 fa5 fa6  
    intro a8 ha8
    have na8 : a8 ≠ wl := (D88.well.ne ha8).symm
    have S89 : Same G88 (upd G88 a8 (.dK [])) := same_new ha8
    have fa8 : (upd G88 a8 (.dK [])) a8 = some (.dK []) := upd_same
    have D89 := D88.trans (Dr.ofSame D88.well S89)
    have el1 := S89 _ _ el1
    have ft1 := S89 _ _ ft1
    have fa1 := S89 _ _ fa1
    have fa2 := S89 _ _ fa2
    have fa3 := S89 _ _ fa3
    have fa4 := S89 _ _ fa4
    have fa5 := S89 _ _ fa5
    have fa6 := S89 _ _ fa6
    have fa7 := S89 _ _ fa7
    generalize upd G88 a8 (.dK []) = G89 at S89 fa8 D89 el1 ft1 fa1 fa2 fa3 fa4 fa5 fa6 fa7  
    refine ⟨(by show 0 ≤ sizeLine; decide), fun a9 ha9 => ?_⟩
    have na9 : a9 ≠ wl := (D89.well.ne ha9).symm
    have S90 : Same G89 (upd G89 a9 (.lst [])) := same_new ha9
    have fa9 : (upd G89 a9 (.lst [])) a9 = some (.lst []) := upd_same
    have D90 := D89.trans (Dr.ofSame D89.well S90)
    have el1 := S90 _ _ el1
    have ft1 := S90 _ _ ft1
    have fa1 := S90 _ _ fa1
    have fa2 := S90 _ _ fa2
    have fa3 := S90 _ _ fa3
    have fa4 := S90 _ _ fa4
    have fa5 := S90 _ _ fa5
    have fa6 := S90 _ _ fa6
    have fa7 := S90 _ _ fa7
    have fa8 := S90 _ _ fa8
    generalize upd G89 a9 (.lst []) = G90 at S90 fa9 D90 el1 ft1 fa1 fa2 fa3 fa4 fa5 fa6 fa7 fa8  
    refine ⟨(by show 1 ≤ sizeLine; decide), fun a10 ha10 => ?_⟩
    have na10 : a10 ≠ wl := (D90.well.ne ha10).symm
    have S91 : Same G90 (upd G90 a10 (.lst [.ref a9])) := same_new ha10
    have fa10 : (upd G90 a10 (.lst [.ref a9])) a10 = some (.lst [.ref a9]) := upd_same
    have D91 := D90.trans (Dr.ofSame D90.well S91)
    have el1 := S91 _ _ el1
    have ft1 := S91 _ _ ft1
    have fa1 := S91 _ _ fa1
    have fa2 := S91 _ _ fa2
    have fa3 := S91 _ _ fa3
    have fa4 := S91 _ _ fa4
    have fa5 := S91 _ _ fa5
    have fa6 := S91 _ _ fa6
    have fa7 := S91 _ _ fa7
    have fa8 := S91 _ _ fa8
    have fa9 := S91 _ _ fa9
    generalize upd G90 a10 (.lst [.ref a9]) = G91 at S91 fa10 D91 el1 ft1 fa1 fa2 fa3 fa4 fa5 fa6 fa7 fa8 fa9  
    refine ⟨(by show 10 ≤ sizeLine; decide), fun lz hlz => ?_⟩
    have nlz : lz ≠ wl := (D91.well.ne hlz).symm
    have S92 : Same G91 (upd G91 lz (.lst [.non, .ref t1, .str "1 2", .int 3, .ref a2, .ref a4, .ref a5, .ref a7, .ref a8, .ref a10])) := same_new hlz
    have flz : (upd G91 lz (.lst [.non, .ref t1, .str "1 2", .int 3, .ref a2, .ref a4, .ref a5, .ref a7, .ref a8, .ref a10])) lz = some (.lst [.non, .ref t1, .str "1 2", .int 3, .ref a2, .ref a4, .ref a5, .ref a7, .ref a8, .ref a10]) := upd_same
    have D92 := D91.trans (Dr.ofSame D91.well S92)
    have el1 := S92 _ _ el1
    have ft1 := S92 _ _ ft1
    have fa1 := S92 _ _ fa1
    have fa2 := S92 _ _ fa2
    have fa3 := S92 _ _ fa3
    have fa4 := S92 _ _ fa4
    have fa5 := S92 _ _ fa5
    have fa6 := S92 _ _ fa6
    have fa7 := S92 _ _ fa7
    have fa8 := S92 _ _ fa8
    have fa9 := S92 _ _ fa9
    have fa10 := S92 _ _ fa10
    generalize upd G91 lz (.lst [.non, .ref t1, .str "1 2", .int 3, .ref a2, .ref a4, .ref a5, .ref a7, .ref a8, .ref a10]) = G92 at S92 flz D92 el1 ft1 fa1 fa2 fa3 fa4 fa5 fa6 fa7 fa8 fa9 fa10  
    refine ⟨wl, lz, _, rfl, nlz, D92.well.same (Same.refl _), SqL.of flz, by simp, by show 10 < 1000000; decide, fun odd G93 hodd E93 => ?_⟩
    have D93 := D92.trans E93
    have el1 := E93.but _ _ nl1 el1
    have ft1 := E93.but _ _ nt1 ft1
    have fa2 := E93.but _ _ na2 fa2
    have fa4 := E93.but _ _ na4 fa4
    have fa5 := E93.but _ _ na5 fa5
    have fa7 := E93.but _ _ na7 fa7
    have fa8 := E93.but _ _ na8 fa8
    have fa9 := E93.but _ _ na9 fa9
    have fa10 := E93.but _ _ na10 fa10
    refine gn_norm (σ' := [some (.ref wl), some (.ref l1), some (.ref l2), none, some (.str (lagsS ns)), some due, some (.str u), t7, t8, some odd, none]) rfl ?_
    refine ⟨_, rfl, _, rfl, _, rfl, (by show 1 ≤ sizeLine; decide), fun b1 hb1 => ?_⟩
    have nb1 : b1 ≠ wl := (D93.well.ne hb1).symm
    have S94 : Same G93 (upd G93 b1 (.tup [.str (lagsS ns)])) := same_new hb1
    have fb1 : (upd G93 b1 (.tup [.str (lagsS ns)])) b1 = some (.tup [.str (lagsS ns)]) := upd_same
    have D94 := D93.trans (Dr.ofSame D93.well S94)
    have el1 := S94 _ _ el1
    have ft1 := S94 _ _ ft1
    have fa2 := S94 _ _ fa2
    have fa4 := S94 _ _ fa4
    have fa5 := S94 _ _ fa5
    have fa7 := S94 _ _ fa7
    have fa8 := S94 _ _ fa8
    have fa9 := S94 _ _ fa9
    have fa10 := S94 _ _ fa10
    generalize upd G93 b1 (.tup [.str (lagsS ns)]) = G94 at S94 fb1 D94 el1 ft1 fa2 fa4 fa5 fa7 fa8 fa9 fa10  
    intro b2 hb2
    have nb2 : b2 ≠ wl := (D94.well.ne hb2).symm
    have S95 : Same G94 (upd G94 b2 (.dK [])) := same_new hb2
    have fb2 : (upd G94 b2 (.dK [])) b2 = some (.dK []) := upd_same
    have D95 := D94.trans (Dr.ofSame D94.well S95)
    have el1 := S95 _ _ el1
    have ft1 := S95 _ _ ft1
    have fa2 := S95 _ _ fa2
    have fa4 := S95 _ _ fa4
    have fa5 := S95 _ _ fa5
    have fa7 := S95 _ _ fa7
    have fa8 := S95 _ _ fa8
    have fa9 := S95 _ _ fa9
    have fa10 := S95 _ _ fa10
    have fb1 := S95 _ _ fb1
    generalize upd G94 b2 (.dK []) = G95 at S95 fb2 D95 el1 ft1 fa2 fa4 fa5 fa7 fa8 fa9 fa10 fb1  
    refine ⟨(by show 6 ≤ sizeLine; decide), fun ly hly => ?_⟩
    have nly : ly ≠ wl := (D95.well.ne hly).symm
    have S96 : Same G95 (upd G95 ly (.lst [.non, .int 3, .ref l1, .ref b1, .bl true, .ref b2])) := same_new hly
    have fly : (upd G95 ly (.lst [.non, .int 3, .ref l1, .ref b1, .bl true, .ref b2])) ly = some (.lst [.non, .int 3, .ref l1, .ref b1, .bl true, .ref b2]) := upd_same
    have D96 := D95.trans (Dr.ofSame D95.well S96)
    have el1 := S96 _ _ el1
    have ft1 := S96 _ _ ft1
    have fa2 := S96 _ _ fa2
    have fa4 := S96 _ _ fa4
    have fa5 := S96 _ _ fa5
    have fa7 := S96 _ _ fa7
    have fa8 := S96 _ _ fa8
    have fa9 := S96 _ _ fa9
    have fa10 := S96 _ _ fa10
    have fb1 := S96 _ _ fb1
    have fb2 := S96 _ _ fb2
    generalize upd G95 ly (.lst [.non, .int 3, .ref l1, .ref b1, .bl true, .ref b2]) = G96 at S96 fly D96 el1 ft1 fa2 fa4 fa5 fa7 fa8 fa9 fa10 fb1 fb2  
    refine ⟨wl, ly, _, rfl, nly, D96.well.same (Same.refl _), SqL.of fly, by simp, by show 6 < 1000000; decide, fun bad G97 hbad E97 => ?_⟩
    have D97 := D96.trans E97
    have el1 := E97.but _ _ nl1 el1
    have ft1 := E97.but _ _ nt1 ft1
    have fa2 := E97.but _ _ na2 fa2
    have fa4 := E97.but _ _ na4 fa4
    have fa5 := E97.but _ _ na5 fa5
    have fa7 := E97.but _ _ na7 fa7
    have fa8 := E97.but _ _ na8 fa8
    have fa9 := E97.but _ _ na9 fa9
    have fa10 := E97.but _ _ na10 fa10
    have fb1 := E97.but _ _ nb1 fb1
    have fb2 := E97.but _ _ nb2 fb2
    refine gn_norm (σ' := [some (.ref wl), some (.ref l1), some (.ref l2), none, some (.str (lagsS ns)), some due, some (.str u), t7, t8, some odd, some bad]) rfl ?_
    have no : NoWh K G97 odd := by
      simp only [List.mem_cons, List.not_mem_nil, or_false] at hodd
      rcases hodd with rfl | rfl | rfl | rfl | rfl | rfl | rfl | rfl | rfl | rfl
      · exact .inl ⟨_, .base .non, by decide +kernel⟩
      · exact .inl ⟨_, ty_tup (.inl (.inl ft1)), by decide +kernel⟩
      · exact .inl ⟨_, .base (.str _), by decide +kernel⟩
      · exact .inl ⟨_, .base (.int _), by decide +kernel⟩
      · exact .inr ⟨a2, _, _, rfl, fa2, fun H' s => (whs_ints ns).snoc (wh_bl true), by rw [List.all_append]; exact Bool.and_false _, by rw [List.length_append, List.length_map]; show ns.length + 1 ≤ 5000; omega⟩
      · exact .inr ⟨a4, _, _, rfl, fa4, fun H' s => All2.cons wh_non (whs_ints ns), rfl, by rw [List.length_cons, List.length_map]; omega⟩
      · exact .inr ⟨a5, _, [false], rfl, fa5, fun H' s => All2.cons wh_str All2.nil, rfl, by decide⟩
      · exact .inr ⟨a7, _, _, rfl, fa7, fun H' s => (whs_ints ns).snoc (wh_bl false), by rw [List.all_append]; exact Bool.and_false _, by rw [List.length_append, List.length_map]; show ns.length + 1 ≤ 5000; omega⟩
      · exact .inl ⟨_, .base (.dK fa8), by decide +kernel⟩
      · exact .inr ⟨a10, _, [false], rfl, fa10, fun H' s => All2.cons (wh_lst (s _ _ fa9)) All2.nil, rfl, by decide⟩
    have nb : ∀ H', Same G97 H' → NoStr K H' bad := by
      intro H' s
      simp only [List.mem_cons, List.not_mem_nil, or_false] at hbad
      rcases hbad with rfl | rfl | rfl | rfl | rfl | rfl
      · exact ⟨_, .base .non, by decide +kernel⟩
      · exact ⟨_, .base (.int _), by decide +kernel⟩
      · exact ⟨_, ty_lst (SqL.of (s _ _ el1)), by decide +kernel⟩
      · exact ⟨_, ty_tup (.inl (.inl (s _ _ fb1))), by decide +kernel⟩
      · exact ⟨_, .base (.bl _), by decide +kernel⟩
      · exact ⟨_, .base (.dK (s _ _ fb2)), by decide +kernel⟩
    refine ⟨_, rfl, odd, rfl, no, fun H1 s1 => ⟨true, rfl, iteT ?_⟩⟩
    refine ⟨_, rfl, bad, rfl, .inr ⟨nb H1 s1, fun H2 s2 => ⟨rfl, ?_⟩⟩⟩
    rw [decide_eq_true rfl]
    exact q H2 (D97.trans (Dr.ofSame D97.well (s1.trans s2)))
end
end Lag

set_option maxRecDepth 100000
set_option maxHeartbeats 4000000
namespace Lag
open PySem PySem.Spec PyProof.Rows L2
abbrev sLaw : Stmt := topS 25 -- @law
def spLaw (K : PySem.W.Frag) : Sp := fun vs H Q _ => ∃ (a : Addr) (ns : List Int), vs = [.ref a] ∧ SqL K H a (ns.map V.int) ∧ ns.length ≤ 63 ∧ ∀ H', Q (.bl true) H'
theorem mem_cut {xs : List V} {lo hi : Option Int} {v : V} (h : v ∈ cutV xs lo hi) : v ∈ xs := by
  unfold cutV at h
  exact List.mem_of_mem_drop (List.mem_of_mem_take h)
section
variable {P : Program} {w : World} {K : PySem.W.Frag} {mg : Str → Option Value} {base : Heap}
abbrev sOne : Stmt := topS 17 -- @_law_one
theorem scOne : FnScope ["_law_well_here", "_law_some"] ["_law_well_here", "_law_some"] (defScope sOne) := ⟨rfl, rfl, rfl, by decide +kernel, rfl, by decide +kernel, by decide +kernel⟩
theorem ok_one {f fD : Addr} {fd fdD : FuncData} (F : Fun K "_law_one" "_law_one" sOne f fd) (hm : mg "_law_one" = some (.ref f)) (D0 : DDraw P w K mg base fD fdD) (ml : mg "len" = none) : DOne P w K mg base f fd := by
  refine ⟨?_, hm, F.kp, F.binds fun _ _ _ _ _ _ us hl => match us, hl with | [_, _], _ => rfl⟩
  refine F.ok scOne (fun vs H Q E h => ?_) (fun cdv A outer s H vs Q E hr h => ?_)
  · obtain ⟨wl, l, xs, rfl, _⟩ := h
    rfl
  · obtain ⟨wl, l, xs, rfl, hl, hw, hS, h0, hz, q⟩ := h
    refine ⟨_, pss_one (ps_ret (pe_ix ix_list (pv 1) (pe_call D0.ok hr (by rfl) D0.mg D0.kp D0.bd .nil pass0 (pa_cons (pv 0) (pa_cons (pe_callB call_len_seq (by rfl) ml PySem.boot_len (pa_cons (pv 1) pa_nil)) pa_nil))) (fun _ _ => rfl))), ?_⟩
    have hp : 0 < xs.length := by
      cases xs with
      | nil => exact absurd rfl h0
      | cons x r => simp
    refine ⟨_, rfl, _, rfl, _, rfl, l, xs, rfl, .inl hS, wl, _, rfl, by omega, by omega, hw, fun d H' d0 d1 D => ?_⟩
    have hj : d.toNat < xs.length := by omega
    refine ⟨l, xs, d, xs[d.toNat], rfl, rfl, D.but.seq hl hS, at_of (j := d.toNat) (by omega) (List.getElem?_eq_getElem hj), ?_⟩
    exact q _ _ (List.getElem_mem hj) D
theorem scLaw : FnScope ["_law_script", "_law_cell"] ["_law_script"] (defScope sLaw) := ⟨rfl, rfl, rfl, by decide +kernel, rfl, by decide +kernel, by decide +kernel⟩
theorem ok_law {f fC fW fR : Addr} {fd fdC fdW fdR : FuncData} (F : Fun K "law" "law" sLaw f fd) (DC : DCellAt P w K mg base fC fdC) (DW : DWell P w K mg base fW fdW) (DR : DRight P w K mg base fR fdR) : FnOk P w K mg base CX0 12 f fd ["_law_script"] (spLaw K) := by
  refine F.ok scLaw (fun vs H Q E h => ?_) (fun cdv A outer s H vs Q E hr h => ?_)
  · obtain ⟨a, ns, rfl, _⟩ := h
    rfl
  · obtain ⟨a, ns, rfl, hS, hlen, q⟩ := h
    have nd := scLaw.nd
    have hr1 : Room 1 _ := hr.mono (by decide)
    refine ⟨_, pss_cons (ps_for PassesOwn.never rfl (pi_list (pe_op op_cat (pe_lst (pa_cons (pe_call DC.ok hr1 (by rfl) DC.mg DC.kp DC.bd .nil pass0 (pa_cons (pv 0) (pa_cons pe_int pa_nil))) pa_nil)) (pe_slice sl_list (pv 0) (po_some pe_int) (po_some pe_int)))) (pg_name (i := 1) nd rfl (.inl rfl)) <|
        pss_one <| ps_if (pt_not (pt_val (pe_call DR.ok hr (by rfl) DR.mg DR.kp DR.bd .nil pass0 (pa_cons (pe_call DW.ok hr1 (by rfl) DW.mg DW.kp DW.bd .nil pass0 (pa_cons (pv 1) pa_nil)) pa_nil)))) (pss_one (ps_ret pe_bl)) pss_nil) <|
      pss_one (ps_ret pe_bl), ?_⟩
    refine ⟨_, rfl, a, ns, 0, rfl, Int.le_refl 0, hS, fun z => ?_⟩
    refine ⟨(by show 1 ≤ sizeLine; decide), fun l1 hl1 => ?_⟩
    have s1 : Same H (upd H l1 (.lst [.int z])) := same_new hl1
    refine ⟨_, rfl, _, rfl, _, rfl, a, _, rfl, s1.seq hS, fun l2 hl2 => ?_⟩
    have hcl : (cutV (ns.map V.int) (some 1) (some 10)).length ≤ 63 := by
      have := cutV_length (ns.map V.int) (some 1) (some 10)
      rw [List.length_map] at this
      omega
    refine ⟨l1, l2, _, _, rfl, rfl, same_new hl2 _ _ upd_same, upd_same, ?_, fun l3 hl3 => ?_⟩
    · show 1 + _ ≤ sizeLine
      exact Nat.le_of_lt (small1000 (by omega))
    refine ⟨l3, rfl, ⟨_, SqL.of upd_same⟩, for_list (K := K) (a := l3) (xs := [.int z] ++ cutV (ns.map V.int) (some 1) (some 10)) (fun i σ H' => ∃ s1 : Option V, σ = [some (.ref a), s1] ∧ H' l3 = some (.lst ([.int z] ++ cutV (ns.map V.int) (some 1) (some 10))))
      ⟨_, rfl, upd_same⟩ (fun i σ H' _ ⟨_, _, e⟩ => SqL.of e) ?_ ?_⟩
    · rintro i x σ H' hx ⟨s1', rfl, e3⟩
      obtain ⟨c, rfl⟩ : ∃ c, x = V.int c := by
        rcases List.mem_append.mp (List.mem_of_getElem? hx) with hm | hm
        · simp at hm
          exact ⟨z, hm⟩
        · obtain ⟨c, _, rfl⟩ := List.mem_map.mp (mem_cut hm)
          exact ⟨c, rfl⟩
      refine ⟨_, rfl, c, rfl, fun wl H1 hwl sm W => ?_⟩
      refine ⟨wl, rfl, W, fun H2 D => ⟨true, rfl, iteF ⟨_, rfl, ?_⟩⟩⟩
      exact D.but _ _ (ne_of_none e3 hwl) (sm _ _ e3)
    · rintro σ H' ⟨s1', rfl, e3⟩
      exact q H'
end
end Lag

set_option maxRecDepth 100000
set_option maxHeartbeats 8000000
namespace Lag
open PySem PySem.Spec PyProof.Rows L2
theorem exm_of {K : PySem.W.Frag} {S C : Addr} (h1 : PySem.W.subIn K (.ref C) (.type "BaseException") = some true) (h2 : PySem.W.isClsIn K C = true) (h3 : PySem.W.typeIn K (.ref C) = some (.type "type")) (h4 : PySem.W.subIn K (.ref S) (.ref C) = some true) :
    PySem.W.exmOne K (.ref S) (.ref C) = some true := by
  have e1 : (PySem.W.subIn K (.ref C) (.type "BaseException") == some true) = true := by rw [h1] <;> rfl
  have e2 : ((PySem.W.clsIn K C).isSome && PySem.W.typeIn K (.ref C) == some (.type "type")) = true := by
    have h2' : (PySem.W.clsIn K C).isSome = true := h2
    rw [h2', h3] <;> rfl
  show (if (PySem.W.subIn K (.ref C) (.type "BaseException") == some true) = true then (if ((PySem.W.clsIn K C).isSome && PySem.W.typeIn K (.ref C) == some (.type "type")) = true then PySem.W.subIn K (.ref S) (.ref C) else none) else none) = some true
  rw [if_pos e1, if_pos e2]
  exact h4
theorem kit_type {K : PySem.W.Frag} {S : Addr} {T : String} {b : Bool} (h1 : PySem.W.kitMeta T = true) (h2 : PySem.W.subIn K (.ref S) (.type T) = some b) : PySem.W.kitOne K (.ref S) (.type T) = some b := by
  have e0 : ((Value.ref S) == (Value.type T)) = false := rfl
  show (if ((Value.ref S) == (Value.type T)) = true then some true else (if PySem.W.kitMeta T = true then PySem.W.subIn K (.ref S) (.type T) else none)) = some b
  rw [e0, if_neg (by decide), if_pos h1]
  exact h2
theorem kit_not {K : PySem.W.Frag} {S C : Addr} (h2 : PySem.W.isClsIn K C = true) (h3 : PySem.W.typeIn K (.ref C) = some (.type "type")) (h4 : PySem.W.subIn K (.ref S) (.ref S) = some true) (h5 : PySem.W.subIn K (.ref S) (.ref C) = some false) :
    PySem.W.kitOne K (.ref S) (.ref C) = some false := by
  have ne : ¬ (((Value.ref S) == (Value.ref C)) = true) := fun z => by
    have z' : S = C := by
      have z2 := beq_iff_eq.mp z
      cases z2
      rfl
    rw [z'] at h4 h5
    rw [h4] at h5
    cases h5
  have e2 : ((PySem.W.clsIn K C).isSome && PySem.W.typeIn K (.ref C) == some (.type "type")) = true := by
    have h2' : (PySem.W.clsIn K C).isSome = true := h2
    rw [h2', h3] <;> rfl
  show (if ((Value.ref S) == (Value.ref C)) = true then some true else (if ((PySem.W.clsIn K C).isSome && PySem.W.typeIn K (.ref C) == some (.type "type")) = true then PySem.W.subIn K (.ref S) (.ref C) else none)) = some false
  rw [if_neg ne, if_pos e2]
  exact h5
theorem exm_any {K : PySem.W.Frag} {S C : Addr} {b : Bool} (h1 : PySem.W.subIn K (.ref C) (.type "BaseException") = some true) (h2 : PySem.W.isClsIn K C = true) (h3 : PySem.W.typeIn K (.ref C) = some (.type "type")) (h4 : PySem.W.subIn K (.ref S) (.ref C) = some b) :
    PySem.W.exmOne K (.ref S) (.ref C) = some b := by
  have e1 : (PySem.W.subIn K (.ref C) (.type "BaseException") == some true) = true := by rw [h1] <;> rfl
  have e2 : ((PySem.W.clsIn K C).isSome && PySem.W.typeIn K (.ref C) == some (.type "type")) = true := by
    have h2' : (PySem.W.clsIn K C).isSome = true := h2
    rw [h2', h3] <;> rfl
  show (if (PySem.W.subIn K (.ref C) (.type "BaseException") == some true) = true then (if ((PySem.W.clsIn K C).isSome && PySem.W.typeIn K (.ref C) == some (.type "type")) = true then PySem.W.subIn K (.ref S) (.ref C) else none) else none) = some b
  rw [if_pos e1, if_pos e2]
  exact h4
theorem exm_self {K : PySem.W.Frag} {S : Addr} (h1 : PySem.W.subIn K (.ref S) (.type "BaseException") = some true) (h2 : PySem.W.isClsIn K S = true) (h3 : PySem.W.typeIn K (.ref S) = some (.type "type")) (h4 : PySem.W.subIn K (.ref S) (.ref S) = some true) :
    PySem.W.exmOne K (.ref S) (.ref S) = some true := by
  have e1 : (PySem.W.subIn K (.ref S) (.type "BaseException") == some true) = true := by rw [h1] <;> rfl
  have e2 : ((PySem.W.clsIn K S).isSome && PySem.W.typeIn K (.ref S) == some (.type "type")) = true := by
    have h2' : (PySem.W.clsIn K S).isSome = true := h2
    rw [h2', h3] <;> rfl
  show (if (PySem.W.subIn K (.ref S) (.type "BaseException") == some true) = true then (if ((PySem.W.clsIn K S).isSome && PySem.W.typeIn K (.ref S) == some (.type "type")) = true then PySem.W.subIn K (.ref S) (.ref S) else none) else none) = some true
  rw [if_pos e1, if_pos e2]
  exact h4
theorem all_mk {l : PySem.W.OpenLaw} {w : World} {K : PySem.W.Frag} {h : Heap} {mg : Str → Option Value} {fa : Addr} (X : K.In h) (G : h.Ns mainGlobals mg) (hfa : mg "law" = some (.ref fa))
    {C0 CT CL : Addr}
    {fd0 : Addr} {odd0 and0 : Option Addr} {sld0 : Array (Option Value)} {ocd0 kVd0 dcd0 pmd0 cdd0 ctd0 : Value}
    {fd1 : Addr} {odd1 and1 : Option Addr} {sld1 : Array (Option Value)} {ocd1 kVd1 dcd1 pmd1 cdd1 ctd1 : Value}
    {fd2 : Addr} {odd2 and2 : Option Addr} {sld2 : Array (Option Value)} {ocd2 kVd2 dcd2 pmd2 cdd2 ctd2 : Value}
    {fd3 : Addr} {odd3 and3 : Option Addr} {sld3 : Array (Option Value)} {ocd3 kVd3 dcd3 pmd3 cdd3 ctd3 : Value}
    {fd4 : Addr} {odd4 and4 : Option Addr} {sld4 : Array (Option Value)} {ocd4 kVd4 dcd4 pmd4 cdd4 ctd4 : Value}
    {fd5 : Addr} {odd5 and5 : Option Addr} {sld5 : Array (Option Value)} {ocd5 kVd5 dcd5 pmd5 cdd5 ctd5 : Value}
    {fd6 : Addr} {odd6 and6 : Option Addr} {sld6 : Array (Option Value)} {ocd6 kVd6 dcd6 pmd6 cdd6 ctd6 : Value}
    {fd7 : Addr} {odd7 and7 : Option Addr} {sld7 : Array (Option Value)} {ocd7 kVd7 dcd7 pmd7 cdd7 ctd7 : Value}
    {fd8 : Addr} {odd8 and8 : Option Addr} {sld8 : Array (Option Value)} {ocd8 kVd8 dcd8 pmd8 cdd8 ctd8 : Value}
    {fd9 : Addr} {odd9 and9 : Option Addr} {sld9 : Array (Option Value)} {ocd9 kVd9 dcd9 pmd9 cdd9 ctd9 : Value}
    {fd10 : Addr} {odd10 and10 : Option Addr} {sld10 : Array (Option Value)} {ocd10 kVd10 dcd10 pmd10 cdd10 ctd10 : Value}
    {fd11 : Addr} {odd11 and11 : Option Addr} {sld11 : Array (Option Value)} {ocd11 kVd11 dcd11 pmd11 cdd11 ctd11 : Value}
    {fd12 : Addr} {odd12 and12 : Option Addr} {sld12 : Array (Option Value)} {ocd12 kVd12 dcd12 pmd12 cdd12 ctd12 : Value}
    {fd13 : Addr} {odd13 and13 : Option Addr} {sld13 : Array (Option Value)} {ocd13 kVd13 dcd13 pmd13 cdd13 ctd13 : Value}
    {fd14 : Addr} {odd14 and14 : Option Addr} {sld14 : Array (Option Value)} {ocd14 kVd14 dcd14 pmd14 cdd14 ctd14 : Value}
    {fd15 : Addr} {odd15 and15 : Option Addr} {sld15 : Array (Option Value)} {ocd15 kVd15 dcd15 pmd15 cdd15 ctd15 : Value}
    {fd16 : Addr} {odd16 and16 : Option Addr} {sld16 : Array (Option Value)} {ocd16 kVd16 dcd16 pmd16 cdd16 ctd16 : Value}
    {fd17 : Addr} {odd17 and17 : Option Addr} {sld17 : Array (Option Value)} {ocd17 kVd17 dcd17 pmd17 cdd17 ctd17 : Value}
    {tMF : Tok}
    (ad0 : PySem.W.nsIn K mainGlobals "is_whole" = some (some (.ref fd0)))
    (ld0 : K.lookup fd0 = some ⟨ocd0, odd0, .func (PySem.W.fnOf "is_whole" "is_whole" (defArgs sWhole) (defBody sWhole) (defScope sWhole) .none kVd0 dcd0 pmd0 and0 cdd0 ctd0), sld0⟩)
    (cd0 : PySem.W.codeIn K cdd0 "is_whole" = true)
    (kd0 : PySem.W.keepIn K (.ref fd0) = true)
    (ad1 : PySem.W.nsIn K mainGlobals "numbers_text" = some (some (.ref fd1)))
    (ld1 : K.lookup fd1 = some ⟨ocd1, odd1, .func (PySem.W.fnOf "numbers_text" "numbers_text" (defArgs sNumsT) (defBody sNumsT) (defScope sNumsT) .none kVd1 dcd1 pmd1 and1 cdd1 ctd1), sld1⟩)
    (cd1 : PySem.W.codeIn K cdd1 "numbers_text" = true)
    (kd1 : PySem.W.keepIn K (.ref fd1) = true)
    (ad2 : PySem.W.nsIn K mainGlobals "check_text" = some (some (.ref fd2)))
    (ld2 : K.lookup fd2 = some ⟨ocd2, odd2, .func (PySem.W.fnOf "check_text" "check_text" (defArgs sChkText) (defBody sChkText) (defScope sChkText) .none kVd2 dcd2 pmd2 and2 cdd2 ctd2), sld2⟩)
    (cd2 : PySem.W.codeIn K cdd2 "check_text" = true)
    (kd2 : PySem.W.keepIn K (.ref fd2) = true)
    (ad3 : PySem.W.nsIn K mainGlobals "read_number" = some (some (.ref fd3)))
    (ld3 : K.lookup fd3 = some ⟨ocd3, odd3, .func (PySem.W.fnOf "read_number" "read_number" (defArgs sReadNum) (defBody sReadNum) (defScope sReadNum) .none kVd3 dcd3 pmd3 and3 cdd3 ctd3), sld3⟩)
    (cd3 : PySem.W.codeIn K cdd3 "read_number" = true)
    (kd3 : PySem.W.keepIn K (.ref fd3) = true)
    (ad4 : PySem.W.nsIn K mainGlobals "lags_text" = some (some (.ref fd4)))
    (ld4 : K.lookup fd4 = some ⟨ocd4, odd4, .func (PySem.W.fnOf "lags_text" "lags_text" (defArgs sLagsT) (defBody sLagsT) (defScope sLagsT) .none kVd4 dcd4 pmd4 and4 cdd4 ctd4), sld4⟩)
    (cd4 : PySem.W.codeIn K cdd4 "lags_text" = true)
    (kd4 : PySem.W.keepIn K (.ref fd4) = true)
    (ad5 : PySem.W.nsIn K mainGlobals "read_lags" = some (some (.ref fd5)))
    (ld5 : K.lookup fd5 = some ⟨ocd5, odd5, .func (PySem.W.fnOf "read_lags" "read_lags" (defArgs sReadLags) (defBody sReadLags) (defScope sReadLags) .none kVd5 dcd5 pmd5 and5 cdd5 ctd5), sld5⟩)
    (cd5 : PySem.W.codeIn K cdd5 "read_lags" = true)
    (kd5 : PySem.W.keepIn K (.ref fd5) = true)
    (ad6 : PySem.W.nsIn K mainGlobals "_law_cell_at" = some (some (.ref fd6)))
    (ld6 : K.lookup fd6 = some ⟨ocd6, odd6, .func (PySem.W.fnOf "_law_cell_at" "_law_cell_at" (defArgs sCellAt) (defBody sCellAt) (defScope sCellAt) .none kVd6 dcd6 pmd6 and6 cdd6 ctd6), sld6⟩)
    (cd6 : PySem.W.codeIn K cdd6 "_law_cell_at" = true)
    (kd6 : PySem.W.keepIn K (.ref fd6) = true)
    (ad7 : PySem.W.nsIn K mainGlobals "_law_well" = some (some (.ref fd7)))
    (ld7 : K.lookup fd7 = some ⟨ocd7, odd7, .func (PySem.W.fnOf "_law_well" "_law_well" (defArgs sWell) (defBody sWell) (defScope sWell) .none kVd7 dcd7 pmd7 and7 cdd7 ctd7), sld7⟩)
    (cd7 : PySem.W.codeIn K cdd7 "_law_well" = true)
    (kd7 : PySem.W.keepIn K (.ref fd7) = true)
    (ad8 : PySem.W.nsIn K mainGlobals "_law_draw" = some (some (.ref fd8)))
    (ld8 : K.lookup fd8 = some ⟨ocd8, odd8, .func (PySem.W.fnOf "_law_draw" "_law_draw" (defArgs sDraw) (defBody sDraw) (defScope sDraw) .none kVd8 dcd8 pmd8 and8 cdd8 ctd8), sld8⟩)
    (cd8 : PySem.W.codeIn K cdd8 "_law_draw" = true)
    (kd8 : PySem.W.keepIn K (.ref fd8) = true)
    (ad9 : PySem.W.nsIn K mainGlobals "_law_one" = some (some (.ref fd9)))
    (ld9 : K.lookup fd9 = some ⟨ocd9, odd9, .func (PySem.W.fnOf "_law_one" "_law_one" (defArgs sOne) (defBody sOne) (defScope sOne) .none kVd9 dcd9 pmd9 and9 cdd9 ctd9), sld9⟩)
    (cd9 : PySem.W.codeIn K cdd9 "_law_one" = true)
    (kd9 : PySem.W.keepIn K (.ref fd9) = true)
    (ad10 : PySem.W.nsIn K mainGlobals "_law_lags" = some (some (.ref fd10)))
    (ld10 : K.lookup fd10 = some ⟨ocd10, odd10, .func (PySem.W.fnOf "_law_lags" "_law_lags" (defArgs sLLags) (defBody sLLags) (defScope sLLags) .none kVd10 dcd10 pmd10 and10 cdd10 ctd10), sld10⟩)
    (cd10 : PySem.W.codeIn K cdd10 "_law_lags" = true)
    (kd10 : PySem.W.keepIn K (.ref fd10) = true)
    (ad11 : PySem.W.nsIn K mainGlobals "_law_is_number" = some (some (.ref fd11)))
    (ld11 : K.lookup fd11 = some ⟨ocd11, odd11, .func (PySem.W.fnOf "_law_is_number" "_law_is_number" (defArgs sLNum) (defBody sLNum) (defScope sLNum) .none kVd11 dcd11 pmd11 and11 cdd11 ctd11), sld11⟩)
    (cd11 : PySem.W.codeIn K cdd11 "_law_is_number" = true)
    (kd11 : PySem.W.keepIn K (.ref fd11) = true)
    (ad12 : PySem.W.nsIn K mainGlobals "_law_due" = some (some (.ref fd12)))
    (ld12 : K.lookup fd12 = some ⟨ocd12, odd12, .func (PySem.W.fnOf "_law_due" "_law_due" (defArgs sLDue) (defBody sLDue) (defScope sLDue) .none kVd12 dcd12 pmd12 and12 cdd12 ctd12), sld12⟩)
    (cd12 : PySem.W.codeIn K cdd12 "_law_due" = true)
    (kd12 : PySem.W.keepIn K (.ref fd12) = true)
    (ad13 : PySem.W.nsIn K mainGlobals "_law_spoilt" = some (some (.ref fd13)))
    (ld13 : K.lookup fd13 = some ⟨ocd13, odd13, .func (PySem.W.fnOf "_law_spoilt" "_law_spoilt" (defArgs sSpoilt) (defBody sSpoilt) (defScope sSpoilt) .none kVd13 dcd13 pmd13 and13 cdd13 ctd13), sld13⟩)
    (cd13 : PySem.W.codeIn K cdd13 "_law_spoilt" = true)
    (kd13 : PySem.W.keepIn K (.ref fd13) = true)
    (ad14 : PySem.W.nsIn K mainGlobals "_law_read" = some (some (.ref fd14)))
    (ld14 : K.lookup fd14 = some ⟨ocd14, odd14, .func (PySem.W.fnOf "_law_read" "_law_read" (defArgs sLRead) (defBody sLRead) (defScope sLRead) .none kVd14 dcd14 pmd14 and14 cdd14 ctd14), sld14⟩)
    (cd14 : PySem.W.codeIn K cdd14 "_law_read" = true)
    (kd14 : PySem.W.keepIn K (.ref fd14) = true)
    (ad15 : PySem.W.nsIn K mainGlobals "_law_refused" = some (some (.ref fd15)))
    (ld15 : K.lookup fd15 = some ⟨ocd15, odd15, .func (PySem.W.fnOf "_law_refused" "_law_refused" (defArgs sLRef) (defBody sLRef) (defScope sLRef) .none kVd15 dcd15 pmd15 and15 cdd15 ctd15), sld15⟩)
    (cd15 : PySem.W.codeIn K cdd15 "_law_refused" = true)
    (kd15 : PySem.W.keepIn K (.ref fd15) = true)
    (ad16 : PySem.W.nsIn K mainGlobals "_law_right" = some (some (.ref fd16)))
    (ld16 : K.lookup fd16 = some ⟨ocd16, odd16, .func (PySem.W.fnOf "_law_right" "_law_right" (defArgs sRight) (defBody sRight) (defScope sRight) .none kVd16 dcd16 pmd16 and16 cdd16 ctd16), sld16⟩)
    (cd16 : PySem.W.codeIn K cdd16 "_law_right" = true)
    (kd16 : PySem.W.keepIn K (.ref fd16) = true)
    (ad17 : PySem.W.nsIn K mainGlobals "law" = some (some (.ref fd17)))
    (ld17 : K.lookup fd17 = some ⟨ocd17, odd17, .func (PySem.W.fnOf "law" "law" (defArgs sLaw) (defBody sLaw) (defScope sLaw) .none kVd17 dcd17 pmd17 and17 cdd17 ctd17), sld17⟩)
    (cd17 : PySem.W.codeIn K cdd17 "law" = true)
    (kd17 : PySem.W.keepIn K (.ref fd17) = true)
    (aL0 : PySem.W.nsIn K mainGlobals "LagError" = some (some (.ref C0)))
    (aNT : PySem.W.nsIn K mainGlobals "NoText" = some (some (.ref CT)))
    (qNT : PySem.W.excIn K CT [.type "ValueError", .type "Exception", .type "BaseException", .type "object"] "ValueError.__new__" = true)
    (kkNT : PySem.W.keepIn K (.ref CT) = true)
    (eNT : PySem.W.subIn K (.ref CT) (.type "BaseException") = some true)
    (ttNT : PySem.W.typeIn K (.ref CT) = some (.type "type"))
    (ciNT : PySem.W.isClsIn K CT = true)
    (sNT : PySem.W.subIn K (.ref CT) (.ref CT) = some true)
    (aNL : PySem.W.nsIn K mainGlobals "NoLags" = some (some (.ref CL)))
    (qNL : PySem.W.excIn K CL [.type "ValueError", .type "Exception", .type "BaseException", .type "object"] "ValueError.__new__" = true)
    (kkNL : PySem.W.keepIn K (.ref CL) = true)
    (eNL : PySem.W.subIn K (.ref CL) (.type "BaseException") = some true)
    (ttNL : PySem.W.typeIn K (.ref CL) = some (.type "type"))
    (ciNL : PySem.W.isClsIn K CL = true)
    (sNL : PySem.W.subIn K (.ref CL) (.ref CL) = some true)
    (xgNT : PySem.W.findIn K (.ref CT) "__getattribute__" = some (some (.builtin "BaseException.__getattribute__")))
    (xkNT : PySem.W.findIn K (.ref CT) "__getattr__" = some none)
    (xdNT : PySem.W.hasDictIn K CT = true)
    (xaNT : PySem.W.findIn K (.ref CT) "__class__" = some (some (.builtin "object.__class__")))
    (xmNT : PySem.W.mroIn K CT (.type "object") = some true)
    (xgNL : PySem.W.findIn K (.ref CL) "__getattribute__" = some (some (.builtin "BaseException.__getattribute__")))
    (xkNL : PySem.W.findIn K (.ref CL) "__getattr__" = some none)
    (xdNL : PySem.W.hasDictIn K CL = true)
    (xaNL : PySem.W.findIn K (.ref CL) "__class__" = some (some (.builtin "object.__class__")))
    (xmNL : PySem.W.mroIn K CL (.type "object") = some true)
    (vNT : PySem.W.subIn K (.ref CT) (.type "ValueError") = some true)
    (uNTNL : PySem.W.subIn K (.ref CT) (.ref CL) = some false)
    (uNLNT : PySem.W.subIn K (.ref CL) (.ref CT) = some false)
    (xn : PySem.W.specialIn K (.builtin "object.__class__") "__get__" = some (some (.builtin "getset_descriptor.__get__")))
    (xt : PySem.W.takesIn K (.builtin "object.__class__") = some true)
    (zisi : PySem.W.nsIn K mainGlobals "isinstance" = some none)
    (zint : PySem.W.nsIn K mainGlobals "int" = some none)
    (zbool : PySem.W.nsIn K mainGlobals "bool" = some none)
    (zlen : PySem.W.nsIn K mainGlobals "len" = some none)
    (ztuple : PySem.W.nsIn K mainGlobals "tuple" = some none)
    (zstr : PySem.W.nsIn K mainGlobals "str" = some none)
    (zlist : PySem.W.nsIn K mainGlobals "list" = some none)
    (zall : PySem.W.nsIn K mainGlobals "all" = some none)
    (zenum : PySem.W.nsIn K mainGlobals "enumerate" = some none)
    (zzip : PySem.W.nsIn K mainGlobals "zip" = some none)
    (zrange : PySem.W.nsIn K mainGlobals "range" = some none)
    (zmax : PySem.W.nsIn K mainGlobals "max" = some none)
    (zmin : PySem.W.nsIn K mainGlobals "min" = some none)
    (zVE : PySem.W.nsIn K mainGlobals "ValueError" = some none)
    (gMF : PySem.W.nsIn K mainGlobals "MOST_FIGURES" = some (some (.int 60 tMF))) :
    ∃ fd : FuncData, (∀ (s : Shared) (v : Value), BindsTo s fd ⟨[v], []⟩ [("_law_script", v)]) ∧ ∀ base : Heap, K.In base → base.Ns mainGlobals mg → FnOk l.prog w K mg base CX0 12 fa fd ["_law_script"] (spLaw K) := by
  have e := hfa.symm.trans (PySem.W.mg_of X G ad17)
  cases e
  have Fd0 := fun_mk (st := sWhole) ld0 cd0 kd0
  have Fd1 := fun_mk (st := sNumsT) ld1 cd1 kd1
  have Fd2 := fun_mk (st := sChkText) ld2 cd2 kd2
  have Fd3 := fun_mk (st := sReadNum) ld3 cd3 kd3
  have Fd4 := fun_mk (st := sLagsT) ld4 cd4 kd4
  have Fd5 := fun_mk (st := sReadLags) ld5 cd5 kd5
  have Fd6 := fun_mk (st := sCellAt) ld6 cd6 kd6
  have Fd7 := fun_mk (st := sWell) ld7 cd7 kd7
  have Fd8 := fun_mk (st := sDraw) ld8 cd8 kd8
  have Fd9 := fun_mk (st := sOne) ld9 cd9 kd9
  have Fd10 := fun_mk (st := sLLags) ld10 cd10 kd10
  have Fd11 := fun_mk (st := sLNum) ld11 cd11 kd11
  have Fd12 := fun_mk (st := sLDue) ld12 cd12 kd12
  have Fd13 := fun_mk (st := sSpoilt) ld13 cd13 kd13
  have Fd14 := fun_mk (st := sLRead) ld14 cd14 kd14
  have Fd15 := fun_mk (st := sLRef) ld15 cd15 kd15
  have Fd16 := fun_mk (st := sRight) ld16 cd16 kd16
  have Fd17 := fun_mk (st := sLaw) ld17 cd17 kd17
  have B : Bt mg := ⟨PySem.W.mg_none_of X G zisi, PySem.W.mg_none_of X G zint, PySem.W.mg_none_of X G zbool, PySem.W.mg_none_of X G zlen, PySem.W.mg_none_of X G ztuple, PySem.W.mg_none_of X G zstr, PySem.W.mg_none_of X G zlist, PySem.W.mg_none_of X G zall, PySem.W.mg_none_of X G zenum, PySem.W.mg_none_of X G zzip, PySem.W.mg_none_of X G zrange, PySem.W.mg_none_of X G zmax⟩
  have b_min := PySem.W.mg_none_of X G zmin
  have b_VE := PySem.W.mg_none_of X G zVE
  have i_MF : ∃ t, mg "MOST_FIGURES" = some (.int 60 t) := ⟨_, PySem.W.mg_of X G gMF⟩
  refine ⟨PySem.W.fnOf "law" "law" (defArgs sLaw) (defBody sLaw) (defScope sLaw) .none kVd17 dcd17 pmd17 and17 cdd17 ctd17, fun s v => .of_eq rfl, fun base _ _ => ?_⟩
  have bd1 := Fd1.binds (ps := ["numbers"]) fun _ _ _ _ _ _ us hl => match us, hl with | [_], _ => rfl
  have bd2 := Fd2.binds (ps := ["text"]) fun _ _ _ _ _ _ us hl => match us, hl with | [_], _ => rfl
  have bd3 := Fd3.binds (ps := ["word"]) fun _ _ _ _ _ _ us hl => match us, hl with | [_], _ => rfl
  have bd4 := Fd4.binds (ps := ["lags"]) fun _ _ _ _ _ _ us hl => match us, hl with | [_], _ => rfl
  have bd5 := Fd5.binds (ps := ["text"]) fun _ _ _ _ _ _ us hl => match us, hl with | [_], _ => rfl
  have bd10 := Fd10.binds (ps := ["_law_well_here"]) fun _ _ _ _ _ _ us hl => match us, hl with | [_], _ => rfl
  have bd11 := Fd11.binds (ps := ["_law_word"]) fun _ _ _ _ _ _ us hl => match us, hl with | [_], _ => rfl
  have bd12 := Fd12.binds (ps := ["_law_text"]) fun _ _ _ _ _ _ us hl => match us, hl with | [_], _ => rfl
  have bd13 := Fd13.binds (ps := ["_law_well_here", "_law_text"]) fun _ _ _ _ _ _ us hl => match us, hl with | [_, _], _ => rfl
  have bd14 := Fd14.binds (ps := ["_law_text"]) fun _ _ _ _ _ _ us hl => match us, hl with | [_], _ => rfl
  have bd15 := Fd15.binds (ps := ["_law_thing"]) fun _ _ _ _ _ _ us hl => match us, hl with | [_], _ => rfl
  have NT : PEx K mg "NoText" CT := ⟨PySem.W.mg_of X G aNT, qNT, kkNT, eNT, ttNT, exm_self eNT ciNT ttNT sNT⟩
  have NL : PEx K mg "NoLags" CL := ⟨PySem.W.mg_of X G aNL, qNL, kkNL, eNL, ttNL, exm_self eNL ciNL ttNL sNL⟩
  have R : RdC K mg C0 CT CL := ⟨PySem.W.mg_of X G aL0, PySem.W.mg_of X G aNT, PySem.W.mg_of X G aNL, B.isi, b_VE, NT.te, NL.te, kit_type (by decide +kernel) vNT, (kit_not ciNL ttNL sNT uNTNL), (kit_not ciNT ttNT sNL uNLNT), ⟨xgNT, xkNT, eNT, xdNT, xaNT, xn, xt, xmNT⟩, ⟨xgNL, xkNL, eNL, xdNL, xaNL, xn, xt, xmNL⟩⟩
  have whole := ok_whole (P := l.prog) (w := w) (base := base) Fd0 (PySem.W.mg_of X G ad0) B
  have whT := ok_wholeT (P := l.prog) (w := w) (base := base) Fd0 B
  have nt_ := ok_numsZ (P := l.prog) (w := w) (base := base) Fd1 B
  have ct_ := ok_chkTextS (P := l.prog) (w := w) (base := base) Fd2 B
  have ctN := ok_chkTextN (P := l.prog) (w := w) (base := base) Fd2 B NT
  have rn_ := ok_readNumX (P := l.prog) (w := w) (base := base) Fd3 B i_MF NT
  have lt_ := ok_lagsZ (P := l.prog) (w := w) (base := base) Fd4 B whole (PySem.W.mg_of X G ad1) kd1 bd1 nt_
  have ltN := ok_lagsTN (P := l.prog) (w := w) (base := base) Fd4 B NL whole whT (PySem.W.mg_of X G ad1) kd1 bd1 nt_
  have rl_ := ok_readLagsX (P := l.prog) (w := w) (base := base) Fd5 B NT (PySem.W.mg_of X G ad2) kd2 bd2 ct_ (PySem.W.mg_of X G ad3) kd3 bd3 rn_ (PySem.W.mg_of X G ad4) kd4 bd4 lt_
  have rlN := ok_readLagsN (P := l.prog) (w := w) (base := base) Fd5 B NT (PySem.W.mg_of X G ad2) kd2 bd2 ctN (PySem.W.mg_of X G ad3) kd3 bd3 rn_ (PySem.W.mg_of X G ad4) kd4 bd4 lt_
  have ca := ok_cellAt (P := l.prog) (w := w) (base := base) Fd6 (PySem.W.mg_of X G ad6) B.len
  have we := ok_well (P := l.prog) (w := w) (base := base) Fd7 (PySem.W.mg_of X G ad7) B.int
  have dr := ok_draw (P := l.prog) (w := w) (base := base) Fd8 (PySem.W.mg_of X G ad8)
  have drG := ok_drawG (P := l.prog) (w := w) (base := base) (mg := mg) Fd8
  have on := ok_one (P := l.prog) (w := w) (base := base) Fd9 (PySem.W.mg_of X G ad9) dr B.len
  have lg_ := ok_llags (P := l.prog) (w := w) (base := base) Fd10 B b_min dr drG on
  have in_ := ok_lnumW (P := l.prog) (w := w) (base := base) Fd11 B
  have du_ := ok_ldueW (P := l.prog) (w := w) (base := base) Fd12 B (PySem.W.mg_of X G ad11) kd11 bd11 in_
  have sp_ := ok_spoilt (P := l.prog) (w := w) (base := base) Fd13 B dr on
  have rd_ := ok_lread (P := l.prog) (w := w) (base := base) Fd14 B R (PySem.W.mg_of X G ad5) kd5 bd5 (fn_both rl_ rlN)
  have rf_ := ok_lref (P := l.prog) (w := w) (base := base) Fd15 B R (PySem.W.mg_of X G ad4) kd4 bd4 ltN
  have ri := ok_right (P := l.prog) (w := w) (base := base) Fd16 (PySem.W.mg_of X G ad16) B on (PySem.W.mg_of X G ad10) kd10 bd10 lg_ (PySem.W.mg_of X G ad4) kd4 bd4 lt_ (PySem.W.mg_of X G ad5) kd5 bd5 rl_ (PySem.W.mg_of X G ad13) kd13 bd13 sp_ (PySem.W.mg_of X G ad12) kd12 bd12 (due_one du_) (PySem.W.mg_of X G ad14) kd14 bd14 rd_ (PySem.W.mg_of X G ad15) kd15 bd15 rf_
  exact ok_law Fd17 ca we ri
end Lag

set_option maxRecDepth 100000
open PySem PySem.W PyProof.Rows
set_option maxRecDepth 100000 in
set_option maxHeartbeats 0 in
theorem PySem.Challenge.cw_lagshift_k97_lags_as_texts_holds : PySem.Challenge.rw_lagshift_k97_lags_as_texts.Holds := by
  w_on; o_law; k_head; (case hw => w_witness2)
  k_fill
  refine L2.walk_of (l := PySem.Challenge.rw_lagshift_k97_lags_as_texts) (n := 63) (k := 12) (x := "_law_script") (CX := fun _ => L2.CX0) (sp := fun w => Lag.spLaw _) rfl (by decide) rfl ⟨rfl, by decide, by decide⟩ (fun w h Y => PySem.W.kIn_of Y) ?F (fun _ _ a ns hl _ hS => ⟨a, ns, rfl, hS, hl, fun _ => rfl⟩) (fun _ _ _ _ _ h => h)
  case F =>
    intro w mg fa h KX G hmg
    refine' Lag.all_mk KX G hmg ?ad0 ?ld0 ?cd0 ?kd0 ?ad1 ?ld1 ?cd1 ?kd1 ?ad2 ?ld2 ?cd2 ?kd2 ?ad3 ?ld3 ?cd3 ?kd3 ?ad4 ?ld4 ?cd4 ?kd4 ?ad5 ?ld5 ?cd5 ?kd5 ?ad6 ?ld6 ?cd6 ?kd6 ?ad7 ?ld7 ?cd7 ?kd7 ?ad8 ?ld8 ?cd8 ?kd8 ?ad9 ?ld9 ?cd9 ?kd9 ?ad10 ?ld10 ?cd10 ?kd10 ?ad11 ?ld11 ?cd11 ?kd11 ?ad12 ?ld12 ?cd12 ?kd12 ?ad13 ?ld13 ?cd13 ?kd13 ?ad14 ?ld14 ?cd14 ?kd14 ?ad15 ?ld15 ?cd15 ?kd15 ?ad16 ?ld16 ?cd16 ?kd16 ?ad17 ?ld17 ?cd17 ?kd17 ?aL0 ?aNT ?qNT ?kkNT ?eNT ?ttNT ?ciNT ?sNT ?aNL ?qNL ?kkNL ?eNL ?ttNL ?ciNL ?sNL ?xgNT ?xkNT ?xdNT ?xaNT ?xmNT ?xgNL ?xkNL ?xdNL ?xaNL ?xmNL ?vNT ?uNTNL ?uNLNT ?xn ?xt ?zisi ?zint ?zbool ?zlen ?ztuple ?zstr ?zlist ?zall ?zenum ?zzip ?zrange ?zmax ?zmin ?zVE ?gMF
    (case ad0 => k_is)
    (case ld0 => k_is)
    (case cd0 => k_is)
    (case kd0 => k_is)
    (case ad1 => k_is)
    (case ld1 => k_is)
    (case cd1 => k_is)
    (case kd1 => k_is)
    (case ad2 => k_is)
    (case ld2 => k_is)
    (case cd2 => k_is)
    (case kd2 => k_is)
    (case ad3 => k_is)
    (case ld3 => k_is)
    (case cd3 => k_is)
    (case kd3 => k_is)
    (case ad4 => k_is)
    (case ld4 => k_is)
    (case cd4 => k_is)
    (case kd4 => k_is)
    (case ad5 => k_is)
    (case ld5 => k_is)
    (case cd5 => k_is)
    (case kd5 => k_is)
    (case ad6 => k_is)
    (case ld6 => k_is)
    (case cd6 => k_is)
    (case kd6 => k_is)
    (case ad7 => k_is)
    (case ld7 => k_is)
    (case cd7 => k_is)
    (case kd7 => k_is)
    (case ad8 => k_is)
    (case ld8 => k_is)
    (case cd8 => k_is)
    (case kd8 => k_is)
    (case ad9 => k_is)
    (case ld9 => k_is)
    (case cd9 => k_is)
    (case kd9 => k_is)
    (case ad10 => k_is)
    (case ld10 => k_is)
    (case cd10 => k_is)
    (case kd10 => k_is)
    (case ad11 => k_is)
    (case ld11 => k_is)
    (case cd11 => k_is)
    (case kd11 => k_is)
    (case ad12 => k_is)
    (case ld12 => k_is)
    (case cd12 => k_is)
    (case kd12 => k_is)
    (case ad13 => k_is)
    (case ld13 => k_is)
    (case cd13 => k_is)
    (case kd13 => k_is)
    (case ad14 => k_is)
    (case ld14 => k_is)
    (case cd14 => k_is)
    (case kd14 => k_is)
    (case ad15 => k_is)
    (case ld15 => k_is)
    (case cd15 => k_is)
    (case kd15 => k_is)
    (case ad16 => k_is)
    (case ld16 => k_is)
    (case cd16 => k_is)
    (case kd16 => k_is)
    (case ad17 => k_is)
    (case ld17 => k_is)
    (case cd17 => k_is)
    (case kd17 => k_is)
    (case aL0 => k_is)
    (case aNT => k_is)
    (case qNT => k_exc)
    (case kkNT => k_is)
    (case eNT => k_is)
    (case ttNT => k_is)
    (case ciNT => k_is)
    (case sNT => first | rfl | k_is)
    (case aNL => k_is)
    (case qNL => k_exc)
    (case kkNL => k_is)
    (case eNL => k_is)
    (case ttNL => k_is)
    (case ciNL => k_is)
    (case sNL => first | rfl | k_is)
    (case xgNT => k_is)
    (case xkNT => k_is)
    (case xdNT => k_is)
    (case xaNT => k_is)
    (case xmNT => k_is)
    (case xgNL => k_is)
    (case xkNL => k_is)
    (case xdNL => k_is)
    (case xaNL => k_is)
    (case xmNL => k_is)
    (case vNT => k_is)
    (case uNTNL => k_is)
    (case uNLNT => k_is)
    (case xn => k_is)
    (case xt => k_is)
    (case zisi => k_is)
    (case zint => k_is)
    (case zbool => k_is)
    (case zlen => k_is)
    (case ztuple => k_is)
    (case zstr => k_is)
    (case zlist => k_is)
    (case zall => k_is)
    (case zenum => k_is)
    (case zzip => k_is)
    (case zrange => k_is)
    (case zmax => k_is)
    (case zmin => k_is)
    (case zVE => k_is)
    (case gMF => k_is)

